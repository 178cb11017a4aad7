/-
  Texts that lean on one another, one behind the other: each opens with its own remark.
-/
import Derived.Deep.MidRow
import Derived.Laws.CopyRow
import Derived.WalkSpells
import Derived.Laws.CopyOwn
import Derived.Deep.QuietTactic
import Derived.BigQuiet
import Derived.Deep.RegionHeld3
import Derived.Test.YtfeghhgniahfkaaProg
import Derived.Test.YtfeghhgniahfkaaK00

/-
  Package store's places: 256 bytes by value; the contracts of bytes, placeOf, laidOver.
-/
namespace Go.Proofs.Ytfeghhgniahfkaa
open Go.RowKit
set_option linter.unusedVariables false

/-- A place's cells. -/
def plA (bs : List UInt8) : Array Value := (toV bs).toArray
theorem plA_size (bs : List UInt8) : (plA bs).size = bs.length := by simp [plA, toV]
theorem plA_one (bs : List UInt8) : (plA bs).all (·.oneCell') = true := all_oneCell_toArray (toV_one bs)
theorem infoPl : (Try.prog.info? 70).map (·.size) = some 256 := by kernel_rfl
theorem infoSe : (Try.prog.info? 68).map (·.size) = some 128 := by kernel_rfl
theorem infoPl' (bs : List UInt8) (h : bs.length = 256) : (Try.prog.info? 70).map (·.size) = some (plA bs).size := by rw [plA_size, h]; exact infoPl
theorem infoSe' (bs : List UInt8) (h : bs.length = 128) : (Try.prog.info? 68).map (·.size) = some (plA bs).size := by rw [plA_size, h]; exact infoSe

/-- An element of an array that is a value, where it has cells of its own. -/
theorem run_index_part {P : Program} (w : World) (t e : TypeId) (n sz j : Nat) (d : TypeDesc) (cs : Array Value) (hu : P.underlying t = some (.array n e)) (he : P.underlying e = some d) (hd : d.isRow = true) (hi : (P.info? e).map (·.size) = some sz) (hj : j < n) :
    (Instr.index t (.agg cs) (.int .i64 (j : Int))).run P w = .ok (.agg (cs.extract (j * sz) (j * sz + sz))) w := by
  cases hq : P.info? e with
  | none => simp [hq] at hi
  | some i =>
    have hs : i.size = sz := by simpa [hq] using hi
    have hagg : (isAgg e).run P w = .ok true w := by
      unfold isAgg
      rw [Sem.run_bind, run_underlying he w]
      cases d <;> simp_all
    simp [Instr.index, asIntOf, Sem.run_bind, run_underlying hu w, hj, part, hagg, sizeOf, typeInfo, hq, hs, Result.andThen]
theorem plA_part (bs : List UInt8) (i j : Nat) : (plA bs).extract i (i + j) = plA ((bs.drop i).take j) := by
  apply Array.ext'
  simp [plA, toV, List.map_drop, List.map_take]
theorem wpList_index_part {P : Program} {ops : Array Oper} {rest : List Oper} {o : Oper} {a : Act} {w : World} {Q : Exit → Act → World → Prop} (hw : Region.wanted o (yielded ops a.tmps) = true) (t : TypeId) (x y : Operand) (ho : o.op = .index t x y)
    (e : TypeId) (n sz j : Nat) (d : TypeDesc) (cs : Array Value) (hx : a.eval x = .agg cs) (hy : a.eval y = .int .i64 (j : Int)) (hu : P.underlying t = some (.array n e)) (he : P.underlying e = some d) (hd : d.isRow = true) (hi : (P.info? e).map (·.size) = some sz) (hj : j < n)
    (h : wpList P ops Q rest (a.put o.dst (.agg (cs.extract (j * sz) (j * sz + sz)))) w) : wpList P ops Q (o :: rest) a w :=
  wpList_step fun K hK => by
    simp only [hw, if_true]
    unfold Oper.wp execOp
    simp only [ho, hx, hy, Sem.run_bind, run_index_part w t e n sz j d cs hu he hd hi hj, Result.andThen_ok, Sem.run_pure]
    exact hK _ _ h

theorem take_more8 (bs : List UInt8) (j : Nat) : bs.take (128 * j) ++ (bs.drop (j * 128)).take 128 = bs.take (128 * (j + 1)) := by
  rw [show 128 * (j + 1) = 128 * j + 128 by omega, List.take_add, show j * 128 = 128 * j by omega]

set_option maxRecDepth 4000 in
set_option maxHeartbeats 400000 in
theorem bytes10 (bs : List UInt8) (w : World) (hl : bs.length = 256) :
    Calls Try.prog 33 #[.agg (plA bs)] w fun e w' => ∃ v, e = .returned v ∧ w'.ownsRow w.heap.size 5 1 v 256 (toV bs) ∧ Below w.heap.size w w' := by
  have hP := RowAt.new w 70 (plA bs)
  have hb0 : Below w.heap.size w (w.alloc (.cells (plA bs) 70)) := (Below.refl _ _).alloc (Nat.le_refl _) _
  have HP := hide (And.intro hP hb0)
  clear hP hb0
  have HI := hide (infoPl' bs hl)
  go_enter Try.func33, Try.ntmps33
  have hmk : ∀ w : World, (Instr.makeSlice 61 (.int .i64 0) (.int .i64 256)).run Try.prog w = .ok (.slice (some ⟨w.heap.size, 0, none⟩) 0 256) (w.alloc (.cells (zrow 256).toArray 5)) := fun w => by
    simpa using run_mk (P := Try.prog) 61 5 Try.underlying61 info8 0 256 (by omega) w
  have hO : ((w.alloc (.cells (plA bs) 70)).alloc (.cells (zrow 256).toArray 5)).ownsRow w.heap.size 5 1 (.slice (some ⟨w.heap.size + 1, 0, none⟩) 0 256) 0 (toV (bs.take (128 * 0))) := by
    have h1 := World.ownsRow_made (e := 5) (size := 1) (w.alloc (.cells (plA bs) 70)) (zrow 256).toArray 256 (Nat.le_refl _) (by unfold maxLen; omega) (by rw [List.size_toArray, zrow_length])
    have h2 := ownsRow_down h1 (show w.heap.size ≤ (w.alloc (.cells (plA bs) 70)).heap.size by simp)
    simpa [toV] using h2
  have hb1 := HP.out.2.alloc (show w.heap.size ≤ (w.alloc (.cells (plA bs) 70)).heap.size by simp) (.cells (zrow 256).toArray 5)
  have hP1 := HP.out.1.later ((Below.refl _ _).alloc (Nat.le_refl _) (.cells (zrow 256).toArray 5))
  have H1 := hide (And.intro hO (And.intro hb1 hP1))
  clear hO hb1 hP1 HP
  go_wp2_with (refine wpList_load_at rfl 70 _ rfl w.heap.size rfl (plA bs) H1.out.2.2 _ Try.underlying70 rfl HI.out ?_)
  clear hmk
  go_loopw [3, 8] (fun b i wr => ∃ j : Nat, j ≤ 2 ∧ i = .int .i64 j ∧ wr.ownsRow w.heap.size 5 1 b (128 * j) (toV (bs.take (128 * j))) ∧ Below w.heap.size w wr) (fun _ i _ => 2 - (intOf i).toNat)
  case atStart => exact ⟨0, by omega, rfl, H1.out.1, H1.out.2.1⟩
  case round =>
    obtain ⟨j, hj, rfl, ho, hb⟩ := hrel
    have HO := hide ho
    have HB := hide hb
    clear ho hb
    by_cases hlt : j < 2
    · have i1 : (j : Int) < 2 := by omega
      have HZ := hide (show ((bs.drop (j * 128)).take 128).length = 128 by rw [List.length_take, List.length_drop]; omega)
      go_wp2_with (first | (refine wpList_index_part rfl 70 _ _ rfl 68 2 128 j _ (plA bs) rfl rfl Try.underlying70 Try.underlying68 rfl infoSe hlt ?_; rw [plA_part]) | (refine wpList_store_at rfl 68 _ _ rfl wr.heap.size _ (plA ((bs.drop (j * 128)).take 128)) rfl rfl (heap_alloc_new wr _) (infoSe' _ HZ.out) (by rw [plA_size, HZ.out]; rfl) (plA_one _) ?_))
      intro w6 hP6 hk _
      have hb6 := hk _ _ (HB.out.alloc HB.out.size _) HB.out.size
      have HO6 := hide (show w6.ownsRow w.heap.size 5 1 u3 (128 * j) (toV (bs.take (128 * j))) from ownsRow_below HO.out (hk _ _ ((Below.refl _ _).alloc (Nat.le_refl _) _) (Nat.le_refl _)))
      have HB6 := hide hb6
      have HY := hide (show IsB w6 (some ⟨wr.heap.size, 0, none⟩) 128 ((bs.drop (j * 128)).take 128) from ⟨HZ.out, fun _ => ⟨_, _, rfl, hP6.lt, fun k hk => by
        rw [hP6.cell (0 + k) _ (by rw [Nat.zero_add, plA, List.getElem?_toArray]; exact toV_get _ _ (by rw [HZ.out]; exact hk))]⟩⟩)
      clear hP6 hk hb6 HO HB
      go_wp2_with (at_builtin; refine wpList_append_ob _ rfl _ _ 61 rfl 5 Try.underlying61 info8 w.heap.size _ (128 * j) _ rfl HO6.out _ 128 _ _ rfl HY.out (fun h => nomatch h) (by omega) HB6.out.size ?_)
      intro v7 w7 hown7 hg7
      have d7 := HB6.out.grown hg7 HB6.out.size (fun k hk => (HO6.out.lt k hk).1)
      rw [take_more8] at hown7
      have HO7 := hide hown7
      clear hown7 hg7 HO6 HB6 HY
      go_wp2
      go_roundw
      case rel => exact ⟨j + 1, by omega, by go_num, HO7.out, d7⟩
      case measure => simp [intOf]; omega
    · obtain rfl : j = 2 := by omega
      have ho := HO.out
      rw [List.take_of_length_le (by omega)] at ho
      have HO2 := hide ho
      clear ho HO
      go_wp2
      go_ret
      exact ⟨_, rfl, HO2.out, HB.out⟩

/-- What lies in the variable behind so many rounds. -/
def partZ (bs : List UInt8) (j : Nat) : List UInt8 := bs.take (128 * j) ++ List.replicate (256 - 128 * j) 0
theorem partZ_length (bs : List UInt8) (j : Nat) (hl : bs.length = 256) (hj : j ≤ 2) : (partZ bs j).length = 256 := by
  unfold partZ
  rw [List.length_append, List.length_take, List.length_replicate]
  omega
theorem partZ_more (bs : List UInt8) (j : Nat) (hl : bs.length = 256) (hj : j < 2) :
    (toV (partZ bs j)).take (j * 128) ++ toV ((bs.drop (j * 128)).take 128) ++ (toV (partZ bs j)).drop (j * 128 + 128) = toV (partZ bs (j + 1)) := by
  have e1 : (toV (partZ bs j)).take (j * 128) = toV (bs.take (128 * j)) := by
    unfold partZ
    rw [toV_append, List.take_left' (by rw [toV_length, List.length_take]; omega)]
  have e2 : (toV (partZ bs j)).drop (j * 128 + 128) = toV (List.replicate (256 - 128 * (j + 1)) 0) := by
    unfold partZ
    rw [toV_append, ← List.drop_drop, List.drop_left' (by rw [toV_length, List.length_take]; omega)]
    unfold toV
    rw [← List.map_drop, List.drop_replicate]
    congr 2
  rw [e1, e2, ← toV_append, take_more8, ← toV_append]
  rfl

theorem zero10 : Try.zeroCells70 = (zrow 256).toArray := by kernel_rfl
theorem zeroPl (bs : List UInt8) : Try.zeroCells70 = plA (partZ bs 0) := by
  unfold plA partZ
  rw [List.take_zero, List.nil_append, ← toV_zeros, zero10]

set_option maxRecDepth 4000 in
set_option maxHeartbeats 800000 in
theorem placeOf10 (g off cap : Nat) (bs : List UInt8) (w : World) (hB : IsB w (some ⟨g, off, none⟩) 256 bs) (hcap : 256 ≤ cap) :
    Calls Try.prog 26 #[.slice (some ⟨g, off, none⟩) 256 cap] w fun e w' => e = .returned (.agg (plA bs)) ∧ Below w.heap.size w w' := by
  have hl := hB.1
  obtain ⟨Z, hZ⟩ : ∃ Z, Z = Try.zeroCells70 := ⟨_, rfl⟩
  have H0 : Hid (RowAt ((w.alloc (.cells Z 70)).alloc (.cells Z 70)) (w.heap.size + 1) 70 (plA (partZ bs 0)) ∧ RowAt ((w.alloc (.cells Z 70)).alloc (.cells Z 70)) w.heap.size 70 Z ∧ Below w.heap.size w ((w.alloc (.cells Z 70)).alloc (.cells Z 70))) := by
    refine ⟨?_, (RowAt.new w 70 _).later ((Below.refl _ _).alloc (Nat.le_refl _) _), ((Below.refl _ _).alloc (Nat.le_refl _) _).alloc (by simp) _⟩
    have := RowAt.new (w.alloc (.cells Z 70)) 70 Z
    rw [← zeroPl bs, ← hZ]
    simpa using this
  have hZs : Z.size = 256 := by rw [hZ, zero10, List.size_toArray, zrow_length]
  have HB := hide hB
  clear hB
  go_enter Try.func26, Try.ntmps26
  go_wp2_with fail
  rw [← hZ]
  have HZ := hide (And.intro hZ hZs)
  clear hZ hZs
  refine gen_wp (fun x => Hid (RowAt x (w.heap.size + 1) 70 (plA (partZ bs 0)) ∧ RowAt x w.heap.size 70 Z ∧ Below w.heap.size w x)) H0 ?_
  clear H0
  intro w0 H0
  go_loopw [5] (fun i wr => ∃ j : Nat, j ≤ 2 ∧ i = .int .i64 j ∧ RowAt wr (w.heap.size + 1) 70 (plA (partZ bs j)) ∧ RowAt wr w.heap.size 70 Z ∧ Below w.heap.size w wr) (fun i _ => 2 - (intOf i).toNat)
  case atStart => exact ⟨0, by omega, rfl, H0.out⟩
  case round =>
    obtain ⟨j, hj, rfl, hr⟩ := hrel
    have HR := hide hr
    clear hr H0
    by_cases hlt : j < 2
    · have i1 : (j : Int) < 2 := by omega
      obtain ⟨m, hm⟩ : ∃ m, m = j * 128 := ⟨_, rfl⟩
      have i2 : (m : Int) ≤ 256 := by omega
      have i3 : ¬ cap = m := by omega
      have i5 : IntKind.i64.wrap ((j : Int) * 128) = (m : Int) := by rw [IntKind.wrap_i64]; omega
      have i4 : ¬ (j : Int) < 0 := by omega
      have hlq : ((bs.drop (j * 128)).take 128).length = 128 := by rw [List.length_take, List.length_drop]; omega
      obtain ⟨w2, q5, q6, q7, q8⟩ : ∃ w2, (Builtin.copy_ #[61, 61] 3 #[.slice (some ⟨w.heap.size + 1, j * 128, none⟩) 128 128, .slice (some ⟨g, off + m, none⟩) (256 - m) (cap - m)]).run Try.prog wr.drew = .ok (.int .i64 128) w2 ∧ RowAt w2 (w.heap.size + 1) 70 (plA (partZ bs (j + 1))) ∧ RowAt w2 w.heap.size 70 Z ∧ Below w.heap.size w w2 := by
        subst hm
        obtain ⟨b', o', he', hlt', hcell'⟩ := (HB.out.below HR.out.2.2).2 (by omega)
        cases he'
        have hc := (IsB.cut hl hlt' hcell' (j * 128) 128 (by omega))
        obtain ⟨b2, o2, he2, hlt2, hc2⟩ := hc.2 (by omega)
        cases he2
        have r1 := run_copy_row Try.prog wr.drew 61 61 3 5 (w.heap.size + 1) (j * 128) 128 128 ⟨g, off + j * 128, none⟩ (256 - j * 128) (cap - j * 128) (plA (partZ bs j)) 70 (toV ((bs.drop (j * 128)).take 128)) Try.underlying61 (by kernel_rfl) HR.out.1 (by rw [toV_length, hlq]; simp only [Nat.min_def]; split <;> omega) (fun k v hv => by
          obtain ⟨h1, rfl⟩ := toV_some _ k v hv
          rw [Addr.add_lit]
          exact hc2 k (by omega)) (by rw [toV_length, hlq, plA_size, partZ_length bs j hl hj]; omega) (toV_one _)
        rw [toV_length, hlq, show (plA (partZ bs j)).toList = toV (partZ bs j) from rfl, partZ_more bs j hl hlt] at r1
        refine ⟨_, r1, setRow_heap wr.drew (w.heap.size + 1) _ _ 70 (0, 0) HR.out.1, (setRow_other wr.drew (w.heap.size + 1) w.heap.size _ (by omega)).trans HR.out.2.1, ?_⟩
        exact below_setRow (show Below w.heap.size w wr.drew from ⟨HR.out.2.2.1, HR.out.2.2.2, HR.out.2.2.3, HR.out.2.2.4, HR.out.2.2.5⟩) (by omega) _
      have HR2 := hide (And.intro q6 (And.intro q7 q8))
      clear q6 q7 q8 HR hm
      go_wp2_with fail
      go_region_law (refine step_copy_run rfl (.tmp 10) (.tmp 14) 61 61 rfl (.slice (some ⟨w.heap.size + 1, j * 128, none⟩) 128 128) (.slice (some ⟨g, off + m, none⟩) (256 - m) (cap - m)) (.int .i64 128) w2 ?h1 ?h2 q5 ?_; (case h1 => simp [Act.eval, Act.put]); (case h2 => simp [Act.eval, Act.put]))
      go_wp2
      go_roundw
      case rel => exact ⟨j + 1, by omega, by go_num, HR2.out⟩
      case measure => simp [intOf]; omega
    · obtain rfl : j = 2 := by omega
      have e2 : partZ bs 2 = bs := by
        unfold partZ
        rw [List.take_of_length_le (by omega)]
        simp
      rw [e2] at HR
      go_wp2_with (first | (refine wpList_load_at rfl 70 _ rfl (w.heap.size + 1) rfl (plA bs) HR.out.1 _ Try.underlying70 rfl (infoPl' bs hl) ?_) | (refine wpList_store_at rfl 70 _ _ rfl w.heap.size Z (plA bs) rfl rfl HR.out.2.1 (infoPl' bs hl) (by rw [plA_size, hl]; exact HZ.out.2) (plA_one _) ?_))
      intro w6 hP6 hk _
      have hb6 := hk _ _ HR.out.2.2 (Nat.le_refl _)
      have HP6 := hide hP6
      clear hP6 hk HR
      go_wp2
      exact bodyPost_ret (res_one rfl _ _ w.heap.size (plA bs) _ rfl HP6.out Try.underlying70 rfl (infoPl' bs hl)) rfl ⟨rfl, hb6⟩
end Go.Proofs.Ytfeghhgniahfkaa

/-
  Parts of a block: an array or a struct loaded out of the middle of a row, and stored into it. Of no program.
-/
namespace Go.Proofs.Ytfeghhgniahfkaa
open Go.RowKit
set_option linter.unusedVariables false

/-- These cells lie in a row from a place on. -/
def Lies (cs : Array Value) (o : Nat) (vs : List Value) : Prop := ∀ j, j < vs.length → cs[o + j]? = vs[j]?
/-- A row with these cells laid into it from a place on. -/
def partA (cs : Array Value) (o : Nat) (vs : List Value) : Array Value := (cs.toList.take o ++ vs ++ cs.toList.drop (o + vs.length)).toArray
theorem partA_size (cs : Array Value) (o : Nat) (vs : List Value) (h : o + vs.length ≤ cs.size) : (partA cs o vs).size = cs.size := by
  unfold partA
  rw [List.size_toArray, List.length_append, List.length_append, List.length_take, List.length_drop, Array.length_toList]
  omega
theorem partA_in (cs : Array Value) (o : Nat) (vs : List Value) (h : o + vs.length ≤ cs.size) (j : Nat) (hj : j < vs.length) : (partA cs o vs)[o + j]? = vs[j]? := by
  unfold partA
  have hl : (cs.toList.take o).length = o := by rw [List.length_take, Array.length_toList]; omega
  rw [List.getElem?_toArray, List.append_assoc, List.getElem?_append_right (by omega), hl, Nat.add_sub_cancel_left, List.getElem?_append_left hj]
theorem partA_out (cs : Array Value) (o : Nat) (vs : List Value) (h : o + vs.length ≤ cs.size) (k : Nat) (hk : k < o ∨ o + vs.length ≤ k) : (partA cs o vs)[k]? = cs[k]? := by
  unfold partA
  have hl : (cs.toList.take o).length = o := by rw [List.length_take, Array.length_toList]; omega
  rw [List.getElem?_toArray, List.append_assoc]
  rcases hk with hk | hk
  · rw [List.getElem?_append_left (by omega), List.getElem?_take_of_lt hk, Array.getElem?_toList]
  · rw [List.getElem?_append_right (by omega), List.getElem?_append_right (by omega), hl, List.getElem?_drop, ← Array.getElem?_toList]
    congr 1
    omega
theorem Lies.same (cs : Array Value) (o : Nat) (vs : List Value) (h : o + vs.length ≤ cs.size) : Lies (partA cs o vs) o vs := fun j hj => partA_in cs o vs h j hj
theorem Lies.apart {cs : Array Value} {o' : Nat} {us : List Value} (h : Lies cs o' us) (o : Nat) (vs : List Value) (hf : o + vs.length ≤ cs.size) (ha : o' + us.length ≤ o ∨ o + vs.length ≤ o') : Lies (partA cs o vs) o' us := fun j hj => by
  rw [partA_out cs o vs hf (o' + j) (by omega)]
  exact h j hj
theorem Lies.set {cs : Array Value} {o : Nat} {us : List Value} (h : Lies cs o us) (k : Nat) (v : Value) (ha : k < o ∨ o + us.length ≤ k) : Lies (cs.setIfInBounds k v) o us := fun j hj => by
  rw [Array.getElem?_setIfInBounds_ne (by omega)]
  exact h j hj
theorem Lies.ext {cs : Array Value} {o : Nat} {vs : List Value} (h : Lies cs o vs) (n : Nat) (hn : vs.length = n) (hf : o + n ≤ cs.size) : cs.extract o (o + n) = vs.toArray := by
  subst hn
  apply Array.ext'
  apply List.ext_getElem?
  intro j
  by_cases hj : j < vs.length
  · have h1 := h j hj
    rw [Array.getElem?_toList, Array.getElem?_extract, if_pos (by omega), h1]
  · rw [List.getElem?_eq_none (by rw [Array.length_toList, Array.size_extract]; omega), List.getElem?_eq_none (by simpa using hj)]
theorem Lies.left {cs : Array Value} {o : Nat} {us vs : List Value} (h : Lies cs o (us ++ vs)) : Lies cs o us := fun j hj => by
  rw [h j (by rw [List.length_append]; omega), List.getElem?_append_left hj]
theorem Lies.cell {cs : Array Value} {o : Nat} {vs : List Value} (h : Lies cs o vs) (j : Nat) (v : Value) (hv : vs[j]? = some v) : cs[o + j]? = some v := by
  rw [h j (List.getElem?_eq_some_iff.1 hv).1, hv]

section
variable {P : Program} {ops : Array Oper} {rest : List Oper} {o : Oper} {a : Act} {w : World} {Q : Exit → Act → World → Prop}

theorem load_part (w : World) (t ty : TypeId) (g off n : Nat) (cs : Array Value) (hg : RowAt w g t cs) (d : TypeDesc) (hu : P.underlying ty = some d) (hd : d.isRow = true) (hi : (P.info? ty).map (·.size) = some n) (hf : off + n ≤ cs.size) :
    (Instr.loadAt ty (.pointer (some ⟨g, off, none⟩))).run P w = .ok (.agg (cs.extract off (off + n))) w := by
  have h1 := run_loadAt_mid (P := P) w g off ty (cs.extract off (off + n)).toList d (World.rangeAt_of_block hg off n) hu hd (by rw [Array.length_toList, Array.size_extract, hi]; congr 1; omega)
  rwa [Array.toArray_toList] at h1

theorem wpList_load_part (hw : Region.wanted o (yielded ops a.tmps) = true) (ty : TypeId) (x : Operand) (ho : o.op = .load ty x) (g off n : Nat) (hx : a.eval x = .pointer (some ⟨g, off, none⟩)) (t : TypeId) (cs : Array Value) (hg : RowAt w g t cs) (d : TypeDesc)
    (hu : P.underlying ty = some d) (hd : d.isRow = true) (hi : (P.info? ty).map (·.size) = some n) (hf : off + n ≤ cs.size) (v : Array Value) (hv : cs.extract off (off + n) = v) (h : wpList P ops Q rest (a.put o.dst (.agg v)) w) : wpList P ops Q (o :: rest) a w :=
  wpList_step fun K hK => by
    simp only [hw, if_true]
    unfold Oper.wp execOp
    simp only [ho, hx, Sem.run_bind, load_part w t ty g off n cs hg d hu hd hi hf, Result.andThen_ok, Sem.run_pure]
    rw [hv]
    exact hK _ _ h

/-- A load that may be taken first, by what it answers. -/
theorem yieldsIf_load_run {S : World → Prop} (hw : Region.wanted o (yielded ops a.tmps) = true) (ty : TypeId) (x : Operand) (ho : o.op = .load ty x) (u : Value) (hu : a.eval x = u) (v : Value) (hv : ∀ y, S y → (Instr.loadAt ty u).run P y = .ok v y) : YieldsIf P ops S o v a :=
  .inl ⟨hw, fun y hy => by
    unfold execOp
    simp only [ho, hu, Sem.run_bind, hv y hy, Result.andThen_ok, Sem.run_pure]⟩
/-- A call as one step of a region that draws its order. -/
theorem step_call10 {K : Act → World → Prop} {E : Prop} (hg : o.guard = none) (f : FuncId) (args : Array Value) (he : (execOp a.eval o).run P w = .ok (.enter f args) w)
    (hc : Calls P f args w fun e w' => ∃ v, e = .returned v ∧ K (a.put o.dst v) w') : if Region.wanted o (yielded ops a.tmps) = true then Oper.wp P o a w K Q else E := by
  have hw : Region.wanted o (yielded ops a.tmps) = true := by simp [Region.wanted, hg]
  rw [if_pos hw]
  unfold Oper.wp
  rw [he, Oper.upon_enter]
  refine hc.mono ?_
  rintro e w' ⟨v, rfl, h⟩
  exact h

theorem store_part (w : World) (t ty : TypeId) (g off : Nat) (c0 cs : Array Value) (hg : RowAt w g t c0) (hi : (P.info? ty).map (·.size) = some cs.size) (hf : off + cs.size ≤ c0.size) (h1 : cs.all (·.oneCell') = true) :
    (Instr.storeAt ty (.pointer (some ⟨g, off, none⟩)) (.agg cs)).run P w = .ok () (w.setRow g (partA c0 off cs.toList)) := by
  have hs := run_storeCells_at P g off t cs.toList 0 c0 w hg (by rw [Array.length_toList]; omega) (fun v hv => (Array.all_eq_true_iff_forall_mem.1 h1) v (by simpa using hv))
  have hsv : (storeVar ty ⟨g, off, none⟩ (.agg cs)).run P w = .ok () (w.setRow g (partA c0 off cs.toList)) := by
    cases hq : P.info? ty with
    | none => simp [hq] at hi
    | some i =>
      have hz : cs.size = i.size := by simp [hq] at hi; omega
      simp only [Nat.add_zero] at hs
      simp [storeVar, sizeOf, typeInfo, hq, Value.cells, hz, hs, partA]
  simp only [Instr.storeAt, Instr.sureAddr, Sem.run_bind, Sem.run_pure, Result.andThen_ok, hsv]

/-- Only one block was turned. -/
structure Only (g : Nat) (w w' : World) : Prop where
  os : w'.os = w.os
  tape : w'.tape = w.tape
  output : w'.output = w.output
  size : w.heap.size = w'.heap.size
  block : ∀ k, k ≠ g → w'.heap[k]? = w.heap[k]?
theorem only_setRow (w : World) (g : Nat) (cs : Array Value) : Only g w (w.setRow g cs) := ⟨rfl, rfl, rfl, by simp [World.setRow], fun k hk => setRow_other w g k _ hk⟩
theorem Only.below {g B : Nat} {w0 w w' : World} (p : Only g w w') (h : Below B w0 w) (hB : B ≤ g) : Below B w0 w' :=
  ⟨p.os.trans h.1, p.tape.trans h.2, p.output.trans h.3, Nat.le_trans h.4 (Nat.le_of_eq p.size), fun k hk => (p.block k (by omega)).trans (h.5 k hk)⟩
theorem Only.row {g k : Nat} {w w' : World} {t : TypeId} {cs : Array Value} (p : Only g w w') (h : RowAt w k t cs) (hk : k ≠ g) : RowAt w' k t cs := (p.block k hk).trans h

theorem wpList_store_part (hgd : o.guard = none) (ty : TypeId) (x y : Operand) (ho : o.op = .store ty x y) (g off : Nat) (t : TypeId) (c0 cs : Array Value) (hx : a.eval x = .pointer (some ⟨g, off, none⟩)) (hy : a.eval y = .agg cs) (hg : RowAt w g t c0)
    (hi : (P.info? ty).map (·.size) = some cs.size) (hf : off + cs.size ≤ c0.size) (h1 : cs.all (·.oneCell') = true)
    (h : ∀ w2, RowAt w2 g t (partA c0 off cs.toList) → Only g w w2 → wpList P ops Q rest (a.put o.dst undef) w2) : wpList P ops Q (o :: rest) a w :=
  wpList_plain hgd fun K hK => by
    unfold Oper.wp execOp
    simp only [ho, hx, hy, Sem.run_bind, store_part w t ty g off c0 cs hg hi hf h1, Result.andThen_ok, Sem.run_pure]
    exact hK _ _ (h _ (setRow_heap w g c0 _ t (0, 0) hg) (only_setRow w g _))

variable {K : Act → World → Prop} {E : Prop}
/-- .. as one step of a region that draws its order. -/
theorem step_store_part (hgd : o.guard = none) (ty : TypeId) (x y : Operand) (ho : o.op = .store ty x y) (g off : Nat) (t : TypeId) (c0 cs : Array Value) (hx : a.eval x = .pointer (some ⟨g, off, none⟩)) (hy : a.eval y = .agg cs) (hg : RowAt w g t c0)
    (hi : (P.info? ty).map (·.size) = some cs.size) (hf : off + cs.size ≤ c0.size) (h1 : cs.all (·.oneCell') = true)
    (h : ∀ w2, RowAt w2 g t (partA c0 off cs.toList) → Only g w w2 → K (a.put o.dst undef) w2) : if Region.wanted o (yielded ops a.tmps) = true then Oper.wp P o a w K Q else E := by
  have hw : Region.wanted o (yielded ops a.tmps) = true := by simp [Region.wanted, hgd]
  rw [if_pos hw]
  unfold Oper.wp execOp
  simp only [ho, hx, hy, Sem.run_bind, store_part w t ty g off c0 cs hg hi hf h1, Result.andThen_ok, Sem.run_pure]
  exact h _ (setRow_heap w g c0 _ t (0, 0) hg) (only_setRow w g _)
theorem step_load_part (hw : Region.wanted o (yielded ops a.tmps) = true) (ty : TypeId) (x : Operand) (ho : o.op = .load ty x) (g off n : Nat) (hx : a.eval x = .pointer (some ⟨g, off, none⟩)) (t : TypeId) (cs : Array Value) (hg : RowAt w g t cs) (d : TypeDesc)
    (hu : P.underlying ty = some d) (hd : d.isRow = true) (hi : (P.info? ty).map (·.size) = some n) (hf : off + n ≤ cs.size) (v : Array Value) (hv : cs.extract off (off + n) = v) (h : K (a.put o.dst (.agg v)) w) : if Region.wanted o (yielded ops a.tmps) = true then Oper.wp P o a w K Q else E := by
  rw [if_pos hw]
  unfold Oper.wp execOp
  simp only [ho, hx, Sem.run_bind, load_part w t ty g off n cs hg d hu hd hi hf, Result.andThen_ok, Sem.run_pure]
  rw [hv]
  exact h
end
end Go.Proofs.Ytfeghhgniahfkaa

/-
  The contract of package store's laidOver.
-/
namespace Go.Proofs.Ytfeghhgniahfkaa
open Go.RowKit
set_option linter.unusedVariables false

/-- What lies in the variable behind so many rounds. -/
def laidJ (u o : List UInt8) (mk j : Nat) : List UInt8 := layB u o (mk % 2 ^ j)

theorem bit10 : ∀ mk : Nat, mk < 16 → ∀ j : Nat, j < 2 → (bits BinOp.and IntKind.i64 ((mk : Int) / 2 ^ j) 1 == 1) = decide (mk / 2 ^ j % 2 = 1) := by decide +kernel
theorem laidJ_length (u o : List UInt8) (mk j : Nat) (hu : u.length = 256) (ho : o.length = 256) : (laidJ u o mk j).length = 256 := layB_length _ _ _ hu ho
theorem laidJ_no (u o : List UInt8) (mk j : Nat) (hj : j < 2) (h : ¬ mk / 2 ^ j % 2 = 1) : laidJ u o mk (j + 1) = laidJ u o mk j := by
  unfold laidJ
  refine layB_mod _ _ _ _ ?_
  rcases (by omega : j = 0 ∨ j = 1) with rfl | rfl <;> simp at h ⊢ <;> omega
theorem plA_sec (o : List UInt8) (ho : o.length = 256) (j : Nat) (hj : j < 2) : (plA o).extract (j * 128) (j * 128 + 128) = plA ((o.drop (j * 128)).take 128) := plA_part _ _ _
theorem laidJ_yes (u o : List UInt8) (mk j : Nat) (hu : u.length = 256) (ho : o.length = 256) (hj : j < 2) (h : mk / 2 ^ j % 2 = 1) : partA (plA (laidJ u o mk j)) (j * 128) (toV ((o.drop (j * 128)).take 128)) = plA (laidJ u o mk (j + 1)) := by
  have hl : (toV ((o.drop (j * 128)).take 128)).length = 128 := by rw [toV_length, List.length_take, List.length_drop]; omega
  unfold partA
  rw [hl, show (plA (laidJ u o mk j)).toList = toV (laidJ u o mk j) from rfl]
  have e : ∀ (l : List UInt8) (k : Nat), (toV l).take k = toV (l.take k) ∧ (toV l).drop k = toV (l.drop k) := fun l k => ⟨by simp [toV, List.map_take], by simp [toV, List.map_drop]⟩
  rw [(e _ _).1, (e _ _).2, ← toV_append, ← toV_append]
  unfold plA
  congr 2
  unfold laidJ
  rcases (by omega : j = 0 ∨ j = 1) with rfl | rfl
  · have h1 : mk % 2 ^ (0 + 1) = 1 := by simpa using h
    rw [h1, layB_zero _ _ _ (by rw [Nat.pow_zero, Nat.mod_one])]
    simp [layB]
  · have l1 := layB_length u o (mk % 2 ^ 1) hu ho
    have t1 := layB_take u o (mk % 2 ^ 1) hu ho
    have d1 : (layB u o (mk % 2 ^ 1)).drop (1 * 128 + 128) = [] := List.drop_of_length_le (by omega)
    have d2 : (o.drop (1 * 128)).take 128 = o.drop 128 := List.take_of_length_le (by rw [List.length_drop]; omega)
    rw [d1, d2, List.append_nil, show 1 * 128 = 128 from rfl, t1]
    have h2 : mk % 2 ^ (1 + 1) / 2 % 2 = 1 := by
      simp at h ⊢
      omega
    have h3 : mk % 2 ^ (1 + 1) % 2 = mk % 2 ^ 1 % 2 := by simp
    unfold layB
    rw [h2, h3, if_pos rfl]

set_option maxRecDepth 4000 in
set_option maxHeartbeats 800000 in
theorem laid10 (u o : List UInt8) (mk : Nat) (w : World) (hu : u.length = 256) (ho : o.length = 256) (hm : mk < 16) :
    Calls Try.prog 34 #[.agg (plA u), .agg (plA o), .int .i64 (mk : Int)] w fun e w' => e = .returned (.agg (plA (layB u o mk))) ∧ Below w.heap.size w w' := by
  obtain ⟨Z, hZ⟩ : ∃ Z, Z = Try.zeroCells70 := ⟨_, rfl⟩
  have hZs : Z.size = 256 := by rw [hZ, zero10, List.size_toArray, zrow_length]
  have H0 : Hid (RowAt (((w.alloc (.cells (plA u) 70)).alloc (.cells (plA o) 70)).alloc (.cells Z 70)) w.heap.size 70 (plA (laidJ u o mk 0)) ∧ RowAt (((w.alloc (.cells (plA u) 70)).alloc (.cells (plA o) 70)).alloc (.cells Z 70)) (w.heap.size + 1) 70 (plA o) ∧ RowAt (((w.alloc (.cells (plA u) 70)).alloc (.cells (plA o) 70)).alloc (.cells Z 70)) (w.heap.size + 1 + 1) 70 Z ∧ Below w.heap.size w (((w.alloc (.cells (plA u) 70)).alloc (.cells (plA o) 70)).alloc (.cells Z 70))) := by
    have e0 : laidJ u o mk 0 = u := layB_zero _ _ _ (by rw [Nat.pow_zero, Nat.mod_one])
    rw [e0]
    have h1 := RowAt.new w 70 (plA u)
    have h2 := RowAt.new (w.alloc (.cells (plA u) 70)) 70 (plA o)
    have h3 := RowAt.new ((w.alloc (.cells (plA u) 70)).alloc (.cells (plA o) 70)) 70 Z
    have b2 : Below (w.alloc (.cells (plA u) 70)).heap.size (w.alloc (.cells (plA u) 70)) ((w.alloc (.cells (plA u) 70)).alloc (.cells (plA o) 70)) := (Below.refl _ _).alloc (Nat.le_refl _) _
    have b3 : Below ((w.alloc (.cells (plA u) 70)).alloc (.cells (plA o) 70)).heap.size ((w.alloc (.cells (plA u) 70)).alloc (.cells (plA o) 70)) (((w.alloc (.cells (plA u) 70)).alloc (.cells (plA o) 70)).alloc (.cells Z 70)) := (Below.refl _ _).alloc (Nat.le_refl _) _
    have h2' := h2.later b3
    have h3' := h3
    simp only [World.size_alloc] at h2' h3'
    exact ⟨(h1.later b2).later b3, h2', h3', (((Below.refl _ _).alloc (Nat.le_refl _) _).alloc (by simp) _).alloc (by simp; omega) _⟩
  go_enter Try.func34, Try.ntmps34
  go_wp2_with fail
  rw [← hZ]
  have HZ := hide (And.intro hZ hZs)
  clear hZ hZs
  refine gen_wp (fun x => Hid (RowAt x w.heap.size 70 (plA (laidJ u o mk 0)) ∧ RowAt x (w.heap.size + 1) 70 (plA o) ∧ RowAt x (w.heap.size + 1 + 1) 70 Z ∧ Below w.heap.size w x)) H0 ?_
  clear H0
  intro w0 H0
  go_loopw [8] (fun i wr => ∃ j : Nat, j ≤ 2 ∧ i = .int .i64 j ∧ RowAt wr w.heap.size 70 (plA (laidJ u o mk j)) ∧ RowAt wr (w.heap.size + 1) 70 (plA o) ∧ RowAt wr (w.heap.size + 1 + 1) 70 Z ∧ Below w.heap.size w wr) (fun i _ => 2 - (intOf i).toNat)
  case atStart => exact ⟨0, by omega, rfl, H0.out⟩
  case round =>
    obtain ⟨j, hj, rfl, hr⟩ := hrel
    have HR := hide hr
    clear hr H0
    by_cases hlt : j < 2
    · have i1 : (j : Int) < 2 := by omega
      have i4 : ¬ (j : Int) < 0 := by omega
      have hB := bit10 mk hm j hlt
      by_cases hbit : mk / 2 ^ j % 2 = 1
      · rw [decide_eq_true hbit] at hB
        have HY := hide (laidJ_yes u o mk j hu ho hlt hbit)
        have hls : ((o.drop (j * 128)).take 128).length = 128 := by rw [List.length_take, List.length_drop]; omega
        have HLS := hide hls
        have HLJ := hide (laidJ_length u o mk j hu ho)
        clear hbit hls
        go_wp2_with (first | (refine wpList_load_part rfl 68 _ rfl (w.heap.size + 1) (j * 128) 128 rfl 70 (plA o) HR.out.2.1 _ Try.underlying68 rfl infoSe (by rw [plA_size, ho]; omega) _ (plA_sec o ho j hlt) ?_) | (refine wpList_store_part rfl 68 _ _ rfl w.heap.size (j * 128) 70 (plA (laidJ u o mk j)) (plA ((o.drop (j * 128)).take 128)) rfl rfl HR.out.1 (infoSe' _ HLS.out) (by rw [plA_size, plA_size, HLS.out, HLJ.out]; omega) (plA_one _) ?_))
        intro w6 h6 h7
        have h8 : RowAt w6 w.heap.size 70 (plA (laidJ u o mk (j + 1))) := by
          rw [← HY.out]
          exact h6
        have HR2 := hide (And.intro h8 (And.intro (h7.row HR.out.2.1 (by omega)) (And.intro (h7.row HR.out.2.2.1 (by omega)) (h7.below HR.out.2.2.2 (Nat.le_refl _)))))
        clear h6 h7 h8 HR HY
        go_wp2
        go_roundw
        case rel => exact ⟨j + 1, by omega, by go_num, HR2.out⟩
        case measure => simp [intOf]; omega
      · rw [decide_eq_false hbit] at hB
        have hr2 := HR.out
        rw [← laidJ_no u o mk j hlt hbit] at hr2
        have HR2 := hide hr2
        clear hbit hr2 HR
        go_wp2
        go_roundw
        case rel => exact ⟨j + 1, by omega, by go_num, HR2.out⟩
        case measure => simp [intOf]; omega
    · obtain rfl : j = 2 := by omega
      have e2 : laidJ u o mk 2 = layB u o mk := layB_mod _ _ _ _ (by rw [show (2 : Nat) ^ 2 = 4 from rfl]; omega)
      rw [e2] at HR
      have hq := layB_length u o mk hu ho
      have HQ := hide hq
      clear hq e2
      obtain ⟨q, hq⟩ : ∃ q, layB u o mk = q := ⟨_, rfl⟩
      rw [hq] at HR HQ
      have HE := hide hq
      clear hq
      go_wp2_with (first | (refine wpList_load_at rfl 70 _ rfl w.heap.size rfl (plA q) HR.out.1 _ Try.underlying70 rfl (infoPl' q HQ.out) ?_) | (refine wpList_store_at rfl 70 _ _ rfl (w.heap.size + 1 + 1) Z (plA q) rfl rfl HR.out.2.2.1 (infoPl' q HQ.out) (by rw [plA_size, HQ.out]; exact HZ.out.2) (plA_one _) ?_))
      intro w6 hP6 hk _
      have hb6 := hk _ _ HR.out.2.2.2 (by omega)
      have HP6 := hide hP6
      clear hP6 hk HR
      go_wp2
      exact bodyPost_ret (res_one rfl _ _ (w.heap.size + 1 + 1) (plA q) _ rfl HP6.out Try.underlying70 rfl (infoPl' q HQ.out)) rfl ⟨by rw [HE.out], hb6⟩
end Go.Proofs.Ytfeghhgniahfkaa

/-
  A tape: its bytes, how many stand fast, its room, how many went. Of no program.
-/
namespace Go.Proofs.Ytfeghhgniahfkaa
open Go.RowKit
set_option linter.unusedVariables false

structure Tp where
  b : ByteArray
  f : Nat
  m : Nat
  s : Nat
/-- What every tape keeps to. -/
structure Tp.ok (t : Tp) : Prop where
  fast : t.f ≤ t.b.size
  few : t.b.size ≤ t.m
  room : t.m ≤ 65536
  went : t.s < 18446744073709551616
def Tp.new (r : Int) : Tp := ⟨⟨#[]⟩, 0, (max 0 (min r 65536)).toNat, 0⟩
def Tp.app (t : Tp) (x : ByteArray) : Tp × Int := if t.m < t.b.size + x.size then (t, 7) else ({ t with b := t.b ++ x }, 0)
def Tp.sync (t : Tp) : Tp := { t with f := t.b.size }
def Tp.cut (t : Tp) (n : Int) : Tp × Int := if n < 0 ∨ (t.f : Int) < n then (t, 1) else (⟨t.b.extract n.toNat t.b.size, t.f - n.toNat, t.m, (t.s + n.toNat) % 18446744073709551616⟩, 0)
def Tp.chop (t : Tp) (n : Int) : Tp × Int := if n < 0 ∨ (t.b.size : Int) < n then (t, 1) else ({ t with b := t.b.extract 0 n.toNat, f := min t.f n.toNat }, 0)
/-- How many of them are left. -/
def Tp.left (t : Tp) (k : Int) : Nat := t.f + (max 0 (min k ((t.b.size : Int) - (t.f : Int)))).toNat
def Tp.crash (t : Tp) (k : Int) : Tp := { t with b := t.b.extract 0 (t.left k), f := t.left k }

theorem Tp.left_le (t : Tp) (h : t.ok) (k : Int) : t.f ≤ t.left k ∧ t.left k ≤ t.b.size := by
  have := h.fast
  unfold Tp.left
  omega
theorem ext_size (b : ByteArray) (i j : Nat) (h : j ≤ b.size) : (b.extract i j).size = j - i := by rw [ByteArray.size_extract]; omega
theorem Tp.new_ok (r : Int) : (Tp.new r).ok := ⟨Nat.le_refl _, Nat.zero_le _, by unfold Tp.new; simp only; omega, by unfold Tp.new; simp only; omega⟩
theorem Tp.app_ok (t : Tp) (h : t.ok) (x : ByteArray) : (t.app x).1.ok := by
  unfold Tp.app
  by_cases g : t.m < t.b.size + x.size
  · rw [if_pos g]
    exact h
  · rw [if_neg g]
    have z : (t.b ++ x).size = t.b.size + x.size := ByteArray.size_append
    exact ⟨by show t.f ≤ (t.b ++ x).size; have := h.fast; omega, by show (t.b ++ x).size ≤ t.m; omega, h.room, h.went⟩
theorem Tp.sync_ok (t : Tp) (h : t.ok) : t.sync.ok := ⟨Nat.le_refl _, h.few, h.room, h.went⟩
theorem Tp.cut_ok (t : Tp) (h : t.ok) (n : Int) : (t.cut n).1.ok := by
  unfold Tp.cut
  by_cases g : n < 0 ∨ (t.f : Int) < n
  · rw [if_pos g]
    exact h
  · rw [if_neg g]
    have z := ext_size t.b n.toNat t.b.size (Nat.le_refl _)
    have := h.fast
    have := h.few
    exact ⟨by show t.f - n.toNat ≤ (t.b.extract n.toNat t.b.size).size; omega, by show (t.b.extract n.toNat t.b.size).size ≤ t.m; omega, h.room, Nat.mod_lt _ (by omega)⟩
theorem Tp.chop_ok (t : Tp) (h : t.ok) (n : Int) : (t.chop n).1.ok := by
  unfold Tp.chop
  by_cases g : n < 0 ∨ (t.b.size : Int) < n
  · rw [if_pos g]
    exact h
  · rw [if_neg g]
    have z := ext_size t.b 0 n.toNat (by omega)
    have := h.few
    exact ⟨by show min t.f n.toNat ≤ (t.b.extract 0 n.toNat).size; omega, by show (t.b.extract 0 n.toNat).size ≤ t.m; omega, h.room, h.went⟩
theorem Tp.crash_ok (t : Tp) (h : t.ok) (k : Int) : (t.crash k).ok := by
  have hl := t.left_le h k
  have z := ext_size t.b 0 (t.left k) hl.2
  have := h.few
  exact ⟨by show t.left k ≤ (t.b.extract 0 (t.left k)).size; omega, by show (t.b.extract 0 (t.left k)).size ≤ t.m; omega, h.room, h.went⟩

/-! ### What a call may turn -/
/-- Only this block, and what is new, was turned. -/
structure But (g : Nat) (w w' : World) : Prop where
  os : w'.os = w.os
  tape : w'.tape = w.tape
  output : w'.output = w.output
  size : w.heap.size ≤ w'.heap.size
  block : ∀ k, k < w.heap.size → k ≠ g → w'.heap[k]? = w.heap[k]?
theorem But.refl (g : Nat) (w : World) : But g w w := ⟨rfl, rfl, rfl, Nat.le_refl _, fun _ _ _ => rfl⟩
theorem But.trans {g : Nat} {w x y : World} (h : But g w x) (k : But g x y) : But g w y :=
  ⟨k.os.trans h.os, k.tape.trans h.tape, k.output.trans h.output, Nat.le_trans h.size k.size, fun i hi hn => (k.block i (Nat.lt_of_lt_of_le hi h.size) hn).trans (h.block i hi hn)⟩
theorem But.set {g : Nat} {w x : World} (h : But g w x) (j : Nat) (v : Value) : But g w (x.setCell ⟨g, j, none⟩ v) :=
  ⟨h.os, h.tape, h.output, Nat.le_trans h.size ((Below.refl 0 x).setCell (Nat.zero_le _) v).size, fun i hi hn => (heap_setCell_other x ⟨g, j, none⟩ i v hn).trans (h.block i hi hn)⟩
theorem But.drew {g : Nat} {w x : World} (h : But g w x) : But g w x.drew := ⟨h.os, h.tape, h.output, h.size, h.block⟩
theorem But.below {g n : Nat} {w x : World} (h : But g w x) (hn : n ≤ g) (hs : n ≤ w.heap.size) : Below n w x :=
  ⟨h.os, h.tape, h.output, h.size, fun i hi => h.block i (by omega) (by omega)⟩
theorem But.row {g k : Nat} {w x : World} {t : TypeId} {cs : Array Value} (h : But g w x) (hr : RowAt w k t cs) (hn : k ≠ g) : RowAt x k t cs := (h.block k hr.lt hn).trans hr
end Go.Proofs.Ytfeghhgniahfkaa

/-
  What a call may turn: the blocks of a thing, and what is new. Of no program.
-/
namespace Go.Proofs.Ytfeghhgniahfkaa
open Go.RowKit
set_option linter.unusedVariables false

/-- One block. -/
def Is (g k : Nat) : Prop := k = g
/-- Only blocks of F, and what is new, was turned. -/
structure Tn (F : Nat → Prop) (w w' : World) : Prop where
  os : w'.os = w.os
  tape : w'.tape = w.tape
  output : w'.output = w.output
  size : w.heap.size ≤ w'.heap.size
  block : ∀ k, k < w.heap.size → ¬ F k → w'.heap[k]? = w.heap[k]?
theorem Tn.refl (F : Nat → Prop) (w : World) : Tn F w w := ⟨rfl, rfl, rfl, Nat.le_refl _, fun _ _ _ => rfl⟩
theorem Tn.trans {F G : Nat → Prop} {w x y : World} (p : Tn F w x) (q : Tn G x y) (h : ∀ k, G k → F k ∨ w.heap.size ≤ k) : Tn F w y :=
  ⟨q.os.trans p.os, q.tape.trans p.tape, q.output.trans p.output, Nat.le_trans p.size q.size, fun k hk hn => (q.block k (Nat.lt_of_lt_of_le hk p.size) (fun hg => by
    rcases h k hg with h1 | h1
    · exact hn h1
    · omega)).trans (p.block k hk hn)⟩
theorem Tn.then {F : Nat → Prop} {w x y : World} (p : Tn F w x) (q : Tn F x y) : Tn F w y := p.trans q (fun k h => .inl h)
theorem Tn.set {F : Nat → Prop} {w x : World} (p : Tn F w x) (g j : Nat) (v : Value) (h : F g) : Tn F w (x.setCell ⟨g, j, none⟩ v) :=
  ⟨p.os, p.tape, p.output, Nat.le_trans p.size ((Below.refl 0 x).setCell (Nat.zero_le _) v).size, fun i hi hn => (heap_setCell_other x ⟨g, j, none⟩ i v (fun e => hn (by rw [e]; exact h))).trans (p.block i hi hn)⟩
theorem Tn.drew {F : Nat → Prop} {w x : World} (p : Tn F w x) : Tn F w x.drew := ⟨p.os, p.tape, p.output, p.size, p.block⟩
theorem Tn.later {F : Nat → Prop} {w x y : World} (p : Tn F w x) (q : Below x.heap.size x y) : Tn F w y :=
  ⟨q.os.trans p.os, q.tape.trans p.tape, q.output.trans p.output, Nat.le_trans p.size q.size, fun i hi hn => (q.block i (Nat.lt_of_lt_of_le hi p.size)).trans (p.block i hi hn)⟩
theorem Tn.of_below {F : Nat → Prop} {w x : World} (q : Below w.heap.size w x) : Tn F w x := (Tn.refl F w).later q
theorem Tn.of_but {F : Nat → Prop} {w x : World} {g : Nat} (q : But g w x) (h : F g) : Tn F w x := ⟨q.os, q.tape, q.output, q.size, fun k hk hn => q.block k hk (fun e => hn (by rw [e]; exact h))⟩
theorem Tn.of_grown {F : Nat → Prop} {w x : World} {row : Option Nat} (q : w.grownBy x row) (h : ∀ k, row = some k → F k) : Tn F w x := ⟨q.os, q.tape, q.output, q.size, fun k hk hn => q.block k hk (fun e => hn (h k e.symm))⟩
theorem Tn.weak {F G : Nat → Prop} {w x : World} (p : Tn F w x) (h : ∀ k, F k → G k) : Tn G w x := ⟨p.os, p.tape, p.output, p.size, fun k hk hn => p.block k hk (fun e => hn (h k e))⟩
theorem Tn.below {F : Nat → Prop} {n : Nat} {w x : World} (p : Tn F w x) (h : ∀ k, F k → n ≤ k) (hs : n ≤ w.heap.size) : Below n w x := ⟨p.os, p.tape, p.output, p.size, fun i hi => p.block i (by omega) (fun hf => by have := h i hf; omega)⟩
theorem Tn.row {F : Nat → Prop} {w x : World} {k : Nat} {t : TypeId} {cs : Array Value} (p : Tn F w x) (hr : RowAt w k t cs) (h : ¬ F k) : RowAt x k t cs := (p.block k hr.lt h).trans hr
theorem row_kind {w : World} {k : Nat} {t u : TypeId} {cs ds : Array Value} (h : RowAt w k t cs) (h2 : RowAt w k u ds) : t = u := by
  have h3 : w.heap[k]? = some (.cells cs t (0, 0)) := h
  have h4 : w.heap[k]? = some (.cells ds u (0, 0)) := h2
  rw [h3] at h4
  injection h4 with h4
  injection h4 with _ h5
end Go.Proofs.Ytfeghhgniahfkaa

/-
  The code's store in memory: its block, and the row of its places.
-/
namespace Go.Proofs.Ytfeghhgniahfkaa
open Go.RowKit
set_option linter.unusedVariables false

/-- An area's cells. -/
def arL (b : List UInt8) (i : Int) (o : Bool) : List Value := toV b ++ [.int .i64 i, .bool o]
theorem arL_length (b : List UInt8) (i : Int) (o : Bool) (h : b.length = 256) : (arL b i o).length = 258 := by
  unfold arL
  rw [List.length_append, toV_length, h]
  rfl
theorem arL_id (b : List UInt8) (i : Int) (o : Bool) (h : b.length = 256) : (arL b i o)[256]? = some (.int .i64 i) := by
  unfold arL
  rw [List.getElem?_append_right (by rw [toV_length]; omega), toV_length, h]
  rfl
theorem arL_out (b : List UInt8) (i : Int) (o : Bool) (h : b.length = 256) : (arL b i o)[257]? = some (.bool o) := by
  unfold arL
  rw [List.getElem?_append_right (by rw [toV_length]; omega), toV_length, h]
  rfl

/-- The store's block. -/
structure SB (cs : Array Value) (gp : Nat) (s : Sc) : Prop where
  size : cs.size = 2065
  sl : cs[0]? = some (.slice (some ⟨gp, 0, none⟩) s.n s.n)
  ar : ∀ m, m < 8 → Lies cs (1 + m * 258) (arL (s.ar m) (s.id m) (s.out m))
/-- The places' row. -/
structure PB (ps : Array Value) (s : Sc) : Prop where
  size : ps.size = s.n * 256
  pl : ∀ i, i < s.n → Lies ps (i * 256) (toV (s.pl i))
structure SV (w : World) (gs gp : Nat) (s : Sc) (cs ps : Array Value) : Prop where
  st : RowAt w gs 75 cs
  sb : SB cs gp s
  pr : RowAt w gp 70 ps
  pb : PB ps s
  wf : s.wf
def SAt (w : World) (gs gp : Nat) (s : Sc) : Prop := ∃ cs ps, SV w gs gp s cs ps

section
variable {w x : World} {gs gp : Nat} {s : Sc} {cs ps : Array Value}
theorem SV.ne (h : SV w gs gp s cs ps) : gs ≠ gp := fun e => by
  have h1 := h.st
  have h2 := h.pr
  rw [e] at h1
  unfold RowAt at h1 h2
  rw [h1] at h2
  injection h2 with h2
  injection h2 with _ h3
  exact absurd h3 (by decide)
theorem SV.keep (h : SV w gs gp s cs ps) (h1 : x.heap[gs]? = w.heap[gs]?) (h2 : x.heap[gp]? = w.heap[gp]?) : SV x gs gp s cs ps := ⟨h1.trans h.st, h.sb, h2.trans h.pr, h.pb, h.wf⟩
theorem SV.later (h : SV w gs gp s cs ps) (hb : Below w.heap.size w x) : SV x gs gp s cs ps := h.keep (hb.block _ h.st.lt) (hb.block _ h.pr.lt)
theorem SV.c0 (h : SV w gs gp s cs ps) : w.cell? ⟨gs, 0, none⟩ = some (.slice (some ⟨gp, 0, none⟩) s.n s.n) := h.st.cell 0 _ h.sb.sl
theorem SV.cid (h : SV w gs gp s cs ps) (m : Nat) (hm : m < 8) : w.cell? ⟨gs, 1 + m * 258 + 256, none⟩ = some (.int .i64 (s.id m)) := h.st.cell _ _ ((h.sb.ar m hm).cell 256 _ (arL_id _ _ _ (h.wf.ar m hm)))
theorem SV.cout (h : SV w gs gp s cs ps) (m : Nat) (hm : m < 8) : w.cell? ⟨gs, 1 + m * 258 + 257, none⟩ = some (.bool (s.out m)) := h.st.cell _ _ ((h.sb.ar m hm).cell 257 _ (arL_out _ _ _ (h.wf.ar m hm)))
theorem PB.ext (h : PB ps s) (hw : s.wf) (i : Nat) (hi : i < s.n) : ps.extract (i * 256) (i * 256 + 256) = plA (s.pl i) ∧ i * 256 + 256 ≤ ps.size := by
  have h2 : i * 256 + 256 ≤ ps.size := by rw [h.size]; omega
  exact ⟨(h.pl i hi).ext 256 (by rw [toV_length]; exact hw.pl i hi) h2, h2⟩
theorem SB.ext (h : SB cs gp s) (hw : s.wf) (m : Nat) (hm : m < 8) : cs.extract (1 + m * 258) (1 + m * 258 + 256) = plA (s.ar m) ∧ 1 + m * 258 + 256 ≤ cs.size := by
  have h2 : 1 + m * 258 + 256 ≤ cs.size := by rw [h.size]; omega
  exact ⟨(Lies.left (h.ar m hm)).ext 256 (by rw [toV_length]; exact hw.ar m hm) h2, h2⟩

/-- A place that is laid anew. -/
theorem PB.put (h : PB ps s) (hw : s.wf) (i : Nat) (hi : i < s.n) (b : List UInt8) (hb : b.length = 256) : PB (partA ps (i * 256) (toV b)) { s with pl := put1 s.pl i b } := by
  have hf : i * 256 + (toV b).length ≤ ps.size := by rw [h.size, toV_length]; omega
  refine ⟨(partA_size _ _ _ hf).trans h.size, fun k hk => ?_⟩
  show Lies _ _ (toV (put1 s.pl i b k))
  by_cases e : k = i
  · subst e
    rw [put1_same]
    exact Lies.same _ _ _ hf
  · rw [put1_other _ _ _ _ e]
    refine (h.pl k hk).apart _ _ hf ?_
    rw [toV_length, toV_length, hb, hw.pl k hk]
    omega
theorem PB.other (h : PB ps s) (t : Sc) (h1 : t.n = s.n) (h2 : t.pl = s.pl) : PB ps t := ⟨by rw [h1]; exact h.size, by rw [h1, h2]; exact h.pl⟩
theorem SB.other (h : SB cs gp s) (t : Sc) (h1 : t.n = s.n) (h2 : t.ar = s.ar) (h3 : t.id = s.id) (h4 : t.out = s.out) : SB cs gp t := ⟨h.size, by rw [h1]; exact h.sl, by rw [h2, h3, h4]; exact h.ar⟩
/-- An area that is laid anew. -/
theorem SB.put (h : SB cs gp s) (hw : s.wf) (m : Nat) (hm : m < 8) (b : List UInt8) (hb : b.length = 256) : SB (partA cs (1 + m * 258) (toV b)) gp { s with ar := put1 s.ar m b } := by
  have hf : 1 + m * 258 + (toV b).length ≤ cs.size := by rw [h.size, toV_length]; omega
  refine ⟨(partA_size _ _ _ hf).trans h.size, ?_, fun k hk => ?_⟩
  · rw [partA_out _ _ _ hf 0 (by omega)]
    exact h.sl
  · show Lies _ _ (arL (put1 s.ar m b k) (s.id k) (s.out k))
    by_cases e : k = m
    · subst e
      rw [put1_same]
      intro j hj
      have hl := arL_length b (s.id k) (s.out k) hb
      by_cases hj2 : j < 256
      · have h1 := Lies.same _ _ _ hf j (by rw [toV_length]; omega)
        rw [h1]
        unfold arL
        rw [List.getElem?_append_left (by rw [toV_length]; omega)]
      · rw [partA_out _ _ _ hf _ (by rw [toV_length]; omega), h.ar k hk j (by rw [arL_length _ _ _ (hw.ar k hk)]; omega)]
        unfold arL
        rw [List.getElem?_append_right (by rw [toV_length, hw.ar k hk]; omega), List.getElem?_append_right (by rw [toV_length]; omega), toV_length, toV_length, hb, hw.ar k hk]
    · rw [put1_other _ _ _ _ e]
      refine (h.ar k hk).apart _ _ hf ?_
      rw [toV_length, arL_length _ _ _ (hw.ar k hk), hb]
      omega
/-- Which page a node was writing; whether it is out. -/
theorem SB.setId (h : SB cs gp s) (hw : s.wf) (m : Nat) (hm : m < 8) (v : Int) : SB (cs.setIfInBounds (1 + m * 258 + 256) (.int .i64 v)) gp { s with id := put1 s.id m v } := by
  refine ⟨by rw [Array.size_setIfInBounds]; exact h.size, ?_, fun k hk => ?_⟩
  · rw [Array.getElem?_setIfInBounds_ne (by omega)]
    exact h.sl
  · show Lies _ _ (arL (s.ar k) (put1 s.id m v k) (s.out k))
    by_cases e : k = m
    · subst e
      rw [put1_same]
      intro j hj
      rw [arL_length _ _ _ (hw.ar k hk)] at hj
      by_cases hj2 : j = 256
      · subst hj2
        rw [arL_id _ _ _ (hw.ar k hk), Array.getElem?_setIfInBounds_self_of_lt (by rw [h.size]; omega)]
      · rw [Array.getElem?_setIfInBounds_ne (by omega), h.ar k hk j (by rw [arL_length _ _ _ (hw.ar k hk)]; exact hj)]
        unfold arL
        by_cases hj3 : j < 256
        · rw [List.getElem?_append_left (by rw [toV_length, hw.ar k hk]; omega), List.getElem?_append_left (by rw [toV_length, hw.ar k hk]; omega)]
        · obtain rfl : j = 257 := by omega
          rw [List.getElem?_append_right (by rw [toV_length, hw.ar k hk]; omega), List.getElem?_append_right (by rw [toV_length, hw.ar k hk]; omega), toV_length, hw.ar k hk]
          rfl
    · rw [put1_other _ _ _ _ e]
      refine (h.ar k hk).set _ _ ?_
      rw [arL_length _ _ _ (hw.ar k hk)]
      omega
theorem SB.setOut (h : SB cs gp s) (hw : s.wf) (m : Nat) (hm : m < 8) (v : Bool) : SB (cs.setIfInBounds (1 + m * 258 + 257) (.bool v)) gp { s with out := put1 s.out m v } := by
  refine ⟨by rw [Array.size_setIfInBounds]; exact h.size, ?_, fun k hk => ?_⟩
  · rw [Array.getElem?_setIfInBounds_ne (by omega)]
    exact h.sl
  · show Lies _ _ (arL (s.ar k) (s.id k) (put1 s.out m v k))
    by_cases e : k = m
    · subst e
      rw [put1_same]
      intro j hj
      rw [arL_length _ _ _ (hw.ar k hk)] at hj
      by_cases hj2 : j = 257
      · subst hj2
        rw [arL_out _ _ _ (hw.ar k hk), Array.getElem?_setIfInBounds_self_of_lt (by rw [h.size]; omega)]
      · rw [Array.getElem?_setIfInBounds_ne (by omega), h.ar k hk j (by rw [arL_length _ _ _ (hw.ar k hk)]; exact hj)]
        unfold arL
        by_cases hj3 : j < 256
        · rw [List.getElem?_append_left (by rw [toV_length, hw.ar k hk]; omega), List.getElem?_append_left (by rw [toV_length, hw.ar k hk]; omega)]
        · obtain rfl : j = 256 := by omega
          rw [List.getElem?_append_right (by rw [toV_length, hw.ar k hk]; omega), List.getElem?_append_right (by rw [toV_length, hw.ar k hk]; omega), toV_length, hw.ar k hk]
          rfl
    · rw [put1_other _ _ _ _ e]
      refine (h.ar k hk).set _ _ ?_
      rw [arL_length _ _ _ (hw.ar k hk)]
      omega
theorem load_whole (x : World) (g : Nat) (b : List UInt8) (hb : b.length = 256) (h : RowAt x g 70 (plA b)) : (Instr.loadAt 70 (.pointer (some ⟨g, 0, none⟩))).run Try.prog x = .ok (.agg (plA b)) x := by
  have h1 := load_part (P := Try.prog) x 70 70 g 0 256 (plA b) h _ Try.underlying70 rfl infoPl (by rw [plA_size, hb]; omega)
  rwa [show (plA b).extract 0 (0 + 256) = plA b from by rw [plA_part, List.drop_zero, List.take_of_length_le (by omega)]] at h1
theorem load_ar (x : World) (h : SV x gs gp s cs ps) (m : Nat) (hm : m < 8) : (Instr.loadAt 70 (.pointer (some ⟨gs, 1 + m * 258, none⟩))).run Try.prog x = .ok (.agg (plA (s.ar m))) x := by
  have h1 := load_part (P := Try.prog) x 75 70 gs (1 + m * 258) 256 cs h.st _ Try.underlying70 rfl infoPl (h.sb.ext h.wf m hm).2
  rwa [(h.sb.ext h.wf m hm).1] at h1
theorem load_pl (x : World) (h : SV x gs gp s cs ps) (i : Nat) (hi : i < s.n) : (Instr.loadAt 70 (.pointer (some ⟨gp, i * 256, none⟩))).run Try.prog x = .ok (.agg (plA (s.pl i))) x := by
  have h1 := load_part (P := Try.prog) x 70 70 gp (i * 256) 256 ps h.pr _ Try.underlying70 rfl infoPl (h.pb.ext h.wf i hi).2
  rwa [(h.pb.ext h.wf i hi).1] at h1
end
theorem SAt.keep {w x : World} {gs gp : Nat} {s : Sc} (h : SAt w gs gp s) (h1 : x.heap[gs]? = w.heap[gs]?) (h2 : x.heap[gp]? = w.heap[gp]?) : SAt x gs gp s := by
  obtain ⟨cs, ps, h⟩ := h
  exact ⟨cs, ps, h.keep h1 h2⟩
theorem SAt.lt {w : World} {gs gp : Nat} {s : Sc} (h : SAt w gs gp s) : gs < w.heap.size ∧ gp < w.heap.size := by
  obtain ⟨cs, ps, h⟩ := h
  exact ⟨h.st.lt, h.pr.lt⟩
theorem SAt.later {w x : World} {gs gp : Nat} {s : Sc} (h : SAt w gs gp s) (hb : Below w.heap.size w x) : SAt x gs gp s := h.keep (hb.block _ h.lt.1) (hb.block _ h.lt.2)
theorem SAt.wf {w : World} {gs gp : Nat} {s : Sc} (h : SAt w gs gp s) : s.wf := by
  obtain ⟨cs, ps, h⟩ := h
  exact h.wf
end Go.Proofs.Ytfeghhgniahfkaa

/-
  The contract of package page's rightID.
-/
namespace Go.Proofs.Ytfeghhgniahfkaa
open Go.RowKit
set_option linter.unusedVariables false

set_option maxRecDepth 4000 in
set_option maxHeartbeats 400000 in
theorem rightID_any (id : Int) (w : World) :
    Calls Try.prog 46 #[.int .i64 id] w fun e w' => e = .returned (.bool (decide (0 ≤ id ∧ id ≤ 31))) ∧ w = w' := by
  by_cases h1 : 0 ≤ id
  · by_cases h2 : id < 32
    · rw [decide_eq_true (show 0 ≤ id ∧ id ≤ 31 by omega)]
      go_enter Try.func46, Try.ntmps46
      go_wp2
      go_ret
      exact ⟨rfl, rfl⟩
    · rw [decide_eq_false (show ¬ (0 ≤ id ∧ id ≤ 31) by omega)]
      go_enter Try.func46, Try.ntmps46
      go_wp2
      go_ret
      exact ⟨rfl, rfl⟩
  · rw [decide_eq_false (show ¬ (0 ≤ id ∧ id ≤ 31) by omega)]
    go_enter Try.func46, Try.ntmps46
    go_wp2
    go_ret
    exact ⟨rfl, rfl⟩
end Go.Proofs.Ytfeghhgniahfkaa

/-
  The contracts of package page's Right and of what it calls.
-/
namespace Go.Proofs.Ytfeghhgniahfkaa
open Go.RowKit
set_option linter.unusedVariables false

set_option maxRecDepth 4000 in
set_option maxHeartbeats 400000 in
theorem rightCell_any (u : Bool) (s : ByteArray) (w : World) :
    Calls Try.prog 65 #[.agg (ceA u s)] w fun e w' => e = .returned (.bool (decide (cellOk u s))) ∧ Below w.heap.size w w' := by
  have hb0 : Below w.heap.size w (w.alloc (.cells (ceA u s) 32)) := (Below.refl _ _).alloc (Nat.le_refl _) _
  have hr := RowAt.new w 32 (ceA u s)
  have c0 := hr.cell 0 (.bool u) rfl
  have c1 := hr.cell 1 (.string s) rfl
  clear hr
  cases u with
  | true =>
    have e : decide (cellOk true s) = decide ((s.size : Int) ≤ 20) := decide_eq_decide.2 ⟨fun h => by have := h.1; omega, fun h => ⟨by omega, by simp⟩⟩
    have HE := hide e
    clear e
    go_enter Try.func65, Try.ntmps65
    go_wp2
    go_ret
    rw [HE.out]
    exact ⟨rfl, hb0⟩
  | false =>
    have e : decide (cellOk false s) = s.toList.isEmpty := by
      rw [Bool.eq_iff_iff, empty_iff, decide_eq_true_eq]
      exact ⟨fun h => h.2 rfl, fun h => ⟨by omega, fun _ => h⟩⟩
    have HE := hide e
    clear e
    go_enter Try.func65, Try.ntmps65
    go_wp2
    go_ret
    rw [HE.out]
    exact ⟨rfl, hb0⟩

/-- The cells' test. -/
abbrev Pg.cellsOk (p : Pg) : Prop := ∀ i, i < 8 → cellOk (p.u i) (p.s i)
theorem cells_no (p : Pg) (j : Nat) (hj : j < 8) (h : ¬ cellOk (p.u j) (p.s j)) : decide p.cellsOk = false := by
  rw [decide_eq_false_iff_not]
  intro hp
  exact h (hp j hj)
theorem cells_more {p : Pg} {j : Nat} (h : ∀ k, k < j → cellOk (p.u k) (p.s k)) (hj : cellOk (p.u j) (p.s j)) : ∀ k, k < j + 1 → cellOk (p.u k) (p.s k) := by
  intro k hk
  by_cases hkj : k = j
  · subst hkj
    exact hj
  · exact h k (by omega)

set_option maxRecDepth 4000 in
set_option maxHeartbeats 400000 in
theorem rightCells_any (p : Pg) (w : World) :
    Calls Try.prog 45 #[.agg (csA p)] w fun e w' => e = .returned (.bool (decide p.cellsOk)) ∧ Below w.heap.size w w' := by
  have hb0 : Below w.heap.size w (w.alloc (.cells (csA p) 33)) := (Below.refl _ _).alloc (Nat.le_refl _) _
  have hr := hide (RowAt.new w 33 (csA p))
  go_enter Try.func45, Try.ntmps45
  go_wp2_with (refine wpList_load_at rfl 33 (.tmp 1) rfl w.heap.size rfl (csA p) hr.out _ Try.underlying33 rfl infoCs ?_)
  go_loopw [6] (fun i wr => ∃ j : Nat, j ≤ 8 ∧ i = .int .i64 j ∧ Below w.heap.size w wr ∧ ∀ k, k < j → cellOk (p.u k) (p.s k)) (fun i _ => 8 - (intOf i).toNat)
  case atStart => exact ⟨0, Nat.zero_le _, rfl, hb0, fun k hk => absurd hk (by omega)⟩
  case round =>
    obtain ⟨j, hj, rfl, hbr, hok⟩ := hrel
    clear hb0 hr
    by_cases hlt : j < 8
    · have R := rightCell_any (p.u j) (p.s j)
      have HK := hide hok
      clear hok
      by_cases hc : cellOk (p.u j) (p.s j)
      · have HR := hide (fun w => (show Calls Try.prog 65 #[.agg (ceA (p.u j) (p.s j))] w fun e w' => e = .returned (.bool true) ∧ Below w.heap.size w w' by have := R w; rwa [decide_eq_true hc] at this))
        have HY := hide (cells_more HK.out hc)
        clear R hc HK
        go_wp2_with (first | (refine wpList_index_cs rfl (.tmp 5) (.tmp 6) rfl p j hlt rfl rfl ?_) | (refine wpList_store_at rfl 32 (.tmp 4) (.tmp 8) rfl wr.heap.size (ceA false ⟨#[]⟩) (ceA (p.u j) (p.s j)) rfl rfl (RowAt.new wr 32 _) infoCe rfl (ceA_one _ _) ?_))
        intro w2 hr2 hk2 _
        have d2 := hk2 _ _ (hbr.alloc hbr.size _) hbr.size
        have HR2 := hide hr2
        clear hr2 hk2 hbr
        go_wp2_with (refine wpList_load_at rfl 32 (.tmp 4) rfl wr.heap.size rfl (ceA (p.u j) (p.s j)) HR2.out _ Try.underlying32 rfl infoCe ?_)
        refine (HR.out _).mono ?_
        rintro e w3 ⟨rfl, hb3⟩
        have d3 := d2.trans (hb3.mono d2.size)
        clear d2 hb3 HR HR2
        go_wp2
        go_roundw
        case rel => exact ⟨j + 1, by omega, by go_num, d3, HY.out⟩
        case measure => simp [intOf]; omega
      · have HR := hide (fun w => (show Calls Try.prog 65 #[.agg (ceA (p.u j) (p.s j))] w fun e w' => e = .returned (.bool false) ∧ Below w.heap.size w w' by have := R w; rwa [decide_eq_false hc] at this))
        have HN := hide (cells_no p j hlt hc)
        clear R hc HK
        go_wp2_with (first | (refine wpList_index_cs rfl (.tmp 5) (.tmp 6) rfl p j hlt rfl rfl ?_) | (refine wpList_store_at rfl 32 (.tmp 4) (.tmp 8) rfl wr.heap.size (ceA false ⟨#[]⟩) (ceA (p.u j) (p.s j)) rfl rfl (RowAt.new wr 32 _) infoCe rfl (ceA_one _ _) ?_))
        intro w2 hr2 hk2 _
        have d2 := hk2 _ _ (hbr.alloc hbr.size _) hbr.size
        have HR2 := hide hr2
        clear hr2 hk2 hbr
        go_wp2_with (refine wpList_load_at rfl 32 (.tmp 4) rfl wr.heap.size rfl (ceA (p.u j) (p.s j)) HR2.out _ Try.underlying32 rfl infoCe ?_)
        refine (HR.out _).mono ?_
        rintro e w3 ⟨rfl, hb3⟩
        have d3 := d2.trans (hb3.mono d2.size)
        clear d2 hb3 HR HR2
        go_wp2
        go_ret
        rw [HN.out]
        exact ⟨rfl, d3⟩
    · obtain rfl : j = 8 := by omega
      have HE := hide (decide_eq_true (show p.cellsOk from hok))
      clear hok
      go_wp2
      go_ret
      rw [HE.out]
      exact ⟨rfl, hbr⟩

set_option maxRecDepth 4000 in
set_option maxHeartbeats 400000 in
theorem right_any (p : Pg) (w : World) :
    Calls Try.prog 22 #[.agg (pgA p)] w fun e w' => e = .returned (.bool (decide p.right)) ∧ Below w.heap.size w w' := by
  have hP : PgAt (w.alloc (.cells (pgA p) 35)) w.heap.size p := heap_alloc_new w _
  have hb0 : Below w.heap.size w (w.alloc (.cells (pgA p) 35)) := (Below.refl _ _).alloc (Nat.le_refl _) _
  have c0 := hP.lsn
  have HP := hide hP
  clear hP
  have e2 : maxP = 4611686018427387904 := rfl
  by_cases h : (p.l : Int) ≤ 4611686018427387904
  · have e : decide p.right = decide p.cellsOk := decide_eq_decide.2 ⟨fun h => h.2, fun g => ⟨by omega, g⟩⟩
    have HR := hide (rightCells_any p)
    rw [e]
    clear e e2
    generalize decide p.cellsOk = r at *
    go_enter Try.func22, Try.ntmps22
    go_wp2_with (refine wpList_load_cs rfl (.tmp 7) rfl w.heap.size rfl p HP.out ?_)
    refine (HR.out _).mono ?_
    rintro e w1 ⟨rfl, hb1⟩
    have d1 := hb0.trans (hb1.mono hb0.size)
    clear hb0 hb1 HR HP c0
    go_wp2
    go_ret
    exact ⟨rfl, d1⟩
  · have e : decide p.right = false := by
      rw [decide_eq_false_iff_not]
      intro h1
      have := h1.1
      omega
    rw [e]
    clear e e2
    have h1 : ((p.l : Int) ≤ 4611686018427387904) = False := by simpa using h
    clear h
    go_enter Try.func22, Try.ntmps22
    go_wp2
    go_ret
    exact ⟨rfl, hb0⟩
end Go.Proofs.Ytfeghhgniahfkaa

/-
  The contracts of package sum.
-/
namespace Go.Proofs.Ytfeghhgniahfkaa
open Go.RowKit
set_option linter.unusedVariables false


theorem sx_yes (q : Nat) (hq : q < 2 ^ 32) (ht : q % 2 = 1) : bits .xor .u32 ((q : Int) / 2) 3988292384 = ((stp q : Nat) : Int) := by
  have e : ((q : Int) / 2) = ((q / 2 : Nat) : Int) := by omega
  have e2 : (3988292384 : Int) = ((3988292384 : Nat) : Int) := rfl
  rw [e, e2, u32_xor_nat (q / 2) 3988292384 (by omega) (by omega), stp, if_pos ht]
  rfl
theorem sx_no (q : Nat) (ht : ¬ q % 2 = 1) : (q : Int) / 2 = ((stp q : Nat) : Int) := by
  rw [stp, if_neg ht]
  omega

theorem sx_and (q : Nat) (hq : q < 2 ^ 32) : bits .and .u32 (q : Int) 1 = ((q % 2 : Nat) : Int) := by
  have e := u32_and_nat q 1 (by omega) (by omega)
  rw [Nat.and_one_is_mod] at e
  exact e
theorem sx_t (q : Nat) (hq : q < 2 ^ 32) (ht : q % 2 = 1) : (bits .and .u32 (q : Int) 1 == 1) = true := by
  rw [sx_and q hq, ht]
  rfl
theorem sx_f (q : Nat) (hq : q < 2 ^ 32) (ht : ¬ q % 2 = 1) : (bits .and .u32 (q : Int) 1 == 1) = false := by
  have h0 : q % 2 = 0 := by omega
  rw [sx_and q hq, h0]
  rfl

set_option maxRecDepth 4000 in
set_option maxHeartbeats 400000 in
theorem shift_at (r c x : Nat) (w : World) (hr : r < 2 ^ 32) (hc : c < 256) (hx : x < 2 ^ 32) (e0 : bits .xor .u32 (r : Int) (c : Int) = ((x : Nat) : Int)) :
    Calls Try.prog 79 #[.int .u32 r, .int .u8 c] w fun e w' => e = .returned (.int .u32 (stps 8 x : Nat)) ∧ w = w' := by
  go_enter Try.func79, Try.ntmps79
  go_wp2
  clear e0
  go_loop [0, 10] (fun q i => ∃ j : Nat, j ≤ 8 ∧ i = .int .i64 j ∧ q = .int .u32 (stps j x : Nat)) (fun _ i => 8 - (intOf i).toNat)
  case atStart => exact ⟨0, Nat.zero_le _, rfl, rfl⟩
  case round =>
    obtain ⟨j, hj, rfl, rfl⟩ := hrel
    by_cases hlt : j < 8
    · have hq := stps_lt j x hx
      have hs := stps_succ j x
      generalize stps j x = q at *
      by_cases ht : q % 2 = 1
      · have h1 := sx_t q hq ht
        go_wp2
        go_round
        case rel => exact ⟨j + 1, by omega, by go_num, by rw [hs]; exact congrArg (Value.int .u32) (sx_yes q hq ht)⟩
        case measure => simp [intOf]; omega
      · have h1 := sx_f q hq ht
        go_wp2
        go_round
        case rel => exact ⟨j + 1, by omega, by go_num, by rw [hs]; exact congrArg (Value.int .u32) (sx_no q ht)⟩
        case measure => simp [intOf]; omega
    · go_wp2
      go_ret
      obtain rfl : j = 8 := by omega
      exact ⟨rfl, rfl⟩

theorem shift_any (r : Nat) (c : UInt8) (w : World) (hr : r < 2 ^ 32) :
    Calls Try.prog 79 #[.int .u32 r, .int .u8 c.toNat] w fun e w' => e = .returned (.int .u32 (byteS r c : Nat)) ∧ w = w' :=
  shift_at r c.toNat (r ^^^ c.toNat) w hr c.toNat_lt (Nat.xor_lt_two_pow hr (u8_lt32 c)) (u32_xor_nat r c.toNat (by omega) (by have := c.toNat_lt; omega))

theorem told_step (q m j x : Nat) (hj : j < 4) (hm : m < 256) (hq : q < 256 ^ j) (hx : x = q + m * 256 ^ j) : bits .or .u32 (q : Int) ((m : Int) * 2 ^ (8 * j) % 4294967296) = ((x : Nat) : Int) := by
  subst hx
  have hp : 256 ^ j * 256 ≤ 4294967296 := by
    have h2 : 256 ^ (j + 1) ≤ 256 ^ 4 := Nat.pow_le_pow_right (by omega) (by omega)
    rw [Nat.pow_succ] at h2
    exact h2
  have e1 : (2 : Int) ^ (8 * j) = ((256 ^ j : Nat) : Int) := by
    rw [Int.pow_mul]
    simp
  have hmx : m * 256 ^ j + 256 ^ j ≤ 4294967296 := by
    have h3 : (m + 1) * 256 ^ j ≤ 256 * 256 ^ j := Nat.mul_le_mul_right _ (by omega)
    rw [Nat.add_mul, Nat.one_mul] at h3
    omega
  have e2 : (m : Int) * 2 ^ (8 * j) % 4294967296 = ((m * 256 ^ j : Nat) : Int) := by
    have e3 : (m : Int) * ((256 ^ j : Nat) : Int) = ((m * 256 ^ j : Nat) : Int) := by rw [Int.natCast_mul]
    rw [e1, e3]
    omega
  have hpw : 256 ^ j = 2 ^ (8 * j) := by rw [Nat.pow_mul]
  rw [e2, u32_or_nat q (m * 256 ^ j) (by omega) (by omega)]
  have e4 : q ||| m * 256 ^ j = q + m * 256 ^ j := by
    rw [Nat.or_comm, hpw, Nat.mul_comm m, ← Nat.two_pow_add_eq_or_of_lt (by rw [← hpw]; exact hq), Nat.add_comm]
  rw [e4]

set_option maxRecDepth 4000 in
set_option maxHeartbeats 400000 in
theorem told_ok (b off cap : Nat) (bs : List UInt8) (w : World) (hb : bs.length = 4)
    (hc : ∀ j, j < 4 → w.cell? ⟨b, off + j, none⟩ = some (.int .u8 ((bs.getD j 0).toNat : Int))) :
    Calls Try.prog 67 #[.slice (some ⟨b, off, none⟩) 4 cap] w fun e w' => e = .returned (.int .u32 (leN bs : Nat)) ∧ w = w' := by
  go_enter Try.func67, Try.ntmps67
  go_wp2
  go_loop [3, 5] (fun q i => ∃ j : Nat, j ≤ 4 ∧ i = .int .i64 j ∧ q = .int .u32 (leN (bs.take j) : Nat)) (fun _ i => 4 - (intOf i).toNat)
  case atStart => exact ⟨0, Nat.zero_le _, rfl, rfl⟩
  case round =>
    obtain ⟨j, hj, rfl, rfl⟩ := hrel
    by_cases hlt : j < 4
    · have hq := leN_lt (bs.take j)
      rw [List.length_take, Nat.min_eq_left (by omega)] at hq
      have hs := leN_take bs j (by omega)
      have hcj := hc j hlt
      have hm : (bs.getD j 0).toNat < 256 := (bs.getD j 0).toNat_lt
      clear hc
      generalize leN (bs.take j) = q at *
      generalize (bs.getD j 0).toNat = m at *
      go_wp2
      go_round
      case rel => exact ⟨j + 1, by omega, by go_num, congrArg (Value.int .u32) (told_step q m j _ hlt hm hq hs)⟩
      case measure => simp [intOf]; omega
    · go_wp2
      go_ret
      obtain rfl : j = 4 := by omega
      rw [List.take_of_length_le (by omega)]
      exact ⟨rfl, rfl⟩

theorem um_xor (m : Nat) (hm : m < 2 ^ 32) : bits .xor .u32 IntKind.u32.max (m : Int) = ((ones ^^^ m : Nat) : Int) := u32_xor_nat ones m (by decide) (by omega)

set_option maxRecDepth 4000 in
set_option maxHeartbeats 400000 in
theorem more_at (m x : Nat) (a : Option Addr) (len cap : Nat) (bs : List UInt8) (w : World) (hm : m < 2 ^ 32) (hx : x < 2 ^ 32) (hB : IsB w a len bs) (hl : len ≤ 140737488355328)
    (e0 : bits .xor .u32 IntKind.u32.max (m : Int) = ((x : Nat) : Int)) :
    Calls Try.prog 74 #[.int .u32 m, .slice a len cap] w fun e w' => e = .returned (.int .u32 (ones ^^^ crun x bs : Nat)) ∧ w = w' := by
  have hsg : ¬ IntKind.u32.signed = true := by decide
  go_enter Try.func74, Try.ntmps74
  go_wp2
  clear e0
  go_loop [5, 12] (fun q i => ∃ j : Nat, j ≤ len ∧ i = .int .i64 j ∧ q = .int .u32 (crun x (bs.take j) : Nat)) (fun _ i => len - (intOf i).toNat)
  case atStart => exact ⟨0, Nat.zero_le _, rfl, rfl⟩
  case round =>
    obtain ⟨j, hj, rfl, rfl⟩ := hrel
    by_cases hlt : j < len
    · obtain ⟨b, off, rfl, hbl, hc⟩ := hB.2 (by omega)
      have hq := crun_lt (bs.take j) x hx
      have hs : crun x (bs.take (j + 1)) = byteS (crun x (bs.take j)) (bs.getD j 0) := by
        have hjl : j < bs.length := by rw [hB.1]; exact hlt
        rw [List.take_succ_eq_append_getElem hjl, crun_snoc]
        simp [List.getD, List.getElem?_eq_getElem hjl]
      have hcj := hc j hlt
      clear hc hB
      generalize crun x (bs.take j) = q at *
      have R := shift_any q (bs.getD j 0) w hq
      have hm : (bs.getD j 0).toNat < 256 := (bs.getD j 0).toNat_lt
      generalize byteS q (bs.getD j 0) = q2 at *
      generalize (bs.getD j 0).toNat = c at *
      have HR := hide R
      clear R
      go_wp2_with fail
      refine HR.out.mono ?_
      rintro e w1 ⟨rfl, rfl⟩
      go_wp2
      go_round
      case rel => exact ⟨j + 1, by omega, by go_num, by rw [hs]⟩
      case measure => simp [intOf]; omega
    · obtain rfl : j = len := by omega
      have hx2 := crun_lt (bs.take j) x hx
      have e1 := um_xor _ hx2
      go_wp2
      go_ret
      have e2 := hB.1
      rw [List.take_of_length_le (by omega)]
      exact ⟨rfl, rfl⟩

theorem more_any (m : Nat) (a : Option Addr) (len cap : Nat) (bs : List UInt8) (w : World) (hm : m < 2 ^ 32) (hB : IsB w a len bs) (hl : len ≤ 140737488355328) :
    Calls Try.prog 74 #[.int .u32 m, .slice a len cap] w fun e w' => e = .returned (.int .u32 (crcMore m bs : Nat)) ∧ w = w' :=
  more_at m (ones ^^^ m) a len cap bs w hm (Nat.xor_lt_two_pow ones_lt hm) hB hl (um_xor m hm)

set_option maxRecDepth 4000 in
set_option maxHeartbeats 400000 in
theorem of_any (a : Option Addr) (len cap : Nat) (bs : List UInt8) (w : World) (hB : IsB w a len bs) (hl : len ≤ 140737488355328) :
    Calls Try.prog 66 #[.slice a len cap] w fun e w' => e = .returned (.int .u32 (crc bs : Nat)) ∧ w = w' := by
  have e0 : crcMore 0 bs = crc bs := by rw [crcMore, crc, Nat.xor_zero]
  have R := more_any 0 a len cap bs w (by decide) hB hl
  rw [e0] at R
  have HR := hide R
  clear R
  go_enter Try.func66, Try.ntmps66
  go_wp2_with fail
  refine HR.out.mono ?_
  rintro e w1 ⟨rfl, rfl⟩
  go_wp2
  go_ret
  exact ⟨rfl, rfl⟩

set_option maxRecDepth 4000 in
set_option maxHeartbeats 400000 in
theorem open_short (a : Option Addr) (len cap : Nat) (w : World) (h : len < 4) :
    Calls Try.prog 48 #[.slice a len cap] w fun e w' => e = .returned (.tuple #[.slice none 0 0, .int .i64 4]) ∧ w = w' := by
  go_enter Try.func48, Try.ntmps48
  go_wp2
  go_ret2
  exact ⟨rfl, rfl⟩

theorem below_drw {B : Nat} {w w' : World} (h : Below B w w') (k : Nat) : Below B w (w'.drewN k) := ⟨h.1, h.2, h.3, h.4, h.5⟩
theorem isB_drewN {w : World} {a : Option Addr} {len k : Nat} {bs : List UInt8} (h : IsB w a len bs) : IsB (w.drewN k) a len bs := h

theorem told_any (a : Option Addr) (cap : Nat) (bs : List UInt8) (w : World) (hB : IsB w a 4 bs) :
    Calls Try.prog 67 #[.slice a 4 cap] w fun e w' => e = .returned (.int .u32 (leN bs : Nat)) ∧ w = w' := by
  obtain ⟨b, off, rfl, _, hc⟩ := hB.2 (by omega)
  exact told_ok b off cap bs w hB.1 hc

theorem of_q (a : Option Addr) (len cap k : Nat) (bs : List UInt8) (w : World) (hB : IsB w a len bs) (hl : len ≤ 140737488355328) :
    Calls Try.prog 66 #[.slice a len cap] (w.drewN k) fun e w' => e = .returned (.int .u32 (crc bs : Nat)) ∧ w' = w.drewN k :=
  (of_any a len cap bs (w.drewN k) (isB_drewN hB) hl).mono fun e w' ⟨he, hw⟩ => ⟨he, hw.symm⟩
theorem told_q (a : Option Addr) (cap k : Nat) (bs : List UInt8) (w : World) (hB : IsB w a 4 bs) :
    Calls Try.prog 67 #[.slice a 4 cap] (w.drewN k) fun e w' => e = .returned (.int .u32 (leN bs : Nat)) ∧ w' = w.drewN k :=
  (told_any a cap bs (w.drewN k) (isB_drewN hB)).mono fun e w' ⟨he, hw⟩ => ⟨he, hw.symm⟩

set_option maxRecDepth 4000 in
set_option maxHeartbeats 400000 in
theorem open_no (b off n cap x y : Nat) (w : World) (hcap : n + 4 ≤ cap) (hl : n ≤ 140737488355328) (hne : ((x : Int) != (y : Int)) = true)
    (H1 : Hid (∀ k cap, Calls Try.prog 66 #[.slice (some ⟨b, off, none⟩) n cap] (w.drewN k) fun e w' => e = .returned (.int .u32 (x : Nat)) ∧ w' = w.drewN k))
    (H2 : Hid (∀ k cap, Calls Try.prog 67 #[.slice (some ⟨b, off + n, none⟩) 4 cap] (w.drewN k) fun e w' => e = .returned (.int .u32 (y : Nat)) ∧ w' = w.drewN k)) :
    Calls Try.prog 48 #[.slice (some ⟨b, off, none⟩) (n + 4) cap] w fun e w' => e = .returned (.tuple #[.slice none 0 0, .int .i64 3]) ∧ Below w.heap.size w w' := by
  go_enter Try.func48, Try.ntmps48
  go_wp2_with fail
  go_quiet (first | (go_at_call 66; exact Calls.quiet_of_same (H1.out _ _)) | (go_at_call 67; exact Calls.quiet_of_same (H2.out _ _)))
  go_wp2
  go_ret2
  exact ⟨rfl, below_drw (Below.refl _ _) nq⟩

set_option maxRecDepth 4000 in
set_option maxHeartbeats 400000 in
theorem open_yes (b off n cap x : Nat) (bs : List UInt8) (w : World) (hcap : n + 4 ≤ cap) (hl : n ≤ 140737488355328) (hB : IsB w (some ⟨b, off, none⟩) n bs)
    (H1 : Hid (∀ k cap, Calls Try.prog 66 #[.slice (some ⟨b, off, none⟩) n cap] (w.drewN k) fun e w' => e = .returned (.int .u32 (x : Nat)) ∧ w' = w.drewN k))
    (H2 : Hid (∀ k cap, Calls Try.prog 67 #[.slice (some ⟨b, off + n, none⟩) 4 cap] (w.drewN k) fun e w' => e = .returned (.int .u32 (x : Nat)) ∧ w' = w.drewN k)) :
    Calls Try.prog 48 #[.slice (some ⟨b, off, none⟩) (n + 4) cap] w fun e w' => ∃ v, e = .returned (.tuple #[v, .int .i64 0]) ∧ w'.ownsRow w.heap.size 5 1 v n (toV bs) ∧ Below w.heap.size w w' := by
  have hmk := run_mkn (P := Try.prog) 61 5 Try.underlying61 info8 n (by omega)
  have HB := hide hB
  clear hB
  go_enter Try.func48, Try.ntmps48
  go_wp2_with fail
  go_quiet (first | (go_at_call 66; exact Calls.quiet_of_same (H1.out _ _)) | (go_at_call 67; exact Calls.quiet_of_same (H2.out _ _)))
  have hB1 := isB_drewN (k := nq) HB.out
  have hb1 := below_drw (Below.refl w.heap.size w) nq
  generalize w.drewN nq = w1 at *
  clear H1 H2 HB
  have hrow : (w1.alloc (.cells (zrow n).toArray 5)).heap[w1.heap.size]? = some (.cells (zrow n).toArray 5 (0, 0)) := heap_alloc_new w1 _
  have hlb := hB1.1
  go_wp2_with (refine wpList_copy_splice rfl (.tmp 23) (.tmp 24) 61 61 rfl 5 Try.underlying61 info8s (some ⟨w1.heap.size, 0, none⟩) (some ⟨b, off, none⟩) n n (n + 4) cap rfl rfl w1.heap.size 0 (zrow n) 5 hrow (toV bs) (by rw [toV_length, hlb]; exact (Nat.min_eq_right (Nat.le_add_right n 4)).symm) (hB1.hpos _ _) (by rw [toV_length, zrow_length, hlb]; omega) (toV_one bs) w.heap.size w (hb1.alloc hb1.size _) hb1.size ?_)
  intro w2 HG hb2
  go_wp2
  go_ret2
  exact ⟨_, rfl, owns_spliced (m := 0) hlb hb1.size (by omega) HG.out, hb2⟩

theorem own_cap {w : World} {base n cap size : Nat} {e : TypeId} {a : Option Addr} {xs : List Value} (h : w.ownsRow base e size (.slice a n cap) n xs) : n ≤ cap := by
  rcases h.2 with ⟨hv, h0⟩ | ⟨g, cap', cur, hv, _, _, hn, _⟩
  · omega
  · injection hv with _ _ h3
    omega

/-- THE CONTRACT of Open. -/
theorem open_any (a : Option Addr) (len cap : Nat) (bs : List UInt8) (w : World) (hB : IsB w a len bs) (hl : len ≤ 140737488355328) (hcap : len ≤ cap) :
    Calls Try.prog 48 #[.slice a len cap] w fun e w' => ∃ v, e = .returned (.tuple #[v, .int .i64 (openS bs).2]) ∧ w'.ownsRow w.heap.size 5 1 v (openS bs).1.length (toV (openS bs).1) ∧ Below w.heap.size w w' := by
  have hb := hB.1
  by_cases h : len < 4
  · rw [openS_short bs (by omega)]
    refine (open_short a len cap w h).mono ?_
    rintro e w' ⟨rfl, rfl⟩
    exact ⟨_, rfl, World.ownsRow_nil _ _ _ _, Below.refl _ _⟩
  obtain ⟨n, rfl⟩ : ∃ n, len = n + 4 := ⟨len - 4, by omega⟩
  obtain ⟨b, off, rfl, hlt, hc⟩ := hB.2 (by omega)
  have e1 : bs.length - 4 = n := by omega
  have c1 : IsB w (some ⟨b, off, none⟩) n (bs.take n) := by
    have h1 := IsB.cut hb hlt hc 0 n (by omega)
    rwa [List.drop_zero] at h1
  have c2 : IsB w (some ⟨b, off + n, none⟩) 4 (bs.drop n) := by
    have h1 := IsB.cut hb hlt hc n 4 (by omega)
    rwa [List.take_of_length_le (by rw [List.length_drop]; omega)] at h1
  have H1 := fun k cap => of_q _ n cap k _ w c1 (by omega)
  have H2 := fun k cap => told_q _ cap k _ w c2
  by_cases h2 : leN (bs.drop (bs.length - 4)) = crc (bs.take (bs.length - 4))
  · rw [openS_ok bs (by omega) h2, e1]
    rw [e1] at h2
    rw [h2] at H2
    have e2 : (bs.take n).length = n := c1.1
    rw [e2]
    exact open_yes b off n cap _ _ w hcap (by omega) c1 H1 H2
  · rw [openS_no bs (by omega) h2]
    rw [e1] at h2
    refine (open_no b off n cap _ _ w hcap (by omega) (by rw [bne_iff_ne]; omega) H1 H2).mono ?_
    rintro e w' ⟨rfl, hbel⟩
    exact ⟨_, rfl, World.ownsRow_nil _ _ _ _, hbel⟩

set_option maxRecDepth 4000 in
set_option maxHeartbeats 400000 in
theorem seal_any (a : Option Addr) (len cap : Nat) (bs : List UInt8) (w : World) (hB : IsB w a len bs) (hl : len ≤ 140737488355328) :
    Calls Try.prog 52 #[.slice a len cap] w fun e w' => ∃ v, e = .returned v ∧ w'.ownsRow w.heap.size 5 1 v (len + 4) (toV (bs ++ leB (crc bs))) ∧ Below w.heap.size w w' := by
  obtain ⟨x, ex⟩ : ∃ x, x = crc bs := ⟨_, rfl⟩
  rw [← ex]
  obtain ⟨i0, hi, hz0, hz1, hz2⟩ := info_parts info8
  have hmk := run_mk (P := Try.prog) 61 5 Try.underlying61 info8 len 4 (by omega)
  have hmk2 : ∀ w : World, (Instr.makeSlice 61 (.int .i64 (len : Int)) (.int .i64 ((len : Int) + 4))).run Try.prog w = .ok (.slice (some ⟨w.heap.size, 0, none⟩) len (len + 4)) (w.alloc (.cells (zrow (len + 4)).toArray 5)) := hmk
  have hrow : (w.alloc (.cells (zrow (len + 4)).toArray 5)).heap[w.heap.size]? = some (.cells (zrow (len + 4)).toArray 5 (0, 0)) := heap_alloc_new w _
  clear hmk
  go_enter Try.func52, Try.ntmps52
  go_wp2_with (refine wpList_copy_splice rfl (.tmp 12) (.tmp 13) 61 61 rfl 5 Try.underlying61 info8s (some ⟨w.heap.size, 0, none⟩) a len (len + 4) len cap rfl rfl w.heap.size 0 (zrow (len + 4)) 5 hrow (toV bs) (by rw [toV_length, hB.1]; exact (Nat.min_self _).symm) (hB.hpos _ _) (by rw [toV_length, zrow_length, hB.1]; omega) (toV_one bs) w.heap.size w ((Below.refl _ _).alloc (Nat.le_refl _) _) (Nat.le_refl _) ?_)
  intro w2 HG hb2
  have hown := owns_spliced (m := 4) hB.1 (Nat.le_refl w.heap.size) (by omega) HG.out
  have R := of_any a len cap bs w2 (hB.below hb2) hl
  have hx := crc_lt bs
  rw [← ex] at R hx
  clear ex
  have HR := hide R
  clear R HG hrow hmk2
  go_wp2_with fail
  refine HR.out.mono ?_
  rintro e w1 ⟨rfl, rfl⟩
  go_wp2
  go_loopw [3, 17] (fun v i wr => ∃ j : Nat, j ≤ 4 ∧ i = .int .i64 j ∧ v = .slice (some ⟨w.heap.size, 0, none⟩) (len + j) (len + 4) ∧ wr.ownsRow w.heap.size 5 1 (.slice (some ⟨w.heap.size, 0, none⟩) (len + j) (len + 4)) (len + j) (toV (bs ++ (leB x).take j)) ∧ Below w.heap.size w wr) (fun _ i _ => 4 - (intOf i).toNat)
  case atStart => exact ⟨0, Nat.zero_le _, rfl, rfl, by simpa using hown, hb2⟩
  case round =>
    obtain ⟨j, hj, rfl, rfl, hownr, hbr⟩ := hrel
    clear hown hb2
    by_cases hlt : j < 4
    · go_wp2_with (at_builtin; refine wpList_append_fits _ rfl (.tmp 20) (.tmp 26) 61 rfl w.heap.size 5 i0 1 Try.underlying61 hi hz1 w.heap.size (len + j) (len + 4) _ rfl (hownr.alloc _) ⟨wr.heap.size, 0, none⟩ 1 1 [.int .u8 ((x : Int) / 2 ^ (8 * j) % 256)] rfl rfl (cell_one_new _ _ _) (by simp [Value.oneCell']) (by omega) ?_)
      intro w2 hown2 hgr
      rw [byte_at] at hown2
      have hown3 := put_row hown2 (leB_take x j hlt)
      have hb3 : Below w.heap.size w w2 := (hbr.alloc hbr.size _).grown hgr (by simp; have := hbr.size; omega) (by simp)
      clear hown2 hgr hownr
      go_wp2
      go_roundw
      case rel => exact ⟨j + 1, by omega, by go_num, by simp [Nat.add_assoc], hown3, hb3⟩
      case measure => simp [intOf]; omega
    · go_wp2
      go_ret
      obtain rfl : j = 4 := by omega
      exact ⟨_, rfl, hownr, hbr⟩
end Go.Proofs.Ytfeghhgniahfkaa

/-
  The contract of package page's Encode.
-/
namespace Go.Proofs.Ytfeghhgniahfkaa
open Go.RowKit
set_option linter.unusedVariables false

set_option maxRecDepth 4000 in
set_option maxHeartbeats 400000 in
theorem sector_any (a : Option Addr) (len cap st : Nat) (bs : List UInt8) (g off m c : Nat) (ys : List UInt8) (w : World) (hB : IsB w a len bs) (hl : len ≤ 1000) (hst : st < 18446744073709551616) (hm : m ≤ 1000) (hY : IsB w (some ⟨g, off, none⟩) m ys) :
    Calls Try.prog 54 #[.slice a len cap, .int .u64 st, .slice (some ⟨g, off, none⟩) m c] w fun e w' => ∃ v, e = .returned v ∧ w'.ownsRow w.heap.size 5 1 v (len + 8 + m) (toV (bs ++ beB 8 st ++ ys)) ∧ Below w.heap.size w w' := by
  have H1 := hide (put_ok a len cap 8 st bs w hB (by omega) (by omega) (by omega) (by have e : 256 ^ 8 = 18446744073709551616 := by decide
                                                                                      omega))
  have HY := hide hY
  clear hB hY
  go_enter Try.func54, Try.ntmps54
  go_wp2_with fail
  refine H1.out.mono ?_
  rintro e w1 ⟨rfl, hown1, hb1⟩
  have HO1 := hide hown1
  have HY1 := hide (HY.out.below hb1)
  clear hown1 HY H1
  obtain ⟨xs, hxs⟩ : ∃ xs, xs = bs ++ beB 8 st := ⟨_, rfl⟩
  rw [← hxs] at HO1
  have HX := hide hxs
  clear hxs
  go_wp2_with (at_builtin; refine wpList_append_ob _ rfl (.tmp 15) (.tmp 16) 61 rfl 5 Try.underlying61 info8 w.heap.size _ (len + 8) _ rfl HO1.out _ m c _ rfl HY1.out (fun h => nomatch h) (by omega) hb1.size ?_)
  intro v2 w2 hown2 hg2
  have d2 := hb1.grown hg2 hb1.size (fun k hk => (HO1.out.lt k hk).1)
  have HO2 := hide hown2
  clear hown2 hg2 hb1 HO1 HY1
  go_wp2
  go_ret
  exact ⟨_, rfl, by rw [← HX.out]; exact HO2.out, d2⟩

set_option maxRecDepth 4000 in
set_option maxHeartbeats 400000 in
theorem enc_id (id : Int) (p : Pg) (w : World) (h : ¬ (0 ≤ id ∧ id ≤ 31)) :
    Calls Try.prog 25 #[.int .i64 id, .agg (pgA p)] w fun e w' => e = .returned (.tuple #[.slice none 0 0, .int .i64 1]) ∧ Below w.heap.size w w' := by
  have hb0 : Below w.heap.size w (w.alloc (.cells (pgA p) 35)) := (Below.refl _ _).alloc (Nat.le_refl _) _
  have R := fun w => rightID_any id w
  rw [decide_eq_false h] at R
  have HR := hide R
  clear R h
  go_enter Try.func25, Try.ntmps25
  go_wp2_with fail
  refine (HR.out _).mono ?_
  rintro e w1 ⟨rfl, rfl⟩
  go_wp2
  go_ret2
  exact ⟨rfl, hb0⟩

set_option maxRecDepth 4000 in
set_option maxHeartbeats 400000 in
theorem enc_wrong (id : Int) (p : Pg) (w : World) (h : 0 ≤ id ∧ id ≤ 31) (hp : ¬ p.right) :
    Calls Try.prog 25 #[.int .i64 id, .agg (pgA p)] w fun e w' => e = .returned (.tuple #[.slice none 0 0, .int .i64 1]) ∧ Below w.heap.size w w' := by
  have hP : PgAt (w.alloc (.cells (pgA p) 35)) w.heap.size p := heap_alloc_new w _
  have hb0 : Below w.heap.size w (w.alloc (.cells (pgA p) 35)) := (Below.refl _ _).alloc (Nat.le_refl _) _
  have R := fun w => rightID_any id w
  rw [decide_eq_true h] at R
  have HR := hide R
  have S := fun w => right_any p w
  rw [decide_eq_false hp] at S
  have HS := hide S
  have HP := hide hP
  clear R S h hP hp
  go_enter Try.func25, Try.ntmps25
  go_wp2_with fail
  refine (HR.out _).mono ?_
  rintro e w1 ⟨rfl, rfl⟩
  go_wp2_with (refine wpList_load_page rfl (.tmp 3) rfl w.heap.size rfl p HP.out ?_)
  refine (HS.out _).mono ?_
  rintro e w2 ⟨rfl, hb2⟩
  have d2 := hb0.trans (hb2.mono hb0.size)
  clear hb0 hb2 HS HP HR
  go_wp2
  go_ret2
  exact ⟨rfl, d2⟩

theorem img_parts (id : Nat) (p : Pg) : [] ++ beB 8 p.l ++ (taleB id p).take 120 ++ beB 8 p.l ++ (taleB id p).drop 120 = imageB id p := by simp [imageB]

set_option maxRecDepth 4000 in
set_option maxHeartbeats 800000 in
theorem enc_right (id : Nat) (p : Pg) (w : World) (h : id < 32) (hp : p.right) :
    Calls Try.prog 25 #[.int .i64 id, .agg (pgA p)] w fun e w' => ∃ v, e = .returned (.tuple #[v, .int .i64 0]) ∧ w'.ownsRow w.heap.size 5 1 v 256 (toV (imageB id p)) ∧ Below w.heap.size w w' := by
  have hP : PgAt (w.alloc (.cells (pgA p) 35)) w.heap.size p := heap_alloc_new w _
  have hb0 : Below w.heap.size w (w.alloc (.cells (pgA p) 35)) := (Below.refl _ _).alloc (Nat.le_refl _) _
  have R := fun w => rightID_any id w
  rw [decide_eq_true (show 0 ≤ (id : Int) ∧ (id : Int) ≤ 31 by omega)] at R
  have HR := hide R
  have S := fun w => right_any p w
  rw [decide_eq_true hp] at S
  have HS := hide S
  have HL := hide (fun w => plain_any id p w h hp)
  have hst : p.l < 18446744073709551616 := by
    have := hp.1
    unfold maxP at this
    omega
  have hlen := taleB_length id p hp
  have HP := hide hP
  clear R S hP hp
  go_enter Try.func25, Try.ntmps25
  go_wp2_with fail
  refine (HR.out _).mono ?_
  rintro e w1 ⟨rfl, rfl⟩
  go_wp2_with (refine wpList_load_page rfl (.tmp 3) rfl w.heap.size rfl p HP.out ?_)
  refine (HS.out _).mono ?_
  rintro e w2 ⟨rfl, hb2⟩
  have d2 := hb0.trans (hb2.mono hb0.size)
  have HP2 := hide (HP.out.below hb2 (by simp))
  clear hb0 hb2 HS HP HR
  go_wp2_with (refine wpList_load_cs rfl (.tmp 17) rfl w.heap.size rfl p HP2.out ?_)
  refine (HL.out _).mono ?_
  rintro e w3 ⟨v3, rfl, hown3, hb3⟩
  obtain ⟨a3, cap3, rfl, hcap3, hB3⟩ := shape_isB hown3
  have d3 := d2.trans (hb3.mono d2.size)
  have HP3 := hide (HP2.out.below hb3 (Array.getElem?_eq_some_iff.1 HP2.out).1)
  have HSl := hide (seal_any a3 236 cap3 (bodyB id p) w3 hB3 (by omega))
  clear hb3 d2 HP2 HL hown3 hB3 hcap3
  go_wp2_with fail
  refine HSl.out.mono ?_
  rintro e w4 ⟨v4, rfl, hown4, hb4⟩
  have hown4' : w4.ownsRow w3.heap.size 5 1 v4 240 (toV (taleB id p)) := hown4
  obtain ⟨g4, cap4, rfl, hg4⟩ := own_slice hown4' (by omega)
  have hc4 := own_cap hown4'
  have i1 : (120 : Int) ≤ (cap4 : Int) := by omega
  have i2 : (240 : Int) ≤ (cap4 : Int) := by omega
  have i3 : ¬ cap4 = 120 := by omega
  have hB4 := hown4'.isB hlen
  have d4 := d3.trans (hb4.mono d3.size)
  have HP4 := hide (HP3.out.below hb4 (Array.getElem?_eq_some_iff.1 HP3.out).1)
  obtain ⟨b', o', he', hlt', hcell'⟩ := hB4.2 (by omega)
  cases he'
  have HB1 := hide (show IsB w4 (some ⟨g4, 0, none⟩) 120 ((taleB id p).take 120) from by simpa using IsB.cut hB4.1 hlt' hcell' 0 120 (by omega))
  have HB2 := hide (show IsB w4 (some ⟨g4, 120, none⟩) 120 ((taleB id p).drop 120) from by
    have h1 := IsB.cut hB4.1 hlt' hcell' 120 120 (by omega)
    rw [List.take_of_length_le (by rw [List.length_drop]; omega), Nat.zero_add] at h1
    exact h1)
  have HI := hide (img_parts id p)
  have hlt4 : w.heap.size < w4.heap.size := (Array.getElem?_eq_some_iff.1 HP4.out).1
  have c4 := HP4.out.lsn
  clear hb4 d3 HP3 HSl hown4 hown4' hB4 hcell' hlen HP4
  clear hg4
  generalize (taleB id p).take 120 = t1 at *
  generalize (taleB id p).drop 120 = t2 at *
  generalize p.l = st at *
  go_wp2_with fail
  go_region_held3 (fun x => x.cell? ⟨w.heap.size, 0, none⟩ = some (.int .u64 st)) (go_keep)
    (first | (go_at_call 54; refine (sector_any none 0 0 st [] g4 0 120 cap4 t1 _ (IsB.nil _) (by omega) hst (by omega) (isB_drewN (k := 1) HB1.out)).mono ?_; rintro e w5 ⟨v5, rfl, hown5, hb5⟩; have c5 : w5.cell? ⟨w.heap.size, 0, none⟩ = some (.int .u64 st) := (hb5.cell hlt4).trans c4; obtain ⟨a5, cap5, rfl, hcap5, hB5⟩ := shape_isB hown5))
  have d5 := d4.trans (Below.mono (show Below w4.heap.size w4 w5 from ⟨hb5.1, hb5.2, hb5.3, hb5.4, hb5.5⟩) d4.size)
  have HB25 := hide (IsB.below (isB_drewN (k := 1) HB2.out) hb5)
  have HB5 := hide hB5
  have hlt5 : w.heap.size < w5.heap.size := Nat.lt_of_lt_of_le hlt4 hb5.size
  clear hown5 hb5 hB5 HB1 HB2 c4 d4 hlt4
  go_wp2_with fail
  go_region_held3 (fun x => x.cell? ⟨w.heap.size, 0, none⟩ = some (.int .u64 st)) (go_keep)
    (first | (go_at_call 54; refine (sector_any a5 (0 + 8 + 120) cap5 st _ g4 120 120 (cap4 - 120) t2 _ (isB_drewN (k := 1) HB5.out) (by omega) hst (by omega) (isB_drewN (k := 1) HB25.out)).mono ?_; rintro e w6 ⟨v6, rfl, hown6, hb6⟩; have c6 : w6.cell? ⟨w.heap.size, 0, none⟩ = some (.int .u64 st) := (hb6.cell hlt5).trans c5))
  have d6 := d5.trans (Below.mono (show Below w5.heap.size w5 w6 from ⟨hb6.1, hb6.2, hb6.3, hb6.4, hb6.5⟩) d5.size)
  have ho6 := ownsRow_down hown6 d5.size
  rw [HI.out] at ho6
  have HO6 := hide ho6
  clear hown6 hb6 ho6 c5 c6 HB5 HB25
  go_wp2
  go_ret2
  exact ⟨_, rfl, HO6.out, d6⟩

/-- THE CONTRACT. -/
theorem enc_any (id : Int) (p : Pg) (w : World) :
    Calls Try.prog 25 #[.int .i64 id, .agg (pgA p)] w fun e w' => ∃ v, e = .returned (.tuple #[v, .int .i64 (encB id p).2]) ∧ w'.ownsRow w.heap.size 5 1 v (encB id p).1.length (toV (encB id p).1) ∧ Below w.heap.size w w' := by
  by_cases h : 0 ≤ id ∧ id ≤ 31
  · by_cases hp : p.right
    · have e : encB id p = (imageB id.toNat p, 0) := by unfold encB; rw [if_pos ⟨h.1, h.2, hp⟩]
      rw [e, imageB_length id.toNat p hp]
      obtain ⟨n, rfl⟩ := Int.eq_ofNat_of_zero_le h.1
      exact enc_right n p w (by omega) hp
    · have e : encB id p = ([], 1) := by unfold encB; rw [if_neg (fun g => hp g.2.2)]
      rw [e]
      exact (enc_wrong id p w h hp).mono fun e w' ⟨he, hb⟩ => ⟨_, he, World.ownsRow_nil _ _ _ _, hb⟩
  · have e : encB id p = ([], 1) := by unfold encB; rw [if_neg (fun g => h ⟨g.1, g.2.1⟩)]
    rw [e]
    exact (enc_id id p w h).mono fun e w' ⟨he, hb⟩ => ⟨_, he, World.ownsRow_nil _ _ _ _, hb⟩
end Go.Proofs.Ytfeghhgniahfkaa

/-
  The contract of pack.Take: of any bytes, at any place, in any width it answers 'takeS', and turns nothing.
-/
namespace Go.Proofs.Ytfeghhgniahfkaa
open Go.RowKit
set_option linter.unusedVariables false

set_option maxRecDepth 4000 in
set_option maxHeartbeats 400000 in
theorem take_arg1 (a : Option Addr) (len cap : Nat) (p k : Int) (w : World) (h : k < 1) :
    Calls Try.prog 68 #[.slice a len cap, .int .i64 p, .int .i64 k] w fun e w' => e = .returned (.tuple #[.int .u64 0, .int .i64 1]) ∧ w = w' := by
  have h1 : ¬ (1 : Int) ≤ k := by omega
  go_enter Try.func68, Try.ntmps68
  go_wp2
  go_ret2
  exact ⟨rfl, rfl⟩

set_option maxRecDepth 4000 in
set_option maxHeartbeats 400000 in
theorem take_arg2 (a : Option Addr) (len cap : Nat) (p k : Int) (w : World) (h : 8 < k) :
    Calls Try.prog 68 #[.slice a len cap, .int .i64 p, .int .i64 k] w fun e w' => e = .returned (.tuple #[.int .u64 0, .int .i64 1]) ∧ w = w' := by
  have h1 : (1 : Int) ≤ k := by omega
  have h2 : ¬ k ≤ 8 := by omega
  go_enter Try.func68, Try.ntmps68
  go_wp2
  go_ret2
  exact ⟨rfl, rfl⟩

set_option maxRecDepth 4000 in
set_option maxHeartbeats 400000 in
theorem take_arg3 (a : Option Addr) (len cap : Nat) (p k : Int) (w : World) (h1 : 1 ≤ k) (h2 : k ≤ 8) (h3 : p < 0) :
    Calls Try.prog 68 #[.slice a len cap, .int .i64 p, .int .i64 k] w fun e w' => e = .returned (.tuple #[.int .u64 0, .int .i64 1]) ∧ w = w' := by
  go_enter Try.func68, Try.ntmps68
  go_wp2
  go_ret2
  exact ⟨rfl, rfl⟩

set_option maxRecDepth 4000 in
set_option maxHeartbeats 400000 in
theorem take_short (a : Option Addr) (len cap : Nat) (p k : Int) (w : World) (hl : len ≤ 9223372036854775807) (hp : p ≤ 9223372036854775807) (h1 : 1 ≤ k) (h2 : k ≤ 8) (h3 : 0 ≤ p) (h4 : (len : Int) - p < k) :
    Calls Try.prog 68 #[.slice a len cap, .int .i64 p, .int .i64 k] w fun e w' => e = .returned (.tuple #[.int .u64 0, .int .i64 4]) ∧ w = w' := by
  have h5 : ¬ p < 0 := by omega
  go_enter Try.func68, Try.ntmps68
  go_wp2
  go_ret2
  exact ⟨rfl, rfl⟩

set_option maxRecDepth 4000 in
set_option maxHeartbeats 400000 in
theorem take_ok (b off : Nat) (len cap : Nat) (bs : List UInt8) (p k : Nat) (w : World) (hl : len ≤ 9223372036854775807) (h1 : 1 ≤ k) (h2 : k ≤ 8) (h4 : p + k ≤ len) (hb : bs.length = len)
    (hc : ∀ j, j < len → w.cell? ⟨b, off + j, none⟩ = some (.int .u8 ((bs.getD j 0).toNat : Int))) :
    Calls Try.prog 68 #[.slice (some ⟨b, off, none⟩) len cap, .int .i64 p, .int .i64 k] w fun e w' => e = .returned (.tuple #[.int .u64 (beAt bs p k : Nat), .int .i64 0]) ∧ w = w' := by
  have h3 : ¬ (p : Int) < 0 := by omega
  have h5 : ¬ (len : Int) - (p : Int) < (k : Int) := by omega
  have h6 : (1 : Int) ≤ (k : Int) := by omega
  have h7 : (k : Int) ≤ 8 := by omega
  go_enter Try.func68, Try.ntmps68
  go_wp2
  go_loop [8, 24] (fun n i => ∃ j : Nat, j ≤ k ∧ i = .int .i64 j ∧ n = .int .u64 (beAt bs p j : Nat)) (fun _ i => k - (intOf i).toNat)
  case atStart => exact ⟨0, Nat.zero_le _, rfl, by rw [beAt_zero]; rfl⟩
  case round =>
    obtain ⟨j, hj, rfl, rfl⟩ := hrel
    by_cases hlt : j < k
    · have hcj : w.cell? ⟨b, off + (p + j), none⟩ = some (.int .u8 ((bs.getD (p + j) 0).toNat : Int)) := hc (p + j) (by omega)
      have hby : (bs.getD (p + j) 0).toNat < 256 := (bs.getD (p + j) 0).toNat_lt
      have hn := beAt_lt7 bs p j (by omega)
      go_wp2
      go_round
      case rel => exact ⟨j + 1, by omega, by go_num, by rw [take_step bs p j (by omega) (by omega)]⟩
      case measure => simp [intOf]; omega
    · go_wp2
      go_ret2
      obtain rfl : j = k := by omega
      exact ⟨rfl, rfl⟩

/-- THE CONTRACT. -/
theorem take_any (a : Option Addr) (len cap : Nat) (bs : List UInt8) (p k : Int) (w : World) (hB : IsB w a len bs) (hl : len ≤ 9223372036854775807) (hp : p ≤ 9223372036854775807) :
    Calls Try.prog 68 #[.slice a len cap, .int .i64 p, .int .i64 k] w fun e w' => e = .returned (.tuple #[.int .u64 (takeS bs p k).1, .int .i64 (takeS bs p k).2]) ∧ w = w' := by
  obtain ⟨hb, hc⟩ := hB
  by_cases h1 : k < 1
  · rw [takeS_arg bs p k (Or.inl h1)]
    exact take_arg1 a len cap p k w h1
  by_cases h2 : 8 < k
  · rw [takeS_arg bs p k (Or.inr (Or.inl h2))]
    exact take_arg2 a len cap p k w h2
  by_cases h3 : p < 0
  · rw [takeS_arg bs p k (Or.inr (Or.inr h3))]
    exact take_arg3 a len cap p k w (by omega) (by omega) h3
  have h0 : ¬ (k < 1 ∨ 8 < k ∨ p < 0) := by omega
  by_cases h4 : (bs.length : Int) - p < k
  · rw [takeS_short bs p k h0 h4]
    exact take_short a len cap p k w hl hp (by omega) (by omega) (by omega) (by omega)
  · rw [takeS_ok bs p k h0 h4]
    obtain ⟨b, off, rfl, _, hcell⟩ := hc (by omega)
    obtain ⟨pn, rfl⟩ := Int.eq_ofNat_of_zero_le (show 0 ≤ p by omega)
    obtain ⟨kn, rfl⟩ := Int.eq_ofNat_of_zero_le (show 0 ≤ k by omega)
    exact take_ok b off len cap bs pn kn w hl (by omega) (by omega) (by omega) hb hcell
end Go.Proofs.Ytfeghhgniahfkaa
