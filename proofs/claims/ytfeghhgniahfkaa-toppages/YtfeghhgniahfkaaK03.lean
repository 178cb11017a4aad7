/-
  Texts that lean on one another, one behind the other: each opens with its own remark.
-/
import Derived.Deep.RegionHeld3
import Derived.Deep.QuietTactic
import Derived.BigQuiet
import Derived.WalkKit
import Derived.OpenShut
import Derived.ShutString
import Derived.SizedLaws
import Derived.ChangeOld
import Derived.Deep.Slices
import Derived.Lib.SmallJoins
import Derived.Deep.MidRow
import Derived.Test.YtfeghhgniahfkaaK02
import Derived.Test.YtfeghhgniahfkaaK01
import Derived.Test.YtfeghhgniahfkaaK00

/-
  The contract of package store's isUnderWay.
-/
namespace Go.Proofs.Ytfeghhgniahfkaa
open Go.RowKit
set_option linter.unusedVariables false

/-- An area by value. -/
def arA (b : List UInt8) (i : Int) (o : Bool) : Array Value := (arL b i o).toArray
theorem arA_size (b : List UInt8) (i : Int) (o : Bool) (h : b.length = 256) : (arA b i o).size = 258 := by
  unfold arA
  rw [List.size_toArray, arL_length b i o h]
theorem arA_one (b : List UInt8) (i : Int) (o : Bool) : (arA b i o).all (·.oneCell') = true := all_oneCell_toArray (fun v hv => by
  unfold arL at hv
  rcases List.mem_append.1 hv with h | h
  · exact toV_one b v h
  · simp at h
    rcases h with rfl | rfl <;> rfl)
theorem infoAr : (Try.prog.info? 72).map (·.size) = some 258 := by kernel_rfl
theorem infoAs : (Try.prog.info? 73).map (·.size) = some 2064 := by kernel_rfl
theorem zeroAr : Try.zeroCells72.size = 258 := by kernel_rfl
theorem SB.nth {cs : Array Value} {gp : Nat} {s : Sc} (h : SB cs gp s) (hw : s.wf) (m : Nat) (hm : m < 8) : (cs.extract 1 (1 + 2064)).extract (m * 258) (m * 258 + 258) = arA (s.ar m) (s.id m) (s.out m) := by
  have h1 := (h.ar m hm).ext 258 (arL_length _ _ _ (hw.ar m hm)) (by rw [h.size]; omega)
  unfold arA
  rw [← h1]
  apply Array.ext'
  apply List.ext_getElem?
  intro j
  rw [Array.getElem?_toList, Array.getElem?_toList, Array.getElem?_extract, Array.getElem?_extract, Array.size_extract, Array.getElem?_extract, h.size]
  by_cases hj : j < 258
  · rw [if_pos (by omega), if_pos (by omega), if_pos (by omega)]
    congr 1
    omega
  · rw [if_neg (by omega), if_neg (by omega)]

set_option maxRecDepth 4000 in
set_option maxHeartbeats 800000 in
theorem under10 {w : World} {gs gp : Nat} {s : Sc} (id : Int) (h : SAt w gs gp s) : Calls Try.prog 37 #[.pointer (some ⟨gs, 0, none⟩), .int .i64 id] w fun e w' => e = .returned (.bool (s.busy id)) ∧ Below w.heap.size w w' := by
  obtain ⟨cs, ps, h⟩ := h
  have HN := hide (fun m hm => h.sb.nth h.wf m hm)
  have HS := hide h.st
  have HZ := hide h.sb.size
  have HW := hide h.wf
  clear h
  obtain ⟨A, hA⟩ : ∃ A, A = cs.extract 1 (1 + 2064) := ⟨_, rfl⟩
  rw [← hA] at HN
  have HA := hide hA.symm
  clear hA
  go_enter Try.func37, Try.ntmps37
  go_wp2_with (refine wpList_load_part rfl 73 _ rfl gs 1 2064 rfl 75 cs HS.out _ Try.underlying73 rfl infoAs (by rw [HZ.out]; omega) A HA.out ?_)
  go_loopw [11] (fun i wr => ∃ j : Nat, j ≤ 8 ∧ i = .int .i64 j ∧ Below w.heap.size w wr ∧ ∀ m, m < j → ¬ (s.out m = true ∧ s.id m = id)) (fun i _ => 8 - (intOf i).toNat)
  case atStart => exact ⟨0, by omega, rfl, Below.refl _ _, fun m hm => absurd hm (by omega)⟩
  case round =>
    obtain ⟨j, hj, rfl, hb, hno⟩ := hrel
    have HB := hide hb
    have HNo := hide hno
    clear hb hno
    by_cases hlt : j < 8
    · have i1 : (j : Int) < 8 := by omega
      have HJ := hide (HN.out j hlt)
      have HL := hide (HW.out.ar j hlt)
      obtain ⟨b, hb⟩ : ∃ b, s.ar j = b := ⟨_, rfl⟩
      obtain ⟨o, hoo⟩ : ∃ o, s.out j = o := ⟨_, rfl⟩
      obtain ⟨i, hii⟩ : ∃ i, s.id j = i := ⟨_, rfl⟩
      rw [hb, hoo, hii] at HJ
      rw [hb] at HL
      have HE := hide (And.intro hoo hii)
      clear hoo hii hb
      go_wp2_with (first | (refine wpList_index_part rfl 73 _ _ rfl 72 8 258 j _ A rfl rfl Try.underlying73 Try.underlying72 rfl infoAr hlt ?_; rw [HJ.out]) | (refine wpList_store_at rfl 72 _ _ rfl wr.heap.size _ (arA b i o) rfl rfl (heap_alloc_new wr _) (by rw [arA_size _ _ _ HL.out]; exact infoAr) (by rw [arA_size _ _ _ HL.out]; exact zeroAr) (arA_one _ _ _) ?_))
      intro w6 hP6 hk _
      have HB6 := hide (hk _ _ (HB.out.alloc HB.out.size _) HB.out.size)
      have c1 := hP6.cell 256 (.int .i64 i) (by unfold arA; rw [List.getElem?_toArray]; exact arL_id b i o HL.out)
      have c2 := hP6.cell 257 (.bool o) (by unfold arA; rw [List.getElem?_toArray]; exact arL_out b i o HL.out)
      clear hP6 hk HB
      cases o with
      | true =>
        by_cases hi : i = id
        · have hi2 : (i == id) = true := by simpa using hi
          have HT := hide (show s.busy id = true from (s.busy_iff id).2 ⟨j, hlt, HE.out.1, HE.out.2.trans hi⟩)
          clear hi
          go_wp2
          go_ret
          exact ⟨by rw [HT.out]; rfl, HB6.out⟩
        · have hi2 : (i == id) = false := by simpa using hi
          have HNo2 := hide (show ∀ m, m < j + 1 → ¬ (s.out m = true ∧ s.id m = id) from fun m hm g => by
            by_cases e : m = j
            · rw [e, HE.out.2] at g
              exact hi g.2
            · exact HNo.out m (by omega) g)
          clear hi HNo
          go_wp2
          go_roundw
          case rel => exact ⟨j + 1, by omega, by go_num, HB6.out, HNo2.out⟩
          case measure => simp [intOf]; omega
      | false =>
        have HNo2 := hide (show ∀ m, m < j + 1 → ¬ (s.out m = true ∧ s.id m = id) from fun m hm g => by
          by_cases e : m = j
          · rw [e, HE.out.1] at g
            exact absurd g.1 (by decide)
          · exact HNo.out m (by omega) g)
        clear HNo
        go_wp2
        go_roundw
        case rel => exact ⟨j + 1, by omega, by go_num, HB6.out, HNo2.out⟩
        case measure => simp [intOf]; omega
    · obtain rfl : j = 8 := by omega
      have HT := hide (show s.busy id = false from by
        cases e : s.busy id with
        | false => rfl
        | true =>
          obtain ⟨m, h1, h2⟩ := (s.busy_iff id).1 e
          exact absurd h2 (HNo.out m h1))
      go_wp2
      go_ret
      exact ⟨by rw [HT.out]; rfl, HB.out⟩
end Go.Proofs.Ytfeghhgniahfkaa

/-
  A region that draws its order, walked by hand, operation by operation, each by its number and the slot that it writes. Of no program.
-/
namespace Go.Proofs.Ytfeghhgniahfkaa
open Go.RowKit
set_option linter.unusedVariables false

section
variable {P : Program} {md : Region.Mode} {ops : Array Oper} {Q : Exit → Act → World → Prop} {S : World → Prop} {fuel : Nat} {listed : Array Bool} {a : Act} {w : World} {o : Oper}

theorem hand_take (i : Nat) (d : Option Tmp) (v : Value) (hi : ops[i]? = some o) (hd : o.dst = d) (hs : Region.noSelect ops = true) (hf : Region.free md ops listed i = true) (hr : (Region.ready md ops listed).contains i = true)
    (hQ : ∀ c a w, Q (.panic c) (a.put d v) w → Q (.panic c) a w) (hy : YieldsIf P ops S o v a) (hS : S w)
    (h : wpAnyH P md ops Q S fuel (listed.setIfInBounds i true) (a.put d v) w) : wpAnyH P md ops Q S (fuel + 1) listed a w := by
  subst hd
  exact wpAnyH_take hi hs hf hr hQ hy hS h
theorem hand_one (i : Nat) (hr : Region.ready md ops listed = [i]) (h : wpOp P ops Q i (fun a' w' => S w' ∧ wpAnyH P md ops Q S fuel (listed.setIfInBounds i true) a' w') a w) : wpAnyH P md ops Q S (fuel + 1) listed a w :=
  wpAnyH_all hr (by simp) (fun k hk => by
    obtain rfl : k = i := by simpa using hk
    exact h)
theorem hand_two (i j : Nat) (hr : Region.ready md ops listed = [i, j]) (h : wpOp P ops Q i (fun a' w' => S w' ∧ wpAnyH P md ops Q S fuel (listed.setIfInBounds i true) a' w') a w) (h2 : wpOp P ops Q j (fun a' w' => S w' ∧ wpAnyH P md ops Q S fuel (listed.setIfInBounds j true) a' w') a w) : wpAnyH P md ops Q S (fuel + 1) listed a w :=
  wpAnyH_all hr (by simp) (fun k hk => by
    rcases List.mem_cons.1 hk with rfl | hk
    · exact h
    · obtain rfl : k = j := by simpa using hk
      exact h2)
variable {K : Act → World → Prop} {i : Nat}
theorem hand_call (d : Option Tmp) (ho : ops[i]? = some o) (hd : o.dst = d) (hg : o.guard = none) (f : FuncId) (args : Array Value) (he : (execOp a.eval o).run P w = .ok (.enter f args) w)
    (hc : Calls P f args w fun e w' => ∃ v, e = .returned v ∧ K (a.put d v) w') : wpOp P ops Q i K a w := by
  subst hd
  exact wpOp_step ho (fun K' hK => step_call10 hg f args he (hc.mono fun e w' ⟨v, h1, h2⟩ => ⟨v, h1, hK _ _ h2⟩))
/-- An operation by what it answers. -/
theorem hand_run (d : Option Tmp) (ho : ops[i]? = some o) (hd : o.dst = d) (hg : o.guard = none) (v : Value) (w' : World) (he : (execOp a.eval o).run P w = .ok (.value v) w') (h : K (a.put d v) w') : wpOp P ops Q i K a w := by
  subst hd
  refine wpOp_step ho (fun K' hK => ?_)
  have hw : Region.wanted o (yielded ops a.tmps) = true := by simp [Region.wanted, hg]
  rw [if_pos hw]
  unfold Oper.wp
  rw [he]
  exact hK _ _ h
theorem hand_store (ho : ops[i]? = some o) (hd : o.dst = none) (hg : o.guard = none) (ty : TypeId) (x y : Operand) (hop : o.op = .store ty x y) (g off : Nat) (t : TypeId) (c0 cs : Array Value) (hx : a.eval x = .pointer (some ⟨g, off, none⟩)) (hy : a.eval y = .agg cs) (hr : RowAt w g t c0)
    (hi : (P.info? ty).map (·.size) = some cs.size) (hf : off + cs.size ≤ c0.size) (h1 : cs.all (·.oneCell') = true) (h : ∀ w2, RowAt w2 g t (partA c0 off cs.toList) → Only g w w2 → K a w2) : wpOp P ops Q i K a w := by
  refine wpOp_step ho (fun K' hK => ?_)
  refine step_store_part hg ty x y hop g off t c0 cs hx hy hr hi hf h1 (fun w2 h2 h3 => ?_)
  rw [hd]
  exact hK _ _ (h w2 h2 h3)
theorem exec_load (ty : TypeId) (x : Operand) (ho : o.op = .load ty x) (u : Value) (hu : a.eval x = u) (v : Value) (hv : (Instr.loadAt ty u).run P w = .ok v w) : (execOp a.eval o).run P w = .ok (.value v) w := by
  unfold execOp
  simp only [ho, hu, Sem.run_bind, hv, Result.andThen_ok, Sem.run_pure]
/-- A whole row stored anew. -/
theorem partA_all (c0 cs : Array Value) (h : c0.size = cs.size) : partA c0 0 cs.toList = cs := by
  unfold partA
  rw [List.take_zero, List.nil_append, Array.length_toList, Nat.zero_add, List.drop_of_length_le (by rw [Array.length_toList]; omega), List.append_nil, Array.toArray_toList]
end
end Go.Proofs.Ytfeghhgniahfkaa

/-
  The contract of package store's New.
-/
namespace Go.Proofs.Ytfeghhgniahfkaa
open Go.RowKit
set_option linter.unusedVariables false

/-- The store's block at the beginning. -/
def stZ (v : Value) : Array Value := (v :: (List.replicate 8 (arL (List.replicate 256 0) 0 false)).flatten).toArray
theorem zero66 (v : Value) : Try.zeroCells75.setIfInBounds 0 v = stZ v := by kernel_rfl
theorem stZ_size (v : Value) : (stZ v).size = 2065 := by kernel_rfl
theorem flat_get (c : List Value) (n : Nat) (hc : c.length = n) : ∀ k m j, m < k → j < n → ((List.replicate k c).flatten)[m * n + j]? = c[j]?
  | 0, m, j, hm, _ => absurd hm (by omega)
  | k + 1, 0, j, _, hj => by
    rw [List.replicate_succ, List.flatten_cons, Nat.zero_mul, Nat.zero_add, List.getElem?_append_left (by omega)]
  | k + 1, m + 1, j, hm, hj => by
    rw [List.replicate_succ, List.flatten_cons, List.getElem?_append_right (by rw [hc, Nat.succ_mul]; omega), hc, Nat.succ_mul, show m * n + n + j - n = m * n + j by omega]
    exact flat_get c n hc k m j (by omega) hj
/-- The store behind so many rounds. -/
def Sc.newJ (k j : Nat) : Sc := ⟨k, fun i => if i < j then imageB i Pg.zero else List.replicate 256 0, fun _ => List.replicate 256 0, fun _ => 0, fun _ => false⟩
theorem stZ_sb (gp k : Nat) (s : Sc) (h1 : s.n = k) (h2 : s.ar = fun _ => List.replicate 256 0) (h3 : s.id = fun _ => 0) (h4 : s.out = fun _ => false) : SB (stZ (.slice (some ⟨gp, 0, none⟩) k k)) gp s := by
  refine ⟨stZ_size _, ?_, fun m hm => ?_⟩
  · rw [h1]
    unfold stZ
    rw [List.getElem?_toArray, List.getElem?_cons_zero]
  rw [h2, h3, h4]
  show Lies _ _ (arL (List.replicate 256 0) 0 false)
  intro j hj
  have hl : (arL (List.replicate 256 0) 0 false).length = 258 := arL_length _ _ _ List.length_replicate
  rw [hl] at hj
  have h5 := flat_get (arL (List.replicate 256 0) 0 false) 258 hl 8 m j hm hj
  unfold stZ
  rw [List.getElem?_toArray, show 1 + m * 258 + j = (m * 258 + j) + 1 by omega, List.getElem?_cons_succ, h5]
theorem newJ_wf (k j : Nat) (h : k ≤ 32) : (Sc.newJ k j).wf := by
  refine ⟨h, fun i hi => ?_, fun m _ => List.length_replicate, fun m _ ho => absurd ho (by show ¬ false = true; decide)⟩
  show (if i < j then imageB i Pg.zero else List.replicate 256 0).length = 256
  split
  · exact imageB_length i _ zero_right
  · exact List.length_replicate
theorem infoZ : (Try.prog.info? 70).map (fun i => (i.zero, i.size, i.bytes)) = some (some (.agg (zrow 256).toArray), 256, 256) := by kernel_rfl
theorem agg_cells (z : Array Value) : (Value.agg z).cells = z := rfl
/-- The row of places that was made. -/
def mdP (k : Nat) : Array Value := madeCells (zrow 256).toArray (k * 256)
theorem mdP_eq (k : Nat) (z : Value) (hz : z = .agg (zrow 256).toArray) : madeCells z.cells (k * 256) = mdP k := by
  rw [hz]
  exact congrArg (fun z => madeCells z (k * 256)) (agg_cells _)
theorem zget (n m : Nat) (h : m < n) : (zrow n).toArray[m]! = .int .u8 0 := by
  rw [getElem!_pos _ _ (by simpa [zrow] using h)]
  simp [zrow]
theorem mdP_pb (k : Nat) : PB (mdP k) (Sc.newJ k 0) := by
  refine ⟨size_madeCells _ _, fun i hi => ?_⟩
  have e : (Sc.newJ k 0).pl i = List.replicate 256 0 := by
    show (if i < 0 then imageB i Pg.zero else List.replicate 256 0) = _
    rw [if_neg (by omega)]
  rw [e]
  intro j hj
  rw [toV_length, List.length_replicate] at hj
  have hi' : i < k := hi
  have h1 : i * 256 + j < k * 256 := by omega
  have h2 : (toV (List.replicate 256 0))[j]? = some (.int .u8 0) := by
    rw [← toV_zeros]
    unfold zrow
    rw [List.getElem?_replicate, if_pos hj]
  rw [h2]
  unfold mdP madeCells
  rw [Array.getElem?_map, Array.getElem?_range, if_pos h1, Option.map_some]
  have hz : (zrow 256).toArray.size = 256 := by rw [List.size_toArray, zrow_length]
  rw [hz]
  exact congrArg some (zget 256 _ (Nat.mod_lt _ (by omega)))
theorem run_mkP (k : Nat) (h : k ≤ 32) (w : World) : (Instr.makeSlice 66 (.int .i64 (k : Int)) (.int .i64 (k : Int))).run Try.prog w = .ok (.slice (some ⟨w.heap.size, 0, none⟩) k k) (w.alloc (.cells (mdP k) 70)) := by
  obtain ⟨z, hz0⟩ : ∃ z : Value, z = .agg (zrow 256).toArray := ⟨_, rfl⟩
  have hI := infoZ
  rw [← hz0] at hI
  obtain ⟨i, hi, hz, hs, hb⟩ := info_parts hI
  have hr := run_make (P := Try.prog) w 66 70 i z Try.underlying66 hi hz .i64 .i64 (k : Int) (k : Int) (by omega) (by omega) (by rw [hb]; omega) (by omega)
  rw [Int.toNat_natCast, hs, mdP_eq k z hz0] at hr
  exact hr
theorem newJ_more (k j : Nat) (hj : j < k) : { Sc.newJ k j with pl := put1 (Sc.newJ k j).pl j (imageB j Pg.zero) } = Sc.newJ k (j + 1) := by
  have e : put1 (Sc.newJ k j).pl j (imageB j Pg.zero) = (Sc.newJ k (j + 1)).pl := by
    funext i
    show put1 _ j _ i = if i < j + 1 then _ else _
    by_cases h : i = j
    · rw [h, put1_same, if_pos (by omega)]
    · rw [put1_other _ _ _ _ h]
      show (if i < j then _ else _) = _
      by_cases h2 : i < j
      · rw [if_pos h2, if_pos (by omega)]
      · rw [if_neg h2, if_neg (by omega)]
  rw [e]
  rfl
theorem newJ_done (k : Nat) (w : World) (gs gp : Nat) (h : SAt w gs gp (Sc.newJ k k)) : SAt w gs gp (Sc.new k) := by
  obtain ⟨cs, ps, h⟩ := h
  refine ⟨cs, ps, h.st, h.sb.other _ rfl rfl rfl rfl, h.pr, ⟨h.pb.size, fun i hi => ?_⟩, (Sc.new_ok k h.wf.n).wf⟩
  have h1 := h.pb.pl i hi
  have e : (Sc.newJ k k).pl i = imageB i Pg.zero := if_pos hi
  rw [e] at h1
  exact h1

def npg (p : Int) : Nat := (max 1 (min p 32)).toNat
theorem npg_le (p : Int) : 1 ≤ npg p ∧ npg p ≤ 32 := by unfold npg; omega

set_option maxRecDepth 4000 in
set_option maxHeartbeats 800000 in
theorem new10_go (p : Int) (k : Nat) (w : World) (hk : k ≤ 32) (hk1 : 1 ≤ k) (q : Int) (hq : (if p < 1 then 1 else p) = q) (hp : (if 32 < q then 32 else q) = (k : Int)) :
    Calls Try.prog 9 #[.int .i64 p] w fun e w' => e = .returned (.pointer (some ⟨w.heap.size + 1, 0, none⟩)) ∧ SAt w' (w.heap.size + 1) w.heap.size (Sc.new k) ∧ Below w.heap.size w w' := by
  have hmk := fun w => run_mkP k hk w
  have hs0 := stZ_sb w.heap.size k (Sc.newJ k 0) rfl rfl rfl rfl
  have H0 : Hid (SAt ((w.alloc (.cells (mdP k) 70)).alloc (.cells (stZ (.slice (some ⟨w.heap.size, 0, none⟩) k k)) 75)) (w.heap.size + 1) w.heap.size (Sc.newJ k 0) ∧ Below w.heap.size w ((w.alloc (.cells (mdP k) 70)).alloc (.cells (stZ (.slice (some ⟨w.heap.size, 0, none⟩) k k)) 75))) := by
    have h1 := RowAt.new w 70 (mdP k)
    have h2 := RowAt.new (w.alloc (.cells (mdP k) 70)) 75 (stZ (.slice (some ⟨w.heap.size, 0, none⟩) k k))
    rw [World.size_alloc] at h2
    exact ⟨⟨_, _, h2, hs0, h1.later ((Below.refl _ _).alloc (Nat.le_refl _) _), mdP_pb k, newJ_wf k 0 hk⟩, ((Below.refl _ _).alloc (Nat.le_refl _) _).alloc (by rw [World.size_alloc]; omega) _⟩
  clear hs0
  go_enter Try.func9, Try.ntmps9
  go_wp2_with fail
  rw [zero66]
  refine gen_wp (fun x => Hid (SAt x (w.heap.size + 1) w.heap.size (Sc.newJ k 0) ∧ Below w.heap.size w x)) H0 ?_
  clear H0
  intro w0 H0
  generalize stZ (.slice (some ⟨w.heap.size, 0, none⟩) k k) = Z0
  clear hq hp hmk
  go_loopw [18] (fun i wr => ∃ j : Nat, j ≤ k ∧ i = .int .i64 j ∧ SAt wr (w.heap.size + 1) w.heap.size (Sc.newJ k j) ∧ Below w.heap.size w wr) (fun i _ => k - (intOf i).toNat)
  case atStart => exact ⟨0, by omega, rfl, H0.out⟩
  case round =>
    obtain ⟨j, hj, rfl, hr⟩ := hrel
    have HR := hide hr
    clear hr H0
    by_cases hlt : j < k
    · have i1 : (j : Int) < (k : Int) := by omega
      obtain ⟨im, him⟩ : ∃ im, imageB j Pg.zero = im := ⟨_, rfl⟩
      have hE := enc_right j Pg.zero wr (by omega) zero_right
      have hil := imageB_length j _ zero_right
      rw [him] at hE hil
      have HIM := hide him
      have HE := hide hE
      clear hE him
      go_wp2_with fail
      refine HE.out.mono ?_
      rintro e w1 ⟨v1, rfl, ho1, hb1⟩
      obtain ⟨g1, cap1, rfl, hg1⟩ := own_slice ho1 (by omega)
      have hB1 := ho1.isB hil
      have hc1 := own_cap ho1
      have HR1 := hide (And.intro (HR.out.1.later hb1) (HR.out.2.trans (hb1.mono HR.out.2.size)))
      have HB1 := hide hB1
      clear ho1 hb1 hB1 HR HE hg1
      obtain ⟨cs, ps, hS⟩ := HR1.out.1
      have c0 : w1.cell? ⟨w.heap.size + 1, 0, none⟩ = some (.slice (some ⟨w.heap.size, 0, none⟩) k k) := hS.c0
      have HS := hide hS
      clear hS
      go_wp2_with fail
      refine wp_region_noPanic ?_
      refine wp_region_held_drew (S := fun x => x.cell? ⟨w.heap.size + 1, 0, none⟩ = some (.slice (some ⟨w.heap.size, 0, none⟩) k k)) (by kernel_rfl) (c0) (fun hHeld => ?_)
      refine hand_take 0 (some 27) (.pointer (some ⟨w.heap.size + 1, 0, none⟩)) rfl rfl (by kernel_rfl) (by kernel_rfl) (by kernel_rfl) (fun _ _ _ h => h) (Or.inl ⟨by kernel_rfl, fun x hSx => by go_simp⟩) hHeld ?_
      try simp only [Act.put, List.setIfInBounds_toArray, List.set_cons_zero, List.set_cons_succ]
      refine hand_take 1 (some 28) (.pointer (some ⟨w.heap.size + 1, 0, none⟩)) rfl rfl (by kernel_rfl) (by kernel_rfl) (by kernel_rfl) (fun _ _ _ h => h) (Or.inl ⟨by kernel_rfl, fun x hSx => by go_simp⟩) hHeld ?_
      try simp only [Act.put, List.setIfInBounds_toArray, List.set_cons_zero, List.set_cons_succ]
      refine hand_take 2 (some 29) (.pointer (some ⟨w.heap.size + 1, 0, none⟩)) rfl rfl (by kernel_rfl) (by kernel_rfl) (by kernel_rfl) (fun _ _ _ h => h) (Or.inl ⟨by kernel_rfl, fun x hSx => by go_simp⟩) hHeld ?_
      try simp only [Act.put, List.setIfInBounds_toArray, List.set_cons_zero, List.set_cons_succ]
      refine hand_take 3 (some 30) (.slice (some ⟨w.heap.size, 0, none⟩) k k) rfl rfl (by kernel_rfl) (by kernel_rfl) (by kernel_rfl) (fun _ _ _ h => h) (Or.inl ⟨by kernel_rfl, fun x hSx => by go_simp⟩) hHeld ?_
      try simp only [Act.put, List.setIfInBounds_toArray, List.set_cons_zero, List.set_cons_succ]
      refine hand_take 4 (some 31) (.int .i64 (j : Int)) rfl rfl (by kernel_rfl) (by kernel_rfl) (by kernel_rfl) (fun _ _ _ h => h) (Or.inl ⟨by kernel_rfl, fun x hSx => by go_simp⟩) hHeld ?_
      try simp only [Act.put, List.setIfInBounds_toArray, List.set_cons_zero, List.set_cons_succ]
      refine hand_take 5 (some 32) (.slice (some ⟨g1, 0, none⟩) 256 cap1) rfl rfl (by kernel_rfl) (by kernel_rfl) (by kernel_rfl) (fun _ _ _ h => h) (Or.inl ⟨by kernel_rfl, fun x hSx => by go_simp⟩) hHeld ?_
      try simp only [Act.put, List.setIfInBounds_toArray, List.set_cons_zero, List.set_cons_succ]
      refine hand_one 6 (by kernel_rfl) ?_
      refine hand_call (some 33) rfl rfl rfl 26 #[.slice (some ⟨g1, 0, none⟩) 256 cap1] ?he ((placeOf10 g1 0 cap1 im w1.drew HB1.out hc1).mono ?_)
      (case he => go_simp)
      rintro e w2 ⟨rfl, hb2⟩
      have hb2' : Below w1.heap.size w1 w2 := ⟨hb2.1, hb2.2, hb2.3, hb2.4, hb2.5⟩
      have hS2 := HS.out.later hb2'
      refine ⟨_, rfl, ?_⟩
      refine ⟨hS2.c0, ?_⟩
      try simp only [Act.put, List.setIfInBounds_toArray, List.set_cons_zero, List.set_cons_succ]
      have hHeld := (show w2.cell? ⟨w.heap.size + 1, 0, none⟩ = some (.slice (some ⟨w.heap.size, 0, none⟩) k k) from hS2.c0)
      refine hand_take 7 (some 34) (.pointer (some ⟨w.heap.size, j * 256, none⟩)) rfl rfl (by kernel_rfl) (by kernel_rfl) (by kernel_rfl) (fun _ _ _ h => h) (Or.inl ⟨by kernel_rfl, fun x hSx => by go_simp⟩) hHeld ?_
      try simp only [Act.put, List.setIfInBounds_toArray, List.set_cons_zero, List.set_cons_succ]
      refine hand_one 8 (by kernel_rfl) ?_
      refine hand_store rfl rfl rfl 70 (.tmp 34) (.tmp 33) rfl w.heap.size (j * 256) 70 ps (plA im) rfl rfl hS2.pr (infoPl' _ hil) (by rw [plA_size, hil, hS2.pb.size]; have : (Sc.newJ k j).n = k := rfl; rw [this]; omega) (plA_one _) ?_
      intro w3 h31 h32
      have hS3 : SV w3 (w.heap.size + 1) w.heap.size (Sc.newJ k (j + 1)) cs (partA ps (j * 256) (toV im)) := by
        have hq := hS2.pb.put hS2.wf j hlt im hil
        rw [← HIM.out, newJ_more k j hlt, HIM.out] at hq
        exact ⟨h32.row hS2.st (by omega), hS2.sb.other _ rfl rfl rfl rfl, h31, hq, newJ_wf k (j + 1) hk⟩
      have HR3 := hide (And.intro (show SAt w3 (w.heap.size + 1) w.heap.size (Sc.newJ k (j + 1)) from ⟨_, _, hS3⟩) (h32.below (HR1.out.2.trans (hb2'.mono HR1.out.2.size)) (Nat.le_refl _)))
      refine ⟨hS3.c0, ?_⟩
      try simp only [Act.put, List.setIfInBounds_toArray, List.set_cons_zero, List.set_cons_succ]
      refine wpAnyH_done (by kernel_rfl) ?_ _
      refine NoPanic.normal ?_
      clear hHeld hS3 h31 h32 hS2 hb2 hb2' HR1 HB1 HS c0
      go_wp2
      go_roundw
      case rel => exact ⟨j + 1, by omega, by go_num, HR3.out⟩
      case measure => simp [intOf]; omega
    · obtain rfl : j = k := by omega
      have HF := hide (And.intro (newJ_done _ _ _ _ HR.out.1) HR.out.2)
      clear HR
      go_wp2
      go_ret
      exact ⟨rfl, HF.out⟩
theorem new10 (p : Int) (w : World) :
    Calls Try.prog 9 #[.int .i64 p] w fun e w' => e = .returned (.pointer (some ⟨w.heap.size + 1, 0, none⟩)) ∧ SAt w' (w.heap.size + 1) w.heap.size (Sc.new (npg p)) ∧ Below w.heap.size w w' := by
  have h := npg_le p
  refine new10_go p (npg p) w h.2 h.1 _ rfl ?_
  unfold npg
  split <;> split <;> omega
end Go.Proofs.Ytfeghhgniahfkaa

/-
  A region that draws its order, walked once, in a class of worlds of our own: of no program.
-/
namespace Go.Proofs.Ytfeghhgniahfkaa
open Go.RowKit
set_option linter.unusedVariables false

section
variable {P : Program} {ops : Array Oper} {C : World → Prop} {Q : Act → Prop} {a : Act} {o : Oper} {rest : List Oper}

theorem wp_region_in {id : Nat} {Q : Exit → Act → World → Prop} {a : Act} {w : World} {l : List Oper} (C : World → Prop) (hm : P.follows .mixedOrders = true) (hB : Region.lexB .any l.toArray = true) (hC : C w.drew)
    (h : wpQuiet P l.toArray C (fun a' => ∀ w', C w' → Q .normal a' w') l a) : (Code.region id l.toArray true).wp P Q a w :=
  wp_region_quiet (C := C) hm hB hC (by simpa using h)

/-- An operation that only reads: its value in every world of the class. -/
theorem wpQuiet_val (hw : Region.wanted o (yielded ops a.tmps) = true) (v : Value) (hv : ∀ x, C x → (execOp a.eval o).run P x = .ok (.value v) x) (h : wpQuiet P ops C Q rest (a.put o.dst v)) : wpQuiet P ops C Q (o :: rest) a :=
  BigFrame.wpQuiet_want hw fun K hK => ⟨v, fun x hx => by unfold Oper.quietAt; rw [hv x hx]; exact ⟨rfl, rfl⟩, hK _ h⟩

theorem wpQuiet_convert (hw : Region.wanted o (yielded ops a.tmps) = true) (s t : TypeId) (x : Operand) (ho : o.op = .convert s t x) (u v : Value) (hu : a.eval x = u) (hv : ∀ y, C y → (convert s t u).run P y = .ok v y)
    (h : wpQuiet P ops C Q rest (a.put o.dst v)) : wpQuiet P ops C Q (o :: rest) a :=
  wpQuiet_val hw v (fun y hy => by unfold execOp; simp only [ho, hu, Sem.run_bind, hv y hy, Result.andThen_ok, Sem.run_pure]) h

theorem wpQuiet_load (hw : Region.wanted o (yielded ops a.tmps) = true) (t : TypeId) (x : Operand) (ho : o.op = .load t x) (u v : Value) (hu : a.eval x = u) (hv : ∀ y, C y → (Instr.loadAt t u).run P y = .ok v y)
    (h : wpQuiet P ops C Q rest (a.put o.dst v)) : wpQuiet P ops C Q (o :: rest) a :=
  wpQuiet_val hw v (fun y hy => by unfold execOp; simp only [ho, hu, Sem.run_bind, hv y hy, Result.andThen_ok, Sem.run_pure]) h

theorem wpQuiet_binop (hw : Region.wanted o (yielded ops a.tmps) = true) (op : BinOp) (t r : TypeId) (x y : Operand) (ho : o.op = .binOp op t x y r) (u v z : Value) (hu : a.eval x = u) (hv : a.eval y = v) (hg : ∀ w, (eqGuard op t x y u v).run P w = .ok () w)
    (hz : ∀ w, (binOp op t u v).run P w = .ok z w) (h : wpQuiet P ops C Q rest (a.put o.dst z)) : wpQuiet P ops C Q (o :: rest) a :=
  wpQuiet_val hw z (fun w hw => by unfold execOp; simp only [ho, hu, hv, Sem.run_bind, hg w, hz w, Result.andThen_ok, Sem.run_pure]) h
/-- An operation that no world plays a part in. -/
theorem wpQuiet_plain (hw : Region.wanted o (yielded ops a.tmps) = true) (h : ∀ K : Act → Prop, (∀ a, wpQuiet P ops C Q rest a → K a) → ∃ v, (∀ x : World, (execOp a.eval o).run P x = .ok (.value v) x) ∧ K (a.put o.dst v)) : wpQuiet P ops C Q (o :: rest) a := by
  obtain ⟨v, h1, h2⟩ := h _ (fun _ h => h)
  exact wpQuiet_val hw v (fun x _ => h1 x) h2

/-- A call that leaves a world of the class. -/
theorem wpQuiet_call (hw : Region.wanted o (yielded ops a.tmps) = true) (f : FuncId) (args : Array Value) (v : Value) (he : ∀ x : World, (execOp a.eval o).run P x = .ok (.enter f args) x) (hc : ∀ x, C x → Calls P f args x fun e x' => e = .returned v ∧ C x')
    (h : wpQuiet P ops C Q rest (a.put o.dst v)) : wpQuiet P ops C Q (o :: rest) a :=
  BigFrame.wpQuiet_want hw fun K hK => ⟨v, fun x hx => by unfold Oper.quietAt; rw [he x]; exact ⟨rfl, hc x hx⟩, hK _ h⟩
end
end Go.Proofs.Ytfeghhgniahfkaa

/-
  The contract of package store's Write: where it refuses.
-/
namespace Go.Proofs.Ytfeghhgniahfkaa
open Go.RowKit
set_option linter.unusedVariables false

/-- What the store's calls may turn. -/
def FS (gs gp k : Nat) : Prop := k = gs ∨ k = gp
theorem load10_b {b j : Nat} (x : World) (v : Bool) (h : x.cell? ⟨b, j, none⟩ = some (.bool v)) : (Instr.loadAt 4 (.pointer (some ⟨b, j, none⟩))).run Try.prog x = .ok (.bool v) x := by
  go_simp
theorem load10_u {b j : Nat} (x : World) (v : Int) (h : x.cell? ⟨b, j, none⟩ = some (.int .u64 v)) : (Instr.loadAt 30 (.pointer (some ⟨b, j, none⟩))).run Try.prog x = .ok (.int .u64 v) x := by
  go_simp

set_option maxRecDepth 4000 in
set_option maxHeartbeats 800000 in
theorem write10_arg (v : Option Addr) (n : Nat) (node id : Int) (p : Pg) (mask : Int) (w : World) (HP : ∀ x, Below w.heap.size w x → Calls Try.prog 13 #[.pointer v] x fun e w' => e = .returned (.int .i64 (n : Int)) ∧ x = w')
    (hbad : ¬ ((0 ≤ node ∧ node < 8) ∧ (0 ≤ id ∧ id < (n : Int)) ∧ maskOk mask)) :
    Calls Try.prog 15 #[.pointer v, .int .i64 node, .int .i64 id, .agg (pgA p), .int .i64 mask] w fun e w' => e = .returned (.int .i64 1) ∧ Below w.heap.size w w' := by
  have hb0 : Below w.heap.size w (w.alloc (.cells (pgA p) 35)) := (Below.refl _ _).alloc (Nat.le_refl _) _
  have N := fun w => isNode10 node w
  have H := has10 v n id _ (HP _ hb0)
  have M := fun w => isMask10 mask w
  by_cases h1 : 0 ≤ node ∧ node < 8
  · by_cases h2 : 0 ≤ id ∧ id < (n : Int)
    · have h3 : ¬ maskOk mask := fun g => hbad ⟨h1, h2, g⟩
      rw [decide_eq_true h1] at N
      rw [decide_eq_true h2] at H
      rw [decide_eq_false h3] at M
      have HN := hide N
      have HH := hide H
      have HM := hide M
      clear N H M h1 h2 h3 hbad HP
      go_enter Try.func15, Try.ntmps15
      go_wp2_with fail
      refine (HN.out _).mono ?_
      rintro e w1 ⟨rfl, rfl⟩
      go_wp2_with fail
      refine HH.out.mono ?_
      rintro e w1 ⟨rfl, rfl⟩
      go_wp2_with fail
      refine (HM.out _).mono ?_
      rintro e w1 ⟨rfl, rfl⟩
      go_wp2
      go_ret
      exact ⟨rfl, hb0⟩
    · rw [decide_eq_true h1] at N
      rw [decide_eq_false h2] at H
      have HN := hide N
      have HH := hide H
      clear N H M h1 h2 hbad HP
      go_enter Try.func15, Try.ntmps15
      go_wp2_with fail
      refine (HN.out _).mono ?_
      rintro e w1 ⟨rfl, rfl⟩
      go_wp2_with fail
      refine HH.out.mono ?_
      rintro e w1 ⟨rfl, rfl⟩
      go_wp2
      go_ret
      exact ⟨rfl, hb0⟩
  · rw [decide_eq_false h1] at N
    have HN := hide N
    clear N H M h1 hbad HP
    go_enter Try.func15, Try.ntmps15
    go_wp2_with fail
    refine (HN.out _).mono ?_
    rintro e w1 ⟨rfl, rfl⟩
    go_wp2
    go_ret
    exact ⟨rfl, hb0⟩

section
variable {gs gp : Nat} {s : Sc} (nd i : Nat) (p : Pg) (mask : Int) (w : World)
set_option maxRecDepth 4000 in
set_option maxHeartbeats 800000 in
theorem write10_wrong (h : SAt w gs gp s) (hn : nd < 8) (hi : i < s.n) (hm : maskOk mask) (hp : ¬ p.right) :
    Calls Try.prog 15 #[.pointer (some ⟨gs, 0, none⟩), .int .i64 (nd : Int), .int .i64 (i : Int), .agg (pgA p), .int .i64 mask] w fun e w' => e = .returned (.int .i64 1) ∧ Below w.heap.size w w' := by
  have hb0 : Below w.heap.size w (w.alloc (.cells (pgA p) 35)) := (Below.refl _ _).alloc (Nat.le_refl _) _
  have hP0 : PgAt (w.alloc (.cells (pgA p) 35)) w.heap.size p := heap_alloc_new w _
  have N := fun w => isNode10 nd w
  have H := has10 (some ⟨gs, 0, none⟩) s.n (i : Int) _ (pages10 (h.later hb0))
  have M := fun w => isMask10 mask w
  rw [decide_eq_true (by omega)] at N
  rw [decide_eq_true (by omega)] at H
  rw [decide_eq_true hm] at M
  have HN := hide N
  have HH := hide H
  have HM := hide M
  have HP := hide hP0
  have HE := hide (fun w => enc_wrong (i : Int) p w (by have := h.wf.n; omega) hp)
  clear N H M hP0 hm
  go_enter Try.func15, Try.ntmps15
  go_wp2_with fail
  refine (HN.out _).mono ?_
  rintro e w1 ⟨rfl, rfl⟩
  go_wp2_with fail
  refine HH.out.mono ?_
  rintro e w1 ⟨rfl, rfl⟩
  go_wp2_with fail
  refine (HM.out _).mono ?_
  rintro e w1 ⟨rfl, rfl⟩
  go_wp2_with (refine wpList_load_page rfl _ rfl w.heap.size rfl p HP.out ?_)
  refine (HE.out _).mono ?_
  rintro e w1 ⟨rfl, hb1⟩
  have d1 := hb0.trans (hb1.mono hb0.size)
  clear hb0 hb1
  go_wp2
  go_ret
  exact ⟨rfl, d1⟩

/-- What is kept while Write looks. -/
def Look (w : World) (gs gp : Nat) (s : Sc) (p : Pg) (x : World) : Prop := SAt x gs gp s ∧ PgAt x w.heap.size p ∧ Below w.heap.size w x
theorem Look.later {w x y : World} {gs gp : Nat} {s : Sc} {p : Pg} (h : Look w gs gp s p x) (hb : Below x.heap.size x y) : Look w gs gp s p y :=
  ⟨h.1.later hb, h.2.1.below hb (Array.getElem?_eq_some_iff.1 h.2.1).1, h.2.2.trans (hb.mono h.2.2.size)⟩
theorem SAt.cout {x : World} {gs gp : Nat} {s : Sc} (h : SAt x gs gp s) (m : Nat) (hm : m < 8) : x.cell? ⟨gs, 1 + m * 258 + 257, none⟩ = some (.bool (s.out m)) := by
  obtain ⟨cs, ps, h⟩ := h
  exact h.cout m hm
theorem SAt.cid {x : World} {gs gp : Nat} {s : Sc} (h : SAt x gs gp s) (m : Nat) (hm : m < 8) : x.cell? ⟨gs, 1 + m * 258 + 256, none⟩ = some (.int .i64 (s.id m)) := by
  obtain ⟨cs, ps, h⟩ := h
  exact h.cid m hm
theorem SAt.c0 {x : World} {gs gp : Nat} {s : Sc} (h : SAt x gs gp s) : x.cell? ⟨gs, 0, none⟩ = some (.slice (some ⟨gp, 0, none⟩) s.n s.n) := by
  obtain ⟨cs, ps, h⟩ := h
  exact h.c0

set_option maxRecDepth 4000 in
set_option maxHeartbeats 1600000 in
theorem write10_state (h : SAt w gs gp s) (hn : nd < 8) (hi : i < s.n) (hm : maskOk mask) (hp : p.right) (hst : s.out nd = true ∨ s.busy (i : Int) = true ∨ p.l ≤ (stampB (s.pl i)).1) :
    Calls Try.prog 15 #[.pointer (some ⟨gs, 0, none⟩), .int .i64 (nd : Int), .int .i64 (i : Int), .agg (pgA p), .int .i64 mask] w fun e w' => e = .returned (.int .i64 13) ∧ Below w.heap.size w w' := by
  have hb0 : Below w.heap.size w (w.alloc (.cells (pgA p) 35)) := (Below.refl _ _).alloc (Nat.le_refl _) _
  have hP0 : PgAt (w.alloc (.cells (pgA p) 35)) w.heap.size p := heap_alloc_new w _
  have N := fun w => isNode10 nd w
  have H := has10 (some ⟨gs, 0, none⟩) s.n (i : Int) _ (pages10 (h.later hb0))
  have M := fun w => isMask10 mask w
  rw [decide_eq_true (by omega)] at N
  rw [decide_eq_true (by omega)] at H
  rw [decide_eq_true hm] at M
  have HN := hide N
  have HH := hide H
  have HM := hide M
  have HP := hide (show Look w gs gp s p (w.alloc (.cells (pgA p) 35)) from ⟨h.later hb0, hP0, hb0⟩)
  have HE := hide (fun w => enc_right i p w (by have := h.wf.n; omega) hp)
  have HST := hide hst
  have HI := hide hi
  have hl64 : p.l < 18446744073709551616 := (Pg.right.fits hp).1
  have i1 : (nd : Int) < 8 := by omega
  clear N H M hP0 hm hst hp h hb0 hi
  go_enter Try.func15, Try.ntmps15
  go_wp2_with fail
  refine (HN.out _).mono ?_
  rintro e w1 ⟨rfl, rfl⟩
  go_wp2_with fail
  refine HH.out.mono ?_
  rintro e w1 ⟨rfl, rfl⟩
  go_wp2_with fail
  refine (HM.out _).mono ?_
  rintro e w1 ⟨rfl, rfl⟩
  go_wp2_with (refine wpList_load_page rfl _ rfl w.heap.size rfl p HP.out.2.1 ?_)
  refine (HE.out _).mono ?_
  rintro e w1 ⟨v1, rfl, ho1, hb1⟩
  have HL := hide (HP.out.later hb1)
  obtain ⟨g1, cap1, rfl, hg1⟩ := own_slice ho1 (by omega)
  clear HP HE HM HH HN ho1 hb1 hg1
  obtain ⟨o, hoo⟩ : ∃ o, s.out nd = o := ⟨_, rfl⟩
  obtain ⟨u, huu⟩ : ∃ u, s.busy (i : Int) = u := ⟨_, rfl⟩
  obtain ⟨t, htt⟩ : ∃ t, (stampB (s.pl i)).1 = t := ⟨_, rfl⟩
  obtain ⟨l, hll⟩ : ∃ l, p.l = l := ⟨_, rfl⟩
  rw [hoo, huu, htt, hll] at HST
  rw [hll] at hl64
  have HEQ := hide (And.intro hoo (And.intro huu (And.intro htt hll)))
  clear hoo huu htt hll
  have HQ : Hid (∀ x, Look w gs gp s p x → Look w gs gp s p x.drew) := fun x hx => hx.later ⟨rfl, rfl, rfl, Nat.le_refl _, fun _ _ => rfl⟩
  have fin : o = true ∨ u = true ∨ l ≤ t := HST.out
  cases o with
  | true =>
    go_wp2_with fail
    refine wp_region_in (fun x => Look w gs gp s p x) (by kernel_rfl) (by kernel_rfl) (HQ.out _ HL.out) ?_
    repeat (first
      | go_big_quiet_skip
      | (refine wpQuiet_load rfl 4 _ rfl _ (.bool true) rfl (fun y hy => load10_b y _ ((hy.1.cout nd hn).trans (by rw [HEQ.out.1]))) ?_; simp only [Act.put, Array.setIfInBounds, List.size_toArray, List.length_cons, List.length_nil, Nat.reduceAdd, Nat.reduceLT, ↓reduceDIte, List.set_toArray, List.set_cons_succ, List.set_cons_zero])
      | (refine wpQuiet_plain rfl (fun K hK => ?_); go_simp; refine hK _ ?_; clear hK K))
    refine wpQuiet_nil ?_
    intro x hx
    have hf := hx.2.2
    clear hx
    go_wp2
    go_ret
    exact ⟨rfl, hf⟩
  | false =>
    cases u with
    | true =>
      go_wp2_with fail
      refine wp_region_in (fun x => Look w gs gp s p x) (by kernel_rfl) (by kernel_rfl) (HQ.out _ HL.out) ?_
      repeat (first
        | go_big_quiet_skip
        | (refine wpQuiet_load rfl 4 _ rfl _ (.bool false) rfl (fun y hy => load10_b y _ ((hy.1.cout nd hn).trans (by rw [HEQ.out.1]))) ?_; simp only [Act.put, Array.setIfInBounds, List.size_toArray, List.length_cons, List.length_nil, Nat.reduceAdd, Nat.reduceLT, ↓reduceDIte, List.set_toArray, List.set_cons_succ, List.set_cons_zero])
        | (refine wpQuiet_call rfl 37 #[.pointer (some ⟨gs, 0, none⟩), .int .i64 (i : Int)] (.bool true) ?_ (fun x hC => (under10 (i : Int) hC.1).mono fun e x' h => ⟨h.1.trans (by rw [HEQ.out.2.1]), hC.later h.2⟩) ?_; (intro x; go_simp); simp only [Act.put, Array.setIfInBounds, List.size_toArray, List.length_cons, List.length_nil, Nat.reduceAdd, Nat.reduceLT, ↓reduceDIte, List.set_toArray, List.set_cons_succ, List.set_cons_zero])
        | (refine wpQuiet_plain rfl (fun K hK => ?_); go_simp; refine hK _ ?_; clear hK K))
      refine wpQuiet_nil ?_
      intro x hx
      have hf := hx.2.2
      clear hx
      go_wp2
      go_ret
      exact ⟨rfl, hf⟩
    | false =>
      have hle : l ≤ t := by simpa using fin
      have i3 : (l : Int) ≤ (t : Int) := by omega
      go_wp2_with fail
      refine wp_region_in (fun x => Look w gs gp s p x) (by kernel_rfl) (by kernel_rfl) (HQ.out _ HL.out) ?_
      repeat (first
        | go_big_quiet_skip
        | (refine wpQuiet_load rfl 4 _ rfl _ (.bool false) rfl (fun y hy => load10_b y _ ((hy.1.cout nd hn).trans (by rw [HEQ.out.1]))) ?_; simp only [Act.put, Array.setIfInBounds, List.size_toArray, List.length_cons, List.length_nil, Nat.reduceAdd, Nat.reduceLT, ↓reduceDIte, List.set_toArray, List.set_cons_succ, List.set_cons_zero])
        | (refine wpQuiet_load rfl 30 _ rfl _ (.int .u64 (l : Int)) rfl (fun y hy => load10_u y _ (hy.2.1.lsn.trans (by rw [HEQ.out.2.2.2]))) ?_; simp only [Act.put, Array.setIfInBounds, List.size_toArray, List.length_cons, List.length_nil, Nat.reduceAdd, Nat.reduceLT, ↓reduceDIte, List.set_toArray, List.set_cons_succ, List.set_cons_zero])
        | (refine wpQuiet_call rfl 37 #[.pointer (some ⟨gs, 0, none⟩), .int .i64 (i : Int)] (.bool false) ?_ (fun x hC => (under10 (i : Int) hC.1).mono fun e x' h => ⟨h.1.trans (by rw [HEQ.out.2.1]), hC.later h.2⟩) ?_; (intro x; go_simp); simp only [Act.put, Array.setIfInBounds, List.size_toArray, List.length_cons, List.length_nil, Nat.reduceAdd, Nat.reduceLT, ↓reduceDIte, List.set_toArray, List.set_cons_succ, List.set_cons_zero])
        | (refine wpQuiet_call rfl 38 #[.pointer (some ⟨gs, 0, none⟩), .int .i64 (i : Int)] (.int .u64 (t : Int)) ?_ (fun x hC => (stamp10 i HI.out hC.1).mono fun e x' h => ⟨h.1.trans (by rw [HEQ.out.2.2.1]), hC.later h.2⟩) ?_; (intro x; go_simp); simp only [Act.put, Array.setIfInBounds, List.size_toArray, List.length_cons, List.length_nil, Nat.reduceAdd, Nat.reduceLT, ↓reduceDIte, List.set_toArray, List.set_cons_succ, List.set_cons_zero])
        | (refine wpQuiet_plain rfl (fun K hK => ?_); go_simp; refine hK _ ?_; clear hK K))
      refine wpQuiet_nil ?_
      intro x hx
      have hf := hx.2.2
      clear hx
      go_wp2
      go_ret
      exact ⟨rfl, hf⟩
end
end Go.Proofs.Ytfeghhgniahfkaa

/-
  The contract of package store's Write: where it goes on.
-/
namespace Go.Proofs.Ytfeghhgniahfkaa
open Go.RowKit
set_option linter.unusedVariables false

theorem Only.tn {g : Nat} {w w' : World} (p : Only g w w') (F : Nat → Prop) (h : F g) : Tn F w w' := ⟨p.os, p.tape, p.output, Nat.le_of_eq p.size, fun k _ hn => p.block k (fun e => hn (by rw [e]; exact h))⟩
theorem dq {x : World} : Below x.heap.size x x.drew := ⟨rfl, rfl, rfl, Nat.le_refl _, fun _ _ => rfl⟩
theorem undq {x y : World} (h : Below x.drew.heap.size x.drew y) : Below x.heap.size x y := ⟨h.1, h.2, h.3, h.4, h.5⟩
theorem zPl : Try.zeroCells70.size = 256 := by rw [zero10, List.size_toArray, zrow_length]

section
variable {gs gp : Nat} {s : Sc} (nd i : Nat) (p : Pg) (mk : Nat) (w : World)
set_option maxRecDepth 4000 in
set_option maxHeartbeats 3200000 in
theorem write10_go (h : SAt w gs gp s) (hn : nd < 8) (hi : i < s.n) (hm : maskOk (mk : Int)) (hp : p.right) (ho : s.out nd = false) (hu : s.busy (i : Int) = false) (hl : (stampB (s.pl i)).1 < p.l) (r : Int) (HR : Hid (r = if mk = 15 then 0 else 9)) :
    Calls Try.prog 15 #[.pointer (some ⟨gs, 0, none⟩), .int .i64 (nd : Int), .int .i64 (i : Int), .agg (pgA p), .int .i64 (mk : Int)] w fun e w' => e = .returned (.int .i64 r) ∧ SAt w' gs gp (s.wGo nd i p mk) ∧ Tn (FS gs gp) w w' := by
  have hb0 : Below w.heap.size w (w.alloc (.cells (pgA p) 35)) := (Below.refl _ _).alloc (Nat.le_refl _) _
  have hP0 : PgAt (w.alloc (.cells (pgA p) 35)) w.heap.size p := heap_alloc_new w _
  have N := fun w => isNode10 nd w
  have H := has10 (some ⟨gs, 0, none⟩) s.n (i : Int) _ (pages10 (h.later hb0))
  have M := fun w => isMask10 mk w
  rw [decide_eq_true (by omega)] at N
  rw [decide_eq_true (by omega)] at H
  rw [decide_eq_true hm] at M
  have HN := hide N
  have HH := hide H
  have HM := hide M
  have HP := hide (show Look w gs gp s p (w.alloc (.cells (pgA p) 35)) from ⟨h.later hb0, hP0, hb0⟩)
  obtain ⟨im, him⟩ : ∃ im, imageB i p = im := ⟨_, rfl⟩
  have hE := fun w => enc_right i p w (by have := h.wf.n; omega) hp
  have hil := imageB_length i p hp
  rw [him] at hE hil
  have HE := hide hE
  have HIM := hide him
  have HI := hide hi
  have hm16 : mk < 16 := by omega
  have hl64 : p.l < 18446744073709551616 := (Pg.right.fits hp).1
  have i1 : (nd : Int) < 8 := by omega
  have HST := hide (And.intro ho hu)
  obtain ⟨t, htt⟩ : ∃ t, (stampB (s.pl i)).1 = t := ⟨_, rfl⟩
  obtain ⟨l, hll⟩ : ∃ l, p.l = l := ⟨_, rfl⟩
  rw [hll] at hl64
  rw [htt, hll] at hl
  have HEQ := hide (And.intro htt hll)
  have i3 : ¬ (l : Int) ≤ (t : Int) := by omega
  have hLT := h.lt
  have HLT := hide hLT
  clear N H M hP0 hp hb0 hE him ho hu htt hll hLT h
  go_enter Try.func15, Try.ntmps15
  go_wp2_with fail
  refine (HN.out _).mono ?_
  rintro e w1 ⟨rfl, rfl⟩
  go_wp2_with fail
  refine HH.out.mono ?_
  rintro e w1 ⟨rfl, rfl⟩
  go_wp2_with fail
  refine (HM.out _).mono ?_
  rintro e w1 ⟨rfl, rfl⟩
  go_wp2_with (refine wpList_load_page rfl _ rfl w.heap.size rfl p HP.out.2.1 ?_)
  refine (HE.out _).mono ?_
  rintro e w1 ⟨v1, rfl, ho1, hb1⟩
  obtain ⟨g1, cap1, rfl, hg1⟩ := own_slice ho1 (by omega)
  have HL := hide (And.intro ((HP.out.later hb1).later dq) (show IsB w1.drew (some ⟨g1, 0, none⟩) 256 im from (ho1.isB hil).below dq))
  have hc1 := own_cap ho1
  clear HP HE HM HH HN ho1 hb1 hg1
  go_wp2_with fail
  refine wp_region_in (fun x => Look w gs gp s p x ∧ IsB x (some ⟨g1, 0, none⟩) 256 im) (by kernel_rfl) (by kernel_rfl) HL.out ?_
  repeat (first
    | go_big_quiet_skip
    | (refine wpQuiet_load rfl 4 _ rfl _ (.bool false) rfl (fun y hy => load10_b y _ ((hy.1.1.cout nd hn).trans (by rw [HST.out.1]))) ?_; simp only [Act.put, Array.setIfInBounds, List.size_toArray, List.length_cons, List.length_nil, Nat.reduceAdd, Nat.reduceLT, ↓reduceDIte, List.set_toArray, List.set_cons_succ, List.set_cons_zero])
    | (refine wpQuiet_load rfl 30 _ rfl _ (.int .u64 (l : Int)) rfl (fun y hy => load10_u y _ (hy.1.2.1.lsn.trans (by rw [HEQ.out.2]))) ?_; simp only [Act.put, Array.setIfInBounds, List.size_toArray, List.length_cons, List.length_nil, Nat.reduceAdd, Nat.reduceLT, ↓reduceDIte, List.set_toArray, List.set_cons_succ, List.set_cons_zero])
    | (refine wpQuiet_call rfl 37 #[.pointer (some ⟨gs, 0, none⟩), .int .i64 (i : Int)] (.bool false) ?_ (fun x hC => (under10 (i : Int) hC.1.1).mono fun e x' h => ⟨h.1.trans (by rw [HST.out.2]), hC.1.later h.2, hC.2.below h.2⟩) ?_; (intro x; go_simp); simp only [Act.put, Array.setIfInBounds, List.size_toArray, List.length_cons, List.length_nil, Nat.reduceAdd, Nat.reduceLT, ↓reduceDIte, List.set_toArray, List.set_cons_succ, List.set_cons_zero])
    | (refine wpQuiet_call rfl 38 #[.pointer (some ⟨gs, 0, none⟩), .int .i64 (i : Int)] (.int .u64 (t : Int)) ?_ (fun x hC => (stamp10 i HI.out hC.1.1).mono fun e x' h => ⟨h.1.trans (by rw [HEQ.out.1]), hC.1.later h.2, hC.2.below h.2⟩) ?_; (intro x; go_simp); simp only [Act.put, Array.setIfInBounds, List.size_toArray, List.length_cons, List.length_nil, Nat.reduceAdd, Nat.reduceLT, ↓reduceDIte, List.set_toArray, List.set_cons_succ, List.set_cons_zero])
    | (refine wpQuiet_plain rfl (fun K hK => ?_); go_simp; refine hK _ ?_; clear hK K))
  refine wpQuiet_nil ?_
  intro x hx
  have HX := hide (And.intro hx.1.1 (And.intro hx.1.2.2 hx.2))
  clear hx HL HEQ
  go_wp2_with fail
  clear hl hl64 i3
  refine wp_region_noPanic ?_
  refine wp_region_held_drew (S := fun _ => True) (by kernel_rfl) (trivial) (fun hHeld => ?_)
  refine hand_take 0 (some 58) (.slice (some ⟨g1, 0, none⟩) 256 cap1) rfl rfl (by kernel_rfl) (by kernel_rfl) (by kernel_rfl) (fun _ _ _ h => h) (Or.inl ⟨by kernel_rfl, fun x hSx => by go_simp⟩) hHeld ?_
  try simp only [Act.put, List.setIfInBounds_toArray, List.set_cons_zero, List.set_cons_succ]
  refine hand_take 2 (some 60) (.pointer (some ⟨gs, 0, none⟩)) rfl rfl (by kernel_rfl) (by kernel_rfl) (by kernel_rfl) (fun _ _ _ h => h) (Or.inl ⟨by kernel_rfl, fun x hSx => by go_simp⟩) hHeld ?_
  try simp only [Act.put, List.setIfInBounds_toArray, List.set_cons_zero, List.set_cons_succ]
  refine hand_take 3 (some 61) (.int .i64 (nd : Int)) rfl rfl (by kernel_rfl) (by kernel_rfl) (by kernel_rfl) (fun _ _ _ h => h) (Or.inl ⟨by kernel_rfl, fun x hSx => by go_simp⟩) hHeld ?_
  try simp only [Act.put, List.setIfInBounds_toArray, List.set_cons_zero, List.set_cons_succ]
  refine hand_take 4 (some 62) (.pointer (some ⟨gs, 0, none⟩)) rfl rfl (by kernel_rfl) (by kernel_rfl) (by kernel_rfl) (fun _ _ _ h => h) (Or.inl ⟨by kernel_rfl, fun x hSx => by go_simp⟩) hHeld ?_
  try simp only [Act.put, List.setIfInBounds_toArray, List.set_cons_zero, List.set_cons_succ]
  refine hand_take 5 (some 63) (.pointer (some ⟨gs, 1, none⟩)) rfl rfl (by kernel_rfl) (by kernel_rfl) (by kernel_rfl) (fun _ _ _ h => h) (Or.inl ⟨by kernel_rfl, fun x hSx => by go_simp⟩) hHeld ?_
  try simp only [Act.put, List.setIfInBounds_toArray, List.set_cons_zero, List.set_cons_succ]
  refine hand_take 6 (some 64) (.pointer (some ⟨gs, 1 + nd * 258, none⟩)) rfl rfl (by kernel_rfl) (by kernel_rfl) (by kernel_rfl) (fun _ _ _ h => h) (Or.inl ⟨by kernel_rfl, fun x hSx => by go_simp⟩) hHeld ?_
  try simp only [Act.put, List.setIfInBounds_toArray, List.set_cons_zero, List.set_cons_succ]
  refine hand_two 1 7 (by kernel_rfl) ?_ ?_
  · refine hand_call (some 59) rfl rfl rfl 26 #[.slice (some ⟨g1, 0, none⟩) 256 cap1] ?he ((placeOf10 g1 0 cap1 im x.drew (HX.out.2.2.below dq) hc1).mono ?_)
    (case he => go_simp)
    rintro e w2 ⟨rfl, hb2⟩
    have hb2' := undq hb2
    refine ⟨_, rfl, ?_⟩
    refine ⟨trivial, ?_⟩
    try simp only [Act.put, List.setIfInBounds_toArray, List.set_cons_zero, List.set_cons_succ]
    refine hand_one 7 (by kernel_rfl) ?_
    refine hand_run (some 13) rfl rfl rfl (.pointer (some ⟨w2.heap.size, 0, none⟩)) (w2.alloc (.cells Try.zeroCells70 70)) ?hz ?_
    (case hz => go_simp)
    refine ⟨trivial, ?_⟩
    try simp only [Act.put, List.setIfInBounds_toArray, List.set_cons_zero, List.set_cons_succ]
    refine hand_one 8 (by kernel_rfl) ?_
    refine hand_store rfl rfl rfl 70 (.tmp 13) (.tmp 59) rfl w2.heap.size 0 70 Try.zeroCells70 (plA im) rfl rfl (RowAt.new w2 _ _) (infoPl' _ hil) (by rw [plA_size, hil, zPl]; omega) (plA_one _) ?_
    intro w3 h31 h32
    rw [partA_all _ _ (by rw [zPl, plA_size, hil])] at h31
    have hb3 := h32.below (hb2'.alloc hb2'.size (.cells Try.zeroCells70 70)) hb2'.size
    obtain ⟨gB, hgB⟩ : ∃ gB, w2.heap.size = gB := ⟨_, rfl⟩
    have H3 := hide (And.intro (HX.out.1.later hb3) (And.intro (HX.out.2.1.trans (hb3.mono HX.out.2.1.size)) (And.intro h31 (show gs < w2.heap.size ∧ gp < w2.heap.size from by have h1 := HX.out.1.lt; have h2 := hb2'.size; omega))))
    rw [hgB] at H3 ⊢
    refine ⟨trivial, ?_⟩
    try simp only [Act.put, List.setIfInBounds_toArray, List.set_cons_zero, List.set_cons_succ]
    refine hand_one 9 (by kernel_rfl) ?_
    refine hand_run (some 14) rfl rfl rfl (.pointer (some ⟨gs, 1 + nd * 258, none⟩)) w3 ?hz ?_
    (case hz => go_simp)
    refine ⟨trivial, ?_⟩
    try simp only [Act.put, List.setIfInBounds_toArray, List.set_cons_zero, List.set_cons_succ]
    refine wpAnyH_done (by kernel_rfl) ?_ _
    refine NoPanic.normal ?_
    clear hgB h31 h32 hb3 hb2 hb2' HX hHeld
    go_wp2_with fail
    obtain ⟨cs, ps, hS⟩ := H3.out.1
    have HS := hide hS
    have hLB := HLT.out
    have hgB : gs ≠ gB ∧ gp ≠ gB := by have := H3.out.2.2.2; omega
    have HGB := hide hgB
    clear hgB hLB hS
    refine wp_region_noPanic ?_
    refine wp_region_held_drew (S := fun y => RowAt y gB 70 (plA im)) (by kernel_rfl) (H3.out.2.2.1) (fun hHeld => ?_)
    refine hand_take 0 (some 65) (.pointer (some ⟨gs, 1 + nd * 258, none⟩)) rfl rfl (by kernel_rfl) (by kernel_rfl) (by kernel_rfl) (fun _ _ _ h => h) (Or.inl ⟨by kernel_rfl, fun x hSx => by go_simp⟩) hHeld ?_
    try simp only [Act.put, List.setIfInBounds_toArray, List.set_cons_zero, List.set_cons_succ]
    refine hand_take 1 (some 66) (.pointer (some ⟨gs, 1 + nd * 258, none⟩)) rfl rfl (by kernel_rfl) (by kernel_rfl) (by kernel_rfl) (fun _ _ _ h => h) (Or.inl ⟨by kernel_rfl, fun x hSx => by go_simp⟩) hHeld ?_
    try simp only [Act.put, List.setIfInBounds_toArray, List.set_cons_zero, List.set_cons_succ]
    refine hand_take 2 (some 67) (.pointer (some ⟨gs, 1 + nd * 258, none⟩)) rfl rfl (by kernel_rfl) (by kernel_rfl) (by kernel_rfl) (fun _ _ _ h => h) (Or.inl ⟨by kernel_rfl, fun x hSx => by go_simp⟩) hHeld ?_
    try simp only [Act.put, List.setIfInBounds_toArray, List.set_cons_zero, List.set_cons_succ]
    refine hand_take 3 (some 68) (.pointer (some ⟨gs, 1 + nd * 258, none⟩)) rfl rfl (by kernel_rfl) (by kernel_rfl) (by kernel_rfl) (fun _ _ _ h => h) (Or.inl ⟨by kernel_rfl, fun x hSx => by go_simp⟩) hHeld ?_
    try simp only [Act.put, List.setIfInBounds_toArray, List.set_cons_zero, List.set_cons_succ]
    refine hand_take 5 (some 70) (.agg (plA im)) rfl rfl (by kernel_rfl) (by kernel_rfl) (by kernel_rfl) (fun _ _ _ h => h) (yieldsIf_load_run (by kernel_rfl) 70 _ rfl (.pointer (some ⟨gB, 0, none⟩)) rfl _ (fun x hSx => load_whole x gB im hil hSx)) hHeld ?_
    try simp only [Act.put, List.setIfInBounds_toArray, List.set_cons_zero, List.set_cons_succ]
    refine hand_take 6 (some 71) (.int .i64 (mk : Int)) rfl rfl (by kernel_rfl) (by kernel_rfl) (by kernel_rfl) (fun _ _ _ h => h) (Or.inl ⟨by kernel_rfl, fun x hSx => by go_simp⟩) hHeld ?_
    try simp only [Act.put, List.setIfInBounds_toArray, List.set_cons_zero, List.set_cons_succ]
    refine hand_one 4 (by kernel_rfl) ?_
    refine hand_run (some 69) rfl rfl rfl (.agg (plA (s.ar nd))) _ (exec_load 70 _ rfl (.pointer (some ⟨gs, 1 + nd * 258, none⟩)) rfl _ (load_ar w3.drew (HS.out.later dq) nd hn)) ?_
    refine ⟨hHeld, ?_⟩
    try simp only [Act.put, List.setIfInBounds_toArray, List.set_cons_zero, List.set_cons_succ]
    refine hand_one 7 (by kernel_rfl) ?_
    refine hand_call (some 72) rfl rfl rfl 34 #[.agg (plA (s.ar nd)), .agg (plA im), .int .i64 (mk : Int)] ?he ((laid10 (s.ar nd) im mk w3.drew (HS.out.wf.ar nd hn) hil hm16).mono ?_)
    (case he => go_simp)
    rintro e w5 ⟨rfl, hb5⟩
    have hb5' := undq hb5
    have hS5 := HS.out.later hb5'
    have hB5 := H3.out.2.2.1.later hb5'
    refine ⟨_, rfl, ?_⟩
    refine ⟨hB5, ?_⟩
    try simp only [Act.put, List.setIfInBounds_toArray, List.set_cons_zero, List.set_cons_succ]
    have hHeld := hB5
    refine hand_take 8 (some 73) (.pointer (some ⟨gs, 1 + nd * 258, none⟩)) rfl rfl (by kernel_rfl) (by kernel_rfl) (by kernel_rfl) (fun _ _ _ h => h) (Or.inl ⟨by kernel_rfl, fun x hSx => by go_simp⟩) hHeld ?_
    try simp only [Act.put, List.setIfInBounds_toArray, List.set_cons_zero, List.set_cons_succ]
    refine hand_take 9 (some 74) (.pointer (some ⟨gs, 1 + nd * 258, none⟩)) rfl rfl (by kernel_rfl) (by kernel_rfl) (by kernel_rfl) (fun _ _ _ h => h) (Or.inl ⟨by kernel_rfl, fun x hSx => by go_simp⟩) hHeld ?_
    try simp only [Act.put, List.setIfInBounds_toArray, List.set_cons_zero, List.set_cons_succ]
    have hlay := layB_length (s.ar nd) im mk (HS.out.wf.ar nd hn) hil
    refine hand_one 10 (by kernel_rfl) ?_
    refine hand_store rfl rfl rfl 70 (.tmp 74) (.tmp 72) rfl gs (1 + nd * 258) 75 cs (plA (layB (s.ar nd) im mk)) rfl rfl hS5.st (infoPl' _ hlay) (by rw [plA_size, hlay]; exact (hS5.sb.ext hS5.wf nd hn).2) (plA_one _) ?_
    intro w6 h61 h62
    have hS6 : SV w6 gs gp { s with ar := put1 s.ar nd (layB (s.ar nd) im mk) } (partA cs (1 + nd * 258) (toV (layB (s.ar nd) im mk))) ps := ⟨h61, hS5.sb.put hS5.wf nd hn _ hlay, h62.row hS5.pr (fun e => hS5.ne e.symm), hS5.pb.other _ rfl rfl, ⟨hS5.wf.n, hS5.wf.pl, fun m hm => by
      show (put1 s.ar nd _ m).length = 256
      by_cases e : m = nd
      · rw [e, put1_same]
        exact hlay
      · rw [put1_other _ _ _ _ e]
        exact hS5.wf.ar m hm, hS5.wf.id⟩⟩
    have hB6 := h62.row hB5 (fun e => HGB.out.1 e.symm)
    have hT6 : Tn (FS gs gp) w w6 := (Tn.of_below (H3.out.2.1.trans (hb5'.mono H3.out.2.1.size))).then (h62.tn (FS gs gp) (.inl rfl))
    refine ⟨hB6, ?_⟩
    try simp only [Act.put, List.setIfInBounds_toArray, List.set_cons_zero, List.set_cons_succ]
    refine wpAnyH_done (by kernel_rfl) ?_ _
    refine NoPanic.normal ?_
    have H6 := hide (And.intro hS6 (And.intro hB6 hT6))
    obtain ⟨cs6, hcs6⟩ : ∃ c, partA cs (1 + nd * 258) (toV (layB (s.ar nd) im mk)) = c := ⟨_, rfl⟩
    rw [hcs6] at H6
    have c06 := hS6.c0
    have c06 : w6.cell? ⟨gs, 0, none⟩ = some (.slice (some ⟨gp, 0, none⟩) s.n s.n) := c06
    have C06 := hide c06
    clear hcs6 c06 hS6 hB6 hT6 h61 h62 hlay hS5 hB5 hb5 hb5' hHeld HS H3
    have i4 : (i : Int) < (s.n : Int) := by have := HI.out; omega
    obtain ⟨q, hq⟩ : ∃ q, mk / 4 = q := ⟨_, rfl⟩
    have i5 : ((mk : Int) / 4) = (q : Int) := by omega
    have i7 : q < 16 := by omega
    have HQ := hide hq
    clear hq
    go_wp2_with fail
    refine wp_region_noPanic ?_
    refine wp_region_held_drew (S := fun y => y.cell? ⟨gs, 0, none⟩ = some (.slice (some ⟨gp, 0, none⟩) s.n s.n) ∧ RowAt y gB 70 (plA im)) (by kernel_rfl) (⟨C06.out, H6.out.2.1⟩) (fun hHeld => ?_)
    refine hand_take 0 (some 75) (.pointer (some ⟨gs, 0, none⟩)) rfl rfl (by kernel_rfl) (by kernel_rfl) (by kernel_rfl) (fun _ _ _ h => h) (Or.inl ⟨by kernel_rfl, fun x hSx => by go_simp⟩) hHeld ?_
    try simp only [Act.put, List.setIfInBounds_toArray, List.set_cons_zero, List.set_cons_succ]
    refine hand_take 1 (some 76) (.pointer (some ⟨gs, 0, none⟩)) rfl rfl (by kernel_rfl) (by kernel_rfl) (by kernel_rfl) (fun _ _ _ h => h) (Or.inl ⟨by kernel_rfl, fun x hSx => by go_simp⟩) hHeld ?_
    try simp only [Act.put, List.setIfInBounds_toArray, List.set_cons_zero, List.set_cons_succ]
    refine hand_take 2 (some 77) (.pointer (some ⟨gs, 0, none⟩)) rfl rfl (by kernel_rfl) (by kernel_rfl) (by kernel_rfl) (fun _ _ _ h => h) (Or.inl ⟨by kernel_rfl, fun x hSx => by go_simp⟩) hHeld ?_
    try simp only [Act.put, List.setIfInBounds_toArray, List.set_cons_zero, List.set_cons_succ]
    refine hand_take 3 (some 78) (.slice (some ⟨gp, 0, none⟩) s.n s.n) rfl rfl (by kernel_rfl) (by kernel_rfl) (by kernel_rfl) (fun _ _ _ h => h) (Or.inl ⟨by kernel_rfl, fun x hSx => by have h := hSx.1; go_simp⟩) hHeld ?_
    try simp only [Act.put, List.setIfInBounds_toArray, List.set_cons_zero, List.set_cons_succ]
    refine hand_take 4 (some 79) (.int .i64 (i : Int)) rfl rfl (by kernel_rfl) (by kernel_rfl) (by kernel_rfl) (fun _ _ _ h => h) (Or.inl ⟨by kernel_rfl, fun x hSx => by go_simp⟩) hHeld ?_
    try simp only [Act.put, List.setIfInBounds_toArray, List.set_cons_zero, List.set_cons_succ]
    refine hand_take 5 (some 80) (.pointer (some ⟨gs, 0, none⟩)) rfl rfl (by kernel_rfl) (by kernel_rfl) (by kernel_rfl) (fun _ _ _ h => h) (Or.inl ⟨by kernel_rfl, fun x hSx => by go_simp⟩) hHeld ?_
    try simp only [Act.put, List.setIfInBounds_toArray, List.set_cons_zero, List.set_cons_succ]
    refine hand_take 6 (some 81) (.pointer (some ⟨gs, 0, none⟩)) rfl rfl (by kernel_rfl) (by kernel_rfl) (by kernel_rfl) (fun _ _ _ h => h) (Or.inl ⟨by kernel_rfl, fun x hSx => by go_simp⟩) hHeld ?_
    try simp only [Act.put, List.setIfInBounds_toArray, List.set_cons_zero, List.set_cons_succ]
    refine hand_take 7 (some 82) (.pointer (some ⟨gs, 0, none⟩)) rfl rfl (by kernel_rfl) (by kernel_rfl) (by kernel_rfl) (fun _ _ _ h => h) (Or.inl ⟨by kernel_rfl, fun x hSx => by go_simp⟩) hHeld ?_
    try simp only [Act.put, List.setIfInBounds_toArray, List.set_cons_zero, List.set_cons_succ]
    refine hand_take 8 (some 83) (.slice (some ⟨gp, 0, none⟩) s.n s.n) rfl rfl (by kernel_rfl) (by kernel_rfl) (by kernel_rfl) (fun _ _ _ h => h) (Or.inl ⟨by kernel_rfl, fun x hSx => by have h := hSx.1; go_simp⟩) hHeld ?_
    try simp only [Act.put, List.setIfInBounds_toArray, List.set_cons_zero, List.set_cons_succ]
    refine hand_take 9 (some 84) (.int .i64 (i : Int)) rfl rfl (by kernel_rfl) (by kernel_rfl) (by kernel_rfl) (fun _ _ _ h => h) (Or.inl ⟨by kernel_rfl, fun x hSx => by go_simp⟩) hHeld ?_
    try simp only [Act.put, List.setIfInBounds_toArray, List.set_cons_zero, List.set_cons_succ]
    refine hand_take 10 (some 85) (.pointer (some ⟨gp, i * 256, none⟩)) rfl rfl (by kernel_rfl) (by kernel_rfl) (by kernel_rfl) (fun _ _ _ h => h) (Or.inl ⟨by kernel_rfl, fun x hSx => by go_simp⟩) hHeld ?_
    try simp only [Act.put, List.setIfInBounds_toArray, List.set_cons_zero, List.set_cons_succ]
    refine hand_take 12 (some 87) (.agg (plA im)) rfl rfl (by kernel_rfl) (by kernel_rfl) (by kernel_rfl) (fun _ _ _ h => h) (yieldsIf_load_run (by kernel_rfl) 70 _ rfl (.pointer (some ⟨gB, 0, none⟩)) rfl _ (fun x hSx => load_whole x gB im hil hSx.2)) hHeld ?_
    try simp only [Act.put, List.setIfInBounds_toArray, List.set_cons_zero, List.set_cons_succ]
    refine hand_take 13 (some 88) (.int .i64 (mk : Int)) rfl rfl (by kernel_rfl) (by kernel_rfl) (by kernel_rfl) (fun _ _ _ h => h) (Or.inl ⟨by kernel_rfl, fun x hSx => by go_simp⟩) hHeld ?_
    try simp only [Act.put, List.setIfInBounds_toArray, List.set_cons_zero, List.set_cons_succ]
    refine hand_take 14 (some 89) (.int .i64 (q : Int)) rfl rfl (by kernel_rfl) (by kernel_rfl) (by kernel_rfl) (fun _ _ _ h => h) (Or.inl ⟨by kernel_rfl, fun x hSx => by go_simp⟩) hHeld ?_
    try simp only [Act.put, List.setIfInBounds_toArray, List.set_cons_zero, List.set_cons_succ]
    refine hand_one 11 (by kernel_rfl) ?_
    refine hand_run (some 86) rfl rfl rfl (.agg (plA (s.pl i))) _ (exec_load 70 _ rfl (.pointer (some ⟨gp, i * 256, none⟩)) rfl _ (load_pl w6.drew (H6.out.1.later dq) i HI.out)) ?_
    refine ⟨hHeld, ?_⟩
    try simp only [Act.put, List.setIfInBounds_toArray, List.set_cons_zero, List.set_cons_succ]
    refine hand_one 15 (by kernel_rfl) ?_
    refine hand_call (some 90) rfl rfl rfl 34 #[.agg (plA (s.pl i)), .agg (plA im), .int .i64 (q : Int)] ?he ((laid10 (s.pl i) im q w6.drew (H6.out.1.wf.pl i HI.out) hil i7).mono ?_)
    (case he => go_simp)
    rintro e w7 ⟨rfl, hb7⟩
    have hb7' := undq hb7
    have hS7 := H6.out.1.later hb7'
    have hB7 := H6.out.2.1.later hb7'
    have c07 : w7.cell? ⟨gs, 0, none⟩ = some (.slice (some ⟨gp, 0, none⟩) s.n s.n) := hS7.c0
    refine ⟨_, rfl, ?_⟩
    refine ⟨⟨c07, hB7⟩, ?_⟩
    try simp only [Act.put, List.setIfInBounds_toArray, List.set_cons_zero, List.set_cons_succ]
    have hHeld := And.intro c07 hB7
    refine hand_take 16 (some 91) (.pointer (some ⟨gp, i * 256, none⟩)) rfl rfl (by kernel_rfl) (by kernel_rfl) (by kernel_rfl) (fun _ _ _ h => h) (Or.inl ⟨by kernel_rfl, fun x hSx => by go_simp⟩) hHeld ?_
    try simp only [Act.put, List.setIfInBounds_toArray, List.set_cons_zero, List.set_cons_succ]
    have hlay := layB_length (s.pl i) im q (H6.out.1.wf.pl i HI.out) hil
    refine hand_one 17 (by kernel_rfl) ?_
    refine hand_store rfl rfl rfl 70 (.tmp 91) (.tmp 90) rfl gp (i * 256) 70 ps (plA (layB (s.pl i) im q)) rfl rfl hS7.pr (infoPl' _ hlay) (by rw [plA_size, hlay]; exact (hS7.pb.ext hS7.wf i HI.out).2) (plA_one _) ?_
    intro w8 h81 h82
    have hP8 := hS7.pb.put hS7.wf i HI.out _ hlay
    have hst8 := h82.row hS7.st hS7.ne
    have hB8 := h82.row hB7 (fun e => HGB.out.2 e.symm)
    have hT8 : Tn (FS gs gp) w w8 := (H6.out.2.2.later hb7').then (h82.tn (FS gs gp) (.inr rfl))
    have hS8 : SV w8 gs gp ⟨s.n, put1 s.pl i (layB (s.pl i) im q), put1 s.ar nd (layB (s.ar nd) im mk), s.id, s.out⟩ cs6 _ := ⟨hst8, hS7.sb.other _ rfl rfl rfl rfl, h81, hP8, ⟨hS7.wf.n, fun k hk => by
      show (put1 s.pl i _ k).length = 256
      by_cases e : k = i
      · rw [e, put1_same]
        exact hlay
      · rw [put1_other _ _ _ _ e]
        exact hS7.wf.pl k hk, hS7.wf.ar, hS7.wf.id⟩⟩
    refine ⟨⟨hst8.cell 0 _ hS7.sb.sl, hB8⟩, ?_⟩
    try simp only [Act.put, List.setIfInBounds_toArray, List.set_cons_zero, List.set_cons_succ]
    refine wpAnyH_done (by kernel_rfl) ?_ _
    refine NoPanic.normal ?_
    have H8 := hide (And.intro hS8 hT8)
    have d1 := hS8.cid nd hn
    have d2 := hS8.cout nd hn
    have f1 := hS8.st.free (1 + nd * 258 + 256)
    have f2 := hS8.st.free (1 + nd * 258 + 257)
    clear hS8 hT8 hB8 hst8 hP8 h81 h82 hlay hHeld c07 hB7 hS7 hb7 hb7' H6 C06 i5
    have d1 : w8.cell? ⟨gs, 1 + nd * 258 + 256, none⟩ = some (.int .i64 (s.id nd)) := d1
    have d2 : w8.cell? ⟨gs, 1 + nd * 258 + 257, none⟩ = some (.bool (s.out nd)) := d2
    by_cases e15 : mk = 15
    · have j1 : ((mk : Int) == 15) = true := by simp; omega
      have HF := hide (show SAt w8 gs gp (s.wGo nd i p mk) from by
        unfold Sc.wGo
        rw [if_pos e15, if_pos e15, HIM.out, HQ.out]
        exact ⟨_, _, H8.out.1⟩)
      have hr := HR.out
      rw [if_pos e15] at hr
      subst hr
      clear e15
      go_wp2
      go_ret
      exact ⟨rfl, HF.out, H8.out.2⟩
    · have j1 : ((mk : Int) == 15) = false := by simp; omega
      have HF := hide (show SAt ((w8.setCell ⟨gs, 1 + nd * 258 + 256, none⟩ (.int .i64 (i : Int))).setCell ⟨gs, 1 + nd * 258 + 257, none⟩ (.bool true)) gs gp (s.wGo nd i p mk) from by
        unfold Sc.wGo
        rw [if_neg e15, if_neg e15, HIM.out, HQ.out]
        have q1 := H8.out.1.sb.setId H8.out.1.wf nd hn (i : Int)
        have q0 : Sc.wf ⟨s.n, put1 s.pl i (layB (s.pl i) im q), put1 s.ar nd (layB (s.ar nd) im mk), put1 s.id nd (i : Int), s.out⟩ := ⟨H8.out.1.wf.n, H8.out.1.wf.pl, H8.out.1.wf.ar, fun m hm ho => by
          show 0 ≤ put1 s.id nd (i : Int) m ∧ put1 s.id nd (i : Int) m < (s.n : Int)
          by_cases e : m = nd
          · rw [e, put1_same]
            omega
          · rw [put1_other _ _ _ _ e]
            exact H8.out.1.wf.id m hm ho⟩
        have q2 := q1.setOut q0 nd hn true
        refine ⟨_, _, (H8.out.1.st.set (1 + nd * 258 + 256) (.int .i64 (i : Int))).set (1 + nd * 258 + 257) (.bool true), q2, (H8.out.1.pr.other _ _ (fun e => H8.out.1.ne e.symm)).other _ _ (fun e => H8.out.1.ne e.symm), H8.out.1.pb.other _ rfl rfl, ⟨q0.n, q0.pl, q0.ar, fun m hm ho => ?_⟩⟩
        show 0 ≤ put1 s.id nd (i : Int) m ∧ put1 s.id nd (i : Int) m < (s.n : Int)
        by_cases e : m = nd
        · rw [e, put1_same]
          omega
        · have ho2 : put1 s.out nd true m = true := ho
          rw [put1_other _ _ _ _ e] at ho2 ⊢
          exact H8.out.1.wf.id m hm ho2)
      have hr := HR.out
      rw [if_neg e15] at hr
      subst hr
      clear e15
      go_wp2
      go_ret
      exact ⟨rfl, HF.out, (H8.out.2.set gs _ _ (.inl rfl)).set gs _ _ (.inl rfl)⟩
  · refine hand_run (some 13) rfl rfl rfl (.pointer (some ⟨x.heap.size, 0, none⟩)) (x.drew.alloc (.cells Try.zeroCells70 70)) ?hz ?_
    (case hz => go_simp)
    refine ⟨trivial, ?_⟩
    try simp only [Act.put, List.setIfInBounds_toArray, List.set_cons_zero, List.set_cons_succ]
    have hba : Below x.heap.size x (x.drew.alloc (.cells Try.zeroCells70 70)) := dq.alloc (Nat.le_refl _) _
    have za : RowAt (x.drew.alloc (.cells Try.zeroCells70 70)) x.heap.size 70 Try.zeroCells70 := RowAt.new x.drew _ _
    refine hand_one 1 (by kernel_rfl) ?_
    refine hand_call (some 59) rfl rfl rfl 26 #[.slice (some ⟨g1, 0, none⟩) 256 cap1] ?he ((placeOf10 g1 0 cap1 im (x.drew.alloc (.cells Try.zeroCells70 70)) (HX.out.2.2.below hba) hc1).mono ?_)
    (case he => go_simp)
    rintro e w2 ⟨rfl, hb2⟩
    refine ⟨_, rfl, ?_⟩
    refine ⟨trivial, ?_⟩
    try simp only [Act.put, List.setIfInBounds_toArray, List.set_cons_zero, List.set_cons_succ]
    refine hand_one 8 (by kernel_rfl) ?_
    refine hand_store rfl rfl rfl 70 (.tmp 13) (.tmp 59) rfl x.heap.size 0 70 Try.zeroCells70 (plA im) rfl rfl (za.later hb2) (infoPl' _ hil) (by rw [plA_size, hil, zPl]; omega) (plA_one _) ?_
    intro w3 h31 h32
    rw [partA_all _ _ (by rw [zPl, plA_size, hil])] at h31
    have hb3 := h32.below (hba.trans (hb2.mono hba.size)) (Nat.le_refl _)
    obtain ⟨gB, hgB⟩ : ∃ gB, x.heap.size = gB := ⟨_, rfl⟩
    have H3 := hide (And.intro (HX.out.1.later hb3) (And.intro (HX.out.2.1.trans (hb3.mono HX.out.2.1.size)) (And.intro h31 (show gs < x.heap.size ∧ gp < x.heap.size from HX.out.1.lt))))
    rw [hgB] at H3 ⊢
    refine ⟨trivial, ?_⟩
    try simp only [Act.put, List.setIfInBounds_toArray, List.set_cons_zero, List.set_cons_succ]
    refine hand_one 9 (by kernel_rfl) ?_
    refine hand_run (some 14) rfl rfl rfl (.pointer (some ⟨gs, 1 + nd * 258, none⟩)) w3 ?hz ?_
    (case hz => go_simp)
    refine ⟨trivial, ?_⟩
    try simp only [Act.put, List.setIfInBounds_toArray, List.set_cons_zero, List.set_cons_succ]
    refine wpAnyH_done (by kernel_rfl) ?_ _
    refine NoPanic.normal ?_
    clear hgB h31 h32 hb3 hb2 hba za HX hHeld
    go_wp2_with fail
    obtain ⟨cs, ps, hS⟩ := H3.out.1
    have HS := hide hS
    have hLB := HLT.out
    have hgB : gs ≠ gB ∧ gp ≠ gB := by have := H3.out.2.2.2; omega
    have HGB := hide hgB
    clear hgB hLB hS
    refine wp_region_noPanic ?_
    refine wp_region_held_drew (S := fun y => RowAt y gB 70 (plA im)) (by kernel_rfl) (H3.out.2.2.1) (fun hHeld => ?_)
    refine hand_take 0 (some 65) (.pointer (some ⟨gs, 1 + nd * 258, none⟩)) rfl rfl (by kernel_rfl) (by kernel_rfl) (by kernel_rfl) (fun _ _ _ h => h) (Or.inl ⟨by kernel_rfl, fun x hSx => by go_simp⟩) hHeld ?_
    try simp only [Act.put, List.setIfInBounds_toArray, List.set_cons_zero, List.set_cons_succ]
    refine hand_take 1 (some 66) (.pointer (some ⟨gs, 1 + nd * 258, none⟩)) rfl rfl (by kernel_rfl) (by kernel_rfl) (by kernel_rfl) (fun _ _ _ h => h) (Or.inl ⟨by kernel_rfl, fun x hSx => by go_simp⟩) hHeld ?_
    try simp only [Act.put, List.setIfInBounds_toArray, List.set_cons_zero, List.set_cons_succ]
    refine hand_take 2 (some 67) (.pointer (some ⟨gs, 1 + nd * 258, none⟩)) rfl rfl (by kernel_rfl) (by kernel_rfl) (by kernel_rfl) (fun _ _ _ h => h) (Or.inl ⟨by kernel_rfl, fun x hSx => by go_simp⟩) hHeld ?_
    try simp only [Act.put, List.setIfInBounds_toArray, List.set_cons_zero, List.set_cons_succ]
    refine hand_take 3 (some 68) (.pointer (some ⟨gs, 1 + nd * 258, none⟩)) rfl rfl (by kernel_rfl) (by kernel_rfl) (by kernel_rfl) (fun _ _ _ h => h) (Or.inl ⟨by kernel_rfl, fun x hSx => by go_simp⟩) hHeld ?_
    try simp only [Act.put, List.setIfInBounds_toArray, List.set_cons_zero, List.set_cons_succ]
    refine hand_take 5 (some 70) (.agg (plA im)) rfl rfl (by kernel_rfl) (by kernel_rfl) (by kernel_rfl) (fun _ _ _ h => h) (yieldsIf_load_run (by kernel_rfl) 70 _ rfl (.pointer (some ⟨gB, 0, none⟩)) rfl _ (fun x hSx => load_whole x gB im hil hSx)) hHeld ?_
    try simp only [Act.put, List.setIfInBounds_toArray, List.set_cons_zero, List.set_cons_succ]
    refine hand_take 6 (some 71) (.int .i64 (mk : Int)) rfl rfl (by kernel_rfl) (by kernel_rfl) (by kernel_rfl) (fun _ _ _ h => h) (Or.inl ⟨by kernel_rfl, fun x hSx => by go_simp⟩) hHeld ?_
    try simp only [Act.put, List.setIfInBounds_toArray, List.set_cons_zero, List.set_cons_succ]
    refine hand_one 4 (by kernel_rfl) ?_
    refine hand_run (some 69) rfl rfl rfl (.agg (plA (s.ar nd))) _ (exec_load 70 _ rfl (.pointer (some ⟨gs, 1 + nd * 258, none⟩)) rfl _ (load_ar w3.drew (HS.out.later dq) nd hn)) ?_
    refine ⟨hHeld, ?_⟩
    try simp only [Act.put, List.setIfInBounds_toArray, List.set_cons_zero, List.set_cons_succ]
    refine hand_one 7 (by kernel_rfl) ?_
    refine hand_call (some 72) rfl rfl rfl 34 #[.agg (plA (s.ar nd)), .agg (plA im), .int .i64 (mk : Int)] ?he ((laid10 (s.ar nd) im mk w3.drew (HS.out.wf.ar nd hn) hil hm16).mono ?_)
    (case he => go_simp)
    rintro e w5 ⟨rfl, hb5⟩
    have hb5' := undq hb5
    have hS5 := HS.out.later hb5'
    have hB5 := H3.out.2.2.1.later hb5'
    refine ⟨_, rfl, ?_⟩
    refine ⟨hB5, ?_⟩
    try simp only [Act.put, List.setIfInBounds_toArray, List.set_cons_zero, List.set_cons_succ]
    have hHeld := hB5
    refine hand_take 8 (some 73) (.pointer (some ⟨gs, 1 + nd * 258, none⟩)) rfl rfl (by kernel_rfl) (by kernel_rfl) (by kernel_rfl) (fun _ _ _ h => h) (Or.inl ⟨by kernel_rfl, fun x hSx => by go_simp⟩) hHeld ?_
    try simp only [Act.put, List.setIfInBounds_toArray, List.set_cons_zero, List.set_cons_succ]
    refine hand_take 9 (some 74) (.pointer (some ⟨gs, 1 + nd * 258, none⟩)) rfl rfl (by kernel_rfl) (by kernel_rfl) (by kernel_rfl) (fun _ _ _ h => h) (Or.inl ⟨by kernel_rfl, fun x hSx => by go_simp⟩) hHeld ?_
    try simp only [Act.put, List.setIfInBounds_toArray, List.set_cons_zero, List.set_cons_succ]
    have hlay := layB_length (s.ar nd) im mk (HS.out.wf.ar nd hn) hil
    refine hand_one 10 (by kernel_rfl) ?_
    refine hand_store rfl rfl rfl 70 (.tmp 74) (.tmp 72) rfl gs (1 + nd * 258) 75 cs (plA (layB (s.ar nd) im mk)) rfl rfl hS5.st (infoPl' _ hlay) (by rw [plA_size, hlay]; exact (hS5.sb.ext hS5.wf nd hn).2) (plA_one _) ?_
    intro w6 h61 h62
    have hS6 : SV w6 gs gp { s with ar := put1 s.ar nd (layB (s.ar nd) im mk) } (partA cs (1 + nd * 258) (toV (layB (s.ar nd) im mk))) ps := ⟨h61, hS5.sb.put hS5.wf nd hn _ hlay, h62.row hS5.pr (fun e => hS5.ne e.symm), hS5.pb.other _ rfl rfl, ⟨hS5.wf.n, hS5.wf.pl, fun m hm => by
      show (put1 s.ar nd _ m).length = 256
      by_cases e : m = nd
      · rw [e, put1_same]
        exact hlay
      · rw [put1_other _ _ _ _ e]
        exact hS5.wf.ar m hm, hS5.wf.id⟩⟩
    have hB6 := h62.row hB5 (fun e => HGB.out.1 e.symm)
    have hT6 : Tn (FS gs gp) w w6 := (Tn.of_below (H3.out.2.1.trans (hb5'.mono H3.out.2.1.size))).then (h62.tn (FS gs gp) (.inl rfl))
    refine ⟨hB6, ?_⟩
    try simp only [Act.put, List.setIfInBounds_toArray, List.set_cons_zero, List.set_cons_succ]
    refine wpAnyH_done (by kernel_rfl) ?_ _
    refine NoPanic.normal ?_
    have H6 := hide (And.intro hS6 (And.intro hB6 hT6))
    obtain ⟨cs6, hcs6⟩ : ∃ c, partA cs (1 + nd * 258) (toV (layB (s.ar nd) im mk)) = c := ⟨_, rfl⟩
    rw [hcs6] at H6
    have c06 := hS6.c0
    have c06 : w6.cell? ⟨gs, 0, none⟩ = some (.slice (some ⟨gp, 0, none⟩) s.n s.n) := c06
    have C06 := hide c06
    clear hcs6 c06 hS6 hB6 hT6 h61 h62 hlay hS5 hB5 hb5 hb5' hHeld HS H3
    have i4 : (i : Int) < (s.n : Int) := by have := HI.out; omega
    obtain ⟨q, hq⟩ : ∃ q, mk / 4 = q := ⟨_, rfl⟩
    have i5 : ((mk : Int) / 4) = (q : Int) := by omega
    have i7 : q < 16 := by omega
    have HQ := hide hq
    clear hq
    go_wp2_with fail
    refine wp_region_noPanic ?_
    refine wp_region_held_drew (S := fun y => y.cell? ⟨gs, 0, none⟩ = some (.slice (some ⟨gp, 0, none⟩) s.n s.n) ∧ RowAt y gB 70 (plA im)) (by kernel_rfl) (⟨C06.out, H6.out.2.1⟩) (fun hHeld => ?_)
    refine hand_take 0 (some 75) (.pointer (some ⟨gs, 0, none⟩)) rfl rfl (by kernel_rfl) (by kernel_rfl) (by kernel_rfl) (fun _ _ _ h => h) (Or.inl ⟨by kernel_rfl, fun x hSx => by go_simp⟩) hHeld ?_
    try simp only [Act.put, List.setIfInBounds_toArray, List.set_cons_zero, List.set_cons_succ]
    refine hand_take 1 (some 76) (.pointer (some ⟨gs, 0, none⟩)) rfl rfl (by kernel_rfl) (by kernel_rfl) (by kernel_rfl) (fun _ _ _ h => h) (Or.inl ⟨by kernel_rfl, fun x hSx => by go_simp⟩) hHeld ?_
    try simp only [Act.put, List.setIfInBounds_toArray, List.set_cons_zero, List.set_cons_succ]
    refine hand_take 2 (some 77) (.pointer (some ⟨gs, 0, none⟩)) rfl rfl (by kernel_rfl) (by kernel_rfl) (by kernel_rfl) (fun _ _ _ h => h) (Or.inl ⟨by kernel_rfl, fun x hSx => by go_simp⟩) hHeld ?_
    try simp only [Act.put, List.setIfInBounds_toArray, List.set_cons_zero, List.set_cons_succ]
    refine hand_take 3 (some 78) (.slice (some ⟨gp, 0, none⟩) s.n s.n) rfl rfl (by kernel_rfl) (by kernel_rfl) (by kernel_rfl) (fun _ _ _ h => h) (Or.inl ⟨by kernel_rfl, fun x hSx => by have h := hSx.1; go_simp⟩) hHeld ?_
    try simp only [Act.put, List.setIfInBounds_toArray, List.set_cons_zero, List.set_cons_succ]
    refine hand_take 4 (some 79) (.int .i64 (i : Int)) rfl rfl (by kernel_rfl) (by kernel_rfl) (by kernel_rfl) (fun _ _ _ h => h) (Or.inl ⟨by kernel_rfl, fun x hSx => by go_simp⟩) hHeld ?_
    try simp only [Act.put, List.setIfInBounds_toArray, List.set_cons_zero, List.set_cons_succ]
    refine hand_take 5 (some 80) (.pointer (some ⟨gs, 0, none⟩)) rfl rfl (by kernel_rfl) (by kernel_rfl) (by kernel_rfl) (fun _ _ _ h => h) (Or.inl ⟨by kernel_rfl, fun x hSx => by go_simp⟩) hHeld ?_
    try simp only [Act.put, List.setIfInBounds_toArray, List.set_cons_zero, List.set_cons_succ]
    refine hand_take 6 (some 81) (.pointer (some ⟨gs, 0, none⟩)) rfl rfl (by kernel_rfl) (by kernel_rfl) (by kernel_rfl) (fun _ _ _ h => h) (Or.inl ⟨by kernel_rfl, fun x hSx => by go_simp⟩) hHeld ?_
    try simp only [Act.put, List.setIfInBounds_toArray, List.set_cons_zero, List.set_cons_succ]
    refine hand_take 7 (some 82) (.pointer (some ⟨gs, 0, none⟩)) rfl rfl (by kernel_rfl) (by kernel_rfl) (by kernel_rfl) (fun _ _ _ h => h) (Or.inl ⟨by kernel_rfl, fun x hSx => by go_simp⟩) hHeld ?_
    try simp only [Act.put, List.setIfInBounds_toArray, List.set_cons_zero, List.set_cons_succ]
    refine hand_take 8 (some 83) (.slice (some ⟨gp, 0, none⟩) s.n s.n) rfl rfl (by kernel_rfl) (by kernel_rfl) (by kernel_rfl) (fun _ _ _ h => h) (Or.inl ⟨by kernel_rfl, fun x hSx => by have h := hSx.1; go_simp⟩) hHeld ?_
    try simp only [Act.put, List.setIfInBounds_toArray, List.set_cons_zero, List.set_cons_succ]
    refine hand_take 9 (some 84) (.int .i64 (i : Int)) rfl rfl (by kernel_rfl) (by kernel_rfl) (by kernel_rfl) (fun _ _ _ h => h) (Or.inl ⟨by kernel_rfl, fun x hSx => by go_simp⟩) hHeld ?_
    try simp only [Act.put, List.setIfInBounds_toArray, List.set_cons_zero, List.set_cons_succ]
    refine hand_take 10 (some 85) (.pointer (some ⟨gp, i * 256, none⟩)) rfl rfl (by kernel_rfl) (by kernel_rfl) (by kernel_rfl) (fun _ _ _ h => h) (Or.inl ⟨by kernel_rfl, fun x hSx => by go_simp⟩) hHeld ?_
    try simp only [Act.put, List.setIfInBounds_toArray, List.set_cons_zero, List.set_cons_succ]
    refine hand_take 12 (some 87) (.agg (plA im)) rfl rfl (by kernel_rfl) (by kernel_rfl) (by kernel_rfl) (fun _ _ _ h => h) (yieldsIf_load_run (by kernel_rfl) 70 _ rfl (.pointer (some ⟨gB, 0, none⟩)) rfl _ (fun x hSx => load_whole x gB im hil hSx.2)) hHeld ?_
    try simp only [Act.put, List.setIfInBounds_toArray, List.set_cons_zero, List.set_cons_succ]
    refine hand_take 13 (some 88) (.int .i64 (mk : Int)) rfl rfl (by kernel_rfl) (by kernel_rfl) (by kernel_rfl) (fun _ _ _ h => h) (Or.inl ⟨by kernel_rfl, fun x hSx => by go_simp⟩) hHeld ?_
    try simp only [Act.put, List.setIfInBounds_toArray, List.set_cons_zero, List.set_cons_succ]
    refine hand_take 14 (some 89) (.int .i64 (q : Int)) rfl rfl (by kernel_rfl) (by kernel_rfl) (by kernel_rfl) (fun _ _ _ h => h) (Or.inl ⟨by kernel_rfl, fun x hSx => by go_simp⟩) hHeld ?_
    try simp only [Act.put, List.setIfInBounds_toArray, List.set_cons_zero, List.set_cons_succ]
    refine hand_one 11 (by kernel_rfl) ?_
    refine hand_run (some 86) rfl rfl rfl (.agg (plA (s.pl i))) _ (exec_load 70 _ rfl (.pointer (some ⟨gp, i * 256, none⟩)) rfl _ (load_pl w6.drew (H6.out.1.later dq) i HI.out)) ?_
    refine ⟨hHeld, ?_⟩
    try simp only [Act.put, List.setIfInBounds_toArray, List.set_cons_zero, List.set_cons_succ]
    refine hand_one 15 (by kernel_rfl) ?_
    refine hand_call (some 90) rfl rfl rfl 34 #[.agg (plA (s.pl i)), .agg (plA im), .int .i64 (q : Int)] ?he ((laid10 (s.pl i) im q w6.drew (H6.out.1.wf.pl i HI.out) hil i7).mono ?_)
    (case he => go_simp)
    rintro e w7 ⟨rfl, hb7⟩
    have hb7' := undq hb7
    have hS7 := H6.out.1.later hb7'
    have hB7 := H6.out.2.1.later hb7'
    have c07 : w7.cell? ⟨gs, 0, none⟩ = some (.slice (some ⟨gp, 0, none⟩) s.n s.n) := hS7.c0
    refine ⟨_, rfl, ?_⟩
    refine ⟨⟨c07, hB7⟩, ?_⟩
    try simp only [Act.put, List.setIfInBounds_toArray, List.set_cons_zero, List.set_cons_succ]
    have hHeld := And.intro c07 hB7
    refine hand_take 16 (some 91) (.pointer (some ⟨gp, i * 256, none⟩)) rfl rfl (by kernel_rfl) (by kernel_rfl) (by kernel_rfl) (fun _ _ _ h => h) (Or.inl ⟨by kernel_rfl, fun x hSx => by go_simp⟩) hHeld ?_
    try simp only [Act.put, List.setIfInBounds_toArray, List.set_cons_zero, List.set_cons_succ]
    have hlay := layB_length (s.pl i) im q (H6.out.1.wf.pl i HI.out) hil
    refine hand_one 17 (by kernel_rfl) ?_
    refine hand_store rfl rfl rfl 70 (.tmp 91) (.tmp 90) rfl gp (i * 256) 70 ps (plA (layB (s.pl i) im q)) rfl rfl hS7.pr (infoPl' _ hlay) (by rw [plA_size, hlay]; exact (hS7.pb.ext hS7.wf i HI.out).2) (plA_one _) ?_
    intro w8 h81 h82
    have hP8 := hS7.pb.put hS7.wf i HI.out _ hlay
    have hst8 := h82.row hS7.st hS7.ne
    have hB8 := h82.row hB7 (fun e => HGB.out.2 e.symm)
    have hT8 : Tn (FS gs gp) w w8 := (H6.out.2.2.later hb7').then (h82.tn (FS gs gp) (.inr rfl))
    have hS8 : SV w8 gs gp ⟨s.n, put1 s.pl i (layB (s.pl i) im q), put1 s.ar nd (layB (s.ar nd) im mk), s.id, s.out⟩ cs6 _ := ⟨hst8, hS7.sb.other _ rfl rfl rfl rfl, h81, hP8, ⟨hS7.wf.n, fun k hk => by
      show (put1 s.pl i _ k).length = 256
      by_cases e : k = i
      · rw [e, put1_same]
        exact hlay
      · rw [put1_other _ _ _ _ e]
        exact hS7.wf.pl k hk, hS7.wf.ar, hS7.wf.id⟩⟩
    refine ⟨⟨hst8.cell 0 _ hS7.sb.sl, hB8⟩, ?_⟩
    try simp only [Act.put, List.setIfInBounds_toArray, List.set_cons_zero, List.set_cons_succ]
    refine wpAnyH_done (by kernel_rfl) ?_ _
    refine NoPanic.normal ?_
    have H8 := hide (And.intro hS8 hT8)
    have d1 := hS8.cid nd hn
    have d2 := hS8.cout nd hn
    have f1 := hS8.st.free (1 + nd * 258 + 256)
    have f2 := hS8.st.free (1 + nd * 258 + 257)
    clear hS8 hT8 hB8 hst8 hP8 h81 h82 hlay hHeld c07 hB7 hS7 hb7 hb7' H6 C06 i5
    have d1 : w8.cell? ⟨gs, 1 + nd * 258 + 256, none⟩ = some (.int .i64 (s.id nd)) := d1
    have d2 : w8.cell? ⟨gs, 1 + nd * 258 + 257, none⟩ = some (.bool (s.out nd)) := d2
    by_cases e15 : mk = 15
    · have j1 : ((mk : Int) == 15) = true := by simp; omega
      have HF := hide (show SAt w8 gs gp (s.wGo nd i p mk) from by
        unfold Sc.wGo
        rw [if_pos e15, if_pos e15, HIM.out, HQ.out]
        exact ⟨_, _, H8.out.1⟩)
      have hr := HR.out
      rw [if_pos e15] at hr
      subst hr
      clear e15
      go_wp2
      go_ret
      exact ⟨rfl, HF.out, H8.out.2⟩
    · have j1 : ((mk : Int) == 15) = false := by simp; omega
      have HF := hide (show SAt ((w8.setCell ⟨gs, 1 + nd * 258 + 256, none⟩ (.int .i64 (i : Int))).setCell ⟨gs, 1 + nd * 258 + 257, none⟩ (.bool true)) gs gp (s.wGo nd i p mk) from by
        unfold Sc.wGo
        rw [if_neg e15, if_neg e15, HIM.out, HQ.out]
        have q1 := H8.out.1.sb.setId H8.out.1.wf nd hn (i : Int)
        have q0 : Sc.wf ⟨s.n, put1 s.pl i (layB (s.pl i) im q), put1 s.ar nd (layB (s.ar nd) im mk), put1 s.id nd (i : Int), s.out⟩ := ⟨H8.out.1.wf.n, H8.out.1.wf.pl, H8.out.1.wf.ar, fun m hm ho => by
          show 0 ≤ put1 s.id nd (i : Int) m ∧ put1 s.id nd (i : Int) m < (s.n : Int)
          by_cases e : m = nd
          · rw [e, put1_same]
            omega
          · rw [put1_other _ _ _ _ e]
            exact H8.out.1.wf.id m hm ho⟩
        have q2 := q1.setOut q0 nd hn true
        refine ⟨_, _, (H8.out.1.st.set (1 + nd * 258 + 256) (.int .i64 (i : Int))).set (1 + nd * 258 + 257) (.bool true), q2, (H8.out.1.pr.other _ _ (fun e => H8.out.1.ne e.symm)).other _ _ (fun e => H8.out.1.ne e.symm), H8.out.1.pb.other _ rfl rfl, ⟨q0.n, q0.pl, q0.ar, fun m hm ho => ?_⟩⟩
        show 0 ≤ put1 s.id nd (i : Int) m ∧ put1 s.id nd (i : Int) m < (s.n : Int)
        by_cases e : m = nd
        · rw [e, put1_same]
          omega
        · have ho2 : put1 s.out nd true m = true := ho
          rw [put1_other _ _ _ _ e] at ho2 ⊢
          exact H8.out.1.wf.id m hm ho2)
      have hr := HR.out
      rw [if_neg e15] at hr
      subst hr
      clear e15
      go_wp2
      go_ret
      exact ⟨rfl, HF.out, (H8.out.2.set gs _ _ (.inl rfl)).set gs _ _ (.inl rfl)⟩
end
end Go.Proofs.Ytfeghhgniahfkaa

/-
  The contract of package store's Mend.
-/
namespace Go.Proofs.Ytfeghhgniahfkaa
open Go.RowKit
set_option linter.unusedVariables false

set_option maxRecDepth 4000 in
set_option maxHeartbeats 800000 in
theorem mend10_arg (v : Option Addr) (n : Nat) (node mask : Int) (w : World) (HP : Calls Try.prog 13 #[.pointer v] w fun e w' => e = .returned (.int .i64 (n : Int)) ∧ w = w') (hbad : ¬ (0 < n ∧ 0 ≤ node ∧ node < 8 ∧ 0 ≤ mask ∧ mask ≤ 3)) :
    Calls Try.prog 14 #[.pointer v, .int .i64 node, .int .i64 mask] w fun e w' => e = .returned (.int .i64 1) ∧ w = w' := by
  have N := fun w => isNode10 node w
  have HPg := hide HP
  clear HP
  by_cases h0 : n = 0
  · subst h0
    clear N hbad
    go_enter Try.func14, Try.ntmps14
    go_wp2_with fail
    refine HPg.out.mono ?_
    rintro e w1 ⟨rfl, rfl⟩
    go_wp2
    go_ret
    exact ⟨rfl, rfl⟩
  · have j0 : ((n : Int) == 0) = false := by simp; omega
    by_cases h1 : 0 ≤ node ∧ node < 8
    · rw [decide_eq_true h1] at N
      have HN := hide N
      by_cases h2 : mask < 0
      · clear N hbad h1 h0
        go_enter Try.func14, Try.ntmps14
        go_wp2_with fail
        refine HPg.out.mono ?_
        rintro e w1 ⟨rfl, rfl⟩
        go_wp2_with fail
        refine (HN.out _).mono ?_
        rintro e w1 ⟨rfl, rfl⟩
        go_wp2
        go_ret
        exact ⟨rfl, rfl⟩
      · have h3 : 3 < mask := by omega
        clear N hbad h1 h0
        go_enter Try.func14, Try.ntmps14
        go_wp2_with fail
        refine HPg.out.mono ?_
        rintro e w1 ⟨rfl, rfl⟩
        go_wp2_with fail
        refine (HN.out _).mono ?_
        rintro e w1 ⟨rfl, rfl⟩
        go_wp2
        go_ret
        exact ⟨rfl, rfl⟩
    · rw [decide_eq_false h1] at N
      have HN := hide N
      clear N hbad h1 h0
      go_enter Try.func14, Try.ntmps14
      go_wp2_with fail
      refine HPg.out.mono ?_
      rintro e w1 ⟨rfl, rfl⟩
      go_wp2_with fail
      refine (HN.out _).mono ?_
      rintro e w1 ⟨rfl, rfl⟩
      go_wp2
      go_ret
      exact ⟨rfl, rfl⟩

section
variable {gs gp : Nat} {s : Sc} {cs ps : Array Value}
theorem SB.c0 {x : World} (h : SB cs gp s) (hr : RowAt x gs 75 cs) : x.cell? ⟨gs, 0, none⟩ = some (.slice (some ⟨gp, 0, none⟩) s.n s.n) := hr.cell 0 _ h.sl
theorem SB.cid {x : World} (h : SB cs gp s) (hw : s.wf) (hr : RowAt x gs 75 cs) (m : Nat) (hm : m < 8) : x.cell? ⟨gs, 1 + m * 258 + 256, none⟩ = some (.int .i64 (s.id m)) := hr.cell _ _ ((h.ar m hm).cell 256 _ (arL_id _ _ _ (hw.ar m hm)))
theorem load_ar2 (x : World) (h : RowAt x gs 75 cs) (hb : SB cs gp s) (hw : s.wf) (m : Nat) (hm : m < 8) : (Instr.loadAt 70 (.pointer (some ⟨gs, 1 + m * 258, none⟩))).run Try.prog x = .ok (.agg (plA (s.ar m))) x := by
  have h1 := load_part (P := Try.prog) x 75 70 gs (1 + m * 258) 256 cs h _ Try.underlying70 rfl infoPl (hb.ext hw m hm).2
  rwa [(hb.ext hw m hm).1] at h1
/-- A node that is out no more. -/
theorem SV.undone {x : World} {ps : Array Value} (h : SV x gs gp s cs ps) (m : Nat) (hm : m < 8) : SAt (x.setCell ⟨gs, 1 + m * 258 + 257, none⟩ (.bool false)) gs gp { s with out := put1 s.out m false } :=
  ⟨_, _, h.st.set _ _, h.sb.setOut h.wf m hm false, h.pr.other _ _ (fun e => h.ne e.symm), h.pb.other _ rfl rfl, ⟨h.wf.n, h.wf.pl, h.wf.ar, fun k hk ho => by
    have ho2 : put1 s.out m false k = true := ho
    by_cases e : k = m
    · rw [e, put1_same] at ho2
      cases ho2
    · rw [put1_other _ _ _ _ e] at ho2
      exact h.wf.id k hk ho2⟩⟩

variable (nd mk : Nat) (w : World)
set_option maxRecDepth 4000 in
set_option maxHeartbeats 800000 in
theorem mend10_idle (h : SAt w gs gp s) (hn : nd < 8) (h0 : 0 < s.n) (hm : mk ≤ 3) (ho : s.out nd = false) :
    Calls Try.prog 14 #[.pointer (some ⟨gs, 0, none⟩), .int .i64 (nd : Int), .int .i64 (mk : Int)] w fun e w' => e = .returned (.int .i64 0) ∧ w = w' := by
  have N := isNode10 nd w
  rw [decide_eq_true (by omega)] at N
  have HN := hide N
  have HPg := hide (pages10 h)
  have c1 := h.cout nd hn
  rw [ho] at c1
  have i1 : (nd : Int) < 8 := by omega
  have j0 : ((s.n : Int) == 0) = false := by simp; omega
  have j1 : ¬ (mk : Int) < 0 := by omega
  have j2 : ¬ (3 : Int) < (mk : Int) := by omega
  clear N h h0
  go_enter Try.func14, Try.ntmps14
  go_wp2_with fail
  refine HPg.out.mono ?_
  rintro e w1 ⟨rfl, rfl⟩
  go_wp2_with fail
  refine HN.out.mono ?_
  rintro e w1 ⟨rfl, rfl⟩
  go_wp2
  go_ret
  exact ⟨rfl, rfl⟩

set_option maxRecDepth 4000 in
set_option maxHeartbeats 3200000 in
theorem mend10_out (h : SAt w gs gp s) (hn : nd < 8) (h0 : 0 < s.n) (hm : mk ≤ 3) (ho : s.out nd = true) (r : Int) (HR : Hid (r = if tornB (s.pl (s.id nd).toNat) = true ∧ mk ≠ 3 then 9 else 0)) :
    Calls Try.prog 14 #[.pointer (some ⟨gs, 0, none⟩), .int .i64 (nd : Int), .int .i64 (mk : Int)] w fun e w' => e = .returned (.int .i64 r) ∧ SAt w' gs gp (if tornB (s.pl (s.id nd).toNat) = true then (if mk = 3 then { s.mPl nd mk with out := put1 s.out nd false } else s.mPl nd mk) else { s with out := put1 s.out nd false }) ∧ Tn (FS gs gp) w w' := by
  obtain ⟨F, hF⟩ : ∃ F, F = (if tornB (s.pl (s.id nd).toNat) = true then (if mk = 3 then { s.mPl nd mk with out := put1 s.out nd false } else s.mPl nd mk) else { s with out := put1 s.out nd false }) := ⟨_, rfl⟩
  rw [← hF]
  have N := isNode10 nd w
  rw [decide_eq_true (by omega)] at N
  have HN := hide N
  have HPg := hide (pages10 h)
  have c1 := h.cout nd hn
  rw [ho] at c1
  have i1 : (nd : Int) < 8 := by omega
  have j0 : ((s.n : Int) == 0) = false := by simp; omega
  have j1 : ¬ (mk : Int) < 0 := by omega
  have j2 : ¬ (3 : Int) < (mk : Int) := by omega
  have hid := h.wf.id nd hn ho
  obtain ⟨k, hk⟩ := Int.eq_ofNat_of_zero_le hid.1
  have hk' : s.id nd = (k : Int) := hk
  rw [hk', Int.toNat_natCast] at HR hF
  have hkn : k < s.n := by omega
  have HLT := hide h.lt
  obtain ⟨cs, ps, hS⟩ := h
  have hlk := hS.wf.pl k hkn
  have HS := hide hS
  have HK := hide (And.intro hk' hkn)
  have HF := hide hF
  have i4 : (k : Int) < (s.n : Int) := by omega
  clear N hS h0 hk hk' hid ho hF hkn
  obtain ⟨b, hb⟩ : ∃ b, s.pl k = b := ⟨_, rfl⟩
  rw [hb] at HR HF hlk
  have HB := hide hb
  clear hb
  go_enter Try.func14, Try.ntmps14
  go_wp2_with fail
  refine HPg.out.mono ?_
  rintro e w1 ⟨rfl, rfl⟩
  go_wp2_with fail
  refine HN.out.mono ?_
  rintro e w1 ⟨rfl, rfl⟩
  go_wp2_with fail
  clear c1 HPg HN j0
  refine wp_region_noPanic ?_
  refine wp_region_held_drew (S := fun y => SV y gs gp s cs ps) (by kernel_rfl) (HS.out.later dq) (fun hHeld => ?_)
  refine hand_take 0 (some 35) (.pointer (some ⟨gs, 0, none⟩)) rfl rfl (by kernel_rfl) (by kernel_rfl) (by kernel_rfl) (fun _ _ _ h => h) (Or.inl ⟨by kernel_rfl, fun x hSx => by go_simp⟩) hHeld ?_
  try simp only [Act.put, List.setIfInBounds_toArray, List.set_cons_zero, List.set_cons_succ]
  refine hand_take 1 (some 36) (.pointer (some ⟨gs, 0, none⟩)) rfl rfl (by kernel_rfl) (by kernel_rfl) (by kernel_rfl) (fun _ _ _ h => h) (Or.inl ⟨by kernel_rfl, fun x hSx => by go_simp⟩) hHeld ?_
  try simp only [Act.put, List.setIfInBounds_toArray, List.set_cons_zero, List.set_cons_succ]
  refine hand_take 2 (some 37) (.pointer (some ⟨gs, 0, none⟩)) rfl rfl (by kernel_rfl) (by kernel_rfl) (by kernel_rfl) (fun _ _ _ h => h) (Or.inl ⟨by kernel_rfl, fun x hSx => by go_simp⟩) hHeld ?_
  try simp only [Act.put, List.setIfInBounds_toArray, List.set_cons_zero, List.set_cons_succ]
  refine hand_take 3 (some 38) (.slice (some ⟨gp, 0, none⟩) s.n s.n) rfl rfl (by kernel_rfl) (by kernel_rfl) (by kernel_rfl) (fun _ _ _ h => h) (Or.inl ⟨by kernel_rfl, fun x hSx => by have h := hSx.c0; go_simp⟩) hHeld ?_
  try simp only [Act.put, List.setIfInBounds_toArray, List.set_cons_zero, List.set_cons_succ]
  refine hand_take 4 (some 39) (.pointer (some ⟨gs, 1 + nd * 258, none⟩)) rfl rfl (by kernel_rfl) (by kernel_rfl) (by kernel_rfl) (fun _ _ _ h => h) (Or.inl ⟨by kernel_rfl, fun x hSx => by go_simp⟩) hHeld ?_
  try simp only [Act.put, List.setIfInBounds_toArray, List.set_cons_zero, List.set_cons_succ]
  refine hand_take 5 (some 40) (.pointer (some ⟨gs, 1 + nd * 258, none⟩)) rfl rfl (by kernel_rfl) (by kernel_rfl) (by kernel_rfl) (fun _ _ _ h => h) (Or.inl ⟨by kernel_rfl, fun x hSx => by go_simp⟩) hHeld ?_
  try simp only [Act.put, List.setIfInBounds_toArray, List.set_cons_zero, List.set_cons_succ]
  refine hand_take 6 (some 41) (.pointer (some ⟨gs, 1 + nd * 258 + 256, none⟩)) rfl rfl (by kernel_rfl) (by kernel_rfl) (by kernel_rfl) (fun _ _ _ h => h) (Or.inl ⟨by kernel_rfl, fun x hSx => by go_simp⟩) hHeld ?_
  try simp only [Act.put, List.setIfInBounds_toArray, List.set_cons_zero, List.set_cons_succ]
  refine hand_take 7 (some 42) (.int .i64 (k : Int)) rfl rfl (by kernel_rfl) (by kernel_rfl) (by kernel_rfl) (fun _ _ _ h => h) (Or.inl ⟨by kernel_rfl, fun x hSx => by have h := hSx.cid nd hn; rw [HK.out.1] at h; go_simp⟩) hHeld ?_
  try simp only [Act.put, List.setIfInBounds_toArray, List.set_cons_zero, List.set_cons_succ]
  refine hand_take 8 (some 43) (.pointer (some ⟨gp, k * 256, none⟩)) rfl rfl (by kernel_rfl) (by kernel_rfl) (by kernel_rfl) (fun _ _ _ h => h) (Or.inl ⟨by kernel_rfl, fun x hSx => by go_simp⟩) hHeld ?_
  try simp only [Act.put, List.setIfInBounds_toArray, List.set_cons_zero, List.set_cons_succ]
  refine hand_take 9 (some 44) (.agg (plA b)) rfl rfl (by kernel_rfl) (by kernel_rfl) (by kernel_rfl) (fun _ _ _ h => h) (yieldsIf_load_run (by kernel_rfl) 70 _ rfl (.pointer (some ⟨gp, k * 256, none⟩)) rfl _ (fun x hSx => by have h := load_pl x hSx k HK.out.2; rw [HB.out] at h; exact h)) hHeld ?_
  try simp only [Act.put, List.setIfInBounds_toArray, List.set_cons_zero, List.set_cons_succ]
  refine hand_one 10 (by kernel_rfl) ?_
  refine hand_run (some 8) rfl rfl rfl (.pointer (some ⟨w.heap.size, 0, none⟩)) (w.drew.alloc (.cells Try.zeroCells70 70)) ?hz ?_
  (case hz => go_simp)
  have hba : Below w.heap.size w (w.drew.alloc (.cells Try.zeroCells70 70)) := dq.alloc (Nat.le_refl _) _
  have za : RowAt (w.drew.alloc (.cells Try.zeroCells70 70)) w.heap.size 70 Try.zeroCells70 := RowAt.new w.drew _ _
  refine ⟨HS.out.later hba, ?_⟩
  try simp only [Act.put, List.setIfInBounds_toArray, List.set_cons_zero, List.set_cons_succ]
  refine hand_one 11 (by kernel_rfl) ?_
  refine hand_store rfl rfl rfl 70 (.tmp 8) (.tmp 44) rfl w.heap.size 0 70 Try.zeroCells70 (plA b) rfl rfl za (infoPl' _ hlk) (by rw [plA_size, hlk, zPl]; omega) (plA_one _) ?_
  intro w3 h31 h32
  rw [partA_all _ _ (by rw [zPl, plA_size, hlk])] at h31
  have hb3 := h32.below hba (Nat.le_refl _)
  have H3 := hide (And.intro (HS.out.later hb3) (And.intro hb3 h31))
  refine ⟨HS.out.later hb3, ?_⟩
  try simp only [Act.put, List.setIfInBounds_toArray, List.set_cons_zero, List.set_cons_succ]
  refine wpAnyH_done (by kernel_rfl) ?_ _
  refine NoPanic.normal ?_
  clear hba za h31 h32 hb3 HS hHeld
  go_wp2_with (refine wpList_load_at rfl 70 _ rfl w.heap.size rfl (plA b) H3.out.2.2 _ Try.underlying70 rfl (infoPl' b hlk) ?_)
  refine (bytes10 b w3 hlk).mono ?_
  rintro e w4 ⟨v4, rfl, ho4, hb4⟩
  obtain ⟨a4, cap4, rfl, hcap4, hB4⟩ := shape_isB ho4
  have HTo := hide (torn_any a4 256 cap4 b w4 hB4 (by omega) hcap4)
  have H4 := hide (And.intro (H3.out.1.later hb4) (And.intro (H3.out.2.1.trans (hb4.mono H3.out.2.1.size)) (H3.out.2.2.later hb4)))
  clear ho4 hb4 hB4 hcap4 H3
  go_wp2_with fail
  refine HTo.out.mono ?_
  rintro e w5 ⟨rfl, hb5⟩
  have H5 := hide (And.intro (H4.out.1.later hb5) (And.intro (H4.out.2.1.trans (hb5.mono H4.out.2.1.size)) (H4.out.2.2.later hb5)))
  clear hb5 H4 HTo
  cases hto : tornB b with
  | false =>
    have HF2 := hide (show F = { s with out := put1 s.out nd false } from by rw [HF.out, if_neg (by rw [hto]; simp)])
    have hr : r = 0 := by rw [HR.out, if_neg (by rw [hto]; simp)]
    subst hr
    have d2 := H5.out.1.cout nd hn
    have f2 := H5.out.1.st.free (1 + nd * 258 + 257)
    go_wp2
    go_ret
    exact ⟨rfl, by rw [HF2.out]; exact H5.out.1.undone nd hn, (Tn.of_below H5.out.2.1).set gs _ _ (.inl rfl)⟩
  | true =>
    have HF2 := hide (show F = if mk = 3 then { s.mPl nd mk with out := put1 s.out nd false } else s.mPl nd mk from by rw [HF.out, if_pos hto])
    have HR2 := hide (show r = if mk = 3 then 0 else 9 from by
      rw [HR.out]
      by_cases e3 : mk = 3
      · rw [if_neg (fun g => g.2 e3), if_pos e3]
      · rw [if_pos ⟨hto, e3⟩, if_neg e3])
    clear hto HR HF
    go_wp2_with fail
    refine wp_region_noPanic ?_
    refine wp_region_held_drew (S := fun y => RowAt y gs 75 cs ∧ RowAt y w.heap.size 70 (plA b)) (by kernel_rfl) (⟨H5.out.1.st, H5.out.2.2⟩) (fun hHeld => ?_)
    refine hand_take 0 (some 48) (.pointer (some ⟨gs, 0, none⟩)) rfl rfl (by kernel_rfl) (by kernel_rfl) (by kernel_rfl) (fun _ _ _ h => h) (Or.inl ⟨by kernel_rfl, fun x hSx => by go_simp⟩) hHeld ?_
    try simp only [Act.put, List.setIfInBounds_toArray, List.set_cons_zero, List.set_cons_succ]
    refine hand_take 1 (some 49) (.pointer (some ⟨gs, 0, none⟩)) rfl rfl (by kernel_rfl) (by kernel_rfl) (by kernel_rfl) (fun _ _ _ h => h) (Or.inl ⟨by kernel_rfl, fun x hSx => by go_simp⟩) hHeld ?_
    try simp only [Act.put, List.setIfInBounds_toArray, List.set_cons_zero, List.set_cons_succ]
    refine hand_take 2 (some 50) (.pointer (some ⟨gs, 0, none⟩)) rfl rfl (by kernel_rfl) (by kernel_rfl) (by kernel_rfl) (fun _ _ _ h => h) (Or.inl ⟨by kernel_rfl, fun x hSx => by go_simp⟩) hHeld ?_
    try simp only [Act.put, List.setIfInBounds_toArray, List.set_cons_zero, List.set_cons_succ]
    refine hand_take 3 (some 51) (.slice (some ⟨gp, 0, none⟩) s.n s.n) rfl rfl (by kernel_rfl) (by kernel_rfl) (by kernel_rfl) (fun _ _ _ h => h) (Or.inl ⟨by kernel_rfl, fun x hSx => by have h := H5.out.1.sb.c0 hSx.1; go_simp⟩) hHeld ?_
    try simp only [Act.put, List.setIfInBounds_toArray, List.set_cons_zero, List.set_cons_succ]
    refine hand_take 4 (some 52) (.pointer (some ⟨gs, 1 + nd * 258, none⟩)) rfl rfl (by kernel_rfl) (by kernel_rfl) (by kernel_rfl) (fun _ _ _ h => h) (Or.inl ⟨by kernel_rfl, fun x hSx => by go_simp⟩) hHeld ?_
    try simp only [Act.put, List.setIfInBounds_toArray, List.set_cons_zero, List.set_cons_succ]
    refine hand_take 5 (some 53) (.pointer (some ⟨gs, 1 + nd * 258, none⟩)) rfl rfl (by kernel_rfl) (by kernel_rfl) (by kernel_rfl) (fun _ _ _ h => h) (Or.inl ⟨by kernel_rfl, fun x hSx => by go_simp⟩) hHeld ?_
    try simp only [Act.put, List.setIfInBounds_toArray, List.set_cons_zero, List.set_cons_succ]
    refine hand_take 6 (some 54) (.pointer (some ⟨gs, 1 + nd * 258 + 256, none⟩)) rfl rfl (by kernel_rfl) (by kernel_rfl) (by kernel_rfl) (fun _ _ _ h => h) (Or.inl ⟨by kernel_rfl, fun x hSx => by go_simp⟩) hHeld ?_
    try simp only [Act.put, List.setIfInBounds_toArray, List.set_cons_zero, List.set_cons_succ]
    refine hand_take 7 (some 55) (.int .i64 (k : Int)) rfl rfl (by kernel_rfl) (by kernel_rfl) (by kernel_rfl) (fun _ _ _ h => h) (Or.inl ⟨by kernel_rfl, fun x hSx => by have h := H5.out.1.sb.cid H5.out.1.wf hSx.1 nd hn; rw [HK.out.1] at h; go_simp⟩) hHeld ?_
    try simp only [Act.put, List.setIfInBounds_toArray, List.set_cons_zero, List.set_cons_succ]
    refine hand_take 8 (some 56) (.agg (plA b)) rfl rfl (by kernel_rfl) (by kernel_rfl) (by kernel_rfl) (fun _ _ _ h => h) (yieldsIf_load_run (by kernel_rfl) 70 _ rfl (.pointer (some ⟨w.heap.size, 0, none⟩)) rfl _ (fun x hSx => load_whole x w.heap.size b hlk hSx.2)) hHeld ?_
    try simp only [Act.put, List.setIfInBounds_toArray, List.set_cons_zero, List.set_cons_succ]
    refine hand_take 9 (some 57) (.pointer (some ⟨gs, 1 + nd * 258, none⟩)) rfl rfl (by kernel_rfl) (by kernel_rfl) (by kernel_rfl) (fun _ _ _ h => h) (Or.inl ⟨by kernel_rfl, fun x hSx => by go_simp⟩) hHeld ?_
    try simp only [Act.put, List.setIfInBounds_toArray, List.set_cons_zero, List.set_cons_succ]
    refine hand_take 10 (some 58) (.pointer (some ⟨gs, 1 + nd * 258, none⟩)) rfl rfl (by kernel_rfl) (by kernel_rfl) (by kernel_rfl) (fun _ _ _ h => h) (Or.inl ⟨by kernel_rfl, fun x hSx => by go_simp⟩) hHeld ?_
    try simp only [Act.put, List.setIfInBounds_toArray, List.set_cons_zero, List.set_cons_succ]
    refine hand_take 11 (some 59) (.pointer (some ⟨gs, 1 + nd * 258, none⟩)) rfl rfl (by kernel_rfl) (by kernel_rfl) (by kernel_rfl) (fun _ _ _ h => h) (Or.inl ⟨by kernel_rfl, fun x hSx => by go_simp⟩) hHeld ?_
    try simp only [Act.put, List.setIfInBounds_toArray, List.set_cons_zero, List.set_cons_succ]
    refine hand_take 12 (some 60) (.agg (plA (s.ar nd))) rfl rfl (by kernel_rfl) (by kernel_rfl) (by kernel_rfl) (fun _ _ _ h => h) (yieldsIf_load_run (by kernel_rfl) 70 _ rfl (.pointer (some ⟨gs, 1 + nd * 258, none⟩)) rfl _ (fun x hSx => load_ar2 x hSx.1 H5.out.1.sb H5.out.1.wf nd hn)) hHeld ?_
    try simp only [Act.put, List.setIfInBounds_toArray, List.set_cons_zero, List.set_cons_succ]
    refine hand_take 13 (some 61) (.int .i64 (mk : Int)) rfl rfl (by kernel_rfl) (by kernel_rfl) (by kernel_rfl) (fun _ _ _ h => h) (Or.inl ⟨by kernel_rfl, fun x hSx => by go_simp⟩) hHeld ?_
    try simp only [Act.put, List.setIfInBounds_toArray, List.set_cons_zero, List.set_cons_succ]
    refine hand_one 14 (by kernel_rfl) ?_
    refine hand_call (some 62) rfl rfl rfl 34 #[.agg (plA b), .agg (plA (s.ar nd)), .int .i64 (mk : Int)] ?he ((laid10 b (s.ar nd) mk w5.drew hlk (H5.out.1.wf.ar nd hn) (by omega)).mono ?_)
    (case he => go_simp)
    rintro e w7 ⟨rfl, hb7⟩
    have hb7' := undq hb7
    have hS7 := H5.out.1.later hb7'
    have hB7 := H5.out.2.2.later hb7'
    refine ⟨_, rfl, ?_⟩
    refine ⟨⟨hS7.st, hB7⟩, ?_⟩
    try simp only [Act.put, List.setIfInBounds_toArray, List.set_cons_zero, List.set_cons_succ]
    have hHeld := And.intro hS7.st hB7
    refine hand_take 15 (some 63) (.pointer (some ⟨gp, k * 256, none⟩)) rfl rfl (by kernel_rfl) (by kernel_rfl) (by kernel_rfl) (fun _ _ _ h => h) (Or.inl ⟨by kernel_rfl, fun x hSx => by go_simp⟩) hHeld ?_
    try simp only [Act.put, List.setIfInBounds_toArray, List.set_cons_zero, List.set_cons_succ]
    have hlay := layB_length b (s.ar nd) mk hlk (H5.out.1.wf.ar nd hn)
    refine hand_one 16 (by kernel_rfl) ?_
    refine hand_store rfl rfl rfl 70 (.tmp 63) (.tmp 62) rfl gp (k * 256) 70 ps (plA (layB b (s.ar nd) mk)) rfl rfl hS7.pr (infoPl' _ hlay) (by rw [plA_size, hlay]; exact (hS7.pb.ext hS7.wf k HK.out.2).2) (plA_one _) ?_
    intro w8 h81 h82
    have hP8 := hS7.pb.put hS7.wf k HK.out.2 _ hlay
    have hst8 := h82.row hS7.st hS7.ne
    have hB8 := h82.row hB7 (fun e => by have := HLT.out; omega)
    have hT8 : Tn (FS gs gp) w w8 := (Tn.of_below (H5.out.2.1.trans (hb7'.mono H5.out.2.1.size))).then (h82.tn (FS gs gp) (.inr rfl))
    have eP : s.mPl nd mk = { s with pl := put1 s.pl k (layB b (s.ar nd) mk) } := by
      unfold Sc.mPl
      rw [HK.out.1, Int.toNat_natCast, HB.out]
    have hS8 : SV w8 gs gp (s.mPl nd mk) cs (partA ps (k * 256) (toV (layB b (s.ar nd) mk))) := by
      rw [eP]
      exact ⟨hst8, hS7.sb.other _ rfl rfl rfl rfl, h81, hP8, ⟨hS7.wf.n, fun j hj => by
        show (put1 s.pl k _ j).length = 256
        by_cases e : j = k
        · rw [e, put1_same]
          exact hlay
        · rw [put1_other _ _ _ _ e]
          exact hS7.wf.pl j hj, hS7.wf.ar, hS7.wf.id⟩⟩
    refine ⟨⟨hst8, hB8⟩, ?_⟩
    try simp only [Act.put, List.setIfInBounds_toArray, List.set_cons_zero, List.set_cons_succ]
    refine wpAnyH_done (by kernel_rfl) ?_ _
    refine NoPanic.normal ?_
    have H8 := hide (And.intro hS8 hT8)
    have d2 : w8.cell? ⟨gs, 1 + nd * 258 + 257, none⟩ = some (.bool (s.out nd)) := hS8.cout nd hn
    have f2 := hS8.st.free (1 + nd * 258 + 257)
    clear hS8 hT8 hB8 hst8 hP8 h81 h82 hlay hHeld hB7 hS7 hb7 hb7' H5 eP
    by_cases e3 : mk = 3
    · have j1 : ((mk : Int) == 3) = true := by simp; omega
      have j5 : ((mk : Int) != 3) = false := by simp; omega
      have HF3 := HF2.out
      rw [if_pos e3] at HF3
      have hr := HR2.out
      rw [if_pos e3] at hr
      have HF4 := hide HF3
      subst hr
      clear e3 HF3 HF2 HR2
      go_wp2
      go_ret
      exact ⟨rfl, by rw [HF4.out]; exact H8.out.1.undone nd hn, H8.out.2.set gs _ _ (.inl rfl)⟩
    · have j1 : ((mk : Int) == 3) = false := by simp; omega
      have j5 : ((mk : Int) != 3) = true := by simp; omega
      have HF3 := HF2.out
      rw [if_neg e3] at HF3
      have hr := HR2.out
      rw [if_neg e3] at hr
      have HF4 := hide HF3
      subst hr
      clear e3 HF3 HF2 HR2
      go_wp2
      go_ret
      exact ⟨rfl, by rw [HF4.out]; exact ⟨_, _, H8.out.1⟩, H8.out.2⟩
end
/-- THE CONTRACTS of Write and Mend. -/
theorem write10 {gs gp : Nat} {s : Sc} {w : World} (node id : Int) (p : Pg) (mask : Int) (h : SAt w gs gp s) :
    Calls Try.prog 15 #[.pointer (some ⟨gs, 0, none⟩), .int .i64 node, .int .i64 id, .agg (pgA p), .int .i64 mask] w fun e w' => e = .returned (.int .i64 (s.wE node id p mask)) ∧ SAt w' gs gp (s.wS node id p mask) ∧ Tn (FS gs gp) w w' := by
  by_cases h1 : (0 ≤ node ∧ node < 8) ∧ (0 ≤ id ∧ id < (s.n : Int)) ∧ maskOk mask
  · obtain ⟨nd, rfl⟩ := Int.eq_ofNat_of_zero_le h1.1.1
    obtain ⟨i, rfl⟩ := Int.eq_ofNat_of_zero_le h1.2.1.1
    have hm := h1.2.2
    obtain ⟨mk, rfl⟩ := Int.eq_ofNat_of_zero_le (show 0 ≤ mask by omega)
    have hn : nd < 8 := by omega
    have hi : i < s.n := by omega
    by_cases hp : p.right
    · have hmay : s.may nd i p mk := ⟨h1.1.1, h1.1.2, h1.2.1.1, h1.2.1.2, h1.2.2, hp⟩
      by_cases hst : s.out nd = true ∨ s.busy (i : Int) = true ∨ p.l ≤ (stampB (s.pl i)).1
      · have e : s.wE nd i p mk = 13 := by
          unfold Sc.wE
          rw [if_neg (fun g => g hmay), Int.toNat_natCast, Int.toNat_natCast, if_pos hst]
        have e2 : s.wS nd i p mk = s := Sc.wS_no (by rw [e]; omega)
        rw [e, e2]
        exact (write10_state nd i p mk w h hn hi hm hp hst).mono fun e w' g => ⟨g.1, h.later g.2, Tn.of_below g.2⟩
      · have ho : s.out nd = false := by
          cases e : s.out nd with
          | false => rfl
          | true => exact absurd (.inl e) hst
        have hu : s.busy (i : Int) = false := by
          cases e : s.busy (i : Int) with
          | false => rfl
          | true => exact absurd (.inr (.inl e)) hst
        have hl : (stampB (s.pl i)).1 < p.l := by
          refine Classical.byContradiction fun g => hst (.inr (.inr ?_))
          omega
        have e : s.wE nd i p mk = if mk = 15 then 0 else 9 := by
          unfold Sc.wE
          rw [if_neg (fun g => g hmay), Int.toNat_natCast, Int.toNat_natCast, if_neg hst]
          by_cases e15 : mk = 15
          · rw [if_pos (by omega), if_pos e15]
          · rw [if_neg (by omega), if_neg e15]
        have e2 : s.wS nd i p mk = s.wGo nd i p mk := by
          unfold Sc.wS
          rw [if_pos (by rw [e]; split <;> omega), Int.toNat_natCast, Int.toNat_natCast, Int.toNat_natCast]
        rw [e2]
        exact write10_go nd i p mk w h hn hi hm hp ho hu hl _ e
    · have e : s.wE nd i p mk = 1 := by
        unfold Sc.wE
        rw [if_pos (fun g => hp g.2.2.2.2.2)]
      have e2 : s.wS nd i p mk = s := Sc.wS_no (by rw [e]; omega)
      rw [e, e2]
      exact (write10_wrong nd i p mk w h hn hi hm hp).mono fun e w' g => ⟨g.1, h.later g.2, Tn.of_below g.2⟩
  · have e : s.wE node id p mask = 1 := by
      unfold Sc.wE
      rw [if_pos (fun g => h1 ⟨⟨g.1, g.2.1⟩, ⟨g.2.2.1, g.2.2.2.1⟩, g.2.2.2.2.1⟩)]
    have e2 : s.wS node id p mask = s := Sc.wS_no (by rw [e]; omega)
    rw [e, e2]
    exact (write10_arg (some ⟨gs, 0, none⟩) s.n node id p mask w (fun x hx => pages10 (h.later hx)) h1).mono fun e w' g => ⟨g.1, h.later g.2, Tn.of_below g.2⟩
theorem mend10 {gs gp : Nat} {s : Sc} {w : World} (node mask : Int) (h : SAt w gs gp s) :
    Calls Try.prog 14 #[.pointer (some ⟨gs, 0, none⟩), .int .i64 node, .int .i64 mask] w fun e w' => e = .returned (.int .i64 (s.mE node mask)) ∧ SAt w' gs gp (s.mS node mask) ∧ Tn (FS gs gp) w w' := by
  by_cases h1 : 0 < s.n ∧ 0 ≤ node ∧ node < 8 ∧ 0 ≤ mask ∧ mask ≤ 3
  · obtain ⟨nd, rfl⟩ := Int.eq_ofNat_of_zero_le h1.2.1
    obtain ⟨mk, rfl⟩ := Int.eq_ofNat_of_zero_le h1.2.2.2.1
    have hn : nd < 8 := by omega
    have hm : mk ≤ 3 := by omega
    have eE : s.mE nd mk = if s.out nd = true ∧ tornB (s.pl (s.id nd).toNat) = true ∧ (mk : Int) ≠ 3 then 9 else 0 := by
      unfold Sc.mE
      rw [if_neg (fun g => g h1), Int.toNat_natCast]
    have eS : s.mS nd mk = if s.mE nd mk = 1 ∨ s.out nd = false then s else if tornB (s.pl (s.id nd).toNat) = true then (if (mk : Int) = 3 then { s.mPl nd mk with out := put1 s.out nd false } else s.mPl nd mk) else { s with out := put1 s.out nd false } := by
      unfold Sc.mS
      simp only [Int.toNat_natCast]
    cases ho : s.out nd with
    | false =>
      have e1 : s.mE nd mk = 0 := by rw [eE, if_neg (by rw [ho]; simp)]
      have e2 : s.mS nd mk = s := by rw [eS, if_pos (.inr ho)]
      rw [e1, e2]
      exact (mend10_idle nd mk w h hn h1.1 hm ho).mono fun e w' g => ⟨g.1, by rw [← g.2]; exact h, by rw [← g.2]; exact Tn.refl _ _⟩
    | true =>
      have e1 : s.mE nd mk = if tornB (s.pl (s.id nd).toNat) = true ∧ mk ≠ 3 then 9 else 0 := by
        rw [eE]
        by_cases g : tornB (s.pl (s.id nd).toNat) = true ∧ mk ≠ 3
        · rw [if_pos g, if_pos ⟨ho, g.1, by omega⟩]
        · rw [if_neg g, if_neg (fun q => g ⟨q.2.1, by omega⟩)]
      have e3 : s.mE nd mk ≠ 1 := by rw [e1]; split <;> omega
      have e2 : s.mS nd mk = if tornB (s.pl (s.id nd).toNat) = true then (if mk = 3 then { s.mPl nd mk with out := put1 s.out nd false } else s.mPl nd mk) else { s with out := put1 s.out nd false } := by
        rw [eS, if_neg (fun g => by rcases g with g | g; exact e3 g; rw [ho] at g; cases g)]
        by_cases g : mk = 3
        · rw [if_pos g, if_pos (show (mk : Int) = 3 by omega)]
        · rw [if_neg g, if_neg (show ¬ (mk : Int) = 3 by omega)]
      rw [e2]
      exact mend10_out nd mk w h hn h1.1 hm ho _ e1
  · have e : s.mE node mask = 1 := by
      unfold Sc.mE
      rw [if_pos h1]
    have e2 : s.mS node mask = s := by
      unfold Sc.mS
      rw [if_pos (.inl e)]
    rw [e, e2]
    exact (mend10_arg (some ⟨gs, 0, none⟩) s.n node mask w (pages10 h) h1).mono fun e w' g => ⟨g.1, by rw [← g.2]; exact h, by rw [← g.2]; exact Tn.refl _ _⟩
end Go.Proofs.Ytfeghhgniahfkaa

/-
  What a page's image is decoded as, of no program.
-/
namespace Go.Proofs.Ytfeghhgniahfkaa
open Go.RowKit
set_option linter.unusedVariables false

theorem torn_image (id : Nat) (p : Pg) (hp : p.right) : tornB (imageB id p) = false := by
  obtain ⟨h1, h2, _⟩ := image_parts id p hp
  unfold tornB
  rw [h1, h2]
  simp

theorem sum_image (id : Nat) (p : Pg) (hp : p.right) : leN ((taleOf (imageB id p)).drop 236) = crc ((taleOf (imageB id p)).take 236) := by
  rw [(image_parts id p hp).2.2]
  have hl := taleB_length id p hp
  have hb := bodyB_length id p hp
  have h1 : (taleB id p).take 236 = bodyB id p := by
    unfold taleB
    rw [List.take_left' hb]
  have h2 := (seal_eq_iff (taleB id p) (by omega)).1
  rw [hl] at h2
  refine h2 ?_
  show (taleB id p).take 236 ++ leB (crc ((taleB id p).take 236)) = taleB id p
  rw [h1]
  rfl

theorem dec_image (id : Int) (p : Pg) (h0 : 0 ≤ id ∧ id ≤ 31) (hp : p.right) : decE id (imageB id.toNat p) = 0 ∧ pgA (decP id (imageB id.toNat p)) = pgA p := by
  have hs := scan_image id.toNat p hp
  have h1 : decE id (imageB id.toNat p) = 0 := by
    rw [dec_last id _ h0 (imageB_length _ _ hp) (torn_image _ _ hp) (sum_image _ _ hp), if_pos ⟨hs.symm.right hp, hs.image _⟩]
  refine ⟨h1, ?_⟩
  unfold decP
  rw [if_pos h1]
  exact same_pgA hs

theorem dec_other (id jd : Int) (p : Pg) (h0 : 0 ≤ id ∧ id ≤ 31) (hp : p.right) : decE jd (imageB id.toNat p) = 0 ↔ jd = id := by
  constructor
  · intro h
    by_cases hj : 0 ≤ jd ∧ jd ≤ 31
    · rw [dec_last jd _ hj (imageB_length _ _ hp) (torn_image _ _ hp) (sum_image _ _ hp)] at h
      by_cases hr : (scanP (imageB id.toNat p)).right ∧ imageB jd.toNat (scanP (imageB id.toNat p)) = imageB id.toNat p
      · have := (image_inj hr.1 hp (by omega) (by omega) hr.2).1
        omega
      · rw [if_neg hr] at h
        cases h
    · unfold decE at h
      rw [if_pos hj] at h
      cases h
  · rintro rfl
    exact (dec_image jd p h0 hp).1

theorem dec_short (id : Int) (bs : List UInt8) (h0 : 0 ≤ id ∧ id ≤ 31) (h : bs.length < 256) : decE id bs = 4 := by
  unfold decE
  rw [if_neg (by simpa using h0), if_pos h]
theorem dec_long (id : Int) (bs : List UInt8) (h0 : 0 ≤ id ∧ id ≤ 31) (h : 256 < bs.length) : decE id bs = 2 := by
  unfold decE
  rw [if_neg (by simpa using h0), if_neg (by omega), if_pos h]
theorem dec_torn (id : Int) (bs : List UInt8) (h0 : 0 ≤ id ∧ id ≤ 31) (ht : tornB bs = true) : decE id bs = 14 := by
  have h : bs.length = 256 := by
    unfold tornB at ht
    exact (of_decide_eq_true ht).1
  unfold decE
  rw [if_neg (by simpa using h0), if_neg (by omega), if_neg (by omega), if_pos ht]
theorem enc_yes (id : Int) (p : Pg) (h : 0 ≤ id ∧ id ≤ 31 ∧ p.right) : encB id p = (imageB id.toNat p, 0) := by unfold encB; rw [if_pos h]
theorem enc_no (id : Int) (p : Pg) (h : ¬ (0 ≤ id ∧ id ≤ 31 ∧ p.right)) : encB id p = ([], 1) := by unfold encB; rw [if_neg h]
end Go.Proofs.Ytfeghhgniahfkaa

/-
  A store of the code's that a walk keeps, call by call: all that was there when the walk began stays.
-/
namespace Go.Proofs.Ytfeghhgniahfkaa
open Go.RowKit
set_option linter.unusedVariables false

/-- Blocks of other kinds than the store's are as they were. -/
structure Side10 (w w' : World) : Prop where
  size : w.heap.size ≤ w'.heap.size
  block : ∀ (k : Nat) (cs : Array Value) (t : TypeId) (fr : Nat × Nat), t ≠ 75 → t ≠ 70 → w.heap[k]? = some (Obj.cells cs t fr) → w'.heap[k]? = some (Obj.cells cs t fr)
theorem Side10.refl (w : World) : Side10 w w := ⟨Nat.le_refl _, fun _ _ _ _ _ _ h => h⟩
theorem Side10.trans {w x y : World} (p : Side10 w x) (q : Side10 x y) : Side10 w y := ⟨Nat.le_trans p.size q.size, fun k cs t fr h1 h2 h => q.block k cs t fr h1 h2 (p.block k cs t fr h1 h2 h)⟩
theorem Side10.of_below {w x : World} (p : Below w.heap.size w x) : Side10 w x := ⟨p.size, fun k cs t fr _ _ h => (p.block k (Array.getElem?_eq_some_iff.1 h).1).trans h⟩
theorem Side10.row {w x : World} {k : Nat} {t : TypeId} {cs : Array Value} (p : Side10 w x) (h : RowAt w k t cs) (h1 : t ≠ 75) (h2 : t ≠ 70) : RowAt x k t cs := p.block k cs t (0, 0) h1 h2 h
theorem Side10.page {w x : World} {k : Nat} {p : Pg} (q : Side10 w x) (h : PgAt w k p) : PgAt x k p := q.block k _ 35 (0, 0) (by decide) (by decide) h
theorem SAt.side {w x : World} {gs gp : Nat} {s : Sc} (h : SAt w gs gp s) (p : Tn (FS gs gp) w x) : Side10 w x := by
  obtain ⟨cs, ps, h⟩ := h
  refine ⟨p.size, fun k c t fr h1 h2 hk => (p.block k (Array.getElem?_eq_some_iff.1 hk).1 (fun e => ?_)).trans hk⟩
  rcases e with rfl | rfl
  · have h3 := h.st
    unfold RowAt at h3
    rw [h3] at hk
    injection hk with hk
    injection hk with _ h4
    exact h1 h4.symm
  · have h3 := h.pr
    unfold RowAt at h3
    rw [h3] at hk
    injection hk with hk
    injection hk with _ h4
    exact h2 h4.symm

structure K10 (w0 w : World) (gs : Nat) (s : Sc) (old : Nat → Pg) (tr : Nat → Option (Pg × Bool)) : Prop where
  low : w0.heap.size ≤ gs
  st : ∃ gp, w0.heap.size ≤ gp ∧ SAt w gs gp s
  ok : s.ok old tr
  bel : Below w0.heap.size w0 w
section
variable {w0 w x : World} {gs : Nat} {s : Sc} {old : Nat → Pg} {tr : Nat → Option (Pg × Bool)}
theorem K10.later (h : K10 w0 w gs s old tr) (p : Below w.heap.size w x) : K10 w0 x gs s old tr := by
  obtain ⟨gp, h1, h2⟩ := h.st
  exact ⟨h.low, ⟨gp, h1, h2.later p⟩, h.ok, h.bel.trans (p.mono h.bel.size)⟩
theorem K10.alloc (h : K10 w0 w gs s old tr) (o : Obj) : K10 w0 (w.alloc o) gs s old tr := h.later ((Below.refl _ _).alloc (Nat.le_refl _) _)
theorem K10.drew (h : K10 w0 w gs s old tr) : K10 w0 w.drew gs s old tr := h.later dq
/-- A cell of another block turned. -/
theorem K10.set (h : K10 w0 w gs s old tr) {k : Nat} {t : TypeId} {cs : Array Value} (hr : RowAt w k t cs) (h1 : t ≠ 75) (h2 : t ≠ 70) (hk : w0.heap.size ≤ k) (j : Nat) (v : Value) : K10 w0 (w.setCell ⟨k, j, none⟩ v) gs s old tr := by
  obtain ⟨gp, h3, cs', ps, h4⟩ := h.st
  refine ⟨h.low, ⟨gp, h3, cs', ps, h4.keep ?_ ?_⟩, h.ok, h.bel.setCell hk v⟩
  · exact heap_setCell_other w ⟨k, j, none⟩ gs v (fun e => by
      have e' : gs = k := e
      subst e'
      exact h1 (row_kind hr h4.st))
  · exact heap_setCell_other w ⟨k, j, none⟩ gp v (fun e => by
      have e' : gp = k := e
      subst e'
      exact h2 (row_kind hr h4.pr))
/-- Another block turned. -/
theorem K10.only (h : K10 w0 w gs s old tr) {k : Nat} {t : TypeId} {cs : Array Value} (hr : RowAt w k t cs) (h1 : t ≠ 75) (h2 : t ≠ 70) (hk : w0.heap.size ≤ k) (p : Only k w x) : K10 w0 x gs s old tr := by
  obtain ⟨gp, h3, cs', ps, h4⟩ := h.st
  refine ⟨h.low, ⟨gp, h3, cs', ps, h4.keep ?_ ?_⟩, h.ok, p.below h.bel hk⟩
  · exact p.block gs (fun e => by
      subst e
      exact h1 (row_kind hr h4.st))
  · exact p.block gp (fun e => by
      subst e
      exact h2 (row_kind hr h4.pr))
theorem K10.pages (h : K10 w0 w gs s old tr) : Calls Try.prog 13 #[.pointer (some ⟨gs, 0, none⟩)] w fun e w' => e = .returned (.int .i64 (s.n : Int)) ∧ w = w' := by
  obtain ⟨gp, _, h2⟩ := h.st
  exact pages10 h2
theorem K10.out (h : K10 w0 w gs s old tr) (n : Int) : Calls Try.prog 16 #[.pointer (some ⟨gs, 0, none⟩), .int .i64 n] w fun e w' => e = .returned (.bool (s.outB n)) ∧ w = w' := by
  obtain ⟨gp, _, h2⟩ := h.st
  exact out10 n h2
theorem K10.image (h : K10 w0 w gs s old tr) (i : Nat) (hi : i < s.n) : Calls Try.prog 23 #[.pointer (some ⟨gs, 0, none⟩), .int .i64 (i : Int)] w fun e w' => ∃ v, e = .returned (.tuple #[v, .int .i64 0]) ∧ w'.ownsRow w.heap.size 5 1 v 256 (toV (s.pl i)) ∧ Below w.heap.size w w' := by
  obtain ⟨gp, _, h2⟩ := h.st
  exact image10 i hi h2
theorem K10.read (h : K10 w0 w gs s old tr) (i : Nat) (hi : i < s.n) (ht : tr i = none) : Calls Try.prog 17 #[.pointer (some ⟨gs, 0, none⟩), .int .i64 (i : Int)] w fun e w' => e = .returned (.tuple #[.agg (pgA (old i)), .int .i64 0]) ∧ Below w.heap.size w w' := by
  obtain ⟨gp, _, h2⟩ := h.st
  have h3 := dec_image (i : Int) (old i) (by have := h.ok.wf.n; omega) (h.ok.rt i hi)
  rw [Int.toNat_natCast, ← h.ok.lie i hi ht] at h3
  have h4 := read10 i hi h2
  rw [h3.1, h3.2] at h4
  exact h4
theorem K10.torn (h : K10 w0 w gs s old tr) (i : Nat) (hi : i < s.n) (ht : tr i ≠ none) : Calls Try.prog 17 #[.pointer (some ⟨gs, 0, none⟩), .int .i64 (i : Int)] w fun e w' => e = .returned (.tuple #[.agg (pgA Pg.zero), .int .i64 14]) ∧ Below w.heap.size w w' := by
  obtain ⟨gp, _, h2⟩ := h.st
  have h3 : tornB (s.pl i) = true := by
    rw [h.ok.torn i hi]
    cases e : tr i with
    | none => exact absurd e ht
    | some _ => rfl
  have h5 := dec_torn (i : Int) (s.pl i) (by have := h.ok.wf.n; omega) h3
  have h4 := read10 i hi h2
  rw [h5, decP_no _ _ (by rw [h5]; omega)] at h4
  exact h4
/-- What is beneath, behind a Write. -/
def wO (s : Sc) (old : Nat → Pg) (node id : Int) (p : Pg) (mask : Int) : Nat → Pg := if s.wE node id p mask = 0 ∨ s.wE node id p mask = 9 then wOld old id.toNat p mask else old
def wT (s : Sc) (tr : Nat → Option (Pg × Bool)) (node id : Int) (p : Pg) (mask : Int) : Nat → Option (Pg × Bool) := if s.wE node id p mask = 0 ∨ s.wE node id p mask = 9 then wTr tr id.toNat p mask else tr
theorem K10.write (h : K10 w0 w gs s old tr) (node id : Int) (p : Pg) (mask : Int) :
    Calls Try.prog 15 #[.pointer (some ⟨gs, 0, none⟩), .int .i64 node, .int .i64 id, .agg (pgA p), .int .i64 mask] w fun e w' => e = .returned (.int .i64 (s.wE node id p mask)) ∧ K10 w0 w' gs (s.wS node id p mask) (wO s old node id p mask) (wT s tr node id p mask) ∧ Side10 w w' := by
  obtain ⟨gp, h1, h2⟩ := h.st
  refine (write10 node id p mask h2).mono ?_
  rintro e w' ⟨rfl, h3, h4⟩
  refine ⟨rfl, ⟨h.low, ⟨gp, h1, h3⟩, ?_, h.bel.trans (h4.below (fun k hk => by rcases hk with rfl | rfl; exact h.low; exact h1) h.bel.size)⟩, h2.side h4⟩
  unfold wO wT
  by_cases g : s.wE node id p mask = 0 ∨ s.wE node id p mask = 9
  · rw [if_pos g, if_pos g]
    exact (h.ok.write node id p mask g).1
  · rw [if_neg g, if_neg g, Sc.wS_no g]
    exact h.ok
theorem K10.mend (h : K10 w0 w gs s old tr) (node mask : Int) :
    Calls Try.prog 14 #[.pointer (some ⟨gs, 0, none⟩), .int .i64 node, .int .i64 mask] w fun e w' => e = .returned (.int .i64 (s.mE node mask)) ∧ (∃ old' tr', K10 w0 w' gs (s.mS node mask) old' tr' ∧ Came old old' tr tr') ∧ Side10 w w' := by
  obtain ⟨gp, h1, h2⟩ := h.st
  obtain ⟨old', tr', h5, h6⟩ := h.ok.mend node mask
  refine (mend10 node mask h2).mono ?_
  rintro e w' ⟨rfl, h3, h4⟩
  exact ⟨rfl, ⟨old', tr', ⟨h.low, ⟨gp, h1, h3⟩, h5, h.bel.trans (h4.below (fun k hk => by rcases hk with rfl | rfl; exact h.low; exact h1) h.bel.size)⟩, h6⟩, h2.side h4⟩
end
theorem knew10 (p : Int) (w0 w : World) (h : Below w0.heap.size w0 w) :
    Calls Try.prog 9 #[.int .i64 p] w fun e w' => ∃ gs, e = .returned (.pointer (some ⟨gs, 0, none⟩)) ∧ K10 w0 w' gs (Sc.new (npg p)) (fun _ => Pg.zero) (fun _ => none) ∧ Below w.heap.size w w' :=
  (new10 p w).mono fun e w' he => ⟨_, he.1, ⟨by have := h.size; omega, ⟨_, h.size, he.2.1⟩, Sc.new_ok _ (npg_le p).2, h.trans (he.2.2.mono h.size)⟩, he.2.2⟩

/-- A Write of a right page onto a store that nobody is writing on. -/
theorem wE_new (s : Sc) (old : Nat → Pg) (tr : Nat → Option (Pg × Bool)) (h : s.ok old tr) (nd i : Nat) (p : Pg) (mask : Int) (hn : nd < 8) (hi : i < s.n) (hm : maskOk mask) (hp : p.right) (ho : ∀ m, m < 8 → s.out m = true → m ≠ nd ∧ s.id m ≠ (i : Int)) (ht : tr i = none) (hl : (old i).l < p.l) : s.wE nd i p mask = if mask = 15 then 0 else 9 := by
  unfold Sc.wE
  rw [if_neg (fun g => g ⟨by omega, by omega, by omega, by omega, hm, hp⟩), if_neg]
  rintro (g | g | g)
  · exact (ho nd hn (by simpa using g)).1 rfl
  · obtain ⟨m, h1, h2, h3⟩ := (s.busy_iff (i : Int)).1 g
    exact (ho m h1 h2).2 h3
  · rw [Int.toNat_natCast, h.lie i hi ht, stamp_image i _ (h.rt i hi)] at g
    have g' : p.l ≤ (old i).l := g
    omega
end Go.Proofs.Ytfeghhgniahfkaa

/-
  The contract of the statements' awake (store).
-/
namespace Go.Proofs.Ytfeghhgniahfkaa
open Go.RowKit
set_option linter.unusedVariables false

def pg5 : Pg := ⟨5, Pg.zero.u, Pg.zero.s⟩
theorem pg5_right : pg5.right := ⟨by unfold pg5 maxP; simp only; omega, fun i _ => ⟨Nat.zero_le _, fun _ => rfl⟩⟩
theorem new_free (k : Nat) : ∀ m, m < 8 → (Sc.new k).out m = true → m ≠ 0 ∧ (Sc.new k).id m ≠ ((1 : Nat) : Int) := fun m _ h => absurd h (by show ¬ false = true; decide)
theorem wE_pg5 : (Sc.new 2).wE ((0 : Nat) : Int) ((1 : Nat) : Int) pg5 15 = 0 := by
  rw [wE_new (Sc.new 2) (fun _ => Pg.zero) (fun _ => none) (Sc.new_ok 2 (by omega)) 0 1 pg5 15 (by omega) (by show 1 < 2; omega) (by omega) pg5_right (new_free 2) rfl (by show 0 < 5; omega), if_pos rfl]

set_option maxRecDepth 4000 in
set_option maxHeartbeats 800000 in
theorem awake10 (w : World) : Calls Try.prog 8 #[] w fun e w' => e = .returned (.bool true) ∧ Below w.heap.size w w' := by
  go_enter Try.func8, Try.ntmps8
  go_wp2_with fail
  refine (knew10 2 w w (Below.refl _ _)).mono ?_
  rintro e w1 ⟨gs, rfl, h1, -⟩
  have H1 := hide (show K10 w w1 gs (Sc.new 2) (fun _ => Pg.zero) (fun _ => none) from h1)
  have HW := hide (H1.out.write ((0 : Nat) : Int) ((1 : Nat) : Int) pg5 15)
  clear h1
  go_wp2_with fail
  refine HW.out.mono ?_
  rintro e w2 ⟨rfl, h2, -⟩
  have eO : wO (Sc.new 2) (fun _ => Pg.zero) ((0 : Nat) : Int) ((1 : Nat) : Int) pg5 15 1 = pg5 := by
    unfold wO
    rw [if_pos (.inl wE_pg5)]
    unfold wOld
    rw [if_pos rfl]
    exact put1_same _ _ _
  have eT : wT (Sc.new 2) (fun _ => none) ((0 : Nat) : Int) ((1 : Nat) : Int) pg5 15 1 = none := by
    unfold wT
    rw [if_pos (.inl wE_pg5)]
    rfl
  have eN : ((Sc.new 2).wS ((0 : Nat) : Int) ((1 : Nat) : Int) pg5 15).n = 2 := Sc.wS_n _ _ _ _ _
  have hr := h2.read 1 (by rw [eN]; omega) eT
  rw [eO] at hr
  have hpg := fun x (hb : Below w2.heap.size w2 x) => (h2.later hb).pages
  rw [eN] at hpg
  have HRd := hide hr
  have HPg := hide hpg
  have HB := hide h2.bel
  rw [wE_pg5]
  clear hr hpg h2 eO eT eN HW H1
  go_wp2_with fail
  refine HRd.out.mono ?_
  rintro e w3 ⟨rfl, hb3⟩
  have H3 := hide hb3
  clear hb3
  go_wp2_with (refine wpList_store_page rfl _ _ rfl w3.heap.size Pg.zero pg5 rfl rfl (heap_alloc_new w3 _) ?_)
  intro w4 hP4 hk
  have hb4 := hk _ _ (H3.out.alloc H3.out.size _) H3.out.size
  have c0 := hP4.lsn
  have HB4 := hide hb4
  clear hP4 hk hb4 H3
  have c0 : w4.cell? ⟨w3.heap.size, 0, none⟩ = some (.int .u64 5) := c0
  go_wp2_with fail
  refine (HPg.out _ HB4.out).mono ?_
  rintro e w5 ⟨rfl, rfl⟩
  go_wp2
  go_ret
  exact ⟨rfl, HB.out.trans (HB4.out.mono HB.out.size)⟩
end Go.Proofs.Ytfeghhgniahfkaa

/-
  Plain facts on stores: who is out behind a call; the document's Mask.
-/
namespace Go.Proofs.Ytfeghhgniahfkaa
open Go.RowKit
set_option linter.unusedVariables false

theorem Sc.mS_other (s : Sc) (node mask : Int) (m : Nat) (h : m ≠ node.toNat) : (s.mS node mask).out m = s.out m := by
  unfold Sc.mS
  split
  · rfl
  · split
    · split
      · exact put1_other _ _ _ _ h
      · rfl
    · exact put1_other _ _ _ _ h
theorem Sc.wS_out15 (s : Sc) (node id : Int) (p : Pg) : (s.wS node id p 15).out = s.out := by
  unfold Sc.wS
  split
  · rfl
  · rfl
theorem Sc.ok.done {s : Sc} {old : Nat → Pg} {tr : Nat → Option (Pg × Bool)} (h : s.ok old tr) (ho : ∀ m, m < 8 → s.out m = false) (i : Nat) (hi : i < s.n) : tr i = none := by
  cases ht : tr i with
  | none => rfl
  | some x =>
    obtain ⟨I, b⟩ := x
    obtain ⟨_, _, _, m, h1, h2, _⟩ := h.tor i I b hi ht
    rw [ho m h1] at h2
    cases h2
theorem Sc.wE_out (s : Sc) (nd i : Nat) (p : Pg) (hn : nd < 8) (hi : i < s.n) (hp : p.right) (h : s.out nd = true ∨ s.busy (i : Int) = true) : s.wE nd i p 15 = 13 := by
  unfold Sc.wE
  rw [if_neg (fun g => g ⟨by omega, by omega, by omega, by omega, by omega, hp⟩), Int.toNat_natCast, if_pos]
  rcases h with h | h
  · exact .inl h
  · exact .inr (.inl h)
set_option maxRecDepth 4000 in
set_option maxHeartbeats 400000 in
theorem rmask10_at (m : Int) (w : World) (r : Bool) (Hr : Hid (r = true ↔ maskOk m)) : Calls Try.prog 19 #[.int .i64 m] w fun e w' => e = .returned (.bool r) ∧ w = w' := by
  go_enter Try.func19, Try.ntmps19
  go_wp2
  all_goals
    go_ret
    refine ⟨?_, rfl⟩
    have hr := Hr.out
    show Ending.returned (.bool _) = Ending.returned (.bool _)
    congr 2
    rw [Bool.eq_iff_iff, hr]
    simp
    omega
theorem rmask10 (m : Int) (w : World) : Calls Try.prog 19 #[.int .i64 m] w fun e w' => e = .returned (.bool (decide (maskOk m))) ∧ w = w' := rmask10_at m w _ decide_eq_true_iff
end Go.Proofs.Ytfeghhgniahfkaa

/-
  Plain facts on changes of cells, of no program.
-/
namespace Go.Proofs.Ytfeghhgniahfkaa
open Go.RowKit
set_option linter.unusedVariables false

/-- A change: its kind, page and slot, the old and the new value. -/
structure Ch where
  k : Int
  pg : Int
  sl : Int
  o : ByteArray
  n : ByteArray
def Ch.zero : Ch := ⟨0, 0, 0, ⟨#[]⟩, ⟨#[]⟩⟩
/-- Its cells in memory. -/
def chA (c : Ch) : Array Value := #[.int .i64 c.k, .int .i64 c.pg, .int .i64 c.sl, .string c.o, .string c.n]

/-- A change that can be. -/
abbrev Ch.kindOk (c : Ch) : Prop := c.k = 1 ∧ c.o.size = 0 ∨ c.k = 2 ∨ c.k = 3 ∧ c.n.size = 0
abbrev Ch.right (c : Ch) : Prop := (0 ≤ c.pg ∧ c.pg ≤ 31 ∧ 0 ≤ c.sl ∧ c.sl ≤ 7 ∧ c.o.size ≤ 20 ∧ c.n.size ≤ 20) ∧ c.kindOk

/-- The cell that a change wants, and the one that it makes. -/
def Ch.wantU (c : Ch) : Bool := decide (c.k ≠ 1)
def Ch.wantV (c : Ch) : ByteArray := if c.k = 1 then ⟨#[]⟩ else c.o
def Ch.makeU (c : Ch) : Bool := decide (c.k ≠ 3)
def Ch.makeV (c : Ch) : ByteArray := if c.k = 3 then ⟨#[]⟩ else c.n
def Ch.at (c : Ch) : Nat := c.sl.toNat

/-- A page with one cell made anew. -/
def Pg.put (p : Pg) (l i : Nat) (u : Bool) (s : ByteArray) : Pg := ⟨l, fun j => if j = i then u else p.u j, fun j => if j = i then s else p.s j⟩

/-- What 'Apply' answers. -/
def appE (p : Pg) (c : Ch) (l : Nat) : Int :=
  if ¬ (p.right ∧ c.right ∧ l ≤ maxP) then 1 else if l ≤ p.l then 13
  else if p.u c.at = true ∧ c.wantU = false then 6 else if p.u c.at = false ∧ c.wantU = true then 5
  else if p.s c.at ≠ c.wantV then 2 else 0
def appP (p : Pg) (c : Ch) (l : Nat) : Pg := if appE p c l = 0 then p.put l c.at c.makeU c.makeV else Pg.zero

/-- What 'Inverse' answers. -/
def invE (c : Ch) : Int := if c.right then 0 else 1
def invC (c : Ch) : Ch := if c.right then ⟨4 - c.k, c.pg, c.sl, c.n, c.o⟩ else Ch.zero

/-- What 'Of' answers. -/
def rawC (pg sl : Int) (fu : Bool) (fv : ByteArray) (tu : Bool) (tv : ByteArray) : Ch := ⟨if tu = false then 3 else if fu = false then 1 else 2, pg, sl, fv, tv⟩
def ofE (pg sl : Int) (fu : Bool) (fv : ByteArray) (tu : Bool) (tv : ByteArray) : Int :=
  if (fu = false ∧ fv.size ≠ 0) ∨ (tu = false ∧ tv.size ≠ 0) then 1 else if ¬ (rawC pg sl fu fv tu tv).right then 1 else if fu = false ∧ tu = false then 5 else 0
def ofC (pg sl : Int) (fu : Bool) (fv : ByteArray) (tu : Bool) (tv : ByteArray) : Ch := if ofE pg sl fu fv tu tv = 0 then rawC pg sl fu fv tu tv else Ch.zero

theorem app_no (p : Pg) (c : Ch) (l : Nat) (h : appE p c l ≠ 0) : appP p c l = Pg.zero := by unfold appP; rw [if_neg h]

/-- What stands behind an Apply that is done. -/
theorem app_yes (p : Pg) (c : Ch) (l : Nat) : appE p c l = 0 ↔ p.right ∧ c.right ∧ l ≤ maxP ∧ p.l < l ∧ p.u c.at = c.wantU ∧ p.s c.at = c.wantV := by
  unfold appE
  constructor
  · intro h
    split at h
    · cases h
    · rename_i h1
      have h1 : p.right ∧ c.right ∧ l ≤ maxP := Decidable.of_not_not h1
      split at h
      · cases h
      · rename_i h2
        split at h
        · cases h
        · rename_i h3
          split at h
          · cases h
          · rename_i h4
            split at h
            · cases h
            · rename_i h5
              refine ⟨h1.1, h1.2.1, h1.2.2, by omega, ?_, Decidable.of_not_not h5⟩
              cases hu : p.u c.at <;> cases hw : c.wantU <;> simp_all
  · rintro ⟨h1, h2, h3, h4, h5, h6⟩
    rw [if_neg (fun h => h ⟨h1, h2, h3⟩), if_neg (by omega), if_neg (by rw [h5]; intro h; rw [h.1] at h; cases h.2), if_neg (by rw [h5]; intro h; rw [h.1] at h; cases h.2), if_neg (by rw [h6]; simp)]

theorem size0 (s : ByteArray) (h : s.size = 0) : s = ⟨#[]⟩ := by
  obtain ⟨⟨l⟩⟩ := s
  have : l = [] := List.eq_nil_of_length_eq_zero h
  subst this
  rfl

theorem Ch.right.at_lt {c : Ch} (h : c.right) : c.at < 8 := by
  have h1 := h.1
  unfold Ch.at
  omega

/-- A page behind a change is right. -/
theorem put_right (p : Pg) (c : Ch) (l : Nat) (hp : p.right) (hc : c.right) (hl : l ≤ maxP) : (p.put l c.at c.makeU c.makeV).right := by
  refine ⟨hl, fun i hi => ?_⟩
  show cellOk (if i = c.at then c.makeU else p.u i) (if i = c.at then c.makeV else p.s i)
  by_cases h : i = c.at
  · rw [if_pos h, if_pos h]
    have h1 := hc.1
    refine ⟨?_, ?_⟩
    · unfold Ch.makeV
      split
      · show (0 : Nat) ≤ 20
        omega
      · exact h1.2.2.2.2.2
    · unfold Ch.makeU Ch.makeV
      intro hk
      have : c.k = 3 := by simpa using hk
      rw [if_pos this]
      rfl
  · rw [if_neg h, if_neg h]
    exact hp.2 i hi

/-- The inverse is right, wants what the change makes, and makes what it wants. -/
theorem inv_right (c : Ch) (h : c.right) : (invC c).right ∧ (invC c).at = c.at ∧ (invC c).wantU = c.makeU ∧ (invC c).wantV = c.makeV ∧ (invC c).makeU = c.wantU ∧ (invC c).makeV = c.wantV ∧ (invC c).sl = c.sl := by
  have e : invC c = ⟨4 - c.k, c.pg, c.sl, c.n, c.o⟩ := by unfold invC; rw [if_pos h]
  rw [e]
  obtain ⟨h1, h2⟩ := h
  refine ⟨⟨⟨h1.1, h1.2.1, h1.2.2.1, h1.2.2.2.1, h1.2.2.2.2.2, h1.2.2.2.2.1⟩, ?_⟩, rfl, ?_, ?_, ?_, ?_, rfl⟩
  · unfold Ch.kindOk at h2 ⊢
    rcases h2 with ⟨h3, h4⟩ | h3 | ⟨h3, h4⟩
    · exact .inr (.inr ⟨by show 4 - c.k = 3; omega, h4⟩)
    · exact .inr (.inl (by show 4 - c.k = 2; omega))
    · exact .inl ⟨by show 4 - c.k = 1; omega, h4⟩
  · unfold Ch.wantU Ch.makeU
    exact decide_eq_decide.2 (by show 4 - c.k ≠ 1 ↔ c.k ≠ 3; omega)
  · unfold Ch.wantV Ch.makeV
    by_cases hk : c.k = 3
    · rw [if_pos hk, if_pos (by show 4 - c.k = 1; omega)]
    · rw [if_neg hk, if_neg (by show ¬ 4 - c.k = 1; omega)]
  · unfold Ch.wantU Ch.makeU
    exact decide_eq_decide.2 (by show 4 - c.k ≠ 3 ↔ c.k ≠ 1; omega)
  · unfold Ch.wantV Ch.makeV
    by_cases hk : c.k = 1
    · rw [if_pos hk, if_pos (by show 4 - c.k = 3; omega)]
    · rw [if_neg hk, if_neg (by show ¬ 4 - c.k = 3; omega)]

/-- Cells that a change puts: those of the page behind it. -/
theorem put_at (p : Pg) (l i : Nat) (u : Bool) (s : ByteArray) : (p.put l i u s).u i = u ∧ (p.put l i u s).s i = s := by
  unfold Pg.put
  simp
theorem put_other (p : Pg) (l i j : Nat) (u : Bool) (s : ByteArray) (h : j ≠ i) : (p.put l i u s).u j = p.u j ∧ (p.put l i u s).s j = p.s j := by
  unfold Pg.put
  simp [h]
end Go.Proofs.Ytfeghhgniahfkaa

/-
  What TopPages keeps to: changes of cells, written onto a store by one node. Of no program.
-/
namespace Go.Proofs.Ytfeghhgniahfkaa
open Go.RowKit
set_option linter.unusedVariables false

/-- W: the pages that are wanted; l: the number so far. -/
structure TP (s : Sc) (old : Nat → Pg) (tr : Nat → Option (Pg × Bool)) (W : Nat → Pg) (l : Nat) : Prop where
  ok : s.ok old tr
  n : s.n = 4
  out : ∀ m, m < 8 → m ≠ 0 → s.out m = false
  rt : ∀ k, k < 4 → (W k).right ∧ (W k).l ≤ l
  is : ∀ k, k < 4 → (tr k = none ∧ W k = old k) ∨ ∃ b, tr k = some (W k, b)
section
variable {s : Sc} {old old' : Nat → Pg} {tr tr' : Nat → Option (Pg × Bool)} {W : Nat → Pg} {l : Nat}
theorem TP.new : TP (Sc.new 4) (fun _ => Pg.zero) (fun _ => none) (fun _ => Pg.zero) 0 :=
  ⟨Sc.new_ok 4 (by omega), rfl, fun _ _ _ => rfl, fun _ _ => ⟨zero_right, Nat.le_refl _⟩, fun _ _ => .inl ⟨rfl, rfl⟩⟩
theorem TP.mend (h : TP s old tr W l) (mask : Int) (ho : (s.mS 0 mask).ok old' tr') (hc : Came old old' tr tr') : TP (s.mS 0 mask) old' tr' W l := by
  refine ⟨ho, by rw [Sc.mS_n]; exact h.n, fun m hm h0 => by rw [Sc.mS_other _ _ _ _ (by simpa using h0)]; exact h.out m hm h0, h.rt, fun k hk => ?_⟩
  rcases h.is k hk with ⟨h1, h2⟩ | ⟨b, h1⟩
  · rcases hc k with ⟨g1, g2⟩ | ⟨b, g1, g2⟩
    · exact .inl ⟨by rw [g2]; exact h1, by rw [g1]; exact h2⟩
    · rw [h1] at g1; cases g1
  · rcases hc k with ⟨g1, g2⟩ | ⟨b2, g1, g2⟩
    · exact .inr ⟨b, by rw [g2]; exact h1⟩
    · rw [h1] at g1
      injection g1 with g1
      injection g1 with g1 g3
      exact .inl ⟨g2, g1⟩
/-- What was mended whole isn't out. -/
theorem Sc.mend_in (s : Sc) (mask : Int) (h : s.mE 0 mask = 0) : (s.mS 0 mask).out 0 = false := by
  have h1 : ¬ s.mE 0 mask = 1 := by omega
  unfold Sc.mS
  cases ho : s.out (0 : Int).toNat with
  | false => rw [if_pos (.inr rfl)]; exact ho
  | true =>
    rw [if_neg (by rintro (g | g); exact h1 g; cases g)]
    by_cases ht : tornB (s.pl (s.id (0 : Int).toNat).toNat) = true
    · rw [if_pos ht]
      have hm : mask = 3 := Classical.byContradiction fun hm => by
        unfold Sc.mE at h
        split at h
        · omega
        · rw [if_pos ⟨ho, ht, hm⟩] at h
          omega
      rw [if_pos hm]
      show put1 s.out 0 false 0 = false
      exact put1_same _ _ _
    · rw [if_neg ht]
      show put1 s.out 0 false 0 = false
      exact put1_same _ _ _
theorem TP.last (h : TP s old tr W l) : s.mE 0 3 = 0 := by
  unfold Sc.mE
  rw [if_neg (fun g => g ⟨by rw [h.n]; omega, by omega, by omega, by omega, by omega⟩), if_neg (fun g => g.2.2 rfl)]
theorem TP.done (h : TP s old tr W l) (h0 : s.out 0 = false) (k : Nat) (hk : k < 4) : tr k = none ∧ W k = old k := by
  have hn : tr k = none := h.ok.done (fun m hm => by
    by_cases e : m = 0
    · rw [e]; exact h0
    · exact h.out m hm e) k (by rw [h.n]; exact hk)
  rcases h.is k hk with g | ⟨b, g⟩
  · exact g
  · rw [hn] at g; cases g
/-- A Write of a later page. -/
theorem TP.write (h : TP s old tr W l) (i : Nat) (hi : i < 4) (p : Pg) (mask : Int) (hp : p.right) (hl : p.l = l + 1) :
    TP (s.wS 0 i p mask) (wO s old 0 i p mask) (wT s tr 0 i p mask) (if s.wE 0 i p mask = 0 ∨ (s.wE 0 i p mask = 9 ∧ 3 < mask) then put1 W i p else W) (l + 1) := by
  have key : (s.wS 0 i p mask).ok (wO s old 0 i p mask) (wT s tr 0 i p mask) := by
    unfold wO wT
    by_cases g : s.wE 0 i p mask = 0 ∨ s.wE 0 i p mask = 9
    · rw [if_pos g, if_pos g]
      exact (h.ok.write 0 i p mask g).1
    · rw [if_neg g, if_neg g, Sc.wS_no g]
      exact h.ok
  have rtW : ∀ k, k < 4 → (W k).right ∧ (W k).l ≤ l + 1 := fun k hk => ⟨(h.rt k hk).1, Nat.le_succ_of_le (h.rt k hk).2⟩
  refine ⟨key, by rw [Sc.wS_n]; exact h.n, fun m hm h0 => ?_, fun k hk => ?_, fun k hk => ?_⟩
  · by_cases g : s.wE 0 i p mask = 0 ∨ s.wE 0 i p mask = 9
    · have e : s.wS 0 i p mask = s.wGo 0 i p mask.toNat := if_pos g
      rw [e]
      show (if mask.toNat = 15 then s.out else put1 s.out 0 true) m = false
      by_cases e15 : mask.toNat = 15
      · rw [if_pos e15]; exact h.out m hm h0
      · rw [if_neg e15, put1_other _ _ _ _ h0]; exact h.out m hm h0
    · rw [Sc.wS_no g]; exact h.out m hm h0
  · by_cases g : s.wE 0 i p mask = 0 ∨ (s.wE 0 i p mask = 9 ∧ 3 < mask)
    · rw [if_pos g]
      by_cases e : k = i
      · rw [e, put1_same]; exact ⟨hp, by omega⟩
      · rw [put1_other _ _ _ _ e]; exact rtW k hk
    · rw [if_neg g]; exact rtW k hk
  · by_cases g : s.wE 0 i p mask = 0 ∨ s.wE 0 i p mask = 9
    · have hw := h.ok.write 0 i p mask g
      have hm := (Sc.wE_go g).1.2.2.2.2.1
      have hE := Sc.wE_eq g
      have hti : tr i = none := hw.2.1
      have hwi : W i = old i := by
        rcases h.is i hi with q | ⟨b, q⟩
        · exact q.2
        · rw [hti] at q; cases q
      have eO : wO s old 0 i p mask = wOld old i p mask := if_pos g
      have eT : wT s tr 0 i p mask = wTr tr i p mask := if_pos g
      rw [eO, eT]
      by_cases e : k = i
      · subst e
        unfold wOld wTr
        rcases hm with e1 | e1 | e1 | e1 | e1 | e1 | e1
        · have q : ¬ (s.wE 0 k p mask = 0 ∨ (s.wE 0 k p mask = 9 ∧ 3 < mask)) := by rw [hE, if_neg (by omega)]; omega
          rw [if_neg q, if_neg (show ¬ mask = 15 by omega), if_neg (show ¬ mask = 7 by omega), if_neg (show ¬ mask = 11 by omega)]
          exact .inl ⟨hti, hwi⟩
        · have q : ¬ (s.wE 0 k p mask = 0 ∨ (s.wE 0 k p mask = 9 ∧ 3 < mask)) := by rw [hE, if_neg (by omega)]; omega
          rw [if_neg q, if_neg (show ¬ mask = 15 by omega), if_neg (show ¬ mask = 7 by omega), if_neg (show ¬ mask = 11 by omega)]
          exact .inl ⟨hti, hwi⟩
        · have q : ¬ (s.wE 0 k p mask = 0 ∨ (s.wE 0 k p mask = 9 ∧ 3 < mask)) := by rw [hE, if_neg (by omega)]; omega
          rw [if_neg q, if_neg (show ¬ mask = 15 by omega), if_neg (show ¬ mask = 7 by omega), if_neg (show ¬ mask = 11 by omega)]
          exact .inl ⟨hti, hwi⟩
        · have q : ¬ (s.wE 0 k p mask = 0 ∨ (s.wE 0 k p mask = 9 ∧ 3 < mask)) := by rw [hE, if_neg (by omega)]; omega
          rw [if_neg q, if_neg (show ¬ mask = 15 by omega), if_neg (show ¬ mask = 7 by omega), if_neg (show ¬ mask = 11 by omega)]
          exact .inl ⟨hti, hwi⟩
        · have q : s.wE 0 k p mask = 0 ∨ (s.wE 0 k p mask = 9 ∧ 3 < mask) := by rw [hE, if_neg (by omega)]; omega
          rw [if_pos q, if_neg (show ¬ mask = 15 by omega), if_pos e1, put1_same, put1_same]
          exact .inr ⟨_, rfl⟩
        · have q : s.wE 0 k p mask = 0 ∨ (s.wE 0 k p mask = 9 ∧ 3 < mask) := by rw [hE, if_neg (by omega)]; omega
          rw [if_pos q, if_neg (show ¬ mask = 15 by omega), if_neg (show ¬ mask = 7 by omega), if_pos e1, put1_same, put1_same]
          exact .inr ⟨_, rfl⟩
        · have q : s.wE 0 k p mask = 0 ∨ (s.wE 0 k p mask = 9 ∧ 3 < mask) := by rw [hE, if_pos e1]; omega
          rw [if_pos q, if_pos e1, if_neg (show ¬ mask = 7 by omega), if_neg (show ¬ mask = 11 by omega), put1_same, put1_same]
          exact .inl ⟨hti, rfl⟩
      · have e1 : wOld old i p mask k = old k := by
          unfold wOld
          split
          · exact put1_other _ _ _ _ e
          · rfl
        have e2 : wTr tr i p mask k = tr k := by
          unfold wTr
          split
          · exact put1_other _ _ _ _ e
          · split
            · exact put1_other _ _ _ _ e
            · rfl
        rw [e1, e2]
        have e3 : (if s.wE 0 i p mask = 0 ∨ (s.wE 0 i p mask = 9 ∧ 3 < mask) then put1 W i p else W) k = W k := by
          split
          · exact put1_other _ _ _ _ e
          · rfl
        rw [e3]
        exact h.is k hk
    · have q : ¬ (s.wE 0 i p mask = 0 ∨ (s.wE 0 i p mask = 9 ∧ 3 < mask)) := fun c => g (c.imp id (fun c => c.1))
      have eO : wO s old 0 i p mask = old := if_neg g
      have eT : wT s tr 0 i p mask = tr := if_neg g
      rw [eO, eT, if_neg q]
      exact h.is k hk
theorem TP.more (h : TP s old tr W l) : TP s old tr W (l + 1) := ⟨h.ok, h.n, h.out, fun k hk => ⟨(h.rt k hk).1, Nat.le_succ_of_le (h.rt k hk).2⟩, h.is⟩
end
/-- A change that is told fits, and makes a right page. -/
theorem of_fits (p : Pg) (i j l : Nat) (hi : i < 4) (hj : j < 8) (hp : p.right) (hpl : p.l ≤ l) (hl : l + 1 ≤ maxP) (tu : Bool) (tv : ByteArray) (h : ofE i j (p.u j) (p.s j) tu tv = 0) :
    appE p (ofC i j (p.u j) (p.s j) tu tv) (l + 1) = 0 ∧ (appP p (ofC i j (p.u j) (p.s j) tu tv) (l + 1)).right ∧ (appP p (ofC i j (p.u j) (p.s j) tu tv) (l + 1)).l = l + 1 := by
  have hC : ofC i j (p.u j) (p.s j) tu tv = rawC i j (p.u j) (p.s j) tu tv := if_pos h
  rw [hC]
  unfold ofE at h
  by_cases g1 : (p.u j = false ∧ (p.s j).size ≠ 0) ∨ (tu = false ∧ tv.size ≠ 0)
  · rw [if_pos g1] at h; omega
  rw [if_neg g1] at h
  by_cases g2 : (rawC i j (p.u j) (p.s j) tu tv).right
  · rw [if_neg (fun c => c g2)] at h
    by_cases g3 : p.u j = false ∧ tu = false
    · rw [if_pos g3] at h; omega
    have hat : (rawC i j (p.u j) (p.s j) tu tv).at = j := rfl
    have hE : appE p (rawC i j (p.u j) (p.s j) tu tv) (l + 1) = 0 := by
      rw [app_yes]
      refine ⟨hp, g2, hl, by omega, ?_, ?_⟩
      · rw [hat]
        unfold Ch.wantU rawC
        simp only
        cases hu : p.u j <;> cases ht : tu <;> simp_all
      · rw [hat]
        unfold Ch.wantV rawC
        simp only
        cases hu : p.u j with
        | true => cases tu <;> simp
        | false =>
          have hz : (p.s j).size = 0 := Classical.byContradiction fun c => g1 (.inl ⟨hu, c⟩)
          rw [size0 _ hz]
          split <;> rfl
    refine ⟨hE, ?_, ?_⟩
    · unfold appP
      rw [if_pos hE]
      exact put_right p _ _ hp g2 hl
    · unfold appP
      rw [if_pos hE]
      rfl
  · rw [if_pos g2] at h; omega
/-- What isn't told, isn't to be told. -/
theorem of_not (p : Pg) (i j : Nat) (hi : i < 4) (hj : j < 8) (hp : p.right) (del : Bool) (v : ByteArray) (h : ¬ ofE i j (p.u j) (p.s j) (!del) (if del = true then ⟨#[]⟩ else v) = 0) : (del = false → 20 < v.size) ∧ (del = true → p.u j = false) := by
  have hs := hp.2 j hj
  unfold cellOk at hs
  unfold ofE at h
  cases del with
  | false =>
    refine ⟨fun _ => Classical.byContradiction fun c => h ?_, fun c => by cases c⟩
    simp only [Bool.not_false, Bool.false_eq_true, if_false] at h ⊢
    have g1 : ¬ ((p.u j = false ∧ (p.s j).size ≠ 0) ∨ (true = false ∧ v.size ≠ 0)) := by
      rintro (⟨a, b⟩ | ⟨a, b⟩)
      · exact b (hs.2 a)
      · cases a
    have g2 : (rawC i j (p.u j) (p.s j) true v).right := by
      refine ⟨⟨by show (0 : Int) ≤ i; omega, by show (i : Int) ≤ 31; omega, by show (0 : Int) ≤ j; omega, by show (j : Int) ≤ 7; omega, hs.1, by show v.size ≤ 20; omega⟩, ?_⟩
      unfold Ch.kindOk rawC
      cases hu : p.u j with
      | true => exact .inr (.inl rfl)
      | false => exact .inl ⟨rfl, hs.2 hu⟩
    rw [if_neg g1, if_neg (fun c => c g2), if_neg (fun c => by cases c.2)]
  | true =>
    refine ⟨(fun c => by cases c), fun _ => Classical.byContradiction fun c => h ?_⟩
    have eb : (!true) = false := rfl
    rw [eb, if_pos rfl]
    have g1 : ¬ ((p.u j = false ∧ (p.s j).size ≠ 0) ∨ (false = false ∧ (⟨#[]⟩ : ByteArray).size ≠ 0)) := by
      rintro (⟨a, b⟩ | ⟨a, b⟩)
      · exact b (hs.2 a)
      · exact b rfl
    have g2 : (rawC i j (p.u j) (p.s j) false ⟨#[]⟩).right := by
      refine ⟨⟨by show (0 : Int) ≤ i; omega, by show (i : Int) ≤ 31; omega, by show (0 : Int) ≤ j; omega, by show (j : Int) ≤ 7; omega, hs.1, by show (0 : Nat) ≤ 20; omega⟩, ?_⟩
      exact .inr (.inr ⟨rfl, rfl⟩)
    rw [if_neg g1, if_neg (fun c => c g2), if_neg (fun d => c d.1)]
end Go.Proofs.Ytfeghhgniahfkaa

/-
  A slice that came in, by its cells: what a walk is told of it. Of no program.
-/
namespace Go.Proofs.Ytfeghhgniahfkaa
open Go.RowKit
set_option linter.unusedVariables false

/-- A slice value of so many elements, each of 'sz' cells: element i's cell k holds 'f i k'. -/
def IsRow (w : World) (a : Option Addr) (len sz : Nat) (f : Nat → Nat → Value) : Prop :=
  0 < len → ∃ b off, a = some ⟨b, off, none⟩ ∧ b < w.heap.size ∧ ∀ i k, i < len → k < sz → w.cell? ⟨b, off + (i * sz + k), none⟩ = some (f i k)

theorem IsRow.below {w w' : World} {a : Option Addr} {len sz B : Nat} {f : Nat → Nat → Value} (h : IsRow w a len sz f) (hB : w.heap.size ≤ B) (hb : Below B w w') : IsRow w' a len sz f := by
  intro hp
  obtain ⟨b, off, ha, hlt, hc⟩ := h hp
  exact ⟨b, off, ha, Nat.lt_of_lt_of_le hlt hb.size, fun i k hi hk => (hb.cell (p := ⟨b, off + (i * sz + k), none⟩) (Nat.lt_of_lt_of_le hlt hB)).trans (hc i k hi hk)⟩
end Go.Proofs.Ytfeghhgniahfkaa

/-
  How an argument that is a slice of plain things, or a struct by value, is opened: of no program.
-/
namespace Go.Proofs.Ytfeghhgniahfkaa
open Go.ChangeShapes Go.WideShapes Go.ChangeAt Go.RowKit Go.Deep Go.Joins
set_option linter.unusedVariables false

section
variable {H : Type} {enc : TypeId × Value → H} {P : Program} {W : World}

theorem trod_places {t : TypeId} {v : Value} {d : DataW H} {p : List MemPlace} (h : DataW.Trod enc P W 0 (fun _ => true) true t v d p) : ∀ x ∈ p, x.block < W.heap.size := by
  obtain ⟨m, hm⟩ := h
  exact DataW.trod_lt m _ _ _ hm

theorem sized_each {ts : List TypeId} {ds : List (DataW H)} {j : Nat} {t : TypeId} {d : DataW H} (h : (DataW.weightsEach P ts ds).all (· ≤ reachBytes) = true) (ht : ts[j]? = some t) (hd : ds[j]? = some d) : ∀ n ∈ d.weights P t, n ≤ reachBytes := by
  intro n hn
  have := List.all_eq_true.1 h _ (DataW.weights_mem_each ht hd n hn)
  simpa using this

/-- A slice's outer form as data. -/
def SlForm (d : DataW H) (len cap : Nat) : Prop := (d = .nil ∧ len = 0 ∧ cap = 0) ∨ ∃ es sp, d = .slice es sp ∧ es.length = len ∧ es.length + sp.length = cap

theorem SlForm.sized {d : DataW H} {len cap : Nat} {t e : TypeId} (h : SlForm d len cap) (ht : P.underlying t = some (.slice e)) (hb : 1 ≤ P.bytesOf e) (hs : ∀ n ∈ d.weights P t, n ≤ reachBytes) : len ≤ 140737488351232 := by
  rcases h with ⟨_, rfl, _⟩ | ⟨es, sp, rfl, h1, h2⟩
  · omega
  · have h3 := hs ((es.length + sp.length) * P.bytesOf e) (by simp [DataW.weights, ht])
    have h4 : (es.length + sp.length) * 1 ≤ (es.length + sp.length) * P.bytesOf e := Nat.mul_le_mul_left _ hb
    have h5 : reachBytes = 140737488351232 := rfl
    omega

/-- A slice opened: each element's cells by a way to read an element. -/
theorem open_rows {α : Type} [Inhabited α] {t e : TypeId} {sz : Nat} {v : Value} {d : DataW H} {p : List MemPlace} {r : Reach} {b0 : Nat} (F : α → Nat → Value) (G : α → Prop)
    (hel : ∀ n cs y, DataW.trod enc P W 0 (fun _ => true) true n e cs = some y → ∃ x, G x ∧ ∀ k, k < sz → cs[k]? = some (F x k))
    (ht : P.underlying t = some (.slice e)) (hsz : P.cellsOf e = sz) (hpos : 0 < sz) (hv : Value.okWide P W r b0 t v) (h : DataW.Trod enc P W 0 (fun _ => true) true t v d p) :
    ∃ (a : Option Addr) (len cap : Nat) (f : Nat → α), v = .slice a len cap ∧ SlForm d len cap ∧ len ≤ cap ∧ (a = none → cap = 0) ∧ (∀ i, i < cap → G (f i)) ∧ IsRow W a len sz (fun i k => F (f i) k) := by
  obtain ⟨a, len, cap, rfl⟩ := okWide_slice ht hv
  obtain ⟨fuel, hf⟩ := h
  rcases open_slice ht hf with ⟨hcs, hx⟩ | ⟨x, l, c, m, n, D, Pl, hcs, _, hl, hm, hmm, hx, hall⟩
  · simp [Value.cells] at hcs
    obtain ⟨rfl, rfl, rfl⟩ := hcs
    simp only [Prod.mk.injEq] at hx
    exact ⟨none, 0, 0, fun _ => default, rfl, .inl ⟨hx.1, rfl, rfl⟩, Nat.le_refl _, fun _ => rfl, fun i hi => absurd hi (by omega), fun h => absurd h (by omega)⟩
  · simp [Value.cells] at hcs
    obtain ⟨rfl, rfl, rfl⟩ := hcs
    simp only [if_true] at hmm
    subst hmm
    simp only [Prod.mk.injEq] at hx
    obtain ⟨f, hf2⟩ := choose_lt (α := α) (p := fun i y => G y ∧ ∀ k, k < sz → W.cell? (x.add (i * sz + k)) = some (F y k)) (fun i hi => by
      obtain ⟨cs', h1, h2⟩ := hall i hi
      obtain ⟨y, hG, hF⟩ := hel _ _ _ h2
      rw [hsz] at h1
      obtain ⟨_, _, h3⟩ := World.cells?_some h1
      refine ⟨y, hG, fun k hk => ?_⟩
      have h4 := h3 k hk
      rw [hF k hk] at h4
      rw [← h4, Addr.add_add])
    refine ⟨some x, len, m, f, rfl, .inr ⟨_, _, hx.1, by simp, by simp; omega⟩, hl, (fun h => nomatch h), fun i hi => (hf2 i hi).1, fun hp => ?_⟩
    have hc0 := (hf2 0 (by omega)).2 0 hpos
    obtain ⟨b, off, spot⟩ := x
    have hspot : spot = none := by simpa [Addr.add] using World.cell?_spot hc0
    subst hspot
    refine ⟨b, off, rfl, ?_, fun i k hi hk => ?_⟩
    · have := World.block_lt_of_cell? W _ hc0
      simpa [Addr.add] using this
    · have := (hf2 i (by omega)).2 k hk
      rw [Addr.add_lit] at this
      exact this

/-- .. with a property of all places, also of those behind its end. -/
theorem open_rows_all {α : Type} [Inhabited α] {t e : TypeId} {sz : Nat} {v : Value} {d : DataW H} {p : List MemPlace} {r : Reach} {b0 : Nat} (F : α → Nat → Value) (G : α → Prop) (hd : G default)
    (hel : ∀ n cs y, DataW.trod enc P W 0 (fun _ => true) true n e cs = some y → ∃ x, G x ∧ ∀ k, k < sz → cs[k]? = some (F x k))
    (ht : P.underlying t = some (.slice e)) (hsz : P.cellsOf e = sz) (hpos : 0 < sz) (hv : Value.okWide P W r b0 t v) (h : DataW.Trod enc P W 0 (fun _ => true) true t v d p) :
    ∃ (a : Option Addr) (len cap : Nat) (f : Nat → α), v = .slice a len cap ∧ SlForm d len cap ∧ len ≤ cap ∧ (a = none → cap = 0) ∧ (∀ i, G (f i)) ∧ IsRow W a len sz (fun i k => F (f i) k) := by
  obtain ⟨a, len, cap, f, h1, h2, h3, h4, h5, h6⟩ := open_rows F G hel ht hsz hpos hv h
  refine ⟨a, len, cap, fun i => if i < cap then f i else default, h1, h2, h3, h4, fun i => ?_, fun hp => ?_⟩
  · by_cases hi : i < cap
    · simp only [if_pos hi]
      exact h5 i hi
    · simp only [if_neg hi]
      exact hd
  · obtain ⟨b, off, ha, hb, hc⟩ := h6 hp
    refine ⟨b, off, ha, hb, fun i k hi hk => ?_⟩
    have hi2 : i < cap := by omega
    rw [hc i k hi hk]
    simp only [if_pos hi2]

theorem elem_bool {e : TypeId} (he : P.underlying e = some .bool) (n : Nat) (cs : List Value) (y : DataW H × List MemPlace) (h : DataW.trod enc P W 0 (fun _ => true) true n e cs = some y) : ∃ x : Bool, True ∧ ∀ k, k < 1 → cs[k]? = some (Value.bool x) := by
  obtain ⟨b, rfl, _⟩ := DataW.trod_bool he h
  refine ⟨b, trivial, fun k hk => ?_⟩
  obtain rfl : k = 0 := by omega
  rfl

theorem elem_int {e : TypeId} {q : IntKind} (he : P.underlying e = some (.int q)) (n : Nat) (cs : List Value) (y : DataW H × List MemPlace) (h : DataW.trod enc P W 0 (fun _ => true) true n e cs = some y) : ∃ x : Int, (Lit.int q x).wf = true ∧ ∀ k, k < 1 → cs[k]? = some (Value.int q x) := by
  obtain ⟨b, rfl, _, hw⟩ := DataW.trod_int he h
  refine ⟨b, hw, fun k hk => ?_⟩
  obtain rfl : k = 0 := by omega
  rfl
end
end Go.Proofs.Ytfeghhgniahfkaa

/-
  A list of structs that lies in memory. Of no program.
-/
namespace Go.Proofs.Ytfeghhgniahfkaa
open Go.RowKit
set_option linter.unusedVariables false

/-- A list of structs that lies there. -/
def RowsIn {α : Type} (f : α → Array Value) (z : α) (n : Nat) (w : World) (v : Value) (xs : List α) : Prop :=
  ∃ a cap, v = .slice a xs.length cap ∧ (0 < xs.length → ∃ b off, a = some ⟨b, off, none⟩ ∧ b < w.heap.size ∧ ∀ i, i < xs.length → w.rangeAt b (off + i * n) (f (xs.getD i z)).toList)
theorem rangeAt_below {w w' : World} {b o B : Nat} {cs : List Value} (h : w.rangeAt b o cs) (hb : Below B w w') (hB : b < B) : w'.rangeAt b o cs := fun j v hv => by
  rw [hb.cell (p := ⟨b, o + j, none⟩) hB]
  exact h j v hv
theorem RowsIn.below {α : Type} {f : α → Array Value} {z : α} {n : Nat} {w w' : World} {v : Value} {xs : List α} (h : RowsIn f z n w v xs) (hb : Below w.heap.size w w') : RowsIn f z n w' v xs := by
  obtain ⟨a, cap, h1, h2⟩ := h
  refine ⟨a, cap, h1, fun hp => ?_⟩
  obtain ⟨b, off, h3, h4, h5⟩ := h2 hp
  exact ⟨b, off, h3, Nat.lt_of_lt_of_le h4 hb.size, fun i hi => rangeAt_below (h5 i hi) hb h4⟩
end Go.Proofs.Ytfeghhgniahfkaa
