/-
  When all nodes are mended no place is torn, and each has the page of its last Write that was OK, or a later one that was cut off, as a whole. StoreWhole returns true for every input, and its arguments read as before.
  Condition: none but those that the form of every such statement bears by itself (each string within the reach).
-/
import Derived.Test.YtmoagpedkgjkoaaRows
import Derived.ProofKit
import Derived.OpenShut
import Derived.ShutString
import Derived.SizedLaws
import Derived.JoinedCond
import Derived.Test.YtmoagpedkgjkoaaK02
import Derived.Test.YtmoagpedkgjkoaaK01

/-
  The walk of StoreWhole: it returns true, and turns nothing that was there.
-/
namespace Go.Proofs.Ytmoagpedkgjkoaa.storeWhole
open Go.RowKit
set_option linter.unusedVariables false

theorem infoSl : (Try.prog.info? 41).map (fun i => (i.zero, i.size, i.bytes)) = some (some (.slice none 0 0), 1, 24) := by kernel_rfl
/-- The row of lists that was made. -/
def mdM (k : Nat) : Array Value := madeCells #[.slice none 0 0] (k * 1)
theorem mdM_size (k : Nat) : (mdM k).size = k := by unfold mdM; rw [size_madeCells, Nat.mul_one]
theorem run_mkM (k : Nat) (h : k ≤ 32) (w : World) : (Instr.makeSlice 39 (.int .i64 (k : Int)) (.int .i64 (k : Int))).run Try.prog w = .ok (.slice (some ⟨w.heap.size, 0, none⟩) k k) (w.alloc (.cells (mdM k) 41)) := by
  obtain ⟨i, hi, hz, hs, hb⟩ := info_parts infoSl
  have hr := run_make (P := Try.prog) w 39 41 i (.slice none 0 0) Try.underlying39 hi hz .i64 .i64 (k : Int) (k : Int) (by omega) (by omega) (by rw [hb]; omega) (by omega)
  rw [Int.toNat_natCast, hs] at hr
  exact hr
/-- What is kept. -/
structure V (w : World) (gs gm n c : Nat) (s : Sc) (old : Nat → Pg) (tr : Nat → Option (Pg × Bool)) (cs : Array Value) (m : Nat → List Pg) (gi : Nat → Nat) (x : World) : Prop where
  k : K10 w x gs s old tr
  n_ : s.n = n
  b : MB w.heap.size x gm n c cs m gi
theorem V.later {w x y : World} {gs gm n c : Nat} {s : Sc} {old : Nat → Pg} {tr : Nat → Option (Pg × Bool)} {cs : Array Value} {m : Nat → List Pg} {gi : Nat → Nat} (h : V w gs gm n c s old tr cs m gi x) (hb : Below x.heap.size x y) : V w gs gm n c s old tr cs m gi y := ⟨h.k.later hb, h.n_, h.b.later hb⟩
/-- The pages that may lie there. -/
structure May (n : Nat) (old : Nat → Pg) (tr : Nat → Option (Pg × Bool)) (m : Nat → List Pg) (j : Nat) : Prop where
  old : ∀ i, i < n → old i ∈ m i
  tr : ∀ i, i < n → ∀ I b, tr i = some (I, b) → I ∈ m i
  fits : ∀ i, i < n → ∀ q ∈ m i, q.fits
  len : ∀ i, i < n → (m i).length ≤ j + 1
theorem May.more {n : Nat} {o : Nat → Pg} {t : Nat → Option (Pg × Bool)} {m : Nat → List Pg} {j : Nat} (h : May n o t m j) : May n o t m (j + 1) := ⟨h.old, h.tr, h.fits, fun i hi => Nat.le_succ_of_le (h.len i hi)⟩
theorem May.mend {n : Nat} {o o' : Nat → Pg} {t t' : Nat → Option (Pg × Bool)} {m : Nat → List Pg} {j : Nat} (h : May n o t m j) (hc : Came o o' t t') : May n o' t' m (j + 1) := by
  refine ⟨fun i hi => ?_, fun i hi I b hb => ?_, h.fits, fun i hi => Nat.le_succ_of_le (h.len i hi)⟩
  · rcases hc i with ⟨h1, _⟩ | ⟨b, h1, _⟩
    · rw [h1]
      exact h.old i hi
    · exact h.tr i hi _ b h1
  · rcases hc i with ⟨_, h2⟩ | ⟨b', _, h2⟩
    · rw [h2] at hb
      exact h.tr i hi I b hb
    · rw [h2] at hb
      cases hb
theorem May.ok {n : Nat} {o : Nat → Pg} {t : Nat → Option (Pg × Bool)} {m : Nat → List Pg} {j : Nat} (h : May n o t m j) (i : Nat) (p : Pg) (hp : p.fits) (ht : t i = none) : May n (put1 o i p) t (put1 m i [p]) (j + 1) := by
  refine ⟨fun k hk => ?_, fun k hk I b hb => ?_, fun k hk q hq => ?_, fun k hk => ?_⟩
  · by_cases e : k = i
    · rw [e, put1_same, put1_same]
      exact List.mem_singleton.2 rfl
    · rw [put1_other _ _ _ _ e, put1_other _ _ _ _ e]
      exact h.old k hk
  · by_cases e : k = i
    · rw [e, ht] at hb
      cases hb
    · rw [put1_other _ _ _ _ e]
      exact h.tr k hk I b hb
  · by_cases e : k = i
    · rw [e, put1_same] at hq
      rw [List.mem_singleton.1 hq]
      exact hp
    · rw [put1_other _ _ _ _ e] at hq
      exact h.fits k hk q hq
  · by_cases e : k = i
    · rw [e, put1_same]
      show 1 ≤ j + 1 + 1
      omega
    · rw [put1_other _ _ _ _ e]
      exact Nat.le_succ_of_le (h.len k hk)
theorem May.lost {n : Nat} {o : Nat → Pg} {t t' : Nat → Option (Pg × Bool)} {m : Nat → List Pg} {j : Nat} (h : May n o t m j) (i : Nat) (p : Pg) (hp : p.fits) (ht : ∀ k I b, t' k = some (I, b) → t k = some (I, b) ∨ (k = i ∧ I = p)) : May n o t' (put1 m i (m i ++ [p])) (j + 1) := by
  have sub : ∀ k q, q ∈ m k → q ∈ put1 m i (m i ++ [p]) k := fun k q hq => by
    by_cases e : k = i
    · rw [e, put1_same]
      rw [e] at hq
      exact List.mem_append_left _ hq
    · rw [put1_other _ _ _ _ e]
      exact hq
  refine ⟨fun k hk => sub k _ (h.old k hk), fun k hk I b hb => ?_, fun k hk q hq => ?_, fun k hk => ?_⟩
  · rcases ht k I b hb with h1 | ⟨rfl, rfl⟩
    · exact sub k I (h.tr k hk I b h1)
    · rw [put1_same]
      exact List.mem_append_right _ (List.mem_singleton.2 rfl)
  · by_cases e : k = i
    · rw [e, put1_same] at hq
      rw [e] at hk
      rcases List.mem_append.1 hq with hq | hq
      · exact h.fits i hk q hq
      · rw [List.mem_singleton.1 hq]
        exact hp
    · rw [put1_other _ _ _ _ e] at hq
      exact h.fits k hk q hq
  · by_cases e : k = i
    · rw [e, put1_same, List.length_append]
      have := h.len i (by rw [← e]; exact hk)
      show (m i).length + 1 ≤ _
      omega
    · rw [put1_other _ _ _ _ e]
      exact Nat.le_succ_of_le (h.len k hk)
theorem wTr_some {tr : Nat → Option (Pg × Bool)} {i : Nat} {p : Pg} {mask : Int} {k : Nat} {I : Pg} {b : Bool} (h : wTr tr i p mask k = some (I, b)) : tr k = some (I, b) ∨ (k = i ∧ I = p) := by
  unfold wTr at h
  split at h
  · by_cases e : k = i
    · rw [e, put1_same] at h
      injection h with h
      injection h with h _
      exact .inr ⟨e, h.symm⟩
    · rw [put1_other _ _ _ _ e] at h
      exact .inl h
  · split at h
    · by_cases e : k = i
      · rw [e, put1_same] at h
        injection h with h
        injection h with h _
        exact .inr ⟨e, h.symm⟩
      · rw [put1_other _ _ _ _ e] at h
        exact .inl h
    · exact .inl h
theorem hand_append {P : Program} {ops : Array Oper} {Q : Exit → Act → World → Prop} {a : Act} {w : World} {o : Oper} {K : Act → World → Prop} {i : Nat} (d : Option Tmp) (ho : ops[i]? = some o) (hd : o.dst = d) (hg : o.guard = none) (s x : Operand) (t u : TypeId) (hop : o.op = Op.call { callee := Callee.builtin Builtin.append, args := #[s, x], argTypes := #[t, u] })
    (vs vx v' : Value) (w' : World) (hs : a.eval s = vs) (hx : a.eval x = vx) (hrun : (Builtin.append_ #[t, u] o.type #[vs, vx]).run P w = .ok v' w') (h : K (a.put d v') w') : wpOp P ops Q i K a w := by
  refine hand_run d ho hd hg v' w' ?_ h
  simp [execOp, hop, resolve, invoke, builtin, hs, hx, hrun, Result.andThen]
theorem exec_build1 (p : Pg) (w : World) (o : Oper) (a : Act) {x : Operand} (ho : o.op = .buildSlice 41 1 #[(0, x)]) (hx : a.eval x = .agg (pgA p)) : (execOp a.eval o).run Try.prog w = .ok (.value (.slice (some ⟨w.heap.size, 0, none⟩) 1 1)) (w.alloc (.cells (pgA p) 35)) := by
  have h := build1 p w
  unfold execOp
  simp only [ho]
  simp [hx, h, Result.andThen]
theorem load10_s {b j : Nat} (x : World) (a : Option Addr) (n c : Nat) (h : x.cell? ⟨b, j, none⟩ = some (.slice a n c)) : (Instr.loadAt 41 (.pointer (some ⟨b, j, none⟩))).run Try.prog x = .ok (.slice a n c) x := by
  go_simp
theorem k10_grown {w0 x y : World} {gs : Nat} {s : Sc} {old : Nat → Pg} {tr : Nat → Option (Pg × Bool)} (h : K10 w0 x gs s old tr) {g : Nat} {cur : Array Value} (hr : RowAt x g 35 cur) (hlow : w0.heap.size ≤ g) (hg : x.grownBy y (some g)) : K10 w0 y gs s old tr := by
  obtain ⟨gp, h3, cs', ps, h4⟩ := h.st
  refine ⟨h.low, ⟨gp, h3, cs', ps, h4.keep ?_ ?_⟩, h.ok, ⟨hg.os.trans h.bel.os, hg.tape.trans h.bel.tape, hg.output.trans h.bel.output, Nat.le_trans h.bel.size hg.size, fun k hk => (hg.block k (Nat.lt_of_lt_of_le hk h.bel.size) (fun e => by injection e with e; omega)).trans (h.bel.block k hk)⟩⟩
  · exact hg.block gs h4.st.lt (fun e => by
      injection e with e
      subst e
      exact absurd (row_kind hr h4.st) (by decide))
  · exact hg.block gp h4.pr.lt (fun e => by
      injection e with e
      subst e
      exact absurd (row_kind hr h4.pr) (by decide))
theorem hand_store1 {P : Program} {ops : Array Oper} {Q : Exit → Act → World → Prop} {a : Act} {w : World} {o : Oper} {K : Act → World → Prop} {i : Nat} (ho : ops[i]? = some o) (hd : o.dst = none) (hg : o.guard = none) (ty : TypeId) (x y : Operand) (hop : o.op = .store ty x y) (b j : Nat) (u : Value) (hx : a.eval x = .pointer (some ⟨b, j, none⟩)) (hy : a.eval y = u)
    (hr : (Instr.storeAt ty (.pointer (some ⟨b, j, none⟩)) u).run P w = .ok () (w.setCell ⟨b, j, none⟩ u)) (h : K a (w.setCell ⟨b, j, none⟩ u)) : wpOp P ops Q i K a w := by
  refine wpOp_step ho (fun K' hK => ?_)
  have hw : Region.wanted o (yielded ops a.tmps) = true := by simp [Region.wanted, hg]
  rw [if_pos hw]
  unfold Oper.wp execOp
  simp only [hop, hx, hy, Sem.run_bind, hr, Result.andThen_ok, Sem.run_pure]
  show K' (a.put o.dst undef) _
  rw [hd]
  exact hK _ _ h
/-- A page of a list, loaded. -/
theorem load_may {B : Nat} {x : World} {gm n c : Nat} {cs : Array Value} {m : Nat → List Pg} {gi : Nat → Nat} (h : MB B x gm n c cs m gi) (i : Nat) (hi : i < c) : ∃ cap, x.cell? ⟨gm, i, none⟩ = some (.slice (some ⟨gi i, 0, none⟩) (m i).length cap) ∧ (m i).length ≤ cap ∧ ∀ k (hk : k < (m i).length), (Instr.loadAt 35 (.pointer (some ⟨gi i, k * 17, none⟩))).run Try.prog x = .ok (.agg (pgA (m i)[k])) x := by
  obtain ⟨a, len, cap, q1, q2, rfl, q4⟩ := h.at_ i hi
  rcases q2.2 with ⟨q5, _⟩ | ⟨g2, c2, cur, q5, q6, q7, q8, q9, q10, q11⟩
  · cases q5
  · injection q5 with e1 e2 e3
    injection e1 with e1
    injection e1 with e1
    subst e1 e2 e3
    refine ⟨cap, h.row.cell i _ q1, q8, fun k hk => ?_⟩
    have hr : x.rangeAt (gi i) (k * 17) (pgA (m i)[k]).toList := fun j u hu => by
      have hj : j < 17 := (List.getElem?_eq_some_iff.1 hu).1
      have h1 := flatP_at (m i) k hk j hj
      rw [hu, ← q11] at h1
      rw [cell_of_row _ _ _ _ _ _ q7, ← Array.getElem?_toList]
      rw [List.getElem?_take_of_lt (by omega)] at h1
      exact h1
    have h2 := run_loadAt_mid (P := Try.prog) x (gi i) (k * 17) 35 (pgA (m i)[k]).toList _ hr Try.underlying35 rfl (by rw [infoPg10]; rfl)
    rwa [Array.toArray_toList] at h2

set_option maxRecDepth 8000 in
set_option maxHeartbeats 12800000 in
theorem walk (pages : Int) (v : Value) (os : List Oc) (w : World) (hpg : (Lit.int .i64 pages).wf = true) (hr : RowsIn ocA Oc.zero 21 w v os) (hml : os.length ≤ maxLen) (hf : ∀ c ∈ os, c.fits) (hcap : ∀ a len cap, v = .slice a len cap → len ≤ cap) :
    Calls Try.prog 4 #[.int .i64 pages, v] w fun e w' => e = .returned (.bool true) ∧ Below w.heap.size w w' := by
  have hs : Scr10 w v os := ⟨hr, hf, hcap⟩
  obtain ⟨a, cap, rfl, -⟩ := hr
  have hcap := hcap _ _ _ rfl
  have HS := hide hs
  obtain ⟨ln, hln⟩ : ∃ ln, ln = os.length := ⟨_, rfl⟩
  rw [← hln] at HS hml hcap ⊢
  have HLN := hide hln
  have hml2 : ln ≤ 9223372036854775807 := by unfold maxLen at hml; omega
  clear hs hf hln hml hpg
  go_enter Try.func4, Try.ntmps4
  go_wp2_with fail
  refine (awake10 _).mono ?_
  rintro e w1 ⟨rfl, hb1⟩
  by_cases hl : 200 < ln
  · have i0 : (200 : Int) < (ln : Int) := by omega
    go_wp2_with fail
    refine (awake10 _).mono ?_
    rintro e w2 ⟨rfl, hb2⟩
    have d2 := hb1.trans (hb2.mono hb1.size)
    clear hb1 hb2
    go_wp2
    go_ret
    exact ⟨rfl, d2⟩
  · have i0 : ¬ (200 : Int) < (ln : Int) := by omega
    have HB1 := hide hb1
    clear hb1
    go_wp2_with fail
    refine (knew10 pages w w1 HB1.out).mono ?_
    rintro e w2 ⟨gs, rfl, h2, hb2⟩
    obtain ⟨n, hn⟩ : ∃ n, npg pages = n := ⟨_, rfl⟩
    have hnn := npg_le pages
    rw [hn] at h2 hnn
    have H2 := hide h2
    clear h2 hb2 HB1 hn
    go_wp2_with fail
    refine H2.out.pages.mono ?_
    rintro e w3 ⟨rfl, rfl⟩
    have hmk := fun w => run_mkM n hnn.2 w
    have hnw : (Sc.new n).n = n := rfl
    rw [hnw]
    go_wp2_with fail
    clear hmk hnw
    have HV0 := hide (show V w gs w2.heap.size n 0 (Sc.new n) (fun _ => Pg.zero) (fun _ => none) (mdM n) (fun _ => []) (fun _ => 0) (w2.alloc (.cells (mdM n) 41)) from ⟨H2.out.alloc _, rfl, ⟨RowAt.new w2 _ _, mdM_size n, H2.out.bel.size, Nat.zero_le _, fun i hi => absurd hi (by omega), fun i j hi => absurd hi (by omega)⟩⟩)
    obtain ⟨gm, hgm⟩ : ∃ gm, gm = w2.heap.size := ⟨_, rfl⟩
    rw [← hgm] at HV0 ⊢
    refine gen_wp (fun x => Hid (V w gs gm n 0 (Sc.new n) (fun _ => Pg.zero) (fun _ => none) (mdM n) (fun _ => []) (fun _ => 0) x)) HV0 ?_
    clear HV0 hgm H2
    intro w3 HV0
    go_loopw [34] (fun i wr => ∃ j : Nat, j ≤ n ∧ i = .int .i64 (j : Int) ∧ ∃ cs m gi, Hid (V w gs gm n j (Sc.new n) (fun _ => Pg.zero) (fun _ => none) cs m gi wr ∧ ∀ k, k < j → m k = [Pg.zero])) (fun i _ => n - (intOf i).toNat)
    case atStart => exact ⟨0, Nat.zero_le _, rfl, _, _, _, HV0.out, fun k hk => absurd hk (by omega)⟩
    case round =>
      obtain ⟨j, hj, rfl, cs, m, gi, HK⟩ := hrel
      clear HV0
      by_cases hlt : j < n
      · have ij : (j : Int) < (n : Int) := by omega
        have hb1 : Below wr.heap.size wr (wr.alloc (.cells (pgA Pg.zero) 35)) := (Below.refl _ _).alloc (Nat.le_refl _) _
        have hrow := HK.out.1.b.row.later hb1
        have hcz : j < cs.size := by rw [HK.out.1.b.size]; exact hlt
        have c0 := hrow.cell j _ (Array.getElem?_eq_getElem hcz)
        have f0 := hrow.free j
        generalize cs[j] = v0 at c0
        have hlow := HK.out.1.b.low
        have HN := hide (And.intro (show V w gs gm n (j + 1) (Sc.new n) (fun _ => Pg.zero) (fun _ => none) _ _ _ ((wr.alloc (.cells (pgA Pg.zero) 35)).setCell ⟨gm, j, none⟩ (.slice (some ⟨wr.heap.size, 0, none⟩) 1 1)) from ⟨(HK.out.1.k.later hb1).set hrow (by decide) (by decide) hlow j _, HK.out.1.n_, HK.out.1.b.put j hlt Pg.zero HK.out.1.k.bel.size (j + 1) ⟨by omega, fun k hk => by omega⟩⟩) (show ∀ k, k < j + 1 → put1 m j [Pg.zero] k = [Pg.zero] from fun k hk => by
          by_cases e : k = j
          · rw [e, put1_same]
          · rw [put1_other _ _ _ _ e]
            exact HK.out.2 k (by omega)))
        clear hrow hcz hb1 HK
        go_wp2_with (with_reducible refine stop_at 40 rfl ?_)
        refine unstop10 ?_
        refine lst_run (some 40) rfl rfl (.slice (some ⟨wr.heap.size, 0, none⟩) 1 1) (wr.alloc (.cells (pgA Pg.zero) 35)) ?hz ?_
        (case hz => exact exec_build1 Pg.zero _ _ _ rfl rfl)
        try simp only [Act.put, List.setIfInBounds_toArray, List.set_cons_zero, List.set_cons_succ]
        go_wp2
        go_roundw
        case rel => exact ⟨j + 1, by omega, by go_num, _, _, _, HN⟩
        case measure => simp [intOf]; omega
      · obtain rfl : j = n := by omega
        have hmay : May j (fun _ => Pg.zero) (fun _ => none) m 0 := ⟨fun i hi => (by rw [HK.out.2 i hi]; exact List.mem_singleton.2 rfl), fun i _ I b hb => (by cases hb), fun i hi q hq => (by rw [HK.out.2 i hi] at hq; rw [List.mem_singleton.1 hq]; exact zero_right.fits), fun i hi => (by rw [HK.out.2 i hi]; exact Nat.le_refl _)⟩
        have HV1 := hide (And.intro HK.out.1 hmay)
        clear HK hmay
        go_wp2_with fail
        go_loopw [45] (fun i wr => ∃ q : Nat, q ≤ ln ∧ i = .int .i64 (q : Int) ∧ ∃ s old tr cs m gi, Hid (V w gs gm j j s old tr cs m gi wr ∧ May j old tr m q)) (fun i _ => ln - (intOf i).toNat)
        case atStart => exact ⟨0, Nat.zero_le _, rfl, _, _, _, _, _, _, HV1⟩
        case round =>
          obtain ⟨q, hq, rfl, s, old, tr, cs2, m2, gi2, HK⟩ := hrel
          clear HV1
          by_cases hqn : q < ln
          · have iq : (q : Int) < (ln : Int) := by omega
            obtain ⟨b, off, rfl, hld, hft⟩ := HS.out.at HK.out.1.k.bel (j := q) (by have := HLN.out; omega)
            obtain ⟨c, hc⟩ : ∃ c, c = os.getD q Oc.zero := ⟨_, rfl⟩
            rw [← hc] at hld hft
            have HLD := hide hld
            have HPF := hide hft.2.2.2.2
            clear hc hld hft
            have hb1 : Below wr.heap.size wr (wr.alloc (.cells ocZ 37)) := (Below.refl _ _).alloc (Nat.le_refl _) _
            have HZ := hide (And.intro (RowAt.new wr 37 ocZ) hb1)
            clear hb1
            go_wp2_with (first | (refine wpList_load_run rfl 37 _ rfl _ _ rfl HLD.out ?_) | (refine wpList_store_at rfl 37 _ _ rfl wr.heap.size ocZ (ocA c) rfl rfl HZ.out.1 infoOc rfl (ocA_all c) ?_; intro w3 hr3 hk3 hrow3; refine stop10 ?_))
            have hb3 := hk3 _ _ HZ.out.2 (Nat.le_refl _)
            have H3 := hide (And.intro (HK.out.1.later hb3) (And.intro hr3 HK.out.2))
            obtain ⟨go, hgo⟩ : ∃ go, go = wr.heap.size := ⟨_, rfl⟩
            have hlow : w.heap.size ≤ go := by rw [hgo]; exact HK.out.1.k.bel.size
            rw [← hgo] at H3 ⊢
            clear hr3 hk3 hrow3 hb3 HZ HLD HK hgo
            have z0 := H3.out.2.1.cell 0 (.int .i64 c.k) rfl
            have z1 := H3.out.2.1.cell 1 (.int .i64 c.n) rfl
            have z2 := H3.out.2.1.cell 2 (.int .i64 c.i) rfl
            have z3 := H3.out.2.1.cell 3 (.int .i64 c.m) rfl
            refine unstop10 ?_
            by_cases k2 : c.k = 2
            · have b2 : (c.k == 2) = true := by simpa using k2
              clear k2
              go_wp2_with fail
              refine (H3.out.1.k.mend c.n c.m).mono ?_
              rintro e w4 ⟨rfl, ⟨old4, tr4, h4, hcm⟩, hsd⟩
              have hn4 : (s.mS c.n c.m).n = j := (Sc.mS_n s c.n c.m).trans H3.out.1.n_
              have H4 := hide (And.intro (show V w gs gm j j (s.mS c.n c.m) old4 tr4 cs2 m2 gi2 w4 from ⟨h4, hn4, H3.out.1.b.side hsd⟩) (H3.out.2.2.mend hcm))
              generalize s.mE c.n c.m = er
              clear h4 hcm hsd hn4 H3 z0 z1 z2 z3 b2
              go_wp2
              go_roundw
              case rel => exact ⟨q + 1, by omega, by go_num, _, _, _, _, _, _, H4⟩
              case measure => simp [intOf]; omega
            · have b2 : (c.k == 2) = false := by simpa using k2
              clear k2
              go_wp2_with (refine wpList_load_part rfl 35 _ rfl go 4 17 rfl 37 (ocA c) H3.out.2.1 _ Try.underlying35 rfl infoPg10 (by show 4 + 17 ≤ 21; omega) _ (ocA_page c) ?_)
              refine (H3.out.1.k.write c.n c.i c.p c.m).mono ?_
              rintro e w4 ⟨rfl, h4, hsd⟩
              have hn4 : (s.wS c.n c.i c.p c.m).n = j := (Sc.wS_n s c.n c.i c.p c.m).trans H3.out.1.n_
              have hop4 := hsd.row H3.out.2.1 (by decide) (by decide)
              have hmb4 := H3.out.1.b.side hsd
              obtain ⟨er, her⟩ : ∃ er, s.wE c.n c.i c.p c.m = er := ⟨_, rfl⟩
              by_cases hgo : er = 0 ∨ er = 9
              · have hg : s.wE c.n c.i c.p c.m = 0 ∨ s.wE c.n c.i c.p c.m = 9 := by rw [her]; exact hgo
                obtain ⟨⟨g1, g2, g3, g4, g5, g6⟩, g7⟩ := Sc.wE_go hg
                have heq := Sc.wE_eq hg
                have htn := (H3.out.1.k.ok.write c.n c.i c.p c.m hg).2.1
                obtain ⟨i, hi⟩ := Int.eq_ofNat_of_zero_le g3
                have hi' : c.i = (i : Int) := hi
                have hin : i < j := by have := H3.out.1.n_; omega
                have eO : wO s old c.n c.i c.p c.m = wOld old i c.p c.m := by
                  unfold wO
                  rw [if_pos hg, hi', Int.toNat_natCast]
                have eT : wT s tr c.n c.i c.p c.m = wTr tr i c.p c.m := by
                  unfold wT
                  rw [if_pos hg, hi', Int.toNat_natCast]
                rw [eO, eT] at h4
                rw [hi', Int.toNat_natCast] at htn
                rw [heq] at her
                by_cases e15 : c.m = 15
                · rw [if_pos e15] at her
                  subst her
                  have eo : wOld old i c.p c.m = put1 old i c.p := if_pos e15
                  have et : wTr tr i c.p c.m = tr := by
                    unfold wTr
                    rw [if_neg (by omega), if_neg (by omega)]
                  rw [eo, et] at h4
                  have hb5 : Below w4.heap.size w4 (w4.alloc (.cells (pgA c.p) 35)) := (Below.refl _ _).alloc (Nat.le_refl _) _
                  have hrow := hmb4.row.later hb5
                  have hcz : i < cs2.size := by rw [hmb4.size]; exact hin
                  have c0 := hrow.cell i _ (Array.getElem?_eq_getElem hcz)
                  have f0 := hrow.free i
                  generalize cs2[i] = v0 at c0
                  have HN := hide (And.intro (show V w gs gm j j (s.wS c.n c.i c.p c.m) (put1 old i c.p) tr _ _ _ ((w4.alloc (.cells (pgA c.p) 35)).setCell ⟨gm, i, none⟩ (.slice (some ⟨w4.heap.size, 0, none⟩) 1 1)) from ⟨(h4.later hb5).set hrow (by decide) (by decide) hmb4.low i _, hn4, hmb4.put i hin c.p h4.bel.size j ⟨Nat.le_refl _, fun k hk => .inl hk⟩⟩) (H3.out.2.2.ok i c.p HPF.out htn))
                  have y2 := hop4.cell 2 (.int .i64 c.i) rfl
                  rw [hi'] at y2
                  have HOP := hide hop4
                  have iin : (i : Int) < (j : Int) := by omega
                  rw [heq, if_pos e15]
                  clear h4 hsd hn4 hmb4 hrow hcz hb5 H3 z0 z1 z2 z3 b2 hg hgo heq htn hi hi' eO eT eo et g1 g2 g3 g4 g5 g6 g7 e15 hop4
                  go_wp2_with (first | (refine wpList_load_part rfl 35 _ rfl go 4 17 rfl 37 (ocA c) HOP.out _ Try.underlying35 rfl infoPg10 (by show 4 + 17 ≤ 21; omega) _ (ocA_page c) ?_) | (with_reducible refine stop_at 78 rfl ?_))
                  refine unstop10 ?_
                  refine lst_run (some 78) rfl rfl (.slice (some ⟨w4.heap.size, 0, none⟩) 1 1) (w4.alloc (.cells (pgA c.p) 35)) ?hz ?_
                  (case hz => exact exec_build1 c.p _ _ _ rfl rfl)
                  try simp only [Act.put, List.setIfInBounds_toArray, List.set_cons_zero, List.set_cons_succ]
                  go_wp2
                  go_roundw
                  case rel => exact ⟨q + 1, by omega, by go_num, _, _, _, _, _, _, HN⟩
                  case measure => simp [intOf]; omega
                · rw [if_neg e15] at her
                  subst her
                  have eo : wOld old i c.p c.m = old := if_neg e15
                  rw [eo] at h4
                  have y2 := hop4.cell 2 (.int .i64 c.i) rfl
                  rw [hi'] at y2
                  have HOP := hide hop4
                  have HMB := hide hmb4
                  have HK4 := hide h4
                  have HN4 := hide hn4
                  have HMAY := hide H3.out.2.2
                  have iin : (i : Int) < (j : Int) := by omega
                  have HII := hide hi'
                  obtain ⟨capi, hci, hcl, -⟩ := load_may hmb4 i hin
                  have HCI := hide (show ∀ y, MB w.heap.size y gm j j cs2 m2 gi2 → y.cell? ⟨gm, i, none⟩ = some (.slice (some ⟨gi2 i, 0, none⟩) (m2 i).length capi) from fun y hy => by
                    obtain ⟨cap', h6, _, _⟩ := load_may hy i hin
                    have h7 := hmb4.row.cell i _ (Array.getElem?_eq_getElem (show i < cs2.size by rw [hmb4.size]; exact hin))
                    have h8 := hy.row.cell i _ (Array.getElem?_eq_getElem (show i < cs2.size by rw [hmb4.size]; exact hin))
                    rw [h8, ← h7]
                    exact hci)
                  rw [heq, if_neg e15]
                  clear h4 hsd hn4 hmb4 hop4 H3 z0 z1 z2 z3 b2 hg hgo heq htn hi hi' eO eT eo g1 g2 g3 g4 g5 g6 g7 e15 hci hcl
                  go_wp2_with fail
                  refine wp_region_noPanic ?_
                  refine wp_region_held_drew (S := fun y => RowAt y go 37 (ocA c)) (by kernel_rfl) (HOP.out) (fun hHeld => ?_)
                  refine hand_take 0 (some 82) (.slice (some ⟨gm, 0, none⟩) j j) rfl rfl (by kernel_rfl) (by kernel_rfl) (by kernel_rfl) (fun _ _ _ h => h) (Or.inl ⟨by kernel_rfl, fun x hSx => by go_simp⟩) hHeld ?_
                  try simp only [Act.put, List.setIfInBounds_toArray, List.set_cons_zero, List.set_cons_succ]
                  refine hand_take 1 (some 83) (.pointer (some ⟨go, 2, none⟩)) rfl rfl (by kernel_rfl) (by kernel_rfl) (by kernel_rfl) (fun _ _ _ h => h) (Or.inl ⟨by kernel_rfl, fun x hSx => by go_simp⟩) hHeld ?_
                  try simp only [Act.put, List.setIfInBounds_toArray, List.set_cons_zero, List.set_cons_succ]
                  refine hand_take 2 (some 84) (.int .i64 (i : Int)) rfl rfl (by kernel_rfl) (by kernel_rfl) (by kernel_rfl) (fun _ _ _ h => h) (Or.inl ⟨by kernel_rfl, fun x hSx => by have h := RowAt.cell hSx 2 (.int .i64 c.i) rfl; rw [HII.out] at h; go_simp⟩) hHeld ?_
                  try simp only [Act.put, List.setIfInBounds_toArray, List.set_cons_zero, List.set_cons_succ]
                  refine hand_take 3 (some 85) (.slice (some ⟨gm, 0, none⟩) j j) rfl rfl (by kernel_rfl) (by kernel_rfl) (by kernel_rfl) (fun _ _ _ h => h) (Or.inl ⟨by kernel_rfl, fun x hSx => by go_simp⟩) hHeld ?_
                  try simp only [Act.put, List.setIfInBounds_toArray, List.set_cons_zero, List.set_cons_succ]
                  refine hand_take 4 (some 86) (.pointer (some ⟨go, 2, none⟩)) rfl rfl (by kernel_rfl) (by kernel_rfl) (by kernel_rfl) (fun _ _ _ h => h) (Or.inl ⟨by kernel_rfl, fun x hSx => by go_simp⟩) hHeld ?_
                  try simp only [Act.put, List.setIfInBounds_toArray, List.set_cons_zero, List.set_cons_succ]
                  refine hand_take 5 (some 87) (.int .i64 (i : Int)) rfl rfl (by kernel_rfl) (by kernel_rfl) (by kernel_rfl) (fun _ _ _ h => h) (Or.inl ⟨by kernel_rfl, fun x hSx => by have h := RowAt.cell hSx 2 (.int .i64 c.i) rfl; rw [HII.out] at h; go_simp⟩) hHeld ?_
                  try simp only [Act.put, List.setIfInBounds_toArray, List.set_cons_zero, List.set_cons_succ]
                  refine hand_take 6 (some 88) (.pointer (some ⟨gm, i, none⟩)) rfl rfl (by kernel_rfl) (by kernel_rfl) (by kernel_rfl) (fun _ _ _ h => h) (Or.inl ⟨by kernel_rfl, fun x hSx => by go_simp⟩) hHeld ?_
                  try simp only [Act.put, List.setIfInBounds_toArray, List.set_cons_zero, List.set_cons_succ]
                  refine hand_take 8 (some 90) (.pointer (some ⟨go, 4, none⟩)) rfl rfl (by kernel_rfl) (by kernel_rfl) (by kernel_rfl) (fun _ _ _ h => h) (Or.inl ⟨by kernel_rfl, fun x hSx => by go_simp⟩) hHeld ?_
                  try simp only [Act.put, List.setIfInBounds_toArray, List.set_cons_zero, List.set_cons_succ]
                  refine hand_take 9 (some 91) (.agg (pgA c.p)) rfl rfl (by kernel_rfl) (by kernel_rfl) (by kernel_rfl) (fun _ _ _ h => h) (yieldsIf_load_run (by kernel_rfl) 35 _ rfl (.pointer (some ⟨go, 4, none⟩)) rfl _ (fun x hSx => by have h := load_part (P := Try.prog) x 37 35 go 4 17 (ocA c) hSx _ Try.underlying35 rfl infoPg10 (by show 4 + 17 ≤ 21; omega); rw [ocA_page] at h; exact h)) hHeld ?_
                  try simp only [Act.put, List.setIfInBounds_toArray, List.set_cons_zero, List.set_cons_succ]
                  refine hand_two 7 10 (by kernel_rfl) ?_ ?_
                  · refine hand_run (some 89) rfl rfl rfl (.slice (some ⟨gi2 i, 0, none⟩) (m2 i).length capi) _ (exec_load 41 _ rfl (.pointer (some ⟨gm, i, none⟩)) rfl _ (load10_s w4.drew _ _ _ (HCI.out _ (HMB.out.later dq)))) ?_
                    refine ⟨HOP.out, ?_⟩
                    try simp only [Act.put, List.setIfInBounds_toArray, List.set_cons_zero, List.set_cons_succ]
                    refine hand_one 10 (by kernel_rfl) ?_
                    refine hand_run (some 92) rfl rfl rfl (.slice (some ⟨w4.heap.size, 0, none⟩) 1 1) (w4.drew.alloc (.cells (pgA c.p) 35)) (exec_build1 c.p _ _ _ rfl rfl) ?_
                    refine ⟨HOP.out.later (dq.alloc (Nat.le_refl _) _), ?_⟩
                    try simp only [Act.put, List.setIfInBounds_toArray, List.set_cons_zero, List.set_cons_succ]
                    have hx1 : Below w4.heap.size w4 (w4.drew.alloc (.cells (pgA c.p) 35)) := dq.alloc (Nat.le_refl _) _
                    have hmb5 := HMB.out.later hx1
                    obtain ⟨a5, l5, cap5, q1, q2, q3, q4⟩ := hmb5.at_ i hin
                    have hsl : Value.slice a5 l5 cap5 = .slice (some ⟨gi2 i, 0, none⟩) (m2 i).length capi := by
                      have h6 := (hmb5.row.cell i _ q1).symm.trans (HCI.out _ hmb5)
                      injection h6
                    rw [hsl] at q2
                    obtain ⟨g', cap', w6, r1, r2, r3, r4⟩ := run_app_page 41 _ w.heap.size (gi2 i) (m2 i).length capi (flatP (m2 i)) q2 w4.heap.size c.p (RowAt.new w4.drew _ _) (by have := HMAY.out.len i hin; omega) (Nat.le_trans HK4.out.bel.size hx1.size)
                    obtain ⟨cur, hcur, hclow⟩ : ∃ cur, RowAt (w4.drew.alloc (.cells (pgA c.p) 35)) (gi2 i) 35 cur ∧ w.heap.size ≤ gi2 i := by
                      rcases q2.2 with ⟨h6, _⟩ | ⟨g2, c2, cur, h6, h7, h8, _⟩
                      · cases h6
                      · injection h6 with h6
                        injection h6 with h6
                        injection h6 with h6
                        subst h6
                        exact ⟨cur, h8, h7⟩
                    have hk6 := k10_grown (HK4.out.later hx1) hcur hclow r3
                    have hmb6 := hmb5.app i hin c.p g' cap' r2 r3 r4
                    have hop6 : RowAt w6 go 37 (ocA c) := (r3.block go (HOP.out.later hx1).lt (fun e => by
                      injection e with e
                      have hcur' := hcur
                      rw [← e] at hcur'
                      exact absurd (row_kind (HOP.out.later hx1) hcur') (by decide))).trans (HOP.out.later hx1)
                    have hrow6 : RowAt w6 gm 41 cs2 := (r3.block gm hmb5.row.lt (fun e => by
                      injection e with e
                      have hcur' := hcur
                      rw [← e] at hcur'
                      exact absurd (row_kind hmb5.row hcur') (by decide))).trans hmb5.row
                    refine hand_one 11 (by kernel_rfl) ?_
                    refine hand_append (some 93) rfl rfl rfl (.tmp 89) (.tmp 92) 41 41 rfl (.slice (some ⟨gi2 i, 0, none⟩) (m2 i).length capi) (.slice (some ⟨w4.heap.size, 0, none⟩) 1 1) (.slice (some ⟨g', 0, none⟩) ((m2 i).length + 1) cap') w6 rfl rfl r1 ?_
                    refine ⟨hop6, ?_⟩
                    try simp only [Act.put, List.setIfInBounds_toArray, List.set_cons_zero, List.set_cons_succ]
                    have hHeld := hop6
                    refine hand_take 12 (some 94) (.pointer (some ⟨gm, i, none⟩)) rfl rfl (by kernel_rfl) (by kernel_rfl) (by kernel_rfl) (fun _ _ _ h => h) (Or.inl ⟨by kernel_rfl, fun x hSx => by go_simp⟩) hHeld ?_
                    try simp only [Act.put, List.setIfInBounds_toArray, List.set_cons_zero, List.set_cons_succ]
                    have hcz6 : i < cs2.size := by rw [hmb5.size]; exact hin
                    have c6 := hrow6.cell i _ (Array.getElem?_eq_getElem hcz6)
                    have f6 := hrow6.free i
                    generalize cs2[i] = v6 at c6
                    have HN := hide (And.intro (show V w gs gm j j (s.wS c.n c.i c.p c.m) old (wTr tr i c.p c.m) _ _ _ (w6.setCell ⟨gm, i, none⟩ (.slice (some ⟨g', 0, none⟩) ((m2 i).length + 1) cap')) from ⟨hk6.set hrow6 (by decide) (by decide) HMB.out.low i _, HN4.out, hmb6⟩) (HMAY.out.lost (t' := wTr tr i c.p c.m) i c.p HPF.out (fun k I b hb => wTr_some hb)))
                    have hop7 : RowAt (w6.setCell ⟨gm, i, none⟩ (.slice (some ⟨g', 0, none⟩) ((m2 i).length + 1) cap')) go 37 (ocA c) := hop6.other _ _ (fun e => by
                      have e' : go = gm := e
                      rw [e'] at hop6
                      exact absurd (row_kind hop6 hrow6) (by decide))
                    refine hand_one 13 (by kernel_rfl) ?_
                    refine hand_store1 rfl rfl rfl 41 (.tmp 94) (.tmp 93) rfl gm i (.slice (some ⟨g', 0, none⟩) ((m2 i).length + 1) cap') rfl rfl ?hs ?_
                    (case hs => go_simp)
                    refine ⟨hop7, ?_⟩
                    try simp only [Act.put, List.setIfInBounds_toArray, List.set_cons_zero, List.set_cons_succ]
                    refine wpAnyH_done (by kernel_rfl) ?_ _
                    refine NoPanic.normal ?_
                    clear hop7 c6 f6 hcz6 hop6 hrow6 hmb6 hk6 hcur hclow r1 r2 r3 r4 q1 q2 q3 q4 hsl hmb5 hx1 hHeld
                    go_wp2
                    go_roundw
                    case rel => exact ⟨q + 1, by omega, by go_num, _, _, _, _, _, _, HN⟩
                    case measure => simp [intOf]; omega
                  · refine hand_run (some 92) rfl rfl rfl (.slice (some ⟨w4.heap.size, 0, none⟩) 1 1) (w4.drew.alloc (.cells (pgA c.p) 35)) (exec_build1 c.p _ _ _ rfl rfl) ?_
                    refine ⟨HOP.out.later (dq.alloc (Nat.le_refl _) _), ?_⟩
                    try simp only [Act.put, List.setIfInBounds_toArray, List.set_cons_zero, List.set_cons_succ]
                    refine hand_one 7 (by kernel_rfl) ?_
                    refine hand_run (some 89) rfl rfl rfl (.slice (some ⟨gi2 i, 0, none⟩) (m2 i).length capi) _ (exec_load 41 _ rfl (.pointer (some ⟨gm, i, none⟩)) rfl _ (load10_s _ _ _ _ (HCI.out _ (HMB.out.later (dq.alloc (Nat.le_refl _) _))))) ?_
                    refine ⟨HOP.out.later (dq.alloc (Nat.le_refl _) _), ?_⟩
                    try simp only [Act.put, List.setIfInBounds_toArray, List.set_cons_zero, List.set_cons_succ]
                    have hx1 : Below w4.heap.size w4 (w4.drew.alloc (.cells (pgA c.p) 35)) := dq.alloc (Nat.le_refl _) _
                    have hmb5 := HMB.out.later hx1
                    obtain ⟨a5, l5, cap5, q1, q2, q3, q4⟩ := hmb5.at_ i hin
                    have hsl : Value.slice a5 l5 cap5 = .slice (some ⟨gi2 i, 0, none⟩) (m2 i).length capi := by
                      have h6 := (hmb5.row.cell i _ q1).symm.trans (HCI.out _ hmb5)
                      injection h6
                    rw [hsl] at q2
                    obtain ⟨g', cap', w6, r1, r2, r3, r4⟩ := run_app_page 41 _ w.heap.size (gi2 i) (m2 i).length capi (flatP (m2 i)) q2 w4.heap.size c.p (RowAt.new w4.drew _ _) (by have := HMAY.out.len i hin; omega) (Nat.le_trans HK4.out.bel.size hx1.size)
                    obtain ⟨cur, hcur, hclow⟩ : ∃ cur, RowAt (w4.drew.alloc (.cells (pgA c.p) 35)) (gi2 i) 35 cur ∧ w.heap.size ≤ gi2 i := by
                      rcases q2.2 with ⟨h6, _⟩ | ⟨g2, c2, cur, h6, h7, h8, _⟩
                      · cases h6
                      · injection h6 with h6
                        injection h6 with h6
                        injection h6 with h6
                        subst h6
                        exact ⟨cur, h8, h7⟩
                    have hk6 := k10_grown (HK4.out.later hx1) hcur hclow r3
                    have hmb6 := hmb5.app i hin c.p g' cap' r2 r3 r4
                    have hop6 : RowAt w6 go 37 (ocA c) := (r3.block go (HOP.out.later hx1).lt (fun e => by
                      injection e with e
                      have hcur' := hcur
                      rw [← e] at hcur'
                      exact absurd (row_kind (HOP.out.later hx1) hcur') (by decide))).trans (HOP.out.later hx1)
                    have hrow6 : RowAt w6 gm 41 cs2 := (r3.block gm hmb5.row.lt (fun e => by
                      injection e with e
                      have hcur' := hcur
                      rw [← e] at hcur'
                      exact absurd (row_kind hmb5.row hcur') (by decide))).trans hmb5.row
                    refine hand_one 11 (by kernel_rfl) ?_
                    refine hand_append (some 93) rfl rfl rfl (.tmp 89) (.tmp 92) 41 41 rfl (.slice (some ⟨gi2 i, 0, none⟩) (m2 i).length capi) (.slice (some ⟨w4.heap.size, 0, none⟩) 1 1) (.slice (some ⟨g', 0, none⟩) ((m2 i).length + 1) cap') w6 rfl rfl r1 ?_
                    refine ⟨hop6, ?_⟩
                    try simp only [Act.put, List.setIfInBounds_toArray, List.set_cons_zero, List.set_cons_succ]
                    have hHeld := hop6
                    refine hand_take 12 (some 94) (.pointer (some ⟨gm, i, none⟩)) rfl rfl (by kernel_rfl) (by kernel_rfl) (by kernel_rfl) (fun _ _ _ h => h) (Or.inl ⟨by kernel_rfl, fun x hSx => by go_simp⟩) hHeld ?_
                    try simp only [Act.put, List.setIfInBounds_toArray, List.set_cons_zero, List.set_cons_succ]
                    have hcz6 : i < cs2.size := by rw [hmb5.size]; exact hin
                    have c6 := hrow6.cell i _ (Array.getElem?_eq_getElem hcz6)
                    have f6 := hrow6.free i
                    generalize cs2[i] = v6 at c6
                    have HN := hide (And.intro (show V w gs gm j j (s.wS c.n c.i c.p c.m) old (wTr tr i c.p c.m) _ _ _ (w6.setCell ⟨gm, i, none⟩ (.slice (some ⟨g', 0, none⟩) ((m2 i).length + 1) cap')) from ⟨hk6.set hrow6 (by decide) (by decide) HMB.out.low i _, HN4.out, hmb6⟩) (HMAY.out.lost (t' := wTr tr i c.p c.m) i c.p HPF.out (fun k I b hb => wTr_some hb)))
                    have hop7 : RowAt (w6.setCell ⟨gm, i, none⟩ (.slice (some ⟨g', 0, none⟩) ((m2 i).length + 1) cap')) go 37 (ocA c) := hop6.other _ _ (fun e => by
                      have e' : go = gm := e
                      rw [e'] at hop6
                      exact absurd (row_kind hop6 hrow6) (by decide))
                    refine hand_one 13 (by kernel_rfl) ?_
                    refine hand_store1 rfl rfl rfl 41 (.tmp 94) (.tmp 93) rfl gm i (.slice (some ⟨g', 0, none⟩) ((m2 i).length + 1) cap') rfl rfl ?hs ?_
                    (case hs => go_simp)
                    refine ⟨hop7, ?_⟩
                    try simp only [Act.put, List.setIfInBounds_toArray, List.set_cons_zero, List.set_cons_succ]
                    refine wpAnyH_done (by kernel_rfl) ?_ _
                    refine NoPanic.normal ?_
                    clear hop7 c6 f6 hcz6 hop6 hrow6 hmb6 hk6 hcur hclow r1 r2 r3 r4 q1 q2 q3 q4 hsl hmb5 hx1 hHeld
                    go_wp2
                    go_roundw
                    case rel => exact ⟨q + 1, by omega, by go_num, _, _, _, _, _, _, HN⟩
                    case measure => simp [intOf]; omega
              · have n0 : (er == 0) = false := by simpa using fun g => hgo (.inl g)
                have n9 : (er == 9) = false := by simpa using fun g => hgo (.inr g)
                have hno : ¬ (s.wE c.n c.i c.p c.m = 0 ∨ s.wE c.n c.i c.p c.m = 9) := by rw [her]; exact hgo
                have e1 := Sc.wS_no hno
                have e2 : wO s old c.n c.i c.p c.m = old := if_neg hno
                have e3 : wT s tr c.n c.i c.p c.m = tr := if_neg hno
                rw [e1, e2, e3] at h4
                have H4 := hide (And.intro (show V w gs gm j j s old tr cs2 m2 gi2 w4 from ⟨h4, H3.out.1.n_, hmb4⟩) H3.out.2.2.more)
                rw [her]
                clear h4 hsd hn4 hop4 hmb4 H3 z0 z1 z2 z3 b2 hgo her hno e1 e2 e3
                go_wp2
                go_roundw
                case rel => exact ⟨q + 1, by omega, by go_num, _, _, _, _, _, _, H4⟩
                case measure => simp [intOf]; omega
          · obtain rfl : q = ln := by omega
            have HV3 := hide (And.intro HK.out (show ∀ k, k < 0 → s.out k = false from fun k hk => absurd hk (by omega)))
            clear HK
            go_wp2_with fail
            go_loopw [11] (fun i wr => ∃ r : Nat, r ≤ 8 ∧ i = .int .i64 (r : Int) ∧ ∃ s old tr d, Hid ((V w gs gm j j s old tr cs2 m2 gi2 wr ∧ May j old tr m2 d) ∧ ∀ k, k < r → s.out k = false)) (fun i _ => 8 - (intOf i).toNat)
            case atStart => exact ⟨0, by omega, rfl, _, _, _, _, HV3⟩
            case round =>
              obtain ⟨r, hr8, rfl, s5, old5, tr5, d5, HK⟩ := hrel
              clear HV3
              by_cases hrl : r < 8
              · have ir : (r : Int) < 8 := by omega
                have hma := s5.mend_all r hrl (by rw [HK.out.1.1.n_]; omega)
                go_wp2_with fail
                refine (HK.out.1.1.k.mend (r : Int) 3).mono ?_
                rintro e w6 ⟨rfl, ⟨old6, tr6, h6, hc6⟩, hs6⟩
                rw [hma.1]
                have hob : (s5.mS (r : Int) 3).outB (r : Int) = false := by
                  unfold Sc.outB
                  rw [Int.toNat_natCast, hma.2.2.1, Bool.and_false]
                have hout := h6.out (r : Int)
                rw [hob] at hout
                have HOut := hide hout
                have H6 := hide (And.intro (And.intro (show V w gs gm j j (s5.mS (r : Int) 3) old6 tr6 cs2 m2 gi2 w6 from ⟨h6, hma.2.1.trans HK.out.1.1.n_, HK.out.1.1.b.side hs6⟩) (HK.out.1.2.mend hc6)) (show ∀ k, k < r + 1 → (s5.mS (r : Int) 3).out k = false from fun k hk => by
                  by_cases e : k = r
                  · rw [e]
                    exact hma.2.2.1
                  · rw [hma.2.2.2 k e]
                    exact HK.out.2 k (by omega)))
                clear hma h6 hc6 hs6 hob hout HK
                go_wp2_with fail
                refine HOut.out.mono ?_
                rintro e w7 ⟨rfl, rfl⟩
                clear HOut
                go_wp2
                go_roundw
                case rel => exact ⟨r + 1, by omega, by go_num, _, _, _, _, H6⟩
                case measure => simp [intOf]; omega
              · have HR8 := hide (show r = 8 by omega)
                have ir8 : ¬ (r : Int) < 8 := by omega
                have hno := fun i hi => HK.out.1.1.k.ok.done (fun k hk => HK.out.2 k (by rw [HR8.out]; exact hk)) i (by rw [HK.out.1.1.n_]; exact hi)
                have HNo := hide (show ∀ i, i < j → tr5 i = none from hno)
                have HMy := hide HK.out.1.2
                have HV4 := hide HK.out.1.1
                clear hno HK
                go_wp2_with fail
                go_loopw [111] (fun i wr => ∃ r : Nat, r ≤ j ∧ i = .int .i64 (r : Int) ∧ Hid (V w gs gm j j s5 old5 tr5 cs2 m2 gi2 wr)) (fun i _ => j - (intOf i).toNat)
                case atStart => exact ⟨0, by omega, rfl, HV4⟩
                case round =>
                  obtain ⟨r, hrj, rfl, HK⟩ := hrel
                  clear HV4
                  by_cases hrl : r < j
                  · have ir : (r : Int) < (j : Int) := by omega
                    have HRd := hide (HK.out.k.read r (by rw [HK.out.n_]; exact hrl) (HNo.out r hrl))
                    obtain ⟨P, hP⟩ : ∃ P, old5 r = P := ⟨_, rfl⟩
                    rw [hP] at HRd
                    have HPin := hide (show P ∈ m2 r from by rw [← hP]; exact HMy.out.old r hrl)
                    clear hP
                    go_wp2_with fail
                    refine HRd.out.mono ?_
                    rintro e w6 ⟨rfl, hb6⟩
                    have H6 := hide (HK.out.later hb6)
                    clear hb6 HRd HK
                    go_wp2_with (refine wpList_store_page rfl _ _ rfl w6.heap.size Pg.zero P rfl rfl (heap_alloc_new w6 _) ?_; intro w7 hP7 hk7; refine stop10 ?_)
                    have hb7 := hk7 _ _ ((Below.refl _ _).alloc (Nat.le_refl _) _) (Nat.le_refl _)
                    have H7 := hide (And.intro (H6.out.later hb7) hP7)
                    obtain ⟨g7, hg7⟩ : ∃ g7, g7 = w6.heap.size := ⟨_, rfl⟩
                    rw [← hg7] at H7 ⊢
                    clear hP7 hk7 hb7 hg7 H6
                    obtain ⟨capr, hcr, hcl, -⟩ := load_may H7.out.1.b r hrl
                    have HCI := hide (show ∀ y, MB w.heap.size y gm j j cs2 m2 gi2 → y.cell? ⟨gm, r, none⟩ = some (.slice (some ⟨gi2 r, 0, none⟩) (m2 r).length capr) from fun y hy => by
                      have hz : r < cs2.size := by rw [hy.size]; exact hrl
                      have h7 := H7.out.1.b.row.cell r _ (Array.getElem?_eq_getElem hz)
                      have h8 := hy.row.cell r _ (Array.getElem?_eq_getElem hz)
                      rw [h8, ← h7]
                      exact hcr)
                    obtain ⟨lr, hlr⟩ : ∃ lr, (m2 r).length = lr := ⟨_, rfl⟩
                    have HLR := hide hlr
                    have hlr3 : lr ≤ 9223372036854775807 := by
                      obtain ⟨a9, l9, c9, p1, p2, p3, p4⟩ := H7.out.1.b.at_ r hrl
                      rcases p2.2 with ⟨p5, _⟩ | ⟨p6, p7, p8, p9, p10, p11, p12, p13, _⟩
                      · rw [p3] at p5
                        cases p5
                      · unfold maxLen at p13
                        omega
                    rw [hlr] at HCI hcr hcl
                    clear hlr
                    refine unstop10 ?_
                    go_wp2_with fail
                    clear hcr
                    go_loopw [15, 125] (fun f i wr => ∃ k : Nat, k ≤ lr ∧ i = .int .i64 (k : Int) ∧ ∃ b : Bool, f = .bool b ∧ Hid ((V w gs gm j j s5 old5 tr5 cs2 m2 gi2 wr ∧ PgAt wr g7 P) ∧ (b = false → ∀ q (hq : q < (m2 r).length), q < k → ¬ ((m2 r)[q]).same P))) (fun _ i _ => lr - (intOf i).toNat)
                    case atStart => exact ⟨0, by omega, rfl, false, rfl, H7.out, fun _ q hq hk => absurd hk (by omega)⟩
                    case round =>
                      obtain ⟨k, hkl, rfl, b, rfl, HQ⟩ := hrel
                      clear H7
                      by_cases hkr : k < lr
                      · have ik : (k : Int) < (lr : Int) := by omega
                        cases b with
                        | true =>
                          have HC := hide (show V w gs gm j j s5 old5 tr5 cs2 m2 gi2 wr.drew ∧ PgAt wr.drew g7 P from ⟨HQ.out.1.1.later dq, HQ.out.1.2⟩)
                          clear HQ
                          go_wp2_with fail
                          refine wp_region_in (fun x => V w gs gm j j s5 old5 tr5 cs2 m2 gi2 x ∧ PgAt x g7 P) (by kernel_rfl) (by kernel_rfl) HC.out ?_
                          repeat (first
                            | go_big_quiet_skip
                            | (refine wpQuiet_plain rfl (fun K hK => ?_); go_simp; refine hK _ ?_; clear hK K))
                          refine wpQuiet_nil ?_
                          intro x hx
                          have HX := hide hx
                          clear hx HC
                          go_wp2
                          go_roundw
                          case rel => exact ⟨k + 1, by omega, by go_num, true, rfl, HX.out, fun h => by cases h⟩
                          case measure => simp [intOf]; omega
                        | false =>
                          have hkm : k < (m2 r).length := by rw [HLR.out]; exact hkr
                          obtain ⟨q, hq⟩ : ∃ q, (m2 r)[k] = q := ⟨_, rfl⟩
                          have HQQ := hide hq
                          have hqf : q.fits := by rw [← hq]; exact HMy.out.fits r hrl _ (List.getElem_mem hkm)
                          have hpf : P.fits := HMy.out.fits r hrl P HPin.out
                          have HFF := hide (And.intro hqf hpf)
                          have HC := hide (show V w gs gm j j s5 old5 tr5 cs2 m2 gi2 wr.drew ∧ PgAt wr.drew g7 P from ⟨HQ.out.1.1.later dq, HQ.out.1.2⟩)
                          have HNS := hide (HQ.out.2 rfl)
                          have HLd := hide (show ∀ y, MB w.heap.size y gm j j cs2 m2 gi2 → (Instr.loadAt 35 (.pointer (some ⟨gi2 r, k * 17, none⟩))).run Try.prog y = .ok (.agg (pgA q)) y from fun y hy => by
                            obtain ⟨_, _, _, h9⟩ := load_may hy r hrl
                            rw [← hq]
                            exact h9 k hkm)
                          obtain ⟨b, hb⟩ : ∃ b, decide (q.same P) = b := ⟨_, rfl⟩
                          have HBB := hide hb
                          clear HQ hqf hpf hq hb
                          go_wp2_with fail
                          refine wp_region_in (fun x => V w gs gm j j s5 old5 tr5 cs2 m2 gi2 x ∧ PgAt x g7 P) (by kernel_rfl) (by kernel_rfl) HC.out ?_
                          repeat (first
                            | go_big_quiet_skip
                            | (refine wpQuiet_load rfl 41 _ rfl (.pointer (some ⟨gm, r, none⟩)) (.slice (some ⟨gi2 r, 0, none⟩) lr capr) rfl (fun y hy => load10_s y _ _ _ (HCI.out y hy.1.b)) ?_; simp only [Act.put, Array.setIfInBounds, List.size_toArray, List.length_cons, List.length_nil, Nat.reduceAdd, Nat.reduceLT, ↓reduceDIte, List.set_toArray, List.set_cons_succ, List.set_cons_zero])
                            | (refine wpQuiet_load rfl 35 _ rfl (.pointer (some ⟨gi2 r, k * 17, none⟩)) (.agg (pgA q)) rfl (fun y hy => HLd.out y hy.1.b) ?_; simp only [Act.put, Array.setIfInBounds, List.size_toArray, List.length_cons, List.length_nil, Nat.reduceAdd, Nat.reduceLT, ↓reduceDIte, List.set_toArray, List.set_cons_succ, List.set_cons_zero])
                            | (refine wpQuiet_load rfl 35 _ rfl (.pointer (some ⟨g7, 0, none⟩)) (.agg (pgA P)) rfl (fun y hy => load_page y hy.2) ?_; simp only [Act.put, Array.setIfInBounds, List.size_toArray, List.length_cons, List.length_nil, Nat.reduceAdd, Nat.reduceLT, ↓reduceDIte, List.set_toArray, List.set_cons_succ, List.set_cons_zero])
                            | (refine wpQuiet_binop rfl .eql 35 _ _ _ rfl (.agg (pgA q)) (.agg (pgA P)) (.bool b) rfl rfl (fun y => page_guard _ _ _ q P y) (fun y => by rw [← HBB.out]; exact run_page_eql q P HFF.out.1 HFF.out.2 y) ?_; simp only [Act.put, Array.setIfInBounds, List.size_toArray, List.length_cons, List.length_nil, Nat.reduceAdd, Nat.reduceLT, ↓reduceDIte, List.set_toArray, List.set_cons_succ, List.set_cons_zero])
                            | (refine wpQuiet_plain rfl (fun K hK => ?_); go_simp; refine hK _ ?_; clear hK K))
                          refine wpQuiet_nil ?_
                          intro x hx
                          have HX := hide hx
                          have HNX := hide (show b = false → ∀ q' (hq : q' < (m2 r).length), q' < k + 1 → ¬ ((m2 r)[q']).same P from fun h q' hq' hk' => by
                            by_cases e : q' = k
                            · subst e
                              rw [HQQ.out]
                              rw [h] at HBB
                              exact of_decide_eq_false HBB.out
                            · exact HNS.out q' hq' (by omega))
                          clear hx HC HNS HLd
                          go_wp2
                          go_roundw
                          case rel => exact ⟨k + 1, by omega, by go_num, b, rfl, HX.out, HNX.out⟩
                          case measure => simp [intOf]; omega
                      · obtain rfl : k = lr := by omega
                        have hbt : b = true := by
                          cases b with
                          | true => rfl
                          | false =>
                            obtain ⟨q, hq, hqe⟩ := List.getElem_of_mem HPin.out
                            exact absurd (by rw [hqe]; exact Pg.same.refl P) (HQ.out.2 rfl q hq (by have := HLR.out; omega))
                        subst hbt
                        have HK2 := hide HQ.out.1.1
                        clear HQ
                        go_wp2
                        go_roundw
                        case rel => exact ⟨r + 1, by omega, by go_num, HK2⟩
                        case measure => simp [intOf]; omega
                  · obtain rfl : r = j := by omega
                    have hb := HK.out.k.bel
                    clear HK
                    go_wp2
                    go_ret
                    exact ⟨rfl, hb⟩
end Go.Proofs.Ytmoagpedkgjkoaa.storeWhole

namespace Go.Proofs.Ytmoagpedkgjkoaa.storeWhole
open Go.ChangeShapes Go.WideShapes Go.ChangeAt Go.RowKit
open Go.ChangeMaps (open_string shut_string)
set_option linter.unusedVariables false

theorem laidOut : laidOutB Try.prog = true := by kernel_rfl
theorem own : ownKnob Try.prog.godebug = none := by kernel_rfl

set_option maxRecDepth 100000 in
theorem lifted (os : Os) (started : os.Started) (H : Type) (enc : TypeId × Value → H) :
    ReturnsInHanded {} Try.checked os 4 .any (Rows.storeWholeSpec.pre6 enc Try.prog Try.f4 Rows.storeWholeRow.domain false) (Rows.storeWholeSpec.post enc Try.prog Try.f4 false true false false) := by
  refine returnsInHanded_of_change_sized (C := Try.checked) own started (by kernel_rfl) Try.func4
    (ChangeSpec.witness6 (enc := enc) (C := Try.checked) false ⟨#[], #[.int .i64 0, .slice none 0 0], []⟩ 8 (by kernel_rfl) (by kernel_rfl) (by kernel_rfl) (by kernel_rfl)) ?_
  intro W base args ds gs before hval0 hW hcnd hsz0 _
  have hval : ∀ (j : Nat) t v, Try.f4.params[j]? = some t → args[j]? = some v → Value.okWide Try.prog W .any base t v := hval0
  have hsz : (DataW.weightsEach Try.prog (Try.f4.params.toList ++ Rows.storeWholeSpec.plain.varTypes Try.prog) (ds ++ gs)).all (· ≤ reachBytes) = true := hsz0
  have hW' := hW
  obtain ⟨p, q, hA0, hV, rfl, hfz, hnd⟩ := hW
  have hA : DataW.TrodAll enc Try.prog W 0 (fun _ => true) true Try.f4.params.toList args.toList ds p := hA0
  rw [Try.params4] at hA hval hsz
  obtain ⟨v0, vs0, d0, ds0, p0, q0, hargs, rfl, rfl, h0, r0⟩ := trodAll_cons hA
  obtain ⟨v1, vs1, d1, ds1, p1, q1, rfl, rfl, rfl, h1, r1⟩ := trodAll_cons r0
  obtain ⟨rfl, rfl, rfl⟩ := trodAll_nil r1
  obtain rfl : args = #[v0, v1] := by cases args; simp_all
  obtain ⟨rfl, rfl⟩ := trodVars_none hV
  obtain ⟨a0, rfl, rfl, rfl, w0⟩ := open_int Try.underlying3 (hval 0 3 v0 rfl rfl) h0
  have k1 := h1
  have lt1 := trod_places h1
  obtain ⟨m1, w1a, w1b, w1c, w1d⟩ := op_ocs (hval 1 22 v1 rfl rfl) h1
  clear hA0 hval0 hsz0 hsz
  refine (walk a0 v1 m1 W w0 w1a w1b w1c w1d).mono fun e W' ⟨he, bel⟩ => ?_
  subst he
  exact ⟨_, rfl, _, _, _, [], _, [], hW', trodAll_mk1 (shut_bool Try.underlying4 _), (trodAll_cons_mk (shut_int Try.underlying3 w0) (trodAll_cons_mk (Below.trod laidOut (by kernel_rfl) (of_decide_eq_true (by kernel_rfl)) k1 bel lt1) trodAll_mk0)), rfl, bel.frame _, fun h => by cases h⟩

theorem over : Rows.storeWholeRow.holds Try.pinned (OpenSpec.ofChange Rows.storeWholeSpec) :=
  OpenClaim.holds_of_wide 4 Try.f4 rfl rfl rfl rfl rfl rfl rfl ⟨rfl, rfl, rfl, rfl, rfl⟩ rfl rfl rfl rfl rfl (by kernel_rfl) Try.func4 (by kernel_rfl)
    (of_decide_eq_true (by kernel_rfl)) (by unfold Func.isWrapper; first | (rw [if_pos (by decide +kernel)]; kernel_rfl) | (rw [if_neg (by decide +kernel)]; exact ⟨rfl, rfl⟩))
    (fun os started H enc _ => lifted os started H enc)

/-- THE STATEMENT. -/
theorem proved : Rows.StoreWholeSaid := over
end Go.Proofs.Ytmoagpedkgjkoaa.storeWhole
namespace Go.Proofs.Ytmoagpedkgjkoaa
theorem storeWhole_proved : Rows.StoreWholeSaid := storeWhole.proved
end Go.Proofs.Ytmoagpedkgjkoaa
