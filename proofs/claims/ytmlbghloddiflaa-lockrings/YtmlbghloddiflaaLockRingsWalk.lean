/-
  The walk of LockRings: it returns true, and turns nothing that was there.
  Ahead of it the contracts of the statements' union and waiting (gen13/union.py, waitl.py).
-/
import Derived.Test.YtmlbghloddiflaaLkBehind
import Derived.Maps.AppendAt
namespace Go.Proofs.Ytmlbghloddiflaa
open Go.RowKit
set_option linter.unusedVariables false

/-- One number more, and where it lies then. -/
theorem OwnI.push_at {B : Nat} {y : World} {v : Value} {l : List Int} (h : OwnI B y v l) (n : Int) (g c : Nat) (hg : y.cell? ⟨g, 0, none⟩ = some (.int .i64 n)) (hB : B ≤ y.heap.size) (hl : l.length ≤ 100000000) (ty : TypeId) :
    ∃ v' y', (Builtin.append_ #[50, 50] ty #[v, .slice (some ⟨g, 0, none⟩) 1 c]).run Try.prog y = .ok v' y' ∧ OwnI B y' v' (l ++ [n]) ∧ Tn (fun k => v.ownBlock = some k) y y' ∧ (v'.ownBlock = v.ownBlock ∨ v'.ownBlock = some y.heap.size) := by
  obtain ⟨i, hi0, hi1⟩ := Option.map_eq_some_iff.1 infoI13
  simp only [Prod.mk.injEq] at hi1
  obtain ⟨v', y', r1, r2, r3, _, r5⟩ := run_append_own_at (P := Try.prog) y B 50 ty 3 i (.int .i64 0) 1 8 Try.underlying50 hi0 hi1.1 hi1.2.1 hi1.2.2 rfl (by omega) v l.length (intsV l) h ⟨g, 0, none⟩ 1 c [.int .i64 n] rfl (fun j u hu => by
    match j with
    | 0 => simp at hu; subst hu; rw [Addr.add_lit]; exact hg
    | j + 1 => simp at hu) (fun u hu => by rw [List.mem_singleton.1 hu]; rfl) (by unfold maxLen; omega) (by omega) hB
  refine ⟨v', y', r1, ?_, Tn.of_grown r3 (fun k hk => hk), r5⟩
  unfold OwnI
  rw [intsV_snoc, List.length_append]
  exact r2
/-- A number of a row of one's own. -/
theorem OwnI.cellAt {B : Nat} {y : World} {b n c : Nat} {l : List Int} (h : OwnI B y (.slice (some ⟨b, 0, none⟩) n c) l) {j : Nat} (hj : j < l.length) : y.cell? ⟨b, j, none⟩ = some (.int .i64 (l.getD j 0)) := by
  obtain ⟨b', e, h1⟩ := h.at hj
  injection e with e
  injection e with e
  subst e
  exact h1
theorem OwnI.caps {B : Nat} {y : World} {a : Option Addr} {n c : Nat} {l : List Int} (h : OwnI B y (.slice a n c) l) : l.length ≤ c := by
  rcases h.2 with ⟨e, h0⟩ | ⟨g', cap, cur, e, _, _, hn, _⟩
  · rw [h0]; exact Nat.zero_le _
  · injection e with _ _ e3
    rw [e3]
    exact hn
/-- What stands at the head of union's loop. -/
structure Uni (B B2 : Nat) (x : World) (v v2 : Value) (l m : List Int) (v' : Value) (l' : List Int) (j : Nat) (y : World) : Prop where
  one : OwnI B y v' l'
  two : OwnI B2 y v2 m
  mem : ∀ a ∈ l', a ∈ l ∨ a ∈ m
  len : l'.length ≤ l.length + j
  tn : Tn (fun k => v.ownBlock = some k) x y
  own : ∀ k, v'.ownBlock = some k → v.ownBlock = some k ∨ x.heap.size ≤ k
section
variable {B B2 : Nat} {x : World} {v v2 : Value} {l m : List Int} {v' : Value} {l' : List Int} {j : Nat} {y : World}
theorem Uni.later {z : World} (h : Uni B B2 x v v2 l m v' l' j y) (q : Below y.heap.size y z) : Uni B B2 x v v2 l m v' l' j z := ⟨h.one.later q, h.two.later q, h.mem, h.len, h.tn.later q, h.own⟩
theorem Uni.next (h : Uni B B2 x v v2 l m v' l' j y) : Uni B B2 x v v2 l m v' l' (j + 1) y := ⟨h.one, h.two, h.mem, by have := h.len; omega, h.tn, h.own⟩
theorem Uni.push (h : Uni B B2 x v v2 l m v' l' j y) (hne : ∀ k, v2.ownBlock = some k → k < x.heap.size ∧ ¬ v.ownBlock = some k) (hB : B ≤ x.heap.size) (hl : l.length + j ≤ 1000000) {n : Int} (hn : n ∈ m) : ∃ v'' z, (Builtin.append_ #[50, 50] 50 #[v', .slice (some ⟨y.heap.size, 0, none⟩) 1 1]).run Try.prog (y.alloc (.cells #[.int .i64 n] 3)) = .ok v'' z ∧ Uni B B2 x v v2 l m v'' (l' ++ [n]) (j + 1) z := by
  have b5 : Below y.heap.size y (y.alloc (.cells #[.int .i64 n] 3)) := (Below.refl y.heap.size y).alloc (Nat.le_refl _) _
  have hcell : (y.alloc (.cells #[.int .i64 n] 3)).cell? ⟨y.heap.size, 0, none⟩ = some (.int .i64 n) := (RowAt.new y 3 #[.int .i64 n]).cell 0 _ rfl
  have h5 := h.later b5
  have hs : x.heap.size ≤ (y.alloc (.cells #[.int .i64 n] 3)).heap.size := h5.tn.size
  have hl2 := h.len
  obtain ⟨v'', z, r, hO, hT, hw⟩ := h5.one.push_at n y.heap.size 1 hcell (Nat.le_trans hB hs) (by omega) 50
  refine ⟨v'', z, r, hO, h5.two.turned hT (fun k hk e => ?_), fun a ha => ?_, by rw [List.length_append, List.length_singleton]; omega, h5.tn.trans hT h.own, fun k hk => ?_⟩
  · rcases h.own k hk with q | q
    · exact (hne k e).2 q
    · have := (hne k e).1
      omega
  · rcases List.mem_append.1 ha with q | q
    · exact h.mem a q
    · rw [List.mem_singleton.1 q]
      exact .inr hn
  · rcases hw with q | q
    · rw [q] at hk
      exact h.own k hk
    · rw [q] at hk
      injection hk with hk
      exact .inr (by omega)
end
set_option maxRecDepth 8000 in
set_option maxHeartbeats 6400000 in
theorem union13 {B B2 : Nat} {x : World} {v v2 : Value} {l m : List Int} (h : OwnI B x v l) (h2 : OwnI B2 x v2 m) (hne : ∀ k, v2.ownBlock = some k → k < x.heap.size ∧ ¬ v.ownBlock = some k) (hB : B ≤ x.heap.size) (hl : l.length + m.length ≤ 1000000) :
    Calls Try.prog 21 #[v, v2] x fun e y => ∃ v' l', e = .returned v' ∧ Uni B B2 x v v2 l m v' l' m.length y := by
  obtain ⟨a2, c2, rfl⟩ := h2.shape
  have hc2 := h2.caps
  obtain ⟨a1, c1, hv1⟩ := h.shape
  have H0 := hide (show Uni B B2 x v (.slice a2 m.length c2) l m v l 0 x from ⟨h, h2, fun a ha => .inl ha, Nat.le_refl _, Tn.refl _ _, fun k hk => .inl hk⟩)
  have HNE := hide (And.intro hne hB)
  obtain ⟨n, hn⟩ : ∃ n, n = m.length := ⟨_, rfl⟩
  have HN := hide hn
  rw [← hn] at H0 HNE hc2 hl ⊢
  have HV := hide hv1
  clear h h2 hne hB hn hv1
  go_enter Try.func21, Try.ntmps21
  go_wp2
  go_loopw [0, 10] (fun v0 q wr => ∃ (j : Nat) (a : Option Addr) (c : Nat) (l' : List Int), j ≤ n ∧ q = .int .i64 j ∧ v0 = .slice a l'.length c ∧ Hid (Uni B B2 x v (.slice a2 n c2) l m (.slice a l'.length c) l' j wr)) (fun _ q _ => n - (intOf q).toNat)
  case atStart => exact ⟨0, a1, c1, l, Nat.zero_le _, rfl, HV.out, by rw [← HV.out]; exact H0⟩
  case round =>
    obtain ⟨j, a, c, l', hj, rfl, rfl, HU⟩ := hrel
    by_cases hlt : j < n
    · have i1 : (j : Int) < (n : Int) := by omega
      obtain ⟨k, hk⟩ : ∃ k, k = m.getD j 0 := ⟨_, rfl⟩
      have hjm : j < m.length := by rw [← HN.out]; exact hlt
      have HM := hide (show k ∈ m from by rw [hk, List.getD_eq_getElem?_getD, List.getElem?_eq_getElem hjm]; exact List.getElem_mem hjm)
      obtain ⟨b2, hb2, _⟩ := HU.out.two.at hjm
      subst hb2
      have HK := hide (fun y (hy : Uni B B2 x v (.slice (some ⟨b2, 0, none⟩) n c2) l m (.slice a l'.length c) l' j y) => show y.cell? ⟨b2, j, none⟩ = some (.int .i64 k) from by rw [hk]; exact hy.two.cellAt hjm)
      have hc := HU.out.one.caps
      have hlen := HU.out.len
      clear hk hjm
      go_wp2
      go_loopw [6, 15] (fun b q wr => ∃ (r : Bool) (i : Nat), i ≤ l'.length ∧ b = .bool r ∧ q = .int .i64 i ∧ Hid (Uni B B2 x v (.slice (some ⟨b2, 0, none⟩) n c2) l m (.slice a l'.length c) l' j wr)) (fun _ q _ => l'.length - (intOf q).toNat)
      case atStart => exact ⟨false, 0, Nat.zero_le _, rfl, rfl, HU⟩
      case round =>
        obtain ⟨r, i, hi, rfl, rfl, HW⟩ := hrel
        by_cases hil : i < l'.length
        · have i2 : (i : Int) < (l'.length : Int) := by omega
          obtain ⟨b1, hb1, _⟩ := HW.out.one.at hil
          subst hb1
          obtain ⟨q, hq⟩ : ∃ q, q = l'.getD i 0 := ⟨_, rfl⟩
          have HQ := hide (fun y (hy : Uni B B2 x v (.slice (some ⟨b2, 0, none⟩) n c2) l m (.slice (some ⟨b1, 0, none⟩) l'.length c) l' j y) => show y.cell? ⟨b1, i, none⟩ = some (.int .i64 q) from by rw [hq]; exact hy.one.cellAt hil)
          clear hq
          have hcl : Uni B B2 x v (.slice (some ⟨b2, 0, none⟩) n c2) l m (.slice (some ⟨b1, 0, none⟩) l'.length c) l' j wr.drew := HW.out.later ((Below.refl wr.heap.size wr).drew)
          cases r with
          | true =>
            go_wp2_with fail
            refine wp_region_in (fun y => Uni B B2 x v (.slice (some ⟨b2, 0, none⟩) n c2) l m (.slice (some ⟨b1, 0, none⟩) l'.length c) l' j y) (by kernel_rfl) (by kernel_rfl) (hcl) ?_
            refine wpQuiet_plain rfl (fun K hK => ?_); go_simp; refine hK _ ?_; clear hK K
            refine wpQuiet_plain rfl (fun K hK => ?_); go_simp; refine hK _ ?_; clear hK K
            go_big_quiet_skip
            go_big_quiet_skip
            go_big_quiet_skip
            go_big_quiet_skip
            go_big_quiet_skip
            go_big_quiet_skip
            go_big_quiet_skip
            go_big_quiet_skip
            go_big_quiet_skip
            refine wpQuiet_plain rfl (fun K hK => ?_); go_simp; refine hK _ ?_; clear hK K
            refine wpQuiet_plain rfl (fun K hK => ?_); go_simp; refine hK _ ?_; clear hK K
            refine wpQuiet_nil ?_
            intro y hy
            have HY := hide hy
            clear hy HW hcl
            go_wp2
            go_roundw
            case rel => exact ⟨_, i + 1, by omega, rfl, by go_num, HY⟩
            case measure => simp [intOf]; omega
          | false =>
            go_wp2_with fail
            refine wp_region_in (fun y => Uni B B2 x v (.slice (some ⟨b2, 0, none⟩) n c2) l m (.slice (some ⟨b1, 0, none⟩) l'.length c) l' j y) (by kernel_rfl) (by kernel_rfl) (hcl) ?_
            refine wpQuiet_plain rfl (fun K hK => ?_); go_simp; refine hK _ ?_; clear hK K
            refine wpQuiet_plain rfl (fun K hK => ?_); go_simp; refine hK _ ?_; clear hK K
            refine wpQuiet_plain rfl (fun K hK => ?_); go_simp; refine hK _ ?_; clear hK K
            refine wpQuiet_plain rfl (fun K hK => ?_); go_simp; refine hK _ ?_; clear hK K
            refine wpQuiet_plain rfl (fun K hK => ?_); go_simp; refine hK _ ?_; clear hK K
            refine wpQuiet_load rfl 3 (.tmp 22) rfl _ (.int .i64 q) rfl (fun y hy => load_num13 (HQ.out y hy)) ?_; simp only [Act.put, Array.setIfInBounds, List.size_toArray, List.length_cons, List.length_nil, Nat.reduceAdd, Nat.reduceLT, ↓reduceDIte, List.set_toArray, List.set_cons_succ, List.set_cons_zero]
            refine wpQuiet_plain rfl (fun K hK => ?_); go_simp; refine hK _ ?_; clear hK K
            refine wpQuiet_plain rfl (fun K hK => ?_); go_simp; refine hK _ ?_; clear hK K
            refine wpQuiet_plain rfl (fun K hK => ?_); go_simp; refine hK _ ?_; clear hK K
            refine wpQuiet_load rfl 3 (.tmp 26) rfl _ (.int .i64 k) rfl (fun y hy => load_num13 (HK.out y hy)) ?_; simp only [Act.put, Array.setIfInBounds, List.size_toArray, List.length_cons, List.length_nil, Nat.reduceAdd, Nat.reduceLT, ↓reduceDIte, List.set_toArray, List.set_cons_succ, List.set_cons_zero]
            refine wpQuiet_plain rfl (fun K hK => ?_); go_simp; refine hK _ ?_; clear hK K
            refine wpQuiet_plain rfl (fun K hK => ?_); go_simp; refine hK _ ?_; clear hK K
            refine wpQuiet_plain rfl (fun K hK => ?_); go_simp; refine hK _ ?_; clear hK K
            refine wpQuiet_nil ?_
            intro y hy
            have HY := hide hy
            clear hy HW hcl
            go_wp2
            go_roundw
            case rel => exact ⟨_, i + 1, by omega, rfl, by go_num, HY⟩
            case measure => simp [intOf]; omega
        · have i2 : ¬ (i : Int) < (l'.length : Int) := by omega
          cases r with
          | true =>
            go_wp2
            go_roundw
            case rel => exact ⟨j + 1, a, c, l', by omega, by go_num, rfl, HW.out.next⟩
            case measure => simp [intOf]; omega
          | false =>
            have c0 := HK.out wr HW.out
            obtain ⟨v'', z, ha, hU⟩ := HW.out.push HNE.out.1 HNE.out.2 (by omega) HM.out
            obtain ⟨a3, c3, rfl⟩ := hU.one.shape
            have HU2 := hide hU
            clear hU
            go_wp2_with (at_builtin; refine Lib.wpList_append_run _ rfl _ _ _ _ rfl _ _ rfl rfl _ _ ha ?_)
            go_roundw
            case rel => exact ⟨j + 1, a3, c3, l' ++ [k], by omega, by go_num, by simp, HU2⟩
            case measure => simp [intOf]; omega
    · have i1 : ¬ (j : Int) < (n : Int) := by omega
      obtain rfl : j = n := by omega
      go_wp2
      go_ret
      exact ⟨_, rfl, l', HU.out⟩
end Go.Proofs.Ytmlbghloddiflaa
namespace Go.Proofs.Ytmlbghloddiflaa
open Go.RowKit
set_option linter.unusedVariables false

theorem who_at {w : World} {a : Option Addr} {len cap : Nat} {cs : List Lc} (h : Scr13 w (.slice a len cap) cs) {j : Nat} (hj : j < cs.length) : ∃ b off k, a = some ⟨b, off, none⟩ ∧ ∀ y, Below w.heap.size w y → y.cell? ⟨b, off + j * 4 + 1, none⟩ = some (.int .i64 k) := by
  obtain ⟨a', cap', e, h2⟩ := h.rows
  injection e with e1 e2 e3
  subst e1
  obtain ⟨b, off, h3, h4, h5⟩ := h2 (by omega)
  have hg : cs.getD j Lc.zero = cs[j] := by rw [List.getD_eq_getElem?_getD, List.getElem?_eq_getElem hj]; rfl
  refine ⟨b, off, cs[j].w, h3, fun y hy => ?_⟩
  have h6 := rangeAt_below (h5 j hj) hy h4
  rw [hg] at h6
  exact h6 1 _ rfl
/-- What stands at the head of waiting's loop. -/
structure Wai (w0 : World) (g : Nat) (t : Tb) (F : Nat → Prop) (B : Nat) (v : Value) (l : List Int) (j : Nat) (y : World) : Prop where
  tab : K13 w0 y g t 100 F
  out : OwnI B y v l
  mem : ∀ b ∈ l, (t.wt b).isSome = true
  len : l.length ≤ j
  size : w0.heap.size ≤ B ∧ B ≤ y.heap.size
section
variable {w0 : World} {g : Nat} {t : Tb} {F : Nat → Prop} {B : Nat} {v : Value} {l : List Int} {j : Nat} {y : World}
theorem Wai.later {z : World} (h : Wai w0 g t F B v l j y) (q : Below y.heap.size y z) : Wai w0 g t F B v l j z := ⟨h.tab.later q, h.out.later q, h.mem, h.len, h.size.1, Nat.le_trans h.size.2 q.size⟩
theorem Wai.next (h : Wai w0 g t F B v l j y) : Wai w0 g t F B v l (j + 1) y := ⟨h.tab, h.out, h.mem, by have := h.len; omega, h.size⟩
theorem Wai.push (h : Wai w0 g t F B v l j y) (hj : j ≤ 100) {n : Int} (hn : (t.wt n).isSome = true) : ∃ v' z, (Builtin.append_ #[50, 50] 50 #[v, .slice (some ⟨y.heap.size, 0, none⟩) 1 1]).run Try.prog (y.alloc (.cells #[.int .i64 n] 3)) = .ok v' z ∧ Wai w0 g t F B v' (l ++ [n]) (j + 1) z := by
  have b5 : Below y.heap.size y (y.alloc (.cells #[.int .i64 n] 3)) := (Below.refl y.heap.size y).alloc (Nat.le_refl _) _
  have hcell : (y.alloc (.cells #[.int .i64 n] 3)).cell? ⟨y.heap.size, 0, none⟩ = some (.int .i64 n) := (RowAt.new y 3 #[.int .i64 n]).cell 0 _ rfl
  have h5 := h.later b5
  have hl2 := h.len
  obtain ⟨v', z, r, hO, hT⟩ := h5.out.push n y.heap.size 1 hcell h5.size.2 (by omega) 50
  refine ⟨v', z, r, ⟨h5.tab.tab.turn hT (fun k hk e => ?_), h5.tab.new, h5.tab.bel.trans (hT.below (fun k hk => Nat.le_trans h.size.1 (h5.out.block hk).1) h5.tab.bel.size)⟩, hO, fun b hb => ?_, by rw [List.length_append, List.length_singleton]; omega, h.size.1, Nat.le_trans h5.size.2 hT.size⟩
  · obtain ⟨_, cs, q⟩ := h5.out.block e
    exact h5.tab.tab.kind q hk
  · rcases List.mem_append.1 hb with q | q
    · exact h.mem b q
    · rw [List.mem_singleton.1 q]
      exact hn
set_option maxRecDepth 8000 in
set_option maxHeartbeats 6400000 in
theorem waitL13 {x : World} {a : Option Addr} {len cap : Nat} {cs : List Lc} (h : Scr13 w0 (.slice a len cap) cs) (hl : len ≤ 100) (hK : K13 w0 x g t 100 F) : Calls Try.prog 19 #[.pointer (some ⟨g, 0, none⟩), .slice a len cap] x fun e y => ∃ v l, e = .returned v ∧ Wai w0 g t F x.heap.size v l 100 y := by
  have hcap := h.cap _ _ _ rfl
  have HL := hide h.len
  have HS := hide h
  have H0 := hide (show Wai w0 g t F x.heap.size (.slice none 0 0) [] 0 x from ⟨hK, OwnI.nil _ _, fun b hb => absurd hb (by simp), Nat.le_refl _, hK.bel.size, Nat.le_refl _⟩)
  clear h hK
  go_enter Try.func19, Try.ntmps19
  go_wp2
  go_loopw [5, 12] (fun v0 q wr => ∃ (j : Nat) (a1 : Option Addr) (c1 : Nat) (l : List Int), j ≤ len ∧ q = .int .i64 j ∧ v0 = .slice a1 l.length c1 ∧ Hid (Wai w0 g t F x.heap.size (.slice a1 l.length c1) l j wr)) (fun _ q _ => len - (intOf q).toNat)
  case atStart => exact ⟨0, none, 0, [], Nat.zero_le _, rfl, rfl, H0⟩
  case round =>
    obtain ⟨j, a1, c1, l, hj, rfl, rfl, HU⟩ := hrel
    by_cases hlt : j < len
    · have i1 : (j : Int) < (len : Int) := by omega
      obtain ⟨b, off, k, rfl, hcl⟩ := who_at HS.out (j := j) (by rw [← HL.out]; exact hlt)
      have HK := hide (fun y (hy : Wai w0 g t F x.heap.size (.slice a1 l.length c1) l j y) => hcl y hy.tab.bel)
      have c0 := hcl wr HU.out.tab.bel
      have HW := hide (kwaits HU.out.tab.tab (by omega) k)
      obtain ⟨z, hz⟩ : ∃ z, z = (t.wt k).getD hdZ := ⟨_, rfl⟩
      obtain ⟨r, hr⟩ : ∃ r, r = (t.wt k).isSome := ⟨_, rfl⟩
      rw [← hz, ← hr] at HW
      have HRR := hide hr
      clear hcl hz hr
      go_wp2_with fail
      refine HW.out.mono ?_
      rintro e w6 ⟨rfl, hb6⟩
      have HU6 := hide (HU.out.later hb6)
      clear hb6 HW HU c0
      go_wp2_with (with_reducible refine stop_at 7 rfl ?_)
      refine unstop10 ?_
      refine lst_run (some 7) rfl rfl (.pointer (some ⟨w6.heap.size, 0, none⟩)) (w6.alloc (.cells zeroH 46)) (by go_simp; rfl) ?_
      simp only [Act.put, Array.setIfInBounds, List.size_toArray, List.length_cons, List.length_nil, Nat.reduceAdd, Nat.reduceLT, ↓reduceDIte, List.set_toArray, List.set_cons_succ, List.set_cons_zero]
      refine wpList_store_part rfl 46 (.tmp 7) (.tmp 23) rfl w6.heap.size 0 46 zeroH (hdA z) rfl rfl (RowAt.new w6 _ _) infoHs (by show 0 + 3 ≤ 3; omega) (hdA_one z) ?_
      intro w7 h21 h22
      simp only [Act.put]
      have b2 : Below w6.heap.size w6 w7 := h22.below ((Below.refl w6.heap.size w6).alloc (Nat.le_refl _) (.cells zeroH 46)) (Nat.le_refl _)
      have HU7 := hide (HU6.out.later b2)
      have hc := HU7.out.out.caps
      have hlen := HU7.out.len
      clear h21 h22 b2 HU6
      generalize w6.heap.size = gv at *
      go_wp2
      go_loopw [8, 27] (fun b q wr => ∃ (r' : Bool) (i : Nat), i ≤ l.length ∧ b = .bool r' ∧ q = .int .i64 i ∧ Hid ((r' = true → r = true) ∧ Wai w0 g t F x.heap.size (.slice a1 l.length c1) l j wr)) (fun _ q _ => l.length - (intOf q).toNat)
      case atStart => exact ⟨r, 0, Nat.zero_le _, rfl, rfl, ⟨id, HU7.out⟩⟩
      case round =>
        obtain ⟨r', i, hi, rfl, rfl, HW⟩ := hrel
        by_cases hil : i < l.length
        · have i2 : (i : Int) < (l.length : Int) := by omega
          obtain ⟨b1, hb1, _⟩ := HW.out.2.out.at hil
          subst hb1
          obtain ⟨q, hq⟩ : ∃ q, q = l.getD i 0 := ⟨_, rfl⟩
          have HQ := hide (fun y (hy : Wai w0 g t F x.heap.size (.slice (some ⟨b1, 0, none⟩) l.length c1) l j y) => show y.cell? ⟨b1, i, none⟩ = some (.int .i64 q) from by rw [hq]; exact hy.out.cellAt hil)
          clear hq
          have hcl : Wai w0 g t F x.heap.size (.slice (some ⟨b1, 0, none⟩) l.length c1) l j wr.drew := HW.out.2.later ((Below.refl wr.heap.size wr).drew)
          cases r' with
          | false =>
            go_wp2_with fail
            refine wp_region_in (fun y => Wai w0 g t F x.heap.size (.slice (some ⟨b1, 0, none⟩) l.length c1) l j y) (by kernel_rfl) (by kernel_rfl) (hcl) ?_
            refine wpQuiet_plain rfl (fun K hK => ?_); go_simp; refine hK _ ?_; clear hK K
            refine wpQuiet_plain rfl (fun K hK => ?_); go_simp; refine hK _ ?_; clear hK K
            go_big_quiet_skip
            go_big_quiet_skip
            go_big_quiet_skip
            go_big_quiet_skip
            go_big_quiet_skip
            go_big_quiet_skip
            go_big_quiet_skip
            go_big_quiet_skip
            go_big_quiet_skip
            go_big_quiet_skip
            refine wpQuiet_plain rfl (fun K hK => ?_); go_simp; refine hK _ ?_; clear hK K
            refine wpQuiet_plain rfl (fun K hK => ?_); go_simp; refine hK _ ?_; clear hK K
            refine wpQuiet_nil ?_
            intro y hy
            have HY := hide hy
            clear hy hcl
            go_wp2
            go_roundw
            case rel => exact ⟨false, i + 1, by omega, rfl, by go_num, ⟨(fun h => absurd h (by simp)), HY.out⟩⟩
            case measure => simp [intOf]; omega
          | true =>
            have HRT := hide (HW.out.1 rfl)
            go_wp2_with fail
            refine wp_region_in (fun y => Wai w0 g t F x.heap.size (.slice (some ⟨b1, 0, none⟩) l.length c1) l j y) (by kernel_rfl) (by kernel_rfl) (hcl) ?_
            refine wpQuiet_plain rfl (fun K hK => ?_); go_simp; refine hK _ ?_; clear hK K
            refine wpQuiet_plain rfl (fun K hK => ?_); go_simp; refine hK _ ?_; clear hK K
            refine wpQuiet_plain rfl (fun K hK => ?_); go_simp; refine hK _ ?_; clear hK K
            refine wpQuiet_plain rfl (fun K hK => ?_); go_simp; refine hK _ ?_; clear hK K
            refine wpQuiet_plain rfl (fun K hK => ?_); go_simp; refine hK _ ?_; clear hK K
            refine wpQuiet_load rfl 3 (.tmp 34) rfl _ (.int .i64 q) rfl (fun y hy => load_num13 (HQ.out y hy)) ?_; simp only [Act.put, Array.setIfInBounds, List.size_toArray, List.length_cons, List.length_nil, Nat.reduceAdd, Nat.reduceLT, ↓reduceDIte, List.set_toArray, List.set_cons_succ, List.set_cons_zero]
            refine wpQuiet_plain rfl (fun K hK => ?_); go_simp; refine hK _ ?_; clear hK K
            refine wpQuiet_plain rfl (fun K hK => ?_); go_simp; refine hK _ ?_; clear hK K
            refine wpQuiet_plain rfl (fun K hK => ?_); go_simp; refine hK _ ?_; clear hK K
            refine wpQuiet_plain rfl (fun K hK => ?_); go_simp; refine hK _ ?_; clear hK K
            refine wpQuiet_load rfl 3 (.tmp 39) rfl _ (.int .i64 k) rfl (fun y hy => load_num13 (HK.out y hy)) ?_; simp only [Act.put, Array.setIfInBounds, List.size_toArray, List.length_cons, List.length_nil, Nat.reduceAdd, Nat.reduceLT, ↓reduceDIte, List.set_toArray, List.set_cons_succ, List.set_cons_zero]
            refine wpQuiet_plain rfl (fun K hK => ?_); go_simp; refine hK _ ?_; clear hK K
            refine wpQuiet_plain rfl (fun K hK => ?_); go_simp; refine hK _ ?_; clear hK K
            refine wpQuiet_plain rfl (fun K hK => ?_); go_simp; refine hK _ ?_; clear hK K
            refine wpQuiet_nil ?_
            intro y hy
            have HY := hide hy
            clear hy hcl
            go_wp2
            go_roundw
            case rel => exact ⟨_, i + 1, by omega, rfl, by go_num, ⟨fun _ => HRT.out, HY.out⟩⟩
            case measure => simp [intOf]; omega
        · have i2 : ¬ (i : Int) < (l.length : Int) := by omega
          cases r' with
          | false =>
            go_wp2
            go_roundw
            case rel => exact ⟨j + 1, a1, c1, l, by omega, by go_num, rfl, HW.out.2.next⟩
            case measure => simp [intOf]; omega
          | true =>
            have c0 := HK.out wr HW.out.2
            obtain ⟨v'', z', ha, hU⟩ := HW.out.2.push (by omega) (n := k) (by rw [← HRR.out]; exact HW.out.1 rfl)
            obtain ⟨a3, c3, rfl⟩ := hU.out.shape
            have HU2 := hide hU
            clear hU
            go_wp2_with (at_builtin; refine Lib.wpList_append_run _ rfl _ _ _ _ rfl _ _ rfl rfl _ _ ha ?_)
            go_roundw
            case rel => exact ⟨j + 1, a3, c3, l ++ [k], by omega, by go_num, by simp, HU2⟩
            case measure => simp [intOf]; omega
    · have i1 : ¬ (j : Int) < (len : Int) := by omega
      have HE := hide (show Wai w0 g t F x.heap.size (.slice a1 l.length c1) l 100 wr from ⟨HU.out.tab, HU.out.out, HU.out.mem, by have := HU.out.len; omega, HU.out.size⟩)
      go_wp2
      go_ret
      exact ⟨_, rfl, l, HE.out⟩
end
end Go.Proofs.Ytmlbghloddiflaa
namespace Go.Proofs.Ytmlbghloddiflaa.lockRings
open Go.RowKit
set_option linter.unusedVariables false

theorem beh_len {w : World} {g : Nat} {t : Tb} {N : Nat} {F : Nat → Prop} (h : Kt w g t N F) (hN : N ≤ 3000) (who : Int) : (t.behL who).length ≤ 3000 := by
  cases e : t.wt who with
  | none =>
    rw [beh_none e]
    exact Nat.zero_le _
  | some k =>
    obtain ⟨p, S, _, hp, _, _⟩ := h
    obtain ⟨hkr, hkw⟩ := wt_some e
    obtain ⟨h4, h5⟩ := thing_nat (hp.tok.rk k hkr).2.1
    have hkp : k ∈ p.row k.x.toNat := by rw [hp.rep.row _ h4]; exact mem_que.2 ⟨hkr, h5⟩
    have hq := beh_list hp h4 hkp
    rw [hkw] at hq
    rw [← hq]
    refine Nat.le_trans (Go.Lib.compact_length_le _) ?_
    obtain ⟨i, hst⟩ := stands_of hkp
    rw [List.length_mergeSort, List.length_append, List.length_map, hst.ahead, List.length_take]
    have h1 := bar_len (p.had k.x.toNat) k
    have h2 := hp.len _ h4
    omega
theorem Wai.turn {w0 : World} {g : Nat} {t : Tb} {F : Nat → Prop} {B Bs : Nat} {v v6 : Value} {l seen : List Int} {j : Nat} {y z : World} (h : Wai w0 g t F B v l j y) (h6 : OwnI Bs y v6 seen) (hT : Tn (fun k => v6.ownBlock = some k) y z) (hlow : ∀ k, v.ownBlock = some k → k < Bs) (hs : w0.heap.size ≤ Bs) : Wai w0 g t F B v l j z :=
  ⟨⟨h.tab.tab.turn hT (fun k hk e => by
    obtain ⟨_, cs, q⟩ := h6.block e
    exact h.tab.tab.kind q hk), h.tab.new, h.tab.bel.trans (hT.below (fun k hk => Nat.le_trans hs (h6.block hk).1) h.tab.bel.size)⟩, h.out.turned hT (fun k hk e => by
    have h1 := (h6.block hk).1
    have h2 := hlow k e
    omega), h.mem, h.len, h.size.1, Nat.le_trans h.size.2 hT.size⟩
/-- What stands at the head of the second loop. -/
structure Rin (w0 : World) (g : Nat) (t : Tb) (F : Nat → Prop) (B : Nat) (v4 : Value) (l : List Int) (Bs : Nat) (v6 : Value) (sn : List Int) (x0 : Int) (k : Nat) (y : World) : Prop where
  wai : Wai w0 g t F B v4 l 100 y
  seen : OwnI Bs y v6 sn
  far : ∀ a ∈ sn, t.far x0 a
  len : sn.length ≤ 3000 * (k + 1)
  low : ∀ k, v4.ownBlock = some k → k < Bs
  size : w0.heap.size ≤ Bs ∧ Bs ≤ y.heap.size
section
variable {w0 : World} {g : Nat} {t : Tb} {F : Nat → Prop} {B : Nat} {v4 : Value} {l : List Int} {Bs : Nat} {v6 : Value} {sn : List Int} {x0 : Int} {k : Nat} {y : World}
theorem Rin.later {z : World} (h : Rin w0 g t F B v4 l Bs v6 sn x0 k y) (q : Below y.heap.size y z) : Rin w0 g t F B v4 l Bs v6 sn x0 k z := ⟨h.wai.later q, h.seen.later q, h.far, h.len, h.low, h.size.1, Nat.le_trans h.size.2 q.size⟩
/-- Those behind whom one of them goes are laid behind them. -/
theorem Rin.more (h : Rin w0 g t F B v4 l Bs v6 sn x0 k y) (hk : k ≤ 100) {s : Int} (hs : s ∈ sn) {v2 : Value} {z : World} (hO : OwnI y.heap.size z v2 (t.behL s)) (hb : Below y.heap.size y z) :
    Calls Try.prog 21 #[v6, v2] z fun e u => ∃ v' l', e = .returned v' ∧ Rin w0 g t F B v4 l Bs v' l' x0 (k + 1) u := by
  have hz := h.later hb
  have hl := beh_len h.wai.tab.tab (by omega) s
  have hlen := h.len
  refine (union13 hz.seen hO (fun q hq => ?_) hz.size.2 (by omega)).mono ?_
  · obtain ⟨h1, cs, h2⟩ := hO.block hq
    refine ⟨h2.lt, fun e => ?_⟩
    obtain ⟨_, cs', h3⟩ := h.seen.block e
    have := h3.lt
    omega
  · rintro e u ⟨v', l', rfl, hU⟩
    refine ⟨v', l', rfl, Wai.turn hz.wai hz.seen hU.tn h.low h.size.1, hU.one, fun a ha => ?_, ?_, h.low, h.size.1, Nat.le_trans hz.size.2 hU.tn.size⟩
    · rcases hU.mem a ha with q | q
      · exact h.far a q
      · exact .tail (h.far s hs) (mem_behL.1 q)
    · have := hU.len
      omega
end
set_option maxRecDepth 8000 in
set_option maxHeartbeats 12800000 in
theorem walk (v : Value) (cs : List Lc) (w : World) (h1 : RowsIn lcA Lc.zero 4 w v cs) (h2 : cs.length ≤ maxLen) (h3 : ∀ c ∈ cs, c.fits) (h4 : ∀ a len cap, v = .slice a len cap → len ≤ cap) :
    Calls Try.prog 5 #[v] w fun e w' => e = .returned (.bool true) ∧ Below w.heap.size w w' := by
  have h' := h1
  obtain ⟨a, cap, rfl, -⟩ := h'
  have hs : Scr13 w (.slice a cs.length cap) cs := ⟨h1, h3, h4⟩
  obtain ⟨ln, hln⟩ : ∃ ln, cs.length = ln := ⟨_, rfl⟩
  rw [hln] at hs h2 ⊢
  have HS := hide hs
  clear h1 h3 h4 hs hln
  go_enter Try.func5, Try.ntmps5
  go_wp2_with fail
  refine (awake13 _).mono ?_
  rintro e w1 ⟨rfl, hb1⟩
  by_cases hl : 100 < ln
  · have hl2 : (100 : Int) < (ln : Int) := by omega
    go_wp2_with fail
    refine (awake13 _).mono ?_
    rintro e w2 ⟨rfl, hb2⟩
    go_wp2
    go_ret
    exact ⟨rfl, hb1.trans (hb2.mono hb1.size)⟩
  have hl2 : ¬ (100 : Int) < (ln : Int) := by omega
  have HB1 := hide hb1
  clear hb1
  go_wp2_with fail
  refine (played13 (w0 := w) HS.out (by omega) HB1.out).mono ?_
  rintro e w2 ⟨g, F, rfl, hK⟩
  obtain ⟨t, ht⟩ : ∃ t, t = playT cs := ⟨_, rfl⟩
  rw [← ht] at hK
  have HWL := hide (waitL13 HS.out (by omega) hK)
  have HG := hide hK.tab.good
  clear hK HB1 HS ht
  go_wp2_with fail
  refine HWL.out.mono ?_
  rintro e w3 ⟨v3, l, rfl, hW⟩
  obtain ⟨a4, c4, rfl⟩ := hW.out.shape
  have hc4 := hW.out.caps
  have hl100 : l.length ≤ 100 := hW.len
  have H3 := hide hW
  clear hW HWL hl2 hl
  go_wp2
  go_loopw [25] (fun q wr => ∃ i : Nat, i ≤ l.length ∧ q = .int .i64 i ∧ Hid (Wai w g t F w2.heap.size (.slice a4 l.length c4) l 100 wr)) (fun q _ => l.length - (intOf q).toNat)
  case atStart => exact ⟨0, Nat.zero_le _, rfl, H3⟩
  case round =>
    obtain ⟨i, hi, rfl, HR⟩ := hrel
    by_cases hlt : i < l.length
    · have i1 : (i : Int) < (l.length : Int) := by omega
      obtain ⟨b4, hb4, -⟩ := HR.out.out.at hlt
      subst hb4
      obtain ⟨x0, hx0⟩ : ∃ x0, x0 = l.getD i 0 := ⟨_, rfl⟩
      have hxm : x0 ∈ l := by rw [hx0, List.getD_eq_getElem?_getD, List.getElem?_eq_getElem hlt]; exact List.getElem_mem hlt
      have HX := hide (fun y (hy : Wai w g t F w2.heap.size (.slice (some ⟨b4, 0, none⟩) l.length c4) l 100 y) => show y.cell? ⟨b4, i, none⟩ = some (.int .i64 x0) from by rw [hx0]; exact hy.out.cellAt hlt)
      have hne : t.behL x0 ≠ [] := fun e => by
        obtain ⟨k, hk⟩ := Option.isSome_iff_exists.1 (HR.out.mem x0 hxm)
        obtain ⟨q, hq⟩ := HG.out.idle.behind HG.out.ok hk
        have := mem_behL.2 hq
        rw [e] at this
        exact absurd this (by simp)
      have c0 := HX.out wr HR.out
      have HBH := hide (kbehind HR.out.tab.tab (by omega) x0)
      have hbl := beh_len HR.out.tab.tab (by omega) x0
      obtain ⟨s0, hs0⟩ : ∃ s0, s0 = t.behL x0 := ⟨_, rfl⟩
      have HFA := hide (show ∀ q ∈ s0, t.far x0 q from fun q hq => .single (mem_behL.1 (by rw [← hs0]; exact hq)))
      rw [← hs0] at HBH hne hbl
      have hpos : 0 < s0.length := List.length_pos_iff.2 hne
      clear hx0 hxm hne hs0
      go_wp2_with fail
      refine HBH.out.mono ?_
      rintro e w5 ⟨v5, rfl, hO5, hb5⟩
      obtain ⟨a6, c6, rfl⟩ := hO5.shape
      have H5 := hide (show Rin w g t F w2.heap.size (.slice (some ⟨b4, 0, none⟩) l.length c4) l wr.heap.size (.slice a6 s0.length c6) s0 x0 0 w5 from ⟨HR.out.later hb5, hO5, HFA.out, by omega, fun k hk => by
        obtain ⟨_, cs, q⟩ := HR.out.out.block hk
        exact q.lt, HR.out.tab.bel.size, hb5.size⟩)
      have e0 : ((s0.length : Int) == 0) = false := by
        rw [beq_eq_false_iff_ne]
        omega
      have e1 : ¬ s0.length = 0 := by omega
      clear hO5 hb5 HBH c0 hbl HR
      obtain ⟨Bs, hBs⟩ : ∃ Bs, Bs = wr.heap.size := ⟨_, rfl⟩
      rw [← hBs] at H5
      clear hBs
      go_wp2
      go_loopw [6, 7] (fun v6 q wr => ∃ (a6 : Option Addr) (c6 : Nat) (sn : List Int) (k : Nat), k ≤ 101 ∧ v6 = .slice a6 sn.length c6 ∧ q = .int .i64 k ∧ Hid (Rin w g t F w2.heap.size (.slice (some ⟨b4, 0, none⟩) l.length c4) l Bs (.slice a6 sn.length c6) sn x0 k wr)) (fun _ q _ => 101 - (intOf q).toNat)
      case atStart => exact ⟨a6, c6, s0, 0, by omega, rfl, rfl, H5⟩
      case round =>
        obtain ⟨a6, c6, sn, k, hk, rfl, rfl, HI⟩ := hrel
        by_cases hkl : k < sn.length
        · have j1 : (k : Int) < (sn.length : Int) := by omega
          by_cases hk1 : k ≤ 100
          · have j2 : (k : Int) ≤ 100 := by omega
            obtain ⟨b6, hb6, -⟩ := HI.out.seen.at hkl
            subst hb6
            obtain ⟨s, hs⟩ : ∃ s, s = sn.getD k 0 := ⟨_, rfl⟩
            have hsm : s ∈ sn := by rw [hs, List.getD_eq_getElem?_getD, List.getElem?_eq_getElem hkl]; exact List.getElem_mem hkl
            have HSC := hide (fun y (hy : Rin w g t F w2.heap.size (.slice (some ⟨b4, 0, none⟩) l.length c4) l Bs (.slice (some ⟨b6, 0, none⟩) sn.length c6) sn x0 k y) => show y.cell? ⟨b6, k, none⟩ = some (.int .i64 s) from by rw [hs]; exact hy.seen.cellAt hkl)
            have hsx : s ≠ x0 := fun e => by
              have := HI.out.far s hsm
              rw [e] at this
              exact HG.out.calm x0 this
            have f1 : (s == x0) = false := by rw [beq_eq_false_iff_ne]; exact hsx
            have f2 : decide (s = x0) = false := by simpa using hsx
            have HSM := hide hsm
            have hc6 := HI.out.seen.caps
            have hcl : Rin w g t F w2.heap.size (.slice (some ⟨b4, 0, none⟩) l.length c4) l Bs (.slice (some ⟨b6, 0, none⟩) sn.length c6) sn x0 k wr.drew := HI.out.later ((Below.refl wr.heap.size wr).drew)
            clear hs hsm HI
            go_wp2_with fail
            refine wp_region_in (fun y => Rin w g t F w2.heap.size (.slice (some ⟨b4, 0, none⟩) l.length c4) l Bs (.slice (some ⟨b6, 0, none⟩) sn.length c6) sn x0 k y) (by kernel_rfl) (by kernel_rfl) (hcl) ?_
            refine wpQuiet_plain rfl (fun K hK => ?_); go_simp; refine hK _ ?_; clear hK K
            refine wpQuiet_plain rfl (fun K hK => ?_); go_simp; refine hK _ ?_; clear hK K
            refine wpQuiet_plain rfl (fun K hK => ?_); go_simp; refine hK _ ?_; clear hK K
            refine wpQuiet_load rfl 3 (.tmp 49) rfl _ (.int .i64 s) rfl (fun y hy => load_num13 (HSC.out y hy)) ?_; simp only [Act.put, Array.setIfInBounds, List.size_toArray, List.length_cons, List.length_nil, Nat.reduceAdd, Nat.reduceLT, ↓reduceDIte, List.set_toArray, List.set_cons_succ, List.set_cons_zero]
            refine wpQuiet_plain rfl (fun K hK => ?_); go_simp; refine hK _ ?_; clear hK K
            refine wpQuiet_plain rfl (fun K hK => ?_); go_simp; refine hK _ ?_; clear hK K
            refine wpQuiet_plain rfl (fun K hK => ?_); go_simp; refine hK _ ?_; clear hK K
            refine wpQuiet_load rfl 3 (.tmp 53) rfl _ (.int .i64 x0) rfl (fun y hy => load_num13 (HX.out y hy.wai)) ?_; simp only [Act.put, Array.setIfInBounds, List.size_toArray, List.length_cons, List.length_nil, Nat.reduceAdd, Nat.reduceLT, ↓reduceDIte, List.set_toArray, List.set_cons_succ, List.set_cons_zero]
            refine wpQuiet_plain rfl (fun K hK => ?_); go_simp; refine hK _ ?_; clear hK K
            refine wpQuiet_nil ?_
            intro y hy
            have HY := hide hy
            have c0 := HSC.out y hy
            have HBH := hide (kbehind hy.wai.tab.tab (by omega) s)
            clear hy hcl hsx
            go_wp2_with fail
            refine HBH.out.mono ?_
            rintro e w7 ⟨v7, rfl, hO7, hb7⟩
            have HUN := hide (HY.out.more hk1 HSM.out hO7 hb7)
            clear hO7 hb7 HBH c0
            go_wp2_with fail
            refine HUN.out.mono ?_
            rintro e w8 ⟨v8, l8, rfl, hR8⟩
            obtain ⟨a8, c8, rfl⟩ := hR8.seen.shape
            have H8 := hide hR8
            clear hR8 HUN
            go_wp2
            go_roundw
            case rel => exact ⟨a8, c8, l8, k + 1, by omega, rfl, by go_num, H8⟩
            case measure => simp [intOf]; omega
          · have j2 : ¬ (k : Int) ≤ 100 := by omega
            have HE := hide HI.out.wai
            go_wp2
            go_roundw
            case rel => exact ⟨i + 1, by omega, by go_num, HE⟩
            case measure => simp [intOf]; omega
        · have j1 : ¬ (k : Int) < (sn.length : Int) := by omega
          have HE := hide HI.out.wai
          go_wp2
          go_roundw
          case rel => exact ⟨i + 1, by omega, by go_num, HE⟩
          case measure => simp [intOf]; omega
    · have i1 : ¬ (i : Int) < (l.length : Int) := by omega
      have HE := hide HR.out.tab.bel
      go_wp2
      go_ret
      exact ⟨rfl, HE.out⟩
end Go.Proofs.Ytmlbghloddiflaa.lockRings
