/-
  Those who wait for one thing, one behind the other: what LockRows asks; the contract of the statements' ints.
-/
import Derived.Test.YtmlbghloddiflaaLkPlayed
namespace Go.Proofs.Ytmlbghloddiflaa
open Go.RowKit
set_option linter.unusedVariables false

/-- Those of the modes that are right, as they wait. -/
def rowL (x : Int) : Nat → List Int → List Hd
  | _, [] => []
  | i, m :: ms => if rgt m = true then ⟨(i : Int) + 2, x, m⟩ :: rowL x (i + 1) ms else rowL x (i + 1) ms
theorem rowL_cons (x : Int) (i : Nat) (m : Int) (ms : List Int) : rowL x i (m :: ms) = if rgt m = true then ⟨(i : Int) + 2, x, m⟩ :: rowL x (i + 1) ms else rowL x (i + 1) ms := rfl
theorem rowL_append (x : Int) : ∀ (a b : List Int) (i : Nat), rowL x i (a ++ b) = rowL x i a ++ rowL x (i + a.length) b
  | [], b, i => by simp [rowL]
  | m :: a, b, i => by
    have e : i + (m :: a).length = i + 1 + a.length := by simp only [List.length_cons]; omega
    rw [e, List.cons_append, rowL_cons, rowL_cons, rowL_append x a b (i + 1)]
    split <;> rfl
theorem rowL_mem (x : Int) : ∀ (l : List Int) (i : Nat) {h : Hd}, h ∈ rowL x i l → h.x = x ∧ (i : Int) + 2 ≤ h.w ∧ h.w < (i : Int) + l.length + 2
  | [], i, h, hh => absurd hh (by simp [rowL])
  | m :: l, i, h, hh => by
    unfold rowL at hh
    simp only [List.length_cons]
    split at hh
    · rcases List.mem_cons.1 hh with rfl | hh
      · exact ⟨rfl, by show (i : Int) + 2 ≤ (i : Int) + 2; omega, by show (i : Int) + 2 < _; omega⟩
      · have := rowL_mem x l (i + 1) hh
        exact ⟨this.1, by omega, by omega⟩
    · have := rowL_mem x l (i + 1) hh
      exact ⟨this.1, by omega, by omega⟩
theorem rowL_pair (x : Int) : ∀ (l : List Int) (i : Nat), (rowL x i l).Pairwise fun a b => a.w ≠ b.w
  | [], i => List.Pairwise.nil
  | m :: l, i => by
    unfold rowL
    split
    · refine List.pairwise_cons.2 ⟨fun q hq e => ?_, rowL_pair x l (i + 1)⟩
      have := rowL_mem x l (i + 1) hq
      have e : (i : Int) + 2 = q.w := e
      omega
    · exact rowL_pair x l (i + 1)
theorem rowL_snoc (x : Int) (l : List Int) (j : Nat) (m : Int) (h : l[j]? = some m) : rowL x 0 (l.take (j + 1)) = rowL x 0 (l.take j) ++ if rgt m = true then [⟨(j : Int) + 2, x, m⟩] else [] := by
  obtain ⟨hj, rfl⟩ := List.getElem?_eq_some_iff.1 h
  rw [List.take_succ_eq_append_getElem hj, rowL_append]
  congr 1
  have e : 0 + (l.take j).length = j := by rw [List.length_take]; omega
  rw [e]
  unfold rowL
  split <;> rfl
theorem wt_none_of {l : List Hd} {w : Int} (h : ∀ k ∈ l, k.w ≠ w) : wtL l w = none := by
  cases e : wtL l w with
  | none => rfl
  | some k => exact absurd (wt_some e).2 (h k (wt_some e).1)
theorem fit5 {m : Int} (hm : rgt m = true) : fit 5 m = false := by
  unfold rgt at hm
  simp only [Bool.and_eq_true, decide_eq_true_eq] at hm
  have h : m = 1 ∨ m = 2 ∨ m = 3 ∨ m = 4 ∨ m = 5 := by omega
  rcases h with rfl | rfl | rfl | rfl | rfl <;> decide
section
variable {x : Int}
theorem rows_first (hx : 0 ≤ x ∧ x < 288) : (⟨[], []⟩ : Tb).request 1 x 5 = (⟨[⟨1, x, 5⟩], []⟩, 0) := by
  have h0 : (⟨[], []⟩ : Tb).at 1 x = 0 := rfl
  have hw : (⟨[], []⟩ : Tb).wt 1 = none := rfl
  have hf : ∀ m, (⟨[], []⟩ : Tb).fits 1 x m = true := fun m => rfl
  have hq : (⟨[], []⟩ : Tb).que x = [] := rfl
  have hr := req_give (t := ⟨[], []⟩) (w := 1) (x := x) (m := 5) (args_ok ⟨by omega, by omega⟩ hx (show rgt 5 = true from by decide)) hw (fun e => e.1 h0) ⟨hf _, .inr hq⟩
  have ha : (⟨[], []⟩ : Tb).asks 1 x 5 = ⟨1, x, 5⟩ := by
    unfold Tb.asks Tb.want
    rw [if_neg (fun e => e h0)]
  rw [hr, ha]
  rfl
theorem rows_next (hx : 0 ≤ x ∧ x < 288) {R : List Hd} {i : Nat} (hi : i ≤ 1000) (hR : ∀ h ∈ R, h.w < (i : Int) + 2) {m : Int} (hm : rgt m = true) : (⟨[⟨1, x, 5⟩], R⟩ : Tb).request ((i : Int) + 2) x m = (⟨[⟨1, x, 5⟩], R ++ [⟨(i : Int) + 2, x, m⟩]⟩, 12) := by
  have ha := args_ok (w := (i : Int) + 2) ⟨by omega, by omega⟩ hx hm
  simp only [Bool.and_eq_true] at ha
  refine request_last ha.1.1 ha.1.2 hm (fun h hh e => ?_) (wt_none_of (fun k hk e => by have := hR k hk; omega)) ?_
  · rw [List.mem_singleton.1 hh] at e
    have e : (1 : Int) = (i : Int) + 2 := e
    omega
  · show (((decide (x ≠ x) || decide ((1 : Int) = (i : Int) + 2)) || fit 5 m) && true) = false
    rw [fit5 hm]
    have h1 : decide ((1 : Int) = (i : Int) + 2) = false := by simp; omega
    simp [h1]
theorem rows_bad {R : List Hd} {i : Nat} {m : Int} (hm : rgt m = false) : (⟨[⟨1, x, 5⟩], R⟩ : Tb).request ((i : Int) + 2) x m = (⟨[⟨1, x, 5⟩], R⟩, 1) := req_arg (fun h => by rw [hm] at h; exact absurd h.2.2 (by simp))
end
theorem freeAll_cons (v : Int) (l : List Int) (t : Tb) : freeAll (v :: l) t = ((freeAll l (t.free v).1).1, (t.free v).2 ++ (freeAll l (t.free v).1).2) := rfl
theorem freeAll_snoc (l : List Int) (w : Int) : ∀ t : Tb, freeAll (l ++ [w]) t = (((freeAll l t).1.free w).1, (freeAll l t).2 ++ ((freeAll l t).1.free w).2) := by
  induction l with
  | nil =>
    intro t
    rw [List.nil_append, freeAll_cons]
    simp only [freeAll, List.append_nil, List.nil_append]
  | cons v l ih =>
    intro t
    rw [List.cons_append, freeAll_cons, freeAll_cons, ih]
    simp only [List.append_assoc]
/-- No block of a table holds numbers alone. -/
theorem Kt.kind {w : World} {g : Nat} {t : Tb} {N : Nat} {F : Nat → Prop} (h : Kt w g t N F) {k : Nat} {cs : Array Value} (hr : RowAt w k 3 cs) : ¬ F k := fun hf => by
  obtain ⟨p, S, h1, _, _, rfl⟩ := h
  obtain ⟨t', cs', h2, h3⟩ := h1.kind hf
  have := row_kind hr h2
  rcases h3 with rfl | rfl
  · exact absurd this (by decide)
  · exact absurd this (by decide)
theorem OwnI.kt {B : Nat} {w y : World} {g : Nat} {t : Tb} {N : Nat} {F : Nat → Prop} {v : Value} {l : List Int} (h : OwnI B w v l) (hk : Kt w g t N F) (q : Tn F w y) : OwnI B y v l := h.turned q (fun k hf e => by
  obtain ⟨_, cs, h1⟩ := h.block e
  exact hk.kind h1 hf)
/-- Numbers in a row from a place on. -/
structure RowS (y : World) (b off c : Nat) (l : List Int) : Prop where
  row : ∃ cs, RowAt y b 3 cs
  cell : ∀ j, j < l.length → y.cell? ⟨b, off + j, none⟩ = some (.int .i64 (l.getD j 0))
  cap : l.length ≤ c ∧ c ≤ maxLen
theorem RowS.keep {y z : World} {b off c : Nat} {l : List Int} (h : RowS y b off c l) (e : z.heap[b]? = y.heap[b]?) : RowS z b off c l := by
  obtain ⟨cs, hr⟩ := h.row
  exact ⟨⟨cs, e.trans hr⟩, fun j hj => (World.cell?_of_block (a := ⟨b, off + j, none⟩) e).trans (h.cell j hj), h.cap⟩
theorem RowS.later {y z : World} {b off c : Nat} {l : List Int} (h : RowS y b off c l) (q : Below y.heap.size y z) : RowS z b off c l := by
  obtain ⟨cs, hr⟩ := h.row
  exact h.keep (q.block b hr.lt)
theorem RowS.kt {w y : World} {g : Nat} {t : Tb} {N : Nat} {F : Nat → Prop} {b off c : Nat} {l : List Int} (h : RowS w b off c l) (hk : Kt w g t N F) (q : Tn F w y) : RowS y b off c l := by
  obtain ⟨cs, hr⟩ := h.row
  exact h.keep (q.block b hr.lt (hk.kind hr))
theorem RowS.drop {y : World} {b off c : Nat} {l : List Int} (h : RowS y b off c l) (n : Nat) (hn : n ≤ l.length) : RowS y b (off + n) (c - n) (l.drop n) := by
  refine ⟨h.row, fun j hj => ?_, ?_⟩
  · rw [List.length_drop] at hj
    have := h.cell (n + j) (by omega)
    rw [show off + n + j = off + (n + j) by omega, this, List.getD_eq_getElem?_getD, List.getD_eq_getElem?_getD, List.getElem?_drop]
  · rw [List.length_drop]
    have := h.cap
    unfold maxLen at *
    omega
theorem OwnI.rowS {B : Nat} {y : World} {a : Option Addr} {m c : Nat} {l : List Int} (h : OwnI B y (.slice a m c) l) (hl : 0 < l.length) : ∃ b, a = some ⟨b, 0, none⟩ ∧ RowS y b 0 c l := by
  obtain ⟨b, rfl, _⟩ := h.at hl
  refine ⟨b, rfl, ?_, fun j hj => ?_, ?_⟩
  · obtain ⟨_, cs, h1⟩ := h.block (k := b) rfl
    exact ⟨cs, h1⟩
  · obtain ⟨b', e, h1⟩ := h.at hj
    injection e with e
    injection e with e
    subst e
    rw [Nat.zero_add]
    exact h1
  · rcases h.2 with ⟨e, _⟩ | ⟨g', cap, cur, e, _, _, hn, hm, _⟩
    · cases e
    · injection e with _ _ e3
      rw [e3]
      exact ⟨hn, hm⟩
theorem load_num13 {y : World} {b o : Nat} {m : Int} (h : y.cell? ⟨b, o, none⟩ = some (.int .i64 m)) : (Instr.loadAt 3 (.pointer (some ⟨b, o, none⟩))).run Try.prog y = .ok (.int .i64 m) y := by go_simp
set_option maxRecDepth 8000 in
set_option maxHeartbeats 1600000 in
theorem ints13 {x : World} {b1 o1 c1 b2 o2 c2 n : Nat} {l l2 : List Int} (h1 : RowS x b1 o1 c1 l) (h2 : RowS x b2 o2 c2 l2) (hn : l.length = n) (hn2 : n ≤ l2.length) (he : ∀ j, j < n → l.getD j 0 = l2.getD j 0) :
    Calls Try.prog 24 #[.slice (some ⟨b1, o1, none⟩) n c1, .slice (some ⟨b2, o2, none⟩) n c2] x fun e y => e = .returned (.bool true) ∧ Below x.heap.size x y := by
  have H := hide (And.intro h1 h2)
  have HE := hide he
  have HN := hide hn
  have hc1 := h1.cap
  have hc2 := h2.cap
  rw [hn] at hc1
  have hc3 : n ≤ c2 := by omega
  have hnn : n ≤ 9223372036854775807 := by have := hc1.2; unfold maxLen at this; omega
  clear h1 h2 he hn hc2
  go_enter Try.func24, Try.ntmps24
  go_wp2
  go_loopw [13] (fun q wr => ∃ j : Nat, j ≤ n ∧ q = .int .i64 j ∧ Hid (Below x.heap.size x wr)) (fun q _ => n - (intOf q).toNat)
  case atStart => exact ⟨0, Nat.zero_le _, rfl, Below.refl _ _⟩
  case round =>
    obtain ⟨j, hj, rfl, HR⟩ := hrel
    by_cases hlt : j < n
    · have i1 : (j : Int) < (n : Int) := by omega
      obtain ⟨a, ha⟩ : ∃ a, a = l.getD j 0 := ⟨_, rfl⟩
      have HL := hide (fun y (hy : Below x.heap.size x y) => show y.cell? ⟨b1, o1 + j, none⟩ = some (.int .i64 a) ∧ y.cell? ⟨b2, o2 + j, none⟩ = some (.int .i64 a) from by
        rw [ha]
        refine ⟨(H.out.1.later hy).cell j (by have := HN.out; omega), ?_⟩
        rw [HE.out j hlt]
        exact (H.out.2.later hy).cell j (by omega))
      have ea : (a != a) = false := by simp
      clear ha
      go_wp2_with fail
      refine wp_region_in (fun y => Below x.heap.size x y) (by kernel_rfl) (by kernel_rfl) (HR.out.drew) ?_
      refine wpQuiet_plain rfl (fun K hK => ?_); go_simp; refine hK _ ?_; clear hK K
      refine wpQuiet_plain rfl (fun K hK => ?_); go_simp; refine hK _ ?_; clear hK K
      refine wpQuiet_plain rfl (fun K hK => ?_); go_simp; refine hK _ ?_; clear hK K
      refine wpQuiet_load rfl 3 (.tmp 18) rfl _ (.int .i64 a) rfl (fun y hy => load_num13 (HL.out y hy).1) ?_; simp only [Act.put, Array.setIfInBounds, List.size_toArray, List.length_cons, List.length_nil, Nat.reduceAdd, Nat.reduceLT, ↓reduceDIte, List.set_toArray, List.set_cons_succ, List.set_cons_zero]
      refine wpQuiet_plain rfl (fun K hK => ?_); go_simp; refine hK _ ?_; clear hK K
      refine wpQuiet_plain rfl (fun K hK => ?_); go_simp; refine hK _ ?_; clear hK K
      refine wpQuiet_plain rfl (fun K hK => ?_); go_simp; refine hK _ ?_; clear hK K
      refine wpQuiet_load rfl 3 (.tmp 22) rfl _ (.int .i64 a) rfl (fun y hy => load_num13 (HL.out y hy).2) ?_; simp only [Act.put, Array.setIfInBounds, List.size_toArray, List.length_cons, List.length_nil, Nat.reduceAdd, Nat.reduceLT, ↓reduceDIte, List.set_toArray, List.set_cons_succ, List.set_cons_zero]
      refine wpQuiet_plain rfl (fun K hK => ?_); go_simp; refine hK _ ?_; clear hK K
      refine wpQuiet_nil ?_
      intro y hy
      have HY := hide hy
      clear hy HL HR
      go_wp2
      go_roundw
      case rel => exact ⟨j + 1, by omega, by go_num, HY⟩
      case measure => simp [intOf]; omega
    · have i1 : ¬ (j : Int) < (n : Int) := by omega
      go_wp2
      go_ret
      exact ⟨rfl, HR.out⟩
end Go.Proofs.Ytmlbghloddiflaa
