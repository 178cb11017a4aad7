/-
  The walk of LsnLists: where the lists are of bulk at most 1048576 it returns true, and turns nothing that was there.
-/
import Derived.Test.YtonbfckloicgaaaLsnAwake
import Derived.Test.YtonbfckloicgaaaLsnRef
import Derived.Test.YtonbfckloicgaaaLsnRefRises
import Derived.OpenShut
import Derived.Deep.RegionHeld3
import Derived.Laws.AppendOwnNone
import Derived.WalkSmall
import Derived.Deep.QuietTactic
import Derived.BigQuiet
namespace Go.Proofs.Ytonbfckloicgaaa.lsnLists
open Go.RowKit
set_option linter.unusedVariables false

/-- Numbers as cells. -/
def toU (zs : List Nat) : List Value := zs.map fun (z : Nat) => Value.int .u64 (z : Int)
theorem toU_length (zs : List Nat) : (toU zs).length = zs.length := by simp [toU]
theorem toU_append (a b : List Nat) : toU a ++ toU b = toU (a ++ b) := by simp [toU]
theorem toU_one (zs : List Nat) : ∀ v ∈ toU zs, v.oneCell' = true := by
  intro v hv
  obtain ⟨b, _, rfl⟩ := List.mem_map.1 hv
  rfl
theorem toU_get (zs : List Nat) (j : Nat) (h : j < zs.length) : (toU zs)[j]? = some (.int .u64 (zs.getD j 0 : Nat)) := by
  simp [toU, List.getD, List.getElem?_eq_getElem h]
theorem shape_isU {w : World} {base n : Nat} {e : TypeId} {v : Value} {zs : List Nat} (hz : ∀ z ∈ zs, z < 18446744073709551616) (h : w.ownsRow base e 1 v n (toU zs)) : ∃ a cap, v = .slice a n cap ∧ IsU w a n zs := by
  have hl : zs.length = n := by
    have := h.1
    rw [toU_length] at this
    omega
  rcases h.2 with ⟨rfl, rfl⟩ | ⟨g, cap, cur, rfl, _, _, hn, _⟩
  · exact ⟨none, 0, rfl, hl, hz, fun h => absurd h (by omega)⟩
  · refine ⟨_, cap, rfl, hl, hz, fun _ => ⟨g, 0, rfl, (h.lt g rfl).2, fun j hj => ?_⟩⟩
    rw [Nat.zero_add, h.cellAt j (by omega), toU_get zs j (by omega)]

/-- A list that came in, put behind an own one. -/
theorem wpList_append_u {P : Program} (w : World) {ops : Array Oper} {rest : List Oper} {o : Oper} {a : Act} {Q : Exit → Act → World → Prop} (hgd : o.guard = none) (s x : Operand) (t : TypeId)
    (ho : o.op = .call { callee := .builtin .append, args := #[s, x], argTypes := #[t, t] })
    (base : Nat) (e : TypeId) (ht : P.underlying t = some (.slice e)) (hi : (P.info? e).map (fun i => (i.zero, i.size, i.bytes)) = some (some (.int .u64 0), 1, 8))
    (v : Value) (n : Nat) (ys : List Nat) (hs : a.eval s = v) (hown : w.ownsRow base e 1 v n (toU ys))
    (ad : Option Addr) (m c : Nat) (zs : List Nat) (hx : a.eval x = .slice ad m c) (hU : IsU w ad m zs) (hn : ad = none → c = 0)
    (hm : n + m ≤ 2097152) (hbase : base ≤ w.heap.size)
    (h : ∀ v' w', w'.ownsRow base e 1 v' (n + m) (toU (ys ++ zs)) → w.grownBy w' v.ownBlock → wpList P ops Q rest (a.put o.dst v') w') : wpList P ops Q (o :: rest) a w := by
  obtain ⟨i, hi0, hi1⟩ := Option.map_eq_some_iff.1 hi
  simp only [Prod.mk.injEq] at hi1
  cases ad with
  | none =>
    obtain rfl := hn rfl
    have hm0 : m = 0 := by
      rcases Nat.eq_zero_or_pos m with h0 | h0
      · exact h0
      · obtain ⟨b, off, hb, _⟩ := hU.2.2 h0
        cases hb
    subst hm0
    obtain rfl : zs = [] := List.eq_nil_of_length_eq_zero hU.1
    exact wpList_append_own_none hgd s x t ho base e i 1 ht hi0 v n (toU ys) hs hown hx (h v w (by simpa using hown) ⟨rfl, rfl, rfl, Nat.le_refl _, fun _ _ _ => rfl⟩)
  | some ad =>
    refine wpList_append_own w hgd s x t ho base e i (.int .u64 0) 1 8 ht hi0 hi1.1 hi1.2.1 hi1.2.2 rfl (by omega) v n (toU ys) hs hown ad m c (toU zs) hx (by rw [toU_length, hU.1, Nat.mul_one]) ?_ (toU_one zs) (by unfold maxLen; omega) (by omega) hbase (fun v' w' h1 h2 _ => h v' w' (by rw [← toU_append]; exact h1) h2)
    intro j u hu
    have hj : j < zs.length := by
      have := (List.getElem?_eq_some_iff.1 hu).1
      rwa [toU_length] at this
    rw [toU_get zs j hj] at hu
    obtain rfl := Option.some.inj hu
    obtain ⟨b, off, hb, _, hc⟩ := hU.2.2 (by have := hU.1; omega)
    cases hb
    rw [Addr.add_lit]
    exact hc j (by have := hU.1; omega)

/-- Both lists, one behind the other. -/
def meet (a b : List Nat) : Bool := decide (a.length = 0 ∨ b.length = 0 ∨ a.getD (a.length - 1) 0 < b.getD 0 0)
theorem getD_left (a b : List Nat) (k : Nat) (h : k < a.length) : (a ++ b).getD k 0 = a.getD k 0 := by simp [List.getD, List.getElem?_append_left h]
theorem getD_right (a b : List Nat) (k : Nat) (h : a.length ≤ k) : (a ++ b).getD k 0 = b.getD (k - a.length) 0 := by simp [List.getD, List.getElem?_append_right h]
theorem rises_append (a b : List Nat) : rises (a ++ b) = (rises a && (rises b && meet a b)) := by
  rw [Bool.eq_iff_iff, Bool.and_eq_true, Bool.and_eq_true, rises_iff, rises_iff, rises_iff, meet, decide_eq_true_iff, List.length_append]
  constructor
  · intro h
    refine ⟨fun k h1 h2 => ?_, fun k h1 h2 => ?_, ?_⟩
    · have := h k h1 (by omega)
      rwa [getD_left a b _ (by omega), getD_left a b _ (by omega)] at this
    · have := h (a.length + k) (by omega) (by omega)
      rw [getD_right a b _ (by omega), getD_right a b _ (by omega)] at this
      have e1 : a.length + k - 1 - a.length = k - 1 := by omega
      have e2 : a.length + k - a.length = k := by omega
      rwa [e1, e2] at this
    · by_cases ha : a.length = 0
      · exact .inl ha
      by_cases hb : b.length = 0
      · exact .inr (.inl hb)
      have := h a.length (by omega) (by omega)
      rw [getD_left a b _ (by omega), getD_right a b _ (by omega), Nat.sub_self] at this
      exact .inr (.inr this)
  · rintro ⟨ha, hb, hm⟩ k h1 h2
    by_cases c1 : k < a.length
    · rw [getD_left a b _ (by omega), getD_left a b _ (by omega)]
      exact ha k h1 c1
    by_cases c2 : k = a.length
    · subst c2
      rw [getD_left a b _ (by omega), getD_right a b _ (by omega), Nat.sub_self]
      rcases hm with h | h | h
      · omega
      · omega
      · exact h
    · rw [getD_right a b _ (by omega), getD_right a b _ (by omega)]
      have := hb (k - a.length) (by omega) (by omega)
      have e : k - a.length - 1 = k - 1 - a.length := by omega
      rwa [e] at this

theorem meet_yes (a b : List Nat) (h : a.length = 0 ∨ b.length = 0 ∨ a.getD (a.length - 1) 0 < b.getD 0 0) : rises (a ++ b) = (rises a && (rises b && true)) := by
  rw [rises_append, meet, decide_eq_true h]
theorem meet_no (a b : List Nat) (h : meet a b = false) : rises (a ++ b) = (rises a && (rises b && false)) := by
  rw [rises_append, h]
theorem info64 : (Try.prog.info? 22).map (fun i => (i.zero, i.size, i.bytes)) = some (some (.int .u64 0), 1, 8) := by kernel_rfl

theorem own_nil (w : World) : (w.alloc (.cells #[] 22)).ownsRow w.heap.size 22 1 (.slice (some ⟨w.heap.size, 0, none⟩) 0 0) 0 (toU []) :=
  ⟨rfl, .inr ⟨w.heap.size, 0, #[], rfl, Nat.le_refl _, heap_alloc_new w _, Nat.le_refl _, Nat.zero_le _, rfl, rfl⟩⟩
theorem own_block {w : World} {base n B : Nat} {e : TypeId} {v : Value} {xs : List Value} (h : w.ownsRow base e 1 v n xs) (hB : B ≤ base) : ∀ k, v.ownBlock = some k → B ≤ k := by
  intro k hk
  rcases h.2 with ⟨rfl, _⟩ | ⟨g, cap, cur, rfl, hg, _⟩
  · simp [Value.ownBlock] at hk
  · simp [Value.ownBlock] at hk
    omega
theorem all_app {w w' : World} {a b : Option Addr} {la lb : Nat} {za zb : List Nat} (ha : IsU w a la za) (hb : IsU w' b lb zb) : ∀ z ∈ za ++ zb, z < 18446744073709551616 := by
  intro z hz
  rcases List.mem_append.1 hz with h | h
  · exact ha.2.1 z h
  · exact hb.2.1 z h

set_option maxRecDepth 4000 in
set_option maxHeartbeats 6400000 in
theorem core (aa ab : Option Addr) (la ca lb cb : Nat) (za zb : List Nat) (w : World) (hUa : IsU w aa la za) (hUb : IsU w ab lb zb) (hna : aa = none → ca = 0) (hnb : ab = none → cb = 0) (hla : la ≤ 1048576) (hlb : lb ≤ 1048576) :
    Calls Try.prog 7 #[.slice aa la ca, .slice ab lb cb] w fun e w' => e = .returned (.bool true) ∧ Below w.heap.size w w' := by
  have HA := hideL hUa
  have HB := hideL hUb
  clear hUa hUb
  go_enter Try.func7, Try.ntmps7
  go_wp2_with fail
  refine (awake_any _).mono ?_
  rintro e w1 ⟨rfl, hb1⟩
  go_wp2_with fail
  refine (rises_any aa la ca za w1 (HA.out.below hb1) (by omega)).mono ?_
  rintro e w2 ⟨rfl, hb2⟩
  have c2 := hb1.trans (hb2.mono hb1.size)
  clear hb1 hb2
  go_wp2_with fail
  refine (rrises_any aa la ca za w2 (HA.out.below c2) (by omega)).mono ?_
  rintro e w3 ⟨rfl, k3, rfl⟩
  have c3 := below_drewN c2 k3
  clear c2
  generalize w2.drewN k3 = w3 at c3 ⊢
  go_wp2_with fail
  refine (rises_any ab lb cb zb w3 (HB.out.below c3) (by omega)).mono ?_
  rintro e w4 ⟨rfl, hb4⟩
  have c4 := c3.trans (hb4.mono c3.size)
  clear c3 hb4
  go_wp2_with fail
  refine (rrises_any ab lb cb zb w4 (HB.out.below c4) (by omega)).mono ?_
  rintro e w5 ⟨rfl, k5, rfl⟩
  have c5 := below_drewN c4 k5
  clear c4
  generalize w4.drewN k5 = w5 at c5 ⊢
  have c5' := c5.alloc c5.size (.cells #[] 22)
  go_wp2_with (at_builtin; refine wpList_append_u _ rfl (.tmp 21) (.tmp 22) 47 rfl w5.heap.size 22 Try.underlying47 info64 _ 0 [] rfl (own_nil w5) aa la ca za rfl (HA.out.below c5') hna (by omega) (by simp) ?_)
  intro v6 w6 hown6 hgr6
  have c6 := c5'.grown hgr6 c5'.size (by intro k hk; simp [Value.ownBlock] at hk; have := c5.size; omega)
  have hsz6 : w5.heap.size ≤ w6.heap.size := Nat.le_trans (by simp) hgr6.size
  clear hgr6 c5'
  obtain ⟨a6, cap6, rfl, hU6⟩ := shape_isU HA.out.2.1 hown6
  clear hU6
  go_wp2_with (at_builtin; refine wpList_append_u _ rfl (.tmp 23) (.tmp 24) 47 rfl w5.heap.size 22 Try.underlying47 info64 (.slice a6 la cap6) la za rfl hown6 ab lb cb zb rfl (HB.out.below c6) hnb (by omega) hsz6 ?_)
  intro v7 w7 hown7 hgr7
  have c7 := c6.grown hgr7 c6.size (own_block hown6 c5.size)
  obtain ⟨a7, cap7, rfl, hU7⟩ := shape_isU (all_app HA.out HB.out) hown7
  have HU := hideL hU7
  clear hgr7 hown6 hown7 hsz6 c5 c6 hU7
  have hA1 := HA.out.1
  have hB1 := HB.out.1
  by_cases h0 : la = 0
  · have HE := hideL (meet_yes za zb (.inl (by omega)))
    have h0' : (la : Int) = 0 := by omega
    go_wp2_with fail
    go_quiet (fail)
    have c8 := below_drewN c7 nq
    have hU8 := HU.out.below (below_drewN (Below.refl _ _) nq)
    generalize w7.drewN nq = w8 at c8 hU8 ⊢
    clear c7 HU h0 h0' hA1 hB1
    go_wp2_with fail
    refine (rises_any a7 (la + lb) cap7 (za ++ zb) w8 hU8 (by omega)).mono ?_
    rintro e w9 ⟨rfl, hb9⟩
    have c9 := c8.trans (hb9.mono c8.size)
    rw [HE.out]
    clear c8 hb9 hU8 HE
    go_wp2_with fail
    refine (rises_any aa la ca za w9 (HA.out.below c9) (by omega)).mono ?_
    rintro e wA ⟨rfl, hbA⟩
    have cA := c9.trans (hbA.mono c9.size)
    clear c9 hbA
    have R := fun w h => rises_any ab lb cb zb w h (by omega)
    have HR := hideL R
    clear R
    generalize rises za = ra
    generalize rises zb = rb at HR ⊢
    cases ra
    · go_wp2
      go_ret
      exact ⟨rfl, cA⟩
    · go_wp2_with fail
      refine (HR.out wA (HB.out.below cA)).mono ?_
      rintro e wB ⟨rfl, hbB⟩
      have cB := cA.trans (hbB.mono cA.size)
      clear HR hbB cA
      cases rb
      · go_wp2
        go_ret
        exact ⟨rfl, cB⟩
      · go_wp2
        go_ret
        exact ⟨rfl, cB⟩
  by_cases h1 : lb = 0
  · have HE := hideL (meet_yes za zb (.inr (.inl (by omega))))
    have h1' : (lb : Int) = 0 := by omega
    have h0' : ((la : Int) == 0) = false := by simp; omega
    go_wp2_with fail
    go_quiet (fail)
    have c8 := below_drewN c7 nq
    have hU8 := HU.out.below (below_drewN (Below.refl _ _) nq)
    generalize w7.drewN nq = w8 at c8 hU8 ⊢
    clear c7 HU h0 h0' h1 h1' hA1 hB1
    go_wp2_with fail
    refine (rises_any a7 (la + lb) cap7 (za ++ zb) w8 hU8 (by omega)).mono ?_
    rintro e w9 ⟨rfl, hb9⟩
    have c9 := c8.trans (hb9.mono c8.size)
    rw [HE.out]
    clear c8 hb9 hU8 HE
    go_wp2_with fail
    refine (rises_any aa la ca za w9 (HA.out.below c9) (by omega)).mono ?_
    rintro e wA ⟨rfl, hbA⟩
    have cA := c9.trans (hbA.mono c9.size)
    clear c9 hbA
    have R := fun w h => rises_any ab lb cb zb w h (by omega)
    have HR := hideL R
    clear R
    generalize rises za = ra
    generalize rises zb = rb at HR ⊢
    cases ra
    · go_wp2
      go_ret
      exact ⟨rfl, cA⟩
    · go_wp2_with fail
      refine (HR.out wA (HB.out.below cA)).mono ?_
      rintro e wB ⟨rfl, hbB⟩
      have cB := cA.trans (hbB.mono cA.size)
      clear HR hbB cA
      cases rb
      · go_wp2
        go_ret
        exact ⟨rfl, cB⟩
      · go_wp2
        go_ret
        exact ⟨rfl, cB⟩
  have h0' : ((la : Int) == 0) = false := by simp; omega
  have h1' : ((lb : Int) == 0) = false := by simp; omega
  have h2' : (1 : Int) ≤ (la : Int) := by omega
  obtain ⟨ba, oa, rfl, hba, hca⟩ := HA.out.2.2 (by omega)
  obtain ⟨bb, ob, rfl, hbb, hcb⟩ := HB.out.2.2 (by omega)
  have k1 : w7.cell? ⟨ba, oa + (la - 1), none⟩ = some (.int .u64 (za.getD (la - 1) 0 : Nat)) := (c7.cell (p := ⟨ba, oa + (la - 1), none⟩) hba).trans (hca (la - 1) (by omega))
  have k2 : w7.cell? ⟨bb, ob, none⟩ = some (.int .u64 (zb.getD 0 0 : Nat)) := (c7.cell (p := ⟨bb, ob, none⟩) hbb).trans (hcb 0 (by omega))
  have E : meet za zb = decide (za.getD (la - 1) 0 < zb.getD 0 0) := by
    unfold meet
    rw [hA1, hB1]
    simp [h0, h1]
  clear hca hcb
  by_cases h3 : za.getD (la - 1) 0 < zb.getD 0 0
  · have HE := hideL (meet_yes za zb (.inr (.inr (by rw [hA1]; exact h3))))
    have h4 : ((za.getD (la - 1) 0 : Nat) : Int) < ((zb.getD 0 0 : Nat) : Int) := by omega
    clear E
    generalize za.getD (la - 1) 0 = x at k1 h3 h4
    generalize zb.getD 0 0 = y at k2 h3 h4
    go_wp2_with fail
    go_quiet (fail)
    have c8 := below_drewN c7 nq
    have hU8 := HU.out.below (below_drewN (Below.refl _ _) nq)
    generalize w7.drewN nq = w8 at c8 hU8 ⊢
    clear c7 HU k1 k2 h3 h4 h0 h0' h1 h1' h2' hA1 hB1
    go_wp2_with fail
    refine (rises_any a7 (la + lb) cap7 (za ++ zb) w8 hU8 (by omega)).mono ?_
    rintro e w9 ⟨rfl, hb9⟩
    have c9 := c8.trans (hb9.mono c8.size)
    rw [HE.out]
    clear c8 hb9 hU8 HE
    go_wp2_with fail
    refine (rises_any (some ⟨ba, oa, none⟩) la ca za w9 (HA.out.below c9) (by omega)).mono ?_
    rintro e wA ⟨rfl, hbA⟩
    have cA := c9.trans (hbA.mono c9.size)
    clear c9 hbA
    have R := fun w h => rises_any (some ⟨bb, ob, none⟩) lb cb zb w h (by omega)
    have HR := hideL R
    clear R
    generalize rises za = ra
    generalize rises zb = rb at HR ⊢
    cases ra
    · go_wp2
      go_ret
      exact ⟨rfl, cA⟩
    · go_wp2_with fail
      refine (HR.out wA (HB.out.below cA)).mono ?_
      rintro e wB ⟨rfl, hbB⟩
      have cB := cA.trans (hbB.mono cA.size)
      clear HR hbB cA
      cases rb
      · go_wp2
        go_ret
        exact ⟨rfl, cB⟩
      · go_wp2
        go_ret
        exact ⟨rfl, cB⟩
  · have HE := hideL (meet_no za zb (E.trans (decide_eq_false h3)))
    have h4 : ¬ ((za.getD (la - 1) 0 : Nat) : Int) < ((zb.getD 0 0 : Nat) : Int) := by omega
    clear E
    generalize za.getD (la - 1) 0 = x at k1 h3 h4
    generalize zb.getD 0 0 = y at k2 h3 h4
    go_wp2_with fail
    go_quiet (fail)
    have c8 := below_drewN c7 nq
    have hU8 := HU.out.below (below_drewN (Below.refl _ _) nq)
    generalize w7.drewN nq = w8 at c8 hU8 ⊢
    clear c7 HU k1 k2 h3 h4 h0 h0' h1 h1' h2' hA1 hB1
    go_wp2_with fail
    refine (rises_any a7 (la + lb) cap7 (za ++ zb) w8 hU8 (by omega)).mono ?_
    rintro e w9 ⟨rfl, hb9⟩
    have c9 := c8.trans (hb9.mono c8.size)
    rw [HE.out]
    clear c8 hb9 hU8 HE
    go_wp2_with fail
    refine (rises_any (some ⟨ba, oa, none⟩) la ca za w9 (HA.out.below c9) (by omega)).mono ?_
    rintro e wA ⟨rfl, hbA⟩
    have cA := c9.trans (hbA.mono c9.size)
    clear c9 hbA
    have R := fun w h => rises_any (some ⟨bb, ob, none⟩) lb cb zb w h (by omega)
    have HR := hideL R
    clear R
    generalize rises za = ra
    generalize rises zb = rb at HR ⊢
    cases ra
    · go_wp2
      go_ret
      exact ⟨rfl, cA⟩
    · go_wp2_with fail
      refine (HR.out wA (HB.out.below cA)).mono ?_
      rintro e wB ⟨rfl, hbB⟩
      have cB := cA.trans (hbB.mono cA.size)
      clear HR hbB cA
      cases rb
      · go_wp2
        go_ret
        exact ⟨rfl, cB⟩
      · go_wp2
        go_ret
        exact ⟨rfl, cB⟩

theorem walk (a b : Option Addr × Nat × Nat × List Nat) (w : World) (w0a : a.2.1 ≤ 1048576) (w0b : a.1 = none → a.2.2.1 = 0) (w0c : IsU w a.1 a.2.1 a.2.2.2) (w1a : b.2.1 ≤ 1048576) (w1b : b.1 = none → b.2.2.1 = 0) (w1c : IsU w b.1 b.2.1 b.2.2.2) :
    Calls Try.prog 7 #[.slice a.1 a.2.1 a.2.2.1, .slice b.1 b.2.1 b.2.2.1] w fun e w' => e = .returned (.bool true) ∧ Below w.heap.size w w' :=
  core a.1 b.1 a.2.1 a.2.2.1 b.2.1 b.2.2.1 a.2.2.2 b.2.2.2 w w0c w1c w0b w1b w0a w1a
end Go.Proofs.Ytonbfckloicgaaa.lsnLists
