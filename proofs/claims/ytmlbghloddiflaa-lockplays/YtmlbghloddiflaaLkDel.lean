/-
  The contract of slices.Delete at locks.
-/
import Derived.Test.YtmlbghloddiflaaLkMem
import Derived.Lib.SliceRun
import Derived.Deep.RegionLaw
namespace Go.Proofs.Ytmlbghloddiflaa
open Go.RowKit
set_option linter.unusedVariables false

def zeroH : Array Value := #[.int .i64 0, .int .i64 0, .int .i64 0]
theorem zeros_one (n : Nat) : ∀ v ∈ (Builtin.zeroCells zeroH n).toList, v.oneCell' = true := by
  intro v hv
  simp only [Builtin.zeroCells, Array.toList_map, List.mem_map] at hv
  obtain ⟨i, _, rfl⟩ := hv
  have h : zeroH.size = 3 := rfl
  rw [h]
  have h2 : i % 3 < 3 := Nat.mod_lt _ (by decide)
  generalize i % 3 = j at h2
  have h3 : j = 0 ∨ j = 1 ∨ j = 2 := by omega
  rcases h3 with rfl | rfl | rfl <;> rfl
theorem zeros_len (n : Nat) : (Builtin.zeroCells zeroH n).toList.length = n * 3 := by
  simp [Builtin.zeroCells, show zeroH.size = 3 from rfl]
/-- 'clear' of locks. -/
theorem run_clear13 (w : World) (ty : TypeId) (b o n c : Nat) (hn : 0 < n) (hc : ∀ j, j < n * 3 → (w.cell? ⟨b, o + j, none⟩).isSome = true) (hf : ∀ j, w.frozen? ⟨b, j, none⟩ = false) :
    (Builtin.clear_ #[30] ty #[.slice (some ⟨b, o, none⟩) n c]).run Try.prog w = .ok (.tuple #[]) (w.setCells b o (Builtin.zeroCells zeroH n).toList) := by
  have hst := run_storeCells_cells (P := Try.prog) b o (Builtin.zeroCells zeroH n).toList 0 w (by rw [zeros_len]; simpa using hc) (fun j _ => by simpa using hf _) (zeros_one n)
  simp only [Nat.add_zero] at hst
  obtain ⟨m, rfl⟩ : ∃ m, n = m + 1 := ⟨n - 1, by omega⟩
  simp [Builtin.clear_, run_underlying (P := Try.prog) Try.underlying30]
  change ((Sem.run Try.prog (storeCells ⟨b, o, none⟩ (Builtin.zeroCells zeroH (m + 1)).toList) w).andThen fun a w' => Result.ok (Value.tuple #[]) w') = _
  rw [hst]
  rfl
/-- 'append' as one step of a region that draws its order, by what it answers. -/
theorem step_append_run {P : Program} {ops : Array Oper} {o : Oper} {a : Act} {w : World} {K : Act → World → Prop} {Q : Exit → Act → World → Prop} {E : Prop}
    (hg : o.guard = none) (d x : Operand) (t u : TypeId) (hop : o.op = Op.call { callee := Callee.builtin Builtin.append, args := #[d, x], argTypes := #[t, u] })
    (vd vx v' : Value) (w' : World) (hs : a.eval d = vd) (hx : a.eval x = vx) (hrun : (Builtin.append_ #[t, u] o.type #[vd, vx]).run P w = .ok v' w') (hK : K (a.put o.dst v') w') :
    if Region.wanted o (yielded ops a.tmps) = true then Oper.wp P o a w K Q else E := by
  have hw : Region.wanted o (yielded ops a.tmps) = true := by simp [Region.wanted, hg]
  rw [if_pos hw]
  unfold Oper.wp
  simp [execOp, hop, resolve, invoke, builtin, hs, hx, hrun, Result.andThen]
  exact hK
set_option maxRecDepth 4000 in
set_option maxHeartbeats 800000 in
theorem del13_same (s : Sl) (n i : Nat) (w : World) (hc : n ≤ s.c) (hi : i ≤ n) (hn : n ≤ 1000000) :
    Calls Try.prog 77 #[slV s n, .int .i64 (i : Int), .int .i64 (i : Int)] w fun e w' => e = .returned (slV s n) ∧ w = w' := by
  obtain ⟨o, c⟩ := s
  have i1 : (i : Int) ≤ (n : Int) := by omega
  have hc' : n ≤ c := hc
  have hni : n - i ≤ c := by omega
  cases o with
  | none =>
    show Calls _ _ #[.slice none n c, _, _] w fun e w' => e = .returned (.slice none n c) ∧ w = w'
    go_enter Try.func77, Try.ntmps77
    go_wp2
    all_goals
      go_ret
      exact ⟨rfl, rfl⟩
  | some a =>
    show Calls _ _ #[.slice (some ⟨a, 0, none⟩) n c, _, _] w fun e w' => e = .returned (.slice (some ⟨a, 0, none⟩) n c) ∧ w = w'
    go_enter Try.func77, Try.ntmps77
    go_wp2
    all_goals
      go_ret
      exact ⟨rfl, rfl⟩
/-- What Delete leaves. -/
def DelW (w : World) (b i j n : Nat) (l : List Hd) : World := (w.drew.setCells b (i * 3) (flatH (l.drop j))).setCells b ((i + (n - j)) * 3) (Builtin.zeroCells zeroH (n - (i + (n - j)))).toList
theorem del_laid {w : World} {b cap i j : Nat} {l : List Hd} (h : HB w ⟨some b, cap⟩ l) (hij : i ≤ j) (hj : j ≤ l.length) :
    HB (DelW w b i j l.length l) ⟨some b, cap⟩ (l.take i ++ l.drop j) ∧ Tn (Is b) w (DelW w b i j l.length l) := by
  have hT : Tn (Is b) w (DelW w b i j l.length l) := ((Tn.refl (Is b) w).drew.then (setCells_tn _ _ _ b (Is b) (show Is b b from rfl))).then (setCells_tn _ _ _ b (Is b) (show Is b b from rfl))
  refine ⟨?_, hT⟩
  rcases h with ⟨h1, _⟩ | ⟨b', cs, h1, h2, h3, h4, h5, h6, h7⟩
  · cases h1
  · injection h1 with h1
    subst h1
    have h2' : RowAt w.drew b 46 cs := h2
    have hsz : cs.size = cap * 3 := h3
    have h4' : l.length ≤ cap := h4
    obtain ⟨ds, d1, d2⟩ := setCells_row (flatH (l.drop j)) (i * 3) w.drew b _ cs h2'
    obtain ⟨es, e1, e2⟩ := setCells_row (Builtin.zeroCells zeroH (l.length - (i + (l.length - j)))).toList ((i + (l.length - j)) * 3) _ b _ ds d1
    have hfl : (flatH (l.drop j)).length = (l.length - j) * 3 := by rw [flatH_len, List.length_drop]
    refine .inr ⟨b, es, rfl, e1, by rw [e2, d2]; exact h3, by rw [List.length_append, List.length_take, List.length_drop]; show _ ≤ cap; omega, h5, h6, fun q u hu => ?_⟩
    have hq : q < (i + (l.length - j)) * 3 := by
      have := (List.getElem?_eq_some_iff.1 hu).1
      rw [flatH_len, List.length_append, List.length_take, List.length_drop] at this
      have : min i l.length = i := by omega
      omega
    unfold DelW
    rw [World.cell?_setCells_out b _ _ _ _ (fun _ _ => .inl (by show q < (i + (l.length - j)) * 3; exact hq))]
    rw [flatH_append] at hu
    have hti : (flatH (l.take i)).length = i * 3 := by rw [flatH_len, List.length_take]; omega
    by_cases hqi : q < i * 3
    · rw [World.cell?_setCells_out b _ _ _ _ (fun _ _ => .inl (by show q < i * 3; exact hqi))]
      rw [List.getElem?_append_left (by omega), ← flatH_take, List.getElem?_take, if_pos hqi] at hu
      exact h7 q u hu
    · rw [List.getElem?_append_right (by omega), hti] at hu
      have hin := World.cell?_setCells_in b (flatH (l.drop j)) (i * 3) w.drew (fun k hk => some_of_row h2' (by omega)) (q - i * 3) (by omega)
      rw [show i * 3 + (q - i * 3) = q by omega] at hin
      rw [hin, ← List.getElem?_eq_getElem]
      exact hu

set_option maxRecDepth 8000 in
set_option maxHeartbeats 1600000 in
theorem del13_some (w : World) (b cap : Nat) (l : List Hd) (h : HB w ⟨some b, cap⟩ l) (i j : Nat) (hij : i < j) (hj : j ≤ l.length) (hl : l.length ≤ 1000000) :
    Calls Try.prog 77 #[.slice (some ⟨b, 0, none⟩) l.length cap, .int .i64 (i : Int), .int .i64 (j : Int)] w fun e w' => e = .returned (.slice (some ⟨b, 0, none⟩) (i + (l.length - j)) cap) ∧ HB w' ⟨some b, cap⟩ (l.take i ++ l.drop j) ∧ Tn (Is b) w w' := by
  obtain ⟨ii, hi0, hi1⟩ := Option.map_eq_some_iff.1 infoH
  simp only [Prod.mk.injEq] at hi1
  have hcap : l.length ≤ cap := h.cap.1
  have hcap2 : cap ≤ maxLen := h.cap.2
  have HD := hide (del_laid h (Nat.le_of_lt hij) hj)
  have hfl : (flatH (l.drop j)).length = (l.length - j) * 3 := by rw [flatH_len, List.length_drop]
  obtain ⟨cs, hrow, hcs, hcl⟩ : ∃ cs, RowAt w b 46 cs ∧ cs.size = cap * 3 ∧ ∀ j u, (flatH l)[j]? = some u → w.cell? ⟨b, j, none⟩ = some u := by
    rcases h with ⟨h1, _⟩ | ⟨b', cs, h1, h2, h3, h4, h5, h6, h7⟩
    · cases h1
    · injection h1 with h1
      subst h1
      exact ⟨cs, h2, h3, h7⟩
  have hrow' : RowAt w.drew b 46 cs := hrow
  have hc : ∀ q, q < (flatH (l.drop j)).length → (w.drew.cell? ⟨b, 0 + i * ii.size + q, none⟩).isSome = true := fun q hq => by
    rw [hfl] at hq
    rw [hi1.2.1]
    exact some_of_row hrow' (by omega)
  have hflat : ∀ q u, (flatH (l.drop j))[q]? = some u → w.drew.cell? ((⟨b, j * 3, none⟩ : Addr).add q) = some u := fun q u hu => by
    rw [← flatH_drop, List.getElem?_drop] at hu
    rw [Addr.add_lit]
    exact hcl _ _ hu
  have happ : ∀ ad c, (∀ q u, (flatH (l.drop j))[q]? = some u → w.drew.cell? (Addr.add ad q) = some u) → (Builtin.append_ #[30, 30] 30 #[.slice (some ⟨b, 0, none⟩) i cap, .slice (some ad) (l.length - j) c]).run Try.prog w.drew = .ok (.slice (some ⟨b, 0, none⟩) (i + (l.length - j)) cap) (w.drew.setCells b (i * 3) (flatH (l.drop j))) := fun ad c hcl2 => by
    have r1 := run_append_room_cells (P := Try.prog) w.drew 30 30 46 ii Try.underlying30 hi0 b 0 i cap ad (l.length - j) c (flatH (l.drop j)) (by rw [hfl, hi1.2.1]) hcl2 (flatH_ones _) (by omega) hc (fun q _ => hrow'.free _)
    rw [hi1.2.1, Nat.zero_add] at r1
    exact r1
  obtain ⟨ds, d1, d2⟩ := setCells_row (flatH (l.drop j)) (i * 3) w.drew b _ cs hrow'
  have hclr : ∀ ty, (Builtin.clear_ #[30] ty #[.slice (some ⟨b, (i + (l.length - j)) * 3, none⟩) (l.length - (i + (l.length - j))) (cap - (i + (l.length - j)))]).run Try.prog (w.drew.setCells b (i * 3) (flatH (l.drop j))) = .ok (.tuple #[]) (DelW w b i j l.length l) := fun ty =>
    run_clear13 _ ty b ((i + (l.length - j)) * 3) (l.length - (i + (l.length - j))) (cap - (i + (l.length - j))) (by omega) (fun q hq => some_of_row d1 (by omega)) (fun q => d1.free q)
  obtain ⟨W2, hW2⟩ : ∃ W2, W2 = DelW w b i j l.length l := ⟨_, rfl⟩
  rw [← hW2] at hclr HD
  obtain ⟨W1, hW1⟩ : ∃ W1, W1 = w.drew.setCells b (i * 3) (flatH (l.drop j)) := ⟨_, rfl⟩
  rw [← hW1] at hclr happ
  have HE := hide (fun (e : cap = j) => show l.drop j = [] from List.eq_nil_of_length_eq_zero (by rw [List.length_drop]; omega))
  clear hW1 hW2 d1 d2 hc hrow hrow' hfl h hi1 hi0 hcl hcs
  generalize l.length = n at *
  have e1 : ((i : Int) == (j : Int)) = false := by
    rw [beq_eq_false_iff_ne]
    omega
  have e2 : (j : Int) ≤ (n : Int) := by omega
  have e3 : (n : Int) ≤ (cap : Int) := by omega
  have e4 : (j : Int) ≤ (cap : Int) := by omega
  have e7 : (i : Int) ≤ (j : Int) := by omega
  have e8 : (i : Int) ≤ (cap : Int) := by omega
  have e9 : ¬ cap = i := by omega
  have e5 : ¬ cap = i + (n - j) := by omega
  have e6 : ((i + (n - j) : Nat) : Int) ≤ (n : Int) := by omega
  have e10 : ((i : Int) + ((n - j : Nat) : Int)) ≤ (n : Int) := by omega
  have HAP := hide happ
  by_cases hck : cap = j
  · have q1 := HAP.out ⟨b, 0, none⟩ (cap - j) (fun q u hu => by
      rw [HE.out hck] at hu
      cases hu)
    clear happ HAP hflat HE
    subst hck
    obtain rfl : n = cap := by omega
    simp only [Nat.sub_self, Nat.add_zero] at q1 hclr HD ⊢
    clear e5 e6 e10
    go_enter Try.func77, Try.ntmps77
    go_wp2_with fail
    go_region_law (refine step_append_run rfl (.tmp 22) (.tmp 25) 30 30 rfl (.slice (some ⟨b, 0, none⟩) i n) (.slice (some ⟨b, 0, none⟩) 0 0) (.slice (some ⟨b, 0, none⟩) i n) W1 ?h1 ?h2 q1 ?_; (case h1 => simp [Act.eval, Act.put]); (case h2 => simp [Act.eval, Act.put]))
    go_wp2
    go_ret
    exact ⟨rfl, HD.out⟩
  · have q1 := HAP.out ⟨b, j * 3, none⟩ (cap - j) hflat
    clear happ HAP hflat HE
    go_enter Try.func77, Try.ntmps77
    go_wp2_with fail
    go_region_law (refine step_append_run rfl (.tmp 22) (.tmp 25) 30 30 rfl (.slice (some ⟨b, 0, none⟩) i cap) (.slice (some ⟨b, j * 3, none⟩) (n - j) (cap - j)) (.slice (some ⟨b, 0, none⟩) (i + (n - j)) cap) W1 ?h1 ?h2 q1 ?_; (case h1 => simp [Act.eval, Act.put]); (case h2 => simp [Act.eval, Act.put]))
    go_wp2
    go_ret
    exact ⟨rfl, HD.out⟩
/-- Those from i to j are deleted. -/
theorem del13 (w : World) (s : Sl) (l : List Hd) (h : HB w s l) (i j : Nat) (hij : i ≤ j) (hj : j ≤ l.length) (hl : l.length ≤ 1000000) :
    Calls Try.prog 77 #[slV s l.length, .int .i64 (i : Int), .int .i64 (j : Int)] w fun e w' => e = .returned (slV s (l.take i ++ l.drop j).length) ∧ HB w' s (l.take i ++ l.drop j) ∧ Tn (ofS s) w w' := by
  by_cases h0 : i = j
  · subst h0
    rw [List.take_append_drop]
    refine (del13_same s l.length i w h.cap.1 hj hl).mono ?_
    rintro e w' ⟨rfl, rfl⟩
    exact ⟨rfl, h, Tn.refl _ _⟩
  · obtain ⟨o, c⟩ := s
    cases o with
    | none =>
      rcases h with ⟨_, rfl, _⟩ | ⟨b, cs, h1, _⟩
      · simp at hj
        omega
      · cases h1
    | some b =>
      refine (del13_some w b c l h i j (by omega) hj hl).mono ?_
      rintro e w' ⟨rfl, h1, h2⟩
      have e : (l.take i ++ l.drop j).length = i + (l.length - j) := by rw [List.length_append, List.length_take, List.length_drop]; omega
      rw [e]
      exact ⟨rfl, h1, h2.weak (fun k hk => by rw [hk]; rfl)⟩
end Go.Proofs.Ytmlbghloddiflaa
