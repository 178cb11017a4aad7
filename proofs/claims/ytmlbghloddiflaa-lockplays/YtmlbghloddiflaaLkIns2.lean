/-
  The contract of slices.Insert of one lock among locks: its three roads.
-/
import Derived.Test.YtmlbghloddiflaaLkIns
namespace Go.Proofs.Ytmlbghloddiflaa
open Go.RowKit
set_option linter.unusedVariables false

def InsAns (w : World) (s : Sl) (l : List Hd) (i : Nat) (k : Hd) (e : Ending) (w' : World) : Prop := ∃ s', e = .returned (slV s' (l.length + 1)) ∧ HB w' s' (insL l i k) ∧ Tn (ofS s) w w' ∧ ∀ q, s'.b = some q → s.b = some q ∨ w.heap.size ≤ q
theorem cells_of_row {w : World} {g : Nat} {t : TypeId} {k : Hd} (hg : RowAt w g t (hdA k)) : ∀ j u, (hdL k)[j]? = some u → w.cell? ⟨g, j, none⟩ = some u := fun j u hu => hg.cell j u (by
  have : (hdA k).toList = hdL k := rfl
  rw [← Array.getElem?_toList, this]
  exact hu)
set_option maxRecDepth 8000 in
set_option maxHeartbeats 1600000 in
theorem ins13_end (w : World) (s : Sl) (l : List Hd) (h : HB w s l) (k : Hd) (g : Nat) (hg : RowAt w g 46 (hdA k)) (hl : l.length ≤ 1000000) :
    Calls Try.prog 74 #[slV s l.length, .int .i64 (l.length : Int), .slice (some ⟨g, 0, none⟩) 1 1] w (InsAns w s l l.length k) := by
  obtain ⟨s', w', r1, r2, r3, r4⟩ := run_push13 w 30 s l h k g 1 (cells_of_row hg) hl
  have HE := hide (show ∃ s', InsAns w s l l.length k (.returned (slV s' (l.length + 1))) w' ∧ s' = s' from ⟨s', ⟨s', rfl, by unfold insL; rw [List.take_length, List.drop_length]; exact r2, r3, r4⟩, rfl⟩)
  have HG := hide (show InsAns w s l l.length k (.returned (slV s' (l.length + 1))) w' from ⟨s', rfl, by unfold insL; rw [List.take_length, List.drop_length]; exact r2, r3, r4⟩)
  have hcap := h.cap
  clear HE r2 r3 r4 hg h
  obtain ⟨o, c⟩ := s
  obtain ⟨v', hv'⟩ : ∃ v', v' = slV s' (l.length + 1) := ⟨_, rfl⟩
  rw [← hv'] at r1 HG
  clear hv'
  have hc1 : l.length ≤ c := hcap.1
  have hc2 : c ≤ 9223372036854775807 := by have := hcap.2; unfold maxLen at this; exact this
  clear hcap
  generalize l.length = n at *
  cases o with
  | none =>
    have r1' : (Builtin.append_ #[30, 30] 30 #[.slice none n c, .slice (some ⟨g, 0, none⟩) 1 1]).run Try.prog w = .ok v' w' := r1
    show Calls _ _ #[.slice none n c, _, _] w _
    clear r1
    go_enter Try.func74, Try.ntmps74
    go_wp2_with (at_builtin; refine Lib.wpList_append_run _ rfl _ _ _ _ rfl _ _ rfl rfl _ _ r1' ?_)
    all_goals
      go_ret
      exact HG.out
  | some b =>
    have r1' : (Builtin.append_ #[30, 30] 30 #[.slice (some ⟨b, 0, none⟩) n c, .slice (some ⟨g, 0, none⟩) 1 1]).run Try.prog w = .ok v' w' := r1
    show Calls _ _ #[.slice (some ⟨b, 0, none⟩) n c, _, _] w _
    clear r1
    go_enter Try.func74, Try.ntmps74
    go_wp2_with (at_builtin; refine Lib.wpList_append_run _ rfl _ _ _ _ rfl _ _ rfl rfl _ _ r1' ?_)
    all_goals
      go_ret
      exact HG.out
def ShW (w : World) (b i : Nat) (l : List Hd) (k : Hd) : World := (w.drew.setCells b ((i + 1) * 3) (flatH (l.drop i))).setCells b (i * 3) (hdL k)
theorem isSome_set {b : Nat} {vs : List Value} {o : Nat} {w : World} {t : TypeId} {cs : Array Value} (h : RowAt w b t cs) {k : Nat} (hk : k < cs.size) : ((w.setCells b o vs).cell? ⟨b, k, none⟩).isSome = true := by
  obtain ⟨ds, h1, h2⟩ := setCells_row vs o w b t cs h
  exact some_of_row h1 (by omega)
theorem sh_laid {w : World} {b cap i : Nat} {l : List Hd} {k : Hd} (h : HB w ⟨some b, cap⟩ l) (hi : i < l.length) (hc : l.length + 1 ≤ cap) : HB (ShW w b i l k) ⟨some b, cap⟩ (insL l i k) ∧ Tn (Is b) w (ShW w b i l k) := by
  have hT : Tn (Is b) w (ShW w b i l k) := ((Tn.refl (Is b) w).drew.then (setCells_tn _ _ _ b (Is b) (show Is b b from rfl))).then (setCells_tn _ _ _ b (Is b) (show Is b b from rfl))
  refine ⟨?_, hT⟩
  rcases h with ⟨h1, _⟩ | ⟨b', cs, h1, h2, h3, h4, h5, h6, h7⟩
  · cases h1
  · injection h1 with h1
    subst h1
    have h2' : RowAt w.drew b 46 cs := h2
    have hsz : cs.size = cap * 3 := h3
    obtain ⟨ds, d1, d2⟩ := setCells_row (flatH (l.drop i)) ((i + 1) * 3) w.drew b _ cs h2'
    obtain ⟨es, e1, e2⟩ := setCells_row (hdL k) (i * 3) _ b _ ds d1
    have hfl : (flatH (l.drop i)).length = (l.length - i) * 3 := by rw [flatH_len, List.length_drop]
    refine .inr ⟨b, es, rfl, e1, by rw [e2, d2]; exact h3, by rw [insL_len _ _ _ (by omega)]; exact hc, h5, h6, fun q u hu => ?_⟩
    have hti : (flatH (l.take i)).length = i * 3 := by rw [flatH_len, List.length_take]; omega
    rw [flat_ins] at hu
    unfold ShW
    by_cases h8 : q < i * 3
    · rw [World.cell?_setCells_out b _ _ _ _ (fun _ _ => .inl (by show q < i * 3; exact h8)), World.cell?_setCells_out b _ _ _ _ (fun _ _ => .inl (by show q < (i + 1) * 3; omega))]
      rw [List.getElem?_append_left (by omega), ← flatH_take, List.getElem?_take, if_pos h8] at hu
      exact h7 q u hu
    · rw [List.getElem?_append_right (by omega), hti] at hu
      by_cases h9 : q < (i + 1) * 3
      · have hin := World.cell?_setCells_in b (hdL k) (i * 3) (w.drew.setCells b ((i + 1) * 3) (flatH (l.drop i))) (fun j hj => some_of_row d1 (by have : j < 3 := hj; omega)) (q - i * 3) (by show _ < 3; omega)
        rw [show i * 3 + (q - i * 3) = q by omega] at hin
        rw [hin, ← List.getElem?_eq_getElem]
        rw [List.getElem?_append_left (by show _ < 3; omega)] at hu
        exact hu
      · rw [World.cell?_setCells_out b _ _ _ _ (fun _ _ => .inr (by show i * 3 + 3 ≤ q; omega))]
        have hq : q - i * 3 - 3 < (l.length - i) * 3 := by
          have := (List.getElem?_eq_some_iff.1 hu).1
          rw [List.length_append, hfl] at this
          have h10 : (hdL k).length = 3 := rfl
          omega
        have hin := World.cell?_setCells_in b (flatH (l.drop i)) ((i + 1) * 3) w.drew (fun j hj => some_of_row h2' (by omega)) (q - i * 3 - 3) (by omega)
        rw [show (i + 1) * 3 + (q - i * 3 - 3) = q by omega] at hin
        rw [hin, ← List.getElem?_eq_getElem]
        rw [List.getElem?_append_right (by show 3 ≤ _; omega)] at hu
        exact hu
set_option maxRecDepth 8000 in
set_option maxHeartbeats 3200000 in
theorem ins13_shift (w : World) (b cap : Nat) (l : List Hd) (h : HB w ⟨some b, cap⟩ l) (i : Nat) (hi : i < l.length) (hr : l.length + 1 ≤ cap) (k : Hd) (g : Nat) (hg : RowAt w g 46 (hdA k)) (hgb : g ≠ b) (hl : l.length ≤ 1000000) :
    Calls Try.prog 74 #[.slice (some ⟨b, 0, none⟩) l.length cap, .int .i64 (i : Int), .slice (some ⟨g, 0, none⟩) 1 1] w (InsAns w ⟨some b, cap⟩ l i k) := by
  have HD := hide (sh_laid (k := k) h hi hr)
  have HG : InsAns w ⟨some b, cap⟩ l i k (.returned (.slice (some ⟨b, 0, none⟩) (l.length + 1) cap)) (ShW w b i l k) := ⟨⟨some b, cap⟩, rfl, HD.out.1, HD.out.2.weak (fun q hq => by rw [hq]; rfl), fun q hq => .inl hq⟩
  have hcap2 : cap ≤ 9223372036854775807 := by have := h.cap.2; unfold maxLen at this; exact this
  obtain ⟨cs, hrow, hcs, hcl⟩ : ∃ cs, RowAt w b 46 cs ∧ cs.size = cap * 3 ∧ ∀ j u, (flatH l)[j]? = some u → w.cell? ⟨b, j, none⟩ = some u := by
    rcases h with ⟨h1, _⟩ | ⟨b', cs, h1, h2, h3, h4, h5, h6, h7⟩
    · cases h1
    · injection h1 with h1
      subst h1
      exact ⟨cs, h2, h3, h7⟩
  have hrow' : RowAt w.drew b 46 cs := hrow
  have hfl : (flatH (l.drop i)).length = (l.length - i) * 3 := by rw [flatH_len, List.length_drop]
  have hov : ∀ lb cb, (callFunc 94 #[.slice (some ⟨g, 0, none⟩) 1 1, .slice (some ⟨b, (i + 1) * 3, none⟩) lb cb]).run Try.prog w = .ok (.value (.bool false)) w := fun lb cb => over13 w g b ((i + 1) * 3) 1 1 lb cb hgb _ _ _ _ hg hrow (by omega)
  have hcp1 : ∀ ty dc sc, (Builtin.copy_ #[30, 30] ty #[.slice (some ⟨b, (i + 1) * 3, none⟩) (l.length - i) dc, .slice (some ⟨b, i * 3, none⟩) (l.length + 1 - i) sc]).run Try.prog w.drew = .ok (goInt ((l.length - i : Nat) : Int)) (w.drew.setCells b ((i + 1) * 3) (flatH (l.drop i))) := fun ty dc sc => by
    have := run_copy_many (P := Try.prog) w.drew 30 30 ty 46 3 b ((i + 1) * 3) (l.length - i) dc ⟨b, i * 3, none⟩ (l.length + 1 - i) sc (flatH (l.drop i)) Try.underlying30 infoHs (by rw [hfl, show Nat.min (l.length + 1 - i) (l.length - i) = l.length - i from Nat.min_eq_right (by omega)])
      (fun j v hj => by rw [Addr.add_lit]; exact hcl _ v (by rw [← flatH_drop, List.getElem?_drop] at hj; exact hj))
      (fun j hj => some_of_row hrow' (by omega)) (fun j hj => hrow'.free _) (flatH_ones _)
    rwa [show Nat.min (l.length + 1 - i) (l.length - i) = l.length - i from Nat.min_eq_right (by omega)] at this
  obtain ⟨ds, d1, d2⟩ := setCells_row (flatH (l.drop i)) ((i + 1) * 3) w.drew b _ cs hrow'
  have hgr : RowAt (w.drew.setCells b ((i + 1) * 3) (flatH (l.drop i))) g 46 (hdA k) := (setCells_tn (flatH (l.drop i)) ((i + 1) * 3) w.drew b (Is b) rfl).row (show RowAt w.drew g _ _ from hg) hgb
  have hcp2 : ∀ ty dc, (Builtin.copy_ #[30, 30] ty #[.slice (some ⟨b, i * 3, none⟩) (l.length + 1 - i) dc, .slice (some ⟨g, 0, none⟩) 1 1]).run Try.prog (w.drew.setCells b ((i + 1) * 3) (flatH (l.drop i))) = .ok (goInt 1) (ShW w b i l k) := fun ty dc => by
    have := run_copy_many (P := Try.prog) (w.drew.setCells b ((i + 1) * 3) (flatH (l.drop i))) 30 30 ty 46 3 b (i * 3) (l.length + 1 - i) dc ⟨g, 0, none⟩ 1 1 (hdL k) Try.underlying30 infoHs (by rw [show Nat.min 1 (l.length + 1 - i) = 1 from Nat.min_eq_left (by omega)]; rfl)
      (fun j v hj => by rw [Addr.add_lit, Nat.zero_add]; exact cells_of_row hgr j v hj)
      (fun j hj => some_of_row d1 (by have : j < 3 := hj; omega)) (fun j hj => d1.free _) (hdL_one k)
    rwa [show Nat.min 1 (l.length + 1 - i) = 1 from Nat.min_eq_left (by omega)] at this
  obtain ⟨W2, hW2⟩ : ∃ W2, W2 = ShW w b i l k := ⟨_, rfl⟩
  rw [← hW2] at HG hcp2
  obtain ⟨W1, hW1⟩ : ∃ W1, W1 = w.drew.setCells b ((i + 1) * 3) (flatH (l.drop i)) := ⟨_, rfl⟩
  rw [← hW1] at hcp1 hcp2
  have HH := hide HG
  clear hW1 hW2 d1 d2 hgr hfl hrow hrow' hcl hcs h HG HD hg
  generalize l.length = n at *
  have hz2 : ((i : Int) == (n : Int)) = false := by rw [beq_eq_false_iff_ne]; omega
  have hz3 : ¬ (cap : Int) < (n : Int) + 1 := by omega
  have hz4 : (n : Int) + 1 ≤ (cap : Int) := by omega
  have htn : ((i : Int) + 1).toNat = i + 1 := by omega
  have hw1 : IntKind.i64.wrap ((i : Int) + 1) = (i : Int) + 1 := by rw [IntKind.wrap_i64]; omega
  have hb1 : (0 : Int) ≤ (i : Int) + 1 := by omega
  have hb2 : ¬ (cap = i + 1) := by omega
  have hb3 : (i : Int) ≤ (n : Int) + 1 := by omega
  have hb4 : ¬ (cap = i) := by omega
  have hb5 : (i : Int) + 1 ≤ (n : Int) + 1 := by omega
  have hin : i ≤ n := by omega
  have hin2 : (i : Int) ≤ (n : Int) := by omega
  go_enter Try.func74, Try.ntmps74
  go_wp2_with (simp only [hov])
  go_region_law (refine step_copy_run13 rfl (.tmp 73) (.tmp 76) 30 30 rfl (.slice (some ⟨b, (i + 1) * 3, none⟩) (n - i) (cap - (i + 1))) (.slice (some ⟨b, i * 3, none⟩) (n + 1 - i) (cap - i)) ?h1 ?h2 (hcp1 _ _ _) ?_; (case h1 => simp [Act.eval, Act.put]); (case h2 => simp [Act.eval, Act.put]))
  go_wp2_with (at_builtin; refine wpList_copy_run13 _ rfl _ _ 30 30 rfl _ _ rfl rfl (hcp2 _ _) ?_)
  go_ret
  exact HH.out
def GrA (l : List Hd) (i G : Nat) : Array Value := (flatH (l.take i)).toArray ++ Builtin.zeroCells zeroH (l.length + 1 - i) ++ Builtin.zeroCells zeroH (G - (l.length + 1))
def GrW (w : World) (i G : Nat) (l : List Hd) (k : Hd) : World := ((w.drew.alloc (.cells (GrA l i G) 46)).setCells w.heap.size (i * 3) (hdL k)).drew.setCells w.heap.size ((i + 1) * 3) (flatH (l.drop i))
theorem GrA_size (l : List Hd) (i G : Nat) (hi : i ≤ l.length) (hG : l.length + 1 ≤ G) : (GrA l i G).size = G * 3 := by
  have h1 : ∀ n, (Builtin.zeroCells zeroH n).size = n * 3 := fun n => by rw [← Array.length_toList]; exact zeros_len n
  unfold GrA
  rw [Array.size_append, Array.size_append, h1, h1, List.size_toArray, flatH_len, List.length_take]
  omega
theorem GrA_get (l : List Hd) (i G : Nat) (hi : i ≤ l.length) (q : Nat) (hq : q < i * 3) : (GrA l i G)[q]? = (flatH l)[q]? := by
  have e : (flatH (l.take i)).length = i * 3 := by rw [flatH_len, List.length_take]; omega
  unfold GrA
  rw [Array.getElem?_append_left (by rw [Array.size_append, List.size_toArray]; omega), Array.getElem?_append_left (by rw [List.size_toArray]; omega), List.getElem?_toArray, ← flatH_take, List.getElem?_take, if_pos hq]
theorem gr_laid {w : World} {i G : Nat} {l : List Hd} {k : Hd} (hi : i < l.length) (hG : l.length + 1 ≤ G) (hG2 : G ≤ maxLen) : HB (GrW w i G l k) ⟨some w.heap.size, G⟩ (insL l i k) ∧ Below w.heap.size w (GrW w i G l k) := by
  have h0 : RowAt (w.drew.alloc (.cells (GrA l i G) 46)) w.heap.size 46 (GrA l i G) := RowAt.new w.drew _ _
  have hb0 : Below w.heap.size w (w.drew.alloc (.cells (GrA l i G) 46)) := (Below.refl w.heap.size w).drew.alloc (Nat.le_refl _) _
  have hsz := GrA_size l i G (by omega) hG
  have hT : Below w.heap.size w (GrW w i G l k) := by
    have t1 := setCells_tn (hdL k) (i * 3) (w.drew.alloc (.cells (GrA l i G) 46)) w.heap.size (Is w.heap.size) rfl
    have t2 := setCells_tn (flatH (l.drop i)) ((i + 1) * 3) ((w.drew.alloc (.cells (GrA l i G) 46)).setCells w.heap.size (i * 3) (hdL k)).drew w.heap.size (Is w.heap.size) rfl
    have t3 := t1.drew.then t2
    exact hb0.trans (t3.below (fun q hq => by rw [hq]; exact Nat.le_refl _) hb0.size)
  refine ⟨?_, hT⟩
  obtain ⟨ds, d1, d2⟩ := setCells_row (hdL k) (i * 3) _ w.heap.size _ _ h0
  have d1' : RowAt ((w.drew.alloc (.cells (GrA l i G) 46)).setCells w.heap.size (i * 3) (hdL k)).drew w.heap.size 46 ds := d1
  obtain ⟨es, e1, e2⟩ := setCells_row (flatH (l.drop i)) ((i + 1) * 3) _ w.heap.size _ _ d1'
  have hfl : (flatH (l.drop i)).length = (l.length - i) * 3 := by rw [flatH_len, List.length_drop]
  refine .inr ⟨w.heap.size, es, rfl, e1, by rw [e2, d2]; exact hsz, by rw [insL_len _ _ _ (by omega)]; exact hG, by show 0 < G; omega, hG2, fun q u hu => ?_⟩
  have hti : (flatH (l.take i)).length = i * 3 := by rw [flatH_len, List.length_take]; omega
  rw [flat_ins] at hu
  unfold GrW
  by_cases h8 : q < i * 3
  · rw [World.cell?_setCells_out _ _ _ _ _ (fun _ _ => .inl (by show q < (i + 1) * 3; omega))]
    show ((w.drew.alloc (.cells (GrA l i G) 46)).setCells w.heap.size (i * 3) (hdL k)).cell? _ = _
    rw [World.cell?_setCells_out _ _ _ _ _ (fun _ _ => .inl (by show q < i * 3; exact h8))]
    rw [List.getElem?_append_left (by omega), ← flatH_take, List.getElem?_take, if_pos h8] at hu
    exact h0.cell q u (by rw [GrA_get l i G (by omega) q h8]; exact hu)
  · rw [List.getElem?_append_right (by omega), hti] at hu
    by_cases h9 : q < (i + 1) * 3
    · rw [World.cell?_setCells_out _ _ _ _ _ (fun _ _ => .inl (by show q < (i + 1) * 3; exact h9))]
      show ((w.drew.alloc (.cells (GrA l i G) 46)).setCells w.heap.size (i * 3) (hdL k)).cell? _ = _
      have hin := World.cell?_setCells_in w.heap.size (hdL k) (i * 3) (w.drew.alloc (.cells (GrA l i G) 46)) (fun j hj => some_of_row h0 (by have : j < 3 := hj; omega)) (q - i * 3) (by show _ < 3; omega)
      rw [show i * 3 + (q - i * 3) = q by omega] at hin
      rw [hin, ← List.getElem?_eq_getElem]
      rw [List.getElem?_append_left (by show _ < 3; omega)] at hu
      exact hu
    · have hq : q - i * 3 - 3 < (l.length - i) * 3 := by
        have := (List.getElem?_eq_some_iff.1 hu).1
        rw [List.length_append, hfl] at this
        have h10 : (hdL k).length = 3 := rfl
        omega
      have hin := World.cell?_setCells_in w.heap.size (flatH (l.drop i)) ((i + 1) * 3) ((w.drew.alloc (.cells (GrA l i G) 46)).setCells w.heap.size (i * 3) (hdL k)).drew (fun j hj => some_of_row d1' (by omega)) (q - i * 3 - 3) (by omega)
      rw [show (i + 1) * 3 + (q - i * 3 - 3) = q by omega] at hin
      rw [hin, ← List.getElem?_eq_getElem]
      rw [List.getElem?_append_right (by show 3 ≤ _; omega)] at hu
      exact hu
set_option maxRecDepth 8000 in
set_option maxHeartbeats 3200000 in
theorem ins13_grow (w : World) (b cap : Nat) (l : List Hd) (h : HB w ⟨some b, cap⟩ l) (i : Nat) (hi : i < l.length) (hr : cap < l.length + 1) (k : Hd) (g : Nat) (hg : RowAt w g 46 (hdA k)) (hl : l.length ≤ 1000000) :
    Calls Try.prog 74 #[.slice (some ⟨b, 0, none⟩) l.length cap, .int .i64 (i : Int), .slice (some ⟨g, 0, none⟩) 1 1] w (InsAns w ⟨some b, cap⟩ l i k) := by
  obtain ⟨ii, hi0, hi1⟩ := Option.map_eq_some_iff.1 infoH
  simp only [Prod.mk.injEq] at hi1
  obtain ⟨G, hG⟩ : ∃ G, G = grownCap w (l.length + 1) cap 46 := ⟨_, rfl⟩
  have hG1 : l.length + 1 ≤ G := by rw [hG]; exact grownCap_ge w _ _ _
  have hG2 : G ≤ maxLen := by rw [hG]; exact grownCap_le_maxLen w _ _ _ (by unfold maxLen; omega)
  have hG3 : G ≤ 9223372036854775807 := by unfold maxLen at hG2; exact hG2
  have HD := gr_laid (w := w) (k := k) hi hG1 hG2
  have HG : InsAns w ⟨some b, cap⟩ l i k (.returned (.slice (some ⟨w.heap.size, 0, none⟩) (l.length + 1) G)) (GrW w i G l k) := ⟨⟨some w.heap.size, G⟩, rfl, HD.1, Tn.of_below HD.2, fun q hq => .inr (by injection hq with hq; omega)⟩
  obtain ⟨cs, hrow, hcs, hcl, hnc⟩ : ∃ cs, RowAt w b 46 cs ∧ cs.size = cap * 3 ∧ (∀ j u, (flatH l)[j]? = some u → w.cell? ⟨b, j, none⟩ = some u) ∧ l.length ≤ cap := by
    rcases h with ⟨h1, _⟩ | ⟨b', cs, h1, h2, h3, h4, h5, h6, h7⟩
    · cases h1
    · injection h1 with h1
      subst h1
      exact ⟨cs, h2, h3, h7, h4⟩
  have hfl : (flatH (l.drop i)).length = (l.length - i) * 3 := by rw [flatH_len, List.length_drop]
  have hold : (Builtin.firstCells ii.size i (.slice (some ⟨b, 0, none⟩) i cap)).run Try.prog w.drew = .ok (flatH (l.take i)).toArray w.drew := by
    rw [hi1.2.1]
    exact run_firstCells_some w.drew 3 i ⟨b, 0, none⟩ i cap (flatH (l.take i)) (by rw [flatH_len, List.length_take]; omega) (fun j v hj => by
      rw [Addr.add_lit, Nat.zero_add]
      rw [← flatH_take, List.getElem?_take] at hj
      split at hj
      · exact hcl j v hj
      · cases hj)
  have hrz : ∀ ty, (Builtin.append_ #[30, 3] ty #[.slice (some ⟨b, 0, none⟩) i cap, .int .i64 ((l.length : Int) + 1 - (i : Int))]).run Try.prog w = .ok (.slice (some ⟨w.heap.size, 0, none⟩) (l.length + 1) G) (w.drew.alloc (.cells (GrA l i G) 46)) := fun ty => by
    have h := Lib.run_append_grow_zeros (P := Try.prog) w 30 3 ty 46 ii (.agg zeroH) .i64 .i64 Try.underlying30 Try.underlying3 hi0 hi1.1 (some ⟨b, 0, none⟩) i cap (flatH (l.take i)) hold (l.length + 1 - i) (by omega) (by omega) (by omega) (by omega) (by rw [hi1.2.2]; omega) (by rw [hi1.2.2, show i + (l.length + 1 - i) = l.length + 1 by omega]; exact growslice_fits hr (by omega))
    rw [show i + (l.length + 1 - i) = l.length + 1 by omega] at h
    rw [show (l.length : Int) + 1 - (i : Int) = ((l.length + 1 - i : Nat) : Int) by omega, hG]
    exact h
  have h0 : RowAt (w.drew.alloc (.cells (GrA l i G) 46)) w.heap.size 46 (GrA l i G) := RowAt.new w.drew _ _
  have hsz := GrA_size l i G (by omega) hG1
  have hgr : RowAt (w.drew.alloc (.cells (GrA l i G) 46)) g 46 (hdA k) := hg.later ((Below.refl w.heap.size w).drew.alloc (Nat.le_refl _) _)
  obtain ⟨W1, hW1⟩ : ∃ W1, W1 = w.drew.alloc (.cells (GrA l i G) 46) := ⟨_, rfl⟩
  have hbk : RowAt W1 b 46 cs := by rw [hW1]; exact hrow.later ((Below.refl w.heap.size w).drew.alloc (Nat.le_refl _) _)
  have hbc : ∀ j u, (flatH l)[j]? = some u → W1.cell? ⟨b, j, none⟩ = some u := fun j u hu => hbk.cell j u (by rw [← cell_of_row w b j _ _ (0, 0) hrow]; exact hcl j u hu)
  rw [← hW1] at h0 hgr hrz
  have hcpA : ∀ ty dc, (Builtin.copy_ #[30, 30] ty #[.slice (some ⟨w.heap.size, i * 3, none⟩) (l.length + 1 - i) dc, .slice (some ⟨g, 0, none⟩) 1 1]).run Try.prog W1 = .ok (goInt 1) (W1.setCells w.heap.size (i * 3) (hdL k)) := fun ty dc => by
    have := run_copy_many (P := Try.prog) W1 30 30 ty 46 3 w.heap.size (i * 3) (l.length + 1 - i) dc ⟨g, 0, none⟩ 1 1 (hdL k) Try.underlying30 infoHs (by rw [show Nat.min 1 (l.length + 1 - i) = 1 from Nat.min_eq_left (by omega)]; rfl)
      (fun j v hj => by rw [Addr.add_lit, Nat.zero_add]; exact cells_of_row hgr j v hj)
      (fun j hj => some_of_row h0 (by have : j < 3 := hj; omega)) (fun j hj => h0.free _) (hdL_one k)
    rwa [show Nat.min 1 (l.length + 1 - i) = 1 from Nat.min_eq_left (by omega)] at this
  obtain ⟨W2, hW2⟩ : ∃ W2, W2 = W1.setCells w.heap.size (i * 3) (hdL k) := ⟨_, rfl⟩
  obtain ⟨ds, d1, d2⟩ := setCells_row (hdL k) (i * 3) W1 w.heap.size _ _ h0
  have hne : b ≠ w.heap.size := by have := hrow.lt; omega
  have hbk2 : RowAt W2 b 46 cs := by rw [hW2]; exact (setCells_tn (hdL k) (i * 3) W1 w.heap.size (Is w.heap.size) rfl).row hbk hne
  rw [← hW2] at d1 hcpA
  have d1' : RowAt W2.drew w.heap.size 46 ds := d1
  have hbk2' : RowAt W2.drew b 46 cs := hbk2
  have hcpB : ∀ ty dc sc, (Builtin.copy_ #[30, 30] ty #[.slice (some ⟨w.heap.size, (i + 1) * 3, none⟩) (l.length - i) dc, .slice (some ⟨b, i * 3, none⟩) (l.length - i) sc]).run Try.prog W2.drew = .ok (goInt ((l.length - i : Nat) : Int)) (GrW w i G l k) := fun ty dc sc => by
    have := run_copy_many (P := Try.prog) W2.drew 30 30 ty 46 3 w.heap.size ((i + 1) * 3) (l.length - i) dc ⟨b, i * 3, none⟩ (l.length - i) sc (flatH (l.drop i)) Try.underlying30 infoHs (by rw [hfl, show Nat.min (l.length - i) (l.length - i) = l.length - i from Nat.min_self _])
      (fun j v hj => by
        rw [Addr.add_lit]
        rw [← flatH_drop, List.getElem?_drop] at hj
        have := hcl _ v hj
        rw [cell_of_row w b _ _ _ (0, 0) hrow] at this
        exact hbk2'.cell _ v this)
      (fun j hj => some_of_row d1' (by omega)) (fun j hj => d1'.free _) (flatH_ones _)
    rw [show Nat.min (l.length - i) (l.length - i) = l.length - i from Nat.min_self _] at this
    rw [this, hW2, hW1]
    rfl
  obtain ⟨W3, hW3⟩ : ∃ W3, W3 = GrW w i G l k := ⟨_, rfl⟩
  rw [← hW3] at HG hcpB
  have HH := hide HG
  have hgb : b < w.heap.size := hrow.lt
  clear hW1 hW2 hW3 d1 d2 d1' hbk2 hbk2' hbk hbc hgr hfl hrow hcl hcs h HG HD hg h0 hsz hold hi1 hi0 hG hG2
  generalize l.length = n at *
  generalize w.heap.size = N at *
  have hz2 : ((i : Int) == (n : Int)) = false := by rw [beq_eq_false_iff_ne]; omega
  have hz3 : (cap : Int) < (n : Int) + 1 := by omega
  have htn : ((i : Int) + 1).toNat = i + 1 := by omega
  have hw1 : IntKind.i64.wrap ((i : Int) + 1) = (i : Int) + 1 := by rw [IntKind.wrap_i64]; omega
  have hb1 : (0 : Int) ≤ (i : Int) + 1 := by omega
  have hb2 : ¬ (cap = i + 1 ∧ False) := by simp
  have hb3 : (i : Int) ≤ (n : Int) + 1 := by omega
  have hb4 : ¬ (cap = i) := by omega
  have hb6 : ¬ (G = i) := by omega
  have hb7 : ¬ (G = i + 1) := by omega
  have hb8 : (n : Int) + 1 ≤ (G : Int) := by omega
  have hb5 : (i : Int) + 1 ≤ (n : Int) + 1 := by omega
  have hin : i ≤ n := by omega
  have hin2 : (i : Int) ≤ (n : Int) := by omega
  have hin3 : (i : Int) ≤ (cap : Int) := by omega
  go_enter Try.func74, Try.ntmps74
  go_wp2_with (first
    | (at_builtin; refine Lib.wpList_append_run _ rfl _ _ _ _ rfl _ _ rfl rfl _ _ (hrz _) ?_)
    | (at_builtin; refine wpList_copy_run13 _ rfl _ _ 30 30 rfl _ _ rfl rfl (hcpA _ _) ?_))
  go_region_law (refine step_copy_run13 rfl (.tmp 50) (.tmp 53) 30 30 rfl (.slice (some ⟨N, (i + 1) * 3, none⟩) (n - i) (G - (i + 1))) (.slice (some ⟨b, i * 3, none⟩) (n - i) (cap - i)) ?h1 ?h2 (hcpB _ _ _) ?_; (case h1 => simp [Act.eval, Act.put]); (case h2 => simp [Act.eval, Act.put]))
  go_wp2
  go_ret
  exact HH.out
/-- One lock put in at a place. -/
theorem ins13 (w : World) (s : Sl) (l : List Hd) (h : HB w s l) (i : Nat) (hi : i ≤ l.length) (k : Hd) (g : Nat) (hg : RowAt w g 46 (hdA k)) (hgb : s.b ≠ some g) (hl : l.length ≤ 1000000) :
    Calls Try.prog 74 #[slV s l.length, .int .i64 (i : Int), .slice (some ⟨g, 0, none⟩) 1 1] w (InsAns w s l i k) := by
  by_cases hn : i = l.length
  · subst hn
    exact ins13_end w s l h k g hg hl
  · obtain ⟨o, c⟩ := s
    cases o with
    | none =>
      rcases h with ⟨_, rfl, _⟩ | ⟨b, cs, h1, _⟩
      · simp at hi
        exact absurd hi (by simpa using hn)
      · cases h1
    | some b =>
      by_cases hr : l.length + 1 ≤ c
      · exact ins13_shift w b c l h i (by omega) hr k g hg (fun e => hgb (by rw [e])) hl
      · exact ins13_grow w b c l h i (by omega) (by omega) k g hg hl
end Go.Proofs.Ytmlbghloddiflaa
