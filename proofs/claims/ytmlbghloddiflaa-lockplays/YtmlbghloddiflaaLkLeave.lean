/-
  The contracts of a place's calls: takeBack, leave, ahead.
-/
import Derived.Test.YtmlbghloddiflaaLkGive
namespace Go.Proofs.Ytmlbghloddiflaa
open Go.RowKit
set_option linter.unusedVariables false

section
variable {w : World} {g : Nat} {p : Pt} {S : Nat → Sl} {x : Nat}
theorem setHad_same (p : Pt) (x : Nat) : p.setHad x (p.had x) = p := by
  obtain ⟨f, r⟩ := p
  unfold Pt.setHad
  congr 1
  funext y
  unfold setF
  split
  · subst_vars; rfl
  · rfl
set_option maxRecDepth 8000 in
set_option maxHeartbeats 800000 in
theorem back13 (h : TAt w g p S) (hx : x < 288) (hs : SortW (p.had x)) (hl : (p.had x).length ≤ 1000000) (who : Int) : Calls Try.prog 51 #[.pointer (some ⟨g, x * 2, none⟩), .int .i64 who] w fun e w' => (∃ v, e = .returned v) ∧ Aft1 (x * 2) w g S (p.setHad x (awayL (p.had x) who)) w' := by
  have HF := hide (find13 h hx hs hl who)
  have H := hide h
  have HS := hide hs
  clear h hs
  go_enter Try.func51, Try.ntmps51
  go_wp2_with fail
  refine HF.out.mono ?_
  rintro e w1 ⟨i, q, rfl, hi, h1, h2, h3, hb⟩
  have HB := hide hb
  clear hb HF
  cases q with
  | false =>
    have HE : Aft1 (x * 2) w g S (p.setHad x (awayL (p.had x) who)) w1 := by
      rw [away_self (found_not h1 (h3 rfl)), setHad_same]
      exact Aft1.same H.out HB.out
    have HE := hide HE
    clear h1 h2 h3
    go_wp2
    go_end0
    exact ⟨⟨_, rfl⟩, HE.out⟩
  | true =>
    obtain ⟨k, hk, hkw⟩ := h2 rfl
    have hil := (List.getElem?_eq_some_iff.1 hk).1
    have ha := away_del HS.out i hk hkw
    have h1' := H.out.later HB.out
    have c0 := h1'.had hx
    have HD := hide (del13 w1 (S (x * 2)) (p.had x) (h1'.hadB hx) i (i + 1) (by omega) (by omega) hl)
    rw [← ha] at HD
    have e1 : ((i + 1 : Nat) : Int) = (i : Int) + 1 := by omega
    rw [e1] at HD
    have hn : i ≤ 1000000 := by omega
    clear h1 h2 h3 e1 ha hkw hk hil h1'
    obtain ⟨V, hV⟩ : ∃ V, V = slV (S (x * 2)) (p.had x).length := ⟨_, rfl⟩
    rw [← hV] at c0 HD
    clear hV
    go_wp2_with fail
    refine HD.out.mono ?_
    rintro e w3 ⟨rfl, hB, hT⟩
    have h1' := H.out.later HB.out
    have hg3 : RowAt w3 g 35 (tabA p.sl S) := hT.row h1'.row (h1'.off (s := x * 2) (by omega))
    have hc3 : w3.cell? ⟨g, x * 2, none⟩ = some (slV (S (x * 2)) (p.sl (x * 2)).length) := hg3.cell _ _ (tabA_get _ _ (by omega))
    have hf3 : w3.frozen? ⟨g, x * 2, none⟩ = false := hg3.free _
    have HE := hide (Aft1.first HB.out (h1'.put (p' := p.setHad x (awayL (p.had x) who)) (s := x * 2) (by omega) (S (x * 2)) (awayL (p.had x) who) (fun t => sl_setHad p x _ t) hB hT (fun q hq => .inl hq)))
    generalize slV (S (x * 2)) (p.sl (x * 2)).length = o1 at hc3
    unfold slV at HE ⊢
    clear hB hT hg3 h1' HD HB H HS c0
    go_wp2
    go_end0
    exact ⟨⟨_, rfl⟩, HE.out⟩
/-- The class of worlds in which a lock lies in its box and the table is there. -/
def CB (w : World) (g : Nat) (p : Pt) (S : Nat → Sl) (gb : Nat) (A : Array Value) (y : World) : Prop := TAt y g p S ∧ RowAt y gb 46 A ∧ Below w.heap.size w y
theorem CB.later {w y z : World} {gb : Nat} {A : Array Value} (h : CB w g p S gb A y) (q : Below y.heap.size y z) : CB w g p S gb A z := ⟨h.1.later q, h.2.1.later q, h.2.2.trans (q.mono h.2.2.size)⟩
theorem CB.drew {w y : World} {gb : Nat} {A : Array Value} (h : CB w g p S gb A y) : CB w g p S gb A y.drew := ⟨h.1.drew, h.2.1, h.2.2.drew⟩
theorem CB.new (h : TAt w g p S) (A : Array Value) : CB w g p S w.heap.size A (w.alloc (.cells A 46)) :=
  have b1 : Below w.heap.size w (w.alloc (.cells A 46)) := (Below.refl w.heap.size w).alloc (Nat.le_refl _) _
  ⟨h.later b1, RowAt.new w _ _, b1⟩
theorem load_sl {y : World} {g s : Nat} {v : Value} (h : y.cell? ⟨g, s, none⟩ = some v) : (Instr.loadAt 30 (.pointer (some ⟨g, s, none⟩))).run Try.prog y = .ok v y := by go_simp
set_option maxRecDepth 8000 in
set_option maxHeartbeats 1600000 in
theorem ahead13 (h : TAt w g p S) (hx : x < 288) (k : Hd) (i : Nat) (hf : k.fine) (hfl : ∀ q ∈ p.row x, q.fine) (hi : (p.row x)[i]? = some k) (hn : ∀ j q, j < i → (p.row x)[j]? = some q → q ≠ k) (hl : (p.row x).length ≤ 1000000) :
    Calls Try.prog 42 #[.pointer (some ⟨g, x * 2, none⟩), .agg (hdA k)] w fun e w' => e = .returned (slV (S (x * 2 + 1)) i) ∧ Below w.heap.size w w' := by
  have hil := (List.getElem?_eq_some_iff.1 hi).1
  obtain ⟨b, hb0, _⟩ := (h.rowB hx).at hi
  have HX := hide (fun y (hy : CB w g p S w.heap.size (hdA k) y) => index13 (S (x * 2 + 1)) (p.row x) k i y (hy.1.rowB hx) hf hfl hi hn hl)
  have HC := hide (fun y (hy : CB w g p S w.heap.size (hdA k) y) => hy.1.rows hx)
  have hcap := (h.rowB hx).cap
  have H0 := hide (CB.new h (hdA k))
  rw [slV_some hb0] at HX HC ⊢
  have HL := hide (fun y (hy : CB w g p S w.heap.size (hdA k) y) => load_box hy.2.1)
  have i1 : (i : Int) ≤ ((p.row x).length : Int) := by omega
  clear h hf hfl hi hn hb0 hil
  generalize (p.row x).length = n at *
  generalize (S (x * 2 + 1)).c = c at *
  generalize hdA k = A at *
  obtain ⟨gb, hgb⟩ : ∃ gb, gb = w.heap.size := ⟨_, rfl⟩
  go_enter Try.func42, Try.ntmps42
  go_wp2_with fail
  have hc2 : (i : Int) ≤ (c : Int) := by omega
  refine wp_region_in (CB w g p S w.heap.size A) (by kernel_rfl) (by kernel_rfl) H0.out.drew ?_
  repeat (first
    | go_big_quiet_skip
    | (refine wpQuiet_load rfl 30 (.tmp 7) rfl _ (.slice (some ⟨b, 0, none⟩) n c) rfl (fun y hy => load_sl (HC.out y hy)) ?_; simp only [Act.put, Array.setIfInBounds, List.size_toArray, List.length_cons, List.length_nil, Nat.reduceAdd, Nat.reduceLT, ↓reduceDIte, List.set_toArray, List.set_cons_succ, List.set_cons_zero])
    | (refine wpQuiet_load rfl 30 (.tmp 11) rfl _ (.slice (some ⟨b, 0, none⟩) n c) rfl (fun y hy => load_sl (HC.out y hy)) ?_; simp only [Act.put, Array.setIfInBounds, List.size_toArray, List.length_cons, List.length_nil, Nat.reduceAdd, Nat.reduceLT, ↓reduceDIte, List.set_toArray, List.set_cons_succ, List.set_cons_zero])
    | (refine wpQuiet_load rfl 46 (.tmp 3) rfl _ (.agg A) rfl (fun y hy => HL.out y hy) ?_; simp only [Act.put, Array.setIfInBounds, List.size_toArray, List.length_cons, List.length_nil, Nat.reduceAdd, Nat.reduceLT, ↓reduceDIte, List.set_toArray, List.set_cons_succ, List.set_cons_zero])
    | (refine wpQuiet_call rfl 69 #[.slice (some ⟨b, 0, none⟩) n c, .agg A] (.int .i64 (i : Int)) ?_ (fun y hC => (HX.out y hC).mono fun e x' h => ⟨h.1, hC.later h.2⟩) ?_; (intro x; go_simp); simp only [Act.put, Array.setIfInBounds, List.size_toArray, List.length_cons, List.length_nil, Nat.reduceAdd, Nat.reduceLT, ↓reduceDIte, List.set_toArray, List.set_cons_succ, List.set_cons_zero])
    | (refine wpQuiet_plain rfl (fun K hK => ?_); go_simp; refine hK _ ?_; clear hK K))
  refine wpQuiet_nil ?_
  intro y hy
  have HY := hide hy
  clear hy
  go_wp2
  go_ret
  exact ⟨rfl, HY.out.2.2⟩
set_option maxRecDepth 8000 in
set_option maxHeartbeats 1600000 in
theorem leave13 (h : TAt w g p S) (hx : x < 288) (k : Hd) (i : Nat) (hf : k.fine) (hfl : ∀ q ∈ p.row x, q.fine) (hi : (p.row x)[i]? = some k) (hn : ∀ j q, j < i → (p.row x)[j]? = some q → q ≠ k) (hl : (p.row x).length ≤ 1000000) :
    Calls Try.prog 50 #[.pointer (some ⟨g, x * 2, none⟩), .agg (hdA k)] w fun e w' => (∃ v, e = .returned v) ∧ Aft1 (x * 2 + 1) w g S (p.setRow x ((p.row x).take i ++ (p.row x).drop (i + 1))) w' := by
  have hil := (List.getElem?_eq_some_iff.1 hi).1
  obtain ⟨b, hb0, _⟩ := (h.rowB hx).at hi
  have HX := hide (fun y (hy : CB w g p S w.heap.size (hdA k) y) => index13 (S (x * 2 + 1)) (p.row x) k i y (hy.1.rowB hx) hf hfl hi hn hl)
  have HC := hide (fun y (hy : CB w g p S w.heap.size (hdA k) y) => hy.1.rows hx)
  have HD := hide (fun y (hy : CB w g p S w.heap.size (hdA k) y) => del13 y (S (x * 2 + 1)) (p.row x) (hy.1.rowB hx) i (i + 1) (by omega) (by omega) hl)
  have e1 : ((i + 1 : Nat) : Int) = (i : Int) + 1 := by omega
  rw [e1] at HD
  have H0 := hide (CB.new h (hdA k))
  have HL := hide (fun y (hy : CB w g p S w.heap.size (hdA k) y) => load_box hy.2.1)
  have hn6 : i ≤ 1000000 := by omega
  clear h hf hfl hi hn hil hb0 e1 hl
  obtain ⟨V, hV⟩ : ∃ V, V = slV (S (x * 2 + 1)) (p.row x).length := ⟨_, rfl⟩
  rw [← hV] at HX HC HD
  clear hV
  generalize (List.take i (p.row x) ++ List.drop (i + 1) (p.row x)) = L at *
  generalize hdA k = A at *
  go_enter Try.func50, Try.ntmps50
  go_wp2_with fail
  refine wp_region_in (CB w g p S w.heap.size A) (by kernel_rfl) (by kernel_rfl) H0.out.drew ?_
  repeat (first
    | go_big_quiet_skip
    | (refine wpQuiet_load rfl 30 (.tmp 7) rfl _ V rfl (fun y hy => load_sl (HC.out y hy)) ?_; simp only [Act.put, Array.setIfInBounds, List.size_toArray, List.length_cons, List.length_nil, Nat.reduceAdd, Nat.reduceLT, ↓reduceDIte, List.set_toArray, List.set_cons_succ, List.set_cons_zero])
    | (refine wpQuiet_load rfl 46 (.tmp 3) rfl _ (.agg A) rfl (fun y hy => HL.out y hy) ?_; simp only [Act.put, Array.setIfInBounds, List.size_toArray, List.length_cons, List.length_nil, Nat.reduceAdd, Nat.reduceLT, ↓reduceDIte, List.set_toArray, List.set_cons_succ, List.set_cons_zero])
    | (refine wpQuiet_call rfl 69 #[V, .agg A] (.int .i64 (i : Int)) ?_ (fun y hC => (HX.out y hC).mono fun e x' h => ⟨h.1, hC.later h.2⟩) ?_; (intro x; go_simp); simp only [Act.put, Array.setIfInBounds, List.size_toArray, List.length_cons, List.length_nil, Nat.reduceAdd, Nat.reduceLT, ↓reduceDIte, List.set_toArray, List.set_cons_succ, List.set_cons_zero])
    | (refine wpQuiet_plain rfl (fun K hK => ?_); go_simp; refine hK _ ?_; clear hK K))
  refine wpQuiet_nil ?_
  intro y hy
  have HY := hide hy
  have c0 := HC.out y hy
  have HD1 := hide (HD.out y hy)
  clear hy HX HC HD HL H0
  go_wp2_with fail
  refine HD1.out.mono ?_
  rintro e w3 ⟨rfl, hB, hT⟩
  have h1' := HY.out.1
  have hg3 : RowAt w3 g 35 (tabA p.sl S) := hT.row h1'.row (h1'.off (s := x * 2 + 1) (by omega))
  have hc3 : w3.cell? ⟨g, x * 2 + 1, none⟩ = some (slV (S (x * 2 + 1)) (p.sl (x * 2 + 1)).length) := hg3.cell _ _ (tabA_get _ _ (by omega))
  have hf3 : w3.frozen? ⟨g, x * 2 + 1, none⟩ = false := hg3.free _
  have HE := hide (Aft1.first HY.out.2.2 (h1'.put (p' := p.setRow x L) (s := x * 2 + 1) (by omega) (S (x * 2 + 1)) _ (fun t => sl_setRow p x _ t) hB hT (fun q hq => .inl hq)))
  generalize slV (S (x * 2 + 1)) (p.sl (x * 2 + 1)).length = o1 at hc3
  unfold slV at HE ⊢
  clear hB hT hg3 h1' HD1 HY c0
  go_wp2
  go_end0
  exact ⟨⟨_, rfl⟩, HE.out⟩
end
end Go.Proofs.Ytmlbghloddiflaa
