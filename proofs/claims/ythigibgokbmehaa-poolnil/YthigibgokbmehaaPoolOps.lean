/-
  The contracts of package pool's calls on one page, over texts: Get, Put, Set, Clean, Fix, Unfix, Drop, Rec, Full. (gen11/ops.py)
-/
import Derived.Test.YthigibgokbmehaaPoolSmall
namespace Go.Proofs.Ythigibgokbmehaa
open Go.RowKit
set_option linter.unusedVariables false

section
variable {w : World} {g gr : Nat} {p : Po}
theorem infoF11 : (Try.prog.info? 87).map (·.size) = some 6 := by kernel_rfl

set_option maxRecDepth 4000 in
set_option maxHeartbeats 800000 in
theorem get11 (id : Int) (hz : p.z = .string ⟨#[]⟩) (hn : p.n ≤ 16) (h : PS w g gr p) : Calls Try.prog 17 #[.pointer (some ⟨g, 0, none⟩), .int .i64 id] w fun e w' => e = .returned (.tuple #[p.getX id, .bool (p.has id)]) ∧ PS w' g gr (p.get id) ∧ Tn (FP g gr) w w' := by
  have HF := hide (find11 id hn h)
  have HZ := hide hz
  clear hz
  unfold Po.getX Po.has Po.get
  cases e : p.at id with
  | none =>
    rw [e] at HF
    have HH := hide h
    clear h e
    go_enter Try.func17, Try.ntmps17
    go_wp2_with fail
    refine HF.out.mono ?_
    rintro e w1 ⟨rfl, rfl⟩
    go_wp2
    go_ret2
    exact ⟨by simp only [HZ.out]; rfl, HH.out, Tn.refl _ _⟩
  | some i =>
    rw [e] at HF
    have hi := Po.at_lt e
    have HI := hide hi
    obtain ⟨d0, d1, d2, d3, d4, d5⟩ := h.six hi
    have f2 := (h.free (i * 6 + 2)).1
    have f3 := (h.free (i * 6 + 3)).1
    have f4 := (h.free (i * 6 + 4)).1
    have f5 := (h.free (i * 6 + 5)).1
    have HH := hide h
    clear e hi
    clear h
    go_enter Try.func17, Try.ntmps17
    go_wp2_with fail
    refine HF.out.mono ?_
    rintro e w1 ⟨rfl, rfl⟩
    go_wp2
    go_ret2
    exact ⟨rfl, HH.out.one HI.out 3 _ _ (by decide) rfl, HH.out.tn _ _⟩

set_option maxRecDepth 4000 in
set_option maxHeartbeats 800000 in
theorem clean11 (id : Int) (hn : p.n ≤ 16) (h : PS w g gr p) : Calls Try.prog 31 #[.pointer (some ⟨g, 0, none⟩), .int .i64 id] w fun e w' => e = .returned (.int .i64 (p.noE id)) ∧ PS w' g gr (p.clean id) ∧ Tn (FP g gr) w w' := by
  have HF := hide (find11 id hn h)
  unfold Po.noE Po.has Po.clean
  cases e : p.at id with
  | none =>
    rw [e] at HF
    have HH := hide h
    clear h e
    go_enter Try.func31, Try.ntmps31
    go_wp2_with fail
    refine HF.out.mono ?_
    rintro e w1 ⟨rfl, rfl⟩
    go_wp2
    go_ret
    exact ⟨rfl, HH.out, Tn.refl _ _⟩
  | some i =>
    rw [e] at HF
    have hi := Po.at_lt e
    have HI := hide hi
    obtain ⟨d0, d1, d2, d3, d4, d5⟩ := h.six hi
    have f2 := (h.free (i * 6 + 2)).1
    have f3 := (h.free (i * 6 + 3)).1
    have f4 := (h.free (i * 6 + 4)).1
    have f5 := (h.free (i * 6 + 5)).1
    have HH := hide h
    clear e hi
    clear h
    go_enter Try.func31, Try.ntmps31
    go_wp2_with fail
    refine HF.out.mono ?_
    rintro e w1 ⟨rfl, rfl⟩
    go_wp2
    go_ret
    exact ⟨rfl, HH.out.one HI.out 5 _ _ (by decide) rfl, HH.out.tn _ _⟩

set_option maxRecDepth 4000 in
set_option maxHeartbeats 800000 in
theorem fix11 (id : Int) (hb : ∀ i, i < p.n → (p.fr i).f ≤ 100000) (hn : p.n ≤ 16) (h : PS w g gr p) : Calls Try.prog 34 #[.pointer (some ⟨g, 0, none⟩), .int .i64 id] w fun e w' => e = .returned (.int .i64 (p.noE id)) ∧ PS w' g gr (p.fix id) ∧ Tn (FP g gr) w w' := by
  have HF := hide (find11 id hn h)
  unfold Po.noE Po.has Po.fix
  cases e : p.at id with
  | none =>
    rw [e] at HF
    have HH := hide h
    clear h e
    go_enter Try.func34, Try.ntmps34
    go_wp2_with fail
    refine HF.out.mono ?_
    rintro e w1 ⟨rfl, rfl⟩
    go_wp2
    go_ret
    exact ⟨rfl, HH.out, Tn.refl _ _⟩
  | some i =>
    rw [e] at HF
    have hi := Po.at_lt e
    have HI := hide hi
    obtain ⟨d0, d1, d2, d3, d4, d5⟩ := h.six hi
    have f2 := (h.free (i * 6 + 2)).1
    have f3 := (h.free (i * 6 + 3)).1
    have f4 := (h.free (i * 6 + 4)).1
    have f5 := (h.free (i * 6 + 5)).1
    have HH := hide h
    clear e hi
    have hb' := hb i HI.out
    clear h hb
    have ew : IntKind.i64.wrap (((p.fr i).f : Int) + 1) = ((p.fr i).f : Int) + 1 := by rw [IntKind.wrap_i64]; omega
    go_enter Try.func34, Try.ntmps34
    go_wp2_with fail
    refine HF.out.mono ?_
    rintro e w1 ⟨rfl, rfl⟩
    go_wp2
    go_ret
    exact ⟨rfl, HH.out.one HI.out 4 _ _ (by decide) (by simp [frL]), HH.out.tn _ _⟩

set_option maxRecDepth 4000 in
set_option maxHeartbeats 800000 in
theorem unfix11 (id : Int) (hb : ∀ i, i < p.n → (p.fr i).f ≤ 100000) (hn : p.n ≤ 16) (h : PS w g gr p) : Calls Try.prog 27 #[.pointer (some ⟨g, 0, none⟩), .int .i64 id] w fun e w' => e = .returned (.int .i64 (p.unfixE id)) ∧ PS w' g gr (p.unfix id) ∧ Tn (FP g gr) w w' := by
  have HF := hide (find11 id hn h)
  unfold Po.unfixE Po.unfix
  cases e : p.at id with
  | none =>
    rw [e] at HF
    have HH := hide h
    clear h e
    go_enter Try.func27, Try.ntmps27
    go_wp2_with fail
    refine HF.out.mono ?_
    rintro e w1 ⟨rfl, rfl⟩
    go_wp2
    go_ret
    exact ⟨rfl, HH.out, Tn.refl _ _⟩
  | some i =>
    rw [e] at HF
    have hi := Po.at_lt e
    have HI := hide hi
    obtain ⟨d0, d1, d2, d3, d4, d5⟩ := h.six hi
    have f2 := (h.free (i * 6 + 2)).1
    have f3 := (h.free (i * 6 + 3)).1
    have f4 := (h.free (i * 6 + 4)).1
    have f5 := (h.free (i * 6 + 5)).1
    have HH := hide h
    clear e hi
    have hb' := hb i HI.out
    clear h hb
    by_cases hf : (p.fr i).f = 0
    · simp only [hf, if_true]
      rw [hf] at d4
      clear hf hb'
      go_enter Try.func27, Try.ntmps27
      go_wp2_with fail
      refine HF.out.mono ?_
      rintro e w1 ⟨rfl, rfl⟩
      go_wp2
      go_ret
      exact ⟨rfl, HH.out, Tn.refl _ _⟩
    · simp only [hf, if_false]
      have ew : IntKind.i64.wrap (((p.fr i).f : Int) - 1) = ((p.fr i).f : Int) - 1 := by rw [IntKind.wrap_i64]; omega
      have hf2 : ¬ ((p.fr i).f : Int) = 0 := by omega
      have hf3 : (((p.fr i).f : Int) == 0) = false := by simpa using hf
      have HS := hide (show frL { p.fr i with f := (p.fr i).f - 1 } = (frL (p.fr i)).set 4 (.int .i64 (((p.fr i).f : Int) - 1)) from by simp [frL]; omega)
      clear hf
      go_enter Try.func27, Try.ntmps27
      go_wp2_with fail
      refine HF.out.mono ?_
      rintro e w1 ⟨rfl, rfl⟩
      go_wp2
      go_ret
      exact ⟨rfl, HH.out.one HI.out 4 _ _ (by decide) HS.out, HH.out.tn _ _⟩

set_option maxRecDepth 4000 in
set_option maxHeartbeats 800000 in
theorem set11 (id : Int) (s : ByteArray) (r : Int) (hn : p.n ≤ 16) (h : PS w g gr p) : Calls Try.prog 32 #[.pointer (some ⟨g, 0, none⟩), .int .i64 id, .string s, .int .u64 r] w fun e w' => e = .returned (.int .i64 (p.noE id)) ∧ PS w' g gr (p.setP id (.string s) r) ∧ Tn (FP g gr) w w' := by
  have HF := hide (find11 id hn h)
  unfold Po.noE Po.has Po.setP
  cases e : p.at id with
  | none =>
    rw [e] at HF
    have HH := hide h
    clear h e
    go_enter Try.func32, Try.ntmps32
    go_wp2_with fail
    refine HF.out.mono ?_
    rintro e w1 ⟨rfl, rfl⟩
    go_wp2
    go_ret
    exact ⟨rfl, HH.out, Tn.refl _ _⟩
  | some i =>
    rw [e] at HF
    have hi := Po.at_lt e
    have HI := hide hi
    obtain ⟨d0, d1, d2, d3, d4, d5⟩ := h.six hi
    have f2 := (h.free (i * 6 + 2)).1
    have f3 := (h.free (i * 6 + 3)).1
    have f4 := (h.free (i * 6 + 4)).1
    have f5 := (h.free (i * 6 + 5)).1
    have HH := hide h
    clear e hi
    clear h
    by_cases hr : (p.fr i).r = 0
    · simp only [hr, if_true]
      have HR := hide hr
      rw [hr] at d5
      clear hr
      go_enter Try.func32, Try.ntmps32
      go_wp2_with fail
      refine HF.out.mono ?_
      rintro e w1 ⟨rfl, rfl⟩
      go_wp2
      go_ret
      refine ⟨rfl, ?_, (HH.out.tn _ _).set _ _ _ (.inr rfl)⟩
      have h1 := HH.out.one HI.out 2 (.string s) { p.fr i with x := .string s } (by decide) rfl
      have h2 := h1.one (i := i) HI.out 5 (.int .u64 r) { p.fr i with x := .string s, r := r } (by decide) (by rw [Po.set_same]; rfl)
      rw [Po.set_set] at h2
      exact h2
    · simp only [hr, if_false]
      have hr3 : ((p.fr i).r == 0) = false := by simpa using hr
      go_enter Try.func32, Try.ntmps32
      go_wp2_with fail
      refine HF.out.mono ?_
      rintro e w1 ⟨rfl, rfl⟩
      go_wp2
      go_ret
      exact ⟨rfl, HH.out.one HI.out 2 _ _ (by decide) rfl, HH.out.tn _ _⟩

set_option maxRecDepth 4000 in
set_option maxHeartbeats 800000 in
theorem drop11 (id : Int) (hz : p.z = .string ⟨#[]⟩) (hn : p.n ≤ 16) (h : PS w g gr p) : Calls Try.prog 28 #[.pointer (some ⟨g, 0, none⟩), .int .i64 id] w fun e w' => e = .returned (.int .i64 (p.dropE id)) ∧ PS w' g gr (p.drop id) ∧ Tn (FP g gr) w w' := by
  have HF := hide (find11 id hn h)
  have HZ := hide hz
  clear hz
  unfold Po.dropE Po.drop
  cases e : p.at id with
  | none =>
    rw [e] at HF
    have HH := hide h
    clear h e
    go_enter Try.func28, Try.ntmps28
    go_wp2_with fail
    refine HF.out.mono ?_
    rintro e w1 ⟨rfl, rfl⟩
    go_wp2
    go_ret
    exact ⟨rfl, HH.out, Tn.refl _ _⟩
  | some i =>
    rw [e] at HF
    have hi := Po.at_lt e
    have HI := hide hi
    obtain ⟨d0, d1, d2, d3, d4, d5⟩ := h.six hi
    have f2 := (h.free (i * 6 + 2)).1
    have f3 := (h.free (i * 6 + 3)).1
    have f4 := (h.free (i * 6 + 4)).1
    have f5 := (h.free (i * 6 + 5)).1
    have HH := hide h
    clear e hi
    clear d0 d1 d2 d3 d5
    by_cases hf : (p.fr i).f = 0
    · simp only [hf, if_true]
      rw [hf] at d4
      obtain ⟨cap, cs, hA, hB, hC, hD⟩ := h
      have HB := hide hB
      have HC := hide hC
      have HS := hide (show i * 6 + 6 ≤ cs.size from by have := hC.size; have := HI.out; omega)
      have HP := hide (show ∀ w2, RowAt w2 gr 87 (partA cs (i * 6) (frL (Fr.empty p.z))) → Only gr w w2 → PS w2 g gr (p.set i (Fr.empty p.z)) from fun w2 h1 h2 => ⟨cap, _, h2.row hA HH.out.apart, h1, hC.part HI.out _, hD⟩)
      rw [HZ.out] at HP
      clear hf hA hB hC hD
      go_enter Try.func28, Try.ntmps28
      go_wp2_with fail
      refine HF.out.mono ?_
      rintro e w1 ⟨rfl, rfl⟩
      go_wp2_with (refine wpList_store_part rfl 87 _ _ rfl gr (i * 6) 87 cs (frL (Fr.empty (.string ⟨#[]⟩))).toArray rfl rfl HB.out infoF11 HS.out ?_ ?_)
      · exact frL_one _ rfl
      intro w2 hP hO
      have HQ := hide (HP.out w2 hP hO)
      have HT := hide (Tn.of_only (F := FP g gr) hO (.inr rfl))
      clear hP hO
      go_wp2
      go_ret
      exact ⟨rfl, by rw [HZ.out]; exact HQ.out, HT.out⟩
    · simp only [hf, if_false]
      have hf2 : (0 : Int) < ((p.fr i).f : Int) := by omega
      clear h
      go_enter Try.func28, Try.ntmps28
      go_wp2_with fail
      refine HF.out.mono ?_
      rintro e w1 ⟨rfl, rfl⟩
      go_wp2
      go_ret
      exact ⟨rfl, HH.out, Tn.refl _ _⟩

set_option maxRecDepth 4000 in
set_option maxHeartbeats 800000 in
theorem rec11 (id : Int) (hn : p.n ≤ 16) (h : PS w g gr p) : Calls Try.prog 33 #[.pointer (some ⟨g, 0, none⟩), .int .i64 id] w fun e w' => e = .returned (.tuple #[.int .u64 (p.recN id), .bool (decide (p.recN id ≠ 0))]) ∧ Below w.heap.size w w' := by
  have HF := hide (find11 id hn h)
  unfold Po.recN
  cases e : p.at id with
  | none =>
    rw [e] at HF
    have HH := hide h
    clear h e
    go_enter Try.func33, Try.ntmps33
    go_wp2_with fail
    refine HF.out.mono ?_
    rintro e w1 ⟨rfl, rfl⟩
    go_wp2
    go_ret2
    exact ⟨rfl, Below.refl _ _⟩
  | some i =>
    rw [e] at HF
    have hi := Po.at_lt e
    have HI := hide hi
    obtain ⟨d0, d1, d2, d3, d4, d5⟩ := h.six hi
    have f2 := (h.free (i * 6 + 2)).1
    have f3 := (h.free (i * 6 + 3)).1
    have f4 := (h.free (i * 6 + 4)).1
    have f5 := (h.free (i * 6 + 5)).1
    have HH := hide h
    clear e hi
    clear h
    by_cases hr : (p.fr i).r = 0
    · simp only [hr]
      rw [hr] at d5
      clear hr
      go_enter Try.func33, Try.ntmps33
      go_wp2_with fail
      refine HF.out.mono ?_
      rintro e w1 ⟨rfl, rfl⟩
      go_wp2_with fail
      go_quiet (fail)
      go_wp2
      go_ret2
      exact ⟨rfl, below_dn (Below.refl _ _) nq⟩
    · have HE := hide (decide_eq_true (show (p.fr i).r ≠ 0 from hr))
      have hr3 : ((p.fr i).r == 0) = false := by simpa using hr
      have hr4 : ((p.fr i).r != 0) = true := by simpa using hr
      go_enter Try.func33, Try.ntmps33
      go_wp2_with fail
      refine HF.out.mono ?_
      rintro e w1 ⟨rfl, rfl⟩
      go_wp2_with fail
      go_quiet (fail)
      go_wp2
      go_ret2
      exact ⟨by rw [HE.out]; rfl, below_dn (Below.refl _ _) nq⟩

set_option maxRecDepth 4000 in
set_option maxHeartbeats 800000 in
theorem full11 (hn : p.n ≤ 16) (h : PS w g gr p) : Calls Try.prog 35 #[.pointer (some ⟨g, 0, none⟩)] w fun e w' => e = .returned (.bool p.gap.isNone) ∧ w = w' := by
  have HF := hide (gap11 hn h)
  clear h
  cases e : p.gap with
  | none =>
    rw [e] at HF
    clear e
    go_enter Try.func35, Try.ntmps35
    go_wp2_with fail
    refine HF.out.mono ?_
    rintro e w1 ⟨rfl, rfl⟩
    go_wp2
    go_ret
    exact ⟨rfl, rfl⟩
  | some i =>
    rw [e] at HF
    clear e
    go_enter Try.func35, Try.ntmps35
    go_wp2_with fail
    refine HF.out.mono ?_
    rintro e w1 ⟨rfl, rfl⟩
    go_wp2
    go_ret
    exact ⟨rfl, rfl⟩

set_option maxRecDepth 4000 in
set_option maxHeartbeats 800000 in
theorem put11 (id : Int) (s : ByteArray) (hn : p.n ≤ 16) (h : PS w g gr p) : Calls Try.prog 30 #[.pointer (some ⟨g, 0, none⟩), .int .i64 id, .string s] w fun e w' => e = .returned (.int .i64 (p.putE id)) ∧ PS w' g gr (p.put id (.string s)) ∧ Tn (FP g gr) w w' := by
  have HF := hide (find11 id hn h)
  have HG := hide (gap11 hn h)
  unfold Po.putE Po.put
  by_cases g1 : id < 0
  · rw [if_pos (.inl g1), if_pos (.inl g1)]
    have HH := hide h
    clear h
    go_enter Try.func30, Try.ntmps30
    go_wp2
    go_ret
    exact ⟨rfl, HH.out, Tn.refl _ _⟩
  · by_cases g2 : 32 ≤ id
    · rw [if_pos (.inr g2), if_pos (.inr g2)]
      have HH := hide h
      clear h
      go_enter Try.func30, Try.ntmps30
      go_wp2
      go_ret
      exact ⟨rfl, HH.out, Tn.refl _ _⟩
    · have gn : ¬ (id < 0 ∨ 32 ≤ id) := by omega
      rw [if_neg gn, if_neg gn]
      clear gn
      unfold Po.has
      cases e : p.at id with
      | some i =>
        rw [e] at HF
        have HH := hide h
        clear h e
        simp only [Option.isSome_some, if_true]
        go_enter Try.func30, Try.ntmps30
        go_wp2_with fail
        refine HF.out.mono ?_
        rintro e w1 ⟨rfl, rfl⟩
        go_wp2
        go_ret
        exact ⟨rfl, HH.out, Tn.refl _ _⟩
      | none =>
        rw [e] at HF
        clear e
        simp only [Option.isSome_none, Bool.false_eq_true, if_false]
        cases e : p.gap with
        | none =>
          rw [e] at HG
          have HH := hide h
          clear h e
          simp only [if_true]
          go_enter Try.func30, Try.ntmps30
          go_wp2_with fail
          refine HF.out.mono ?_
          rintro e w1 ⟨rfl, rfl⟩
          go_wp2_with fail
          refine HG.out.mono ?_
          rintro e w1 ⟨rfl, rfl⟩
          go_wp2
          go_ret
          exact ⟨rfl, HH.out, Tn.refl _ _⟩
        | some i =>
          rw [e] at HG
          have HH := hide h
          have hi := (Po.gap_some.1 e).1
          obtain ⟨cap, cs, hA, hB, hC, hD⟩ := h
          have HB := hide hB
          have HC := hide hC
          have HS := hide (show i * 6 + 6 ≤ cs.size from by have := hC.size; omega)
          have HP := hide (show ∀ w2, RowAt w2 gr 87 (partA cs (i * 6) (frL ⟨true, id, .string s, true, 0, 0⟩)) → Only gr w w2 → PS w2 g gr (p.set i ⟨true, id, .string s, true, 0, 0⟩) from fun w2 h1 h2 => ⟨cap, _, h2.row hA HH.out.apart, h1, hC.part hi _, hD⟩)
          clear hA hB hC hD hi e
          simp only [reduceCtorEq, if_false]
          go_enter Try.func30, Try.ntmps30
          go_wp2_with fail
          refine HF.out.mono ?_
          rintro e w1 ⟨rfl, rfl⟩
          go_wp2_with fail
          refine HG.out.mono ?_
          rintro e w1 ⟨rfl, rfl⟩
          go_wp2_with (refine wpList_store_part rfl 87 _ _ rfl gr (i * 6) 87 cs (frL ⟨true, id, .string s, true, 0, 0⟩).toArray rfl rfl HB.out infoF11 HS.out ?_ ?_)
          · exact frL_one _ rfl
          intro w2 hP hO
          have HQ := hide (HP.out w2 hP hO)
          have HT := hide (Tn.of_only (F := FP g gr) hO (.inr rfl))
          clear hP hO
          go_wp2
          go_ret
          exact ⟨rfl, HQ.out, HT.out⟩

end
end Go.Proofs.Ythigibgokbmehaa
