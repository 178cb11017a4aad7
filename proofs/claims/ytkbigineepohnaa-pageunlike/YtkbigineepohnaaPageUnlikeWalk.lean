/-
  The walk of PageUnlike: it returns true, and turns nothing that was there.
-/
import Derived.Test.YtkbigineepohnaaPageAwake
import Derived.Test.YtkbigineepohnaaPageCode
import Derived.Test.YtkbigineepohnaaPageEq
import Derived.Test.YtkbigineepohnaaPageKept
import Derived.OpenShut
import Derived.Test.YtkbigineepohnaaQuietIn
namespace Go.Proofs.Ytkbigineepohnaa.pageUnlike
open Go.RowKit
set_option linter.unusedVariables false

theorem str_eq (L M : List UInt8) : ((⟨L.toArray⟩ : ByteArray).toList == (⟨M.toArray⟩ : ByteArray).toList) = decide (L = M) := by
  rw [ByteArray.toList_eq, ByteArray.toList_eq]
  have ea : ∀ l : List UInt8, (⟨l.toArray⟩ : ByteArray).data.toList = l := fun l => rfl
  rw [ea, ea]
  by_cases hab : L = M <;> simp [hab]

set_option maxRecDepth 4000 in
set_option maxHeartbeats 400000 in
theorem core (id jd : Int) (p q : Pg) (w : World) (hp : p.fits) (hq : q.fits) :
    Calls Try.prog 7 #[.int .i64 id, .int .i64 jd, .agg (pgA p), .agg (pgA q)] w fun e w' => e = .returned (.bool true) ∧ Below w.heap.size w w' := by
  have HF := hide (And.intro hp hq)
  clear hp hq
  go_enter Try.func7, Try.ntmps7
  go_wp2_with fail
  have HP := hide (Pair.new w p q)
  obtain ⟨k, hk⟩ : ∃ k, k = w.heap.size + 1 := ⟨_, rfl⟩
  rw [← hk] at HP ⊢
  refine gen_calls (fun x => Hid (Pair w w.heap.size k p q x)) HP ?_
  clear HP hk
  intro w0 HP
  refine (awake_any _).mono ?_
  rintro e w1 ⟨rfl, hb1⟩
  have HP1 := hide (HP.out.later hb1)
  clear HP hb1
  go_wp2_with (refine wpList_load_page rfl (.tmp 6) rfl w.heap.size rfl p HP1.out.1 ?_)
  refine (enc_any id p _).mono ?_
  rintro e w2 ⟨v, rfl, hown2, hb2⟩
  have HP2 := hide (HP1.out.later hb2)
  obtain ⟨a2, cap2, hv, hcap2, hB2⟩ := shape_isB hown2
  rw [hv]
  clear hown2 hb2 HP1 hv
  go_wp2_with (refine wpList_load_page rfl (.tmp 7) rfl k rfl q HP2.out.2.1 ?_)
  refine (enc_any jd q _).mono ?_
  rintro e w3 ⟨v3, rfl, hown3, hb3⟩
  have HP3 := hide (HP2.out.later hb3)
  obtain ⟨a3, cap3, hv3, hcap3, hB3⟩ := shape_isB hown3
  rw [hv3]
  have hB4 := hB2.below hb3
  clear hb3 HP2 hB2 hown3 hv3
  by_cases h1 : 0 ≤ id ∧ id ≤ 31 ∧ p.right
  · by_cases h2 : 0 ≤ jd ∧ jd ≤ 31 ∧ q.right
    · have e1 : encB id p = (imageB id.toNat p, 0) := by unfold encB; rw [if_pos h1]
      have e2 : encB jd q = (imageB jd.toNat q, 0) := by unfold encB; rw [if_pos h2]
      rw [e1] at hB4 ⊢
      rw [e2] at hB3 ⊢
      clear e1 e2
      have hiff : imageB id.toNat p = imageB jd.toNat q ↔ id = jd ∧ p.same q := by
        constructor
        · intro h
          obtain ⟨g1, g2⟩ := image_inj h1.2.2 h2.2.2 (by omega) (by omega) h
          exact ⟨by omega, g2⟩
        · rintro ⟨rfl, h⟩
          exact h.image _
      simp only at hB3 hB4 ⊢
      rw [imageB_length _ _ h1.2.2] at hB4 ⊢
      rw [imageB_length _ _ h2.2.2] at hB3 ⊢
      clear h1 h2
      generalize imageB id.toNat p = L at *
      generalize imageB jd.toNat q = M at *
      have hc1 : ∀ x, IsB x a2 256 L → Sem.run Try.prog (Go.convert 29 9 (.slice a2 256 cap2)) x = .ok (.string ⟨L.toArray⟩) x := fun x hx => run_toString (P := Try.prog) x 29 9 5 Try.underlying29 Try.underlying5 Try.underlying9 a2 256 cap2 _ hx
      have HC1 := hide hc1
      clear hc1
      have hc2 : ∀ x, IsB x a3 256 M → Sem.run Try.prog (Go.convert 29 9 (.slice a3 256 cap3)) x = .ok (.string ⟨M.toArray⟩) x := fun x hx => run_toString (P := Try.prog) x 29 9 5 Try.underlying29 Try.underlying5 Try.underlying9 a3 256 cap3 _ hx
      have HC2 := hide hc2
      clear hc2
      have hs := str_eq L M
      have HS : Hid (Pair w w.heap.size k p q w3.drew ∧ IsB w3.drew a2 256 L ∧ IsB w3.drew a3 256 M) := ⟨HP3.out.drew, hB4, hB3⟩
      clear hB3 hB4 HP3
      by_cases hij : id = jd
      · subst hij
        have e3 : decide (p.same q) = decide (L = M) := decide_eq_decide.2 ⟨fun h => hiff.2 ⟨rfl, h⟩, fun h => (hiff.1 h).2⟩
        have he := fun x => run_page_eql p q HF.out.1 HF.out.2 x
        rw [e3] at he
        have HE := hide he
        clear he hiff e3 HF
        obtain ⟨B, hB⟩ : ∃ B, decide (L = M) = B := ⟨_, rfl⟩
        rw [hB] at HE hs
        clear hB
        obtain ⟨L', hL⟩ : ∃ L' : ByteArray, ⟨L.toArray⟩ = L' := ⟨_, rfl⟩
        obtain ⟨M', hM⟩ : ∃ M' : ByteArray, ⟨M.toArray⟩ = M' := ⟨_, rfl⟩
        rw [hL] at HC1 hs
        rw [hM] at HC2 hs
        clear hL hM
        go_wp2_with fail
        refine wp_region_in (fun x => Pair w w.heap.size k p q x ∧ IsB x a2 256 L ∧ IsB x a3 256 M) (by kernel_rfl) (by kernel_rfl) HS.out ?_
        clear HS
        repeat (first
          | go_big_quiet_skip
          | (refine wpQuiet_convert rfl 29 9 (.tmp 33) rfl _ (.string L') rfl (fun y hy => HC1.out y hy.2.1) ?_; simp only [Act.put, Array.setIfInBounds, List.size_toArray, List.length_cons, List.length_nil, Nat.reduceAdd, Nat.reduceLT, ↓reduceDIte, List.set_toArray, List.set_cons_succ, List.set_cons_zero])
          | (refine wpQuiet_convert rfl 29 9 (.tmp 35) rfl _ (.string M') rfl (fun y hy => HC2.out y hy.2.2) ?_; simp only [Act.put, Array.setIfInBounds, List.size_toArray, List.length_cons, List.length_nil, Nat.reduceAdd, Nat.reduceLT, ↓reduceDIte, List.set_toArray, List.set_cons_succ, List.set_cons_zero])
          | (refine wpQuiet_load rfl 27 (.tmp 6) rfl _ (.agg (pgA p)) rfl (fun y hy => load_page y hy.1.1) ?_; simp only [Act.put, Array.setIfInBounds, List.size_toArray, List.length_cons, List.length_nil, Nat.reduceAdd, Nat.reduceLT, ↓reduceDIte, List.set_toArray, List.set_cons_succ, List.set_cons_zero])
          | (refine wpQuiet_load rfl 27 (.tmp 7) rfl _ (.agg (pgA q)) rfl (fun y hy => load_page y hy.1.2.1) ?_; simp only [Act.put, Array.setIfInBounds, List.size_toArray, List.length_cons, List.length_nil, Nat.reduceAdd, Nat.reduceLT, ↓reduceDIte, List.set_toArray, List.set_cons_succ, List.set_cons_zero])
          | (refine wpQuiet_binop rfl .eql 27 27 (.tmp 42) (.tmp 43) rfl _ _ (.bool B) rfl rfl (fun y => page_guard _ _ _ p q y) (fun y => HE.out y) ?_; simp only [Act.put, Array.setIfInBounds, List.size_toArray, List.length_cons, List.length_nil, Nat.reduceAdd, Nat.reduceLT, ↓reduceDIte, List.set_toArray, List.set_cons_succ, List.set_cons_zero])
          | (refine wpQuiet_plain rfl (fun K hK => ?_); go_simp; refine hK _ ?_; clear hK K))
        refine wpQuiet_nil ?_
        intro x hx
        have hf := hx.1.2.2.1
        clear hx HC1 HC2
        go_wp2
        go_ret
        exact ⟨rfl, hf⟩
      · have hne : ¬ L = M := fun h => hij (hiff.1 h).1
        rw [decide_eq_false hne] at hs
        have hij2 : (id == jd) = false := by simpa using hij
        clear hiff HF hne hij
        obtain ⟨L', hL⟩ : ∃ L' : ByteArray, ⟨L.toArray⟩ = L' := ⟨_, rfl⟩
        obtain ⟨M', hM⟩ : ∃ M' : ByteArray, ⟨M.toArray⟩ = M' := ⟨_, rfl⟩
        rw [hL] at HC1 hs
        rw [hM] at HC2 hs
        clear hL hM
        go_wp2_with fail
        refine wp_region_in (fun x => Pair w w.heap.size k p q x ∧ IsB x a2 256 L ∧ IsB x a3 256 M) (by kernel_rfl) (by kernel_rfl) HS.out ?_
        clear HS
        repeat (first
          | go_big_quiet_skip
          | (refine wpQuiet_convert rfl 29 9 (.tmp 33) rfl _ (.string L') rfl (fun y hy => HC1.out y hy.2.1) ?_; simp only [Act.put, Array.setIfInBounds, List.size_toArray, List.length_cons, List.length_nil, Nat.reduceAdd, Nat.reduceLT, ↓reduceDIte, List.set_toArray, List.set_cons_succ, List.set_cons_zero])
          | (refine wpQuiet_convert rfl 29 9 (.tmp 35) rfl _ (.string M') rfl (fun y hy => HC2.out y hy.2.2) ?_; simp only [Act.put, Array.setIfInBounds, List.size_toArray, List.length_cons, List.length_nil, Nat.reduceAdd, Nat.reduceLT, ↓reduceDIte, List.set_toArray, List.set_cons_succ, List.set_cons_zero])
          | (refine wpQuiet_plain rfl (fun K hK => ?_); go_simp; refine hK _ ?_; clear hK K))
        refine wpQuiet_nil ?_
        intro x hx
        have hf := hx.1.2.2.1
        clear hx HC1 HC2
        go_wp2
        go_ret
        exact ⟨rfl, hf⟩
    · have e2 : encB jd q = ([], 1) := by unfold encB; rw [if_neg h2]
      rw [e2]
      have e1 : encB id p = (imageB id.toNat p, 0) := by unfold encB; rw [if_pos h1]
      rw [e1]
      have hf := HP3.out.2.2.1
      clear hB3 hB4 HP3 HF h1 h2 e1 e2
      go_wp2
      go_ret
      exact ⟨rfl, hf⟩
  · have e1 : encB id p = ([], 1) := by unfold encB; rw [if_neg h1]
    rw [e1]
    have hf := HP3.out.2.2.1
    clear hB3 hB4 HP3 HF h1 e1
    go_wp2
    go_ret
    exact ⟨rfl, hf⟩

theorem walk (a0 a1 : Int) (p q : Pg) (w : World) (w0 : (Lit.int .i64 a0).wf = true) (w1 : (Lit.int .i64 a1).wf = true) (hp : p.fits) (hq : q.fits) :
    Calls Try.prog 7 #[.int .i64 a0, .int .i64 a1, .agg (pgA p), .agg (pgA q)] w fun e w' => e = .returned (.bool true) ∧ Below w.heap.size w w' := core a0 a1 p q w hp hq
end Go.Proofs.Ytkbigineepohnaa.pageUnlike
