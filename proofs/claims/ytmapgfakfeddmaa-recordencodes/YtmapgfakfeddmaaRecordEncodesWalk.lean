/-
  The walk of RecordEncodes: it returns true, and turns nothing that was there.
-/
import Derived.Test.YtmapgfakfeddmaaRecSize
import Derived.OpenShut
namespace Go.Proofs.Ytmapgfakfeddmaa.recordEncodes
open Go.RowKit
set_option linter.unusedVariables false

set_option maxRecDepth 4000 in
set_option maxHeartbeats 1600000 in
theorem core (r : Rec) (va vb : Value) (w : World) (hf : r.fits) (hin : RcIn w r va vb) :
    Calls Try.prog 3 #[.agg (rcA r va vb)] w fun e w' => e = .returned (.bool true) ∧ Below w.heap.size w w' := by
  have HIN := hide hin
  have HK0 := hide (Keeps.one w 28 (rcA r va vb))
  obtain ⟨A, hA⟩ : ∃ A, A = rcA r va vb := ⟨_, rfl⟩
  have HIA : Hid ((Try.prog.info? 28).map (·.size) = some A.size) := by
    rw [hA]
    exact infoRc
  have HZA : Hid (A.size = 14) := by
    rw [hA]
    rfl
  have HE := hide (fun w h => enc_any r va vb w hf h)
  have HRE := hide (fun w h => renc6_any r va vb w hf.c h)
  have HSZ := hide (fun w h => size_any r va vb w hf h)
  have HRT := hide (fun w h => right_any r va vb w hf h)
  have HRR := hide (fun w h => rright6_any r va vb w hf.c h)
  rw [← hA] at HK0 HE HRE HSZ HRT HRR ⊢
  clear hA hf hin
  generalize encL r = L at *
  generalize encE r = er at *
  generalize r.rightB = rb at *
  go_enter Try.func3, Try.ntmps3
  go_wp2_with fail
  refine gen_calls (fun x => Hid (Keeps w x [(w.heap.size, 28, A)])) HK0 ?_
  clear HK0
  intro x0 HK0
  refine (awake_any _).mono ?_
  rintro e w1 ⟨rfl, hb1⟩
  have HK1 := hide (HK0.out.later hb1)
  clear HK0 hb1
  go_wp2_with (refine wpList_load_at rfl 28 (.tmp 1) rfl w.heap.size rfl A HK1.out.1.1 _ Try.underlying28 rfl HIA.out ?_)
  refine (HE.out _ (HIN.out.below HK1.out.2)).mono ?_
  rintro e w2 ⟨⟨v, rfl, a2, cap2, rfl, -, -, hB2⟩, hb2⟩
  have HK2 := hide (HK1.out.later hb2)
  have HB2 := hide hB2
  clear HK1 hb2 hB2 HE
  go_wp2_with (refine wpList_load_at rfl 28 (.tmp 1) rfl w.heap.size rfl A HK2.out.1.1 _ Try.underlying28 rfl HIA.out ?_)
  refine (HRE.out _ (HIN.out.below HK2.out.2)).mono ?_
  rintro e w3 ⟨rfl, hb3⟩
  have HK3 := hide (HK2.out.later hb3)
  have HB3 := hide (HB2.out.below hb3)
  clear HK2 hb3 HB2 HRE
  have hz := mkS_size L
  have hms : mkS L = ⟨L.toArray⟩ := rfl
  generalize L.length = ln at *
  have hcv : ∀ x, IsB x a2 ln L → Sem.run Try.prog (Go.convert 30 9 (.slice a2 ln cap2)) x = .ok (.string (mkS L)) x := fun x hx => run_toString (P := Try.prog) x 30 9 5 Try.underlying30 Try.underlying5 Try.underlying9 a2 ln cap2 _ hx
  have HC := hide hcv
  clear hcv hms
  generalize mkS L = ms at *
  go_wp2_with fail
  refine wp_region_in (fun x => Keeps w x [(w.heap.size, 28, A)] ∧ IsB x a2 ln L) (by kernel_rfl) (by kernel_rfl) ⟨HK3.out.drew, HB3.out⟩ ?_
  clear HK3 HB3
  repeat (first
    | go_big_quiet_skip
    | (refine wpQuiet_load rfl 28 (.tmp 1) rfl _ (.agg A) rfl (fun y hy => load_rc y _ _ hy.1.1.1 HZA.out) ?_; simp only [Act.put, Array.setIfInBounds, List.size_toArray, List.length_cons, List.length_nil, Nat.reduceAdd, Nat.reduceLT, ↓reduceDIte, List.set_toArray, List.set_cons_succ, List.set_cons_zero])
    | (refine wpQuiet_convert rfl 30 9 (.tmp 19) rfl _ (.string ms) rfl (fun y hy => HC.out y hy.2) ?_; simp only [Act.put, Array.setIfInBounds, List.size_toArray, List.length_cons, List.length_nil, Nat.reduceAdd, Nat.reduceLT, ↓reduceDIte, List.set_toArray, List.set_cons_succ, List.set_cons_zero])
    | (refine wpQuiet_call rfl 12 #[.agg A] (.int .i64 (ln : Int)) ?_ (fun x hC => (HSZ.out x (HIN.out.below hC.1.2)).mono fun e x' h => ⟨h.1, hC.1.later h.2, hC.2.below h.2⟩) ?_; (intro x; go_simp); simp only [Act.put, Array.setIfInBounds, List.size_toArray, List.length_cons, List.length_nil, Nat.reduceAdd, Nat.reduceLT, ↓reduceDIte, List.set_toArray, List.set_cons_succ, List.set_cons_zero])
    | (refine wpQuiet_call rfl 13 #[.agg A] (.bool rb) ?_ (fun x hC => (HRT.out x (HIN.out.below hC.1.2)).mono fun e x' h => ⟨h.1, hC.1.later h.2, hC.2.below h.2⟩) ?_; (intro x; go_simp); simp only [Act.put, Array.setIfInBounds, List.size_toArray, List.length_cons, List.length_nil, Nat.reduceAdd, Nat.reduceLT, ↓reduceDIte, List.set_toArray, List.set_cons_succ, List.set_cons_zero])
    | (refine wpQuiet_call rfl 14 #[.agg A] (.bool rb) ?_ (fun x hC => (HRR.out x (HIN.out.below hC.1.2)).mono fun e x' h => ⟨h.1, hC.1.later h.2, hC.2.below h.2⟩) ?_; (intro x; go_simp); simp only [Act.put, Array.setIfInBounds, List.size_toArray, List.length_cons, List.length_nil, Nat.reduceAdd, Nat.reduceLT, ↓reduceDIte, List.set_toArray, List.set_cons_succ, List.set_cons_zero])
    | (refine wpQuiet_plain rfl (fun K hK => ?_); go_simp; refine hK _ ?_; clear hK K))
  refine wpQuiet_nil ?_
  intro x hx
  have hfin := hx.1.2
  clear hx HC
  go_wp2
  go_ret
  exact ⟨rfl, hfin⟩

theorem walk (m : Rec × Value × Value) (w : World) (hf : m.1.fits) (hin : RcIn w m.1 m.2.1 m.2.2) :
    Calls Try.prog 3 #[.agg (rcA m.1 m.2.1 m.2.2)] w fun e w' => e = .returned (.bool true) ∧ Below w.heap.size w w' := core m.1 m.2.1 m.2.2 w hf hin
end Go.Proofs.Ytmapgfakfeddmaa.recordEncodes
