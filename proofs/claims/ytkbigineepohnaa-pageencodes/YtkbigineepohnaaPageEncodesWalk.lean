/-
  The walk of PageEncodes: it returns true, and turns nothing that was there.
-/
import Derived.Test.YtkbigineepohnaaPageAwake
import Derived.Test.YtkbigineepohnaaPageCode
import Derived.Test.YtkbigineepohnaaPageRefEncode
import Derived.Test.YtkbigineepohnaaPageKept
import Derived.Test.YtkbigineepohnaaQuietIn
import Derived.OpenShut
namespace Go.Proofs.Ytkbigineepohnaa.pageEncodes
open Go.RowKit
set_option linter.unusedVariables false

set_option maxRecDepth 4000 in
set_option maxHeartbeats 400000 in
theorem core (id : Int) (p : Pg) (w : World) :
    Calls Try.prog 3 #[.int .i64 id, .agg (pgA p)] w fun e w' => e = .returned (.bool true) ∧ Below w.heap.size w w' := by
  have hP : PgAt (w.alloc (.cells (pgA p) 27)) w.heap.size p := heap_alloc_new w _
  have hb0 : Below w.heap.size w (w.alloc (.cells (pgA p) 27)) := (Below.refl _ _).alloc (Nat.le_refl _) _
  have hz0 : w.heap.size < (w.alloc (.cells (pgA p) 27)).heap.size := by simp
  have HP := hide (And.intro hP (And.intro hb0 hz0))
  clear hP hb0 hz0
  go_enter Try.func3, Try.ntmps3
  go_wp2_with fail
  refine gen_calls (fun x => Hid (PgAt x w.heap.size p ∧ Below w.heap.size w x ∧ w.heap.size < x.heap.size)) HP ?_
  clear HP
  intro w0 HP
  refine (awake_any _).mono ?_
  rintro e w1 ⟨rfl, hb1⟩
  have HP1 := hide (kept_later HP.out hb1)
  clear HP hb1
  go_wp2_with (refine wpList_load_page rfl (.tmp 3) rfl w.heap.size rfl p HP1.out.1 ?_)
  refine (enc_any id p _).mono ?_
  rintro e w2 ⟨v, rfl, hown2, hb2⟩
  have HP2 := hide (kept_later HP1.out hb2)
  obtain ⟨a2, cap2, hv, hcap2, hB2⟩ := shape_isB hown2
  rw [hv]
  clear hown2 hb2 HP1 hv
  go_wp2_with (refine wpList_load_page rfl (.tmp 3) rfl w.heap.size rfl p HP2.out.1 ?_)
  refine (renc_any id p _).mono ?_
  rintro e w3 ⟨rfl, hb3⟩
  have HP3 := hide (kept_later HP2.out hb3)
  have hB3 := hB2.below hb3
  clear hb3 HP2 hB2
  generalize encB id p = o at *
  obtain ⟨L, er⟩ := o
  simp only at hB3 ⊢
  generalize hLn : L.length = ln at *
  have hcv : ∀ x, IsB x a2 ln L → Sem.run Try.prog (Go.convert 29 9 (.slice a2 ln cap2)) x = .ok (.string ⟨L.toArray⟩) x := fun x hx => run_toString (P := Try.prog) x 29 9 5 Try.underlying29 Try.underlying5 Try.underlying9 a2 ln cap2 _ hx
  have HC := hide hcv
  have H0 : (PgAt w3.drew w.heap.size p ∧ Below w.heap.size w w3.drew ∧ w.heap.size < w3.drew.heap.size) ∧ IsB w3.drew a2 ln L := ⟨⟨HP3.out.1, below_dn HP3.out.2.1 1, HP3.out.2.2⟩, hB3⟩
  have HS := hide H0
  clear hB3 hLn hcv HP3 H0
  go_wp2_with fail
  refine wp_region_in (fun x => (PgAt x w.heap.size p ∧ Below w.heap.size w x ∧ w.heap.size < x.heap.size) ∧ IsB x a2 ln L) (by kernel_rfl) (by kernel_rfl) HS.out ?_
  clear HS
  repeat (first
    | go_big_quiet_skip
    | (refine wpQuiet_load rfl 27 (.tmp 3) rfl _ (.agg (pgA p)) rfl (fun y hy => load_page y hy.1.1) ?_; simp only [Act.put, Array.setIfInBounds, List.size_toArray, List.length_cons, List.length_nil, Nat.reduceAdd, Nat.reduceLT, ↓reduceDIte, List.set_toArray, List.set_cons_succ, List.set_cons_zero])
    | (refine wpQuiet_convert rfl 29 9 (.tmp 23) rfl _ (.string ⟨L.toArray⟩) rfl (fun y hy => HC.out y hy.2) ?_; simp only [Act.put, Array.setIfInBounds, List.size_toArray, List.length_cons, List.length_nil, Nat.reduceAdd, Nat.reduceLT, ↓reduceDIte, List.set_toArray, List.set_cons_succ, List.set_cons_zero])
    | (refine wpQuiet_call rfl 12 #[.agg (pgA p)] (.bool (decide p.right)) ?_ (fun x hC => (right_any p x).mono fun e x' h => ⟨h.1, kept_later hC.1 h.2, hC.2.below h.2⟩) ?_; (intro x; go_simp); simp only [Act.put, Array.setIfInBounds, List.size_toArray, List.length_cons, List.length_nil, Nat.reduceAdd, Nat.reduceLT, ↓reduceDIte, List.set_toArray, List.set_cons_succ, List.set_cons_zero])
    | (refine wpQuiet_call rfl 13 #[.agg (pgA p)] (.bool (decide p.right)) ?_ (fun x hC => (rright_any p x).mono fun e x' h => ⟨h.1, kept_later hC.1 h.2, hC.2.below h.2⟩) ?_; (intro x; go_simp); simp only [Act.put, Array.setIfInBounds, List.size_toArray, List.length_cons, List.length_nil, Nat.reduceAdd, Nat.reduceLT, ↓reduceDIte, List.set_toArray, List.set_cons_succ, List.set_cons_zero])
    | (refine wpQuiet_plain rfl (fun K hK => ?_); go_simp; refine hK _ ?_; clear hK K))
  refine wpQuiet_nil ?_
  intro x hx
  have hf := hx.1.2.1
  clear hx HC
  go_wp2
  go_ret
  exact ⟨rfl, hf⟩

theorem walk (a0 : Int) (q : Pg) (w : World) (w0 : (Lit.int .i64 a0).wf = true) (hq : q.fits) :
    Calls Try.prog 3 #[.int .i64 a0, .agg (pgA q)] w fun e w' => e = .returned (.bool true) ∧ Below w.heap.size w w' := core a0 q w
end Go.Proofs.Ytkbigineepohnaa.pageEncodes
