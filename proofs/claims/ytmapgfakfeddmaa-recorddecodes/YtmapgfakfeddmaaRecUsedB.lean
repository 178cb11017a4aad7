/-
  The contract of record.used, kinds 3, 4, 5.
-/
import Derived.Test.YtmapgfakfeddmaaRecUsed0
namespace Go.Proofs.Ytmapgfakfeddmaa
open Go.RowKit
set_option linter.unusedVariables false

set_option maxRecDepth 4000 in
set_option maxHeartbeats 1600000 in
theorem used_3 (r : Rec) (va vb : Value) (w : World) (hk : r.k = 3) (hin : RcIn w r va vb) :
    Calls Try.prog 25 #[.agg (rcA r va vb)] w fun e w' => e = .returned (.agg (rcA r.used (uV r va) (uV r vb))) ∧ Below w.heap.size w w' := by
  have HIN := hide hin
  obtain ⟨⟨e1, cap1, rfl, -⟩, ⟨e2, cap2, rfl, -⟩⟩ := hin
  have HK0 := hide (Keeps.two w 28 28 (rcA r (.slice e1 r.ts.length cap1) (.slice e2 r.ds.length cap2)) #[.int .i64 0, .int .u64 0, .int .i64 0, .int .u64 0, .int .i64 0, .int .i64 0, .int .i64 0, .string ⟨#[]⟩, .string ⟨#[]⟩, .int .u64 0, .int .i64 0, .int .u64 0, .slice none 0 0, .slice none 0 0])
  have c0 := HK0.out.1.2.1.cell 0 (.int .i64 r.k) rfl
  have c1 := HK0.out.1.2.1.cell 1 (.int .u64 (r.l : Int)) rfl
  rw [hk] at c0
  obtain ⟨A, hA⟩ : ∃ A, A = rcA r (.slice e1 r.ts.length cap1) (.slice e2 r.ds.length cap2) := ⟨_, rfl⟩
  rw [← hA] at HK0 c0 c1 ⊢
  have HA := hide hA
  clear hA
  have HK3 := hide (Keeps.three w 28 28 28 A #[.int .i64 0, .int .u64 0, .int .i64 0, .int .u64 0, .int .i64 0, .int .i64 0, .int .i64 0, .string ⟨#[]⟩, .string ⟨#[]⟩, .int .u64 0, .int .i64 0, .int .u64 0, .slice none 0 0, .slice none 0 0] #[.int .i64 3, .int .u64 (r.l : Int), .int .i64 0, .int .u64 0, .int .i64 0, .int .i64 0, .int .i64 0, .string ⟨#[]⟩, .string ⟨#[]⟩, .int .u64 0, .int .i64 0, .int .u64 0, .slice none 0 0, .slice none 0 0])
  have c03 := HK3.out.1.2.2.1.cell 0 (.int .i64 3) (by rw [HA.out, ← hk]; rfl)
  go_enter Try.func25, Try.ntmps25
  go_wp2_with fail
  refine gen_wp (fun x => Hid (Keeps w x [(w.heap.size + 1 + 1, 28, #[.int .i64 3, .int .u64 (r.l : Int), .int .i64 0, .int .u64 0, .int .i64 0, .int .i64 0, .int .i64 0, .string ⟨#[]⟩, .string ⟨#[]⟩, .int .u64 0, .int .i64 0, .int .u64 0, .slice none 0 0, .slice none 0 0]), (w.heap.size + 1, 28, #[.int .i64 0, .int .u64 0, .int .i64 0, .int .u64 0, .int .i64 0, .int .i64 0, .int .i64 0, .string ⟨#[]⟩, .string ⟨#[]⟩, .int .u64 0, .int .i64 0, .int .u64 0, .slice none 0 0, .slice none 0 0]), (w.heap.size, 28, A)])) HK3 ?_
  clear HK3 HK0 c0 c1 c03
  intro x0 HK
  have HGE : Hid (w.heap.size ≤ w.heap.size + 1 + 1 ∧ w.heap.size + 1 ≠ w.heap.size + 1 + 1 ∧ w.heap.size ≠ w.heap.size + 1 + 1 ∧ w.heap.size ≤ w.heap.size + 1) := ⟨by omega, by omega, by omega, by omega⟩
  revert HK HGE
  generalize w.heap.size + 1 + 1 = g2
  generalize w.heap.size + 1 = g1
  intro HK HGE
  have c2 := HK.out.1.2.2.1.cell 2 (.int .i64 r.t) (by rw [HA.out]; rfl)
  have c3 := HK.out.1.2.2.1.cell 3 (.int .u64 (r.p : Int)) (by rw [HA.out]; rfl)
  have f2 := HK.out.1.1.free 2
  have d2 := HK.out.1.1.cell 2 (.int .i64 0) rfl
  have f3 := HK.out.1.1.free 3
  have d3 := HK.out.1.1.cell 3 (.int .u64 0) rfl
  have n2 := HGE.out.2.2.1
  go_region
  have hl : ∀ e ∈ [(g1, 28, #[.int .i64 0, .int .u64 0, .int .i64 0, .int .u64 0, .int .i64 0, .int .i64 0, .int .i64 0, .string ⟨#[]⟩, .string ⟨#[]⟩, .int .u64 0, .int .i64 0, .int .u64 0, .slice none 0 0, .slice none 0 0]), (w.heap.size, 28, A)], e.1 ≠ g2 := by
    intro e he
    simp only [List.mem_cons, List.not_mem_nil, or_false] at he
    rcases he with rfl | rfl
    · exact HGE.out.2.1
    · exact HGE.out.2.2.1
  have HK2 : Hid (Keeps w ((x0.setCell ⟨g2, 2, none⟩ (.int .i64 r.t)).setCell ⟨g2, 3, none⟩ (.int .u64 (r.p : Int))).drew [(g2, 28, #[.int .i64 3, .int .u64 (r.l : Int), .int .i64 r.t, .int .u64 (r.p : Int), .int .i64 0, .int .i64 0, .int .i64 0, .string ⟨#[]⟩, .string ⟨#[]⟩, .int .u64 0, .int .i64 0, .int .u64 0, .slice none 0 0, .slice none 0 0]), (g1, 28, #[.int .i64 0, .int .u64 0, .int .i64 0, .int .u64 0, .int .i64 0, .int .i64 0, .int .i64 0, .string ⟨#[]⟩, .string ⟨#[]⟩, .int .u64 0, .int .i64 0, .int .u64 0, .slice none 0 0, .slice none 0 0]), (w.heap.size, 28, A)]) := ((HK.out.setTop HGE.out.1 hl 2 (.int .i64 r.t)).setTop HGE.out.1 hl 3 (.int .u64 (r.p : Int))).drew
  refine gen_w (fun x => Hid (Keeps w x [(g2, 28, #[.int .i64 3, .int .u64 (r.l : Int), .int .i64 r.t, .int .u64 (r.p : Int), .int .i64 0, .int .i64 0, .int .i64 0, .string ⟨#[]⟩, .string ⟨#[]⟩, .int .u64 0, .int .i64 0, .int .u64 0, .slice none 0 0, .slice none 0 0]), (g1, 28, #[.int .i64 0, .int .u64 0, .int .i64 0, .int .u64 0, .int .i64 0, .int .i64 0, .int .i64 0, .string ⟨#[]⟩, .string ⟨#[]⟩, .int .u64 0, .int .i64 0, .int .u64 0, .slice none 0 0, .slice none 0 0]), (w.heap.size, 28, A)])) HK2 ?_
  clear HK2 HK hl n2 c2 f2 d2 c3 f3 d3
  intro x1 HK
  have c0 := HK.out.1.2.2.1.cell 0 (.int .i64 3) (by rw [HA.out, ← hk]; rfl)
  have d0 := HK.out.1.1.cell 0 (.int .i64 3) rfl
  have d1 := HK.out.1.1.cell 1 (.int .u64 (r.l : Int)) rfl
  have d2 := HK.out.1.1.cell 2 (.int .i64 r.t) rfl
  have d3 := HK.out.1.1.cell 3 (.int .u64 (r.p : Int)) rfl
  have d4 := HK.out.1.1.cell 4 (.int .i64 0) rfl
  have d5 := HK.out.1.1.cell 5 (.int .i64 0) rfl
  have d6 := HK.out.1.1.cell 6 (.int .i64 0) rfl
  have d7 := HK.out.1.1.cell 7 (.string ⟨#[]⟩) rfl
  have d8 := HK.out.1.1.cell 8 (.string ⟨#[]⟩) rfl
  have d9 := HK.out.1.1.cell 9 (.int .u64 0) rfl
  have d10 := HK.out.1.1.cell 10 (.int .i64 0) rfl
  have d11 := HK.out.1.1.cell 11 (.int .u64 0) rfl
  have d12 := HK.out.1.1.cell 12 (.slice none 0 0) rfl
  have d13 := HK.out.1.1.cell 13 (.slice none 0 0) rfl
  have n1 := HGE.out.2.1
  have n2 := HGE.out.2.2.1
  have HZ := hide HK.out.1.2.1
  have HBB := hide HK.out.2
  go_wp2_with (refine wpList_store_at rfl 28 (.tmp 2) (.tmp 54) rfl g1 #[.int .i64 0, .int .u64 0, .int .i64 0, .int .u64 0, .int .i64 0, .int .i64 0, .int .i64 0, .string ⟨#[]⟩, .string ⟨#[]⟩, .int .u64 0, .int .i64 0, .int .u64 0, .slice none 0 0, .slice none 0 0] #[.int .i64 3, .int .u64 (r.l : Int), .int .i64 r.t, .int .u64 (r.p : Int), .int .i64 0, .int .i64 0, .int .i64 0, .string ⟨#[]⟩, .string ⟨#[]⟩, .int .u64 0, .int .i64 0, .int .u64 0, .slice none 0 0, .slice none 0 0] rfl rfl HZ.out infoRc rfl (by simp [Value.oneCell']) ?_)
  intro w9 hr9 hk9 _
  have HB := hide (hk9 _ _ HBB.out HGE.out.2.2.2)
  have HROW := hide hr9
  clear hr9 hk9 HZ HBB HK d0 d1 d2 d3 d4 d5 d6 d7 d8 d9 d10 d11 d12 d13 c0 
  go_wp2
  (try simp only [Exit.inBlock, Exit.then])
  refine bodyPost_ret (res_one rfl _ _ g1 #[.int .i64 3, .int .u64 (r.l : Int), .int .i64 r.t, .int .u64 (r.p : Int), .int .i64 0, .int .i64 0, .int .i64 0, .string ⟨#[]⟩, .string ⟨#[]⟩, .int .u64 0, .int .i64 0, .int .u64 0, .slice none 0 0, .slice none 0 0] _ rfl HROW.out Try.underlying28 rfl infoRc) rfl ?_
  refine ⟨?_, HB.out⟩
  apply congrArg Ending.returned
  apply congrArg Value.agg
  unfold rcA Rec.used uV
  simp [hk, Ch.zero]

set_option maxRecDepth 4000 in
set_option maxHeartbeats 1600000 in
theorem used_4 (r : Rec) (va vb : Value) (w : World) (hk : r.k = 4) (hin : RcIn w r va vb) :
    Calls Try.prog 25 #[.agg (rcA r va vb)] w fun e w' => e = .returned (.agg (rcA r.used (uV r va) (uV r vb))) ∧ Below w.heap.size w w' := by
  have HIN := hide hin
  obtain ⟨⟨e1, cap1, rfl, -⟩, ⟨e2, cap2, rfl, -⟩⟩ := hin
  have HK0 := hide (Keeps.two w 28 28 (rcA r (.slice e1 r.ts.length cap1) (.slice e2 r.ds.length cap2)) #[.int .i64 0, .int .u64 0, .int .i64 0, .int .u64 0, .int .i64 0, .int .i64 0, .int .i64 0, .string ⟨#[]⟩, .string ⟨#[]⟩, .int .u64 0, .int .i64 0, .int .u64 0, .slice none 0 0, .slice none 0 0])
  have c0 := HK0.out.1.2.1.cell 0 (.int .i64 r.k) rfl
  have c1 := HK0.out.1.2.1.cell 1 (.int .u64 (r.l : Int)) rfl
  rw [hk] at c0
  obtain ⟨A, hA⟩ : ∃ A, A = rcA r (.slice e1 r.ts.length cap1) (.slice e2 r.ds.length cap2) := ⟨_, rfl⟩
  rw [← hA] at HK0 c0 c1 ⊢
  have HA := hide hA
  clear hA
  have HK3 := hide (Keeps.three w 28 28 28 A #[.int .i64 0, .int .u64 0, .int .i64 0, .int .u64 0, .int .i64 0, .int .i64 0, .int .i64 0, .string ⟨#[]⟩, .string ⟨#[]⟩, .int .u64 0, .int .i64 0, .int .u64 0, .slice none 0 0, .slice none 0 0] #[.int .i64 4, .int .u64 (r.l : Int), .int .i64 0, .int .u64 0, .int .i64 0, .int .i64 0, .int .i64 0, .string ⟨#[]⟩, .string ⟨#[]⟩, .int .u64 0, .int .i64 0, .int .u64 0, .slice none 0 0, .slice none 0 0])
  have c03 := HK3.out.1.2.2.1.cell 0 (.int .i64 4) (by rw [HA.out, ← hk]; rfl)
  go_enter Try.func25, Try.ntmps25
  go_wp2_with fail
  refine gen_wp (fun x => Hid (Keeps w x [(w.heap.size + 1 + 1, 28, #[.int .i64 4, .int .u64 (r.l : Int), .int .i64 0, .int .u64 0, .int .i64 0, .int .i64 0, .int .i64 0, .string ⟨#[]⟩, .string ⟨#[]⟩, .int .u64 0, .int .i64 0, .int .u64 0, .slice none 0 0, .slice none 0 0]), (w.heap.size + 1, 28, #[.int .i64 0, .int .u64 0, .int .i64 0, .int .u64 0, .int .i64 0, .int .i64 0, .int .i64 0, .string ⟨#[]⟩, .string ⟨#[]⟩, .int .u64 0, .int .i64 0, .int .u64 0, .slice none 0 0, .slice none 0 0]), (w.heap.size, 28, A)])) HK3 ?_
  clear HK3 HK0 c0 c1 c03
  intro x0 HK
  have HGE : Hid (w.heap.size ≤ w.heap.size + 1 + 1 ∧ w.heap.size + 1 ≠ w.heap.size + 1 + 1 ∧ w.heap.size ≠ w.heap.size + 1 + 1 ∧ w.heap.size ≤ w.heap.size + 1) := ⟨by omega, by omega, by omega, by omega⟩
  revert HK HGE
  generalize w.heap.size + 1 + 1 = g2
  generalize w.heap.size + 1 = g1
  intro HK HGE
  have c2 := HK.out.1.2.2.1.cell 2 (.int .i64 r.t) (by rw [HA.out]; rfl)
  have c3 := HK.out.1.2.2.1.cell 3 (.int .u64 (r.p : Int)) (by rw [HA.out]; rfl)
  have f2 := HK.out.1.1.free 2
  have d2 := HK.out.1.1.cell 2 (.int .i64 0) rfl
  have f3 := HK.out.1.1.free 3
  have d3 := HK.out.1.1.cell 3 (.int .u64 0) rfl
  have n2 := HGE.out.2.2.1
  go_region
  have hl : ∀ e ∈ [(g1, 28, #[.int .i64 0, .int .u64 0, .int .i64 0, .int .u64 0, .int .i64 0, .int .i64 0, .int .i64 0, .string ⟨#[]⟩, .string ⟨#[]⟩, .int .u64 0, .int .i64 0, .int .u64 0, .slice none 0 0, .slice none 0 0]), (w.heap.size, 28, A)], e.1 ≠ g2 := by
    intro e he
    simp only [List.mem_cons, List.not_mem_nil, or_false] at he
    rcases he with rfl | rfl
    · exact HGE.out.2.1
    · exact HGE.out.2.2.1
  have HK2 : Hid (Keeps w ((x0.setCell ⟨g2, 2, none⟩ (.int .i64 r.t)).setCell ⟨g2, 3, none⟩ (.int .u64 (r.p : Int))).drew [(g2, 28, #[.int .i64 4, .int .u64 (r.l : Int), .int .i64 r.t, .int .u64 (r.p : Int), .int .i64 0, .int .i64 0, .int .i64 0, .string ⟨#[]⟩, .string ⟨#[]⟩, .int .u64 0, .int .i64 0, .int .u64 0, .slice none 0 0, .slice none 0 0]), (g1, 28, #[.int .i64 0, .int .u64 0, .int .i64 0, .int .u64 0, .int .i64 0, .int .i64 0, .int .i64 0, .string ⟨#[]⟩, .string ⟨#[]⟩, .int .u64 0, .int .i64 0, .int .u64 0, .slice none 0 0, .slice none 0 0]), (w.heap.size, 28, A)]) := ((HK.out.setTop HGE.out.1 hl 2 (.int .i64 r.t)).setTop HGE.out.1 hl 3 (.int .u64 (r.p : Int))).drew
  refine gen_w (fun x => Hid (Keeps w x [(g2, 28, #[.int .i64 4, .int .u64 (r.l : Int), .int .i64 r.t, .int .u64 (r.p : Int), .int .i64 0, .int .i64 0, .int .i64 0, .string ⟨#[]⟩, .string ⟨#[]⟩, .int .u64 0, .int .i64 0, .int .u64 0, .slice none 0 0, .slice none 0 0]), (g1, 28, #[.int .i64 0, .int .u64 0, .int .i64 0, .int .u64 0, .int .i64 0, .int .i64 0, .int .i64 0, .string ⟨#[]⟩, .string ⟨#[]⟩, .int .u64 0, .int .i64 0, .int .u64 0, .slice none 0 0, .slice none 0 0]), (w.heap.size, 28, A)])) HK2 ?_
  clear HK2 HK hl n2 c2 f2 d2 c3 f3 d3
  intro x1 HK
  have c0 := HK.out.1.2.2.1.cell 0 (.int .i64 4) (by rw [HA.out, ← hk]; rfl)
  have d0 := HK.out.1.1.cell 0 (.int .i64 4) rfl
  have d1 := HK.out.1.1.cell 1 (.int .u64 (r.l : Int)) rfl
  have d2 := HK.out.1.1.cell 2 (.int .i64 r.t) rfl
  have d3 := HK.out.1.1.cell 3 (.int .u64 (r.p : Int)) rfl
  have d4 := HK.out.1.1.cell 4 (.int .i64 0) rfl
  have d5 := HK.out.1.1.cell 5 (.int .i64 0) rfl
  have d6 := HK.out.1.1.cell 6 (.int .i64 0) rfl
  have d7 := HK.out.1.1.cell 7 (.string ⟨#[]⟩) rfl
  have d8 := HK.out.1.1.cell 8 (.string ⟨#[]⟩) rfl
  have d9 := HK.out.1.1.cell 9 (.int .u64 0) rfl
  have d10 := HK.out.1.1.cell 10 (.int .i64 0) rfl
  have d11 := HK.out.1.1.cell 11 (.int .u64 0) rfl
  have d12 := HK.out.1.1.cell 12 (.slice none 0 0) rfl
  have d13 := HK.out.1.1.cell 13 (.slice none 0 0) rfl
  have n1 := HGE.out.2.1
  have n2 := HGE.out.2.2.1
  have HZ := hide HK.out.1.2.1
  have HBB := hide HK.out.2
  go_wp2_with (refine wpList_store_at rfl 28 (.tmp 2) (.tmp 54) rfl g1 #[.int .i64 0, .int .u64 0, .int .i64 0, .int .u64 0, .int .i64 0, .int .i64 0, .int .i64 0, .string ⟨#[]⟩, .string ⟨#[]⟩, .int .u64 0, .int .i64 0, .int .u64 0, .slice none 0 0, .slice none 0 0] #[.int .i64 4, .int .u64 (r.l : Int), .int .i64 r.t, .int .u64 (r.p : Int), .int .i64 0, .int .i64 0, .int .i64 0, .string ⟨#[]⟩, .string ⟨#[]⟩, .int .u64 0, .int .i64 0, .int .u64 0, .slice none 0 0, .slice none 0 0] rfl rfl HZ.out infoRc rfl (by simp [Value.oneCell']) ?_)
  intro w9 hr9 hk9 _
  have HB := hide (hk9 _ _ HBB.out HGE.out.2.2.2)
  have HROW := hide hr9
  clear hr9 hk9 HZ HBB HK d0 d1 d2 d3 d4 d5 d6 d7 d8 d9 d10 d11 d12 d13 c0 
  go_wp2
  (try simp only [Exit.inBlock, Exit.then])
  refine bodyPost_ret (res_one rfl _ _ g1 #[.int .i64 4, .int .u64 (r.l : Int), .int .i64 r.t, .int .u64 (r.p : Int), .int .i64 0, .int .i64 0, .int .i64 0, .string ⟨#[]⟩, .string ⟨#[]⟩, .int .u64 0, .int .i64 0, .int .u64 0, .slice none 0 0, .slice none 0 0] _ rfl HROW.out Try.underlying28 rfl infoRc) rfl ?_
  refine ⟨?_, HB.out⟩
  apply congrArg Ending.returned
  apply congrArg Value.agg
  unfold rcA Rec.used uV
  simp [hk, Ch.zero]

set_option maxRecDepth 4000 in
set_option maxHeartbeats 1600000 in
theorem used_5 (r : Rec) (va vb : Value) (w : World) (hk : r.k = 5) (hin : RcIn w r va vb) :
    Calls Try.prog 25 #[.agg (rcA r va vb)] w fun e w' => e = .returned (.agg (rcA r.used (uV r va) (uV r vb))) ∧ Below w.heap.size w w' := by
  have HIN := hide hin
  obtain ⟨⟨e1, cap1, rfl, -⟩, ⟨e2, cap2, rfl, -⟩⟩ := hin
  have HK0 := hide (Keeps.two w 28 28 (rcA r (.slice e1 r.ts.length cap1) (.slice e2 r.ds.length cap2)) #[.int .i64 0, .int .u64 0, .int .i64 0, .int .u64 0, .int .i64 0, .int .i64 0, .int .i64 0, .string ⟨#[]⟩, .string ⟨#[]⟩, .int .u64 0, .int .i64 0, .int .u64 0, .slice none 0 0, .slice none 0 0])
  have c0 := HK0.out.1.2.1.cell 0 (.int .i64 r.k) rfl
  have c1 := HK0.out.1.2.1.cell 1 (.int .u64 (r.l : Int)) rfl
  rw [hk] at c0
  obtain ⟨A, hA⟩ : ∃ A, A = rcA r (.slice e1 r.ts.length cap1) (.slice e2 r.ds.length cap2) := ⟨_, rfl⟩
  rw [← hA] at HK0 c0 c1 ⊢
  have HA := hide hA
  clear hA
  have HK3 := hide (Keeps.three w 28 28 28 A #[.int .i64 0, .int .u64 0, .int .i64 0, .int .u64 0, .int .i64 0, .int .i64 0, .int .i64 0, .string ⟨#[]⟩, .string ⟨#[]⟩, .int .u64 0, .int .i64 0, .int .u64 0, .slice none 0 0, .slice none 0 0] #[.int .i64 5, .int .u64 (r.l : Int), .int .i64 0, .int .u64 0, .int .i64 0, .int .i64 0, .int .i64 0, .string ⟨#[]⟩, .string ⟨#[]⟩, .int .u64 0, .int .i64 0, .int .u64 0, .slice none 0 0, .slice none 0 0])
  have c03 := HK3.out.1.2.2.1.cell 0 (.int .i64 5) (by rw [HA.out, ← hk]; rfl)
  go_enter Try.func25, Try.ntmps25
  go_wp2_with fail
  refine gen_wp (fun x => Hid (Keeps w x [(w.heap.size + 1 + 1, 28, #[.int .i64 5, .int .u64 (r.l : Int), .int .i64 0, .int .u64 0, .int .i64 0, .int .i64 0, .int .i64 0, .string ⟨#[]⟩, .string ⟨#[]⟩, .int .u64 0, .int .i64 0, .int .u64 0, .slice none 0 0, .slice none 0 0]), (w.heap.size + 1, 28, #[.int .i64 0, .int .u64 0, .int .i64 0, .int .u64 0, .int .i64 0, .int .i64 0, .int .i64 0, .string ⟨#[]⟩, .string ⟨#[]⟩, .int .u64 0, .int .i64 0, .int .u64 0, .slice none 0 0, .slice none 0 0]), (w.heap.size, 28, A)])) HK3 ?_
  clear HK3 HK0 c0 c1 c03
  intro x0 HK
  have HGE : Hid (w.heap.size ≤ w.heap.size + 1 + 1 ∧ w.heap.size + 1 ≠ w.heap.size + 1 + 1 ∧ w.heap.size ≠ w.heap.size + 1 + 1 ∧ w.heap.size ≤ w.heap.size + 1) := ⟨by omega, by omega, by omega, by omega⟩
  revert HK HGE
  generalize w.heap.size + 1 + 1 = g2
  generalize w.heap.size + 1 = g1
  intro HK HGE
  have c2 := HK.out.1.2.2.1.cell 2 (.int .i64 r.t) (by rw [HA.out]; rfl)
  have c3 := HK.out.1.2.2.1.cell 3 (.int .u64 (r.p : Int)) (by rw [HA.out]; rfl)
  have f2 := HK.out.1.1.free 2
  have d2 := HK.out.1.1.cell 2 (.int .i64 0) rfl
  have f3 := HK.out.1.1.free 3
  have d3 := HK.out.1.1.cell 3 (.int .u64 0) rfl
  have n2 := HGE.out.2.2.1
  go_region
  have hl : ∀ e ∈ [(g1, 28, #[.int .i64 0, .int .u64 0, .int .i64 0, .int .u64 0, .int .i64 0, .int .i64 0, .int .i64 0, .string ⟨#[]⟩, .string ⟨#[]⟩, .int .u64 0, .int .i64 0, .int .u64 0, .slice none 0 0, .slice none 0 0]), (w.heap.size, 28, A)], e.1 ≠ g2 := by
    intro e he
    simp only [List.mem_cons, List.not_mem_nil, or_false] at he
    rcases he with rfl | rfl
    · exact HGE.out.2.1
    · exact HGE.out.2.2.1
  have HK2 : Hid (Keeps w ((x0.setCell ⟨g2, 2, none⟩ (.int .i64 r.t)).setCell ⟨g2, 3, none⟩ (.int .u64 (r.p : Int))).drew [(g2, 28, #[.int .i64 5, .int .u64 (r.l : Int), .int .i64 r.t, .int .u64 (r.p : Int), .int .i64 0, .int .i64 0, .int .i64 0, .string ⟨#[]⟩, .string ⟨#[]⟩, .int .u64 0, .int .i64 0, .int .u64 0, .slice none 0 0, .slice none 0 0]), (g1, 28, #[.int .i64 0, .int .u64 0, .int .i64 0, .int .u64 0, .int .i64 0, .int .i64 0, .int .i64 0, .string ⟨#[]⟩, .string ⟨#[]⟩, .int .u64 0, .int .i64 0, .int .u64 0, .slice none 0 0, .slice none 0 0]), (w.heap.size, 28, A)]) := ((HK.out.setTop HGE.out.1 hl 2 (.int .i64 r.t)).setTop HGE.out.1 hl 3 (.int .u64 (r.p : Int))).drew
  refine gen_w (fun x => Hid (Keeps w x [(g2, 28, #[.int .i64 5, .int .u64 (r.l : Int), .int .i64 r.t, .int .u64 (r.p : Int), .int .i64 0, .int .i64 0, .int .i64 0, .string ⟨#[]⟩, .string ⟨#[]⟩, .int .u64 0, .int .i64 0, .int .u64 0, .slice none 0 0, .slice none 0 0]), (g1, 28, #[.int .i64 0, .int .u64 0, .int .i64 0, .int .u64 0, .int .i64 0, .int .i64 0, .int .i64 0, .string ⟨#[]⟩, .string ⟨#[]⟩, .int .u64 0, .int .i64 0, .int .u64 0, .slice none 0 0, .slice none 0 0]), (w.heap.size, 28, A)])) HK2 ?_
  clear HK2 HK hl n2 c2 f2 d2 c3 f3 d3
  intro x1 HK
  have c0 := HK.out.1.2.2.1.cell 0 (.int .i64 5) (by rw [HA.out, ← hk]; rfl)
  have d0 := HK.out.1.1.cell 0 (.int .i64 5) rfl
  have d1 := HK.out.1.1.cell 1 (.int .u64 (r.l : Int)) rfl
  have d2 := HK.out.1.1.cell 2 (.int .i64 r.t) rfl
  have d3 := HK.out.1.1.cell 3 (.int .u64 (r.p : Int)) rfl
  have d4 := HK.out.1.1.cell 4 (.int .i64 0) rfl
  have d5 := HK.out.1.1.cell 5 (.int .i64 0) rfl
  have d6 := HK.out.1.1.cell 6 (.int .i64 0) rfl
  have d7 := HK.out.1.1.cell 7 (.string ⟨#[]⟩) rfl
  have d8 := HK.out.1.1.cell 8 (.string ⟨#[]⟩) rfl
  have d9 := HK.out.1.1.cell 9 (.int .u64 0) rfl
  have d10 := HK.out.1.1.cell 10 (.int .i64 0) rfl
  have d11 := HK.out.1.1.cell 11 (.int .u64 0) rfl
  have d12 := HK.out.1.1.cell 12 (.slice none 0 0) rfl
  have d13 := HK.out.1.1.cell 13 (.slice none 0 0) rfl
  have n1 := HGE.out.2.1
  have n2 := HGE.out.2.2.1
  have HZ := hide HK.out.1.2.1
  have HBB := hide HK.out.2
  go_wp2_with (refine wpList_store_at rfl 28 (.tmp 2) (.tmp 54) rfl g1 #[.int .i64 0, .int .u64 0, .int .i64 0, .int .u64 0, .int .i64 0, .int .i64 0, .int .i64 0, .string ⟨#[]⟩, .string ⟨#[]⟩, .int .u64 0, .int .i64 0, .int .u64 0, .slice none 0 0, .slice none 0 0] #[.int .i64 5, .int .u64 (r.l : Int), .int .i64 r.t, .int .u64 (r.p : Int), .int .i64 0, .int .i64 0, .int .i64 0, .string ⟨#[]⟩, .string ⟨#[]⟩, .int .u64 0, .int .i64 0, .int .u64 0, .slice none 0 0, .slice none 0 0] rfl rfl HZ.out infoRc rfl (by simp [Value.oneCell']) ?_)
  intro w9 hr9 hk9 _
  have HB := hide (hk9 _ _ HBB.out HGE.out.2.2.2)
  have HROW := hide hr9
  clear hr9 hk9 HZ HBB HK d0 d1 d2 d3 d4 d5 d6 d7 d8 d9 d10 d11 d12 d13 c0 
  go_wp2
  (try simp only [Exit.inBlock, Exit.then])
  refine bodyPost_ret (res_one rfl _ _ g1 #[.int .i64 5, .int .u64 (r.l : Int), .int .i64 r.t, .int .u64 (r.p : Int), .int .i64 0, .int .i64 0, .int .i64 0, .string ⟨#[]⟩, .string ⟨#[]⟩, .int .u64 0, .int .i64 0, .int .u64 0, .slice none 0 0, .slice none 0 0] _ rfl HROW.out Try.underlying28 rfl infoRc) rfl ?_
  refine ⟨?_, HB.out⟩
  apply congrArg Ending.returned
  apply congrArg Value.agg
  unfold rcA Rec.used uV
  simp [hk, Ch.zero]

end Go.Proofs.Ytmapgfakfeddmaa
