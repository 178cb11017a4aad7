/-
  The contract of record.used, kinds 7.
-/
import Derived.Test.YtmapgfakfeddmaaRecUsed0
namespace Go.Proofs.Ytmapgfakfeddmaa
open Go.RowKit
set_option linter.unusedVariables false

set_option maxRecDepth 4000 in
set_option maxHeartbeats 1600000 in
theorem used_7 (r : Rec) (va vb : Value) (w : World) (hk : r.k = 7) (hin : RcIn w r va vb) :
    Calls Try.prog 25 #[.agg (rcA r va vb)] w fun e w' => e = .returned (.agg (rcA r.used (uV r va) (uV r vb))) ∧ Below w.heap.size w w' := by
  have HIN := hide hin
  obtain ⟨⟨e1, cap1, rfl, -⟩, ⟨e2, cap2, rfl, -⟩⟩ := hin
  have HK0 := hide (Keeps.two w 28 28 (rcA r (.slice e1 r.ts.length cap1) (.slice e2 r.ds.length cap2)) #[.int .i64 0, .int .u64 0, .int .i64 0, .int .u64 0, .int .i64 0, .int .i64 0, .int .i64 0, .string ⟨#[]⟩, .string ⟨#[]⟩, .int .u64 0, .int .i64 0, .int .u64 0, .slice none 0 0, .slice none 0 0])
  have c0 := HK0.out.1.2.1.cell 0 (.int .i64 r.k) rfl
  have c1 := HK0.out.1.2.1.cell 1 (.int .u64 (r.l : Int)) rfl
  rw [hk] at c0
  obtain ⟨A, hA⟩ : ∃ A, A = rcA r (.slice e1 r.ts.length cap1) (.slice e2 r.ds.length cap2) := ⟨_, rfl⟩
  rw [← hA] at HK0 c0 c1 ⊢
  have HA := hide hA
  clear hA
  have HK3 := hide (Keeps.three w 28 28 28 A #[.int .i64 0, .int .u64 0, .int .i64 0, .int .u64 0, .int .i64 0, .int .i64 0, .int .i64 0, .string ⟨#[]⟩, .string ⟨#[]⟩, .int .u64 0, .int .i64 0, .int .u64 0, .slice none 0 0, .slice none 0 0] #[.int .i64 7, .int .u64 (r.l : Int), .int .i64 0, .int .u64 0, .int .i64 0, .int .i64 0, .int .i64 0, .string ⟨#[]⟩, .string ⟨#[]⟩, .int .u64 0, .int .i64 0, .int .u64 0, .slice none 0 0, .slice none 0 0])
  have HGE : Hid (w.heap.size ≤ w.heap.size + 1 + 1 ∧ w.heap.size + 1 ≠ w.heap.size + 1 + 1 ∧ w.heap.size ≠ w.heap.size + 1 + 1 ∧ w.heap.size ≤ w.heap.size + 1) := ⟨by omega, by omega, by omega, by omega⟩
  have c03 := HK3.out.1.2.2.1.cell 0 (.int .i64 7) (by rw [HA.out, ← hk]; rfl)
  have d0 := HK3.out.1.1.cell 0 (.int .i64 7) rfl
  have d1 := HK3.out.1.1.cell 1 (.int .u64 (r.l : Int)) rfl
  have d2 := HK3.out.1.1.cell 2 (.int .i64 0) rfl
  have d3 := HK3.out.1.1.cell 3 (.int .u64 0) rfl
  have d4 := HK3.out.1.1.cell 4 (.int .i64 0) rfl
  have d5 := HK3.out.1.1.cell 5 (.int .i64 0) rfl
  have d6 := HK3.out.1.1.cell 6 (.int .i64 0) rfl
  have d7 := HK3.out.1.1.cell 7 (.string ⟨#[]⟩) rfl
  have d8 := HK3.out.1.1.cell 8 (.string ⟨#[]⟩) rfl
  have d9 := HK3.out.1.1.cell 9 (.int .u64 0) rfl
  have d10 := HK3.out.1.1.cell 10 (.int .i64 0) rfl
  have d11 := HK3.out.1.1.cell 11 (.int .u64 0) rfl
  have d12 := HK3.out.1.1.cell 12 (.slice none 0 0) rfl
  have d13 := HK3.out.1.1.cell 13 (.slice none 0 0) rfl
  have n1 := HGE.out.2.1
  have n2 := HGE.out.2.2.1
  have HZ := hide HK3.out.1.2.1
  have HBB := hide HK3.out.2
  go_enter Try.func25, Try.ntmps25
  go_wp2_with (refine wpList_store_at rfl 28 (.tmp 2) (.tmp 54) rfl (w.heap.size + 1) #[.int .i64 0, .int .u64 0, .int .i64 0, .int .u64 0, .int .i64 0, .int .i64 0, .int .i64 0, .string ⟨#[]⟩, .string ⟨#[]⟩, .int .u64 0, .int .i64 0, .int .u64 0, .slice none 0 0, .slice none 0 0] #[.int .i64 7, .int .u64 (r.l : Int), .int .i64 0, .int .u64 0, .int .i64 0, .int .i64 0, .int .i64 0, .string ⟨#[]⟩, .string ⟨#[]⟩, .int .u64 0, .int .i64 0, .int .u64 0, .slice none 0 0, .slice none 0 0] rfl rfl HZ.out infoRc rfl (by simp [Value.oneCell']) ?_)
  intro w9 hr9 hk9 _
  have HB := hide (hk9 _ _ HBB.out HGE.out.2.2.2)
  have HROW := hide hr9
  clear hr9 hk9 HZ HBB HK3 d0 d1 d2 d3 d4 d5 d6 d7 d8 d9 d10 d11 d12 d13 c03 
  go_wp2
  (try simp only [Exit.inBlock, Exit.then])
  refine bodyPost_ret (res_one rfl _ _ (w.heap.size + 1) #[.int .i64 7, .int .u64 (r.l : Int), .int .i64 0, .int .u64 0, .int .i64 0, .int .i64 0, .int .i64 0, .string ⟨#[]⟩, .string ⟨#[]⟩, .int .u64 0, .int .i64 0, .int .u64 0, .slice none 0 0, .slice none 0 0] _ rfl HROW.out Try.underlying28 rfl infoRc) rfl ?_
  refine ⟨?_, HB.out⟩
  apply congrArg Ending.returned
  apply congrArg Value.agg
  unfold rcA Rec.used uV
  simp [hk, Ch.zero]

end Go.Proofs.Ytmapgfakfeddmaa
