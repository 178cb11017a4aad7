/-
  The contract of record.used, kinds 1.
-/
import Derived.Test.YtmapgfakfeddmaaRecUsed0
namespace Go.Proofs.Ytmapgfakfeddmaa
open Go.RowKit
set_option linter.unusedVariables false

set_option maxRecDepth 4000 in
set_option maxHeartbeats 1600000 in
theorem used_1 (r : Rec) (va vb : Value) (w : World) (hk : r.k = 1) (hin : RcIn w r va vb) :
    Calls Try.prog 25 #[.agg (rcA r va vb)] w fun e w' => e = .returned (.agg (rcA r.used (uV r va) (uV r vb))) ∧ Below w.heap.size w w' := by
  have HIN := hide hin
  obtain ⟨⟨e1, cap1, rfl, -⟩, ⟨e2, cap2, rfl, -⟩⟩ := hin
  have HK0 := hide (Keeps.two w 28 28 (rcA r (.slice e1 r.ts.length cap1) (.slice e2 r.ds.length cap2)) #[.int .i64 0, .int .u64 0, .int .i64 0, .int .u64 0, .int .i64 0, .int .i64 0, .int .i64 0, .string ⟨#[]⟩, .string ⟨#[]⟩, .int .u64 0, .int .i64 0, .int .u64 0, .slice none 0 0, .slice none 0 0])
  have c0 := HK0.out.1.2.1.cell 0 (.int .i64 r.k) rfl
  have c1 := HK0.out.1.2.1.cell 1 (.int .u64 (r.l : Int)) rfl
  rw [hk] at c0
  obtain ⟨A, hA⟩ : ∃ A, A = rcA r (.slice e1 r.ts.length cap1) (.slice e2 r.ds.length cap2) := ⟨_, rfl⟩
  rw [← hA] at HK0 c0 c1 ⊢
  have HA := hide hA
  clear hA
  have HK3 := hide (Keeps.three w 28 28 28 A #[.int .i64 0, .int .u64 0, .int .i64 0, .int .u64 0, .int .i64 0, .int .i64 0, .int .i64 0, .string ⟨#[]⟩, .string ⟨#[]⟩, .int .u64 0, .int .i64 0, .int .u64 0, .slice none 0 0, .slice none 0 0] #[.int .i64 1, .int .u64 (r.l : Int), .int .i64 0, .int .u64 0, .int .i64 0, .int .i64 0, .int .i64 0, .string ⟨#[]⟩, .string ⟨#[]⟩, .int .u64 0, .int .i64 0, .int .u64 0, .slice none 0 0, .slice none 0 0])
  have c03 := HK3.out.1.2.2.1.cell 0 (.int .i64 1) (by rw [HA.out, ← hk]; rfl)
  go_enter Try.func25, Try.ntmps25
  go_wp2_with fail
  refine gen_wp (fun x => Hid (Keeps w x [(w.heap.size + 1 + 1, 28, #[.int .i64 1, .int .u64 (r.l : Int), .int .i64 0, .int .u64 0, .int .i64 0, .int .i64 0, .int .i64 0, .string ⟨#[]⟩, .string ⟨#[]⟩, .int .u64 0, .int .i64 0, .int .u64 0, .slice none 0 0, .slice none 0 0]), (w.heap.size + 1, 28, #[.int .i64 0, .int .u64 0, .int .i64 0, .int .u64 0, .int .i64 0, .int .i64 0, .int .i64 0, .string ⟨#[]⟩, .string ⟨#[]⟩, .int .u64 0, .int .i64 0, .int .u64 0, .slice none 0 0, .slice none 0 0]), (w.heap.size, 28, A)])) HK3 ?_
  clear HK3 HK0 c0 c1 c03
  intro x0 HK
  have HGE : Hid (w.heap.size ≤ w.heap.size + 1 + 1 ∧ w.heap.size + 1 ≠ w.heap.size + 1 + 1 ∧ w.heap.size ≠ w.heap.size + 1 + 1 ∧ w.heap.size ≤ w.heap.size + 1) := ⟨by omega, by omega, by omega, by omega⟩
  revert HK HGE
  generalize w.heap.size + 1 + 1 = g2
  generalize w.heap.size + 1 = g1
  intro HK HGE
  have c2 := HK.out.1.2.2.1.cell 2 (.int .i64 r.t) (by rw [HA.out]; rfl)
  have c3 := HK.out.1.2.2.1.cell 3 (.int .u64 (r.p : Int)) (by rw [HA.out]; rfl)
  have f2 := HK.out.1.1.free 2
  have d2 := HK.out.1.1.cell 2 (.int .i64 0) rfl
  have f3 := HK.out.1.1.free 3
  have d3 := HK.out.1.1.cell 3 (.int .u64 0) rfl
  have n2 := HGE.out.2.2.1
  go_region
  have hl : ∀ e ∈ [(g1, 28, #[.int .i64 0, .int .u64 0, .int .i64 0, .int .u64 0, .int .i64 0, .int .i64 0, .int .i64 0, .string ⟨#[]⟩, .string ⟨#[]⟩, .int .u64 0, .int .i64 0, .int .u64 0, .slice none 0 0, .slice none 0 0]), (w.heap.size, 28, A)], e.1 ≠ g2 := by
    intro e he
    simp only [List.mem_cons, List.not_mem_nil, or_false] at he
    rcases he with rfl | rfl
    · exact HGE.out.2.1
    · exact HGE.out.2.2.1
  have HK2 : Hid (Keeps w ((x0.setCell ⟨g2, 2, none⟩ (.int .i64 r.t)).setCell ⟨g2, 3, none⟩ (.int .u64 (r.p : Int))).drew [(g2, 28, #[.int .i64 1, .int .u64 (r.l : Int), .int .i64 r.t, .int .u64 (r.p : Int), .int .i64 0, .int .i64 0, .int .i64 0, .string ⟨#[]⟩, .string ⟨#[]⟩, .int .u64 0, .int .i64 0, .int .u64 0, .slice none 0 0, .slice none 0 0]), (g1, 28, #[.int .i64 0, .int .u64 0, .int .i64 0, .int .u64 0, .int .i64 0, .int .i64 0, .int .i64 0, .string ⟨#[]⟩, .string ⟨#[]⟩, .int .u64 0, .int .i64 0, .int .u64 0, .slice none 0 0, .slice none 0 0]), (w.heap.size, 28, A)]) := ((HK.out.setTop HGE.out.1 hl 2 (.int .i64 r.t)).setTop HGE.out.1 hl 3 (.int .u64 (r.p : Int))).drew
  refine gen_w (fun x => Hid (Keeps w x [(g2, 28, #[.int .i64 1, .int .u64 (r.l : Int), .int .i64 r.t, .int .u64 (r.p : Int), .int .i64 0, .int .i64 0, .int .i64 0, .string ⟨#[]⟩, .string ⟨#[]⟩, .int .u64 0, .int .i64 0, .int .u64 0, .slice none 0 0, .slice none 0 0]), (g1, 28, #[.int .i64 0, .int .u64 0, .int .i64 0, .int .u64 0, .int .i64 0, .int .i64 0, .int .i64 0, .string ⟨#[]⟩, .string ⟨#[]⟩, .int .u64 0, .int .i64 0, .int .u64 0, .slice none 0 0, .slice none 0 0]), (w.heap.size, 28, A)])) HK2 ?_
  clear HK2 HK hl n2 c2 f2 d2 c3 f3 d3
  intro x1 HK
  have c0 := HK.out.1.2.2.1.cell 0 (.int .i64 1) (by rw [HA.out, ← hk]; rfl)
  have hl : ∀ e ∈ [(g1, 28, #[.int .i64 0, .int .u64 0, .int .i64 0, .int .u64 0, .int .i64 0, .int .i64 0, .int .i64 0, .string ⟨#[]⟩, .string ⟨#[]⟩, .int .u64 0, .int .i64 0, .int .u64 0, .slice none 0 0, .slice none 0 0]), (w.heap.size, 28, A)], e.1 ≠ g2 := by
    intro e he
    simp only [List.mem_cons, List.not_mem_nil, or_false] at he
    rcases he with rfl | rfl
    · exact HGE.out.2.1
    · exact HGE.out.2.2.1
  have HKC : Hid (Keeps w (x1.setCells g2 4 (chA r.c).toList) [(g2, 28, #[.int .i64 1, .int .u64 (r.l : Int), .int .i64 r.t, .int .u64 (r.p : Int), .int .i64 r.c.k, .int .i64 r.c.pg, .int .i64 r.c.sl, .string r.c.o, .string r.c.n, .int .u64 0, .int .i64 0, .int .u64 0, .slice none 0 0, .slice none 0 0]), (g1, 28, #[.int .i64 0, .int .u64 0, .int .i64 0, .int .u64 0, .int .i64 0, .int .i64 0, .int .i64 0, .string ⟨#[]⟩, .string ⟨#[]⟩, .int .u64 0, .int .i64 0, .int .u64 0, .slice none 0 0, .slice none 0 0]), (w.heap.size, 28, A)]) := (((((HK.out.setTop HGE.out.1 hl 4 (.int .i64 r.c.k)).setTop HGE.out.1 hl 5 (.int .i64 r.c.pg)).setTop HGE.out.1 hl 6 (.int .i64 r.c.sl)).setTop HGE.out.1 hl 7 (.string r.c.o)).setTop HGE.out.1 hl 8 (.string r.c.n))
  have HCH : Hid (x1.rangeAt w.heap.size 4 (chA r.c).toList) := rc_change (show RowAt x1 w.heap.size 28 (rcA r (.slice e1 r.ts.length cap1) (.slice e2 r.ds.length cap2)) from by rw [← HA.out]; exact HK.out.1.2.2.1)
  have HTH : Hid (x1.there g2 4 5) := row_there HK.out.1.1 4 5 (by show 4 + 5 ≤ 14; omega)
  clear hl
  go_wp2_with (first | (refine wpList_load_mid rfl 24 (.tmp 27) rfl w.heap.size 4 (chA r.c) rfl HCH.out _ Try.underlying24 rfl infoCh ?_) | (refine wpList_store_mid rfl 24 (.tmp 29) (.tmp 28) rfl g2 4 (chA r.c) rfl rfl HTH.out infoCh (chA_one _) ?_; refine gen_w (fun x => Hid (Keeps w x [(g2, 28, #[.int .i64 1, .int .u64 (r.l : Int), .int .i64 r.t, .int .u64 (r.p : Int), .int .i64 r.c.k, .int .i64 r.c.pg, .int .i64 r.c.sl, .string r.c.o, .string r.c.n, .int .u64 0, .int .i64 0, .int .u64 0, .slice none 0 0, .slice none 0 0]), (g1, 28, #[.int .i64 0, .int .u64 0, .int .i64 0, .int .u64 0, .int .i64 0, .int .i64 0, .int .i64 0, .string ⟨#[]⟩, .string ⟨#[]⟩, .int .u64 0, .int .i64 0, .int .u64 0, .slice none 0 0, .slice none 0 0]), (w.heap.size, 28, A)])) HKC ?_; clear HKC HTH HCH HK c0; intro x9 HK) | (refine wpList_load_at rfl 28 (.tmp 3) rfl g2 rfl #[.int .i64 1, .int .u64 (r.l : Int), .int .i64 r.t, .int .u64 (r.p : Int), .int .i64 r.c.k, .int .i64 r.c.pg, .int .i64 r.c.sl, .string r.c.o, .string r.c.n, .int .u64 0, .int .i64 0, .int .u64 0, .slice none 0 0, .slice none 0 0] HK.out.1.1 _ Try.underlying28 rfl infoRc ?_) | (refine wpList_store_at rfl 28 (.tmp 2) (.tmp 54) rfl g1 #[.int .i64 0, .int .u64 0, .int .i64 0, .int .u64 0, .int .i64 0, .int .i64 0, .int .i64 0, .string ⟨#[]⟩, .string ⟨#[]⟩, .int .u64 0, .int .i64 0, .int .u64 0, .slice none 0 0, .slice none 0 0] #[.int .i64 1, .int .u64 (r.l : Int), .int .i64 r.t, .int .u64 (r.p : Int), .int .i64 r.c.k, .int .i64 r.c.pg, .int .i64 r.c.sl, .string r.c.o, .string r.c.n, .int .u64 0, .int .i64 0, .int .u64 0, .slice none 0 0, .slice none 0 0] rfl rfl HK.out.1.2.1 infoRc rfl (by simp [Value.oneCell']) ?_))
  intro w9 hr9 hk9 _
  have HB := hide (hk9 _ _ HK.out.2 HGE.out.2.2.2)
  have HROW := hide hr9
  clear hr9 hk9 HK
  go_wp2
  (try simp only [Exit.inBlock, Exit.then])
  refine bodyPost_ret (res_one rfl _ _ g1 #[.int .i64 1, .int .u64 (r.l : Int), .int .i64 r.t, .int .u64 (r.p : Int), .int .i64 r.c.k, .int .i64 r.c.pg, .int .i64 r.c.sl, .string r.c.o, .string r.c.n, .int .u64 0, .int .i64 0, .int .u64 0, .slice none 0 0, .slice none 0 0] _ rfl HROW.out Try.underlying28 rfl infoRc) rfl ?_
  refine ⟨?_, HB.out⟩
  apply congrArg Ending.returned
  apply congrArg Value.agg
  unfold rcA Rec.used uV
  simp [hk]

end Go.Proofs.Ytmapgfakfeddmaa
