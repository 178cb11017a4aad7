/-
  Texts that lean on one another, one behind the other: each opens with its own remark.
-/
import Derived.Test.YtfbelaalmdcaaaaProg
import Derived.WalkSpells
import Derived.ArgAppend
import Derived.Deep.RegionLawGrows
import Derived.Laws.AppendOwn
import Derived.Laws.AppendOwnNone
import Derived.Lib.AppendStr
import Derived.Lib.AppendZerosOnto
import Derived.Laws.CopyOwn
import Derived.Room.AppendFits
import Derived.Laws.OwnMore
import Derived.Test.YtfbelaalmdcaaaaK04
import Derived.Test.YtfbelaalmdcaaaaK00
import Derived.Test.YtfbelaalmdcaaaaK01

/-
  The contract of record.used, kinds 6, 8.
-/
namespace Go.Proofs.Ytfbelaalmdcaaaa
open Go.RowKit
set_option linter.unusedVariables false

set_option maxRecDepth 4000 in
set_option maxHeartbeats 1600000 in
theorem used_6 (r : Rec) (va vb : Value) (w : World) (hk : r.k = 6) (hin : RcIn w r va vb) :
    Calls Try.prog 81 #[.agg (rcA r va vb)] w fun e w' => e = .returned (.agg (rcA r.used (uV r va) (uV r vb))) ∧ Below w.heap.size w w' := by
  have HIN := hide hin
  obtain ⟨⟨e1, cap1, rfl, -⟩, ⟨e2, cap2, rfl, -⟩⟩ := hin
  have HK0 := hide (Keeps.two w 43 43 (rcA r (.slice e1 r.ts.length cap1) (.slice e2 r.ds.length cap2)) #[.int .i64 0, .int .u64 0, .int .i64 0, .int .u64 0, .int .i64 0, .int .i64 0, .int .i64 0, .string ⟨#[]⟩, .string ⟨#[]⟩, .int .u64 0, .int .i64 0, .int .u64 0, .slice none 0 0, .slice none 0 0])
  have c0 := HK0.out.1.2.1.cell 0 (.int .i64 r.k) rfl
  have c1 := HK0.out.1.2.1.cell 1 (.int .u64 (r.l : Int)) rfl
  rw [hk] at c0
  obtain ⟨A, hA⟩ : ∃ A, A = rcA r (.slice e1 r.ts.length cap1) (.slice e2 r.ds.length cap2) := ⟨_, rfl⟩
  rw [← hA] at HK0 c0 c1 ⊢
  have HA := hide hA
  clear hA
  have HK3 := hide (Keeps.three w 43 43 43 A #[.int .i64 0, .int .u64 0, .int .i64 0, .int .u64 0, .int .i64 0, .int .i64 0, .int .i64 0, .string ⟨#[]⟩, .string ⟨#[]⟩, .int .u64 0, .int .i64 0, .int .u64 0, .slice none 0 0, .slice none 0 0] #[.int .i64 6, .int .u64 (r.l : Int), .int .i64 0, .int .u64 0, .int .i64 0, .int .i64 0, .int .i64 0, .string ⟨#[]⟩, .string ⟨#[]⟩, .int .u64 0, .int .i64 0, .int .u64 0, .slice none 0 0, .slice none 0 0])
  have c03 := HK3.out.1.2.2.1.cell 0 (.int .i64 6) (by rw [HA.out, ← hk]; rfl)
  go_enter Try.func81, Try.ntmps81
  go_wp2_with fail
  refine gen_wp (fun x => Hid (Keeps w x [(w.heap.size + 1 + 1, 43, #[.int .i64 6, .int .u64 (r.l : Int), .int .i64 0, .int .u64 0, .int .i64 0, .int .i64 0, .int .i64 0, .string ⟨#[]⟩, .string ⟨#[]⟩, .int .u64 0, .int .i64 0, .int .u64 0, .slice none 0 0, .slice none 0 0]), (w.heap.size + 1, 43, #[.int .i64 0, .int .u64 0, .int .i64 0, .int .u64 0, .int .i64 0, .int .i64 0, .int .i64 0, .string ⟨#[]⟩, .string ⟨#[]⟩, .int .u64 0, .int .i64 0, .int .u64 0, .slice none 0 0, .slice none 0 0]), (w.heap.size, 43, A)])) HK3 ?_
  clear HK3 HK0 c0 c1 c03
  intro x0 HK
  have HGE : Hid (w.heap.size ≤ w.heap.size + 1 + 1 ∧ w.heap.size + 1 ≠ w.heap.size + 1 + 1 ∧ w.heap.size ≠ w.heap.size + 1 + 1 ∧ w.heap.size ≤ w.heap.size + 1) := ⟨by omega, by omega, by omega, by omega⟩
  revert HK HGE
  generalize w.heap.size + 1 + 1 = g2
  generalize w.heap.size + 1 = g1
  intro HK HGE
  have c2 := HK.out.1.2.2.1.cell 2 (.int .i64 r.t) (by rw [HA.out]; rfl)
  have c3 := HK.out.1.2.2.1.cell 3 (.int .u64 (r.p : Int)) (by rw [HA.out]; rfl)
  have f2 := HK.out.1.1.free 2
  have d2 := HK.out.1.1.cell 2 (.int .i64 0) rfl
  have f3 := HK.out.1.1.free 3
  have d3 := HK.out.1.1.cell 3 (.int .u64 0) rfl
  have n2 := HGE.out.2.2.1
  go_region
  have hl : ∀ e ∈ [(g1, 43, #[.int .i64 0, .int .u64 0, .int .i64 0, .int .u64 0, .int .i64 0, .int .i64 0, .int .i64 0, .string ⟨#[]⟩, .string ⟨#[]⟩, .int .u64 0, .int .i64 0, .int .u64 0, .slice none 0 0, .slice none 0 0]), (w.heap.size, 43, A)], e.1 ≠ g2 := by
    intro e he
    simp only [List.mem_cons, List.not_mem_nil, or_false] at he
    rcases he with rfl | rfl
    · exact HGE.out.2.1
    · exact HGE.out.2.2.1
  have HK2 : Hid (Keeps w ((x0.setCell ⟨g2, 2, none⟩ (.int .i64 r.t)).setCell ⟨g2, 3, none⟩ (.int .u64 (r.p : Int))).drew [(g2, 43, #[.int .i64 6, .int .u64 (r.l : Int), .int .i64 r.t, .int .u64 (r.p : Int), .int .i64 0, .int .i64 0, .int .i64 0, .string ⟨#[]⟩, .string ⟨#[]⟩, .int .u64 0, .int .i64 0, .int .u64 0, .slice none 0 0, .slice none 0 0]), (g1, 43, #[.int .i64 0, .int .u64 0, .int .i64 0, .int .u64 0, .int .i64 0, .int .i64 0, .int .i64 0, .string ⟨#[]⟩, .string ⟨#[]⟩, .int .u64 0, .int .i64 0, .int .u64 0, .slice none 0 0, .slice none 0 0]), (w.heap.size, 43, A)]) := ((HK.out.setTop HGE.out.1 hl 2 (.int .i64 r.t)).setTop HGE.out.1 hl 3 (.int .u64 (r.p : Int))).drew
  refine gen_w (fun x => Hid (Keeps w x [(g2, 43, #[.int .i64 6, .int .u64 (r.l : Int), .int .i64 r.t, .int .u64 (r.p : Int), .int .i64 0, .int .i64 0, .int .i64 0, .string ⟨#[]⟩, .string ⟨#[]⟩, .int .u64 0, .int .i64 0, .int .u64 0, .slice none 0 0, .slice none 0 0]), (g1, 43, #[.int .i64 0, .int .u64 0, .int .i64 0, .int .u64 0, .int .i64 0, .int .i64 0, .int .i64 0, .string ⟨#[]⟩, .string ⟨#[]⟩, .int .u64 0, .int .i64 0, .int .u64 0, .slice none 0 0, .slice none 0 0]), (w.heap.size, 43, A)])) HK2 ?_
  clear HK2 HK hl n2 c2 f2 d2 c3 f3 d3
  intro x1 HK
  have c0 := HK.out.1.2.2.1.cell 0 (.int .i64 6) (by rw [HA.out, ← hk]; rfl)
  have c10 := HK.out.1.2.2.1.cell 10 (.int .i64 r.s) (by rw [HA.out]; rfl)
  have f10 := HK.out.1.1.free 10
  have d0 := HK.out.1.1.cell 0 (.int .i64 6) rfl
  have d1 := HK.out.1.1.cell 1 (.int .u64 (r.l : Int)) rfl
  have d2 := HK.out.1.1.cell 2 (.int .i64 r.t) rfl
  have d3 := HK.out.1.1.cell 3 (.int .u64 (r.p : Int)) rfl
  have d4 := HK.out.1.1.cell 4 (.int .i64 0) rfl
  have d5 := HK.out.1.1.cell 5 (.int .i64 0) rfl
  have d6 := HK.out.1.1.cell 6 (.int .i64 0) rfl
  have d7 := HK.out.1.1.cell 7 (.string ⟨#[]⟩) rfl
  have d8 := HK.out.1.1.cell 8 (.string ⟨#[]⟩) rfl
  have d9 := HK.out.1.1.cell 9 (.int .u64 0) rfl
  have d10 := HK.out.1.1.cell 10 (.int .i64 0) rfl
  have d11 := HK.out.1.1.cell 11 (.int .u64 0) rfl
  have d12 := HK.out.1.1.cell 12 (.slice none 0 0) rfl
  have d13 := HK.out.1.1.cell 13 (.slice none 0 0) rfl
  have n1 := HGE.out.2.1
  have n2 := HGE.out.2.2.1
  have HZ := hide (HK.out.1.2.1.other ⟨g2, 10, none⟩ (.int .i64 r.s) HGE.out.2.1)
  have HBB := hide (HK.out.2.set1 HGE.out.1 10 (.int .i64 r.s))
  go_wp2_with (refine wpList_store_at rfl 43 (.tmp 2) (.tmp 54) rfl g1 #[.int .i64 0, .int .u64 0, .int .i64 0, .int .u64 0, .int .i64 0, .int .i64 0, .int .i64 0, .string ⟨#[]⟩, .string ⟨#[]⟩, .int .u64 0, .int .i64 0, .int .u64 0, .slice none 0 0, .slice none 0 0] #[.int .i64 6, .int .u64 (r.l : Int), .int .i64 r.t, .int .u64 (r.p : Int), .int .i64 0, .int .i64 0, .int .i64 0, .string ⟨#[]⟩, .string ⟨#[]⟩, .int .u64 0, .int .i64 r.s, .int .u64 0, .slice none 0 0, .slice none 0 0] rfl rfl HZ.out infoRc rfl (by simp [Value.oneCell']) ?_)
  intro w9 hr9 hk9 _
  have HB := hide (hk9 _ _ HBB.out HGE.out.2.2.2)
  have HROW := hide hr9
  clear hr9 hk9 HZ HBB HK d0 d1 d2 d3 d4 d5 d6 d7 d8 d9 d10 d11 d12 d13 c0 c10 f10
  go_wp2
  (try simp only [Exit.inBlock, Exit.then])
  refine bodyPost_ret (res_one rfl _ _ g1 #[.int .i64 6, .int .u64 (r.l : Int), .int .i64 r.t, .int .u64 (r.p : Int), .int .i64 0, .int .i64 0, .int .i64 0, .string ⟨#[]⟩, .string ⟨#[]⟩, .int .u64 0, .int .i64 r.s, .int .u64 0, .slice none 0 0, .slice none 0 0] _ rfl HROW.out Try.underlying43 rfl infoRc) rfl ?_
  refine ⟨?_, HB.out⟩
  apply congrArg Ending.returned
  apply congrArg Value.agg
  unfold rcA Rec.used uV
  simp [hk, Ch.zero]

set_option maxRecDepth 4000 in
set_option maxHeartbeats 1600000 in
theorem used_8 (r : Rec) (va vb : Value) (w : World) (hk : r.k = 8) (hin : RcIn w r va vb) :
    Calls Try.prog 81 #[.agg (rcA r va vb)] w fun e w' => e = .returned (.agg (rcA r.used (uV r va) (uV r vb))) ∧ Below w.heap.size w w' := by
  have HIN := hide hin
  obtain ⟨⟨e1, cap1, rfl, -⟩, ⟨e2, cap2, rfl, -⟩⟩ := hin
  have HK0 := hide (Keeps.two w 43 43 (rcA r (.slice e1 r.ts.length cap1) (.slice e2 r.ds.length cap2)) #[.int .i64 0, .int .u64 0, .int .i64 0, .int .u64 0, .int .i64 0, .int .i64 0, .int .i64 0, .string ⟨#[]⟩, .string ⟨#[]⟩, .int .u64 0, .int .i64 0, .int .u64 0, .slice none 0 0, .slice none 0 0])
  have c0 := HK0.out.1.2.1.cell 0 (.int .i64 r.k) rfl
  have c1 := HK0.out.1.2.1.cell 1 (.int .u64 (r.l : Int)) rfl
  rw [hk] at c0
  obtain ⟨A, hA⟩ : ∃ A, A = rcA r (.slice e1 r.ts.length cap1) (.slice e2 r.ds.length cap2) := ⟨_, rfl⟩
  rw [← hA] at HK0 c0 c1 ⊢
  have HA := hide hA
  clear hA
  have HK3 := hide (Keeps.three w 43 43 43 A #[.int .i64 0, .int .u64 0, .int .i64 0, .int .u64 0, .int .i64 0, .int .i64 0, .int .i64 0, .string ⟨#[]⟩, .string ⟨#[]⟩, .int .u64 0, .int .i64 0, .int .u64 0, .slice none 0 0, .slice none 0 0] #[.int .i64 8, .int .u64 (r.l : Int), .int .i64 0, .int .u64 0, .int .i64 0, .int .i64 0, .int .i64 0, .string ⟨#[]⟩, .string ⟨#[]⟩, .int .u64 0, .int .i64 0, .int .u64 0, .slice none 0 0, .slice none 0 0])
  have c03 := HK3.out.1.2.2.1.cell 0 (.int .i64 8) (by rw [HA.out, ← hk]; rfl)
  go_enter Try.func81, Try.ntmps81
  go_wp2_with fail
  refine gen_wp (fun x => Hid (Keeps w x [(w.heap.size + 1 + 1, 43, #[.int .i64 8, .int .u64 (r.l : Int), .int .i64 0, .int .u64 0, .int .i64 0, .int .i64 0, .int .i64 0, .string ⟨#[]⟩, .string ⟨#[]⟩, .int .u64 0, .int .i64 0, .int .u64 0, .slice none 0 0, .slice none 0 0]), (w.heap.size + 1, 43, #[.int .i64 0, .int .u64 0, .int .i64 0, .int .u64 0, .int .i64 0, .int .i64 0, .int .i64 0, .string ⟨#[]⟩, .string ⟨#[]⟩, .int .u64 0, .int .i64 0, .int .u64 0, .slice none 0 0, .slice none 0 0]), (w.heap.size, 43, A)])) HK3 ?_
  clear HK3 HK0 c0 c1 c03
  intro x0 HK
  have HGE : Hid (w.heap.size ≤ w.heap.size + 1 + 1 ∧ w.heap.size + 1 ≠ w.heap.size + 1 + 1 ∧ w.heap.size ≠ w.heap.size + 1 + 1 ∧ w.heap.size ≤ w.heap.size + 1) := ⟨by omega, by omega, by omega, by omega⟩
  revert HK HGE
  generalize w.heap.size + 1 + 1 = g2
  generalize w.heap.size + 1 = g1
  intro HK HGE
  have c11 := HK.out.1.2.2.1.cell 11 (.int .u64 (r.b : Int)) (by rw [HA.out]; rfl)
  have c12 := HK.out.1.2.2.1.cell 12 (.slice e1 r.ts.length cap1) (by rw [HA.out]; rfl)
  have c13 := HK.out.1.2.2.1.cell 13 (.slice e2 r.ds.length cap2) (by rw [HA.out]; rfl)
  have f11 := HK.out.1.1.free 11
  have d11 := HK.out.1.1.cell 11 (.int .u64 0) rfl
  have f12 := HK.out.1.1.free 12
  have d12 := HK.out.1.1.cell 12 (.slice none 0 0) rfl
  have f13 := HK.out.1.1.free 13
  have d13 := HK.out.1.1.cell 13 (.slice none 0 0) rfl
  have n2 := HGE.out.2.2.1
  go_region
  have hl : ∀ e ∈ [(g1, 43, #[.int .i64 0, .int .u64 0, .int .i64 0, .int .u64 0, .int .i64 0, .int .i64 0, .int .i64 0, .string ⟨#[]⟩, .string ⟨#[]⟩, .int .u64 0, .int .i64 0, .int .u64 0, .slice none 0 0, .slice none 0 0]), (w.heap.size, 43, A)], e.1 ≠ g2 := by
    intro e he
    simp only [List.mem_cons, List.not_mem_nil, or_false] at he
    rcases he with rfl | rfl
    · exact HGE.out.2.1
    · exact HGE.out.2.2.1
  have HK2 : Hid (Keeps w (((x0.setCell ⟨g2, 11, none⟩ (.int .u64 (r.b : Int))).setCell ⟨g2, 12, none⟩ (.slice e1 r.ts.length cap1)).setCell ⟨g2, 13, none⟩ (.slice e2 r.ds.length cap2)).drew [(g2, 43, #[.int .i64 8, .int .u64 (r.l : Int), .int .i64 0, .int .u64 0, .int .i64 0, .int .i64 0, .int .i64 0, .string ⟨#[]⟩, .string ⟨#[]⟩, .int .u64 0, .int .i64 0, .int .u64 (r.b : Int), .slice e1 r.ts.length cap1, .slice e2 r.ds.length cap2]), (g1, 43, #[.int .i64 0, .int .u64 0, .int .i64 0, .int .u64 0, .int .i64 0, .int .i64 0, .int .i64 0, .string ⟨#[]⟩, .string ⟨#[]⟩, .int .u64 0, .int .i64 0, .int .u64 0, .slice none 0 0, .slice none 0 0]), (w.heap.size, 43, A)]) := (((HK.out.setTop HGE.out.1 hl 11 (.int .u64 (r.b : Int))).setTop HGE.out.1 hl 12 (.slice e1 r.ts.length cap1)).setTop HGE.out.1 hl 13 (.slice e2 r.ds.length cap2)).drew
  refine gen_w (fun x => Hid (Keeps w x [(g2, 43, #[.int .i64 8, .int .u64 (r.l : Int), .int .i64 0, .int .u64 0, .int .i64 0, .int .i64 0, .int .i64 0, .string ⟨#[]⟩, .string ⟨#[]⟩, .int .u64 0, .int .i64 0, .int .u64 (r.b : Int), .slice e1 r.ts.length cap1, .slice e2 r.ds.length cap2]), (g1, 43, #[.int .i64 0, .int .u64 0, .int .i64 0, .int .u64 0, .int .i64 0, .int .i64 0, .int .i64 0, .string ⟨#[]⟩, .string ⟨#[]⟩, .int .u64 0, .int .i64 0, .int .u64 0, .slice none 0 0, .slice none 0 0]), (w.heap.size, 43, A)])) HK2 ?_
  clear HK2 HK hl n2 c11 f11 d11 c12 f12 d12 c13 f13 d13
  intro x1 HK
  have c0 := HK.out.1.2.2.1.cell 0 (.int .i64 8) (by rw [HA.out, ← hk]; rfl)
  have d0 := HK.out.1.1.cell 0 (.int .i64 8) rfl
  have d1 := HK.out.1.1.cell 1 (.int .u64 (r.l : Int)) rfl
  have d2 := HK.out.1.1.cell 2 (.int .i64 0) rfl
  have d3 := HK.out.1.1.cell 3 (.int .u64 0) rfl
  have d4 := HK.out.1.1.cell 4 (.int .i64 0) rfl
  have d5 := HK.out.1.1.cell 5 (.int .i64 0) rfl
  have d6 := HK.out.1.1.cell 6 (.int .i64 0) rfl
  have d7 := HK.out.1.1.cell 7 (.string ⟨#[]⟩) rfl
  have d8 := HK.out.1.1.cell 8 (.string ⟨#[]⟩) rfl
  have d9 := HK.out.1.1.cell 9 (.int .u64 0) rfl
  have d10 := HK.out.1.1.cell 10 (.int .i64 0) rfl
  have d11 := HK.out.1.1.cell 11 (.int .u64 (r.b : Int)) rfl
  have d12 := HK.out.1.1.cell 12 (.slice e1 r.ts.length cap1) rfl
  have d13 := HK.out.1.1.cell 13 (.slice e2 r.ds.length cap2) rfl
  have n1 := HGE.out.2.1
  have n2 := HGE.out.2.2.1
  have HZ := hide HK.out.1.2.1
  have HBB := hide HK.out.2
  go_wp2_with (refine wpList_store_at rfl 43 (.tmp 2) (.tmp 54) rfl g1 #[.int .i64 0, .int .u64 0, .int .i64 0, .int .u64 0, .int .i64 0, .int .i64 0, .int .i64 0, .string ⟨#[]⟩, .string ⟨#[]⟩, .int .u64 0, .int .i64 0, .int .u64 0, .slice none 0 0, .slice none 0 0] #[.int .i64 8, .int .u64 (r.l : Int), .int .i64 0, .int .u64 0, .int .i64 0, .int .i64 0, .int .i64 0, .string ⟨#[]⟩, .string ⟨#[]⟩, .int .u64 0, .int .i64 0, .int .u64 (r.b : Int), .slice e1 r.ts.length cap1, .slice e2 r.ds.length cap2] rfl rfl HZ.out infoRc rfl (by simp [Value.oneCell']) ?_)
  intro w9 hr9 hk9 _
  have HB := hide (hk9 _ _ HBB.out HGE.out.2.2.2)
  have HROW := hide hr9
  clear hr9 hk9 HZ HBB HK d0 d1 d2 d3 d4 d5 d6 d7 d8 d9 d10 d11 d12 d13 c0 
  go_wp2
  (try simp only [Exit.inBlock, Exit.then])
  refine bodyPost_ret (res_one rfl _ _ g1 #[.int .i64 8, .int .u64 (r.l : Int), .int .i64 0, .int .u64 0, .int .i64 0, .int .i64 0, .int .i64 0, .string ⟨#[]⟩, .string ⟨#[]⟩, .int .u64 0, .int .i64 0, .int .u64 (r.b : Int), .slice e1 r.ts.length cap1, .slice e2 r.ds.length cap2] _ rfl HROW.out Try.underlying43 rfl infoRc) rfl ?_
  refine ⟨?_, HB.out⟩
  apply congrArg Ending.returned
  apply congrArg Value.agg
  unfold rcA Rec.used uV
  simp [hk, Ch.zero]

end Go.Proofs.Ytfbelaalmdcaaaa

/-
  The contract of record.used, kinds 7.
-/
namespace Go.Proofs.Ytfbelaalmdcaaaa
open Go.RowKit
set_option linter.unusedVariables false

set_option maxRecDepth 4000 in
set_option maxHeartbeats 1600000 in
theorem used_7 (r : Rec) (va vb : Value) (w : World) (hk : r.k = 7) (hin : RcIn w r va vb) :
    Calls Try.prog 81 #[.agg (rcA r va vb)] w fun e w' => e = .returned (.agg (rcA r.used (uV r va) (uV r vb))) ∧ Below w.heap.size w w' := by
  have HIN := hide hin
  obtain ⟨⟨e1, cap1, rfl, -⟩, ⟨e2, cap2, rfl, -⟩⟩ := hin
  have HK0 := hide (Keeps.two w 43 43 (rcA r (.slice e1 r.ts.length cap1) (.slice e2 r.ds.length cap2)) #[.int .i64 0, .int .u64 0, .int .i64 0, .int .u64 0, .int .i64 0, .int .i64 0, .int .i64 0, .string ⟨#[]⟩, .string ⟨#[]⟩, .int .u64 0, .int .i64 0, .int .u64 0, .slice none 0 0, .slice none 0 0])
  have c0 := HK0.out.1.2.1.cell 0 (.int .i64 r.k) rfl
  have c1 := HK0.out.1.2.1.cell 1 (.int .u64 (r.l : Int)) rfl
  rw [hk] at c0
  obtain ⟨A, hA⟩ : ∃ A, A = rcA r (.slice e1 r.ts.length cap1) (.slice e2 r.ds.length cap2) := ⟨_, rfl⟩
  rw [← hA] at HK0 c0 c1 ⊢
  have HA := hide hA
  clear hA
  have HK3 := hide (Keeps.three w 43 43 43 A #[.int .i64 0, .int .u64 0, .int .i64 0, .int .u64 0, .int .i64 0, .int .i64 0, .int .i64 0, .string ⟨#[]⟩, .string ⟨#[]⟩, .int .u64 0, .int .i64 0, .int .u64 0, .slice none 0 0, .slice none 0 0] #[.int .i64 7, .int .u64 (r.l : Int), .int .i64 0, .int .u64 0, .int .i64 0, .int .i64 0, .int .i64 0, .string ⟨#[]⟩, .string ⟨#[]⟩, .int .u64 0, .int .i64 0, .int .u64 0, .slice none 0 0, .slice none 0 0])
  have HGE : Hid (w.heap.size ≤ w.heap.size + 1 + 1 ∧ w.heap.size + 1 ≠ w.heap.size + 1 + 1 ∧ w.heap.size ≠ w.heap.size + 1 + 1 ∧ w.heap.size ≤ w.heap.size + 1) := ⟨by omega, by omega, by omega, by omega⟩
  have c03 := HK3.out.1.2.2.1.cell 0 (.int .i64 7) (by rw [HA.out, ← hk]; rfl)
  have d0 := HK3.out.1.1.cell 0 (.int .i64 7) rfl
  have d1 := HK3.out.1.1.cell 1 (.int .u64 (r.l : Int)) rfl
  have d2 := HK3.out.1.1.cell 2 (.int .i64 0) rfl
  have d3 := HK3.out.1.1.cell 3 (.int .u64 0) rfl
  have d4 := HK3.out.1.1.cell 4 (.int .i64 0) rfl
  have d5 := HK3.out.1.1.cell 5 (.int .i64 0) rfl
  have d6 := HK3.out.1.1.cell 6 (.int .i64 0) rfl
  have d7 := HK3.out.1.1.cell 7 (.string ⟨#[]⟩) rfl
  have d8 := HK3.out.1.1.cell 8 (.string ⟨#[]⟩) rfl
  have d9 := HK3.out.1.1.cell 9 (.int .u64 0) rfl
  have d10 := HK3.out.1.1.cell 10 (.int .i64 0) rfl
  have d11 := HK3.out.1.1.cell 11 (.int .u64 0) rfl
  have d12 := HK3.out.1.1.cell 12 (.slice none 0 0) rfl
  have d13 := HK3.out.1.1.cell 13 (.slice none 0 0) rfl
  have n1 := HGE.out.2.1
  have n2 := HGE.out.2.2.1
  have HZ := hide HK3.out.1.2.1
  have HBB := hide HK3.out.2
  go_enter Try.func81, Try.ntmps81
  go_wp2_with (refine wpList_store_at rfl 43 (.tmp 2) (.tmp 54) rfl (w.heap.size + 1) #[.int .i64 0, .int .u64 0, .int .i64 0, .int .u64 0, .int .i64 0, .int .i64 0, .int .i64 0, .string ⟨#[]⟩, .string ⟨#[]⟩, .int .u64 0, .int .i64 0, .int .u64 0, .slice none 0 0, .slice none 0 0] #[.int .i64 7, .int .u64 (r.l : Int), .int .i64 0, .int .u64 0, .int .i64 0, .int .i64 0, .int .i64 0, .string ⟨#[]⟩, .string ⟨#[]⟩, .int .u64 0, .int .i64 0, .int .u64 0, .slice none 0 0, .slice none 0 0] rfl rfl HZ.out infoRc rfl (by simp [Value.oneCell']) ?_)
  intro w9 hr9 hk9 _
  have HB := hide (hk9 _ _ HBB.out HGE.out.2.2.2)
  have HROW := hide hr9
  clear hr9 hk9 HZ HBB HK3 d0 d1 d2 d3 d4 d5 d6 d7 d8 d9 d10 d11 d12 d13 c03 
  go_wp2
  (try simp only [Exit.inBlock, Exit.then])
  refine bodyPost_ret (res_one rfl _ _ (w.heap.size + 1) #[.int .i64 7, .int .u64 (r.l : Int), .int .i64 0, .int .u64 0, .int .i64 0, .int .i64 0, .int .i64 0, .string ⟨#[]⟩, .string ⟨#[]⟩, .int .u64 0, .int .i64 0, .int .u64 0, .slice none 0 0, .slice none 0 0] _ rfl HROW.out Try.underlying43 rfl infoRc) rfl ?_
  refine ⟨?_, HB.out⟩
  apply congrArg Ending.returned
  apply congrArg Value.agg
  unfold rcA Rec.used uV
  simp [hk, Ch.zero]

end Go.Proofs.Ytfbelaalmdcaaaa

/-
  The contract of record.used, kinds 2.
-/
namespace Go.Proofs.Ytfbelaalmdcaaaa
open Go.RowKit
set_option linter.unusedVariables false

set_option maxRecDepth 4000 in
set_option maxHeartbeats 1600000 in
theorem used_2 (r : Rec) (va vb : Value) (w : World) (hk : r.k = 2) (hin : RcIn w r va vb) :
    Calls Try.prog 81 #[.agg (rcA r va vb)] w fun e w' => e = .returned (.agg (rcA r.used (uV r va) (uV r vb))) ∧ Below w.heap.size w w' := by
  have HIN := hide hin
  obtain ⟨⟨e1, cap1, rfl, -⟩, ⟨e2, cap2, rfl, -⟩⟩ := hin
  have HK0 := hide (Keeps.two w 43 43 (rcA r (.slice e1 r.ts.length cap1) (.slice e2 r.ds.length cap2)) #[.int .i64 0, .int .u64 0, .int .i64 0, .int .u64 0, .int .i64 0, .int .i64 0, .int .i64 0, .string ⟨#[]⟩, .string ⟨#[]⟩, .int .u64 0, .int .i64 0, .int .u64 0, .slice none 0 0, .slice none 0 0])
  have c0 := HK0.out.1.2.1.cell 0 (.int .i64 r.k) rfl
  have c1 := HK0.out.1.2.1.cell 1 (.int .u64 (r.l : Int)) rfl
  rw [hk] at c0
  obtain ⟨A, hA⟩ : ∃ A, A = rcA r (.slice e1 r.ts.length cap1) (.slice e2 r.ds.length cap2) := ⟨_, rfl⟩
  rw [← hA] at HK0 c0 c1 ⊢
  have HA := hide hA
  clear hA
  have HK3 := hide (Keeps.three w 43 43 43 A #[.int .i64 0, .int .u64 0, .int .i64 0, .int .u64 0, .int .i64 0, .int .i64 0, .int .i64 0, .string ⟨#[]⟩, .string ⟨#[]⟩, .int .u64 0, .int .i64 0, .int .u64 0, .slice none 0 0, .slice none 0 0] #[.int .i64 2, .int .u64 (r.l : Int), .int .i64 0, .int .u64 0, .int .i64 0, .int .i64 0, .int .i64 0, .string ⟨#[]⟩, .string ⟨#[]⟩, .int .u64 0, .int .i64 0, .int .u64 0, .slice none 0 0, .slice none 0 0])
  have c03 := HK3.out.1.2.2.1.cell 0 (.int .i64 2) (by rw [HA.out, ← hk]; rfl)
  go_enter Try.func81, Try.ntmps81
  go_wp2_with fail
  refine gen_wp (fun x => Hid (Keeps w x [(w.heap.size + 1 + 1, 43, #[.int .i64 2, .int .u64 (r.l : Int), .int .i64 0, .int .u64 0, .int .i64 0, .int .i64 0, .int .i64 0, .string ⟨#[]⟩, .string ⟨#[]⟩, .int .u64 0, .int .i64 0, .int .u64 0, .slice none 0 0, .slice none 0 0]), (w.heap.size + 1, 43, #[.int .i64 0, .int .u64 0, .int .i64 0, .int .u64 0, .int .i64 0, .int .i64 0, .int .i64 0, .string ⟨#[]⟩, .string ⟨#[]⟩, .int .u64 0, .int .i64 0, .int .u64 0, .slice none 0 0, .slice none 0 0]), (w.heap.size, 43, A)])) HK3 ?_
  clear HK3 HK0 c0 c1 c03
  intro x0 HK
  have HGE : Hid (w.heap.size ≤ w.heap.size + 1 + 1 ∧ w.heap.size + 1 ≠ w.heap.size + 1 + 1 ∧ w.heap.size ≠ w.heap.size + 1 + 1 ∧ w.heap.size ≤ w.heap.size + 1) := ⟨by omega, by omega, by omega, by omega⟩
  revert HK HGE
  generalize w.heap.size + 1 + 1 = g2
  generalize w.heap.size + 1 = g1
  intro HK HGE
  have c2 := HK.out.1.2.2.1.cell 2 (.int .i64 r.t) (by rw [HA.out]; rfl)
  have c3 := HK.out.1.2.2.1.cell 3 (.int .u64 (r.p : Int)) (by rw [HA.out]; rfl)
  have f2 := HK.out.1.1.free 2
  have d2 := HK.out.1.1.cell 2 (.int .i64 0) rfl
  have f3 := HK.out.1.1.free 3
  have d3 := HK.out.1.1.cell 3 (.int .u64 0) rfl
  have n2 := HGE.out.2.2.1
  go_region
  have hl : ∀ e ∈ [(g1, 43, #[.int .i64 0, .int .u64 0, .int .i64 0, .int .u64 0, .int .i64 0, .int .i64 0, .int .i64 0, .string ⟨#[]⟩, .string ⟨#[]⟩, .int .u64 0, .int .i64 0, .int .u64 0, .slice none 0 0, .slice none 0 0]), (w.heap.size, 43, A)], e.1 ≠ g2 := by
    intro e he
    simp only [List.mem_cons, List.not_mem_nil, or_false] at he
    rcases he with rfl | rfl
    · exact HGE.out.2.1
    · exact HGE.out.2.2.1
  have HK2 : Hid (Keeps w ((x0.setCell ⟨g2, 2, none⟩ (.int .i64 r.t)).setCell ⟨g2, 3, none⟩ (.int .u64 (r.p : Int))).drew [(g2, 43, #[.int .i64 2, .int .u64 (r.l : Int), .int .i64 r.t, .int .u64 (r.p : Int), .int .i64 0, .int .i64 0, .int .i64 0, .string ⟨#[]⟩, .string ⟨#[]⟩, .int .u64 0, .int .i64 0, .int .u64 0, .slice none 0 0, .slice none 0 0]), (g1, 43, #[.int .i64 0, .int .u64 0, .int .i64 0, .int .u64 0, .int .i64 0, .int .i64 0, .int .i64 0, .string ⟨#[]⟩, .string ⟨#[]⟩, .int .u64 0, .int .i64 0, .int .u64 0, .slice none 0 0, .slice none 0 0]), (w.heap.size, 43, A)]) := ((HK.out.setTop HGE.out.1 hl 2 (.int .i64 r.t)).setTop HGE.out.1 hl 3 (.int .u64 (r.p : Int))).drew
  refine gen_w (fun x => Hid (Keeps w x [(g2, 43, #[.int .i64 2, .int .u64 (r.l : Int), .int .i64 r.t, .int .u64 (r.p : Int), .int .i64 0, .int .i64 0, .int .i64 0, .string ⟨#[]⟩, .string ⟨#[]⟩, .int .u64 0, .int .i64 0, .int .u64 0, .slice none 0 0, .slice none 0 0]), (g1, 43, #[.int .i64 0, .int .u64 0, .int .i64 0, .int .u64 0, .int .i64 0, .int .i64 0, .int .i64 0, .string ⟨#[]⟩, .string ⟨#[]⟩, .int .u64 0, .int .i64 0, .int .u64 0, .slice none 0 0, .slice none 0 0]), (w.heap.size, 43, A)])) HK2 ?_
  clear HK2 HK hl n2 c2 f2 d2 c3 f3 d3
  intro x1 HK
  have c0 := HK.out.1.2.2.1.cell 0 (.int .i64 2) (by rw [HA.out, ← hk]; rfl)
  go_wp2_with fail
  clear c0
  have c4 := HK.out.1.2.2.1.cell 4 (.int .i64 r.c.k) (by rw [HA.out]; rfl)
  have c5 := HK.out.1.2.2.1.cell 5 (.int .i64 r.c.pg) (by rw [HA.out]; rfl)
  have c6 := HK.out.1.2.2.1.cell 6 (.int .i64 r.c.sl) (by rw [HA.out]; rfl)
  have c7 := HK.out.1.2.2.1.cell 7 (.string r.c.o) (by rw [HA.out]; rfl)
  have c8 := HK.out.1.2.2.1.cell 8 (.string r.c.n) (by rw [HA.out]; rfl)
  have c9 := HK.out.1.2.2.1.cell 9 (.int .u64 (r.n : Int)) (by rw [HA.out]; rfl)
  have f4 := HK.out.1.1.free 4
  have d4 := HK.out.1.1.cell 4 (.int .i64 0) rfl
  have f5 := HK.out.1.1.free 5
  have d5 := HK.out.1.1.cell 5 (.int .i64 0) rfl
  have f6 := HK.out.1.1.free 6
  have d6 := HK.out.1.1.cell 6 (.int .i64 0) rfl
  have f7 := HK.out.1.1.free 7
  have d7 := HK.out.1.1.cell 7 (.string ⟨#[]⟩) rfl
  have f8 := HK.out.1.1.free 8
  have d8 := HK.out.1.1.cell 8 (.string ⟨#[]⟩) rfl
  have f9 := HK.out.1.1.free 9
  have d9 := HK.out.1.1.cell 9 (.int .u64 0) rfl
  have n2 := HGE.out.2.2.1
  go_region
  have hl : ∀ e ∈ [(g1, 43, #[.int .i64 0, .int .u64 0, .int .i64 0, .int .u64 0, .int .i64 0, .int .i64 0, .int .i64 0, .string ⟨#[]⟩, .string ⟨#[]⟩, .int .u64 0, .int .i64 0, .int .u64 0, .slice none 0 0, .slice none 0 0]), (w.heap.size, 43, A)], e.1 ≠ g2 := by
    intro e he
    simp only [List.mem_cons, List.not_mem_nil, or_false] at he
    rcases he with rfl | rfl
    · exact HGE.out.2.1
    · exact HGE.out.2.2.1
  have HK2 : Hid (Keeps w ((((((x1.setCell ⟨g2, 4, none⟩ (.int .i64 r.c.k)).setCell ⟨g2, 5, none⟩ (.int .i64 r.c.pg)).setCell ⟨g2, 6, none⟩ (.int .i64 r.c.sl)).setCell ⟨g2, 7, none⟩ (.string r.c.o)).setCell ⟨g2, 8, none⟩ (.string r.c.n)).setCell ⟨g2, 9, none⟩ (.int .u64 (r.n : Int))).drew [(g2, 43, #[.int .i64 2, .int .u64 (r.l : Int), .int .i64 r.t, .int .u64 (r.p : Int), .int .i64 r.c.k, .int .i64 r.c.pg, .int .i64 r.c.sl, .string r.c.o, .string r.c.n, .int .u64 (r.n : Int), .int .i64 0, .int .u64 0, .slice none 0 0, .slice none 0 0]), (g1, 43, #[.int .i64 0, .int .u64 0, .int .i64 0, .int .u64 0, .int .i64 0, .int .i64 0, .int .i64 0, .string ⟨#[]⟩, .string ⟨#[]⟩, .int .u64 0, .int .i64 0, .int .u64 0, .slice none 0 0, .slice none 0 0]), (w.heap.size, 43, A)]) := ((((((HK.out.setTop HGE.out.1 hl 4 (.int .i64 r.c.k)).setTop HGE.out.1 hl 5 (.int .i64 r.c.pg)).setTop HGE.out.1 hl 6 (.int .i64 r.c.sl)).setTop HGE.out.1 hl 7 (.string r.c.o)).setTop HGE.out.1 hl 8 (.string r.c.n)).setTop HGE.out.1 hl 9 (.int .u64 (r.n : Int))).drew
  refine gen_w (fun x => Hid (Keeps w x [(g2, 43, #[.int .i64 2, .int .u64 (r.l : Int), .int .i64 r.t, .int .u64 (r.p : Int), .int .i64 r.c.k, .int .i64 r.c.pg, .int .i64 r.c.sl, .string r.c.o, .string r.c.n, .int .u64 (r.n : Int), .int .i64 0, .int .u64 0, .slice none 0 0, .slice none 0 0]), (g1, 43, #[.int .i64 0, .int .u64 0, .int .i64 0, .int .u64 0, .int .i64 0, .int .i64 0, .int .i64 0, .string ⟨#[]⟩, .string ⟨#[]⟩, .int .u64 0, .int .i64 0, .int .u64 0, .slice none 0 0, .slice none 0 0]), (w.heap.size, 43, A)])) HK2 ?_
  clear HK2 HK hl n2 c4 f4 d4 c5 f5 d5 c6 f6 d6 c7 f7 d7 c8 f8 d8 c9 f9 d9
  intro x2 HK
  have c0 := HK.out.1.2.2.1.cell 0 (.int .i64 2) (by rw [HA.out, ← hk]; rfl)
  have d0 := HK.out.1.1.cell 0 (.int .i64 2) rfl
  have d1 := HK.out.1.1.cell 1 (.int .u64 (r.l : Int)) rfl
  have d2 := HK.out.1.1.cell 2 (.int .i64 r.t) rfl
  have d3 := HK.out.1.1.cell 3 (.int .u64 (r.p : Int)) rfl
  have d4 := HK.out.1.1.cell 4 (.int .i64 r.c.k) rfl
  have d5 := HK.out.1.1.cell 5 (.int .i64 r.c.pg) rfl
  have d6 := HK.out.1.1.cell 6 (.int .i64 r.c.sl) rfl
  have d7 := HK.out.1.1.cell 7 (.string r.c.o) rfl
  have d8 := HK.out.1.1.cell 8 (.string r.c.n) rfl
  have d9 := HK.out.1.1.cell 9 (.int .u64 (r.n : Int)) rfl
  have d10 := HK.out.1.1.cell 10 (.int .i64 0) rfl
  have d11 := HK.out.1.1.cell 11 (.int .u64 0) rfl
  have d12 := HK.out.1.1.cell 12 (.slice none 0 0) rfl
  have d13 := HK.out.1.1.cell 13 (.slice none 0 0) rfl
  have n1 := HGE.out.2.1
  have n2 := HGE.out.2.2.1
  have HZ := hide HK.out.1.2.1
  have HBB := hide HK.out.2
  go_wp2_with (refine wpList_store_at rfl 43 (.tmp 2) (.tmp 54) rfl g1 #[.int .i64 0, .int .u64 0, .int .i64 0, .int .u64 0, .int .i64 0, .int .i64 0, .int .i64 0, .string ⟨#[]⟩, .string ⟨#[]⟩, .int .u64 0, .int .i64 0, .int .u64 0, .slice none 0 0, .slice none 0 0] #[.int .i64 2, .int .u64 (r.l : Int), .int .i64 r.t, .int .u64 (r.p : Int), .int .i64 r.c.k, .int .i64 r.c.pg, .int .i64 r.c.sl, .string r.c.o, .string r.c.n, .int .u64 (r.n : Int), .int .i64 0, .int .u64 0, .slice none 0 0, .slice none 0 0] rfl rfl HZ.out infoRc rfl (by simp [Value.oneCell']) ?_)
  intro w9 hr9 hk9 _
  have HB := hide (hk9 _ _ HBB.out HGE.out.2.2.2)
  have HROW := hide hr9
  clear hr9 hk9 HZ HBB HK d0 d1 d2 d3 d4 d5 d6 d7 d8 d9 d10 d11 d12 d13 c0 
  go_wp2
  (try simp only [Exit.inBlock, Exit.then])
  refine bodyPost_ret (res_one rfl _ _ g1 #[.int .i64 2, .int .u64 (r.l : Int), .int .i64 r.t, .int .u64 (r.p : Int), .int .i64 r.c.k, .int .i64 r.c.pg, .int .i64 r.c.sl, .string r.c.o, .string r.c.n, .int .u64 (r.n : Int), .int .i64 0, .int .u64 0, .slice none 0 0, .slice none 0 0] _ rfl HROW.out Try.underlying43 rfl infoRc) rfl ?_
  refine ⟨?_, HB.out⟩
  apply congrArg Ending.returned
  apply congrArg Value.agg
  unfold rcA Rec.used uV
  simp [hk]

end Go.Proofs.Ytfbelaalmdcaaaa

/-
  The contract of record.used.
-/
namespace Go.Proofs.Ytfbelaalmdcaaaa
open Go.RowKit
set_option linter.unusedVariables false

theorem uV_in {w : World} {r : Rec} {va vb : Value} (h : RcIn w r va vb) : RcIn w r.used (uV r va) (uV r vb) := by
  by_cases hk : r.k = 8
  · have e1 : r.used.ts = r.ts := by unfold Rec.used; simp [hk]
    have e2 : r.used.ds = r.ds := by unfold Rec.used; simp [hk]
    have e3 : ∀ v, uV r v = v := fun v => by unfold uV; rw [if_pos hk]
    unfold RcIn at h ⊢
    rw [e1, e2, e3, e3]
    exact h
  · have e1 : r.used.ts = [] := by unfold Rec.used; simp [hk]
    have e2 : r.used.ds = [] := by unfold Rec.used; simp [hk]
    have e3 : ∀ v, uV r v = .slice none 0 0 := fun v => by unfold uV; rw [if_neg hk]
    unfold RcIn
    rw [e1, e2, e3, e3]
    exact ⟨⟨none, 0, rfl, fun h => absurd h (by simp)⟩, ⟨none, 0, rfl, fun h => absurd h (by simp)⟩⟩

/-- THE CONTRACT. -/
theorem used_any (r : Rec) (va vb : Value) (w : World) (hk : 1 ≤ r.k ∧ r.k ≤ 8) (hin : RcIn w r va vb) :
    Calls Try.prog 81 #[.agg (rcA r va vb)] w fun e w' => e = .returned (.agg (rcA r.used (uV r va) (uV r vb))) ∧ Below w.heap.size w w' := by
  by_cases h1 : r.k = 1
  · exact used_1 r va vb w h1 hin
  by_cases h2 : r.k = 2
  · exact used_2 r va vb w h2 hin
  by_cases h3 : r.k = 3
  · exact used_3 r va vb w h3 hin
  by_cases h4 : r.k = 4
  · exact used_4 r va vb w h4 hin
  by_cases h5 : r.k = 5
  · exact used_5 r va vb w h5 hin
  by_cases h6 : r.k = 6
  · exact used_6 r va vb w h6 hin
  by_cases h7 : r.k = 7
  · exact used_7 r va vb w h7 hin
  exact used_8 r va vb w (by omega) hin
end Go.Proofs.Ytfbelaalmdcaaaa

/-
  The contract of quaysideref01.Number.
-/
namespace Go.Proofs.Ytfbelaalmdcaaaa
open Go.RowKit
set_option linter.unusedVariables false

set_option maxRecDepth 4000 in
set_option maxHeartbeats 400000 in
theorem number_any (k n : Nat) (w : World) (h2 : k ≤ 8) (hn : n < 18446744073709551616) :
    Calls Try.prog 59 #[.int .i64 k, .int .u64 n] w fun e w' => e = .returned (.string ⟨(beB k n).toArray⟩) ∧ Below w.heap.size w w' := by
  go_enter Try.func59, Try.ntmps59
  go_wp2
  go_loopw [1, 5, 6] (fun v s i wr => ∃ j : Nat, j ≤ k ∧ i = .int .i64 j ∧ v = .int .u64 (sh n j : Nat) ∧ s = .string ⟨(beB j n).toArray⟩ ∧ Below w.heap.size w wr) (fun _ _ i _ => k - (intOf i).toNat)
  case atStart => exact ⟨0, Nat.zero_le _, rfl, by rw [sh_zero], rfl, Below.refl _ _⟩
  case round =>
    obtain ⟨j, hj, rfl, rfl, rfl, hbr⟩ := hrel
    have hsh : sh n j < 18446744073709551616 := Nat.lt_of_le_of_lt (sh_le n j) hn
    by_cases hlt : j < k
    · have hcv := run_oneByte (P := Try.prog) wr 60 9 5 Try.underlying60 Try.underlying5 Try.underlying9 (((sh n j : Nat) : Int) % 256) (UInt8.ofNat (sh n j)) (by rw [toNat_ofNat]; omega)
      have hln : (beB j n).length = j := beB_length j n
      go_wp2
      go_roundw
      case rel => exact ⟨j + 1, by omega, by go_num, by rw [← sh_succ n j]; go_num, by rw [str_cons], hbr.alloc hbr.size _⟩
      case measure => simp [intOf]; omega
    · go_wp2
      go_ret
      obtain rfl : j = k := by omega
      exact ⟨rfl, hbr⟩
end Go.Proofs.Ytfbelaalmdcaaaa

/-
  The contracts of quaysideref06's num and text.
-/
namespace Go.Proofs.Ytfbelaalmdcaaaa
open Go.RowKit
set_option linter.unusedVariables false

/-- Bytes as a text. -/
def mkS (l : List UInt8) : ByteArray := ⟨l.toArray⟩
theorem mkS_append (a b : List UInt8) : mkS a ++ mkS b = mkS (a ++ b) := mk_append a b
theorem mkS_size (l : List UInt8) : (mkS l).size = l.length := size_mk l

theorem run_add_s (a b : ByteArray) (h : a.size + b.size ≤ 100000) (x : World) : (binOp .add 9 (.string a) (.string b)).run Try.prog x = .ok (.string (a ++ b)) x := by
  simp [binOp, Op.stringOp]
  omega
theorem add_guard (x y : Operand) (a b : ByteArray) (w : World) : (eqGuard .add 9 x y (.string a) (.string b)).run Try.prog w = .ok () w := by
  simp [eqGuard]

set_option maxRecDepth 4000 in
set_option maxHeartbeats 400000 in
theorem num6_any (k n : Nat) (w : World) (hk : k ≤ 8) (hn : n < 18446744073709551616) :
    Calls Try.prog 73 #[.int .i64 (k : Int), .int .u64 (n : Int)] w fun e w' => e = .returned (.string (mkS (beB k n))) ∧ Below w.heap.size w w' := by
  have HN := hide (number_any k n w hk hn)
  go_enter Try.func73, Try.ntmps73
  go_wp2_with fail
  refine HN.out.mono ?_
  rintro e w1 ⟨rfl, hb⟩
  clear HN
  go_wp2
  go_ret
  exact ⟨rfl, hb⟩

set_option maxRecDepth 4000 in
set_option maxHeartbeats 400000 in
theorem text6_any (s : ByteArray) (w : World) (hs : s.size ≤ 255) :
    Calls Try.prog 74 #[.string s] w fun e w' => e = .returned (.string (mkS (textB s.data.toList))) ∧ Below w.heap.size w w' := by
  have HN := hide (num6_any 1 s.size w (by omega) (by omega))
  have ez : mkS (beB 1 s.size) ++ s = mkS (textB s.data.toList) := by
    have e1 : s = mkS s.data.toList := (mk_self s).symm
    have e2 : beB 1 s.size = [UInt8.ofNat s.size] := by
      unfold beB
      simp
    conv => lhs; rhs; rw [e1]
    rw [mkS_append, e2]
    unfold textB
    rw [data_length]
    rfl
  have HZ := hide ez
  have z1 := mkS_size (beB 1 s.size)
  rw [beB_length] at z1
  clear ez
  have hw : IntKind.u64.wrap (s.size : Int) = (s.size : Int) := by rw [IntKind.wrap_u64]; omega
  generalize mkS (beB 1 s.size) = t at *
  go_enter Try.func74, Try.ntmps74
  go_wp2_with fail
  refine HN.out.mono ?_
  rintro e w1 ⟨rfl, hb⟩
  clear HN
  go_wp2
  go_ret
  exact ⟨by rw [← HZ.out]; rfl, hb⟩
end Go.Proofs.Ytfbelaalmdcaaaa

/-
  The contract of quaysideref06.Bytes, of records that are no checkpoint's.
-/
namespace Go.Proofs.Ytfbelaalmdcaaaa
open Go.RowKit
set_option linter.unusedVariables false

theorem load_u64 {b j : Nat} (x : World) (v : Int) (h : x.cell? ⟨b, j, none⟩ = some (.int .u64 v)) : (Instr.loadAt 31 (.pointer (some ⟨b, j, none⟩))).run Try.prog x = .ok (.int .u64 v) x := by go_simp
theorem load_text {b j : Nat} (x : World) (s : ByteArray) (h : x.cell? ⟨b, j, none⟩ = some (.string s)) : (Instr.loadAt 9 (.pointer (some ⟨b, j, none⟩))).run Try.prog x = .ok (.string s) x := by go_simp

set_option maxRecDepth 8000 in
set_option maxHeartbeats 3200000 in
theorem bytes_end (r : Rec) (va vb : Value) (w : World) (hr : r.right) (hkc : r.k = 3 ∨ r.k = 4 ∨ r.k = 5 ∨ r.k = 7) (hin : RcIn w r va vb) :
    Calls Try.prog 57 #[.agg (rcA r va vb)] w fun e w' => e = .returned (.string (mkS (recB r))) ∧ Below w.heap.size w w' := by
  obtain ⟨kk, hk⟩ := Int.eq_ofNat_of_zero_le (show 0 ≤ r.k by have := hr.k1; omega)
  obtain ⟨tt, ht⟩ := Int.eq_ofNat_of_zero_le (show 0 ≤ r.t by by_cases h : r.k ≤ 6; (have := hr.own h; omega); (have := hr.none (by omega); omega))
  have hll := hr.lm
  unfold maxP at hll
  have hpp : r.p < 18446744073709551616 := by by_cases h : r.k ≤ 6; (have := hr.own h; omega); (have := hr.none (by omega); omega)
  have htt : tt < 18446744073709551616 := by by_cases h : r.k ≤ 6; (have := hr.own h; omega); (have := hr.none (by omega); omega)
  have hkk : kk ≤ 8 := by have := hr.k8; omega
  have HN1 := hide (fun w => num6_any 1 kk w (by omega) (by omega))
  have HN2 := hide (fun w => num6_any 8 r.l w (by omega) (by omega))
  have HN3 := hide (fun w => num6_any 4 tt w (by omega) htt)
  have HN4 := hide (fun w => num6_any 8 r.p w (by omega) hpp)
  have z1 := mkS_size (beB 1 kk)
  have z2 := mkS_size (beB 8 r.l)
  have z3 := mkS_size (beB 4 tt)
  have z4 := mkS_size (beB 8 r.p)
  rw [beB_length] at z1 z2 z3 z4
  have u1 : IntKind.u64.wrap (kk : Int) = (kk : Int) := by rw [IntKind.wrap_u64]; omega
  have u2 : IntKind.u64.wrap (tt : Int) = (tt : Int) := by rw [IntKind.wrap_u64]; omega
  have he : mkS (recB r) = mkS (beB 1 kk) ++ mkS (beB 8 r.l) ++ mkS (beB 4 tt) ++ mkS (beB 8 r.p) := by
    unfold recB mayB
    rw [if_neg (by omega), if_neg (by omega), if_neg (by omega), if_neg (by omega), hk, ht, Int.toNat_natCast, Int.toNat_natCast, mkS_append, mkS_append, mkS_append]
    simp only [List.append_nil, List.append_assoc]
  have HE := hide he
  clear he
  have m1 : ¬ (kk : Int) ≤ 2 := by omega
  have m2 : ((kk : Int) == 2) = false := by rw [beq_eq_false_iff_ne]; omega
  have m3 : ((kk : Int) == 6) = false := by rw [beq_eq_false_iff_ne]; omega
  have m4 : ((kk : Int) == 8) = false := by rw [beq_eq_false_iff_ne]; omega
  clear hr hkc hin hkk
  have HK0 := hide (Keeps.one w 43 (rcA r va vb))
  obtain ⟨A, hA⟩ : ∃ A, A = rcA r va vb := ⟨_, rfl⟩
  rw [← hA] at HK0 ⊢
  have HA := hide hA
  clear hA
  have HC : Hid (∀ y : World, RowAt y w.heap.size 43 A → y.cell? ⟨w.heap.size, 0, none⟩ = some (.int .i64 (kk : Int)) ∧ y.cell? ⟨w.heap.size, 1, none⟩ = some (.int .u64 (r.l : Int)) ∧ y.cell? ⟨w.heap.size, 2, none⟩ = some (.int .i64 (tt : Int)) ∧ y.cell? ⟨w.heap.size, 3, none⟩ = some (.int .u64 (r.p : Int))) := fun y h => by
    rw [HA.out] at h
    obtain ⟨a0, a1, a2, a3, -⟩ := rc_cells h
    rw [hk] at a0
    rw [ht] at a2
    exact ⟨a0, a1, a2, a3⟩
  generalize mkS (beB 1 kk) = N1 at *
  generalize mkS (beB 8 r.l) = N2 at *
  generalize mkS (beB 4 tt) = N3 at *
  generalize mkS (beB 8 r.p) = N4 at *
  go_enter Try.func57, Try.ntmps57
  go_wp2_with fail
  refine wp_region_in (fun x => Keeps w x [(w.heap.size, 43, A)]) (by kernel_rfl) (by kernel_rfl) HK0.out.drew ?_
  clear HK0
  repeat (first
    | go_big_quiet_skip
    | (refine wpQuiet_load rfl 3 (.tmp 8) rfl _ (.int .i64 (kk : Int)) rfl (fun y hy => load_i64 y _ (HC.out y hy.1.1).1) ?_; simp only [Act.put, Array.setIfInBounds, List.size_toArray, List.length_cons, List.length_nil, Nat.reduceAdd, Nat.reduceLT, ↓reduceDIte, List.set_toArray, List.set_cons_succ, List.set_cons_zero])
    | (refine wpQuiet_load rfl 31 (.tmp 12) rfl _ (.int .u64 (r.l : Int)) rfl (fun y hy => load_u64 y _ (HC.out y hy.1.1).2.1) ?_; simp only [Act.put, Array.setIfInBounds, List.size_toArray, List.length_cons, List.length_nil, Nat.reduceAdd, Nat.reduceLT, ↓reduceDIte, List.set_toArray, List.set_cons_succ, List.set_cons_zero])
    | (refine wpQuiet_load rfl 3 (.tmp 16) rfl _ (.int .i64 (tt : Int)) rfl (fun y hy => load_i64 y _ (HC.out y hy.1.1).2.2.1) ?_; simp only [Act.put, Array.setIfInBounds, List.size_toArray, List.length_cons, List.length_nil, Nat.reduceAdd, Nat.reduceLT, ↓reduceDIte, List.set_toArray, List.set_cons_succ, List.set_cons_zero])
    | (refine wpQuiet_load rfl 31 (.tmp 21) rfl _ (.int .u64 (r.p : Int)) rfl (fun y hy => load_u64 y _ (HC.out y hy.1.1).2.2.2) ?_; simp only [Act.put, Array.setIfInBounds, List.size_toArray, List.length_cons, List.length_nil, Nat.reduceAdd, Nat.reduceLT, ↓reduceDIte, List.set_toArray, List.set_cons_succ, List.set_cons_zero])
    | (refine wpQuiet_call rfl 73 #[.int .i64 1, .int .u64 (kk : Int)] (.string N1) ?_ (fun x hC => (HN1.out x).mono fun e x' h => ⟨h.1, hC.later h.2⟩) ?_; (intro x; go_simp); simp only [Act.put, Array.setIfInBounds, List.size_toArray, List.length_cons, List.length_nil, Nat.reduceAdd, Nat.reduceLT, ↓reduceDIte, List.set_toArray, List.set_cons_succ, List.set_cons_zero])
    | (refine wpQuiet_call rfl 73 #[.int .i64 8, .int .u64 (r.l : Int)] (.string N2) ?_ (fun x hC => (HN2.out x).mono fun e x' h => ⟨h.1, hC.later h.2⟩) ?_; (intro x; go_simp); simp only [Act.put, Array.setIfInBounds, List.size_toArray, List.length_cons, List.length_nil, Nat.reduceAdd, Nat.reduceLT, ↓reduceDIte, List.set_toArray, List.set_cons_succ, List.set_cons_zero])
    | (refine wpQuiet_call rfl 73 #[.int .i64 4, .int .u64 (tt : Int)] (.string N3) ?_ (fun x hC => (HN3.out x).mono fun e x' h => ⟨h.1, hC.later h.2⟩) ?_; (intro x; go_simp); simp only [Act.put, Array.setIfInBounds, List.size_toArray, List.length_cons, List.length_nil, Nat.reduceAdd, Nat.reduceLT, ↓reduceDIte, List.set_toArray, List.set_cons_succ, List.set_cons_zero])
    | (refine wpQuiet_call rfl 73 #[.int .i64 8, .int .u64 (r.p : Int)] (.string N4) ?_ (fun x hC => (HN4.out x).mono fun e x' h => ⟨h.1, hC.later h.2⟩) ?_; (intro x; go_simp); simp only [Act.put, Array.setIfInBounds, List.size_toArray, List.length_cons, List.length_nil, Nat.reduceAdd, Nat.reduceLT, ↓reduceDIte, List.set_toArray, List.set_cons_succ, List.set_cons_zero])
    | (refine wpQuiet_plain rfl (fun K hK => ?_); go_simp; refine hK _ ?_; clear hK K))
  refine wpQuiet_nil ?_
  intro w1 h1
  have c0 : w1.cell? ⟨w.heap.size, 0, none⟩ = some (.int .i64 (kk : Int)) := (HC.out w1 h1.1.1).1
  have HK1 := hide h1
  clear h1 HN1 HN2 HN3 HN4
  have d1 := HK1.out.2
  clear HK1
  go_wp2
  go_ret
  exact ⟨by rw [HE.out]; rfl, d1⟩

set_option maxRecDepth 8000 in
set_option maxHeartbeats 3200000 in
theorem bytes_save (r : Rec) (va vb : Value) (w : World) (hr : r.right) (hkc : r.k = 6) (hin : RcIn w r va vb) :
    Calls Try.prog 57 #[.agg (rcA r va vb)] w fun e w' => e = .returned (.string (mkS (recB r))) ∧ Below w.heap.size w w' := by
  obtain ⟨kk, hk⟩ := Int.eq_ofNat_of_zero_le (show 0 ≤ r.k by have := hr.k1; omega)
  obtain ⟨tt, ht⟩ := Int.eq_ofNat_of_zero_le (show 0 ≤ r.t by by_cases h : r.k ≤ 6; (have := hr.own h; omega); (have := hr.none (by omega); omega))
  have hll := hr.lm
  unfold maxP at hll
  have hpp : r.p < 18446744073709551616 := by by_cases h : r.k ≤ 6; (have := hr.own h; omega); (have := hr.none (by omega); omega)
  have htt : tt < 18446744073709551616 := by by_cases h : r.k ≤ 6; (have := hr.own h; omega); (have := hr.none (by omega); omega)
  have hkk : kk ≤ 8 := by have := hr.k8; omega
  have HN1 := hide (fun w => num6_any 1 kk w (by omega) (by omega))
  have HN2 := hide (fun w => num6_any 8 r.l w (by omega) (by omega))
  have HN3 := hide (fun w => num6_any 4 tt w (by omega) htt)
  have HN4 := hide (fun w => num6_any 8 r.p w (by omega) hpp)
  have z1 := mkS_size (beB 1 kk)
  have z2 := mkS_size (beB 8 r.l)
  have z3 := mkS_size (beB 4 tt)
  have z4 := mkS_size (beB 8 r.p)
  rw [beB_length] at z1 z2 z3 z4
  have u1 : IntKind.u64.wrap (kk : Int) = (kk : Int) := by rw [IntKind.wrap_u64]; omega
  have u2 : IntKind.u64.wrap (tt : Int) = (tt : Int) := by rw [IntKind.wrap_u64]; omega
  obtain ⟨ss, hs⟩ := Int.eq_ofNat_of_zero_le (show 0 ≤ r.s by have := hr.save hkc; omega)
  have hss : ss < 18446744073709551616 := by have := hr.save hkc; omega
  have HN5 := hide (fun w => num6_any 1 ss w (by omega) hss)
  have z5 := mkS_size (beB 1 ss)
  rw [beB_length] at z5
  have u3 : IntKind.u64.wrap (ss : Int) = (ss : Int) := by rw [IntKind.wrap_u64]; omega
  have he : mkS (recB r) = mkS (beB 1 kk) ++ mkS (beB 8 r.l) ++ mkS (beB 4 tt) ++ mkS (beB 8 r.p) ++ mkS (beB 1 ss) := by
    unfold recB mayB
    rw [if_neg (by omega), if_neg (by omega), if_pos hkc, if_neg (by omega), hk, ht, hs, Int.toNat_natCast, Int.toNat_natCast, Int.toNat_natCast, mkS_append, mkS_append, mkS_append, mkS_append]
    simp only [List.append_nil, List.append_assoc, List.nil_append]
  have HE := hide he
  clear he
  have H6 : Hid ((kk : Int) = 6) := show (kk : Int) = 6 by omega
  have HS := hide hs
  clear hr hkc hin hkk hs
  have HK0 := hide (Keeps.one w 43 (rcA r va vb))
  obtain ⟨A, hA⟩ : ∃ A, A = rcA r va vb := ⟨_, rfl⟩
  rw [← hA] at HK0 ⊢
  have HA := hide hA
  clear hA
  have HC : Hid (∀ y : World, RowAt y w.heap.size 43 A → y.cell? ⟨w.heap.size, 0, none⟩ = some (.int .i64 (kk : Int)) ∧ y.cell? ⟨w.heap.size, 1, none⟩ = some (.int .u64 (r.l : Int)) ∧ y.cell? ⟨w.heap.size, 2, none⟩ = some (.int .i64 (tt : Int)) ∧ y.cell? ⟨w.heap.size, 3, none⟩ = some (.int .u64 (r.p : Int))) := fun y h => by
    rw [HA.out] at h
    obtain ⟨a0, a1, a2, a3, -⟩ := rc_cells h
    rw [hk] at a0
    rw [ht] at a2
    exact ⟨a0, a1, a2, a3⟩
  generalize mkS (beB 1 kk) = N1 at *
  generalize mkS (beB 8 r.l) = N2 at *
  generalize mkS (beB 4 tt) = N3 at *
  generalize mkS (beB 8 r.p) = N4 at *
  go_enter Try.func57, Try.ntmps57
  go_wp2_with fail
  refine wp_region_in (fun x => Keeps w x [(w.heap.size, 43, A)]) (by kernel_rfl) (by kernel_rfl) HK0.out.drew ?_
  clear HK0
  repeat (first
    | go_big_quiet_skip
    | (refine wpQuiet_load rfl 3 (.tmp 8) rfl _ (.int .i64 (kk : Int)) rfl (fun y hy => load_i64 y _ (HC.out y hy.1.1).1) ?_; simp only [Act.put, Array.setIfInBounds, List.size_toArray, List.length_cons, List.length_nil, Nat.reduceAdd, Nat.reduceLT, ↓reduceDIte, List.set_toArray, List.set_cons_succ, List.set_cons_zero])
    | (refine wpQuiet_load rfl 31 (.tmp 12) rfl _ (.int .u64 (r.l : Int)) rfl (fun y hy => load_u64 y _ (HC.out y hy.1.1).2.1) ?_; simp only [Act.put, Array.setIfInBounds, List.size_toArray, List.length_cons, List.length_nil, Nat.reduceAdd, Nat.reduceLT, ↓reduceDIte, List.set_toArray, List.set_cons_succ, List.set_cons_zero])
    | (refine wpQuiet_load rfl 3 (.tmp 16) rfl _ (.int .i64 (tt : Int)) rfl (fun y hy => load_i64 y _ (HC.out y hy.1.1).2.2.1) ?_; simp only [Act.put, Array.setIfInBounds, List.size_toArray, List.length_cons, List.length_nil, Nat.reduceAdd, Nat.reduceLT, ↓reduceDIte, List.set_toArray, List.set_cons_succ, List.set_cons_zero])
    | (refine wpQuiet_load rfl 31 (.tmp 21) rfl _ (.int .u64 (r.p : Int)) rfl (fun y hy => load_u64 y _ (HC.out y hy.1.1).2.2.2) ?_; simp only [Act.put, Array.setIfInBounds, List.size_toArray, List.length_cons, List.length_nil, Nat.reduceAdd, Nat.reduceLT, ↓reduceDIte, List.set_toArray, List.set_cons_succ, List.set_cons_zero])
    | (refine wpQuiet_call rfl 73 #[.int .i64 1, .int .u64 (kk : Int)] (.string N1) ?_ (fun x hC => (HN1.out x).mono fun e x' h => ⟨h.1, hC.later h.2⟩) ?_; (intro x; go_simp); simp only [Act.put, Array.setIfInBounds, List.size_toArray, List.length_cons, List.length_nil, Nat.reduceAdd, Nat.reduceLT, ↓reduceDIte, List.set_toArray, List.set_cons_succ, List.set_cons_zero])
    | (refine wpQuiet_call rfl 73 #[.int .i64 8, .int .u64 (r.l : Int)] (.string N2) ?_ (fun x hC => (HN2.out x).mono fun e x' h => ⟨h.1, hC.later h.2⟩) ?_; (intro x; go_simp); simp only [Act.put, Array.setIfInBounds, List.size_toArray, List.length_cons, List.length_nil, Nat.reduceAdd, Nat.reduceLT, ↓reduceDIte, List.set_toArray, List.set_cons_succ, List.set_cons_zero])
    | (refine wpQuiet_call rfl 73 #[.int .i64 4, .int .u64 (tt : Int)] (.string N3) ?_ (fun x hC => (HN3.out x).mono fun e x' h => ⟨h.1, hC.later h.2⟩) ?_; (intro x; go_simp); simp only [Act.put, Array.setIfInBounds, List.size_toArray, List.length_cons, List.length_nil, Nat.reduceAdd, Nat.reduceLT, ↓reduceDIte, List.set_toArray, List.set_cons_succ, List.set_cons_zero])
    | (refine wpQuiet_call rfl 73 #[.int .i64 8, .int .u64 (r.p : Int)] (.string N4) ?_ (fun x hC => (HN4.out x).mono fun e x' h => ⟨h.1, hC.later h.2⟩) ?_; (intro x; go_simp); simp only [Act.put, Array.setIfInBounds, List.size_toArray, List.length_cons, List.length_nil, Nat.reduceAdd, Nat.reduceLT, ↓reduceDIte, List.set_toArray, List.set_cons_succ, List.set_cons_zero])
    | (refine wpQuiet_plain rfl (fun K hK => ?_); go_simp; refine hK _ ?_; clear hK K))
  refine wpQuiet_nil ?_
  intro w1 h1
  have c0 : w1.cell? ⟨w.heap.size, 0, none⟩ = some (.int .i64 (kk : Int)) := (HC.out w1 h1.1.1).1
  have HK1 := hide h1
  have c10 : w1.cell? ⟨w.heap.size, 10, none⟩ = some (.int .i64 (ss : Int)) := by have h := h1.1.1; rw [HA.out] at h; have h2 := (rc_cells h).2.2.2.2.2.1; rw [HS.out] at h2; exact h2
  clear h1 HN1 HN2 HN3 HN4
  rw [H6.out] at c0
  generalize mkS (beB 1 ss) = N5 at *
  go_wp2_with fail
  refine (HN5.out _).mono ?_
  rintro e w2 ⟨rfl, hb2⟩
  have d2 := (HK1.out.later hb2).2
  clear HK1 HN5 hb2
  go_wp2
  go_ret
  exact ⟨by rw [HE.out]; rfl, d2⟩

end Go.Proofs.Ytfbelaalmdcaaaa

/-
  The contract of record.Right.
-/
namespace Go.Proofs.Ytfbelaalmdcaaaa
open Go.RowKit
set_option linter.unusedVariables false

theorem used_fits {r : Rec} (h : r.fits) : r.used.fits := by
  refine ⟨?_, ?_, ?_, ?_, ?_⟩
  · show (if r.k ≤ 2 then r.c else Ch.zero).fits
    by_cases hk : r.k ≤ 2
    · rw [if_pos hk]
      exact h.c
    · rw [if_neg hk]
      exact zero_fits
  · show (if r.k = 8 then r.ts else []).length ≤ maxLen
    by_cases hk : r.k = 8
    · rw [if_pos hk]
      exact h.tl
    · rw [if_neg hk]
      exact Nat.zero_le _
  · show (if r.k = 8 then r.ds else []).length ≤ maxLen
    by_cases hk : r.k = 8
    · rw [if_pos hk]
      exact h.dl
    · rw [if_neg hk]
      exact Nat.zero_le _
  · show ∀ x ∈ (if r.k = 8 then r.ts else []), x.fits
    by_cases hk : r.k = 8
    · rw [if_pos hk]
      exact h.ts
    · rw [if_neg hk]
      exact fun x hx => nomatch hx
  · show ∀ x ∈ (if r.k = 8 then r.ds else []), x.fits
    by_cases hk : r.k = 8
    · rw [if_pos hk]
      exact h.ds
    · rw [if_neg hk]
      exact fun x hx => nomatch hx

theorem load_rc (y : World) (g : Nat) (cs : Array Value) (h : RowAt y g 43 cs) (hz : cs.size = 14) : (Instr.loadAt 43 (.pointer (some ⟨g, 0, none⟩))).run Try.prog y = .ok (.agg cs) y := by
  have h1 := run_loadAt_mid (P := Try.prog) y g 0 43 cs.toList _ (fun j v hv => by rw [Nat.zero_add]; exact h.cell j v (by rw [← Array.getElem?_toList]; exact hv)) Try.underlying43 rfl (by rw [infoRc, Array.length_toList, hz])
  rwa [Array.toArray_toList] at h1
set_option maxRecDepth 4000 in
set_option maxHeartbeats 3200000 in
theorem right_at (r : Rec) (va vb : Value) (w : World) (q : Bool) (Hq : Hid (q = true ↔ r.right)) (hf : r.fits) (hin : RcIn w r va vb) :
    Calls Try.prog 63 #[.agg (rcA r va vb)] w fun e w' => e = .returned (.bool q) ∧ Below w.heap.size w w' := by
  have HIN := hide hin
  have HFI := hide hf
  clear hin hf
  have HK0 := hide (Keeps.one w 43 (rcA r va vb))
  have HF : Hid (¬ r.right → q = false) := fun h => by
    cases q
    · rfl
    · exact absurd (Hq.out.1 rfl) h
  have HT : Hid (r.right → q = true) := fun h => Hq.out.2 h
  clear Hq
  by_cases l1 : (1 : Int) ≤ (r.l : Int)
  case neg =>
    obtain rfl := HF.out (fun h => by have := h.l1; omega)
    have l1f : ((1 : Int) ≤ (r.l : Int)) = False := eq_false l1
    clear HF HT HIN HFI l1
    go_enter Try.func63, Try.ntmps63
    go_wp2_with fail
    refine wp_region_in (fun y => Keeps w y [(w.heap.size, 43, rcA r va vb)]) (by kernel_rfl) (by kernel_rfl) HK0.out.drew ?_
    clear HK0
    repeat (first
      | go_big_quiet_skip
      | (refine wpQuiet_load rfl 31 (.tmp 3) rfl _ (.int .u64 (r.l : Int)) rfl (fun y hy => load_u64 y _ (hy.1.1.cell 1 _ rfl)) ?_; simp only [Act.put, Array.setIfInBounds, List.size_toArray, List.length_cons, List.length_nil, Nat.reduceAdd, Nat.reduceLT, ↓reduceDIte, List.set_toArray, List.set_cons_succ, List.set_cons_zero])
      | (refine wpQuiet_plain rfl (fun K hK => ?_); go_simp; refine hK _ ?_; clear hK K))
    refine wpQuiet_nil ?_
    intro w3 h3
    have d3 := h3.2
    clear h3
    go_wp2
    go_ret
    exact ⟨by rfl, d3⟩
  by_cases l2 : (r.l : Int) ≤ 4611686018427387904
  case neg =>
    obtain rfl := HF.out (fun h => by have := h.lm; unfold maxP at this; omega)
    have l2f : ((r.l : Int) ≤ 4611686018427387904) = False := eq_false l2
    clear HF HT HIN HFI l2
    go_enter Try.func63, Try.ntmps63
    go_wp2_with fail
    refine wp_region_in (fun y => Keeps w y [(w.heap.size, 43, rcA r va vb)]) (by kernel_rfl) (by kernel_rfl) HK0.out.drew ?_
    clear HK0
    repeat (first
      | go_big_quiet_skip
      | (refine wpQuiet_load rfl 31 (.tmp 3) rfl _ (.int .u64 (r.l : Int)) rfl (fun y hy => load_u64 y _ (hy.1.1.cell 1 _ rfl)) ?_; simp only [Act.put, Array.setIfInBounds, List.size_toArray, List.length_cons, List.length_nil, Nat.reduceAdd, Nat.reduceLT, ↓reduceDIte, List.set_toArray, List.set_cons_succ, List.set_cons_zero])
      | (refine wpQuiet_load rfl 31 (.tmp 7) rfl _ (.int .u64 (r.l : Int)) rfl (fun y hy => load_u64 y _ (hy.1.1.cell 1 _ rfl)) ?_; simp only [Act.put, Array.setIfInBounds, List.size_toArray, List.length_cons, List.length_nil, Nat.reduceAdd, Nat.reduceLT, ↓reduceDIte, List.set_toArray, List.set_cons_succ, List.set_cons_zero])
      | (refine wpQuiet_plain rfl (fun K hK => ?_); go_simp; refine hK _ ?_; clear hK K))
    refine wpQuiet_nil ?_
    intro w3 h3
    have d3 := h3.2
    clear h3
    go_wp2
    go_ret
    exact ⟨by rfl, d3⟩
  have l2t : ((r.l : Int) ≤ 4611686018427387904) = True := eq_true l2
  have HLM : Hid (1 ≤ r.l ∧ r.l ≤ maxP) := ⟨by omega, by unfold maxP; omega⟩
  clear l2
  by_cases hu : r.uses
  case neg =>
    obtain rfl := HF.out (fun h => hu (right_uses.1 h).2.2.1)
    have HU := hide (fun x h => uses_any r va vb x false (hide ⟨fun h => (nomatch h), fun h => absurd h hu⟩) h)
    clear HF HT HFI hu
    go_enter Try.func63, Try.ntmps63
    go_wp2_with fail
    refine wp_region_in (fun y => Keeps w y [(w.heap.size, 43, rcA r va vb)]) (by kernel_rfl) (by kernel_rfl) HK0.out.drew ?_
    clear HK0
    repeat (first
      | go_big_quiet_skip
      | (refine wpQuiet_load rfl 31 (.tmp 3) rfl _ (.int .u64 (r.l : Int)) rfl (fun y hy => load_u64 y _ (hy.1.1.cell 1 _ rfl)) ?_; simp only [Act.put, Array.setIfInBounds, List.size_toArray, List.length_cons, List.length_nil, Nat.reduceAdd, Nat.reduceLT, ↓reduceDIte, List.set_toArray, List.set_cons_succ, List.set_cons_zero])
      | (refine wpQuiet_load rfl 31 (.tmp 7) rfl _ (.int .u64 (r.l : Int)) rfl (fun y hy => load_u64 y _ (hy.1.1.cell 1 _ rfl)) ?_; simp only [Act.put, Array.setIfInBounds, List.size_toArray, List.length_cons, List.length_nil, Nat.reduceAdd, Nat.reduceLT, ↓reduceDIte, List.set_toArray, List.set_cons_succ, List.set_cons_zero])
      | (refine wpQuiet_load rfl 43 (.tmp 1) rfl _ (.agg (rcA r va vb)) rfl (fun y hy => load_rc y _ _ hy.1.1 rfl) ?_; simp only [Act.put, Array.setIfInBounds, List.size_toArray, List.length_cons, List.length_nil, Nat.reduceAdd, Nat.reduceLT, ↓reduceDIte, List.set_toArray, List.set_cons_succ, List.set_cons_zero])
      | (refine wpQuiet_call rfl 79 #[.agg (rcA r va vb)] (.bool false) ?_ (fun x hx => (HU.out x (HIN.out.below hx.2)).mono fun e x' h => ⟨h.1, hx.later h.2⟩) ?_; (intro x; go_simp); simp only [Act.put, Array.setIfInBounds, List.size_toArray, List.length_cons, List.length_nil, Nat.reduceAdd, Nat.reduceLT, ↓reduceDIte, List.set_toArray, List.set_cons_succ, List.set_cons_zero])
      | (refine wpQuiet_plain rfl (fun K hK => ?_); go_simp; refine hK _ ?_; clear hK K))
    refine wpQuiet_nil ?_
    intro w3 h3
    have d3 := h3.2
    clear h3
    go_wp2
    go_ret
    exact ⟨by rfl, d3⟩
  have HU := hide (fun x h => uses_any r va vb x true (hide ⟨fun _ => hu, fun _ => rfl⟩) h)
  have HX := hide (fun x h => used_any r va vb x ⟨hu.1, hu.2.1⟩ h)
  have HQ2 : Hid (q = true ↔ r = r.used) := by
    constructor
    · intro h
      by_cases hd : r = r.used
      · exact hd
      · rw [HF.out (fun h => hd (right_uses.1 h).2.2.2)] at h
        cases h
    · intro hd
      exact HT.out (right_uses.2 ⟨HLM.out.1, HLM.out.2, hu, hd⟩)
  have HS := hide (fun x h => same_at r r.used va vb (uV r va) (uV r vb) x q HQ2 HFI.out (used_fits HFI.out) h (uV_in h))
  clear HF HT HFI HQ2 hu HLM
  go_enter Try.func63, Try.ntmps63
  go_wp2_with fail
  refine wp_region_in (fun y => Keeps w y [(w.heap.size, 43, rcA r va vb)]) (by kernel_rfl) (by kernel_rfl) HK0.out.drew ?_
  clear HK0
  repeat (first
    | go_big_quiet_skip
    | (refine wpQuiet_load rfl 31 (.tmp 3) rfl _ (.int .u64 (r.l : Int)) rfl (fun y hy => load_u64 y _ (hy.1.1.cell 1 _ rfl)) ?_; simp only [Act.put, Array.setIfInBounds, List.size_toArray, List.length_cons, List.length_nil, Nat.reduceAdd, Nat.reduceLT, ↓reduceDIte, List.set_toArray, List.set_cons_succ, List.set_cons_zero])
    | (refine wpQuiet_load rfl 31 (.tmp 7) rfl _ (.int .u64 (r.l : Int)) rfl (fun y hy => load_u64 y _ (hy.1.1.cell 1 _ rfl)) ?_; simp only [Act.put, Array.setIfInBounds, List.size_toArray, List.length_cons, List.length_nil, Nat.reduceAdd, Nat.reduceLT, ↓reduceDIte, List.set_toArray, List.set_cons_succ, List.set_cons_zero])
    | (refine wpQuiet_load rfl 43 (.tmp 1) rfl _ (.agg (rcA r va vb)) rfl (fun y hy => load_rc y _ _ hy.1.1 rfl) ?_; simp only [Act.put, Array.setIfInBounds, List.size_toArray, List.length_cons, List.length_nil, Nat.reduceAdd, Nat.reduceLT, ↓reduceDIte, List.set_toArray, List.set_cons_succ, List.set_cons_zero])
    | (refine wpQuiet_call rfl 79 #[.agg (rcA r va vb)] (.bool true) ?_ (fun x hx => (HU.out x (HIN.out.below hx.2)).mono fun e x' h => ⟨h.1, hx.later h.2⟩) ?_; (intro x; go_simp); simp only [Act.put, Array.setIfInBounds, List.size_toArray, List.length_cons, List.length_nil, Nat.reduceAdd, Nat.reduceLT, ↓reduceDIte, List.set_toArray, List.set_cons_succ, List.set_cons_zero])
    | (refine wpQuiet_call rfl 81 #[.agg (rcA r va vb)] (.agg (rcA r.used (uV r va) (uV r vb))) ?_ (fun x hx => (HX.out x (HIN.out.below hx.2)).mono fun e x' h => ⟨h.1, hx.later h.2⟩) ?_; (intro x; go_simp); simp only [Act.put, Array.setIfInBounds, List.size_toArray, List.length_cons, List.length_nil, Nat.reduceAdd, Nat.reduceLT, ↓reduceDIte, List.set_toArray, List.set_cons_succ, List.set_cons_zero])
    | (refine wpQuiet_call rfl 80 #[.agg (rcA r va vb), .agg (rcA r.used (uV r va) (uV r vb))] (.bool q) ?_ (fun x hx => (HS.out x (HIN.out.below hx.2)).mono fun e x' h => ⟨h.1, hx.later h.2⟩) ?_; (intro x; go_simp); simp only [Act.put, Array.setIfInBounds, List.size_toArray, List.length_cons, List.length_nil, Nat.reduceAdd, Nat.reduceLT, ↓reduceDIte, List.set_toArray, List.set_cons_succ, List.set_cons_zero])
    | (refine wpQuiet_plain rfl (fun K hK => ?_); go_simp; refine hK _ ?_; clear hK K))
  refine wpQuiet_nil ?_
  intro w3 h3
  have d3 := h3.2
  clear h3
  go_wp2
  go_ret
  exact ⟨by rfl, d3⟩

/-- THE CONTRACT. -/
theorem right_any (r : Rec) (va vb : Value) (w : World) (hf : r.fits) (hin : RcIn w r va vb) :
    Calls Try.prog 63 #[.agg (rcA r va vb)] w fun e w' => e = .returned (.bool r.rightB) ∧ Below w.heap.size w w' :=
  right_at r va vb w _ (hide rightB_iff) hf hin
end Go.Proofs.Ytfbelaalmdcaaaa

/-
  Bytes put behind bytes where there is no room: a new row. Of no program.
-/
namespace Go.Proofs.Ytfbelaalmdcaaaa
open Go.RowKit
set_option linter.unusedVariables false

theorem isB_cells {w : World} {b off n : Nat} {bs : List UInt8} (h : IsB w (some ⟨b, off, none⟩) n bs) : ∀ j u, (toV bs)[j]? = some u → w.cell? ((⟨b, off, none⟩ : Addr).add j) = some u := by
  intro j u hu
  have hj : j < bs.length := by
    have := (List.getElem?_eq_some_iff.1 hu).1
    rwa [toV_length] at this
  obtain ⟨b', off', hb, _, hc⟩ := h.2 (by have := h.1; omega)
  cases hb
  rw [Addr.add_lit, hc j (by have := h.1; omega), ← toV_get bs j hj]
  exact hu

theorem wpList_append_b {P : Program} (w : World) {ops : Array Oper} {rest : List Oper} {o : Oper} {a : Act} {Q : Exit → Act → World → Prop}
    (hg : o.guard = none) (s x : Operand) (t : TypeId) (hop : o.op = Op.call { callee := Callee.builtin Builtin.append, args := #[s, x], argTypes := #[t, t] })
    (e : TypeId) (ht : P.underlying t = some (.slice e)) (hi : (P.info? e).map (fun i => (i.zero, i.size, i.bytes)) = some (some (.int .u8 0), 1, 1))
    (b off n cap : Nat) (xs : List UInt8) (hs : a.eval s = .slice (some ⟨b, off, none⟩) n cap) (hB : IsB w (some ⟨b, off, none⟩) n xs)
    (b2 off2 m c : Nat) (ys : List UInt8) (hx : a.eval x = .slice (some ⟨b2, off2, none⟩) m c) (hB2 : IsB w (some ⟨b2, off2, none⟩) m ys)
    (hfull : cap < n + m) (hz : n + m ≤ 140737488355328)
    (hK : ∀ v' w', w'.ownsRow w.heap.size e 1 v' (n + m) (toV (xs ++ ys)) → w.grownBy w' none → wpList P ops Q rest (a.put o.dst v') w') :
    wpList P ops Q (o :: rest) a w := by
  obtain ⟨i, hi0, hi1⟩ := Option.map_eq_some_iff.1 hi
  simp only [Prod.mk.injEq] at hi1
  refine wpList_append_grows w hg s x t hop e i (.int .u8 0) 1 1 ht hi0 hi1.1 hi1.2.1 hi1.2.2 rfl (by omega) (some ⟨b, off, none⟩) n cap (toV xs) hs (fun h => nomatch h) (by rw [toV_length, hB.1, Nat.mul_one]) ?_
    ⟨b2, off2, none⟩ m c (toV ys) hx (by rw [toV_length, hB2.1, Nat.mul_one]) (isB_cells hB2) ?_ hfull (by unfold maxLen; omega) (by omega) ?_
  · intro b' hb'
    cases hb'
    exact isB_cells hB
  · intro u hu
    obtain ⟨y, _, rfl⟩ := List.mem_map.1 hu
    rfl
  · intro v' w' h1 h2
    refine hK v' w' ?_ h2
    have e2 : toV xs ++ toV ys = toV (xs ++ ys) := by simp [toV]
    rw [← e2]
    exact h1

/-- .. as one step of a region that draws its order. -/
theorem step_append_b {P : Program} {ops : Array Oper} {o : Oper} {a : Act} {w : World} {K : Act → World → Prop} {Q : Exit → Act → World → Prop} {E : Prop}
    (hg : o.guard = none) (s x : Operand) (t : TypeId) (hop : o.op = Op.call { callee := Callee.builtin Builtin.append, args := #[s, x], argTypes := #[t, t] })
    (e : TypeId) (ht : P.underlying t = some (.slice e)) (hi : (P.info? e).map (fun i => (i.zero, i.size, i.bytes)) = some (some (.int .u8 0), 1, 1))
    (b off n cap : Nat) (xs : List UInt8) (hs : a.eval s = .slice (some ⟨b, off, none⟩) n cap) (hB : IsB w (some ⟨b, off, none⟩) n xs)
    (b2 off2 m c : Nat) (ys : List UInt8) (hx : a.eval x = .slice (some ⟨b2, off2, none⟩) m c) (hB2 : IsB w (some ⟨b2, off2, none⟩) m ys)
    (hfull : cap < n + m) (hz : n + m ≤ 140737488355328)
    (hK : ∀ v' w', w'.ownsRow w.heap.size e 1 v' (n + m) (toV (xs ++ ys)) → w.grownBy w' none → K (a.put o.dst v') w') :
    if Region.wanted o (yielded ops a.tmps) = true then Oper.wp P o a w K Q else E := by
  obtain ⟨i, hi0, hi1⟩ := Option.map_eq_some_iff.1 hi
  simp only [Prod.mk.injEq] at hi1
  refine step_append_grows hg s x t hop e i (.int .u8 0) 1 1 ht hi0 hi1.1 hi1.2.1 hi1.2.2 rfl (by omega) (some ⟨b, off, none⟩) n cap (toV xs) hs (fun h => nomatch h) (by rw [toV_length, hB.1, Nat.mul_one]) ?_
    ⟨b2, off2, none⟩ m c (toV ys) hx (by rw [toV_length, hB2.1, Nat.mul_one]) (isB_cells hB2) ?_ hfull (by unfold maxLen; omega) (by omega) ?_
  · intro b' hb'
    cases hb'
    exact isB_cells hB
  · intro u hu
    obtain ⟨y, _, rfl⟩ := List.mem_map.1 hu
    rfl
  · intro v' w' h1 h2
    refine hK v' w' ?_ h2
    have e2 : toV xs ++ toV ys = toV (xs ++ ys) := by simp [toV]
    rw [← e2]
    exact h1
end Go.Proofs.Ytfbelaalmdcaaaa

/-
  Bytes, a text, zeros put behind bytes that the call owns. Of no program.
-/
namespace Go.Proofs.Ytfbelaalmdcaaaa
open Go.RowKit
set_option linter.unusedVariables false

section
variable {P : Program} (w : World) {ops : Array Oper} {rest : List Oper} {o : Oper} {a : Act} {Q : Exit → Act → World → Prop}

theorem toV_oneCell (bs : List UInt8) : ∀ u ∈ toV bs, u.oneCell' = true := by
  intro u hu
  obtain ⟨y, _, rfl⟩ := List.mem_map.1 hu
  rfl

/-- append(s, x...), both of bytes, s the call's own. -/
theorem wpList_append_ob (hg : o.guard = none) (s x : Operand) (t : TypeId) (hop : o.op = Op.call { callee := Callee.builtin Builtin.append, args := #[s, x], argTypes := #[t, t] })
    (e : TypeId) (ht : P.underlying t = some (.slice e)) (hi : (P.info? e).map (fun i => (i.zero, i.size, i.bytes)) = some (some (.int .u8 0), 1, 1))
    (base : Nat) (v : Value) (n : Nat) (xs : List UInt8) (hs : a.eval s = v) (hown : w.ownsRow base e 1 v n (toV xs))
    (ad : Option Addr) (m c : Nat) (ys : List UInt8) (hx : a.eval x = .slice ad m c) (hB : IsB w ad m ys) (hnil : ad = none → c = 0) (hz : n + m ≤ 140737488355328) (hbase : base ≤ w.heap.size)
    (hK : ∀ v' w', w'.ownsRow base e 1 v' (n + m) (toV (xs ++ ys)) → w.grownBy w' v.ownBlock → wpList P ops Q rest (a.put o.dst v') w') :
    wpList P ops Q (o :: rest) a w := by
  obtain ⟨i, hi0, hi1⟩ := Option.map_eq_some_iff.1 hi
  simp only [Prod.mk.injEq] at hi1
  have hl := hB.1
  cases ad with
  | none =>
    obtain rfl : m = 0 := by
      by_cases hm : 0 < m
      · obtain ⟨b, off, h1, _⟩ := hB.2 hm
        cases h1
      · omega
    obtain rfl := List.eq_nil_of_length_eq_zero hl
    obtain rfl := hnil rfl
    refine wpList_append_own_none hg s x t hop base e i 1 ht hi0 v n (toV xs) hs hown hx (hK v w ?_ ⟨rfl, rfl, rfl, Nat.le_refl _, fun _ _ _ => rfl⟩)
    simpa using hown
  | some b =>
    refine wpList_append_own w hg s x t hop base e i (.int .u8 0) 1 1 ht hi0 hi1.1 hi1.2.1 hi1.2.2 rfl (by omega) v n (toV xs) hs hown b m c (toV ys) hx (by rw [toV_length, hl, Nat.mul_one]) ?_ (toV_oneCell ys) (by unfold maxLen; omega) (by omega) hbase ?_
    · intro j u hu
      have hj : j < ys.length := by
        have := (List.getElem?_eq_some_iff.1 hu).1
        rwa [toV_length] at this
      obtain ⟨b', off', hb, _, hc⟩ := hB.2 (by omega)
      cases hb
      rw [Addr.add_lit, hc j (by omega), ← toV_get ys j hj]
      exact hu
    · intro v' w' h1 h2 _
      rw [← toV_append] at h1
      exact hK v' w' h1 h2

/-- append(s, x...), x a text. -/
theorem wpList_append_os (hg : o.guard = none) (s x : Operand) (t u : TypeId) (hop : o.op = Op.call { callee := Callee.builtin Builtin.append, args := #[s, x], argTypes := #[t, u] })
    (e : TypeId) (ht : P.underlying t = some (.slice e)) (hu : P.underlying u = some .string) (hi : (P.info? e).map (fun i => (i.zero, i.size, i.bytes)) = some (some (.int .u8 0), 1, 1))
    (base : Nat) (v : Value) (n : Nat) (xs : List UInt8) (hs : a.eval s = v) (hown : w.ownsRow base e 1 v n (toV xs))
    (y : ByteArray) (hx : a.eval x = .string y) (hz : n + y.size ≤ 140737488355328) (hbase : base ≤ w.heap.size)
    (hK : ∀ v' w', w'.ownsRow base e 1 v' (n + y.size) (toV (xs ++ y.data.toList)) → w.grownBy w' v.ownBlock → wpList P ops Q rest (a.put o.dst v') w') :
    wpList P ops Q (o :: rest) a w := by
  obtain ⟨i, hi0, hi1⟩ := Option.map_eq_some_iff.1 hi
  simp only [Prod.mk.injEq] at hi1
  refine Lib.wpList_append_own_string w hg s x t u hop base e i ht hu hi0 hi1.1 hi1.2.1 hi1.2.2 v n (toV xs) hs hown y hx (by unfold maxLen; omega) hz hbase ?_
  intro v' w' h1 h2 _
  rw [toV_str] at h1
  exact hK v' w' h1 h2

theorem zeroCells_one (k : Nat) : Builtin.zeroCells (Value.int .u8 0).cells k = (zrow k).toArray := by
  apply Array.ext'
  have e : (Value.int IntKind.u8 0).cells = #[.int .u8 0] := rfl
  rw [e]
  unfold Builtin.zeroCells zrow
  simp only [Array.toList_map, Array.toList_range]
  apply List.ext_getElem
  · simp
  · intro i h1 h2
    simp [Nat.mod_one]
theorem toV_zeros (k : Nat) : zrow k = toV (List.replicate k 0) := by simp [zrow, toV]

theorem run_append_own_zeros (base : Nat) (t tn ty e : TypeId) (i : TypeInfo) (kn : IntKind) (ht : P.underlying t = some (.slice e)) (htn : P.underlying tn = some (.int kn)) (hi : P.info? e = some i) (hz : i.zero = some (.int .u8 0)) (hsize : i.size = 1) (hby : i.bytes = 1)
    (v : Value) (n : Nat) (xs : List Value) (hown : w.ownsRow base e 1 v n xs) (k : Nat) (h0 : 0 < k) (hbytes : n + k ≤ 140737488355328) (hbase : base ≤ w.heap.size) :
    ∃ v' w', (Builtin.append_ #[t, tn] ty #[v, .int .i64 (k : Int)]).run P w = .ok v' w' ∧ w'.ownsRow base e 1 v' (n + k) (xs ++ zrow k) ∧ w.grownBy w' v.ownBlock := by
  have h63 : n + k ≤ maxLen := by unfold maxLen; omega
  have hxl : xs.length = n := by simpa using hown.1
  have hlen : (xs ++ zrow k).length = (n + k) * 1 := by rw [List.length_append, hxl, zrow_length, Nat.mul_one]
  have grown : ∀ (old : Nat), ∀ (row : Option Nat),
      (w.drew.alloc (.cells (xs.toArray ++ (zrow k).toArray ++ (zrow (grownCap w (n + k) old e - (n + k))).toArray) e)).ownsRow base e 1
        (.slice (some ⟨w.heap.size, 0, none⟩) (n + k) (grownCap w (n + k) old e)) (n + k) (xs ++ zrow k) ∧
      w.grownBy (w.drew.alloc (.cells (xs.toArray ++ (zrow k).toArray ++ (zrow (grownCap w (n + k) old e - (n + k))).toArray) e)) row := by
    intro old row
    have hge := grownCap_ge w (n + k) old e
    have hcm : grownCap w (n + k) old e ≤ maxLen := grownCap_le_maxLen w (n + k) old e h63
    refine ⟨⟨hlen, .inr ⟨w.heap.size, _, _, rfl, hbase, heap_alloc_new w.drew _, hge, hcm, ?_, ?_⟩⟩, ⟨rfl, rfl, rfl, by simp, fun k hk _ => Below.heap_alloc w.drew _ k hk⟩⟩
    · simp only [Array.size_append, List.size_toArray, zrow_length, hxl]
      omega
    · simp only [Array.toList_append, List.append_assoc]
      rw [← List.append_assoc, ← hlen]
      exact List.take_left
  have hk : k ≠ 0 := by omega
  rcases hown.2 with ⟨rfl, rfl⟩ | ⟨g, cap, cur, rfl, hbg, hg, hnc, hcm, hcs, htake⟩
  · have hx : xs = [] := List.eq_nil_of_length_eq_zero hxl
    subst hx
    have hr := Lib.run_append_nil_zeros (P := P) w t tn ty e i (.int .u8 0) .i64 kn ht htn hi hz k h0 (by omega) (by omega) (by rw [hby]; omega)
    have hgr := grown 0 (Value.ownBlock (.slice none 0 0))
    rw [zeroCells_one, zeroCells_one] at hr
    simp only [Nat.zero_add, List.nil_append, Array.empty_append] at hgr ⊢
    exact ⟨_, _, hr, hgr.1, hgr.2⟩
  · by_cases hroom : n + k ≤ cap
    · have hcs' : cur.size = cap := by simpa using hcs
      have hw : IntKind.i64.wrap (k : Int) = k := by rw [IntKind.wrap_i64]; omega
      have h48i : ¬ (281474976710656 < (k : Int) * (i.bytes : Int)) := by rw [hby]; omega
      have hneg : ¬ ((k : Int) < 0) := by omega
      have hst := run_storeCells_at P g n e (zrow k) 0 cur w hg (by rw [zrow_length]; omega) (by intro u hu; rw [toV_zeros] at hu; exact toV_oneCell _ u hu)
      simp only [Nat.add_zero, zrow_length] at hst
      have hr : (Builtin.append_ #[t, tn] ty #[.slice (some ⟨g, 0, none⟩) n cap, .int .i64 (k : Int)]).run P w =
          .ok (.slice (some ⟨g, 0, none⟩) (n + k) cap) (w.setRow g (cur.toList.take n ++ zrow k ++ cur.toList.drop (n + k)).toArray) := by
        have h48i2 : ¬ (281474976710656 < (k : Int)) := by omega
        simp [Builtin.append_, run_underlying ht, run_underlying htn, sizeOf, typeInfo, zeroValue, hi, hz, asInt, asIntOf, hw, hk, hneg, hby, hsize, h48i2, hroom, zeroCells_one, Addr.add_lit, hst]
      refine ⟨_, _, hr, ⟨hlen, .inr ⟨g, cap, _, rfl, hbg, setRow_heap w g cur _ e _ hg, hroom, hcm, ?_, ?_⟩⟩, ⟨rfl, rfl, rfl, by simp, fun k _ hk => setRow_other w g k _ (fun e => hk (by simp [Value.ownBlock, e]))⟩⟩
      · simp only [List.size_toArray, List.length_append, List.length_take, List.length_drop, Array.length_toList, zrow_length]
        omega
      · have ht' : cur.toList.take n = xs := by simpa using htake
        rw [ht', ← hlen]
        exact List.take_left
    · have holds : ∀ j u, xs[j]? = some u → w.cell? ((⟨g, 0, none⟩ : Addr).add j) = some u := hown.cells (g := g) rfl
      have hfo := run_firstCells_some (P := P) w.drew i.size n ⟨g, 0, none⟩ n cap xs (by rw [hsize, hxl, Nat.mul_one]) (by simpa using holds)
      have hr := Lib.run_append_grow_zeros (P := P) w t tn ty e i (.int .u8 0) .i64 kn ht htn hi hz (some ⟨g, 0, none⟩) n cap xs hfo k h0 (by omega) (by omega) (by omega) (by rw [hby]; omega) (by rw [hby]; exact growslice_fits (by omega) (by omega))
      rw [zeroCells_one, zeroCells_one] at hr
      have hgr := grown cap (Value.ownBlock (.slice (some ⟨g, 0, none⟩) n cap))
      exact ⟨_, _, hr, hgr.1, hgr.2⟩

/-- append(s, make([]byte, k)...). -/
theorem wpList_append_oz (hg : o.guard = none) (s x : Operand) (t tn : TypeId) (hop : o.op = Op.call { callee := Callee.builtin Builtin.append, args := #[s, x], argTypes := #[t, tn] })
    (e : TypeId) (kn : IntKind) (ht : P.underlying t = some (.slice e)) (htn : P.underlying tn = some (.int kn)) (hi : (P.info? e).map (fun i => (i.zero, i.size, i.bytes)) = some (some (.int .u8 0), 1, 1))
    (base : Nat) (v : Value) (n : Nat) (xs : List UInt8) (hs : a.eval s = v) (hown : w.ownsRow base e 1 v n (toV xs))
    (k : Nat) (hx : a.eval x = .int .i64 (k : Int)) (h0 : 0 < k) (hz : n + k ≤ 140737488355328) (hbase : base ≤ w.heap.size)
    (hK : ∀ v' w', w'.ownsRow base e 1 v' (n + k) (toV (xs ++ List.replicate k 0)) → w.grownBy w' v.ownBlock → wpList P ops Q rest (a.put o.dst v') w') :
    wpList P ops Q (o :: rest) a w := by
  obtain ⟨i, hi0, hi1⟩ := Option.map_eq_some_iff.1 hi
  simp only [Prod.mk.injEq] at hi1
  obtain ⟨v', w', hr, h1, h2⟩ := run_append_own_zeros (P := P) w base t tn o.type e i kn ht htn hi0 hi1.1 hi1.2.1 hi1.2.2 v n (toV xs) hown k h0 hz hbase
  rw [toV_zeros, ← toV_append] at h1
  exact Lib.wpList_append_run w hg s x t tn hop v _ hs hx v' w' hr (hK v' w' h1 h2)
end
end Go.Proofs.Ytfbelaalmdcaaaa

/-
  What the program says of bytes.
-/
namespace Go.Proofs.Ytfbelaalmdcaaaa
open Go.RowKit

theorem info8 : (Try.prog.info? 5).map (fun i => (i.zero, i.size, i.bytes)) = some (some (.int .u8 0), 1, 1) := by kernel_rfl
theorem info8s : (Try.prog.info? 5).map (·.size) = some 1 := by kernel_rfl
end Go.Proofs.Ytfbelaalmdcaaaa

/-
  The contracts of pack.Fits, pack.longer, pack.Put.
-/
namespace Go.Proofs.Ytfbelaalmdcaaaa
open Go.RowKit
set_option linter.unusedVariables false

set_option maxRecDepth 4000 in
set_option maxHeartbeats 400000 in
theorem fits_no1 (k n : Int) (w : World) (h : k < 1) :
    Calls Try.prog 68 #[.int .i64 k, .int .u64 n] w fun e w' => e = .returned (.bool false) ∧ w = w' := by
  have h1 : ¬ (1 : Int) ≤ k := by omega
  go_enter Try.func68, Try.ntmps68
  go_wp2
  go_ret
  exact ⟨rfl, rfl⟩

set_option maxRecDepth 4000 in
set_option maxHeartbeats 400000 in
theorem fits_no2 (k n : Int) (w : World) (h : 8 < k) :
    Calls Try.prog 68 #[.int .i64 k, .int .u64 n] w fun e w' => e = .returned (.bool false) ∧ w = w' := by
  have h1 : (1 : Int) ≤ k := by omega
  have h2 : ¬ k ≤ 8 := by omega
  go_enter Try.func68, Try.ntmps68
  go_wp2
  go_ret
  exact ⟨rfl, rfl⟩

set_option maxRecDepth 4000 in
set_option maxHeartbeats 400000 in
theorem fits_yes (k n : Nat) (w : World) (h1 : 1 ≤ k) (h2 : k ≤ 8) (hn : n < 18446744073709551616) :
    Calls Try.prog 68 #[.int .i64 k, .int .u64 n] w fun e w' => e = .returned (.bool (decide (n < 256 ^ k))) ∧ w = w' := by
  have h3 : (1 : Int) ≤ (k : Int) := by omega
  have h4 : (k : Int) ≤ 8 := by omega
  go_enter Try.func68, Try.ntmps68
  go_wp2
  go_ret
  exact ⟨by rw [← shr_zero n k]; rfl, rfl⟩

theorem fits_true (k n : Nat) (w : World) (h1 : 1 ≤ k) (h2 : k ≤ 8) (hn : n < 256 ^ k) :
    Calls Try.prog 68 #[.int .i64 k, .int .u64 n] w fun e w' => e = .returned (.bool true) ∧ w = w' := by
  have F := fits_yes k n w h1 h2 (Nat.lt_of_lt_of_le hn (pow256_le k h2))
  rwa [decide_eq_true hn] at F

theorem fits_false (k n : Int) (w : World) (h : k < 1 ∨ 8 < k ∨ (256 : Int) ^ k.toNat ≤ n) (h0 : 0 ≤ n) (hn : n < 18446744073709551616) :
    Calls Try.prog 68 #[.int .i64 k, .int .u64 n] w fun e w' => e = .returned (.bool false) ∧ w = w' := by
  by_cases h1 : k < 1
  · exact fits_no1 k n w h1
  by_cases h2 : 8 < k
  · exact fits_no2 k n w h2
  obtain ⟨kn, rfl⟩ := Int.eq_ofNat_of_zero_le (show 0 ≤ k by omega)
  obtain ⟨nn, rfl⟩ := Int.eq_ofNat_of_zero_le h0
  have h3 : (256 : Int) ^ kn ≤ (nn : Int) := by rcases h with h | h | h <;> first | omega | exact h
  have h4 : ((256 ^ kn : Nat) : Int) ≤ (nn : Int) := by simpa using h3
  have F := fits_yes kn nn w (by omega) (by omega) (by omega)
  rwa [decide_eq_false (show ¬ nn < 256 ^ kn by omega)] at F


set_option maxRecDepth 4000 in
set_option maxHeartbeats 400000 in
theorem longer_any (a : Option Addr) (len cap m : Nat) (bs : List UInt8) (w : World) (hB : IsB w a len bs) (hl : len + m ≤ 281474976710656) :
    Calls Try.prog 69 #[.slice a len cap, .int .i64 m] w fun e w' => e = .returned (.slice (some ⟨w.heap.size, 0, none⟩) len (len + m)) ∧
      w'.ownsRow w.heap.size 5 1 (.slice (some ⟨w.heap.size, 0, none⟩) len (len + m)) len (toV bs) ∧ Below w.heap.size w w' := by
  have hmk := run_mk (P := Try.prog) 60 5 Try.underlying60 info8 len m hl
  have hrow : (w.alloc (.cells (zrow (len + m)).toArray 5)).heap[w.heap.size]? = some (.cells (zrow (len + m)).toArray 5 (0, 0)) := heap_alloc_new w _
  go_enter Try.func69, Try.ntmps69
  go_wp2_with (refine wpList_copy_splice rfl (.tmp 13) (.tmp 14) 60 60 rfl 5 Try.underlying60 info8s (some ⟨w.heap.size, 0, none⟩) a len (len + m) len cap rfl rfl w.heap.size 0 (zrow (len + m)) 5 hrow (toV bs) (by rw [toV_length, hB.1]; exact (Nat.min_self _).symm) (hB.hpos _ _) (by rw [toV_length, zrow_length, hB.1]; omega) (toV_one bs) w.heap.size w ((Below.refl _ _).alloc (Nat.le_refl _) _) (Nat.le_refl _) ?_)
  intro w2 HG hb2
  go_wp2
  go_ret
  exact ⟨rfl, owns_spliced hB.1 (Nat.le_refl _) hl HG.out, hb2⟩

set_option maxRecDepth 4000 in
set_option maxHeartbeats 400000 in
theorem put_ok (a : Option Addr) (len cap k n : Nat) (bs : List UInt8) (w : World) (hB : IsB w a len bs) (hl : len + 8 ≤ 281474976710656) (h1 : 1 ≤ k) (h2 : k ≤ 8) (hn : n < 256 ^ k) :
    Calls Try.prog 52 #[.slice a len cap, .int .i64 k, .int .u64 n] w fun e w' => e = .returned (.tuple #[.slice (some ⟨w.heap.size, 0, none⟩) (len + k) (len + k), .int .i64 0]) ∧
      w'.ownsRow w.heap.size 5 1 (.slice (some ⟨w.heap.size, 0, none⟩) (len + k) (len + k)) (len + k) (toV (bs ++ beB k n)) ∧ Below w.heap.size w w' := by
  have hn2 : n < 18446744073709551616 := Nat.lt_of_lt_of_le hn (pow256_le k h2)
  obtain ⟨i0, hi, hz0, hz1, hz2⟩ := info_parts info8
  go_enter Try.func52, Try.ntmps52
  go_wp2_with fail
  refine (fits_true k n _ h1 h2 hn).mono ?_
  rintro e w1 ⟨rfl, rfl⟩
  go_wp2_with fail
  refine (longer_any a len cap k bs _ hB (by omega)).mono ?_
  rintro e w1 ⟨rfl, hown, hbel⟩
  go_wp2
  go_loopw [8, 18] (fun v i wr => ∃ j : Nat, j ≤ k ∧ i = .int .i64 j ∧ v = .slice (some ⟨w.heap.size, 0, none⟩) (len + j) (len + k) ∧ wr.ownsRow w.heap.size 5 1 (.slice (some ⟨w.heap.size, 0, none⟩) (len + j) (len + k)) (len + j) (toV (bs ++ (beB k n).take j)) ∧ Below w.heap.size w wr) (fun _ i _ => k - (intOf i).toNat)
  case atStart => exact ⟨0, Nat.zero_le _, rfl, rfl, by simpa using hown, hbel⟩
  case round =>
    obtain ⟨j, hj, rfl, rfl, hownr, hbr⟩ := hrel
    clear hown hbel
    by_cases hlt : j < k
    · go_wp2_with (at_builtin; refine wpList_append_fits _ rfl (.tmp 21) (.tmp 30) 60 rfl w.heap.size 5 i0 1 Try.underlying60 hi hz1 w.heap.size (len + j) (len + k) _ rfl (hownr.alloc _) ⟨wr.heap.size, 0, none⟩ 1 1 [.int .u8 ((n : Int) / 2 ^ (8 * (k - 1 - j)) % 256)] rfl rfl (cell_one_new _ _ _) (by simp [Value.oneCell']) (by omega) ?_)
      intro w2 hown2 hgr
      rw [byte_at] at hown2
      have hown3 := put_row hown2 (beB_take k n j hlt)
      have hb3 : Below w.heap.size w w2 := (hbr.alloc hbr.size _).grown hgr (by simp; have := hbr.size; omega) (by simp)
      clear hown2 hgr hownr
      go_wp2
      go_roundw
      case rel => exact ⟨j + 1, by omega, by go_num, by simp [Nat.add_assoc], hown3, hb3⟩
      case measure => simp [intOf]; omega
    · go_wp2
      go_ret2
      obtain rfl : j = k := by omega
      exact ⟨rfl, by simpa [List.take_of_length_le, beB_length] using hownr, hbr⟩

set_option maxRecDepth 4000 in
set_option maxHeartbeats 400000 in
theorem put_no (a : Option Addr) (len cap : Nat) (k n : Int) (w : World) (h : k < 1 ∨ 8 < k ∨ (256 : Int) ^ k.toNat ≤ n) (h0 : 0 ≤ n) (hn : n < 18446744073709551616) :
    Calls Try.prog 52 #[.slice a len cap, .int .i64 k, .int .u64 n] w fun e w' => e = .returned (.tuple #[.slice none 0 0, .int .i64 1]) ∧ w = w' := by
  have H : Hid (k < 1 ∨ 8 < k ∨ (256 : Int) ^ k.toNat ≤ n) := h
  clear h
  go_enter Try.func52, Try.ntmps52
  go_wp2_with fail
  refine (fits_false k n _ H.out h0 hn).mono ?_
  rintro e w1 ⟨rfl, rfl⟩
  go_wp2
  go_ret2
  exact ⟨rfl, rfl⟩
end Go.Proofs.Ytfbelaalmdcaaaa

/-
  The contract of pack.PutText.
-/
namespace Go.Proofs.Ytfbelaalmdcaaaa
open Go.RowKit
set_option linter.unusedVariables false

set_option maxRecDepth 4000 in
set_option maxHeartbeats 400000 in
theorem puttext_no (a : Option Addr) (len cap : Nat) (s : ByteArray) (w : World) (h : 255 < (s.size : Int)) :
    Calls Try.prog 96 #[.slice a len cap, .string s] w fun e w' => e = .returned (.tuple #[.slice none 0 0, .int .i64 1]) ∧ w = w' := by
  go_enter Try.func96, Try.ntmps96
  go_wp2
  go_ret2
  exact ⟨rfl, rfl⟩

theorem text_row {w : World} {base g len cap : Nat} {e : TypeId} {bs : List UInt8} {s : ByteArray} (h : s.size ≤ 255)
    (hw : w.ownsRow base e 1 (.slice (some ⟨g, 0, none⟩) (len + 1 + s.size) cap) (len + 1 + s.size) (toV bs ++ Value.int .u8 (s.size : Int) :: Lib.strCells s)) :
    w.ownsRow base e 1 (.slice (some ⟨g, 0, none⟩) (len + (1 + s.size)) cap) (len + (1 + s.size)) (toV (bs ++ textB s.data.toList)) := by
  have e1 : toV (bs ++ textB s.data.toList) = toV bs ++ Value.int .u8 (s.size : Int) :: Lib.strCells s := by
    have e2 : ((UInt8.ofNat s.data.toList.length).toNat : Int) = (s.size : Int) := by
      rw [toNat_ofNat]
      simp
      omega
    simp only [toV, textB, List.map_append, List.map_cons, e2, Lib.strCells]
  rw [e1, ← Nat.add_assoc]
  exact hw

set_option maxRecDepth 4000 in
set_option maxHeartbeats 400000 in
theorem puttext_ok (a : Option Addr) (len cap : Nat) (bs : List UInt8) (s : ByteArray) (w : World) (hB : IsB w a len bs) (hl : len + 256 ≤ 281474976710656) (h : s.size ≤ 255) :
    Calls Try.prog 96 #[.slice a len cap, .string s] w fun e w' => e = .returned (.tuple #[.slice (some ⟨w.heap.size, 0, none⟩) (len + (1 + s.size)) (len + (1 + s.size)), .int .i64 0]) ∧
      w'.ownsRow w.heap.size 5 1 (.slice (some ⟨w.heap.size, 0, none⟩) (len + (1 + s.size)) (len + (1 + s.size))) (len + (1 + s.size)) (toV (bs ++ textB s.data.toList)) ∧ Below w.heap.size w w' := by
  obtain ⟨i0, hi, hz0, hz1, hz2⟩ := info_parts info8
  have h1 : ¬ 255 < (s.size : Int) := by omega
  go_enter Try.func96, Try.ntmps96
  go_wp2_with fail
  rw [show (1 : Int) + (s.size : Int) = ((1 + s.size : Nat) : Int) from by omega]
  refine (longer_any a len cap (1 + s.size) bs _ hB (by omega)).mono ?_
  rintro e w1 ⟨rfl, hown, hbel⟩
  go_wp2_with (at_builtin; refine wpList_append_fits _ rfl (.tmp 15) (.tmp 19) 60 rfl w.heap.size 5 i0 1 Try.underlying60 hi hz1 w.heap.size len (len + (1 + s.size)) _ rfl (hown.alloc _) ⟨w1.heap.size, 0, none⟩ 1 1 [.int .u8 (s.size : Int)] rfl rfl (cell_one_new _ _ _) (by simp [Value.oneCell']) (by omega) ?_)
  intro w2 hown2 hgr
  have hb2 : Below w.heap.size w w2 := (hbel.alloc hbel.size _).grown hgr (by simp; have := hbel.size; omega) (by simp)
  clear hgr hown
  go_wp2_with (at_builtin; refine Lib.wpList_append_fits_string _ rfl (.tmp 21) (.tmp 22) 60 9 rfl w.heap.size 5 i0 Try.underlying60 Try.underlying9 hi hz1 (some ⟨w.heap.size, 0, none⟩) (len + 1) (len + (1 + s.size)) _ rfl hown2 s rfl (by omega) (by omega) ?_)
  intro w3 hown3 hgr3
  have hb3 : Below w.heap.size w w3 := hb2.grown hgr3 hb2.size (by simp [Value.ownBlock])
  have hown4 := text_row (bs := bs) (s := s) h hown3
  clear hgr3 hown2 hown3
  go_wp2
  go_ret2
  exact ⟨by simp [Nat.add_assoc], hown4, hb3⟩
end Go.Proofs.Ytfbelaalmdcaaaa

/-
  The writer of package record: a block that holds a row of bytes; number and text.
-/
namespace Go.Proofs.Ytfbelaalmdcaaaa
open Go.RowKit
set_option linter.unusedVariables false

/-- A writer in memory, and the bytes that it holds. -/
def Wr (w : World) (g : Nat) (bs : List UInt8) : Prop := ∃ v, RowAt w g 108 #[v] ∧ w.ownsRow (g + 1) 5 1 v bs.length (toV bs)
/-- What a writer's step leaves: all ahead of it, and every struct beside it. -/
structure Mv (g : Nat) (w w' : World) : Prop where
  below : Below g w w'
  rows : ∀ k t cs, k ≠ g → t ≠ 5 → RowAt w k t cs → RowAt w' k t cs
theorem Mv.refl (g : Nat) (w : World) : Mv g w w := ⟨Below.refl _ _, fun _ _ _ _ _ h => h⟩
theorem Mv.trans {g : Nat} {w x y : World} (h : Mv g w x) (k : Mv g x y) : Mv g w y := ⟨h.below.trans k.below, fun a t cs h1 h2 h3 => k.rows a t cs h1 h2 (h.rows a t cs h1 h2 h3)⟩
theorem Mv.later {g : Nat} {w x : World} (hg : g ≤ w.heap.size) (h : Below w.heap.size w x) : Mv g w x := ⟨h.mono hg, fun k t cs _ _ hr => hr.later h⟩
theorem Wr.lt {w : World} {g : Nat} {bs : List UInt8} (h : Wr w g bs) : g < w.heap.size := by
  obtain ⟨v, hr, _⟩ := h
  exact hr.lt
theorem Wr.later {w x : World} {g : Nat} {bs : List UInt8} (h : Wr w g bs) (hb : Below w.heap.size w x) : Wr x g bs := by
  obtain ⟨v, hr, ho⟩ := h
  exact ⟨v, hr.later hb, ownsRow_below ho hb⟩
/-- The writer, and structs beside it. -/
def WK (g : Nat) (w x : World) (bs : List UInt8) (l : List (Nat × TypeId × Array Value)) : Prop := Wr x g bs ∧ Mv g w x ∧ Has x l
def Aside (g : Nat) (l : List (Nat × TypeId × Array Value)) : Prop := ∀ e ∈ l, e.1 ≠ g ∧ e.2.1 ≠ 5
theorem Has.moved {g : Nat} {x y : World} (h : Mv g x y) : ∀ {l : List (Nat × TypeId × Array Value)}, Aside g l → Has x l → Has y l
  | [], _, _ => trivial
  | e :: l, ha, hh => ⟨h.rows _ _ _ (ha e (by simp)).1 (ha e (by simp)).2 hh.1, Has.moved h (fun e he => ha e (by simp [he])) hh.2⟩
theorem WK.step {g : Nat} {w x y : World} {bs cs : List UInt8} {l : List (Nat × TypeId × Array Value)} (h : WK g w x bs l) (hw : Wr y g cs) (hm : Mv g x y) (ha : Aside g l) : WK g w y cs l := ⟨hw, h.2.1.trans hm, h.2.2.moved hm ha⟩

theorem wr_put {w1 w2 : World} {g n k : Nat} {v v' : Value} {bs cs : List UInt8} (hr : RowAt w1 g 108 #[v]) (hown : w1.ownsRow (g + 1) 5 1 v n (toV bs)) (hn : n = bs.length) (hk : k = cs.length)
    (ho : w2.ownsRow (g + 1) 5 1 v' (n + k) (toV (bs ++ cs))) (hg : w1.grownBy w2 v.ownBlock) :
    RowAt w2 g 108 #[v] ∧ Wr (w2.setCell ⟨g, 0, none⟩ v') g (bs ++ cs) ∧ Mv g w1 (w2.setCell ⟨g, 0, none⟩ v') := by
  have hne : ∀ j, j ≤ g → some j ≠ v.ownBlock := fun j hj e => by
    have := (hown.lt j e.symm).1
    omega
  have hr2 : RowAt w2 g 108 #[v] := (hg.block g hr.lt (hne g (Nat.le_refl _))).trans hr
  have hb : Below g w1 w2 := ⟨hg.os, hg.tape, hg.output, hg.size, fun j hj => hg.block j (by have := hr.lt; omega) (hne j (by omega))⟩
  refine ⟨hr2, ⟨v', hr2.set 0 v', ?_⟩, ⟨hb.setCell (Nat.le_refl _) _, fun j t cs' hj ht hrow => ?_⟩⟩
  · have := ownsRow_setCell_below ho (a := ⟨g, 0, none⟩) (by show g < g + 1; omega) v'
    rwa [show n + k = (bs ++ cs).length by rw [List.length_append]; omega] at this
  · refine RowAt.other ((hg.block j hrow.lt ?_).trans hrow) _ _ hj
    intro e
    obtain ⟨-, h2⟩ := hown
    rcases h2 with ⟨h2, _⟩ | ⟨g', cap, cur, h2, -, h4, -⟩
    · subst h2
      cases e
    · subst h2
      simp only [Value.ownBlock, Option.some.injEq] at e
      subst e
      have h5 := hrow.symm.trans h4
      simp only [Option.some.injEq, Obj.cells.injEq] at h5
      exact ht h5.2.1

theorem own_shape {w : World} {base n : Nat} {e : TypeId} {v : Value} {xs : List Value} (h : w.ownsRow base e 1 v n xs) : ∃ a c, v = .slice a n c := by
  rcases h.2 with ⟨h1, h2⟩ | ⟨g', cap, cur, h2, _⟩
  · exact ⟨none, 0, by rw [h1, h2]⟩
  · exact ⟨_, _, h2⟩
theorem textB_len (s : ByteArray) : (textB s.data.toList).length = 1 + s.size := by
  unfold textB
  rw [List.length_cons, data_length]
  omega
theorem isB_nil (w : World) : IsB w none 0 [] := ⟨rfl, fun h => absurd h (by omega)⟩

/-- A load, by its value. -/
theorem wpList_load_val {P : Program} {ops : Array Oper} {rest : List Oper} {o : Oper} {a : Act} {w : World} {Q : Exit → Act → World → Prop} (hw : Region.wanted o (yielded ops a.tmps) = true) (t : TypeId) (x : Operand) (ho : o.op = .load t x) (u v : Value) (hu : a.eval x = u) (hv : (Instr.loadAt t u).run P w = .ok v w)
    (h : wpList P ops Q rest (a.put o.dst v) w) : wpList P ops Q (o :: rest) a w :=
  wpList_val hw v (by unfold execOp; simp only [ho, hu, Sem.run_bind, hv, Result.andThen_ok, Sem.run_pure]) h
theorem load_b8 {b j : Nat} (x : World) (v : Value) (a : Option Addr) (n c : Nat) (hv : v = .slice a n c) (h : x.cell? ⟨b, j, none⟩ = some v) : (Instr.loadAt 60 (.pointer (some ⟨b, j, none⟩))).run Try.prog x = .ok v x := by
  subst hv
  go_simp

set_option maxRecDepth 4000 in
set_option maxHeartbeats 1600000 in
theorem wnum_any (g k n : Nat) (bs : List UInt8) (w : World) (h : Wr w g bs) (hk : 1 ≤ k ∧ k ≤ 8) (hn : n < 256 ^ k) (hl : bs.length ≤ 1000000) :
    Calls Try.prog 64 #[.pointer (some ⟨g, 0, none⟩), .int .i64 (k : Int), .int .u64 (n : Int)] w fun e w' => e = .returned (.tuple #[]) ∧ Wr w' g (bs ++ beB k n) ∧ Mv g w w' := by
  obtain ⟨v, hr, ho⟩ := h
  obtain ⟨a, c, hv⟩ := own_shape ho
  have HP := hide (put_ok none 0 0 k n [] w (isB_nil w) (by omega) hk.1 hk.2 hn)
  simp only [Nat.zero_add, List.nil_append] at HP
  have HV := hide hv
  have HR := hide hr
  have HO := hide ho
  have HLT := hide hr.lt
  have HKK := hide hk
  have HL := hide hl
  clear hr ho hk hl hv
  go_enter Try.func64, Try.ntmps64
  go_wp2_with fail
  refine HP.out.mono ?_
  rintro e w1 ⟨rfl, hrow, hb⟩
  have HR1 := hide (HR.out.later hb)
  have HO1 := hide (ownsRow_below HO.out hb)
  have HM1 := hide (Mv.later (Nat.le_of_lt HR.out.lt) hb)
  have HB1 := hide (hrow.isB (beB_length k n))
  have HS := hide hb.size
  clear hb hrow HP HR HO
  obtain ⟨m, hm⟩ : ∃ m, m = bs.length := ⟨_, rfl⟩
  rw [← hm] at HO1 HL HV
  have HM := hide hm
  clear hm
  generalize w.heap.size = b at *
  go_wp2_with (first | (refine wpList_load_val rfl 60 (.tmp 17) rfl _ v rfl (load_b8 w1 v a m c HV.out (HR1.out.cell 0 v rfl)) ?_) | (at_builtin; refine wpList_append_ob _ rfl (.tmp 18) (.tmp 19) 60 rfl 5 Try.underlying60 info8 (g + 1) v m bs rfl HO1.out (some ⟨b, 0, none⟩) (k) (k) (beB k n) rfl HB1.out (fun h => nomatch h) (by have := HL.out; have := HKK.out.2; omega) (by have := HR1.out.lt; omega) ?_))
  intro v' w2 ho2 hg2
  obtain ⟨hr2, hw2, hm2⟩ := wr_put HR1.out HO1.out HM.out (beB_length k n).symm ho2 hg2
  obtain ⟨a2, c2, rfl⟩ := own_shape ho2
  have HW := hide hw2
  have HMV := hide (HM1.out.trans hm2)
  have f0 := hr2.free 0
  have d2 := hr2.cell 0 _ rfl
  clear ho2 hg2 hr2 hw2 hm2 HR1 HO1 HM1 HB1
  go_wp2
  go_end0
  exact ⟨rfl, HW.out, HMV.out⟩

set_option maxRecDepth 4000 in
set_option maxHeartbeats 1600000 in
theorem wtext_any (g : Nat) (s : ByteArray) (bs : List UInt8) (w : World) (h : Wr w g bs) (hk : s.size ≤ 255) (hl : bs.length ≤ 1000000) :
    Calls Try.prog 82 #[.pointer (some ⟨g, 0, none⟩), .string s] w fun e w' => e = .returned (.tuple #[]) ∧ Wr w' g (bs ++ textB s.data.toList) ∧ Mv g w w' := by
  obtain ⟨v, hr, ho⟩ := h
  obtain ⟨a, c, hv⟩ := own_shape ho
  have HP := hide (puttext_ok none 0 0 [] s w (isB_nil w) (by omega) hk)
  simp only [Nat.zero_add, List.nil_append] at HP
  have HV := hide hv
  have HR := hide hr
  have HO := hide ho
  have HLT := hide hr.lt
  have HKK := hide hk
  have HL := hide hl
  clear hr ho hk hl hv
  go_enter Try.func82, Try.ntmps82
  go_wp2_with fail
  refine HP.out.mono ?_
  rintro e w1 ⟨rfl, hrow, hb⟩
  have HR1 := hide (HR.out.later hb)
  have HO1 := hide (ownsRow_below HO.out hb)
  have HM1 := hide (Mv.later (Nat.le_of_lt HR.out.lt) hb)
  have HB1 := hide (hrow.isB (textB_len s))
  have HS := hide hb.size
  clear hb hrow HP HR HO
  obtain ⟨m, hm⟩ : ∃ m, m = bs.length := ⟨_, rfl⟩
  rw [← hm] at HO1 HL HV
  have HM := hide hm
  clear hm
  generalize w.heap.size = b at *
  go_wp2_with (first | (refine wpList_load_val rfl 60 (.tmp 14) rfl _ v rfl (load_b8 w1 v a m c HV.out (HR1.out.cell 0 v rfl)) ?_) | (at_builtin; refine wpList_append_ob _ rfl (.tmp 15) (.tmp 16) 60 rfl 5 Try.underlying60 info8 (g + 1) v m bs rfl HO1.out (some ⟨b, 0, none⟩) (1 + s.size) (1 + s.size) (textB s.data.toList) rfl HB1.out (fun h => nomatch h) (by have := HL.out; have := HKK.out; omega) (by have := HR1.out.lt; omega) ?_))
  intro v' w2 ho2 hg2
  obtain ⟨hr2, hw2, hm2⟩ := wr_put HR1.out HO1.out HM.out (textB_len s).symm ho2 hg2
  obtain ⟨a2, c2, rfl⟩ := own_shape ho2
  have HW := hide hw2
  have HMV := hide (HM1.out.trans hm2)
  have f0 := hr2.free 0
  have d2 := hr2.cell 0 _ rfl
  clear ho2 hg2 hr2 hw2 hm2 HR1 HO1 HM1 HB1
  go_wp2
  go_end0
  exact ⟨rfl, HW.out, HMV.out⟩

end Go.Proofs.Ytfbelaalmdcaaaa

/-
  The contract of pack.Take: of any bytes, at any place, in any width it answers 'takeS', and turns nothing.
-/
namespace Go.Proofs.Ytfbelaalmdcaaaa
open Go.RowKit
set_option linter.unusedVariables false

set_option maxRecDepth 4000 in
set_option maxHeartbeats 400000 in
theorem take_arg1 (a : Option Addr) (len cap : Nat) (p k : Int) (w : World) (h : k < 1) :
    Calls Try.prog 86 #[.slice a len cap, .int .i64 p, .int .i64 k] w fun e w' => e = .returned (.tuple #[.int .u64 0, .int .i64 1]) ∧ w = w' := by
  have h1 : ¬ (1 : Int) ≤ k := by omega
  go_enter Try.func86, Try.ntmps86
  go_wp2
  go_ret2
  exact ⟨rfl, rfl⟩

set_option maxRecDepth 4000 in
set_option maxHeartbeats 400000 in
theorem take_arg2 (a : Option Addr) (len cap : Nat) (p k : Int) (w : World) (h : 8 < k) :
    Calls Try.prog 86 #[.slice a len cap, .int .i64 p, .int .i64 k] w fun e w' => e = .returned (.tuple #[.int .u64 0, .int .i64 1]) ∧ w = w' := by
  have h1 : (1 : Int) ≤ k := by omega
  have h2 : ¬ k ≤ 8 := by omega
  go_enter Try.func86, Try.ntmps86
  go_wp2
  go_ret2
  exact ⟨rfl, rfl⟩

set_option maxRecDepth 4000 in
set_option maxHeartbeats 400000 in
theorem take_arg3 (a : Option Addr) (len cap : Nat) (p k : Int) (w : World) (h1 : 1 ≤ k) (h2 : k ≤ 8) (h3 : p < 0) :
    Calls Try.prog 86 #[.slice a len cap, .int .i64 p, .int .i64 k] w fun e w' => e = .returned (.tuple #[.int .u64 0, .int .i64 1]) ∧ w = w' := by
  go_enter Try.func86, Try.ntmps86
  go_wp2
  go_ret2
  exact ⟨rfl, rfl⟩

set_option maxRecDepth 4000 in
set_option maxHeartbeats 400000 in
theorem take_short (a : Option Addr) (len cap : Nat) (p k : Int) (w : World) (hl : len ≤ 9223372036854775807) (hp : p ≤ 9223372036854775807) (h1 : 1 ≤ k) (h2 : k ≤ 8) (h3 : 0 ≤ p) (h4 : (len : Int) - p < k) :
    Calls Try.prog 86 #[.slice a len cap, .int .i64 p, .int .i64 k] w fun e w' => e = .returned (.tuple #[.int .u64 0, .int .i64 4]) ∧ w = w' := by
  have h5 : ¬ p < 0 := by omega
  go_enter Try.func86, Try.ntmps86
  go_wp2
  go_ret2
  exact ⟨rfl, rfl⟩

set_option maxRecDepth 4000 in
set_option maxHeartbeats 400000 in
theorem take_ok (b off : Nat) (len cap : Nat) (bs : List UInt8) (p k : Nat) (w : World) (hl : len ≤ 9223372036854775807) (h1 : 1 ≤ k) (h2 : k ≤ 8) (h4 : p + k ≤ len) (hb : bs.length = len)
    (hc : ∀ j, j < len → w.cell? ⟨b, off + j, none⟩ = some (.int .u8 ((bs.getD j 0).toNat : Int))) :
    Calls Try.prog 86 #[.slice (some ⟨b, off, none⟩) len cap, .int .i64 p, .int .i64 k] w fun e w' => e = .returned (.tuple #[.int .u64 (beAt bs p k : Nat), .int .i64 0]) ∧ w = w' := by
  have h3 : ¬ (p : Int) < 0 := by omega
  have h5 : ¬ (len : Int) - (p : Int) < (k : Int) := by omega
  have h6 : (1 : Int) ≤ (k : Int) := by omega
  have h7 : (k : Int) ≤ 8 := by omega
  go_enter Try.func86, Try.ntmps86
  go_wp2
  go_loop [8, 24] (fun n i => ∃ j : Nat, j ≤ k ∧ i = .int .i64 j ∧ n = .int .u64 (beAt bs p j : Nat)) (fun _ i => k - (intOf i).toNat)
  case atStart => exact ⟨0, Nat.zero_le _, rfl, by rw [beAt_zero]; rfl⟩
  case round =>
    obtain ⟨j, hj, rfl, rfl⟩ := hrel
    by_cases hlt : j < k
    · have hcj : w.cell? ⟨b, off + (p + j), none⟩ = some (.int .u8 ((bs.getD (p + j) 0).toNat : Int)) := hc (p + j) (by omega)
      have hby : (bs.getD (p + j) 0).toNat < 256 := (bs.getD (p + j) 0).toNat_lt
      have hn := beAt_lt7 bs p j (by omega)
      go_wp2
      go_round
      case rel => exact ⟨j + 1, by omega, by go_num, by rw [take_step bs p j (by omega) (by omega)]⟩
      case measure => simp [intOf]; omega
    · go_wp2
      go_ret2
      obtain rfl : j = k := by omega
      exact ⟨rfl, rfl⟩

/-- THE CONTRACT. -/
theorem take_any (a : Option Addr) (len cap : Nat) (bs : List UInt8) (p k : Int) (w : World) (hB : IsB w a len bs) (hl : len ≤ 9223372036854775807) (hp : p ≤ 9223372036854775807) :
    Calls Try.prog 86 #[.slice a len cap, .int .i64 p, .int .i64 k] w fun e w' => e = .returned (.tuple #[.int .u64 (takeS bs p k).1, .int .i64 (takeS bs p k).2]) ∧ w = w' := by
  obtain ⟨hb, hc⟩ := hB
  by_cases h1 : k < 1
  · rw [takeS_arg bs p k (Or.inl h1)]
    exact take_arg1 a len cap p k w h1
  by_cases h2 : 8 < k
  · rw [takeS_arg bs p k (Or.inr (Or.inl h2))]
    exact take_arg2 a len cap p k w h2
  by_cases h3 : p < 0
  · rw [takeS_arg bs p k (Or.inr (Or.inr h3))]
    exact take_arg3 a len cap p k w (by omega) (by omega) h3
  have h0 : ¬ (k < 1 ∨ 8 < k ∨ p < 0) := by omega
  by_cases h4 : (bs.length : Int) - p < k
  · rw [takeS_short bs p k h0 h4]
    exact take_short a len cap p k w hl hp (by omega) (by omega) (by omega) (by omega)
  · rw [takeS_ok bs p k h0 h4]
    obtain ⟨b, off, rfl, _, hcell⟩ := hc (by omega)
    obtain ⟨pn, rfl⟩ := Int.eq_ofNat_of_zero_le (show 0 ≤ p by omega)
    obtain ⟨kn, rfl⟩ := Int.eq_ofNat_of_zero_le (show 0 ≤ k by omega)
    exact take_ok b off len cap bs pn kn w hl (by omega) (by omega) (by omega) hb hcell
end Go.Proofs.Ytfbelaalmdcaaaa

/-
  The contract of pack.TakeText: of any bytes, at any place it answers 'textS', and turns nothing.
-/
namespace Go.Proofs.Ytfbelaalmdcaaaa
open Go.RowKit
set_option linter.unusedVariables false

theorem take_one (b off len cap p : Nat) (bs : List UInt8) (m : Nat) (w : World) (hl : len ≤ 9223372036854775807) (hb : bs.length = len)
    (hc : ∀ j, j < len → w.cell? ⟨b, off + j, none⟩ = some (.int .u8 ((bs.getD j 0).toNat : Int))) (h1 : p < len) (hm : (bs.getD p 0).toNat = m) :
    Calls Try.prog 86 #[.slice (some ⟨b, off, none⟩) len cap, .int .i64 p, .int .i64 1] w fun e w' => e = .returned (.tuple #[.int .u64 m, .int .i64 0]) ∧ w = w' := by
  have T := take_ok b off len cap bs p 1 w hl (by omega) (by omega) (by omega) hb hc
  have e : beAt bs p 1 = m := by
    have e1 : beAt bs p 1 = beAt bs p 0 * 256 + (bs.getD p 0).toNat := beAt_succ bs p 0 (by omega)
    rw [beAt_zero, hm] at e1
    omega
  rw [e] at T
  exact T

set_option maxRecDepth 4000 in
set_option maxHeartbeats 400000 in
theorem ttext_ok (b off len cap p : Nat) (bs : List UInt8) (m : Nat) (w : World) (hl : len ≤ 9223372036854775807) (hcap : len ≤ cap) (hb : bs.length = len)
    (hc : ∀ j, j < len → w.cell? ⟨b, off + j, none⟩ = some (.int .u8 ((bs.getD j 0).toNat : Int))) (hbl : b < w.heap.size) (h1 : p < len) (hm : (bs.getD p 0).toNat = m) (h2 : p + 1 + m ≤ len) :
    Calls Try.prog 109 #[.slice (some ⟨b, off, none⟩) len cap, .int .i64 p] w fun e w' => e = .returned (.tuple #[.string ⟨((bs.drop (p + 1)).take m).toArray⟩, .int .i64 ((p : Int) + 1 + (m : Int)), .int .i64 0]) ∧ w = w' := by
  have T := take_one b off len cap p bs m w hl hb hc h1 hm
  have HT : Hid (Calls Try.prog 86 #[.slice (some ⟨b, off, none⟩) len cap, .int .i64 p, .int .i64 1] w fun e w' => e = .returned (.tuple #[.int .u64 m, .int .i64 0]) ∧ w = w') := T
  clear T
  have hm2 : m < 256 := by rw [← hm]; exact (bs.getD p 0).toNat_lt
  have hcv := run_toString (P := Try.prog) w 60 9 5 Try.underlying60 Try.underlying5 Try.underlying9 (some ⟨b, off + (p + 1), none⟩) m (cap - (p + 1)) _ (IsB.cut hb hbl hc (p + 1) m h2)
  have hcv0 := run_toString (P := Try.prog) w 60 9 5 Try.underlying60 Try.underlying5 Try.underlying9 (some ⟨b, off, none⟩) 0 0 _ (IsB.none_left w _)
  clear hm
  by_cases hcp : cap = p + 1
  · obtain rfl : m = 0 := by omega
    obtain rfl : len = p + 1 := by omega
    subst hcp
    clear hcv
    go_enter Try.func109, Try.ntmps109
    go_wp2_with fail
    refine HT.out.mono ?_
    rintro e w1 ⟨rfl, rfl⟩
    go_wp2
    go_ret3
    exact ⟨by simp, rfl⟩
  · clear hcv0
    go_enter Try.func109, Try.ntmps109
    go_wp2_with fail
    refine HT.out.mono ?_
    rintro e w1 ⟨rfl, rfl⟩
    go_wp2
    go_ret3
    exact ⟨rfl, rfl⟩

set_option maxRecDepth 4000 in
set_option maxHeartbeats 400000 in
theorem ttext_few (b off len cap p : Nat) (bs : List UInt8) (m : Nat) (w : World) (hl : len ≤ 9223372036854775807) (hb : bs.length = len)
    (hc : ∀ j, j < len → w.cell? ⟨b, off + j, none⟩ = some (.int .u8 ((bs.getD j 0).toNat : Int))) (h1 : p < len) (hm : (bs.getD p 0).toNat = m) (h2 : len < p + 1 + m) :
    Calls Try.prog 109 #[.slice (some ⟨b, off, none⟩) len cap, .int .i64 p] w fun e w' => e = .returned (.tuple #[.string ⟨#[]⟩, .int .i64 0, .int .i64 4]) ∧ w = w' := by
  have T := take_one b off len cap p bs m w hl hb hc h1 hm
  have HT : Hid (Calls Try.prog 86 #[.slice (some ⟨b, off, none⟩) len cap, .int .i64 p, .int .i64 1] w fun e w' => e = .returned (.tuple #[.int .u64 m, .int .i64 0]) ∧ w = w') := T
  clear T
  have hm2 : m < 256 := by rw [← hm]; exact (bs.getD p 0).toNat_lt
  clear hm
  go_enter Try.func109, Try.ntmps109
  go_wp2_with fail
  refine HT.out.mono ?_
  rintro e w1 ⟨rfl, rfl⟩
  go_wp2
  go_ret3
  exact ⟨rfl, rfl⟩

set_option maxRecDepth 4000 in
set_option maxHeartbeats 400000 in
theorem ttext_err (a : Option Addr) (len cap : Nat) (p : Int) (x : Int) (w : World) (hx : (x != 0) = true)
    (HT : Hid (Calls Try.prog 86 #[.slice a len cap, .int .i64 p, .int .i64 1] w fun e w' => e = .returned (.tuple #[.int .u64 0, .int .i64 x]) ∧ w = w')) :
    Calls Try.prog 109 #[.slice a len cap, .int .i64 p] w fun e w' => e = .returned (.tuple #[.string ⟨#[]⟩, .int .i64 0, .int .i64 x]) ∧ w = w' := by
  go_enter Try.func109, Try.ntmps109
  go_wp2_with fail
  refine HT.out.mono ?_
  rintro e w1 ⟨rfl, rfl⟩
  go_wp2
  go_ret3
  exact ⟨rfl, rfl⟩

/-- THE CONTRACT. -/
theorem ttext_any (a : Option Addr) (len cap : Nat) (bs : List UInt8) (p : Int) (w : World) (hB : IsB w a len bs) (hl : len ≤ 9223372036854775807) (hcap : len ≤ cap) (hp : p ≤ 9223372036854775807) :
    Calls Try.prog 109 #[.slice a len cap, .int .i64 p] w fun e w' => e = .returned (.tuple #[.string ⟨(textS bs p).1.toArray⟩, .int .i64 (textS bs p).2.1, .int .i64 (textS bs p).2.2]) ∧ w = w' := by
  have hb := hB.1
  by_cases h1 : p < 0
  · rw [textS_arg bs p h1]
    exact ttext_err a len cap p 1 w (by decide) (take_arg3 a len cap p 1 w (by omega) (by omega) h1)
  by_cases h2 : (bs.length : Int) ≤ p
  · rw [textS_short bs p h1 h2]
    exact ttext_err a len cap p 4 w (by decide) (take_short a len cap p 1 w hl hp (by omega) (by omega) (by omega) (by omega))
  obtain ⟨pn, rfl⟩ := Int.eq_ofNat_of_zero_le (show 0 ≤ p by omega)
  obtain ⟨b, off, rfl, hbl, hc⟩ := hB.2 (by omega)
  by_cases h3 : pn + 1 + (bs.getD pn 0).toNat ≤ len
  · rw [textS_ok bs pn _ (by omega) rfl (by omega)]
    exact ttext_ok b off len cap pn bs _ w hl hcap hb hc hbl (by omega) rfl h3
  · rw [textS_few bs pn _ (by omega) rfl (by omega)]
    exact ttext_few b off len cap pn bs _ w hl hb hc (by omega) rfl (by omega)
end Go.Proofs.Ytfbelaalmdcaaaa

/-
  The reader of package record: number, text, kind, count.
-/
namespace Go.Proofs.Ytfbelaalmdcaaaa
open Go.RowKit
set_option linter.unusedVariables false

/-- A reader's cells: its bytes, how far they are read, the first error, the record so far. -/
def rdB (v : Value) (k : Nat) (e : Int) (r : Rec) (va vb : Value) : Array Value := #[v, .int .i64 (k : Int), .int .i64 e, .int .i64 r.k, .int .u64 (r.l : Int), .int .i64 r.t, .int .u64 (r.p : Int), .int .i64 r.c.k, .int .i64 r.c.pg, .int .i64 r.c.sl, .string r.c.o, .string r.c.n, .int .u64 (r.n : Int), .int .i64 r.s, .int .u64 (r.b : Int), va, vb]
/-- A reader in memory, and what is left to read. -/
structure RbAt (w : World) (g : Nat) (a : Option Addr) (len cap : Nat) (bs : List UInt8) (s : St) (r : Rec) (va vb : Value) : Prop where
  row : ∃ k : Nat, RowAt w g 130 (rdB (.slice a len cap) k s.e r va vb) ∧ k ≤ bs.length ∧ (s.e = 0 → bs.drop k = s.l)
  bytes : IsB w a len bs
  room : len ≤ 140737488355328 ∧ len ≤ cap
  apart : 0 < len → ∀ x, a = some x → x.block < g

theorem isB_grown {w x : World} {a : Option Addr} {len g : Nat} {bs : List UInt8} (h : IsB w a len bs) (hg : w.grownBy x (some g)) (hn : 0 < len → ∀ y, a = some y → y.block ≠ g) : IsB x a len bs := by
  refine ⟨h.1, fun hp => ?_⟩
  obtain ⟨b, off, ha, hlt, hc⟩ := h.2 hp
  refine ⟨b, off, ha, Nat.lt_of_lt_of_le hlt hg.size, fun j hj => ?_⟩
  rw [World.cell?_of_block (a := ⟨b, off + j, none⟩) (hg.block b hlt (fun e => hn hp _ ha (by cases e; rfl)))]
  exact hc j hj
theorem apart_ne {len g : Nat} {a : Option Addr} (h : 0 < len → ∀ x, a = some x → x.block < g) : 0 < len → ∀ x, a = some x → x.block ≠ g := fun hp x hx => Nat.ne_of_lt (h hp x hx)
theorem row_grown {w x : World} {g k : Nat} {t : TypeId} {cs : Array Value} (h : RowAt w k t cs) (hg : w.grownBy x (some g)) (hn : k ≠ g) : RowAt x k t cs := (hg.block k h.lt (fun e => hn (by cases e; rfl))).trans h
theorem grown_none {w x : World} (h : w.grownBy x none) : Below w.heap.size w x := ⟨h.os, h.tape, h.output, h.size, fun k hk => h.block k hk (by simp)⟩
theorem of_below {w x : World} {o : Option Nat} (h : Below w.heap.size w x) : w.grownBy x o := ⟨h.os, h.tape, h.output, h.size, fun k hk _ => h.block k hk⟩

theorem num_zero {k : Nat} {s : St} (h : (pNum k s).2.e ≠ 0) : (pNum k s).1 = 0 := by
  unfold pNum at h ⊢
  by_cases he : s.e ≠ 0
  · rw [if_pos he]
  · rw [if_neg he] at h ⊢
    by_cases hk : k ≤ s.l.length
    · rw [if_pos hk] at h
      exact absurd rfl h
    · rw [if_neg hk]
theorem text_zero {s : St} (h : (pText s).2.e ≠ 0) : (pText s).1 = ⟨#[]⟩ := by
  unfold pText at h ⊢
  by_cases he : s.e ≠ 0
  · rw [if_pos he]
  · rw [if_neg he] at h ⊢
    cases hs : s.l with
    | nil => rfl
    | cons b l =>
      rw [hs] at h
      simp only at h ⊢
      by_cases hk : b.toNat ≤ l.length
      · rw [if_pos hk] at h
        exact absurd rfl h
      · rw [if_neg hk]

set_option maxRecDepth 4000 in
set_option maxHeartbeats 1600000 in
theorem bnum_any (g : Nat) (a : Option Addr) (len cap : Nat) (bs : List UInt8) (s : St) (r : Rec) (va vb : Value) (k : Nat) (w : World) (hk : 1 ≤ k ∧ k ≤ 8) (h : RbAt w g a len cap bs s r va vb) :
    Calls Try.prog 99 #[.pointer (some ⟨g, 0, none⟩), .int .i64 (k : Int)] w fun e w' => e = .returned (.int .u64 ((pNum k s).1 : Int)) ∧ RbAt w' g a len cap bs (pNum k s).2 r va vb ∧ w.grownBy w' (some g) := by
  obtain ⟨p, hr, hp, hs⟩ := h.row
  have HBY := hide h.bytes
  have HRM := hide h.room
  have HAP := hide h.apart
  have c2 := hr.cell 2 (.int .i64 s.e) rfl
  have HR := hide hr
  have hbl := h.bytes.1
  clear hr h
  by_cases he : s.e = 0
  · obtain ⟨hl⟩ := And.intro (hs he) trivial
    obtain ⟨t1, t2, t3⟩ := num_take ⟨bs.toArray⟩ s p k hk he (by rw [size_mk]; exact hp) hl
    have HT := hide (fun w hB => take_any a len cap bs (p : Int) (k : Int) w hB (by have := HRM.out.1; omega) (by have := HRM.out.1; omega))
    rw [show (⟨bs.toArray⟩ : ByteArray).data.toList = bs from rfl] at t1 t2 t3
    rw [size_mk] at t3
    rw [t1, t2] at HT
    have H3 := hide t3
    have HZ := hide (num_zero (k := k) (s := s))
    have ew : IntKind.i64.wrap ((p : Int) + (k : Int)) = (p : Int) + (k : Int) := by rw [IntKind.wrap_i64]; have := HRM.out.1; omega
    clear t1 t2 t3
    rw [he] at c2 HR
    clear hs hl he
    generalize pNum k s = ns at *
    obtain ⟨n, s'⟩ := ns
    simp only at HT H3 HZ
    go_enter Try.func99, Try.ntmps99
    go_wp2_with fail
    refine wp_region_in (fun x => w.grownBy x none ∧ RowAt x g 130 (rdB (.slice a len cap) p 0 r va vb) ∧ IsB x a len bs) (by kernel_rfl) (by kernel_rfl) ⟨grown_drew (grown_refl w none), HR.out, HBY.out⟩ ?_
    clear HR c2
    repeat (first
      | go_big_quiet_skip
      | (refine wpQuiet_load rfl 60 (.tmp 15) rfl _ (.slice a len cap) rfl (fun y hy => load_b8 y _ a len cap rfl (hy.2.1.cell 0 _ rfl)) ?_; simp only [Act.put, Array.setIfInBounds, List.size_toArray, List.length_cons, List.length_nil, Nat.reduceAdd, Nat.reduceLT, ↓reduceDIte, List.set_toArray, List.set_cons_succ, List.set_cons_zero])
      | (refine wpQuiet_load rfl 3 (.tmp 19) rfl _ (.int .i64 (p : Int)) rfl (fun y hy => load_i64 y (p : Int) (hy.2.1.cell 1 (.int .i64 (p : Int)) rfl)) ?_; simp only [Act.put, Array.setIfInBounds, List.size_toArray, List.length_cons, List.length_nil, Nat.reduceAdd, Nat.reduceLT, ↓reduceDIte, List.set_toArray, List.set_cons_succ, List.set_cons_zero])
      | (refine wpQuiet_call rfl 86 #[.slice a len cap, .int .i64 (p : Int), .int .i64 (k : Int)] (.tuple #[.int .u64 (n : Int), .int .i64 s'.e]) ?_ (fun x hC => (HT.out x hC.2.2).mono fun e x' h => ⟨h.1, h.2 ▸ hC⟩) ?_; (intro x; go_simp); simp only [Act.put, Array.setIfInBounds, List.size_toArray, List.length_cons, List.length_nil, Nat.reduceAdd, Nat.reduceLT, ↓reduceDIte, List.set_toArray, List.set_cons_succ, List.set_cons_zero])
      | (refine wpQuiet_plain rfl (fun K hK => ?_); go_simp; refine hK _ ?_; clear hK K))
    refine wpQuiet_nil ?_
    intro x hx
    have q1 := hx.2.1.cell 1 (.int .i64 (p : Int)) rfl
    have q2 := hx.2.1.cell 2 (.int .i64 0) rfl
    have f1 := hx.2.1.free 1
    have f2 := hx.2.1.free 2
    have HG := hide (grown_any (o := some g) hx.1)
    by_cases h0 : s'.e = 0
    · have HX : Hid (RbAt (x.setCell ⟨g, 1, none⟩ (.int .i64 ((p : Int) + (k : Int)))) g a len cap bs s' r va vb ∧ w.grownBy (x.setCell ⟨g, 1, none⟩ (.int .i64 ((p : Int) + (k : Int)))) (some g)) := by
        have hg := grown_set (j := 1) (.int .i64 ((p : Int) + (k : Int))) HG.out
        refine ⟨⟨⟨p + k, ?_, (H3.out h0).1, fun _ => (H3.out h0).2⟩, isB_grown HBY.out hg (apart_ne HAP.out), HRM.out, HAP.out⟩, hg⟩
        rw [h0]
        have h := hx.2.1.set 1 (.int .i64 ((p + k : Nat) : Int))
        rw [show ((p + k : Nat) : Int) = (p : Int) + (k : Int) by omega] at h
        unfold rdB at h ⊢
        rw [show ((p + k : Nat) : Int) = (p : Int) + (k : Int) by omega]
        exact h
      rw [h0]
      clear hx HT H3 HZ HG HBY HRM HAP h0
      go_wp2
      go_ret
      exact ⟨rfl, HX.out.1, HX.out.2⟩
    · have HX : Hid (RbAt (x.setCell ⟨g, 2, none⟩ (.int .i64 s'.e)) g a len cap bs s' r va vb ∧ w.grownBy (x.setCell ⟨g, 2, none⟩ (.int .i64 s'.e)) (some g)) := by
        have hg := grown_set (j := 2) (.int .i64 s'.e) HG.out
        exact ⟨⟨⟨p, hx.2.1.set 2 (.int .i64 s'.e), hp, fun h => absurd h h0⟩, isB_grown HBY.out hg (apart_ne HAP.out), HRM.out, HAP.out⟩, hg⟩
      have n0 := HZ.out h0
      have k0 : (s'.e == 0) = false := by rw [beq_eq_false_iff_ne]; exact h0
      have k1 : (s'.e != 0) = true := by rw [bne, k0]; rfl
      clear hx HT H3 HZ HG HBY HRM HAP h0
      have HN := hide n0
      clear n0
      generalize s'.e = es at *
      go_wp2
      go_ret
      exact ⟨by rw [HN.out]; rfl, HX.out.1, HX.out.2⟩
  · have e : pNum k s = (0, s) := by unfold pNum; rw [if_pos he]
    rw [e]
    have k0 : (s.e == 0) = false := by rw [beq_eq_false_iff_ne]; exact he
    have k1 : (s.e != 0) = true := by rw [bne, k0]; rfl
    have HP := hide (show RbAt w g a len cap bs s r va vb from ⟨⟨p, HR.out, hp, hs⟩, HBY.out, HRM.out, HAP.out⟩)
    clear HR he hs e
    generalize s.e = es at *
    go_enter Try.func99, Try.ntmps99
    go_wp2
    go_ret
    exact ⟨rfl, HP.out, grown_refl _ _⟩

set_option maxRecDepth 4000 in
set_option maxHeartbeats 1600000 in
theorem btext_any (g : Nat) (a : Option Addr) (len cap : Nat) (bs : List UInt8) (s : St) (r : Rec) (va vb : Value) (w : World) (h : RbAt w g a len cap bs s r va vb) :
    Calls Try.prog 107 #[.pointer (some ⟨g, 0, none⟩)] w fun e w' => e = .returned (.string (pText s).1) ∧ RbAt w' g a len cap bs (pText s).2 r va vb ∧ w.grownBy w' (some g) := by
  obtain ⟨p, hr, hp, hs⟩ := h.row
  have HBY := hide h.bytes
  have HRM := hide h.room
  have HAP := hide h.apart
  have c2 := hr.cell 2 (.int .i64 s.e) rfl
  have HR := hide hr
  have hbl := h.bytes.1
  clear hr h
  by_cases he : s.e = 0
  · obtain ⟨hl⟩ := And.intro (hs he) trivial
    obtain ⟨k2, t1, t2, t3, t4, t5⟩ := text_take ⟨bs.toArray⟩ s p he (by rw [size_mk]; exact hp) hl
    have HT := hide (fun w hB => ttext_any a len cap bs (p : Int) w hB (by have := HRM.out.1; omega) HRM.out.2 (by have := HRM.out.1; omega))
    rw [show (⟨bs.toArray⟩ : ByteArray).data.toList = bs from rfl] at t1 t3 t4 t5
    rw [size_mk] at t2
    rw [t1, t3, t4] at HT
    have H3 := hide (fun h => And.intro t2 (t5 h))
    have HZ := hide (text_zero (s := s))
    clear t1 t2 t3 t4 t5
    rw [he] at c2 HR
    clear hs hl he
    generalize pText s = ns at *
    obtain ⟨n, s'⟩ := ns
    simp only at HT H3 HZ
    go_enter Try.func107, Try.ntmps107
    go_wp2_with fail
    refine wp_region_in (fun x => w.grownBy x none ∧ RowAt x g 130 (rdB (.slice a len cap) p 0 r va vb) ∧ IsB x a len bs) (by kernel_rfl) (by kernel_rfl) ⟨grown_drew (grown_refl w none), HR.out, HBY.out⟩ ?_
    clear HR c2
    repeat (first
      | go_big_quiet_skip
      | (refine wpQuiet_load rfl 60 (.tmp 14) rfl _ (.slice a len cap) rfl (fun y hy => load_b8 y _ a len cap rfl (hy.2.1.cell 0 _ rfl)) ?_; simp only [Act.put, Array.setIfInBounds, List.size_toArray, List.length_cons, List.length_nil, Nat.reduceAdd, Nat.reduceLT, ↓reduceDIte, List.set_toArray, List.set_cons_succ, List.set_cons_zero])
      | (refine wpQuiet_load rfl 3 (.tmp 18) rfl _ (.int .i64 (p : Int)) rfl (fun y hy => load_i64 y (p : Int) (hy.2.1.cell 1 (.int .i64 (p : Int)) rfl)) ?_; simp only [Act.put, Array.setIfInBounds, List.size_toArray, List.length_cons, List.length_nil, Nat.reduceAdd, Nat.reduceLT, ↓reduceDIte, List.set_toArray, List.set_cons_succ, List.set_cons_zero])
      | (refine wpQuiet_call rfl 109 #[.slice a len cap, .int .i64 (p : Int)] (.tuple #[.string n, .int .i64 (k2 : Int), .int .i64 s'.e]) ?_ (fun x hC => (HT.out x hC.2.2).mono fun e x' h => ⟨h.1, h.2 ▸ hC⟩) ?_; (intro x; go_simp); simp only [Act.put, Array.setIfInBounds, List.size_toArray, List.length_cons, List.length_nil, Nat.reduceAdd, Nat.reduceLT, ↓reduceDIte, List.set_toArray, List.set_cons_succ, List.set_cons_zero])
      | (refine wpQuiet_plain rfl (fun K hK => ?_); go_simp; refine hK _ ?_; clear hK K))
    refine wpQuiet_nil ?_
    intro x hx
    have q1 := hx.2.1.cell 1 (.int .i64 (p : Int)) rfl
    have q2 := hx.2.1.cell 2 (.int .i64 0) rfl
    have f1 := hx.2.1.free 1
    have f2 := hx.2.1.free 2
    have HG := hide (grown_any (o := some g) hx.1)
    by_cases h0 : s'.e = 0
    · have HX : Hid (RbAt (x.setCell ⟨g, 1, none⟩ (.int .i64 (k2 : Int))) g a len cap bs s' r va vb ∧ w.grownBy (x.setCell ⟨g, 1, none⟩ (.int .i64 (k2 : Int))) (some g)) := by
        have hg := grown_set (j := 1) (.int .i64 ((k2 : Int))) HG.out
        refine ⟨⟨⟨k2, ?_, (H3.out h0).1, fun _ => (H3.out h0).2⟩, isB_grown HBY.out hg (apart_ne HAP.out), HRM.out, HAP.out⟩, hg⟩
        rw [h0]
        have h := hx.2.1.set 1 (.int .i64 ((k2 : Nat) : Int))
        skip
        skip
        skip
        exact h
      rw [h0]
      clear hx HT H3 HZ HG HBY HRM HAP h0
      go_wp2
      go_ret
      exact ⟨rfl, HX.out.1, HX.out.2⟩
    · have HX : Hid (RbAt (x.setCell ⟨g, 2, none⟩ (.int .i64 s'.e)) g a len cap bs s' r va vb ∧ w.grownBy (x.setCell ⟨g, 2, none⟩ (.int .i64 s'.e)) (some g)) := by
        have hg := grown_set (j := 2) (.int .i64 s'.e) HG.out
        exact ⟨⟨⟨p, hx.2.1.set 2 (.int .i64 s'.e), hp, fun h => absurd h h0⟩, isB_grown HBY.out hg (apart_ne HAP.out), HRM.out, HAP.out⟩, hg⟩
      have n0 := HZ.out h0
      have k0 : (s'.e == 0) = false := by rw [beq_eq_false_iff_ne]; exact h0
      have k1 : (s'.e != 0) = true := by rw [bne, k0]; rfl
      clear hx HT H3 HZ HG HBY HRM HAP h0
      have HN := hide n0
      clear n0
      generalize s'.e = es at *
      go_wp2
      go_ret
      exact ⟨by rw [HN.out]; rfl, HX.out.1, HX.out.2⟩
  · have e : pText s = (⟨#[]⟩, s) := by unfold pText; rw [if_pos he]
    rw [e]
    have k0 : (s.e == 0) = false := by rw [beq_eq_false_iff_ne]; exact he
    have k1 : (s.e != 0) = true := by rw [bne, k0]; rfl
    have HP := hide (show RbAt w g a len cap bs s r va vb from ⟨⟨p, HR.out, hp, hs⟩, HBY.out, HRM.out, HAP.out⟩)
    clear HR he hs e
    generalize s.e = es at *
    go_enter Try.func107, Try.ntmps107
    go_wp2
    go_ret
    exact ⟨rfl, HP.out, grown_refl _ _⟩

theorem num_lt (k : Nat) (s : St) : (pNum k s).1 < 256 ^ k := by
  have hp : 0 < 256 ^ k := Nat.pow_pos (by omega)
  unfold pNum
  by_cases he : s.e ≠ 0
  · rw [if_pos he]
    exact hp
  · rw [if_neg he]
    by_cases hk : k ≤ s.l.length
    · rw [if_pos hk]
      have h := be_lt (s.l.take k)
      rw [List.length_take, Nat.min_eq_left hk] at h
      exact h
    · rw [if_neg hk]
      exact hp
theorem in_val (lo hi : Nat) (s : St) : (pIn lo hi s).1 = (pNum 1 s).1 := by
  unfold pIn
  split <;> rfl

set_option maxRecDepth 4000 in
set_option maxHeartbeats 1600000 in
theorem bkind_any (g : Nat) (a : Option Addr) (len cap : Nat) (bs : List UInt8) (s : St) (r : Rec) (va vb : Value) (w : World) (h : RbAt w g a len cap bs s r va vb) :
    Calls Try.prog 98 #[.pointer (some ⟨g, 0, none⟩)] w fun e w' => e = .returned (.int .i64 ((pIn 1 8 s).1 : Int)) ∧ RbAt w' g a len cap bs (pIn 1 8 s).2 r va vb ∧ w.grownBy w' (some g) := by
  have HN := hide (bnum_any g a len cap bs s r va vb 1 w (by omega) h)
  have hn := num_lt 1 s
  have HI : Hid ((pIn 1 8 s).2 = (if (pNum 1 s).2.e = 0 ∧ ((pNum 1 s).1 < 1 ∨ 8 < (pNum 1 s).1) then ⟨(pNum 1 s).2.l, 2⟩ else (pNum 1 s).2)) := by
    show (pIn 1 8 s).2 = _
    unfold pIn
    split <;> rfl
  rw [in_val]
  generalize pNum 1 s = ns at *
  obtain ⟨n, s'⟩ := ns
  simp only at HN HI hn ⊢
  have ew : IntKind.i64.wrap (n : Int) = (n : Int) := by rw [IntKind.wrap_i64]; omega
  clear h
  go_enter Try.func98, Try.ntmps98
  go_wp2_with fail
  refine HN.out.mono ?_
  rintro e w1 ⟨rfl, hrb, hg⟩
  have HRB := hide hrb
  have HG := hide hg
  clear HN hrb hg
  obtain ⟨p, hr, hp, hs⟩ := HRB.out.row
  have c2 := hr.cell 2 (.int .i64 s'.e) rfl
  have f2 := hr.free 2
  have HRO := hide hr
  have HHP := hide hp
  clear hr hp hs
  by_cases h0 : s'.e = 0
  · rw [h0] at c2
    by_cases hb : n < 1 ∨ 8 < n
    · have HX : Hid (RbAt (w1.setCell ⟨g, 2, none⟩ (.int .i64 2)) g a len cap bs (pIn 1 8 s).2 r va vb ∧ w.grownBy (w1.setCell ⟨g, 2, none⟩ (.int .i64 2)) (some g)) := by
        rw [HI.out, if_pos ⟨h0, hb⟩]
        have hg := grown_set (j := 2) (.int .i64 2) HG.out
        have hg1 := grown_set (j := 2) (.int .i64 2) (grown_refl w1 (some g))
        exact ⟨⟨⟨p, HRO.out.set 2 (.int .i64 2), HHP.out, fun h => absurd h (by simp)⟩, isB_grown HRB.out.bytes hg1 (apart_ne HRB.out.apart), HRB.out.room, HRB.out.apart⟩, hg⟩
      clear HRB HG HI HRO HHP h0
      by_cases h1 : (n : Int) < 1
      · clear hb
        go_wp2
        go_ret
        exact ⟨rfl, HX.out.1, HX.out.2⟩
      · have h8 : (8 : Int) < (n : Int) := by omega
        clear hb
        go_wp2
        go_ret
        exact ⟨rfl, HX.out.1, HX.out.2⟩
    · have HX : Hid (RbAt w1 g a len cap bs (pIn 1 8 s).2 r va vb ∧ w.grownBy w1 (some g)) := by
        rw [HI.out, if_neg (fun h => hb h.2)]
        exact ⟨HRB.out, HG.out⟩
      have h1 : ¬ (n : Int) < 1 := by omega
      have h8 : ¬ (8 : Int) < (n : Int) := by omega
      clear HRB HG HI HRO HHP h0 hb
      go_wp2
      go_ret
      exact ⟨rfl, HX.out.1, HX.out.2⟩
  · have HX : Hid (RbAt w1 g a len cap bs (pIn 1 8 s).2 r va vb ∧ w.grownBy w1 (some g)) := by
      rw [HI.out, if_neg (fun h => h0 h.1)]
      exact ⟨HRB.out, HG.out⟩
    have k0 : (s'.e == 0) = false := by rw [beq_eq_false_iff_ne]; exact h0
    clear HRB HG HI HRO HHP h0
    generalize s'.e = es at *
    go_wp2
    go_ret
    exact ⟨rfl, HX.out.1, HX.out.2⟩

/-- How many rows are read. -/
def cntN (m : Nat) (s : St) : Nat := if (pIn 0 m s).2.e = 0 then (pIn 0 m s).1 else 0
set_option maxRecDepth 4000 in
set_option maxHeartbeats 1600000 in
theorem bcount_any (g : Nat) (a : Option Addr) (len cap : Nat) (bs : List UInt8) (s : St) (r : Rec) (va vb : Value) (m : Nat) (w : World) (hm : m ≤ 255) (h : RbAt w g a len cap bs s r va vb) :
    Calls Try.prog 108 #[.pointer (some ⟨g, 0, none⟩), .int .i64 (m : Int)] w fun e w' => e = .returned (.int .i64 (cntN m s : Int)) ∧ RbAt w' g a len cap bs (pIn 0 m s).2 r va vb ∧ w.grownBy w' (some g) := by
  have HN := hide (bnum_any g a len cap bs s r va vb 1 w (by omega) h)
  have hn := num_lt 1 s
  have HI : Hid (pIn 0 m s = (if (pNum 1 s).2.e = 0 ∧ ((pNum 1 s).1 < 0 ∨ m < (pNum 1 s).1) then ((pNum 1 s).1, ⟨(pNum 1 s).2.l, 2⟩) else pNum 1 s)) := rfl
  have HZ := hide (num_zero (k := 1) (s := s))
  unfold cntN
  generalize pNum 1 s = ns at *
  obtain ⟨n, s'⟩ := ns
  simp only at HN HI HZ hn ⊢
  have ew : IntKind.i64.wrap (n : Int) = (n : Int) := by rw [IntKind.wrap_i64]; omega
  clear h
  by_cases hb : m < n
  · have h0 : s'.e = 0 := by
      by_cases h : s'.e = 0
      · exact h
      · have := HZ.out h
        omega
    have hi : pIn 0 m s = (n, ⟨s'.l, 2⟩) := by rw [HI.out, if_pos ⟨h0, .inr hb⟩]
    rw [hi]
    have i1 : (m : Int) < (n : Int) := by omega
    clear HI hi HZ h0 hb
    go_enter Try.func108, Try.ntmps108
    go_wp2_with fail
    refine HN.out.mono ?_
    rintro e w1 ⟨rfl, hrb, hg⟩
    obtain ⟨p, hr, hp, hs⟩ := hrb.row
    have c2 := hr.cell 2 (.int .i64 s'.e) rfl
    have f2 := hr.free 2
    have HX : Hid (RbAt (w1.setCell ⟨g, 2, none⟩ (.int .i64 2)) g a len cap bs ⟨s'.l, 2⟩ r va vb ∧ w.grownBy (w1.setCell ⟨g, 2, none⟩ (.int .i64 2)) (some g)) := by
      have hg' := grown_set (j := 2) (.int .i64 2) hg
      have hg1 := grown_set (j := 2) (.int .i64 2) (grown_refl w1 (some g))
      exact ⟨⟨⟨p, hr.set 2 (.int .i64 2), hp, fun h => absurd h (by simp)⟩, isB_grown hrb.bytes hg1 (apart_ne hrb.apart), hrb.room, hrb.apart⟩, hg'⟩
    clear hrb hg hr hp hs HN
    generalize s'.e = es at *
    go_wp2
    go_ret
    exact ⟨rfl, HX.out.1, HX.out.2⟩
  · have hi : pIn 0 m s = (n, s') := by rw [HI.out, if_neg (fun h => by omega)]
    rw [hi]
    have hc : (if s'.e = 0 then n else 0) = n := by
      by_cases h : s'.e = 0
      · rw [if_pos h]
      · rw [if_neg h, HZ.out h]
    simp only
    rw [hc]
    have i1 : ¬ (m : Int) < (n : Int) := by omega
    clear HI hi HZ hb hc
    go_enter Try.func108, Try.ntmps108
    go_wp2_with fail
    refine HN.out.mono ?_
    rintro e w1 ⟨rfl, hrb, hg⟩
    have HX : Hid (RbAt w1 g a len cap bs s' r va vb ∧ w.grownBy w1 (some g)) := ⟨hrb, hg⟩
    clear hrb hg HN
    go_wp2
    go_ret
    exact ⟨rfl, HX.out.1, HX.out.2⟩
end Go.Proofs.Ytfbelaalmdcaaaa

/-
  The reader of package record: structs beside it, and change.
-/
namespace Go.Proofs.Ytfbelaalmdcaaaa
open Go.RowKit
set_option linter.unusedVariables false

/-- The reader, and structs beside it: what was there when it began is as it was, but for the reader's block. -/
structure RK (w x : World) (g : Nat) (a : Option Addr) (len cap : Nat) (bs : List UInt8) (s : St) (r : Rec) (va vb : Value) (l : List (Nat × TypeId × Array Value)) : Prop where
  rb : RbAt x g a len cap bs s r va vb
  gr : w.grownBy x (some g)
  has : Has x l
def Off (g : Nat) (l : List (Nat × TypeId × Array Value)) : Prop := ∀ e ∈ l, e.1 ≠ g
theorem has_grown {g : Nat} {x y : World} (h : x.grownBy y (some g)) : ∀ {l : List (Nat × TypeId × Array Value)}, Off g l → Has x l → Has y l
  | [], _, _ => trivial
  | e :: l, ha, hh => ⟨row_grown hh.1 h (ha e (by simp)), has_grown h (fun e he => ha e (by simp [he])) hh.2⟩
theorem RK.step {w x y : World} {g : Nat} {a : Option Addr} {len cap : Nat} {bs : List UInt8} {s s' : St} {r r' : Rec} {va vb va' vb' : Value} {l : List (Nat × TypeId × Array Value)} (h : RK w x g a len cap bs s r va vb l) (hb : RbAt y g a len cap bs s' r' va' vb') (hg : x.grownBy y (some g)) (ho : Off g l) : RK w y g a len cap bs s' r' va' vb' l :=
  ⟨hb, grown_trans h.gr hg, has_grown hg ho h.has⟩
theorem RbAt.other {w : World} {g : Nat} {a : Option Addr} {len cap : Nat} {bs : List UInt8} {s : St} {r : Rec} {va vb : Value} (h : RbAt w g a len cap bs s r va vb) {b : Nat} (hb : g < b) (j : Nat) (v : Value) : RbAt (w.setCell ⟨b, j, none⟩ v) g a len cap bs s r va vb := by
  obtain ⟨k, h1, h2, h3⟩ := h.row
  exact ⟨⟨k, h1.other _ _ (Nat.ne_of_lt hb), h2, h3⟩, isB_grown h.bytes (grown_set v (grown_refl w (some b))) (fun hp x hx => Nat.ne_of_lt (Nat.lt_trans (h.apart hp x hx) hb)), h.room, h.apart⟩
theorem RbAt.later {w x : World} {g : Nat} {a : Option Addr} {len cap : Nat} {bs : List UInt8} {s : St} {r : Rec} {va vb : Value} (h : RbAt w g a len cap bs s r va vb) (hb : Below w.heap.size w x) : RbAt x g a len cap bs s r va vb := by
  obtain ⟨k, h1, h2, h3⟩ := h.row
  exact ⟨⟨k, h1.later hb, h2, h3⟩, h.bytes.below hb, h.room, h.apart⟩
theorem RbAt.lt {w : World} {g : Nat} {a : Option Addr} {len cap : Nat} {bs : List UInt8} {s : St} {r : Rec} {va vb : Value} (h : RbAt w g a len cap bs s r va vb) : g < w.heap.size := by
  obtain ⟨k, h1, _⟩ := h.row
  exact h1.lt
theorem RK.later {w x y : World} {g : Nat} {a : Option Addr} {len cap : Nat} {bs : List UInt8} {s : St} {r : Rec} {va vb : Value} {l : List (Nat × TypeId × Array Value)} (h : RK w x g a len cap bs s r va vb l) (hb : Below x.heap.size x y) : RK w y g a len cap bs s r va vb l :=
  ⟨h.rb.later hb, grown_trans h.gr (of_below hb), h.has.later hb⟩
/-- A cell of the newest struct beside the reader is written. -/
theorem RK.put {w x : World} {g : Nat} {a : Option Addr} {len cap : Nat} {bs : List UInt8} {s : St} {r : Rec} {va vb : Value} {b : Nat} {t : TypeId} {cs : Array Value} {l : List (Nat × TypeId × Array Value)} (h : RK w x g a len cap bs s r va vb ((b, t, cs) :: l)) (hb : g < b) (hw : w.heap.size ≤ b) (hl : ∀ e ∈ l, e.1 ≠ b) (j : Nat) (v : Value) :
    RK w (x.setCell ⟨b, j, none⟩ v) g a len cap bs s r va vb ((b, t, cs.setIfInBounds j v) :: l) := by
  refine ⟨h.rb.other hb j v, ?_, h.has.1.set j v, ?_⟩
  · have hs := grown_set (g := b) (j := j) v (grown_refl x (some b))
    refine ⟨hs.os.trans h.gr.os, hs.tape.trans h.gr.tape, hs.output.trans h.gr.output, Nat.le_trans h.gr.size hs.size, fun k hk hne => ?_⟩
    rw [hs.block k (Nat.lt_of_lt_of_le hk h.gr.size) (fun e => by cases e; omega)]
    exact h.gr.block k hk hne
  · have : ∀ l : List (Nat × TypeId × Array Value), (∀ e ∈ l, e.1 ≠ b) → Has x l → Has (x.setCell ⟨b, j, none⟩ v) l := by
      intro l
      induction l with
      | nil => exact fun _ _ => trivial
      | cons e l ih => exact fun hl hh => ⟨hh.1.other _ _ (hl e (by simp)), ih (fun e he => hl e (by simp [he])) hh.2⟩
    exact this l hl h.has.2
theorem conv_i64 (n : Nat) (h : n < 9223372036854775808) : IntKind.i64.wrap (n : Int) = (n : Int) := by
  rw [IntKind.wrap_i64]
  omega

set_option maxRecDepth 4000 in
set_option maxHeartbeats 1600000 in
theorem bchange_any (g : Nat) (a : Option Addr) (len cap : Nat) (bs : List UInt8) (s : St) (r : Rec) (va vb : Value) (w : World) (h : RbAt w g a len cap bs s r va vb) :
    Calls Try.prog 100 #[.pointer (some ⟨g, 0, none⟩)] w fun e w' => e = .returned (.agg (chA (pCh s).1)) ∧ RbAt w' g a len cap bs (pCh s).2 r va vb ∧ w.grownBy w' (some g) := by
  obtain ⟨n1, s1, h1⟩ : ∃ n s', pNum 1 s = (n, s') := ⟨_, _, rfl⟩
  have b1 : n1 < 256 ^ 1 := by have := num_lt 1 s; rw [h1] at this; exact this
  have N1 := hide (fun x h => bnum_any g a len cap bs s r va vb 1 x (by omega) h)
  have ew1 := conv_i64 n1 (by omega)
  rw [h1] at N1
  obtain ⟨n2, s2, h2⟩ : ∃ n s', pNum 2 s1 = (n, s') := ⟨_, _, rfl⟩
  have b2 : n2 < 256 ^ 2 := by have := num_lt 2 s1; rw [h2] at this; exact this
  have N2 := hide (fun x h => bnum_any g a len cap bs s1 r va vb 2 x (by omega) h)
  have ew2 := conv_i64 n2 (by omega)
  rw [h2] at N2
  obtain ⟨n3, s3, h3⟩ : ∃ n s', pNum 1 s2 = (n, s') := ⟨_, _, rfl⟩
  have b3 : n3 < 256 ^ 1 := by have := num_lt 1 s2; rw [h3] at this; exact this
  have N3 := hide (fun x h => bnum_any g a len cap bs s2 r va vb 1 x (by omega) h)
  have ew3 := conv_i64 n3 (by omega)
  rw [h3] at N3
  obtain ⟨n4, s4, h4⟩ : ∃ n s', pText s3 = (n, s') := ⟨_, _, rfl⟩
  have N4 := hide (fun x h => btext_any g a len cap bs s3 r va vb x h)
  rw [h4] at N4
  obtain ⟨n5, s5, h5⟩ : ∃ n s', pText s4 = (n, s') := ⟨_, _, rfl⟩
  have N5 := hide (fun x h => btext_any g a len cap bs s4 r va vb x h)
  rw [h5] at N5
  have hP : pCh s = (⟨n1, n2, n3, n4, n5⟩, s5) := by
    simp only [pCh, bindP, pureP, h1, h2, h3, h4, h5]
  rw [hP]
  clear hP h1 h2 h3 h4 h5 b1 b2 b3
  have K2 := Keeps.two w 39 39 #[.int .i64 0, .int .i64 0, .int .i64 0, .string ⟨#[]⟩, .string ⟨#[]⟩] #[.int .i64 0, .int .i64 0, .int .i64 0, .string ⟨#[]⟩, .string ⟨#[]⟩]
  have HKI : Hid (RK w ((w.alloc (.cells #[.int .i64 0, .int .i64 0, .int .i64 0, .string ⟨#[]⟩, .string ⟨#[]⟩] 39)).alloc (.cells #[.int .i64 0, .int .i64 0, .int .i64 0, .string ⟨#[]⟩, .string ⟨#[]⟩] 39)) g a len cap bs s r va vb [(w.heap.size + 1, 39, #[.int .i64 0, .int .i64 0, .int .i64 0, .string ⟨#[]⟩, .string ⟨#[]⟩]), (w.heap.size, 39, #[.int .i64 0, .int .i64 0, .int .i64 0, .string ⟨#[]⟩, .string ⟨#[]⟩])]) := ⟨h.later K2.2, of_below K2.2, K2.1⟩
  have hlt := h.lt
  have HGI : Hid (g < w.heap.size + 1 ∧ w.heap.size ≤ w.heap.size + 1 ∧ w.heap.size ≠ w.heap.size + 1 ∧ g < w.heap.size) := ⟨by omega, by omega, by omega, hlt⟩
  clear K2 h hlt
  obtain ⟨g1, hg1⟩ : ∃ g1, g1 = w.heap.size := ⟨_, rfl⟩
  obtain ⟨g2, hg2⟩ : ∃ g2, g2 = w.heap.size + 1 := ⟨_, rfl⟩
  go_enter Try.func100, Try.ntmps100
  go_wp2_with fail
  rw [← hg2, ← hg1] at HKI
  rw [← hg2, ← hg1]
  rw [← hg2] at HGI
  have HGG : Hid (g < g2 ∧ w.heap.size ≤ g2) := ⟨HGI.out.1, HGI.out.2.1⟩
  have HG1 : Hid (g1 ≠ g2 ∧ g < g1 ∧ w.heap.size ≤ g1) := ⟨by rw [hg1]; exact HGI.out.2.2.1, by rw [hg1]; exact HGI.out.2.2.2, by rw [hg1]; exact Nat.le_refl _⟩
  have HRS : Hid (∀ e ∈ ([(g1, 39, #[.int .i64 0, .int .i64 0, .int .i64 0, .string ⟨#[]⟩, .string ⟨#[]⟩])] : List (Nat × TypeId × Array Value)), e.1 ≠ g2) := fun e he => by
    simp only [List.mem_cons, List.not_mem_nil, or_false] at he
    subst he
    exact HG1.out.1
  have HO0 : Hid (∀ cs : Array Value, Off g [(g2, 39, cs), (g1, 39, #[.int .i64 0, .int .i64 0, .int .i64 0, .string ⟨#[]⟩, .string ⟨#[]⟩])]) := fun cs e he => by
    simp only [List.mem_cons, List.not_mem_nil, or_false] at he
    rcases he with rfl | rfl
    · exact Nat.ne_of_gt HGG.out.1
    · exact Nat.ne_of_gt HG1.out.2.1
  refine gen_calls (fun x => Hid (RK w x g a len cap bs s r va vb [(g2, 39, #[.int .i64 0, .int .i64 0, .int .i64 0, .string ⟨#[]⟩, .string ⟨#[]⟩]), (g1, 39, #[.int .i64 0, .int .i64 0, .int .i64 0, .string ⟨#[]⟩, .string ⟨#[]⟩])])) HKI ?_
  clear HKI HGI hg1 hg2
  intro y0 HK0
  refine (N1.out _ HK0.out.rb).mono ?_
  rintro e x1 ⟨rfl, hb, hg⟩
  have HL1 := hide (HK0.out.step hb hg (HO0.out _))
  clear hb hg HK0 N1
  have d := HL1.out.has.1.cell 0 (.int .i64 0) rfl
  have f := HL1.out.has.1.free 0
  have HK1 : Hid (RK w (x1.setCell ⟨g2, 0, none⟩ (.int .i64 (n1 : Int))) g a len cap bs s1 r va vb [(g2, 39, #[.int .i64 (n1 : Int), .int .i64 0, .int .i64 0, .string ⟨#[]⟩, .string ⟨#[]⟩]), (g1, 39, #[.int .i64 0, .int .i64 0, .int .i64 0, .string ⟨#[]⟩, .string ⟨#[]⟩])]) := HL1.out.put HGG.out.1 HGG.out.2 HRS.out 0 (.int .i64 (n1 : Int))
  clear HL1
  go_wp2_with fail
  refine gen_calls (fun x => Hid (RK w x g a len cap bs s1 r va vb [(g2, 39, #[.int .i64 (n1 : Int), .int .i64 0, .int .i64 0, .string ⟨#[]⟩, .string ⟨#[]⟩]), (g1, 39, #[.int .i64 0, .int .i64 0, .int .i64 0, .string ⟨#[]⟩, .string ⟨#[]⟩])])) HK1 ?_
  clear HK1 d f
  intro y1 HK1
  refine (N2.out _ HK1.out.rb).mono ?_
  rintro e x2 ⟨rfl, hb, hg⟩
  have HL2 := hide (HK1.out.step hb hg (HO0.out _))
  clear hb hg HK1 N2
  have d := HL2.out.has.1.cell 1 (.int .i64 0) rfl
  have f := HL2.out.has.1.free 1
  have HK2 : Hid (RK w (x2.setCell ⟨g2, 1, none⟩ (.int .i64 (n2 : Int))) g a len cap bs s2 r va vb [(g2, 39, #[.int .i64 (n1 : Int), .int .i64 (n2 : Int), .int .i64 0, .string ⟨#[]⟩, .string ⟨#[]⟩]), (g1, 39, #[.int .i64 0, .int .i64 0, .int .i64 0, .string ⟨#[]⟩, .string ⟨#[]⟩])]) := HL2.out.put HGG.out.1 HGG.out.2 HRS.out 1 (.int .i64 (n2 : Int))
  clear HL2
  go_wp2_with fail
  refine gen_calls (fun x => Hid (RK w x g a len cap bs s2 r va vb [(g2, 39, #[.int .i64 (n1 : Int), .int .i64 (n2 : Int), .int .i64 0, .string ⟨#[]⟩, .string ⟨#[]⟩]), (g1, 39, #[.int .i64 0, .int .i64 0, .int .i64 0, .string ⟨#[]⟩, .string ⟨#[]⟩])])) HK2 ?_
  clear HK2 d f
  intro y2 HK2
  refine (N3.out _ HK2.out.rb).mono ?_
  rintro e x3 ⟨rfl, hb, hg⟩
  have HL3 := hide (HK2.out.step hb hg (HO0.out _))
  clear hb hg HK2 N3
  have d := HL3.out.has.1.cell 2 (.int .i64 0) rfl
  have f := HL3.out.has.1.free 2
  have HK3 : Hid (RK w (x3.setCell ⟨g2, 2, none⟩ (.int .i64 (n3 : Int))) g a len cap bs s3 r va vb [(g2, 39, #[.int .i64 (n1 : Int), .int .i64 (n2 : Int), .int .i64 (n3 : Int), .string ⟨#[]⟩, .string ⟨#[]⟩]), (g1, 39, #[.int .i64 0, .int .i64 0, .int .i64 0, .string ⟨#[]⟩, .string ⟨#[]⟩])]) := HL3.out.put HGG.out.1 HGG.out.2 HRS.out 2 (.int .i64 (n3 : Int))
  clear HL3
  go_wp2_with fail
  refine gen_calls (fun x => Hid (RK w x g a len cap bs s3 r va vb [(g2, 39, #[.int .i64 (n1 : Int), .int .i64 (n2 : Int), .int .i64 (n3 : Int), .string ⟨#[]⟩, .string ⟨#[]⟩]), (g1, 39, #[.int .i64 0, .int .i64 0, .int .i64 0, .string ⟨#[]⟩, .string ⟨#[]⟩])])) HK3 ?_
  clear HK3 d f
  intro y3 HK3
  refine (N4.out _ HK3.out.rb).mono ?_
  rintro e x4 ⟨rfl, hb, hg⟩
  have HL4 := hide (HK3.out.step hb hg (HO0.out _))
  clear hb hg HK3 N4
  have d := HL4.out.has.1.cell 3 (.string ⟨#[]⟩) rfl
  have f := HL4.out.has.1.free 3
  have HK4 : Hid (RK w (x4.setCell ⟨g2, 3, none⟩ (.string n4)) g a len cap bs s4 r va vb [(g2, 39, #[.int .i64 (n1 : Int), .int .i64 (n2 : Int), .int .i64 (n3 : Int), .string n4, .string ⟨#[]⟩]), (g1, 39, #[.int .i64 0, .int .i64 0, .int .i64 0, .string ⟨#[]⟩, .string ⟨#[]⟩])]) := HL4.out.put HGG.out.1 HGG.out.2 HRS.out 3 (.string n4)
  clear HL4
  go_wp2_with fail
  refine gen_calls (fun x => Hid (RK w x g a len cap bs s4 r va vb [(g2, 39, #[.int .i64 (n1 : Int), .int .i64 (n2 : Int), .int .i64 (n3 : Int), .string n4, .string ⟨#[]⟩]), (g1, 39, #[.int .i64 0, .int .i64 0, .int .i64 0, .string ⟨#[]⟩, .string ⟨#[]⟩])])) HK4 ?_
  clear HK4 d f
  intro y4 HK4
  refine (N5.out _ HK4.out.rb).mono ?_
  rintro e x5 ⟨rfl, hb, hg⟩
  have HL5 := hide (HK4.out.step hb hg (HO0.out _))
  clear hb hg HK4 N5
  have d := HL5.out.has.1.cell 4 (.string ⟨#[]⟩) rfl
  have f := HL5.out.has.1.free 4
  have HK5 : Hid (RK w (x5.setCell ⟨g2, 4, none⟩ (.string n5)) g a len cap bs s5 r va vb [(g2, 39, #[.int .i64 (n1 : Int), .int .i64 (n2 : Int), .int .i64 (n3 : Int), .string n4, .string n5]), (g1, 39, #[.int .i64 0, .int .i64 0, .int .i64 0, .string ⟨#[]⟩, .string ⟨#[]⟩])]) := HL5.out.put HGG.out.1 HGG.out.2 HRS.out 4 (.string n5)
  clear HL5
  go_wp2_with (first | (refine wpList_load_at rfl 39 (.tmp 3) rfl g2 rfl #[.int .i64 (n1 : Int), .int .i64 (n2 : Int), .int .i64 (n3 : Int), .string n4, .string n5] HK5.out.has.1 _ Try.underlying39 rfl infoCh ?_) | (refine wpList_store_at rfl 39 (.tmp 2) (.tmp 23) rfl g1 #[.int .i64 0, .int .i64 0, .int .i64 0, .string ⟨#[]⟩, .string ⟨#[]⟩] #[.int .i64 (n1 : Int), .int .i64 (n2 : Int), .int .i64 (n3 : Int), .string n4, .string n5] rfl rfl HK5.out.has.2.1 infoCh rfl (by simp [Value.oneCell']) ?_))
  intro w9 hr9 hk9 ho9
  have HROW := hide hr9
  have HX : Hid (RbAt w9 g a len cap bs s5 r va vb ∧ w.grownBy w9 (some g)) := by
    have hb := hk9 _ _ (Below.refl g1 _) (Nat.le_refl _)
    obtain ⟨k, q1, q2, q3⟩ := HK5.out.rb.row
    refine ⟨⟨⟨k, ho9 _ _ _ (Nat.ne_of_lt HG1.out.2.1) q1, q2, q3⟩, ?_, HK5.out.rb.room, HK5.out.rb.apart⟩, ?_⟩
    · refine ⟨HK5.out.rb.bytes.1, fun hp => ?_⟩
      obtain ⟨b, off, ha, hlt, hc⟩ := HK5.out.rb.bytes.2 hp
      have hbg : b < g1 := Nat.lt_trans (HK5.out.rb.apart hp _ ha) HG1.out.2.1
      exact ⟨b, off, ha, Nat.lt_of_lt_of_le hlt hb.size, fun j hj => (hb.cell (p := ⟨b, off + j, none⟩) hbg).trans (hc j hj)⟩
    · have hg := HK5.out.gr
      refine ⟨hb.os.trans hg.os, hb.tape.trans hg.tape, hb.output.trans hg.output, Nat.le_trans hg.size hb.size, fun k hk hne => ?_⟩
      rw [hb.block k (Nat.lt_of_lt_of_le hk HG1.out.2.2)]
      exact hg.block k hk hne
  clear hr9 hk9 ho9 HK5 d f
  go_wp2
  (try simp only [Exit.inBlock, Exit.then])
  refine bodyPost_ret (res_one rfl _ _ g1 #[.int .i64 (n1 : Int), .int .i64 (n2 : Int), .int .i64 (n3 : Int), .string n4, .string n5] _ rfl HROW.out Try.underlying39 rfl infoCh) rfl ?_
  exact ⟨rfl, HX.out.1, HX.out.2⟩
end Go.Proofs.Ytfbelaalmdcaaaa

/-
  The reader of package record: rows that are read.
-/
namespace Go.Proofs.Ytfbelaalmdcaaaa
open Go.RowKit
set_option linter.unusedVariables false

/-! ### Read again and again -/
def itS {α : Type} (p : St → α × St) : Nat → St → St
  | 0, s => s
  | n + 1, s => itS p n (p s).2
def itL {α : Type} (p : St → α × St) : Nat → St → List α
  | 0, _ => []
  | n + 1, s => (p s).1 :: itL p n (p s).2
theorem itS_more {α : Type} (p : St → α × St) : ∀ n s, itS p (n + 1) s = (p (itS p n s)).2
  | 0, _ => rfl
  | n + 1, s => itS_more p n (p s).2
theorem itL_more {α : Type} (p : St → α × St) : ∀ n s, itL p (n + 1) s = itL p n s ++ [(p (itS p n s)).1]
  | 0, _ => rfl
  | n + 1, s => by
    show (p s).1 :: itL p (n + 1) (p s).2 = _
    rw [itL_more p n (p s).2]
    rfl
theorem itL_length {α : Type} (p : St → α × St) : ∀ n s, (itL p n s).length = n
  | 0, _ => rfl
  | n + 1, s => by
    show (itL p n (p s).2).length + 1 = n + 1
    rw [itL_length p n]
theorem itS_stick {α : Type} {p : St → α × St} (hp : Good p) : ∀ n s, s.e ≠ 0 → itS p n s = s
  | 0, _, _ => rfl
  | n + 1, s, h => by
    show itS p n (p s).2 = s
    rw [hp.stick s h]
    exact itS_stick hp n s h
theorem some_it {α : Type} {p : St → α × St} (hp : Good p) : ∀ n s, (pSome p n s).2 = itS p n s ∧ ((pSome p n s).2.e = 0 → (pSome p n s).1 = itL p n s)
  | 0, _ => ⟨rfl, fun _ => rfl⟩
  | n + 1, s => by
    by_cases h : s.e ≠ 0
    · have e : pSome p (n + 1) s = ([], s) := by rw [pSome, if_pos h]
      rw [e, itS_stick hp (n + 1) s h]
      exact ⟨rfl, fun h2 => absurd h2 h⟩
    · have e : pSome p (n + 1) s = ((p s).1 :: (pSome p n (p s).2).1, (pSome p n (p s).2).2) := by rw [pSome, if_neg h]
      have ih := some_it hp n (p s).2
      rw [e]
      refine ⟨ih.1, fun h2 => ?_⟩
      show (p s).1 :: (pSome p n (p s).2).1 = (p s).1 :: itL p n (p s).2
      rw [ih.2 h2]

/-! ### A row of structs beside the reader -/
structure TK (w x : World) (g : Nat) (a : Option Addr) (len cap : Nat) (bs : List UInt8) (s : St) (r : Rec) (va vb : Value) (T : TypeId) (sz : Nat) (v : Value) (n : Nat) (xs : List Value) (l : List (Nat × TypeId × Array Value)) : Prop where
  rk : RK w x g a len cap bs s r va vb l
  own : x.ownsRow w.heap.size T sz v n xs
  off : ∀ e ∈ l, v.ownBlock ≠ some e.1
  glt : g < w.heap.size
theorem TK.rb {w x : World} {g : Nat} {a : Option Addr} {len cap : Nat} {bs : List UInt8} {s : St} {r : Rec} {va vb : Value} {T : TypeId} {sz : Nat} {v : Value} {n : Nat} {xs : List Value} {l : List (Nat × TypeId × Array Value)} (h : TK w x g a len cap bs s r va vb T sz v n xs l) : RbAt x g a len cap bs s r va vb := h.rk.rb
theorem TK.has {w x : World} {g : Nat} {a : Option Addr} {len cap : Nat} {bs : List UInt8} {s : St} {r : Rec} {va vb : Value} {T : TypeId} {sz : Nat} {v : Value} {n : Nat} {xs : List Value} {l : List (Nat × TypeId × Array Value)} (h : TK w x g a len cap bs s r va vb T sz v n xs l) : Has x l := h.rk.has
theorem own_ne {w x : World} {T : TypeId} {sz : Nat} {v : Value} {n : Nat} {xs : List Value} (h : x.ownsRow w.heap.size T sz v n xs) {k : Nat} (hk : k < w.heap.size) : some k ≠ v.ownBlock := fun e => by
  have := (h.lt k e.symm).1
  omega
theorem TK.step {w x y : World} {g : Nat} {a : Option Addr} {len cap : Nat} {bs : List UInt8} {s s' : St} {r : Rec} {va vb : Value} {T : TypeId} {sz : Nat} {v : Value} {n : Nat} {xs : List Value} {l : List (Nat × TypeId × Array Value)} (h : TK w x g a len cap bs s r va vb T sz v n xs l) (hb : RbAt y g a len cap bs s' r va vb) (hg : x.grownBy y (some g)) (ho : Off g l) : TK w y g a len cap bs s' r va vb T sz v n xs l :=
  ⟨h.rk.step hb hg ho, h.own.kept hg (.inr (fun e => own_ne h.own h.glt e.symm)), h.off, h.glt⟩
theorem TK.put {w x : World} {g : Nat} {a : Option Addr} {len cap : Nat} {bs : List UInt8} {s : St} {r : Rec} {va vb : Value} {T : TypeId} {sz : Nat} {v : Value} {n : Nat} {xs : List Value} {b : Nat} {t : TypeId} {cs : Array Value} {l : List (Nat × TypeId × Array Value)} (h : TK w x g a len cap bs s r va vb T sz v n xs ((b, t, cs) :: l)) (hb : g < b) (hw : w.heap.size ≤ b) (hl : ∀ e ∈ l, e.1 ≠ b) (j : Nat) (u : Value) :
    TK w (x.setCell ⟨b, j, none⟩ u) g a len cap bs s r va vb T sz v n xs ((b, t, cs.setIfInBounds j u) :: l) :=
  ⟨h.rk.put hb hw hl j u, h.own.kept (grown_set u (grown_refl x (some b))) (.inr (h.off _ (List.mem_cons_self ..))), fun e he => by
    rcases List.mem_cons.1 he with rfl | he
    · exact h.off (b, t, cs) (List.mem_cons_self ..)
    · exact h.off e (List.mem_cons_of_mem _ he), h.glt⟩
/-- One more struct. -/
theorem TK.push {w x y z : World} {g : Nat} {a : Option Addr} {len cap : Nat} {bs : List UInt8} {s : St} {r : Rec} {va vb : Value} {T : TypeId} {sz : Nat} {v v' : Value} {n n' : Nat} {xs xs' : List Value} {l : List (Nat × TypeId × Array Value)} (h : TK w x g a len cap bs s r va vb T sz v n xs l) (hb : Below x.heap.size x y) (ho : z.ownsRow w.heap.size T sz v' n' xs') (hg : y.grownBy z v.ownBlock) : TK w z g a len cap bs s r va vb T sz v' n' xs' [] := by
  have h2 := h.rk.later hb
  obtain ⟨k, q1, q2, q3⟩ := h2.rb.row
  have hsz : ∀ k, k < w.heap.size → z.heap[k]? = y.heap[k]? := fun k hk => hg.block k (Nat.lt_of_lt_of_le hk h2.gr.size) (own_ne h.own hk)
  refine ⟨⟨⟨⟨k, (hsz g h.glt).trans q1, q2, q3⟩, ⟨h2.rb.bytes.1, fun hp => ?_⟩, h2.rb.room, h2.rb.apart⟩, ?_, trivial⟩, ho, fun e he => (nomatch he), h.glt⟩
  · obtain ⟨b, off, ha, hlt, hc⟩ := h2.rb.bytes.2 hp
    have hbg : b < w.heap.size := Nat.lt_trans (h2.rb.apart hp _ ha) h.glt
    exact ⟨b, off, ha, Nat.lt_of_lt_of_le hlt hg.size, fun j hj => (World.cell?_of_block (a := ⟨b, off + j, none⟩) (hsz b hbg)).trans (hc j hj)⟩
  · exact ⟨hg.os.trans h2.gr.os, hg.tape.trans h2.gr.tape, hg.output.trans h2.gr.output, Nat.le_trans h2.gr.size hg.size, fun k hk hne => (hsz k hk).trans (h2.gr.block k hk hne)⟩
/-- A new struct beside it. -/
theorem TK.more {w x y : World} {g : Nat} {a : Option Addr} {len cap : Nat} {bs : List UInt8} {s : St} {r : Rec} {va vb : Value} {T : TypeId} {sz : Nat} {v : Value} {n : Nat} {xs : List Value} (h : TK w x g a len cap bs s r va vb T sz v n xs []) (hb : Below x.heap.size x y) {t : TypeId} {cs : Array Value} (hr : RowAt y x.heap.size t cs) : TK w y g a len cap bs s r va vb T sz v n xs [(x.heap.size, t, cs)] := by
  refine ⟨⟨h.rk.rb.later hb, grown_trans h.rk.gr (of_below hb), hr, trivial⟩, h.own.kept (of_below (o := none) hb) (by cases hv : v.ownBlock <;> simp), fun e he => ?_, h.glt⟩
  simp only [List.mem_cons, List.not_mem_nil, or_false] at he
  subst he
  intro e
  have := (h.own.lt _ e).2
  exact absurd this (Nat.lt_irrefl _)

/-- append(s, x), s the call's own. -/
theorem wpList_append_row (w : World) {P : Program} {ops : Array Oper} {rest : List Oper} {o : Oper} {a : Act} {Q : Exit → Act → World → Prop} (hg : o.guard = none) (s x : Operand) (t e : TypeId) (hop : o.op = Op.call { callee := Callee.builtin Builtin.append, args := #[s, x], argTypes := #[t, t] })
    (z : Array Value) (sz by' : Nat) (ht : P.underlying t = some (.slice e)) (hi : (P.info? e).map (fun i => (i.zero, i.size, i.bytes)) = some (some (.agg z), sz, by')) (hzs : z.size = sz) (hsz : 0 < sz)
    (base : Nat) (v : Value) (n : Nat) (xs : List Value) (hs : a.eval s = v) (hown : w.ownsRow base e sz v n xs)
    (b : Nat) (c : Array Value) (hc : c.size = sz) (h1 : c.all (·.oneCell') = true) (hx : a.eval x = .slice (some ⟨b, 0, none⟩) 1 1) (hB : RowAt w b e c) (hn : n ≤ 1000) (hby : by' ≤ 1000) (hbase : base ≤ w.heap.size)
    (hK : ∀ v' w', w'.ownsRow base e sz v' (n + 1) (xs ++ c.toList) → w.grownBy w' v.ownBlock → wpList P ops Q rest (a.put o.dst v') w') :
    wpList P ops Q (o :: rest) a w := by
  obtain ⟨i, hi0, hi1⟩ := Option.map_eq_some_iff.1 hi
  simp only [Prod.mk.injEq] at hi1
  refine wpList_append_own w hg s x t hop base e i (.agg z) sz by' ht hi0 hi1.1 hi1.2.1 hi1.2.2 hzs hsz v n xs hs hown ⟨b, 0, none⟩ 1 1 c.toList hx (by rw [Array.length_toList, hc, Nat.one_mul]) ?_ ?_ (by unfold maxLen; omega) ?_ hbase (fun v' w' h1 h2 _ => hK v' w' h1 h2)
  · intro j u hu
    rw [Array.getElem?_toList] at hu
    rw [Addr.add_lit, Nat.zero_add]
    exact hB.cell j u hu
  · intro u hu
    rw [Array.all_eq_true'] at h1
    exact h1 u (by simpa using hu)
  · have : (n + 1) * by' ≤ 1001 * 1000 := Nat.mul_le_mul (by omega) hby
    omega
theorem row_new2 (w : World) (t : TypeId) (cs : Array Value) {g : Nat} (hg : w.heap.size = g) : RowAt (w.alloc (.cells cs t)) g t cs := by
  subst hg
  exact RowAt.new w t cs
theorem infoTx3 : (Try.prog.info? 81).map (fun i => (i.zero, i.size, i.bytes)) = some (some (.agg #[.int .i64 0, .int .i64 0, .int .u64 0, .int .u64 0, .int .u64 0]), 5, 40) := by kernel_rfl
theorem infoDi3 : (Try.prog.info? 83).map (fun i => (i.zero, i.size, i.bytes)) = some (some (.agg #[.int .i64 0, .int .u64 0]), 2, 16) := by kernel_rfl
def flatT (ts : List Tx) : List Value := ts.flatMap fun x => (txA x).toList
def flatD (ts : List Di) : List Value := ts.flatMap fun x => (diA x).toList
end Go.Proofs.Ytfbelaalmdcaaaa
