/-
  The document's Decode: a kind that is none.
-/
import Derived.Test.YtmapgfakfeddmaaRecRefDecX
namespace Go.Proofs.Ytmapgfakfeddmaa
open Go.RowKit
set_option linter.unusedVariables false

set_option maxRecDepth 6000 in
set_option maxHeartbeats 6400000 in
theorem rdec_bad (b : ByteArray) (w : World) (hb : b.size ≤ 140737488355328) (hk : (pNum 1 (⟨b.data.toList, 0⟩ : St)).2.e = 0 ∧ ((pNum 1 (⟨b.data.toList, 0⟩ : St)).1 < 1 ∨ 8 < (pNum 1 (⟨b.data.toList, 0⟩ : St)).1)) :
    Calls Try.prog 16 #[.string b] w fun e w' => Ans w b.data.toList e w' := by
  obtain ⟨s, hs⟩ : ∃ s : St, s = ⟨b.data.toList, 0⟩ := ⟨_, rfl⟩
  have HSS := hide hs
  obtain ⟨kd, s0, h0⟩ : ∃ n s', pNum 1 s = (n, s') := ⟨_, _, rfl⟩
  rw [← hs, h0] at hk
  simp only at hk
  have hpi : pIn 1 8 s = (kd, ⟨s0.l, 2⟩) := by
    unfold pIn
    rw [if_pos (by rw [h0]; exact hk), h0]
  have HDD : Hid (decR b.data.toList = (Rec.zero, 2)) := by
    have hst : (pRec s).2 = ⟨s0.l, 2⟩ := by
      rw [rec_rest, hpi]
      exact (Good.rest kd).stick _ (by show (2 : Int) ≠ 0; decide)
    show decR b.data.toList = _
    unfold decR
    rw [← hs, hst]
    rfl
  have he0 := hk.1
  have bkd : kd < 256 ^ 1 := by have := num_lt 1 s; rw [h0] at this; exact this
  have ekd := conv_i64 kd (by omega)
  have HKB := hide hk.2
  clear hk hpi bkd
  have K3 := Keeps.three w 28 60 28 #[.int .i64 0, .int .u64 0, .int .i64 0, .int .u64 0, .int .i64 0, .int .i64 0, .int .i64 0, .string ⟨#[]⟩, .string ⟨#[]⟩, .int .u64 0, .int .i64 0, .int .u64 0, .slice none 0 0, .slice none 0 0] #[.string b, .int .i64 0, .int .i64 0] #[.int .i64 0, .int .u64 0, .int .i64 0, .int .u64 0, .int .i64 0, .int .i64 0, .int .i64 0, .string ⟨#[]⟩, .string ⟨#[]⟩, .int .u64 0, .int .i64 0, .int .u64 0, .slice none 0 0, .slice none 0 0]
  have HI : Hid (DK w (((w.alloc (.cells #[.int .i64 0, .int .u64 0, .int .i64 0, .int .u64 0, .int .i64 0, .int .i64 0, .int .i64 0, .string ⟨#[]⟩, .string ⟨#[]⟩, .int .u64 0, .int .i64 0, .int .u64 0, .slice none 0 0, .slice none 0 0] 28)).alloc (.cells #[.string b, .int .i64 0, .int .i64 0] 60)).alloc (.cells #[.int .i64 0, .int .u64 0, .int .i64 0, .int .u64 0, .int .i64 0, .int .i64 0, .int .i64 0, .string ⟨#[]⟩, .string ⟨#[]⟩, .int .u64 0, .int .i64 0, .int .u64 0, .slice none 0 0, .slice none 0 0] 28)) w.heap.size (w.heap.size + 1) (w.heap.size + 1 + 1) b s Rec.zero (.slice none 0 0) (.slice none 0 0) []) := by
    rw [hs]
    exact ⟨⟨0, K3.1.2.1, Nat.zero_le _, fun _ => ⟨Nat.zero_le _, rfl⟩⟩, K3.1.1, K3.1.2.2.1, K3.2, ⟨World.ownsRow_nil _ _ _ _, World.ownsRow_nil _ _ _ _⟩, trivial⟩
  have HLI0 : Hid (Lie w w.heap.size (w.heap.size + 1) (w.heap.size + 1 + 1)) := ⟨by omega, by omega, by omega, by omega, by omega, by omega⟩
  clear K3
  go_enter Try.func16, Try.ntmps16
  go_wp2_with fail
  obtain ⟨gx, hgx⟩ : ∃ g, g = w.heap.size + 1 + 1 := ⟨_, rfl⟩
  obtain ⟨g, hg⟩ : ∃ g, g = w.heap.size + 1 := ⟨_, rfl⟩
  obtain ⟨gr, hgr⟩ : ∃ g, g = w.heap.size := ⟨_, rfl⟩
  have HLI : Hid (Lie w gr g gx) := by rw [hgx, hg, hgr]; exact HLI0
  have HB : Hid (DK w (((w.alloc (.cells #[.int .i64 0, .int .u64 0, .int .i64 0, .int .u64 0, .int .i64 0, .int .i64 0, .int .i64 0, .string ⟨#[]⟩, .string ⟨#[]⟩, .int .u64 0, .int .i64 0, .int .u64 0, .slice none 0 0, .slice none 0 0] 28)).alloc (.cells #[.string b, .int .i64 0, .int .i64 0] 60)).alloc (.cells #[.int .i64 0, .int .u64 0, .int .i64 0, .int .u64 0, .int .i64 0, .int .i64 0, .int .i64 0, .string ⟨#[]⟩, .string ⟨#[]⟩, .int .u64 0, .int .i64 0, .int .u64 0, .slice none 0 0, .slice none 0 0] 28)) gr g gx b s Rec.zero (.slice none 0 0) (.slice none 0 0) []) := by rw [hgx, hg, hgr]; exact HI
  rw [← hgx, ← hg, ← hgr]
  refine gen_calls (fun x => Hid (DK w x gr g gx b s Rec.zero (.slice none 0 0) (.slice none 0 0) [])) HB ?_
  clear HB HI HLI0 hgx hg hgr hs
  intro y HB
  have Ck := hide (fun x h => rnum_any g b s 1 x (by omega) hb h)
  rw [h0] at Ck
  clear h0
  refine (Ck.out _ HB.out.rd).mono ?_
  rintro e x ⟨rfl, hrd, hgw⟩
  have HX := hide (HB.out.step HLI.out (fun e he => (nomatch he)) hrd hgw)
  clear hrd hgw HB Ck
  have c := HX.out.xr.cell 0 (.int .i64 0) rfl
  have f := HX.out.xr.free 0
  have hst : (Instr.storeAt 3 (.pointer (some ⟨gx, 0, none⟩)) (.int .i64 ((kd : Nat) : Int))).run Try.prog x = .ok () (x.setCell ⟨gx, 0, none⟩ (.int .i64 ((kd : Nat) : Int))) := by go_simp
  clear c f
  have HB : Hid (DK w (x.setCell ⟨gx, 0, none⟩ (.int .i64 ((kd : Nat) : Int))) gr g gx b s0 ⟨kd, 0, 0, 0, Ch.zero, 0, 0, 0, [], []⟩ (.slice none 0 0) (.slice none 0 0) []) := HX.out.set HLI.out (fun e he => (nomatch he)) 0 (.int .i64 ((kd : Nat) : Int)) ⟨kd, 0, 0, 0, Ch.zero, 0, 0, 0, [], []⟩ rfl rfl rfl
  clear HX
  go_wp2_with (refine wpList_store_one rfl 3 (.tmp 17) (.tmp 16) rfl gx 0 (.int .i64 ((kd : Nat) : Int)) rfl rfl hst ?_; refine gen_w (fun x => Hid (DK w x gr g gx b s0 ⟨kd, 0, 0, 0, Ch.zero, 0, 0, 0, [], []⟩ (.slice none 0 0) (.slice none 0 0) [])) HB ?_; clear HB hst; intro yt HD; refine halt ?_)
  have c0 := HD.out.xr.cell 0 (.int .i64 ((kd : Nat) : Int)) rfl
  obtain ⟨k, q, -, -⟩ := HD.out.rd
  have c2 := q.cell 2 (.int .i64 0) (by rw [he0]; rfl)
  clear q
  have hbad := HKB.out
  by_cases h1 : (kd : Int) < 1
  case pos =>
    clear hbad
    refine unhalt ?_
    go_wp2_with (refine wpList_store_at rfl 28 (.tmp 2) (.tmp 33) rfl gr #[.int .i64 0, .int .u64 0, .int .i64 0, .int .u64 0, .int .i64 0, .int .i64 0, .int .i64 0, .string ⟨#[]⟩, .string ⟨#[]⟩, .int .u64 0, .int .i64 0, .int .u64 0, .slice none 0 0, .slice none 0 0] #[.int .i64 0, .int .u64 0, .int .i64 0, .int .u64 0, .int .i64 0, .int .i64 0, .int .i64 0, .string ⟨#[]⟩, .string ⟨#[]⟩, .int .u64 0, .int .i64 0, .int .u64 0, .slice none 0 0, .slice none 0 0] rfl rfl HD.out.zr infoRc rfl (by simp [Value.oneCell']) ?_)
    intro w9 hr9 hk9 _
    have HROW := hide hr9
    have HBL := hide (hk9 _ _ HD.out.bel HLI.out.a)
    clear hr9 hk9 HD c0 c2
    go_wp2
    (try simp only [Exit.inBlock, Exit.then])
    refine bodyPost_ret (res_at rfl _ _ gr #[.int .i64 0, .int .u64 0, .int .i64 0, .int .u64 0, .int .i64 0, .int .i64 0, .int .i64 0, .string ⟨#[]⟩, .string ⟨#[]⟩, .int .u64 0, .int .i64 0, .int .u64 0, .slice none 0 0, .slice none 0 0] _ rfl HROW.out Try.underlying28 rfl infoRc) rfl ?_
    show Ans _ _ _ _
    unfold Ans
    rw [HDD.out]
    exact ⟨⟨_, _, rfl, World.ownsRow_nil _ _ _ _, World.ownsRow_nil _ _ _ _⟩, HBL.out⟩
  case neg =>
    have h8 : (8 : Int) < (kd : Int) := by omega
    clear hbad
    refine unhalt ?_
    go_wp2_with (refine wpList_store_at rfl 28 (.tmp 2) (.tmp 33) rfl gr #[.int .i64 0, .int .u64 0, .int .i64 0, .int .u64 0, .int .i64 0, .int .i64 0, .int .i64 0, .string ⟨#[]⟩, .string ⟨#[]⟩, .int .u64 0, .int .i64 0, .int .u64 0, .slice none 0 0, .slice none 0 0] #[.int .i64 0, .int .u64 0, .int .i64 0, .int .u64 0, .int .i64 0, .int .i64 0, .int .i64 0, .string ⟨#[]⟩, .string ⟨#[]⟩, .int .u64 0, .int .i64 0, .int .u64 0, .slice none 0 0, .slice none 0 0] rfl rfl HD.out.zr infoRc rfl (by simp [Value.oneCell']) ?_)
    intro w9 hr9 hk9 _
    have HROW := hide hr9
    have HBL := hide (hk9 _ _ HD.out.bel HLI.out.a)
    clear hr9 hk9 HD c0 c2
    go_wp2
    (try simp only [Exit.inBlock, Exit.then])
    refine bodyPost_ret (res_at rfl _ _ gr #[.int .i64 0, .int .u64 0, .int .i64 0, .int .u64 0, .int .i64 0, .int .i64 0, .int .i64 0, .string ⟨#[]⟩, .string ⟨#[]⟩, .int .u64 0, .int .i64 0, .int .u64 0, .slice none 0 0, .slice none 0 0] _ rfl HROW.out Try.underlying28 rfl infoRc) rfl ?_
    show Ans _ _ _ _
    unfold Ans
    rw [HDD.out]
    exact ⟨⟨_, _, rfl, World.ownsRow_nil _ _ _ _, World.ownsRow_nil _ _ _ _⟩, HBL.out⟩
end Go.Proofs.Ytmapgfakfeddmaa
