/-
  Texts that lean on one another, one behind the other: each opens with its own remark.
-/
import Derived.Test.YtgobegpmojkhaaaK06
import Derived.Test.YtgobegpmojkhaaaK07
import Derived.Test.YtgobegpmojkhaaaK05
import Derived.Test.YtgobegpmojkhaaaK04
import Derived.Test.YtgobegpmojkhaaaK01

/-
  The document's Decode: no kind at all.
-/
namespace Go.Proofs.Ytgobegpmojkhaaa
open Go.RowKit
set_option linter.unusedVariables false

set_option maxRecDepth 6000 in
set_option maxHeartbeats 6400000 in
theorem rdec_short (b : ByteArray) (w : World) (hb : b.size ≤ 140737488355328) (hk : (pNum 1 (⟨b.data.toList, 0⟩ : St)).2.e ≠ 0) :
    Calls Try.prog 33 #[.string b] w fun e w' => Ans w b.data.toList e w' := by
  obtain ⟨s, hs⟩ : ∃ s : St, s = ⟨b.data.toList, 0⟩ := ⟨_, rfl⟩
  have HSS := hide hs
  obtain ⟨kd, s0, h0⟩ : ∃ n s', pNum 1 s = (n, s') := ⟨_, _, rfl⟩
  rw [← hs, h0] at hk
  simp only at hk
  have hkd : kd = 0 := by have := num_zero (k := 1) (s := s) (by rw [h0]; exact hk); rw [h0] at this; exact this
  subst hkd
  have hgd : pIn 1 8 s = pNum 1 s := pin_good (by rw [h0]; exact fun h => hk h.1)
  have HZN : Hid (∀ k, pNum k s0 = (0, s0)) := fun k => by unfold pNum; rw [if_pos hk]
  have HZT : Hid (pText s0 = (⟨#[]⟩, s0)) := by show pText s0 = _; unfold pText; rw [if_pos hk]
  have HPR : Hid ((pRec ⟨b.data.toList, 0⟩).2 = s0) := by
    show (pRec ⟨b.data.toList, 0⟩).2 = s0
    rw [← hs, rec_rest, hgd, h0]
    exact (Good.rest 0).stick s0 hk
  have HNE := hide hk
  have k0 : (s0.e == 0) = false := by rw [beq_eq_false_iff_ne]; exact hk
  clear hk hgd
  have K3 := Keeps.three w 28 97 28 #[.int .i64 0, .int .u64 0, .int .i64 0, .int .u64 0, .int .i64 0, .int .i64 0, .int .i64 0, .string ⟨#[]⟩, .string ⟨#[]⟩, .int .u64 0, .int .i64 0, .int .u64 0, .slice none 0 0, .slice none 0 0] #[.string b, .int .i64 0, .int .i64 0] #[.int .i64 0, .int .u64 0, .int .i64 0, .int .u64 0, .int .i64 0, .int .i64 0, .int .i64 0, .string ⟨#[]⟩, .string ⟨#[]⟩, .int .u64 0, .int .i64 0, .int .u64 0, .slice none 0 0, .slice none 0 0]
  have HI : Hid (DK w (((w.alloc (.cells #[.int .i64 0, .int .u64 0, .int .i64 0, .int .u64 0, .int .i64 0, .int .i64 0, .int .i64 0, .string ⟨#[]⟩, .string ⟨#[]⟩, .int .u64 0, .int .i64 0, .int .u64 0, .slice none 0 0, .slice none 0 0] 28)).alloc (.cells #[.string b, .int .i64 0, .int .i64 0] 97)).alloc (.cells #[.int .i64 0, .int .u64 0, .int .i64 0, .int .u64 0, .int .i64 0, .int .i64 0, .int .i64 0, .string ⟨#[]⟩, .string ⟨#[]⟩, .int .u64 0, .int .i64 0, .int .u64 0, .slice none 0 0, .slice none 0 0] 28)) w.heap.size (w.heap.size + 1) (w.heap.size + 1 + 1) b s Rec.zero (.slice none 0 0) (.slice none 0 0) []) := by
    rw [hs]
    exact ⟨⟨0, K3.1.2.1, Nat.zero_le _, fun _ => ⟨Nat.zero_le _, rfl⟩⟩, K3.1.1, K3.1.2.2.1, K3.2, ⟨World.ownsRow_nil _ _ _ _, World.ownsRow_nil _ _ _ _⟩, trivial⟩
  have HLI0 : Hid (Lie w w.heap.size (w.heap.size + 1) (w.heap.size + 1 + 1)) := ⟨by omega, by omega, by omega, by omega, by omega, by omega⟩
  clear K3
  go_enter Try.func33, Try.ntmps33
  go_wp2_with fail
  obtain ⟨gx, hgx⟩ : ∃ g, g = w.heap.size + 1 + 1 := ⟨_, rfl⟩
  obtain ⟨g, hg⟩ : ∃ g, g = w.heap.size + 1 := ⟨_, rfl⟩
  obtain ⟨gr, hgr⟩ : ∃ g, g = w.heap.size := ⟨_, rfl⟩
  have HLI : Hid (Lie w gr g gx) := by rw [hgx, hg, hgr]; exact HLI0
  have HB : Hid (DK w (((w.alloc (.cells #[.int .i64 0, .int .u64 0, .int .i64 0, .int .u64 0, .int .i64 0, .int .i64 0, .int .i64 0, .string ⟨#[]⟩, .string ⟨#[]⟩, .int .u64 0, .int .i64 0, .int .u64 0, .slice none 0 0, .slice none 0 0] 28)).alloc (.cells #[.string b, .int .i64 0, .int .i64 0] 97)).alloc (.cells #[.int .i64 0, .int .u64 0, .int .i64 0, .int .u64 0, .int .i64 0, .int .i64 0, .int .i64 0, .string ⟨#[]⟩, .string ⟨#[]⟩, .int .u64 0, .int .i64 0, .int .u64 0, .slice none 0 0, .slice none 0 0] 28)) gr g gx b s Rec.zero (.slice none 0 0) (.slice none 0 0) []) := by rw [hgx, hg, hgr]; exact HI
  rw [← hgx, ← hg, ← hgr]
  refine gen_calls (fun x => Hid (DK w x gr g gx b s Rec.zero (.slice none 0 0) (.slice none 0 0) [])) HB ?_
  clear HB HI HLI0 hgx hg hgr hs
  intro y HB
  have Ck := hide (fun x h => rnum_any g b s 1 x (by omega) hb h)
  rw [h0] at Ck
  clear h0
  have Cl := hide (fun x h => rnum_any g b s0 8 x (by omega) hb h)
  rw [HZN.out 8] at Cl
  have Ct := hide (fun x h => rnum_any g b s0 4 x (by omega) hb h)
  rw [HZN.out 4] at Ct
  have Cp := hide (fun x h => rnum_any g b s0 8 x (by omega) hb h)
  rw [HZN.out 8] at Cp
  have Cck := hide (fun x h => rnum_any g b s0 1 x (by omega) hb h)
  rw [HZN.out 1] at Cck
  have Ccp := hide (fun x h => rnum_any g b s0 2 x (by omega) hb h)
  rw [HZN.out 2] at Ccp
  have Ccs := hide (fun x h => rnum_any g b s0 1 x (by omega) hb h)
  rw [HZN.out 1] at Ccs
  have Cco := hide (fun x h => rtext_any g b s0 x hb h)
  rw [HZT.out] at Cco
  have Ccn := hide (fun x h => rtext_any g b s0 x hb h)
  rw [HZT.out] at Ccn
  refine (Ck.out _ HB.out.rd).mono ?_
  rintro e x ⟨rfl, hrd, hgw⟩
  have HX := hide (HB.out.step HLI.out (fun e he => (nomatch he)) hrd hgw)
  clear hrd hgw HB Ck
  have c := HX.out.xr.cell 0 (.int .i64 0) rfl
  have f := HX.out.xr.free 0
  have hst : (Instr.storeAt 3 (.pointer (some ⟨gx, 0, none⟩)) (.int .i64 0)).run Try.prog x = .ok () (x.setCell ⟨gx, 0, none⟩ (.int .i64 0)) := by go_simp
  clear c f
  have HB : Hid (DK w (x.setCell ⟨gx, 0, none⟩ (.int .i64 0)) gr g gx b s0 ⟨0, 0, 0, 0, Ch.zero, 0, 0, 0, [], []⟩ (.slice none 0 0) (.slice none 0 0) []) := HX.out.set HLI.out (fun e he => (nomatch he)) 0 (.int .i64 0) ⟨0, 0, 0, 0, Ch.zero, 0, 0, 0, [], []⟩ rfl rfl rfl
  clear HX
  go_wp2_with (refine wpList_store_one rfl 3 (.tmp 17) (.tmp 16) rfl gx 0 (.int .i64 0) rfl rfl hst ?_; refine gen_w (fun x => Hid (DK w x gr g gx b s0 ⟨0, 0, 0, 0, Ch.zero, 0, 0, 0, [], []⟩ (.slice none 0 0) (.slice none 0 0) [])) HB ?_; clear HB hst; intro y HB; have c0 := HB.out.xr.cell 0 (.int .i64 0) rfl; obtain ⟨k, q, -, -⟩ := HB.out.rd; have c2 := q.cell 2 (.int .i64 s0.e) rfl; clear q)
  clear c2
  refine (Cl.out _ HB.out.rd).mono ?_
  rintro e x ⟨rfl, hrd, hgw⟩
  have HX := hide (HB.out.step HLI.out (fun e he => (nomatch he)) hrd hgw)
  clear hrd hgw HB Cl c0
  have c := HX.out.xr.cell 1 (.int .u64 0) rfl
  have f := HX.out.xr.free 1
  have hst : (Instr.storeAt 22 (.pointer (some ⟨gx, 1, none⟩)) (.int .u64 0)).run Try.prog x = .ok () (x.setCell ⟨gx, 1, none⟩ (.int .u64 0)) := by go_simp
  clear c f
  have HB : Hid (DK w (x.setCell ⟨gx, 1, none⟩ (.int .u64 0)) gr g gx b s0 ⟨0, 0, 0, 0, Ch.zero, 0, 0, 0, [], []⟩ (.slice none 0 0) (.slice none 0 0) []) := HX.out.set HLI.out (fun e he => (nomatch he)) 1 (.int .u64 0) ⟨0, 0, 0, 0, Ch.zero, 0, 0, 0, [], []⟩ rfl rfl rfl
  clear HX
  go_wp2_with (refine wpList_store_one rfl 22 (.tmp 36) (.tmp 35) rfl gx 1 (.int .u64 0) rfl rfl hst ?_; refine gen_w (fun x => Hid (DK w x gr g gx b s0 ⟨0, 0, 0, 0, Ch.zero, 0, 0, 0, [], []⟩ (.slice none 0 0) (.slice none 0 0) [])) HB ?_; clear HB hst; intro y HB; have c0 := HB.out.xr.cell 0 (.int .i64 0) rfl)
  refine (Ct.out _ HB.out.rd).mono ?_
  rintro e x ⟨rfl, hrd, hgw⟩
  have HX := hide (HB.out.step HLI.out (fun e he => (nomatch he)) hrd hgw)
  clear hrd hgw HB Ct c0
  have c := HX.out.xr.cell 2 (.int .i64 0) rfl
  have f := HX.out.xr.free 2
  have hst : (Instr.storeAt 3 (.pointer (some ⟨gx, 2, none⟩)) (.int .i64 0)).run Try.prog x = .ok () (x.setCell ⟨gx, 2, none⟩ (.int .i64 0)) := by go_simp
  clear c f
  have HB : Hid (DK w (x.setCell ⟨gx, 2, none⟩ (.int .i64 0)) gr g gx b s0 ⟨0, 0, 0, 0, Ch.zero, 0, 0, 0, [], []⟩ (.slice none 0 0) (.slice none 0 0) []) := HX.out.set HLI.out (fun e he => (nomatch he)) 2 (.int .i64 0) ⟨0, 0, 0, 0, Ch.zero, 0, 0, 0, [], []⟩ rfl rfl rfl
  clear HX
  go_wp2_with (refine wpList_store_one rfl 3 (.tmp 40) (.tmp 39) rfl gx 2 (.int .i64 0) rfl rfl hst ?_; refine gen_w (fun x => Hid (DK w x gr g gx b s0 ⟨0, 0, 0, 0, Ch.zero, 0, 0, 0, [], []⟩ (.slice none 0 0) (.slice none 0 0) [])) HB ?_; clear HB hst; intro y HB; have c0 := HB.out.xr.cell 0 (.int .i64 0) rfl)
  refine (Cp.out _ HB.out.rd).mono ?_
  rintro e x ⟨rfl, hrd, hgw⟩
  have HX := hide (HB.out.step HLI.out (fun e he => (nomatch he)) hrd hgw)
  clear hrd hgw HB Cp c0
  have c := HX.out.xr.cell 3 (.int .u64 0) rfl
  have f := HX.out.xr.free 3
  have hst : (Instr.storeAt 22 (.pointer (some ⟨gx, 3, none⟩)) (.int .u64 0)).run Try.prog x = .ok () (x.setCell ⟨gx, 3, none⟩ (.int .u64 0)) := by go_simp
  clear c f
  have HB : Hid (DK w (x.setCell ⟨gx, 3, none⟩ (.int .u64 0)) gr g gx b s0 ⟨0, 0, 0, 0, Ch.zero, 0, 0, 0, [], []⟩ (.slice none 0 0) (.slice none 0 0) []) := HX.out.set HLI.out (fun e he => (nomatch he)) 3 (.int .u64 0) ⟨0, 0, 0, 0, Ch.zero, 0, 0, 0, [], []⟩ rfl rfl rfl
  clear HX
  go_wp2_with (refine wpList_store_one rfl 22 (.tmp 43) (.tmp 42) rfl gx 3 (.int .u64 0) rfl rfl hst ?_; refine gen_w (fun x => Hid (DK w x gr g gx b s0 ⟨0, 0, 0, 0, Ch.zero, 0, 0, 0, [], []⟩ (.slice none 0 0) (.slice none 0 0) [])) HB ?_; clear HB hst; intro y HB; have c0 := HB.out.xr.cell 0 (.int .i64 0) rfl)
  refine (Cck.out _ HB.out.rd).mono ?_
  rintro e x ⟨rfl, hrd, hgw⟩
  have HX := hide (HB.out.step HLI.out (fun e he => (nomatch he)) hrd hgw)
  clear hrd hgw HB Cck c0
  have c := HX.out.xr.cell 4 (.int .i64 0) rfl
  have f := HX.out.xr.free 4
  have hst : (Instr.storeAt 3 (.pointer (some ⟨gx, 4, none⟩)) (.int .i64 0)).run Try.prog x = .ok () (x.setCell ⟨gx, 4, none⟩ (.int .i64 0)) := by go_simp
  clear c f
  have HB : Hid (DK w (x.setCell ⟨gx, 4, none⟩ (.int .i64 0)) gr g gx b s0 ⟨0, 0, 0, 0, Ch.zero, 0, 0, 0, [], []⟩ (.slice none 0 0) (.slice none 0 0) []) := HX.out.set HLI.out (fun e he => (nomatch he)) 4 (.int .i64 0) ⟨0, 0, 0, 0, Ch.zero, 0, 0, 0, [], []⟩ rfl rfl rfl
  clear HX
  go_wp2_with (refine wpList_store_one rfl 3 (.tmp 51) (.tmp 49) rfl gx 4 (.int .i64 0) rfl rfl hst ?_; refine gen_w (fun x => Hid (DK w x gr g gx b s0 ⟨0, 0, 0, 0, Ch.zero, 0, 0, 0, [], []⟩ (.slice none 0 0) (.slice none 0 0) [])) HB ?_; clear HB hst; intro y HB; have c0 := HB.out.xr.cell 0 (.int .i64 0) rfl)
  refine (Ccp.out _ HB.out.rd).mono ?_
  rintro e x ⟨rfl, hrd, hgw⟩
  have HX := hide (HB.out.step HLI.out (fun e he => (nomatch he)) hrd hgw)
  clear hrd hgw HB Ccp c0
  have c := HX.out.xr.cell 5 (.int .i64 0) rfl
  have f := HX.out.xr.free 5
  have hst : (Instr.storeAt 3 (.pointer (some ⟨gx, 5, none⟩)) (.int .i64 0)).run Try.prog x = .ok () (x.setCell ⟨gx, 5, none⟩ (.int .i64 0)) := by go_simp
  clear c f
  have HB : Hid (DK w (x.setCell ⟨gx, 5, none⟩ (.int .i64 0)) gr g gx b s0 ⟨0, 0, 0, 0, Ch.zero, 0, 0, 0, [], []⟩ (.slice none 0 0) (.slice none 0 0) []) := HX.out.set HLI.out (fun e he => (nomatch he)) 5 (.int .i64 0) ⟨0, 0, 0, 0, Ch.zero, 0, 0, 0, [], []⟩ rfl rfl rfl
  clear HX
  go_wp2_with (refine wpList_store_one rfl 3 (.tmp 56) (.tmp 54) rfl gx 5 (.int .i64 0) rfl rfl hst ?_; refine gen_w (fun x => Hid (DK w x gr g gx b s0 ⟨0, 0, 0, 0, Ch.zero, 0, 0, 0, [], []⟩ (.slice none 0 0) (.slice none 0 0) [])) HB ?_; clear HB hst; intro y HB; have c0 := HB.out.xr.cell 0 (.int .i64 0) rfl)
  refine (Ccs.out _ HB.out.rd).mono ?_
  rintro e x ⟨rfl, hrd, hgw⟩
  have HX := hide (HB.out.step HLI.out (fun e he => (nomatch he)) hrd hgw)
  clear hrd hgw HB Ccs c0
  have c := HX.out.xr.cell 6 (.int .i64 0) rfl
  have f := HX.out.xr.free 6
  have hst : (Instr.storeAt 3 (.pointer (some ⟨gx, 6, none⟩)) (.int .i64 0)).run Try.prog x = .ok () (x.setCell ⟨gx, 6, none⟩ (.int .i64 0)) := by go_simp
  clear c f
  have HB : Hid (DK w (x.setCell ⟨gx, 6, none⟩ (.int .i64 0)) gr g gx b s0 ⟨0, 0, 0, 0, Ch.zero, 0, 0, 0, [], []⟩ (.slice none 0 0) (.slice none 0 0) []) := HX.out.set HLI.out (fun e he => (nomatch he)) 6 (.int .i64 0) ⟨0, 0, 0, 0, Ch.zero, 0, 0, 0, [], []⟩ rfl rfl rfl
  clear HX
  go_wp2_with (refine wpList_store_one rfl 3 (.tmp 61) (.tmp 59) rfl gx 6 (.int .i64 0) rfl rfl hst ?_; refine gen_w (fun x => Hid (DK w x gr g gx b s0 ⟨0, 0, 0, 0, Ch.zero, 0, 0, 0, [], []⟩ (.slice none 0 0) (.slice none 0 0) [])) HB ?_; clear HB hst; intro y HB; have c0 := HB.out.xr.cell 0 (.int .i64 0) rfl)
  refine (Cco.out _ HB.out.rd).mono ?_
  rintro e x ⟨rfl, hrd, hgw⟩
  have HX := hide (HB.out.step HLI.out (fun e he => (nomatch he)) hrd hgw)
  clear hrd hgw HB Cco c0
  have c := HX.out.xr.cell 7 (.string ⟨#[]⟩) rfl
  have f := HX.out.xr.free 7
  have hst : (Instr.storeAt 9 (.pointer (some ⟨gx, 7, none⟩)) (.string ⟨#[]⟩)).run Try.prog x = .ok () (x.setCell ⟨gx, 7, none⟩ (.string ⟨#[]⟩)) := by go_simp
  clear c f
  have HB : Hid (DK w (x.setCell ⟨gx, 7, none⟩ (.string ⟨#[]⟩)) gr g gx b s0 ⟨0, 0, 0, 0, Ch.zero, 0, 0, 0, [], []⟩ (.slice none 0 0) (.slice none 0 0) []) := HX.out.set HLI.out (fun e he => (nomatch he)) 7 (.string ⟨#[]⟩) ⟨0, 0, 0, 0, Ch.zero, 0, 0, 0, [], []⟩ rfl rfl rfl
  clear HX
  go_wp2_with (refine wpList_store_one rfl 9 (.tmp 65) (.tmp 63) rfl gx 7 (.string ⟨#[]⟩) rfl rfl hst ?_; refine gen_w (fun x => Hid (DK w x gr g gx b s0 ⟨0, 0, 0, 0, Ch.zero, 0, 0, 0, [], []⟩ (.slice none 0 0) (.slice none 0 0) [])) HB ?_; clear HB hst; intro y HB; have c0 := HB.out.xr.cell 0 (.int .i64 0) rfl)
  refine (Ccn.out _ HB.out.rd).mono ?_
  rintro e x ⟨rfl, hrd, hgw⟩
  have HX := hide (HB.out.step HLI.out (fun e he => (nomatch he)) hrd hgw)
  clear hrd hgw HB Ccn c0
  have c := HX.out.xr.cell 8 (.string ⟨#[]⟩) rfl
  have f := HX.out.xr.free 8
  have hst : (Instr.storeAt 9 (.pointer (some ⟨gx, 8, none⟩)) (.string ⟨#[]⟩)).run Try.prog x = .ok () (x.setCell ⟨gx, 8, none⟩ (.string ⟨#[]⟩)) := by go_simp
  clear c f
  have HB : Hid (DK w (x.setCell ⟨gx, 8, none⟩ (.string ⟨#[]⟩)) gr g gx b s0 ⟨0, 0, 0, 0, Ch.zero, 0, 0, 0, [], []⟩ (.slice none 0 0) (.slice none 0 0) []) := HX.out.set HLI.out (fun e he => (nomatch he)) 8 (.string ⟨#[]⟩) ⟨0, 0, 0, 0, Ch.zero, 0, 0, 0, [], []⟩ rfl rfl rfl
  clear HX
  go_wp2_with (refine wpList_store_one rfl 9 (.tmp 69) (.tmp 67) rfl gx 8 (.string ⟨#[]⟩) rfl rfl hst ?_; refine gen_w (fun x => Hid (DK w x gr g gx b s0 ⟨0, 0, 0, 0, Ch.zero, 0, 0, 0, [], []⟩ (.slice none 0 0) (.slice none 0 0) [])) HB ?_; clear HB hst; intro yt HD; refine halt ?_)
  have c0 := HD.out.xr.cell 0 (.int .i64 0) rfl
  obtain ⟨k, q, hkb, hkl⟩ := HD.out.rd
  have c2 := q.cell 2 (.int .i64 s0.e) rfl
  clear q hkl hkb
  have HDD : Hid (decR b.data.toList = (Rec.zero, s0.e)) := by
    show decR b.data.toList = _
    unfold decR
    rw [HPR.out, if_pos HNE.out]
  have k1 : (s0.e != 0) = true := by rw [bne, k0]; rfl
  clear HPR HNE HZN HZT
  generalize s0.e = es at *
  have z0 := HD.out.zr.cell 0 (.int .i64 0) rfl
  have zf0 := HD.out.zr.free 0
  have z1 := HD.out.zr.cell 1 (.int .u64 0) rfl
  have zf1 := HD.out.zr.free 1
  have z2 := HD.out.zr.cell 2 (.int .i64 0) rfl
  have zf2 := HD.out.zr.free 2
  have z3 := HD.out.zr.cell 3 (.int .u64 0) rfl
  have zf3 := HD.out.zr.free 3
  have z4 := HD.out.zr.cell 4 (.int .i64 0) rfl
  have zf4 := HD.out.zr.free 4
  have z5 := HD.out.zr.cell 5 (.int .i64 0) rfl
  have zf5 := HD.out.zr.free 5
  have z6 := HD.out.zr.cell 6 (.int .i64 0) rfl
  have zf6 := HD.out.zr.free 6
  have z7 := HD.out.zr.cell 7 (.string ⟨#[]⟩) rfl
  have zf7 := HD.out.zr.free 7
  have z8 := HD.out.zr.cell 8 (.string ⟨#[]⟩) rfl
  have zf8 := HD.out.zr.free 8
  have z9 := HD.out.zr.cell 9 (.int .u64 0) rfl
  have zf9 := HD.out.zr.free 9
  have z10 := HD.out.zr.cell 10 (.int .i64 0) rfl
  have zf10 := HD.out.zr.free 10
  have z11 := HD.out.zr.cell 11 (.int .u64 0) rfl
  have zf11 := HD.out.zr.free 11
  have z12 := HD.out.zr.cell 12 (.slice none 0 0) rfl
  have zf12 := HD.out.zr.free 12
  have z13 := HD.out.zr.cell 13 (.slice none 0 0) rfl
  have zf13 := HD.out.zr.free 13
  have ne1 := HLI.out.d
  refine unhalt ?_
  go_wp2_with fail
  go_region
  have HRW := hide ((((((((((((((HD.out.zr.setSame 0 (.int .i64 0) rfl).setSame 1 (.int .u64 0) rfl).setSame 2 (.int .i64 0) rfl).setSame 3 (.int .u64 0) rfl).setSame 4 (.int .i64 0) rfl).setSame 5 (.int .i64 0) rfl).setSame 6 (.int .i64 0) rfl).setSame 7 (.string ⟨#[]⟩) rfl).setSame 8 (.string ⟨#[]⟩) rfl).setSame 9 (.int .u64 0) rfl).setSame 10 (.int .i64 0) rfl).setSame 11 (.int .u64 0) rfl).setSame 12 (.slice none 0 0) rfl).setSame 13 (.slice none 0 0) rfl)
  have HBW := hide ((((((((((((((HD.out.bel.set1 HLI.out.a 0 (.int .i64 0)).set1 HLI.out.a 1 (.int .u64 0)).set1 HLI.out.a 2 (.int .i64 0)).set1 HLI.out.a 3 (.int .u64 0)).set1 HLI.out.a 4 (.int .i64 0)).set1 HLI.out.a 5 (.int .i64 0)).set1 HLI.out.a 6 (.int .i64 0)).set1 HLI.out.a 7 (.string ⟨#[]⟩)).set1 HLI.out.a 8 (.string ⟨#[]⟩)).set1 HLI.out.a 9 (.int .u64 0)).set1 HLI.out.a 10 (.int .i64 0)).set1 HLI.out.a 11 (.int .u64 0)).set1 HLI.out.a 12 (.slice none 0 0)).set1 HLI.out.a 13 (.slice none 0 0))
  refine gen_w (fun x => Hid (RowAt x gr 28 #[.int .i64 0, .int .u64 0, .int .i64 0, .int .u64 0, .int .i64 0, .int .i64 0, .int .i64 0, .string ⟨#[]⟩, .string ⟨#[]⟩, .int .u64 0, .int .i64 0, .int .u64 0, .slice none 0 0, .slice none 0 0]) ∧ Hid (Below w.heap.size w x)) (x := ((((((((((((((yt.setCell ⟨gr, 0, none⟩ (.int .i64 0)).setCell ⟨gr, 1, none⟩ (.int .u64 0)).setCell ⟨gr, 2, none⟩ (.int .i64 0)).setCell ⟨gr, 3, none⟩ (.int .u64 0)).setCell ⟨gr, 4, none⟩ (.int .i64 0)).setCell ⟨gr, 5, none⟩ (.int .i64 0)).setCell ⟨gr, 6, none⟩ (.int .i64 0)).setCell ⟨gr, 7, none⟩ (.string ⟨#[]⟩)).setCell ⟨gr, 8, none⟩ (.string ⟨#[]⟩)).setCell ⟨gr, 9, none⟩ (.int .u64 0)).setCell ⟨gr, 10, none⟩ (.int .i64 0)).setCell ⟨gr, 11, none⟩ (.int .u64 0)).setCell ⟨gr, 12, none⟩ (.slice none 0 0)).setCell ⟨gr, 13, none⟩ (.slice none 0 0)).drew) ⟨hide (rowat_drew HRW.out), hide (below_drew HBW.out)⟩ ?_
  clear HD HRW HBW z0 zf0 z1 zf1 z2 zf2 z3 zf3 z4 zf4 z5 zf5 z6 zf6 z7 zf7 z8 zf8 z9 zf9 z10 zf10 z11 zf11 z12 zf12 z13 zf13 ne1 c2 c0
  rintro y0 ⟨HROW, HBL⟩
  go_wp2
  (try simp only [Exit.inBlock, Exit.then])
  refine bodyPost_ret (res_at rfl _ _ gr #[.int .i64 0, .int .u64 0, .int .i64 0, .int .u64 0, .int .i64 0, .int .i64 0, .int .i64 0, .string ⟨#[]⟩, .string ⟨#[]⟩, .int .u64 0, .int .i64 0, .int .u64 0, .slice none 0 0, .slice none 0 0] _ rfl HROW.out Try.underlying28 rfl infoRc) rfl ?_
  show Ans _ _ _ _
  unfold Ans
  rw [HDD.out]
  exact ⟨⟨_, _, rfl, World.ownsRow_nil _ _ _ _, World.ownsRow_nil _ _ _ _⟩, HBL.out⟩
end Go.Proofs.Ytgobegpmojkhaaa

/-
  The contract of quaysideref06.Decode.
-/
namespace Go.Proofs.Ytgobegpmojkhaaa
open Go.RowKit
set_option linter.unusedVariables false

/-- THE CONTRACT. -/
theorem rdec_any (b : ByteArray) (w : World) (hb : b.size ≤ 140737488355328) :
    Calls Try.prog 33 #[.string b] w fun e w' => Ans w b.data.toList e w' := by
  by_cases he : (pNum 1 (⟨b.data.toList, 0⟩ : St)).2.e = 0
  · by_cases hk : (pNum 1 (⟨b.data.toList, 0⟩ : St)).1 < 1 ∨ 8 < (pNum 1 (⟨b.data.toList, 0⟩ : St)).1
    · exact rdec_bad b w hb ⟨he, hk⟩
    by_cases k1 : (pNum 1 (⟨b.data.toList, 0⟩ : St)).1 = 1
    · exact rdec_1 b w hb ⟨he, k1⟩
    by_cases k2 : (pNum 1 (⟨b.data.toList, 0⟩ : St)).1 = 2
    · exact rdec_2 b w hb ⟨he, k2⟩
    by_cases k6 : (pNum 1 (⟨b.data.toList, 0⟩ : St)).1 = 6
    · exact rdec_6 b w hb ⟨he, k6⟩
    by_cases k8 : (pNum 1 (⟨b.data.toList, 0⟩ : St)).1 = 8
    · exact rdec_8 b w hb ⟨he, k8⟩
    exact rdec_end b w hb ⟨he, by omega⟩
  · exact rdec_short b w hb he
end Go.Proofs.Ytgobegpmojkhaaa

/-
  The contract of quaysideref07.Take.
-/
namespace Go.Proofs.Ytgobegpmojkhaaa
open Go.RowKit
set_option linter.unusedVariables false

set_option maxRecDepth 4000 in
set_option maxHeartbeats 1600000 in
theorem rtake7_arg (b : ByteArray) (p : Int) (w : World) (h : p < 0 ∨ (b.size : Int) < p) :
    Calls Try.prog 14 #[.string b, .int .i64 p] w (TakAns w (Rec.zero, 0, 1)) := by
  have HK0 := hide (Keeps.one w 28 zeroA)
  unfold TakAns
  by_cases h1 : p < 0
  · clear h
    go_enter Try.func14, Try.ntmps14
    go_wp2_with (refine wpList_store_at rfl 28 (.tmp 4) (.tmp 20) rfl w.heap.size zeroA zeroA rfl rfl HK0.out.1.1 infoRc rfl (by simp [zeroA, Value.oneCell']) ?_)
    intro w2 hr2 hk2 _
    have HR2 := hide hr2
    have HD2 := hide (hk2 _ _ HK0.out.2 (Nat.le_refl _))
    clear hr2 hk2 HK0
    go_wp2
    (try simp only [Exit.inBlock, Exit.then])
    refine bodyPost_ret (res_at3 rfl _ _ w.heap.size zeroA _ rfl HR2.out Try.underlying28 rfl infoRc) rfl ?_
    exact ⟨⟨_, _, rfl, zero_got _ _⟩, HD2.out⟩
  · have h2 : (b.size : Int) < p := by omega
    clear h
    go_enter Try.func14, Try.ntmps14
    go_wp2_with (refine wpList_store_at rfl 28 (.tmp 4) (.tmp 20) rfl w.heap.size zeroA zeroA rfl rfl HK0.out.1.1 infoRc rfl (by simp [zeroA, Value.oneCell']) ?_)
    intro w2 hr2 hk2 _
    have HR2 := hide hr2
    have HD2 := hide (hk2 _ _ HK0.out.2 (Nat.le_refl _))
    clear hr2 hk2 HK0
    go_wp2
    (try simp only [Exit.inBlock, Exit.then])
    refine bodyPost_ret (res_at3 rfl _ _ w.heap.size zeroA _ rfl HR2.out Try.underlying28 rfl infoRc) rfl ?_
    exact ⟨⟨_, _, rfl, zero_got _ _⟩, HD2.out⟩

set_option maxRecDepth 4000 in
set_option maxHeartbeats 1600000 in
theorem rtake7_few (b : ByteArray) (p : Nat) (w : World) (hz : b.size ≤ 140737488355328) (hp : p ≤ b.size) (h : b.size - p < 2) :
    Calls Try.prog 14 #[.string b, .int .i64 (p : Int)] w (TakAns w (Rec.zero, 0, 4)) := by
  have HT := hide (fun w => rtake_any b (p : Int) 2 w (by omega))
  rw [takeS_short b.data.toList (p : Int) 2 (by omega) (by rw [data_length]; omega)] at HT
  have HK0 := hide (Keeps.one w 28 zeroA)
  have h1 : ¬ (p : Int) < 0 := by omega
  have h2 : ¬ (b.size : Int) < (p : Int) := by omega
  clear h
  unfold TakAns
  go_enter Try.func14, Try.ntmps14
  go_wp2_with fail
  refine (HT.out _).mono ?_
  rintro e w1 ⟨rfl, rfl⟩
  go_wp2_with (refine wpList_store_at rfl 28 (.tmp 4) (.tmp 39) rfl w.heap.size zeroA zeroA rfl rfl HK0.out.1.1 infoRc rfl (by simp [zeroA, Value.oneCell']) ?_)
  intro w2 hr2 hk2 _
  have HR2 := hide hr2
  have HD2 := hide (hk2 _ _ HK0.out.2 (Nat.le_refl _))
  clear hr2 hk2 HK0
  go_wp2
  (try simp only [Exit.inBlock, Exit.then])
  refine bodyPost_ret (res_at3 rfl _ _ w.heap.size zeroA _ rfl HR2.out Try.underlying28 rfl infoRc) rfl ?_
  exact ⟨⟨_, _, rfl, zero_got _ _⟩, HD2.out⟩

set_option maxRecDepth 4000 in
set_option maxHeartbeats 1600000 in
theorem rtake7_short (b : ByteArray) (p n : Nat) (w : World) (hz : b.size ≤ 140737488355328) (hp : p ≤ b.size) (h : ¬ b.size - p < 2) (hn : be ((b.data.toList.drop p).take 2) = n) (hs : b.size < p + n + 6) :
    Calls Try.prog 14 #[.string b, .int .i64 (p : Int)] w (TakAns w (Rec.zero, 0, 4)) := by
  have HT := hide (fun w => rtake_any b (p : Int) 2 w (by omega))
  have e1 : beAt b.data.toList (p : Int).toNat (2 : Int).toNat = n := by
    rw [← hn]
    rfl
  rw [takeS_ok b.data.toList (p : Int) 2 (by omega) (by rw [data_length]; omega), e1] at HT
  have hn2 : n < 65536 := two_lt hn
  have HK0 := hide (Keeps.one w 28 zeroA)
  have h1 : ¬ (p : Int) < 0 := by omega
  have h2 : ¬ (b.size : Int) < (p : Int) := by omega
  have h6 : (b.size : Int) - (p : Int) < (n : Int) + 6 := by omega
  clear h hn e1 hs
  unfold TakAns
  go_enter Try.func14, Try.ntmps14
  go_wp2_with fail
  refine (HT.out _).mono ?_
  rintro e w1 ⟨rfl, rfl⟩
  go_wp2_with (refine wpList_store_at rfl 28 (.tmp 4) (.tmp 39) rfl w.heap.size zeroA zeroA rfl rfl HK0.out.1.1 infoRc rfl (by simp [zeroA, Value.oneCell']) ?_)
  intro w2 hr2 hk2 _
  have HR2 := hide hr2
  have HD2 := hide (hk2 _ _ HK0.out.2 (Nat.le_refl _))
  clear hr2 hk2 HK0
  go_wp2
  (try simp only [Exit.inBlock, Exit.then])
  refine bodyPost_ret (res_at3 rfl _ _ w.heap.size zeroA _ rfl HR2.out Try.underlying28 rfl infoRc) rfl ?_
  exact ⟨⟨_, _, rfl, zero_got _ _⟩, HD2.out⟩

set_option maxRecDepth 4000 in
set_option maxHeartbeats 3200000 in
theorem rtake7_go (b : ByteArray) (p n : Nat) (q : List UInt8) (eo : Int) (r : Rec) (er : Int) (w : World) (hz : b.size ≤ 140737488355328) (hp : p + n + 6 ≤ b.size) (hn : be ((b.data.toList.drop p).take 2) = n)
    (ho : openS ((b.data.toList.drop p).take (n + 6)) = (q, eo)) (hq : eo = 0 → q.length = n + 2) (hd : decR (q.drop 2) = (r, er)) (ans : Rec × Int × Int)
    (ha0 : eo ≠ 0 → ans = (Rec.zero, 0, 3)) (ha1 : eo = 0 → er = 0 → ans = (r, ((p + n + 6 : Nat) : Int), 0)) (ha2 : eo = 0 → er ≠ 0 → ans = (Rec.zero, 0, 2)) :
    Calls Try.prog 14 #[.string b, .int .i64 (p : Int)] w (TakAns w ans) := by
  have HT := hide (fun w => rtake_any b (p : Int) 2 w (by omega))
  have e1 : beAt b.data.toList (p : Int).toNat (2 : Int).toNat = n := by
    rw [← hn]
    rfl
  rw [takeS_ok b.data.toList (p : Int) 2 (by omega) (by rw [data_length]; omega), e1] at HT
  have hn2 : n < 65536 := two_lt hn
  have HK0 := hide (Keeps.one w 28 zeroA)
  have h1 : ¬ (p : Int) < 0 := by omega
  have h2 : ¬ (b.size : Int) < (p : Int) := by omega
  have h6 : ¬ (b.size : Int) - (p : Int) < (n : Int) + 6 := by omega
  have eF := extract_eq b p (n + 6) (by omega)
  have eq9 : p + (n + 6) = p + n + 6 := by omega
  rw [eq9] at eF
  have HF := hide (fun w => ropen_any (b.extract p (p + n + 6)) w (by rw [eF, size_mk, List.length_take]; omega))
  rw [eF] at HF
  have eL : (⟨((b.data.toList.drop p).take (n + 6)).toArray⟩ : ByteArray).data.toList = (b.data.toList.drop p).take (n + 6) := rfl
  rw [eL, ho, ← eF] at HF
  have HQ : Hid (eo = 0 → (mkS q).size = n + 2) := fun h => by rw [mkS_size]; exact hq h
  have HDE : Hid (eo = 0 → ∀ w, Calls Try.prog 33 #[.string ((mkS q).extract 2 (n + 2))] w (Ans w (q.drop 2))) := fun h w => by
    have hs := hq h
    have e3 : (mkS q).extract 2 (n + 2) = ⟨(q.drop 2).toArray⟩ := by
      have e4 := extract_eq (mkS q) 2 n (by rw [mkS_size]; omega)
      have e5 : (mkS q).data.toList = q := rfl
      rw [Nat.add_comm 2 n, e5, List.take_of_length_le (by rw [List.length_drop]; omega)] at e4
      exact e4
    rw [e3]
    exact rdec_any ⟨(q.drop 2).toArray⟩ w (by rw [size_mk, List.length_drop]; omega)
  unfold Ans at HDE
  rw [hd] at HDE
  have eS : (⟨q.toArray⟩ : ByteArray) = mkS q := rfl
  rw [eS] at HF
  generalize mkS q = S at *
  generalize hFF : b.extract p (p + n + 6) = FF at *
  have HFF := hide hFF
  have HA0 := hide ha0
  have HA1 := hide ha1
  have HA2 := hide ha2
  clear hn e1 eF eL ho hq hd eS hFF ha0 ha1 ha2
  unfold TakAns
  obtain ⟨e9, he9⟩ : ∃ e9, e9 = p + n + 6 := ⟨_, rfl⟩
  rw [← he9] at hp HFF HA1
  have i2 : (p : Int) ≤ (e9 : Int) := by omega
  have i3 : (e9 : Int) ≤ (b.size : Int) := by omega
  have ee : (p : Int) + (n : Int) + 6 = (e9 : Int) := by omega
  have HEE := hide he9
  clear he9 eq9
  go_enter Try.func14, Try.ntmps14
  go_wp2_with fail
  refine (HT.out _).mono ?_
  rintro e w1 ⟨rfl, rfl⟩
  go_wp2_with fail
  rw [HFF.out]
  refine gen_calls (fun x => Hid (Keeps w x [(w.heap.size, 28, zeroA)])) HK0 ?_
  clear HK0
  intro x0 HK0
  refine (HF.out _).mono ?_
  rintro e w2 ⟨rfl, hb2⟩
  have HK2 := hide (HK0.out.later hb2)
  clear HK0 HF hb2 HT h1 h2 h6 i2 i3 ee hp
  by_cases he : eo = 0
  · have hS := HQ.out he
    have HD := hide (HDE.out he)
    have HB1 := hide (HA1.out he)
    have HB2 := hide (HA2.out he)
    subst he
    clear HQ HDE HA0 HA1 HA2
    have i4 : (2 : Int) ≤ (S.size : Int) := by omega
    go_wp2_with fail
    refine (HD.out _).mono ?_
    rintro e w3 ⟨⟨va, vb, rfl, hgot⟩, hb3⟩
    obtain ⟨av, cv, rfl⟩ := own_shape5 hgot.1
    obtain ⟨au, cu, rfl⟩ := own_shape5 hgot.2
    have HG3 : Hid (GotIn w.heap.size w3 r (.slice av r.ts.length cv) (.slice au r.ds.length cu)) := ⟨own_mono hgot.1 HK2.out.2.size, own_mono hgot.2 HK2.out.2.size⟩
    have HK3 := hide (HK2.out.later hb3)
    clear hgot hb3 HK2 HD hS i4
    go_wp2_with (refine wpList_store_at rfl 28 (.tmp 11) (.tmp 60) rfl w3.heap.size zeroA (rcA r (.slice av r.ts.length cv) (.slice au r.ds.length cu)) rfl rfl (RowAt.new w3 28 zeroA) infoRc rfl (by simp [rcA, Value.oneCell']) ?_)
    intro w4 hr4 hk4 _
    have hb4 := hk4 _ _ ((Below.refl w3.heap.size w3).alloc (Nat.le_refl _) _) (Nat.le_refl _)
    have HG4 := hide (HG3.out.below hb4)
    have HK4 : Hid (Keeps w w4 [(w3.heap.size, 28, (rcA r (.slice av r.ts.length cv) (.slice au r.ds.length cu))), (w.heap.size, 28, zeroA)]) := HK3.out.laid hr4 hk4
    clear hr4 hk4 hb4 HG3 HK3
    generalize w3.heap.size = g3 at *
    by_cases hq0 : er = 0
    · have HB := hide (HB1.out hq0)
      subst hq0
      clear HB1 HB2
      go_wp2_with (first | (refine wpList_load_at rfl 28 (.tmp 11) rfl g3 rfl (rcA r (.slice av r.ts.length cv) (.slice au r.ds.length cu)) HK4.out.1.1 _ Try.underlying28 rfl infoRc ?_) | (refine wpList_store_at rfl 28 (.tmp 4) (.tmp 65) rfl w.heap.size zeroA (rcA r (.slice av r.ts.length cv) (.slice au r.ds.length cu)) rfl rfl HK4.out.1.2.1 infoRc rfl (by simp [rcA, Value.oneCell']) ?_))
      intro w5 hr5 hk5 ho5
      have HR5 := hide hr5
      have HD5 := hide (hk5 _ _ HK4.out.2 (Nat.le_refl _))
      have HG5 : Hid (GotIn w.heap.size w5 r (.slice av r.ts.length cv) (.slice au r.ds.length cu)) := ⟨own_put HG4.out.1 HK4.out.1.2.1 (show (28 : TypeId) ≠ 70 by decide) ho5, own_put HG4.out.2 HK4.out.1.2.1 (show (28 : TypeId) ≠ 72 by decide) ho5⟩
      clear hr5 hk5 ho5 HK4 HG4
      go_wp2
      (try simp only [Exit.inBlock, Exit.then])
      refine bodyPost_ret (res_at3 rfl _ _ w.heap.size (rcA r (.slice av r.ts.length cv) (.slice au r.ds.length cu)) _ rfl HR5.out Try.underlying28 rfl infoRc) rfl ?_
      rw [HB.out]
      exact ⟨⟨_, _, rfl, HG5.out⟩, HD5.out⟩
    · have k0 : (er == 0) = false := by rw [beq_eq_false_iff_ne]; exact hq0
      have k1 : (er != 0) = true := by rw [bne, k0]; rfl
      have HB := hide (HB2.out hq0)
      clear hq0 HB1 HB2
      go_wp2_with (refine wpList_store_at rfl 28 (.tmp 4) (.tmp 64) rfl w.heap.size zeroA zeroA rfl rfl HK4.out.1.2.1 infoRc rfl (by simp [zeroA, Value.oneCell']) ?_)
      intro w5 hr5 hk5 _
      have HR5 := hide hr5
      have HD5 := hide (hk5 _ _ HK4.out.2 (Nat.le_refl _))
      clear hr5 hk5 HK4 HG4
      go_wp2
      (try simp only [Exit.inBlock, Exit.then])
      refine bodyPost_ret (res_at3 rfl _ _ w.heap.size zeroA _ rfl HR5.out Try.underlying28 rfl infoRc) rfl ?_
      rw [HB.out]
      exact ⟨⟨_, _, rfl, zero_got _ _⟩, HD5.out⟩
  · have k0 : (eo == 0) = false := by rw [beq_eq_false_iff_ne]; exact he
    have k1 : (eo != 0) = true := by rw [bne, k0]; rfl
    have HB := hide (HA0.out he)
    clear he HQ HDE HA0 HA1 HA2
    go_wp2_with (refine wpList_store_at rfl 28 (.tmp 4) (.tmp 55) rfl w.heap.size zeroA zeroA rfl rfl HK2.out.1.1 infoRc rfl (by simp [zeroA, Value.oneCell']) ?_)
    intro w5 hr5 hk5 _
    have HR5 := hide hr5
    have HD5 := hide (hk5 _ _ HK2.out.2 (Nat.le_refl _))
    clear hr5 hk5 HK2
    go_wp2
    (try simp only [Exit.inBlock, Exit.then])
    refine bodyPost_ret (res_at3 rfl _ _ w.heap.size zeroA _ rfl HR5.out Try.underlying28 rfl infoRc) rfl ?_
    rw [HB.out]
    exact ⟨⟨_, _, rfl, zero_got _ _⟩, HD5.out⟩

/-- THE CONTRACT. -/
theorem rtake7_any (b : ByteArray) (p : Int) (w : World) (hz : b.size ≤ 140737488355328) :
    Calls Try.prog 14 #[.string b, .int .i64 p] w (TakAns w (takF b.data.toList p)) := by
  have hbl := data_length b
  by_cases h1 : p < 0 ∨ (b.data.toList.length : Int) < p
  · have e1 : takF b.data.toList p = (Rec.zero, 0, 1) := by unfold takF; rw [if_pos h1]
    rw [e1]
    exact rtake7_arg b p w (by omega)
  obtain ⟨k, rfl⟩ := Int.eq_ofNat_of_zero_le (show 0 ≤ p by omega)
  have hk : k ≤ b.size := by omega
  have e1 : takF b.data.toList (k : Int) = ((headF (b.data.toList.drop k)).1, if (headF (b.data.toList.drop k)).2.2 = 0 then (k : Int) + ((headF (b.data.toList.drop k)).2.1 : Int) else 0, (headF (b.data.toList.drop k)).2.2) := by
    unfold takF
    rw [if_neg h1]
    rfl
  have hdl : (b.data.toList.drop k).length = b.size - k := by rw [List.length_drop, hbl]
  by_cases h2 : (b.data.toList.drop k).length < 2 ∨ (b.data.toList.drop k).length < be ((b.data.toList.drop k).take 2) + 6
  · have e2 : headF (b.data.toList.drop k) = (Rec.zero, 0, 4) := by unfold headF; rw [if_pos h2]
    rw [e1, e2]
    by_cases h3 : b.size - k < 2
    · exact rtake7_few b k w hz hk h3
    · exact rtake7_short b k _ w hz hk h3 rfl (by omega)
  generalize hn : be ((b.data.toList.drop k).take 2) = n at h2
  have hfl : ((b.data.toList.drop k).take (n + 6)).length = n + 6 := by rw [List.length_take]; omega
  have key := rtake7_go b k n (openS ((b.data.toList.drop k).take (n + 6))).1 (openS ((b.data.toList.drop k).take (n + 6))).2 (decR ((openS ((b.data.toList.drop k).take (n + 6))).1.drop 2)).1 (decR ((openS ((b.data.toList.drop k).take (n + 6))).1.drop 2)).2 w hz (by omega) hn rfl (fun h4 => by
    have h5 := congrArg List.length (seal_open _ h4)
    rw [hfl, sealB_length] at h5
    omega) rfl
  by_cases h4 : (openS ((b.data.toList.drop k).take (n + 6))).2 ≠ 0
  · have e2 : headF (b.data.toList.drop k) = (Rec.zero, 0, 3) := by unfold headF; rw [hn, if_neg h2, if_pos h4]
    rw [e1, e2]
    exact key _ (fun _ => rfl) (fun h => absurd h h4) (fun h => absurd h h4)
  have h4' : (openS ((b.data.toList.drop k).take (n + 6))).2 = 0 := by omega
  by_cases h6 : (decR ((openS ((b.data.toList.drop k).take (n + 6))).1.drop 2)).2 = 0
  · have e2 : headF (b.data.toList.drop k) = ((decR ((openS ((b.data.toList.drop k).take (n + 6))).1.drop 2)).1, n + 6, 0) := by
      unfold headF
      rw [hn, if_neg h2, if_neg h4, if_neg (by omega)]
    rw [e1, e2]
    have e3 : (k : Int) + ((n + 6 : Nat) : Int) = ((k + n + 6 : Nat) : Int) := by omega
    simp only [if_true]
    rw [e3]
    exact key _ (fun h => absurd h4' h) (fun _ _ => rfl) (fun _ h => absurd h6 h)
  · have e2 : headF (b.data.toList.drop k) = (Rec.zero, 0, 2) := by
      unfold headF
      rw [hn, if_neg h2, if_neg h4, if_pos h6]
    rw [e1, e2]
    exact key _ (fun h => absurd h4' h) (fun _ h => absurd h h6) (fun _ _ => rfl)
end Go.Proofs.Ytgobegpmojkhaaa

/-
  The contract of quaysideref06.Same: all but the lists.
-/
namespace Go.Proofs.Ytgobegpmojkhaaa
open Go.RowKit
set_option linter.unusedVariables false

theorem bne_yes {a b : Int} (h : ¬ a = b) : (a != b) = true := by rw [bne, beq_no h]; rfl
theorem bne_no {a b : Int} (h : a = b) : (a != b) = false := by rw [bne, beq_yes h]; rfl
/-- All is alike but the lists. -/
def Rec.flat (a b : Rec) : Prop := a.k = b.k ∧ a.l = b.l ∧ a.t = b.t ∧ a.p = b.p ∧ a.c = b.c ∧ a.n = b.n ∧ a.s = b.s ∧ a.b = b.b

set_option maxRecDepth 4000 in
set_option maxHeartbeats 6400000 in
theorem rsame_no (a b : Rec) (va vb ua ub : Value) (w : World) (hn : ¬ Rec.flat a b) (ha : RcIn w a va vb) (hb : RcIn w b ua ub) :
    Calls Try.prog 15 #[.agg (rcA a va vb), .agg (rcA b ua ub)] w fun e w' => e = .returned (.bool false) ∧ Below w.heap.size w w' := by
  have HN := hide hn
  clear hn
  have HA := hide ha
  have HB := hide hb
  obtain ⟨⟨a1, cap1, rfl, -⟩, ⟨a2, cap2, rfl, -⟩⟩ := ha
  obtain ⟨⟨b1, dap1, rfl, -⟩, ⟨b2, dap2, rfl, -⟩⟩ := hb
  have K0 := Keeps.two w 28 28 (rcA a (.slice a1 a.ts.length cap1) (.slice a2 a.ds.length cap2)) (rcA b (.slice b1 b.ts.length dap1) (.slice b2 b.ds.length dap2))
  have HK := hide K0
  obtain ⟨c0, c1, c2, c3, c9, c10, c11, c12, c13⟩ := rc_cells K0.1.2.1
  obtain ⟨d0, d1, d2, d3, d9, d10, d11, d12, d13⟩ := rc_cells K0.1.1
  obtain ⟨c4, c5, c6, c7, c8⟩ := rc_chg K0.1.2.1
  obtain ⟨d4, d5, d6, d7, d8⟩ := rc_chg K0.1.1
  have hb0 := K0.2
  clear K0
  clear HK HA HB
  by_cases hk : a.k = b.k
  case neg =>
    have gk := beq_no hk
    have kk := bne_yes hk
    clear hk
    clear HN
    go_enter Try.func15, Try.ntmps15
    go_wp2
    go_ret
    exact ⟨rfl, hb0⟩
  have Hk := hide hk
  have gk := beq_yes hk
  have kk := bne_no hk
  clear hk
  by_cases hl : (a.l : Int) = (b.l : Int)
  case neg =>
    have gl := beq_no hl
    have kl := bne_yes hl
    clear hl
    clear HN
    go_enter Try.func15, Try.ntmps15
    go_wp2
    go_ret
    exact ⟨rfl, hb0⟩
  have Hl := hide hl
  have gl := beq_yes hl
  have kl := bne_no hl
  clear hl
  by_cases ht : a.t = b.t
  case neg =>
    have gt := beq_no ht
    have kt := bne_yes ht
    clear ht
    clear HN
    go_enter Try.func15, Try.ntmps15
    go_wp2
    go_ret
    exact ⟨rfl, hb0⟩
  have Ht := hide ht
  have gt := beq_yes ht
  have kt := bne_no ht
  clear ht
  by_cases hp : (a.p : Int) = (b.p : Int)
  case neg =>
    have gp := beq_no hp
    have kp := bne_yes hp
    clear hp
    clear HN
    go_enter Try.func15, Try.ntmps15
    go_wp2
    go_ret
    exact ⟨rfl, hb0⟩
  have Hp := hide hp
  have gp := beq_yes hp
  have kp := bne_no hp
  clear hp
  by_cases hck : a.c.k = b.c.k
  case neg =>
    have gck := beq_no hck
    have kck := bne_yes hck
    clear hck
    clear HN
    go_enter Try.func15, Try.ntmps15
    go_wp2
    go_ret
    exact ⟨rfl, hb0⟩
  have Hck := hide hck
  have gck := beq_yes hck
  have kck := bne_no hck
  clear hck
  by_cases hcp : a.c.pg = b.c.pg
  case neg =>
    have gcp := beq_no hcp
    have kcp := bne_yes hcp
    clear hcp
    clear HN
    go_enter Try.func15, Try.ntmps15
    go_wp2
    go_ret
    exact ⟨rfl, hb0⟩
  have Hcp := hide hcp
  have gcp := beq_yes hcp
  have kcp := bne_no hcp
  clear hcp
  by_cases hcs : a.c.sl = b.c.sl
  case neg =>
    have gcs := beq_no hcs
    have kcs := bne_yes hcs
    clear hcs
    clear HN
    go_enter Try.func15, Try.ntmps15
    go_wp2
    go_ret
    exact ⟨rfl, hb0⟩
  have Hcs := hide hcs
  have gcs := beq_yes hcs
  have kcs := bne_no hcs
  clear hcs
  by_cases hco : a.c.o.toList = b.c.o.toList
  case neg =>
    clear HN
    go_enter Try.func15, Try.ntmps15
    go_wp2
    go_ret
    exact ⟨rfl, hb0⟩
  have Hco := hide hco
  by_cases hcn : a.c.n.toList = b.c.n.toList
  case neg =>
    clear HN
    go_enter Try.func15, Try.ntmps15
    go_wp2
    go_ret
    exact ⟨rfl, hb0⟩
  have Hcn := hide hcn
  by_cases hn : (a.n : Int) = (b.n : Int)
  case neg =>
    have gn := beq_no hn
    have kn := bne_yes hn
    clear hn
    clear HN
    go_enter Try.func15, Try.ntmps15
    go_wp2
    go_ret
    exact ⟨rfl, hb0⟩
  have Hn := hide hn
  have gn := beq_yes hn
  have kn := bne_no hn
  clear hn
  by_cases hs : a.s = b.s
  case neg =>
    have gs := beq_no hs
    have ks := bne_yes hs
    clear hs
    clear HN
    go_enter Try.func15, Try.ntmps15
    go_wp2
    go_ret
    exact ⟨rfl, hb0⟩
  have Hs := hide hs
  have gs := beq_yes hs
  have ks := bne_no hs
  clear hs
  by_cases hb : (a.b : Int) = (b.b : Int)
  case neg =>
    have gb := beq_no hb
    have kb := bne_yes hb
    clear hb
    clear HN
    go_enter Try.func15, Try.ntmps15
    go_wp2
    go_ret
    exact ⟨rfl, hb0⟩
  have Hb := hide hb
  have gb := beq_yes hb
  have kb := bne_no hb
  clear hb
  exact absurd ⟨Hk.out, Int.ofNat_inj.1 Hl.out, Ht.out, Int.ofNat_inj.1 Hp.out, (like_iff _ _).1 ⟨Hck.out, Hcp.out, Hcs.out, str_same Hco.out, str_same Hcn.out⟩, Int.ofNat_inj.1 Hn.out, Hs.out, Int.ofNat_inj.1 Hb.out⟩ HN.out
end Go.Proofs.Ytgobegpmojkhaaa
