/-
  Texts that lean on one another, one behind the other: each opens with its own remark.
-/
import Derived.Test.YtmapgfakfeddmaaK11
import Derived.Test.YtmapgfakfeddmaaK12
import Derived.Test.YtmapgfakfeddmaaK13

/-
  The document's Decode: no kind at all.
-/
namespace Go.Proofs.Ytmapgfakfeddmaa
open Go.RowKit
set_option linter.unusedVariables false

set_option maxRecDepth 6000 in
set_option maxHeartbeats 6400000 in
theorem rdec_short (b : ByteArray) (w : World) (hb : b.size ≤ 140737488355328) (hk : (pNum 1 (⟨b.data.toList, 0⟩ : St)).2.e ≠ 0) :
    Calls Try.prog 16 #[.string b] w fun e w' => Ans w b.data.toList e w' := by
  obtain ⟨s, hs⟩ : ∃ s : St, s = ⟨b.data.toList, 0⟩ := ⟨_, rfl⟩
  have HSS := hide hs
  obtain ⟨kd, s0, h0⟩ : ∃ n s', pNum 1 s = (n, s') := ⟨_, _, rfl⟩
  rw [← hs, h0] at hk
  simp only at hk
  have hkd : kd = 0 := by have := num_zero (k := 1) (s := s) (by rw [h0]; exact hk); rw [h0] at this; exact this
  subst hkd
  have hgd : pIn 1 8 s = pNum 1 s := pin_good (by rw [h0]; exact fun h => hk h.1)
  have HZN : Hid (∀ k, pNum k s0 = (0, s0)) := fun k => by unfold pNum; rw [if_pos hk]
  have HZT : Hid (pText s0 = (⟨#[]⟩, s0)) := by show pText s0 = _; unfold pText; rw [if_pos hk]
  have HPR : Hid ((pRec ⟨b.data.toList, 0⟩).2 = s0) := by
    show (pRec ⟨b.data.toList, 0⟩).2 = s0
    rw [← hs, rec_rest, hgd, h0]
    exact (Good.rest 0).stick s0 hk
  have HNE := hide hk
  have k0 : (s0.e == 0) = false := by rw [beq_eq_false_iff_ne]; exact hk
  clear hk hgd
  have K3 := Keeps.three w 28 60 28 #[.int .i64 0, .int .u64 0, .int .i64 0, .int .u64 0, .int .i64 0, .int .i64 0, .int .i64 0, .string ⟨#[]⟩, .string ⟨#[]⟩, .int .u64 0, .int .i64 0, .int .u64 0, .slice none 0 0, .slice none 0 0] #[.string b, .int .i64 0, .int .i64 0] #[.int .i64 0, .int .u64 0, .int .i64 0, .int .u64 0, .int .i64 0, .int .i64 0, .int .i64 0, .string ⟨#[]⟩, .string ⟨#[]⟩, .int .u64 0, .int .i64 0, .int .u64 0, .slice none 0 0, .slice none 0 0]
  have HI : Hid (DK w (((w.alloc (.cells #[.int .i64 0, .int .u64 0, .int .i64 0, .int .u64 0, .int .i64 0, .int .i64 0, .int .i64 0, .string ⟨#[]⟩, .string ⟨#[]⟩, .int .u64 0, .int .i64 0, .int .u64 0, .slice none 0 0, .slice none 0 0] 28)).alloc (.cells #[.string b, .int .i64 0, .int .i64 0] 60)).alloc (.cells #[.int .i64 0, .int .u64 0, .int .i64 0, .int .u64 0, .int .i64 0, .int .i64 0, .int .i64 0, .string ⟨#[]⟩, .string ⟨#[]⟩, .int .u64 0, .int .i64 0, .int .u64 0, .slice none 0 0, .slice none 0 0] 28)) w.heap.size (w.heap.size + 1) (w.heap.size + 1 + 1) b s Rec.zero (.slice none 0 0) (.slice none 0 0) []) := by
    rw [hs]
    exact ⟨⟨0, K3.1.2.1, Nat.zero_le _, fun _ => ⟨Nat.zero_le _, rfl⟩⟩, K3.1.1, K3.1.2.2.1, K3.2, ⟨World.ownsRow_nil _ _ _ _, World.ownsRow_nil _ _ _ _⟩, trivial⟩
  have HLI0 : Hid (Lie w w.heap.size (w.heap.size + 1) (w.heap.size + 1 + 1)) := ⟨by omega, by omega, by omega, by omega, by omega, by omega⟩
  clear K3
  go_enter Try.func16, Try.ntmps16
  go_wp2_with fail
  obtain ⟨gx, hgx⟩ : ∃ g, g = w.heap.size + 1 + 1 := ⟨_, rfl⟩
  obtain ⟨g, hg⟩ : ∃ g, g = w.heap.size + 1 := ⟨_, rfl⟩
  obtain ⟨gr, hgr⟩ : ∃ g, g = w.heap.size := ⟨_, rfl⟩
  have HLI : Hid (Lie w gr g gx) := by rw [hgx, hg, hgr]; exact HLI0
  have HB : Hid (DK w (((w.alloc (.cells #[.int .i64 0, .int .u64 0, .int .i64 0, .int .u64 0, .int .i64 0, .int .i64 0, .int .i64 0, .string ⟨#[]⟩, .string ⟨#[]⟩, .int .u64 0, .int .i64 0, .int .u64 0, .slice none 0 0, .slice none 0 0] 28)).alloc (.cells #[.string b, .int .i64 0, .int .i64 0] 60)).alloc (.cells #[.int .i64 0, .int .u64 0, .int .i64 0, .int .u64 0, .int .i64 0, .int .i64 0, .int .i64 0, .string ⟨#[]⟩, .string ⟨#[]⟩, .int .u64 0, .int .i64 0, .int .u64 0, .slice none 0 0, .slice none 0 0] 28)) gr g gx b s Rec.zero (.slice none 0 0) (.slice none 0 0) []) := by rw [hgx, hg, hgr]; exact HI
  rw [← hgx, ← hg, ← hgr]
  refine gen_calls (fun x => Hid (DK w x gr g gx b s Rec.zero (.slice none 0 0) (.slice none 0 0) [])) HB ?_
  clear HB HI HLI0 hgx hg hgr hs
  intro y HB
  have Ck := hide (fun x h => rnum_any g b s 1 x (by omega) hb h)
  rw [h0] at Ck
  clear h0
  have Cl := hide (fun x h => rnum_any g b s0 8 x (by omega) hb h)
  rw [HZN.out 8] at Cl
  have Ct := hide (fun x h => rnum_any g b s0 4 x (by omega) hb h)
  rw [HZN.out 4] at Ct
  have Cp := hide (fun x h => rnum_any g b s0 8 x (by omega) hb h)
  rw [HZN.out 8] at Cp
  have Cck := hide (fun x h => rnum_any g b s0 1 x (by omega) hb h)
  rw [HZN.out 1] at Cck
  have Ccp := hide (fun x h => rnum_any g b s0 2 x (by omega) hb h)
  rw [HZN.out 2] at Ccp
  have Ccs := hide (fun x h => rnum_any g b s0 1 x (by omega) hb h)
  rw [HZN.out 1] at Ccs
  have Cco := hide (fun x h => rtext_any g b s0 x hb h)
  rw [HZT.out] at Cco
  have Ccn := hide (fun x h => rtext_any g b s0 x hb h)
  rw [HZT.out] at Ccn
  refine (Ck.out _ HB.out.rd).mono ?_
  rintro e x ⟨rfl, hrd, hgw⟩
  have HX := hide (HB.out.step HLI.out (fun e he => (nomatch he)) hrd hgw)
  clear hrd hgw HB Ck
  have c := HX.out.xr.cell 0 (.int .i64 0) rfl
  have f := HX.out.xr.free 0
  have hst : (Instr.storeAt 3 (.pointer (some ⟨gx, 0, none⟩)) (.int .i64 0)).run Try.prog x = .ok () (x.setCell ⟨gx, 0, none⟩ (.int .i64 0)) := by go_simp
  clear c f
  have HB : Hid (DK w (x.setCell ⟨gx, 0, none⟩ (.int .i64 0)) gr g gx b s0 ⟨0, 0, 0, 0, Ch.zero, 0, 0, 0, [], []⟩ (.slice none 0 0) (.slice none 0 0) []) := HX.out.set HLI.out (fun e he => (nomatch he)) 0 (.int .i64 0) ⟨0, 0, 0, 0, Ch.zero, 0, 0, 0, [], []⟩ rfl rfl rfl
  clear HX
  go_wp2_with (refine wpList_store_one rfl 3 (.tmp 17) (.tmp 16) rfl gx 0 (.int .i64 0) rfl rfl hst ?_; refine gen_w (fun x => Hid (DK w x gr g gx b s0 ⟨0, 0, 0, 0, Ch.zero, 0, 0, 0, [], []⟩ (.slice none 0 0) (.slice none 0 0) [])) HB ?_; clear HB hst; intro y HB; have c0 := HB.out.xr.cell 0 (.int .i64 0) rfl; obtain ⟨k, q, -, -⟩ := HB.out.rd; have c2 := q.cell 2 (.int .i64 s0.e) rfl; clear q)
  clear c2
  refine (Cl.out _ HB.out.rd).mono ?_
  rintro e x ⟨rfl, hrd, hgw⟩
  have HX := hide (HB.out.step HLI.out (fun e he => (nomatch he)) hrd hgw)
  clear hrd hgw HB Cl c0
  have c := HX.out.xr.cell 1 (.int .u64 0) rfl
  have f := HX.out.xr.free 1
  have hst : (Instr.storeAt 22 (.pointer (some ⟨gx, 1, none⟩)) (.int .u64 0)).run Try.prog x = .ok () (x.setCell ⟨gx, 1, none⟩ (.int .u64 0)) := by go_simp
  clear c f
  have HB : Hid (DK w (x.setCell ⟨gx, 1, none⟩ (.int .u64 0)) gr g gx b s0 ⟨0, 0, 0, 0, Ch.zero, 0, 0, 0, [], []⟩ (.slice none 0 0) (.slice none 0 0) []) := HX.out.set HLI.out (fun e he => (nomatch he)) 1 (.int .u64 0) ⟨0, 0, 0, 0, Ch.zero, 0, 0, 0, [], []⟩ rfl rfl rfl
  clear HX
  go_wp2_with (refine wpList_store_one rfl 22 (.tmp 36) (.tmp 35) rfl gx 1 (.int .u64 0) rfl rfl hst ?_; refine gen_w (fun x => Hid (DK w x gr g gx b s0 ⟨0, 0, 0, 0, Ch.zero, 0, 0, 0, [], []⟩ (.slice none 0 0) (.slice none 0 0) [])) HB ?_; clear HB hst; intro y HB; have c0 := HB.out.xr.cell 0 (.int .i64 0) rfl)
  refine (Ct.out _ HB.out.rd).mono ?_
  rintro e x ⟨rfl, hrd, hgw⟩
  have HX := hide (HB.out.step HLI.out (fun e he => (nomatch he)) hrd hgw)
  clear hrd hgw HB Ct c0
  have c := HX.out.xr.cell 2 (.int .i64 0) rfl
  have f := HX.out.xr.free 2
  have hst : (Instr.storeAt 3 (.pointer (some ⟨gx, 2, none⟩)) (.int .i64 0)).run Try.prog x = .ok () (x.setCell ⟨gx, 2, none⟩ (.int .i64 0)) := by go_simp
  clear c f
  have HB : Hid (DK w (x.setCell ⟨gx, 2, none⟩ (.int .i64 0)) gr g gx b s0 ⟨0, 0, 0, 0, Ch.zero, 0, 0, 0, [], []⟩ (.slice none 0 0) (.slice none 0 0) []) := HX.out.set HLI.out (fun e he => (nomatch he)) 2 (.int .i64 0) ⟨0, 0, 0, 0, Ch.zero, 0, 0, 0, [], []⟩ rfl rfl rfl
  clear HX
  go_wp2_with (refine wpList_store_one rfl 3 (.tmp 40) (.tmp 39) rfl gx 2 (.int .i64 0) rfl rfl hst ?_; refine gen_w (fun x => Hid (DK w x gr g gx b s0 ⟨0, 0, 0, 0, Ch.zero, 0, 0, 0, [], []⟩ (.slice none 0 0) (.slice none 0 0) [])) HB ?_; clear HB hst; intro y HB; have c0 := HB.out.xr.cell 0 (.int .i64 0) rfl)
  refine (Cp.out _ HB.out.rd).mono ?_
  rintro e x ⟨rfl, hrd, hgw⟩
  have HX := hide (HB.out.step HLI.out (fun e he => (nomatch he)) hrd hgw)
  clear hrd hgw HB Cp c0
  have c := HX.out.xr.cell 3 (.int .u64 0) rfl
  have f := HX.out.xr.free 3
  have hst : (Instr.storeAt 22 (.pointer (some ⟨gx, 3, none⟩)) (.int .u64 0)).run Try.prog x = .ok () (x.setCell ⟨gx, 3, none⟩ (.int .u64 0)) := by go_simp
  clear c f
  have HB : Hid (DK w (x.setCell ⟨gx, 3, none⟩ (.int .u64 0)) gr g gx b s0 ⟨0, 0, 0, 0, Ch.zero, 0, 0, 0, [], []⟩ (.slice none 0 0) (.slice none 0 0) []) := HX.out.set HLI.out (fun e he => (nomatch he)) 3 (.int .u64 0) ⟨0, 0, 0, 0, Ch.zero, 0, 0, 0, [], []⟩ rfl rfl rfl
  clear HX
  go_wp2_with (refine wpList_store_one rfl 22 (.tmp 43) (.tmp 42) rfl gx 3 (.int .u64 0) rfl rfl hst ?_; refine gen_w (fun x => Hid (DK w x gr g gx b s0 ⟨0, 0, 0, 0, Ch.zero, 0, 0, 0, [], []⟩ (.slice none 0 0) (.slice none 0 0) [])) HB ?_; clear HB hst; intro y HB; have c0 := HB.out.xr.cell 0 (.int .i64 0) rfl)
  refine (Cck.out _ HB.out.rd).mono ?_
  rintro e x ⟨rfl, hrd, hgw⟩
  have HX := hide (HB.out.step HLI.out (fun e he => (nomatch he)) hrd hgw)
  clear hrd hgw HB Cck c0
  have c := HX.out.xr.cell 4 (.int .i64 0) rfl
  have f := HX.out.xr.free 4
  have hst : (Instr.storeAt 3 (.pointer (some ⟨gx, 4, none⟩)) (.int .i64 0)).run Try.prog x = .ok () (x.setCell ⟨gx, 4, none⟩ (.int .i64 0)) := by go_simp
  clear c f
  have HB : Hid (DK w (x.setCell ⟨gx, 4, none⟩ (.int .i64 0)) gr g gx b s0 ⟨0, 0, 0, 0, Ch.zero, 0, 0, 0, [], []⟩ (.slice none 0 0) (.slice none 0 0) []) := HX.out.set HLI.out (fun e he => (nomatch he)) 4 (.int .i64 0) ⟨0, 0, 0, 0, Ch.zero, 0, 0, 0, [], []⟩ rfl rfl rfl
  clear HX
  go_wp2_with (refine wpList_store_one rfl 3 (.tmp 51) (.tmp 49) rfl gx 4 (.int .i64 0) rfl rfl hst ?_; refine gen_w (fun x => Hid (DK w x gr g gx b s0 ⟨0, 0, 0, 0, Ch.zero, 0, 0, 0, [], []⟩ (.slice none 0 0) (.slice none 0 0) [])) HB ?_; clear HB hst; intro y HB; have c0 := HB.out.xr.cell 0 (.int .i64 0) rfl)
  refine (Ccp.out _ HB.out.rd).mono ?_
  rintro e x ⟨rfl, hrd, hgw⟩
  have HX := hide (HB.out.step HLI.out (fun e he => (nomatch he)) hrd hgw)
  clear hrd hgw HB Ccp c0
  have c := HX.out.xr.cell 5 (.int .i64 0) rfl
  have f := HX.out.xr.free 5
  have hst : (Instr.storeAt 3 (.pointer (some ⟨gx, 5, none⟩)) (.int .i64 0)).run Try.prog x = .ok () (x.setCell ⟨gx, 5, none⟩ (.int .i64 0)) := by go_simp
  clear c f
  have HB : Hid (DK w (x.setCell ⟨gx, 5, none⟩ (.int .i64 0)) gr g gx b s0 ⟨0, 0, 0, 0, Ch.zero, 0, 0, 0, [], []⟩ (.slice none 0 0) (.slice none 0 0) []) := HX.out.set HLI.out (fun e he => (nomatch he)) 5 (.int .i64 0) ⟨0, 0, 0, 0, Ch.zero, 0, 0, 0, [], []⟩ rfl rfl rfl
  clear HX
  go_wp2_with (refine wpList_store_one rfl 3 (.tmp 56) (.tmp 54) rfl gx 5 (.int .i64 0) rfl rfl hst ?_; refine gen_w (fun x => Hid (DK w x gr g gx b s0 ⟨0, 0, 0, 0, Ch.zero, 0, 0, 0, [], []⟩ (.slice none 0 0) (.slice none 0 0) [])) HB ?_; clear HB hst; intro y HB; have c0 := HB.out.xr.cell 0 (.int .i64 0) rfl)
  refine (Ccs.out _ HB.out.rd).mono ?_
  rintro e x ⟨rfl, hrd, hgw⟩
  have HX := hide (HB.out.step HLI.out (fun e he => (nomatch he)) hrd hgw)
  clear hrd hgw HB Ccs c0
  have c := HX.out.xr.cell 6 (.int .i64 0) rfl
  have f := HX.out.xr.free 6
  have hst : (Instr.storeAt 3 (.pointer (some ⟨gx, 6, none⟩)) (.int .i64 0)).run Try.prog x = .ok () (x.setCell ⟨gx, 6, none⟩ (.int .i64 0)) := by go_simp
  clear c f
  have HB : Hid (DK w (x.setCell ⟨gx, 6, none⟩ (.int .i64 0)) gr g gx b s0 ⟨0, 0, 0, 0, Ch.zero, 0, 0, 0, [], []⟩ (.slice none 0 0) (.slice none 0 0) []) := HX.out.set HLI.out (fun e he => (nomatch he)) 6 (.int .i64 0) ⟨0, 0, 0, 0, Ch.zero, 0, 0, 0, [], []⟩ rfl rfl rfl
  clear HX
  go_wp2_with (refine wpList_store_one rfl 3 (.tmp 61) (.tmp 59) rfl gx 6 (.int .i64 0) rfl rfl hst ?_; refine gen_w (fun x => Hid (DK w x gr g gx b s0 ⟨0, 0, 0, 0, Ch.zero, 0, 0, 0, [], []⟩ (.slice none 0 0) (.slice none 0 0) [])) HB ?_; clear HB hst; intro y HB; have c0 := HB.out.xr.cell 0 (.int .i64 0) rfl)
  refine (Cco.out _ HB.out.rd).mono ?_
  rintro e x ⟨rfl, hrd, hgw⟩
  have HX := hide (HB.out.step HLI.out (fun e he => (nomatch he)) hrd hgw)
  clear hrd hgw HB Cco c0
  have c := HX.out.xr.cell 7 (.string ⟨#[]⟩) rfl
  have f := HX.out.xr.free 7
  have hst : (Instr.storeAt 9 (.pointer (some ⟨gx, 7, none⟩)) (.string ⟨#[]⟩)).run Try.prog x = .ok () (x.setCell ⟨gx, 7, none⟩ (.string ⟨#[]⟩)) := by go_simp
  clear c f
  have HB : Hid (DK w (x.setCell ⟨gx, 7, none⟩ (.string ⟨#[]⟩)) gr g gx b s0 ⟨0, 0, 0, 0, Ch.zero, 0, 0, 0, [], []⟩ (.slice none 0 0) (.slice none 0 0) []) := HX.out.set HLI.out (fun e he => (nomatch he)) 7 (.string ⟨#[]⟩) ⟨0, 0, 0, 0, Ch.zero, 0, 0, 0, [], []⟩ rfl rfl rfl
  clear HX
  go_wp2_with (refine wpList_store_one rfl 9 (.tmp 65) (.tmp 63) rfl gx 7 (.string ⟨#[]⟩) rfl rfl hst ?_; refine gen_w (fun x => Hid (DK w x gr g gx b s0 ⟨0, 0, 0, 0, Ch.zero, 0, 0, 0, [], []⟩ (.slice none 0 0) (.slice none 0 0) [])) HB ?_; clear HB hst; intro y HB; have c0 := HB.out.xr.cell 0 (.int .i64 0) rfl)
  refine (Ccn.out _ HB.out.rd).mono ?_
  rintro e x ⟨rfl, hrd, hgw⟩
  have HX := hide (HB.out.step HLI.out (fun e he => (nomatch he)) hrd hgw)
  clear hrd hgw HB Ccn c0
  have c := HX.out.xr.cell 8 (.string ⟨#[]⟩) rfl
  have f := HX.out.xr.free 8
  have hst : (Instr.storeAt 9 (.pointer (some ⟨gx, 8, none⟩)) (.string ⟨#[]⟩)).run Try.prog x = .ok () (x.setCell ⟨gx, 8, none⟩ (.string ⟨#[]⟩)) := by go_simp
  clear c f
  have HB : Hid (DK w (x.setCell ⟨gx, 8, none⟩ (.string ⟨#[]⟩)) gr g gx b s0 ⟨0, 0, 0, 0, Ch.zero, 0, 0, 0, [], []⟩ (.slice none 0 0) (.slice none 0 0) []) := HX.out.set HLI.out (fun e he => (nomatch he)) 8 (.string ⟨#[]⟩) ⟨0, 0, 0, 0, Ch.zero, 0, 0, 0, [], []⟩ rfl rfl rfl
  clear HX
  go_wp2_with (refine wpList_store_one rfl 9 (.tmp 69) (.tmp 67) rfl gx 8 (.string ⟨#[]⟩) rfl rfl hst ?_; refine gen_w (fun x => Hid (DK w x gr g gx b s0 ⟨0, 0, 0, 0, Ch.zero, 0, 0, 0, [], []⟩ (.slice none 0 0) (.slice none 0 0) [])) HB ?_; clear HB hst; intro yt HD; refine halt ?_)
  have c0 := HD.out.xr.cell 0 (.int .i64 0) rfl
  obtain ⟨k, q, hkb, hkl⟩ := HD.out.rd
  have c2 := q.cell 2 (.int .i64 s0.e) rfl
  clear q hkl hkb
  have HDD : Hid (decR b.data.toList = (Rec.zero, s0.e)) := by
    show decR b.data.toList = _
    unfold decR
    rw [HPR.out, if_pos HNE.out]
  have k1 : (s0.e != 0) = true := by rw [bne, k0]; rfl
  clear HPR HNE HZN HZT
  generalize s0.e = es at *
  have z0 := HD.out.zr.cell 0 (.int .i64 0) rfl
  have zf0 := HD.out.zr.free 0
  have z1 := HD.out.zr.cell 1 (.int .u64 0) rfl
  have zf1 := HD.out.zr.free 1
  have z2 := HD.out.zr.cell 2 (.int .i64 0) rfl
  have zf2 := HD.out.zr.free 2
  have z3 := HD.out.zr.cell 3 (.int .u64 0) rfl
  have zf3 := HD.out.zr.free 3
  have z4 := HD.out.zr.cell 4 (.int .i64 0) rfl
  have zf4 := HD.out.zr.free 4
  have z5 := HD.out.zr.cell 5 (.int .i64 0) rfl
  have zf5 := HD.out.zr.free 5
  have z6 := HD.out.zr.cell 6 (.int .i64 0) rfl
  have zf6 := HD.out.zr.free 6
  have z7 := HD.out.zr.cell 7 (.string ⟨#[]⟩) rfl
  have zf7 := HD.out.zr.free 7
  have z8 := HD.out.zr.cell 8 (.string ⟨#[]⟩) rfl
  have zf8 := HD.out.zr.free 8
  have z9 := HD.out.zr.cell 9 (.int .u64 0) rfl
  have zf9 := HD.out.zr.free 9
  have z10 := HD.out.zr.cell 10 (.int .i64 0) rfl
  have zf10 := HD.out.zr.free 10
  have z11 := HD.out.zr.cell 11 (.int .u64 0) rfl
  have zf11 := HD.out.zr.free 11
  have z12 := HD.out.zr.cell 12 (.slice none 0 0) rfl
  have zf12 := HD.out.zr.free 12
  have z13 := HD.out.zr.cell 13 (.slice none 0 0) rfl
  have zf13 := HD.out.zr.free 13
  have ne1 := HLI.out.d
  refine unhalt ?_
  go_wp2_with fail
  go_region
  have HRW := hide ((((((((((((((HD.out.zr.setSame 0 (.int .i64 0) rfl).setSame 1 (.int .u64 0) rfl).setSame 2 (.int .i64 0) rfl).setSame 3 (.int .u64 0) rfl).setSame 4 (.int .i64 0) rfl).setSame 5 (.int .i64 0) rfl).setSame 6 (.int .i64 0) rfl).setSame 7 (.string ⟨#[]⟩) rfl).setSame 8 (.string ⟨#[]⟩) rfl).setSame 9 (.int .u64 0) rfl).setSame 10 (.int .i64 0) rfl).setSame 11 (.int .u64 0) rfl).setSame 12 (.slice none 0 0) rfl).setSame 13 (.slice none 0 0) rfl)
  have HBW := hide ((((((((((((((HD.out.bel.set1 HLI.out.a 0 (.int .i64 0)).set1 HLI.out.a 1 (.int .u64 0)).set1 HLI.out.a 2 (.int .i64 0)).set1 HLI.out.a 3 (.int .u64 0)).set1 HLI.out.a 4 (.int .i64 0)).set1 HLI.out.a 5 (.int .i64 0)).set1 HLI.out.a 6 (.int .i64 0)).set1 HLI.out.a 7 (.string ⟨#[]⟩)).set1 HLI.out.a 8 (.string ⟨#[]⟩)).set1 HLI.out.a 9 (.int .u64 0)).set1 HLI.out.a 10 (.int .i64 0)).set1 HLI.out.a 11 (.int .u64 0)).set1 HLI.out.a 12 (.slice none 0 0)).set1 HLI.out.a 13 (.slice none 0 0))
  refine gen_w (fun x => Hid (RowAt x gr 28 #[.int .i64 0, .int .u64 0, .int .i64 0, .int .u64 0, .int .i64 0, .int .i64 0, .int .i64 0, .string ⟨#[]⟩, .string ⟨#[]⟩, .int .u64 0, .int .i64 0, .int .u64 0, .slice none 0 0, .slice none 0 0]) ∧ Hid (Below w.heap.size w x)) (x := ((((((((((((((yt.setCell ⟨gr, 0, none⟩ (.int .i64 0)).setCell ⟨gr, 1, none⟩ (.int .u64 0)).setCell ⟨gr, 2, none⟩ (.int .i64 0)).setCell ⟨gr, 3, none⟩ (.int .u64 0)).setCell ⟨gr, 4, none⟩ (.int .i64 0)).setCell ⟨gr, 5, none⟩ (.int .i64 0)).setCell ⟨gr, 6, none⟩ (.int .i64 0)).setCell ⟨gr, 7, none⟩ (.string ⟨#[]⟩)).setCell ⟨gr, 8, none⟩ (.string ⟨#[]⟩)).setCell ⟨gr, 9, none⟩ (.int .u64 0)).setCell ⟨gr, 10, none⟩ (.int .i64 0)).setCell ⟨gr, 11, none⟩ (.int .u64 0)).setCell ⟨gr, 12, none⟩ (.slice none 0 0)).setCell ⟨gr, 13, none⟩ (.slice none 0 0)).drew) ⟨hide (rowat_drew HRW.out), hide (below_drew HBW.out)⟩ ?_
  clear HD HRW HBW z0 zf0 z1 zf1 z2 zf2 z3 zf3 z4 zf4 z5 zf5 z6 zf6 z7 zf7 z8 zf8 z9 zf9 z10 zf10 z11 zf11 z12 zf12 z13 zf13 ne1 c2 c0
  rintro y0 ⟨HROW, HBL⟩
  go_wp2
  (try simp only [Exit.inBlock, Exit.then])
  refine bodyPost_ret (res_at rfl _ _ gr #[.int .i64 0, .int .u64 0, .int .i64 0, .int .u64 0, .int .i64 0, .int .i64 0, .int .i64 0, .string ⟨#[]⟩, .string ⟨#[]⟩, .int .u64 0, .int .i64 0, .int .u64 0, .slice none 0 0, .slice none 0 0] _ rfl HROW.out Try.underlying28 rfl infoRc) rfl ?_
  show Ans _ _ _ _
  unfold Ans
  rw [HDD.out]
  exact ⟨⟨_, _, rfl, World.ownsRow_nil _ _ _ _, World.ownsRow_nil _ _ _ _⟩, HBL.out⟩
end Go.Proofs.Ytmapgfakfeddmaa

/-
  The contract of quaysideref06.Decode.
-/
namespace Go.Proofs.Ytmapgfakfeddmaa
open Go.RowKit
set_option linter.unusedVariables false

/-- THE CONTRACT. -/
theorem rdec_any (b : ByteArray) (w : World) (hb : b.size ≤ 140737488355328) :
    Calls Try.prog 16 #[.string b] w fun e w' => Ans w b.data.toList e w' := by
  by_cases he : (pNum 1 (⟨b.data.toList, 0⟩ : St)).2.e = 0
  · by_cases hk : (pNum 1 (⟨b.data.toList, 0⟩ : St)).1 < 1 ∨ 8 < (pNum 1 (⟨b.data.toList, 0⟩ : St)).1
    · exact rdec_bad b w hb ⟨he, hk⟩
    by_cases k1 : (pNum 1 (⟨b.data.toList, 0⟩ : St)).1 = 1
    · exact rdec_1 b w hb ⟨he, k1⟩
    by_cases k2 : (pNum 1 (⟨b.data.toList, 0⟩ : St)).1 = 2
    · exact rdec_2 b w hb ⟨he, k2⟩
    by_cases k6 : (pNum 1 (⟨b.data.toList, 0⟩ : St)).1 = 6
    · exact rdec_6 b w hb ⟨he, k6⟩
    by_cases k8 : (pNum 1 (⟨b.data.toList, 0⟩ : St)).1 = 8
    · exact rdec_8 b w hb ⟨he, k8⟩
    exact rdec_end b w hb ⟨he, by omega⟩
  · exact rdec_short b w hb he
end Go.Proofs.Ytmapgfakfeddmaa
