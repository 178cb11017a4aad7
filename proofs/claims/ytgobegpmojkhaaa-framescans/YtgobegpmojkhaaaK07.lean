/-
  Texts that lean on one another, one behind the other: each opens with its own remark.
-/
import Derived.Test.YtgobegpmojkhaaaK06

/-
  The document's Decode: kind 8.
-/
namespace Go.Proofs.Ytgobegpmojkhaaa
open Go.RowKit
set_option linter.unusedVariables false

set_option maxRecDepth 6000 in
set_option maxHeartbeats 6400000 in
theorem rdec_8 (b : ByteArray) (w : World) (hb : b.size ≤ 140737488355328) (hk : (pNum 1 (⟨b.data.toList, 0⟩ : St)).2.e = 0 ∧ (pNum 1 (⟨b.data.toList, 0⟩ : St)).1 = 8) :
    Calls Try.prog 33 #[.string b] w fun e w' => Ans w b.data.toList e w' := by
  obtain ⟨s, hs⟩ : ∃ s : St, s = ⟨b.data.toList, 0⟩ := ⟨_, rfl⟩
  have HSS := hide hs
  obtain ⟨kd, s0, h0⟩ : ∃ n s', pNum 1 s = (n, s') := ⟨_, _, rfl⟩
  rw [← hs, h0] at hk
  simp only at hk
  have hgd : pIn 1 8 s = pNum 1 s := pin_good (by rw [h0]; simp only; omega)
  have he0 := hk.1
  obtain rfl : kd = 8 := hk.2
  clear hk
  obtain ⟨l, s1, hl⟩ : ∃ n s', pNum 8 s0 = (n, s') := ⟨_, _, rfl⟩
  obtain ⟨t, s2, ht⟩ : ∃ n s', pNum 4 s1 = (n, s') := ⟨_, _, rfl⟩
  have bt : t < 256 ^ 4 := by have := num_lt 4 s1; rw [ht] at this; exact this
  have ewt := conv_i64 t (by omega)
  clear bt
  obtain ⟨p, s3, hp⟩ : ∃ n s', pNum 8 s2 = (n, s') := ⟨_, _, rfl⟩
  obtain ⟨bg, s4, hbg⟩ : ∃ n s', pNum 8 s3 = (n, s') := ⟨_, _, rfl⟩
  obtain ⟨n, sA, hA⟩ : ∃ n s', pIn 0 16 s4 = (n, s') := ⟨_, _, rfl⟩
  have hn255 : n ≤ 255 := by
    have h1 := in_val 0 16 s4
    rw [hA] at h1
    have := num_lt 1 s4
    omega
  have HPR0 : Hid (pRec s = (⟨8, l, t, p, Ch.zero, 0, 0, bg, (pSome pTx n sA).1, (pSome pDi (pIn 0 32 (pSome pTx n sA).2).1 (pIn 0 32 (pSome pTx n sA).2).2).1⟩, (pSome pDi (pIn 0 32 (pSome pTx n sA).2).1 (pIn 0 32 (pSome pTx n sA).2).2).2)) := by
    show pRec s = _
    rw [rec_rest, hgd, h0]
    simp [recRest, bindP, pureP, pMay, pCheck, hl, ht, hp, hbg, hA]
  clear hgd
  have K3 := Keeps.three w 28 97 28 #[.int .i64 0, .int .u64 0, .int .i64 0, .int .u64 0, .int .i64 0, .int .i64 0, .int .i64 0, .string ⟨#[]⟩, .string ⟨#[]⟩, .int .u64 0, .int .i64 0, .int .u64 0, .slice none 0 0, .slice none 0 0] #[.string b, .int .i64 0, .int .i64 0] #[.int .i64 0, .int .u64 0, .int .i64 0, .int .u64 0, .int .i64 0, .int .i64 0, .int .i64 0, .string ⟨#[]⟩, .string ⟨#[]⟩, .int .u64 0, .int .i64 0, .int .u64 0, .slice none 0 0, .slice none 0 0]
  have HI : Hid (DK w (((w.alloc (.cells #[.int .i64 0, .int .u64 0, .int .i64 0, .int .u64 0, .int .i64 0, .int .i64 0, .int .i64 0, .string ⟨#[]⟩, .string ⟨#[]⟩, .int .u64 0, .int .i64 0, .int .u64 0, .slice none 0 0, .slice none 0 0] 28)).alloc (.cells #[.string b, .int .i64 0, .int .i64 0] 97)).alloc (.cells #[.int .i64 0, .int .u64 0, .int .i64 0, .int .u64 0, .int .i64 0, .int .i64 0, .int .i64 0, .string ⟨#[]⟩, .string ⟨#[]⟩, .int .u64 0, .int .i64 0, .int .u64 0, .slice none 0 0, .slice none 0 0] 28)) w.heap.size (w.heap.size + 1) (w.heap.size + 1 + 1) b s Rec.zero (.slice none 0 0) (.slice none 0 0) []) := by
    rw [hs]
    exact ⟨⟨0, K3.1.2.1, Nat.zero_le _, fun _ => ⟨Nat.zero_le _, rfl⟩⟩, K3.1.1, K3.1.2.2.1, K3.2, ⟨World.ownsRow_nil _ _ _ _, World.ownsRow_nil _ _ _ _⟩, trivial⟩
  have HLI0 : Hid (Lie w w.heap.size (w.heap.size + 1) (w.heap.size + 1 + 1)) := ⟨by omega, by omega, by omega, by omega, by omega, by omega⟩
  clear K3
  go_enter Try.func33, Try.ntmps33
  go_wp2_with fail
  obtain ⟨gx, hgx⟩ : ∃ g, g = w.heap.size + 1 + 1 := ⟨_, rfl⟩
  obtain ⟨g, hg⟩ : ∃ g, g = w.heap.size + 1 := ⟨_, rfl⟩
  obtain ⟨gr, hgr⟩ : ∃ g, g = w.heap.size := ⟨_, rfl⟩
  have HLI : Hid (Lie w gr g gx) := by rw [hgx, hg, hgr]; exact HLI0
  have HB : Hid (DK w (((w.alloc (.cells #[.int .i64 0, .int .u64 0, .int .i64 0, .int .u64 0, .int .i64 0, .int .i64 0, .int .i64 0, .string ⟨#[]⟩, .string ⟨#[]⟩, .int .u64 0, .int .i64 0, .int .u64 0, .slice none 0 0, .slice none 0 0] 28)).alloc (.cells #[.string b, .int .i64 0, .int .i64 0] 97)).alloc (.cells #[.int .i64 0, .int .u64 0, .int .i64 0, .int .u64 0, .int .i64 0, .int .i64 0, .int .i64 0, .string ⟨#[]⟩, .string ⟨#[]⟩, .int .u64 0, .int .i64 0, .int .u64 0, .slice none 0 0, .slice none 0 0] 28)) gr g gx b s Rec.zero (.slice none 0 0) (.slice none 0 0) []) := by rw [hgx, hg, hgr]; exact HI
  rw [← hgx, ← hg, ← hgr]
  refine gen_calls (fun x => Hid (DK w x gr g gx b s Rec.zero (.slice none 0 0) (.slice none 0 0) [])) HB ?_
  clear HB HI HLI0 hgx hg hgr hs
  intro y HB
  have Ck := hide (fun x h => rnum_any g b s 1 x (by omega) hb h)
  rw [h0] at Ck
  have Cl := hide (fun x h => rnum_any g b s0 8 x (by omega) hb h)
  rw [hl] at Cl
  have Ct := hide (fun x h => rnum_any g b s1 4 x (by omega) hb h)
  rw [ht] at Ct
  have Cp := hide (fun x h => rnum_any g b s2 8 x (by omega) hb h)
  rw [hp] at Cp
  have Cbg := hide (fun x h => rnum_any g b s3 8 x (by omega) hb h)
  rw [hbg] at Cbg
  have CA := hide (fun x h => rmany_any g b s4 16 x hb h)
  rw [hA] at CA
  clear h0 hl ht hp hbg hA
  refine (Ck.out _ HB.out.rd).mono ?_
  rintro e x ⟨rfl, hrd, hgw⟩
  have HX := hide (HB.out.step HLI.out (fun e he => (nomatch he)) hrd hgw)
  clear hrd hgw HB Ck
  have c := HX.out.xr.cell 0 (.int .i64 0) rfl
  have f := HX.out.xr.free 0
  have hst : (Instr.storeAt 3 (.pointer (some ⟨gx, 0, none⟩)) (.int .i64 8)).run Try.prog x = .ok () (x.setCell ⟨gx, 0, none⟩ (.int .i64 8)) := by go_simp
  clear c f
  have HB : Hid (DK w (x.setCell ⟨gx, 0, none⟩ (.int .i64 8)) gr g gx b s0 ⟨8, 0, 0, 0, Ch.zero, 0, 0, 0, [], []⟩ (.slice none 0 0) (.slice none 0 0) []) := HX.out.set HLI.out (fun e he => (nomatch he)) 0 (.int .i64 8) ⟨8, 0, 0, 0, Ch.zero, 0, 0, 0, [], []⟩ rfl rfl rfl
  clear HX
  go_wp2_with (refine wpList_store_one rfl 3 (.tmp 17) (.tmp 16) rfl gx 0 (.int .i64 8) rfl rfl hst ?_; refine gen_w (fun x => Hid (DK w x gr g gx b s0 ⟨8, 0, 0, 0, Ch.zero, 0, 0, 0, [], []⟩ (.slice none 0 0) (.slice none 0 0) [])) HB ?_; clear HB hst; intro y HB; have c0 := HB.out.xr.cell 0 (.int .i64 8) rfl; obtain ⟨k, q, -, -⟩ := HB.out.rd; have c2 := q.cell 2 (.int .i64 0) (by rw [he0]; rfl); clear q)
  clear c2
  refine (Cl.out _ HB.out.rd).mono ?_
  rintro e x ⟨rfl, hrd, hgw⟩
  have HX := hide (HB.out.step HLI.out (fun e he => (nomatch he)) hrd hgw)
  clear hrd hgw HB Cl c0
  have c := HX.out.xr.cell 1 (.int .u64 0) rfl
  have f := HX.out.xr.free 1
  have hst : (Instr.storeAt 22 (.pointer (some ⟨gx, 1, none⟩)) (.int .u64 ((l : Nat) : Int))).run Try.prog x = .ok () (x.setCell ⟨gx, 1, none⟩ (.int .u64 ((l : Nat) : Int))) := by go_simp
  clear c f
  have HB : Hid (DK w (x.setCell ⟨gx, 1, none⟩ (.int .u64 ((l : Nat) : Int))) gr g gx b s1 ⟨8, l, 0, 0, Ch.zero, 0, 0, 0, [], []⟩ (.slice none 0 0) (.slice none 0 0) []) := HX.out.set HLI.out (fun e he => (nomatch he)) 1 (.int .u64 ((l : Nat) : Int)) ⟨8, l, 0, 0, Ch.zero, 0, 0, 0, [], []⟩ rfl rfl rfl
  clear HX
  go_wp2_with (refine wpList_store_one rfl 22 (.tmp 36) (.tmp 35) rfl gx 1 (.int .u64 ((l : Nat) : Int)) rfl rfl hst ?_; refine gen_w (fun x => Hid (DK w x gr g gx b s1 ⟨8, l, 0, 0, Ch.zero, 0, 0, 0, [], []⟩ (.slice none 0 0) (.slice none 0 0) [])) HB ?_; clear HB hst; intro y HB; have c0 := HB.out.xr.cell 0 (.int .i64 8) rfl)
  refine (Ct.out _ HB.out.rd).mono ?_
  rintro e x ⟨rfl, hrd, hgw⟩
  have HX := hide (HB.out.step HLI.out (fun e he => (nomatch he)) hrd hgw)
  clear hrd hgw HB Ct c0
  have c := HX.out.xr.cell 2 (.int .i64 0) rfl
  have f := HX.out.xr.free 2
  have hst : (Instr.storeAt 3 (.pointer (some ⟨gx, 2, none⟩)) (.int .i64 ((t : Nat) : Int))).run Try.prog x = .ok () (x.setCell ⟨gx, 2, none⟩ (.int .i64 ((t : Nat) : Int))) := by go_simp
  clear c f
  have HB : Hid (DK w (x.setCell ⟨gx, 2, none⟩ (.int .i64 ((t : Nat) : Int))) gr g gx b s2 ⟨8, l, t, 0, Ch.zero, 0, 0, 0, [], []⟩ (.slice none 0 0) (.slice none 0 0) []) := HX.out.set HLI.out (fun e he => (nomatch he)) 2 (.int .i64 ((t : Nat) : Int)) ⟨8, l, t, 0, Ch.zero, 0, 0, 0, [], []⟩ rfl rfl rfl
  clear HX
  go_wp2_with (refine wpList_store_one rfl 3 (.tmp 40) (.tmp 39) rfl gx 2 (.int .i64 ((t : Nat) : Int)) rfl rfl hst ?_; refine gen_w (fun x => Hid (DK w x gr g gx b s2 ⟨8, l, t, 0, Ch.zero, 0, 0, 0, [], []⟩ (.slice none 0 0) (.slice none 0 0) [])) HB ?_; clear HB hst; intro y HB; have c0 := HB.out.xr.cell 0 (.int .i64 8) rfl)
  refine (Cp.out _ HB.out.rd).mono ?_
  rintro e x ⟨rfl, hrd, hgw⟩
  have HX := hide (HB.out.step HLI.out (fun e he => (nomatch he)) hrd hgw)
  clear hrd hgw HB Cp c0
  have c := HX.out.xr.cell 3 (.int .u64 0) rfl
  have f := HX.out.xr.free 3
  have hst : (Instr.storeAt 22 (.pointer (some ⟨gx, 3, none⟩)) (.int .u64 ((p : Nat) : Int))).run Try.prog x = .ok () (x.setCell ⟨gx, 3, none⟩ (.int .u64 ((p : Nat) : Int))) := by go_simp
  clear c f
  have HB : Hid (DK w (x.setCell ⟨gx, 3, none⟩ (.int .u64 ((p : Nat) : Int))) gr g gx b s3 ⟨8, l, t, p, Ch.zero, 0, 0, 0, [], []⟩ (.slice none 0 0) (.slice none 0 0) []) := HX.out.set HLI.out (fun e he => (nomatch he)) 3 (.int .u64 ((p : Nat) : Int)) ⟨8, l, t, p, Ch.zero, 0, 0, 0, [], []⟩ rfl rfl rfl
  clear HX
  go_wp2_with (refine wpList_store_one rfl 22 (.tmp 43) (.tmp 42) rfl gx 3 (.int .u64 ((p : Nat) : Int)) rfl rfl hst ?_; refine gen_w (fun x => Hid (DK w x gr g gx b s3 ⟨8, l, t, p, Ch.zero, 0, 0, 0, [], []⟩ (.slice none 0 0) (.slice none 0 0) [])) HB ?_; clear HB hst; intro y HB; have c0 := HB.out.xr.cell 0 (.int .i64 8) rfl)
  refine (Cbg.out _ HB.out.rd).mono ?_
  rintro e x ⟨rfl, hrd, hgw⟩
  have HX := hide (HB.out.step HLI.out (fun e he => (nomatch he)) hrd hgw)
  clear hrd hgw HB Cbg c0
  have c := HX.out.xr.cell 11 (.int .u64 0) rfl
  have f := HX.out.xr.free 11
  have hst : (Instr.storeAt 22 (.pointer (some ⟨gx, 11, none⟩)) (.int .u64 ((bg : Nat) : Int))).run Try.prog x = .ok () (x.setCell ⟨gx, 11, none⟩ (.int .u64 ((bg : Nat) : Int))) := by go_simp
  clear c f
  have HB : Hid (DK w (x.setCell ⟨gx, 11, none⟩ (.int .u64 ((bg : Nat) : Int))) gr g gx b s4 ⟨8, l, t, p, Ch.zero, 0, 0, bg, [], []⟩ (.slice none 0 0) (.slice none 0 0) []) := HX.out.set HLI.out (fun e he => (nomatch he)) 11 (.int .u64 ((bg : Nat) : Int)) ⟨8, l, t, p, Ch.zero, 0, 0, bg, [], []⟩ rfl rfl rfl
  clear HX
  go_wp2_with (refine wpList_store_one rfl 22 (.tmp 87) (.tmp 86) rfl gx 11 (.int .u64 ((bg : Nat) : Int)) rfl rfl hst ?_; refine gen_w (fun x => Hid (DK w x gr g gx b s4 ⟨8, l, t, p, Ch.zero, 0, 0, bg, [], []⟩ (.slice none 0 0) (.slice none 0 0) [])) HB ?_; clear HB hst; intro y HB; have c0 := HB.out.xr.cell 0 (.int .i64 8) rfl)
  refine (CA.out _ HB.out.rd).mono ?_
  rintro e xA ⟨rfl, hrd, hgw⟩
  have HX := hide (HB.out.step HLI.out (fun e he => (nomatch he)) hrd hgw)
  clear hrd hgw HB CA c0
  have HB := HX
  clear HX
  go_wp2
  go_loopw [7, 8] (fun v _ wr => ∃ j : Nat, j ≤ n ∧ v = .int .u64 j ∧ ∃ vl, DK w wr gr g gx b (itS pTx j sA) ⟨8, l, t, p, Ch.zero, 0, 0, bg, (itL pTx j sA), []⟩ vl (.slice none 0 0) []) (fun v _ _ => n - (intOf v).toNat)
  case atStart => exact ⟨0, Nat.zero_le _, rfl, _, HB.out⟩
  case round =>
    obtain ⟨j, hj, rfl, vl, hdk⟩ := hrel
    have HB' := hide hdk
    clear hdk HB
    obtain ⟨S, hS⟩ : ∃ S, S = itS pTx j sA := ⟨_, rfl⟩
    obtain ⟨LST, hLST⟩ : ∃ LST, LST = itL pTx j sA := ⟨_, rfl⟩
    have hll : LST.length = j := by rw [hLST, itL_length]
    have HB := HB'
    clear HB'
    rw [← hS, ← hLST] at HB
    have HS := hide hS
    have HLST := hide hLST
    have HLL := hide hll
    clear hS hLST hll
    obtain ⟨kq, q, -, -⟩ := HB.out.rd
    have c2 := q.cell 2 (.int .i64 S.e) rfl
    clear q
    by_cases hjn : j < n
    case neg =>
      have jn : ¬ ((j : Int) < (n : Int)) := by omega
      have HEX : Hid (j = n ∨ S.e ≠ 0) := .inl (by omega)
      have ex1 := exit_state Good.tx hj (s := sA) (by rw [← HS.out]; exact HEX.out)
      rw [← HS.out, ← HLST.out] at ex1
      obtain ⟨S1, hS1⟩ : ∃ S1, S1 = S := ⟨_, rfl⟩
      obtain ⟨LS1, hLS1⟩ : ∃ L, L = LST := ⟨_, rfl⟩
      rw [← hS1, ← hLS1] at ex1
      rw [← hS1, ← hLS1] at HB
      have HS1 := hide ex1
      obtain ⟨m, sB, hB0⟩ : ∃ n s', pIn 0 32 S1 = (n, s') := ⟨_, _, rfl⟩
      have hm255 : m ≤ 255 := by
        have h1 := in_val 0 32 S1
        rw [hB0] at h1
        have := num_lt 1 S1
        omega
      have CB := hide (fun x h => rmany_any g b S1 32 x hb h)
      rw [hB0] at CB
      have hB := hide hB0
      obtain ⟨va, hva1⟩ : ∃ v, v = vl := ⟨_, rfl⟩
      rw [← hva1] at HB
      have HL1 : Hid (LS1.length = j) := by show LS1.length = j; rw [hLS1]; exact HLL.out
      clear ex1 hB0 hva1 HS HLST HLL HEX hLS1
      go_wp2_with fail
      clear c2 hS1
      refine (CB.out _ HB.out.rd).mono ?_
      rintro e xB ⟨rfl, hrd, hgw⟩
      have HX := hide (HB.out.step HLI.out (fun e he => (nomatch he)) hrd hgw)
      clear hrd hgw HB CB
      have HB := HX
      clear HX
      go_wp2
      go_loopw [9, 10] (fun v _ wr => ∃ j2 : Nat, j2 ≤ m ∧ v = .int .u64 j2 ∧ ∃ vl, DK w wr gr g gx b (itS pDi j2 sB) ⟨8, l, t, p, Ch.zero, 0, 0, bg, LS1, (itL pDi j2 sB)⟩ va vl []) (fun v _ _ => m - (intOf v).toNat)
      case atStart => exact ⟨0, Nat.zero_le _, rfl, _, HB.out⟩
      case round =>
        obtain ⟨j2, hj2, rfl, vl, hdk⟩ := hrel
        have HB' := hide hdk
        clear hdk HB
        obtain ⟨S, hS⟩ : ∃ S, S = itS pDi j2 sB := ⟨_, rfl⟩
        obtain ⟨LST, hLST⟩ : ∃ LST, LST = itL pDi j2 sB := ⟨_, rfl⟩
        have hll : LST.length = j2 := by rw [hLST, itL_length]
        have HB := HB'
        clear HB'
        rw [← hS, ← hLST] at HB
        have HS := hide hS
        have HLST := hide hLST
        have HLL := hide hll
        clear hS hLST hll
        obtain ⟨kq, q, -, -⟩ := HB.out.rd
        have c2 := q.cell 2 (.int .i64 S.e) rfl
        clear q
        by_cases hjn : j2 < m
        case neg =>
          have jn : ¬ ((j2 : Int) < (m : Int)) := by omega
          have HEX : Hid (j2 = m ∨ S.e ≠ 0) := .inl (by omega)
          have HD := HB
          clear HB
          have HPR : Hid ((pRec ⟨b.data.toList, 0⟩).2 = S ∧ (S.e = 0 → (pRec ⟨b.data.toList, 0⟩).1 = ⟨8, l, t, p, Ch.zero, 0, 0, bg, LS1, LST⟩)) := by
            have ex := exit_state Good.di hj2 (s := sB) (by rw [← HS.out]; exact HEX.out)
            rw [← HS.out, ← HLST.out] at ex
            rw [← HSS.out, HPR0.out, HS1.out.1, hB.out]
            refine ⟨ex.1, fun h => ?_⟩
            have hS1e : S1.e = 0 := by
              by_cases hh : S1.e = 0
              · exact hh
              · have e3 : pNum 1 S1 = (0, S1) := by unfold pNum; rw [if_pos hh]
                have e4 := (Good.in 0 32).stick S1 hh
                rw [hB.out] at e4
                have e5 : (pSome pDi m sB).2 = S := ex.1
                have e6 := (Good.some Good.di m).stick sB (by show sB.e ≠ 0; rw [show sB = S1 from e4]; exact hh)
                rw [e5] at e6
                rw [e6, show sB = S1 from e4] at h
                exact absurd h hh
            rw [HS1.out.2 hS1e]
            show (⟨8, l, t, p, Ch.zero, 0, 0, bg, LS1, (pSome pDi m sB).1⟩ : Rec) = _
            rw [ex.2 h]
          clear HPR0 HEX HS1 hB HS HLST HLL c2
          obtain ⟨r, hrr⟩ : ∃ r : Rec, r = ⟨8, l, t, p, Ch.zero, 0, 0, bg, LS1, LST⟩ := ⟨_, rfl⟩
          rw [← hrr] at HD HPR
          clear hrr
          obtain ⟨vb, hvb0⟩ : ∃ v, v = vl := ⟨_, rfl⟩
          rw [← hvb0] at HD
          clear hvb0
          obtain ⟨s', hs'⟩ : ∃ s', s' = S := ⟨_, rfl⟩
          rw [← hs'] at HD HPR
          clear hs'
          obtain ⟨yt, hyt⟩ : ∃ y, y = wr := ⟨_, rfl⟩
          rw [← hyt] at HD
          rw [← hyt]
          clear hyt
          refine halt ?_
          obtain ⟨k, q, hkb, hkl⟩ := HD.out.rd
          have c2 := q.cell 2 (.int .i64 s'.e) rfl
          have c1 := q.cell 1 (.int .i64 (k : Int)) rfl
          have HKL := hide hkl
          clear q hkl
          have HDR : Hid (decR b.data.toList = if (pRec ⟨b.data.toList, 0⟩).2.e ≠ 0 then (Rec.zero, (pRec ⟨b.data.toList, 0⟩).2.e) else if (pRec ⟨b.data.toList, 0⟩).2.l ≠ [] ∨ (pRec ⟨b.data.toList, 0⟩).1.rightB = false then (Rec.zero, 2) else ((pRec ⟨b.data.toList, 0⟩).1, 0)) := rfl
          by_cases he : s'.e = 0
          case neg =>
            have hdr : decR b.data.toList = (Rec.zero, s'.e) := by rw [HDR.out, HPR.out.1, if_pos he]
            have HDD := hide hdr
            have k0 : (s'.e == 0) = false := by rw [beq_eq_false_iff_ne]; exact he
            have k1 : (s'.e != 0) = true := by rw [bne, k0]; rfl
            clear hdr HDR he HPR HKL c1 hkb
            generalize s'.e = es at *
            have z0 := HD.out.zr.cell 0 (.int .i64 0) rfl
            have zf0 := HD.out.zr.free 0
            have z1 := HD.out.zr.cell 1 (.int .u64 0) rfl
            have zf1 := HD.out.zr.free 1
            have z2 := HD.out.zr.cell 2 (.int .i64 0) rfl
            have zf2 := HD.out.zr.free 2
            have z3 := HD.out.zr.cell 3 (.int .u64 0) rfl
            have zf3 := HD.out.zr.free 3
            have z4 := HD.out.zr.cell 4 (.int .i64 0) rfl
            have zf4 := HD.out.zr.free 4
            have z5 := HD.out.zr.cell 5 (.int .i64 0) rfl
            have zf5 := HD.out.zr.free 5
            have z6 := HD.out.zr.cell 6 (.int .i64 0) rfl
            have zf6 := HD.out.zr.free 6
            have z7 := HD.out.zr.cell 7 (.string ⟨#[]⟩) rfl
            have zf7 := HD.out.zr.free 7
            have z8 := HD.out.zr.cell 8 (.string ⟨#[]⟩) rfl
            have zf8 := HD.out.zr.free 8
            have z9 := HD.out.zr.cell 9 (.int .u64 0) rfl
            have zf9 := HD.out.zr.free 9
            have z10 := HD.out.zr.cell 10 (.int .i64 0) rfl
            have zf10 := HD.out.zr.free 10
            have z11 := HD.out.zr.cell 11 (.int .u64 0) rfl
            have zf11 := HD.out.zr.free 11
            have z12 := HD.out.zr.cell 12 (.slice none 0 0) rfl
            have zf12 := HD.out.zr.free 12
            have z13 := HD.out.zr.cell 13 (.slice none 0 0) rfl
            have zf13 := HD.out.zr.free 13
            have ne1 := HLI.out.d
            refine unhalt ?_
            go_wp2_with fail
            go_region
            have HRW := hide ((((((((((((((HD.out.zr.setSame 0 (.int .i64 0) rfl).setSame 1 (.int .u64 0) rfl).setSame 2 (.int .i64 0) rfl).setSame 3 (.int .u64 0) rfl).setSame 4 (.int .i64 0) rfl).setSame 5 (.int .i64 0) rfl).setSame 6 (.int .i64 0) rfl).setSame 7 (.string ⟨#[]⟩) rfl).setSame 8 (.string ⟨#[]⟩) rfl).setSame 9 (.int .u64 0) rfl).setSame 10 (.int .i64 0) rfl).setSame 11 (.int .u64 0) rfl).setSame 12 (.slice none 0 0) rfl).setSame 13 (.slice none 0 0) rfl)
            have HBW := hide ((((((((((((((HD.out.bel.set1 HLI.out.a 0 (.int .i64 0)).set1 HLI.out.a 1 (.int .u64 0)).set1 HLI.out.a 2 (.int .i64 0)).set1 HLI.out.a 3 (.int .u64 0)).set1 HLI.out.a 4 (.int .i64 0)).set1 HLI.out.a 5 (.int .i64 0)).set1 HLI.out.a 6 (.int .i64 0)).set1 HLI.out.a 7 (.string ⟨#[]⟩)).set1 HLI.out.a 8 (.string ⟨#[]⟩)).set1 HLI.out.a 9 (.int .u64 0)).set1 HLI.out.a 10 (.int .i64 0)).set1 HLI.out.a 11 (.int .u64 0)).set1 HLI.out.a 12 (.slice none 0 0)).set1 HLI.out.a 13 (.slice none 0 0))
            refine gen_w (fun x => Hid (RowAt x gr 28 #[.int .i64 0, .int .u64 0, .int .i64 0, .int .u64 0, .int .i64 0, .int .i64 0, .int .i64 0, .string ⟨#[]⟩, .string ⟨#[]⟩, .int .u64 0, .int .i64 0, .int .u64 0, .slice none 0 0, .slice none 0 0]) ∧ Hid (Below w.heap.size w x)) (x := ((((((((((((((yt.setCell ⟨gr, 0, none⟩ (.int .i64 0)).setCell ⟨gr, 1, none⟩ (.int .u64 0)).setCell ⟨gr, 2, none⟩ (.int .i64 0)).setCell ⟨gr, 3, none⟩ (.int .u64 0)).setCell ⟨gr, 4, none⟩ (.int .i64 0)).setCell ⟨gr, 5, none⟩ (.int .i64 0)).setCell ⟨gr, 6, none⟩ (.int .i64 0)).setCell ⟨gr, 7, none⟩ (.string ⟨#[]⟩)).setCell ⟨gr, 8, none⟩ (.string ⟨#[]⟩)).setCell ⟨gr, 9, none⟩ (.int .u64 0)).setCell ⟨gr, 10, none⟩ (.int .i64 0)).setCell ⟨gr, 11, none⟩ (.int .u64 0)).setCell ⟨gr, 12, none⟩ (.slice none 0 0)).setCell ⟨gr, 13, none⟩ (.slice none 0 0)).drew) ⟨hide (rowat_drew HRW.out), hide (below_drew HBW.out)⟩ ?_
            clear HD HRW HBW z0 zf0 z1 zf1 z2 zf2 z3 zf3 z4 zf4 z5 zf5 z6 zf6 z7 zf7 z8 zf8 z9 zf9 z10 zf10 z11 zf11 z12 zf12 z13 zf13 ne1 c2
            rintro y0 ⟨HROW, HBL⟩
            go_wp2
            (try simp only [Exit.inBlock, Exit.then])
            refine bodyPost_ret (res_at rfl _ _ gr #[.int .i64 0, .int .u64 0, .int .i64 0, .int .u64 0, .int .i64 0, .int .i64 0, .int .i64 0, .string ⟨#[]⟩, .string ⟨#[]⟩, .int .u64 0, .int .i64 0, .int .u64 0, .slice none 0 0, .slice none 0 0] _ rfl HROW.out Try.underlying28 rfl infoRc) rfl ?_
            show Ans _ _ _ _
            unfold Ans
            rw [HDD.out]
            exact ⟨⟨_, _, rfl, World.ownsRow_nil _ _ _ _, World.ownsRow_nil _ _ _ _⟩, HBL.out⟩
          rw [he] at c2
          have hrq := HPR.out.2 he
          obtain ⟨hks, hdl⟩ := HKL.out he
          obtain ⟨av, cv, hva⟩ := own_shape5 HD.out.got.1
          obtain ⟨au, cu, hvb⟩ := own_shape5 HD.out.got.2
          subst hva hvb
          by_cases hk : (k : Int) = (b.size : Int)
          case neg =>
            have hne : s'.l ≠ [] := fun h => by
              rw [h] at hdl
              have h3 := congrArg List.length hdl
              rw [List.length_drop, data_length] at h3
              have h4 : b.size - k = 0 := h3
              omega
            have hdr : decR b.data.toList = (Rec.zero, 2) := by rw [HDR.out, HPR.out.1, if_neg (fun h => h he), if_pos (.inl hne)]
            have HDD := hide hdr
            have k0 : ((k : Int) == (b.size : Int)) = false := by rw [beq_eq_false_iff_ne]; exact hk
            have k1 : ((k : Int) != (b.size : Int)) = true := by rw [bne, k0]; rfl
            clear hdr HDR he HPR HKL hrq hdl hne hk
            refine unhalt ?_
            go_wp2_with (refine wpList_store_at rfl 28 (.tmp 2) (.tmp 174) rfl gr #[.int .i64 0, .int .u64 0, .int .i64 0, .int .u64 0, .int .i64 0, .int .i64 0, .int .i64 0, .string ⟨#[]⟩, .string ⟨#[]⟩, .int .u64 0, .int .i64 0, .int .u64 0, .slice none 0 0, .slice none 0 0] #[.int .i64 0, .int .u64 0, .int .i64 0, .int .u64 0, .int .i64 0, .int .i64 0, .int .i64 0, .string ⟨#[]⟩, .string ⟨#[]⟩, .int .u64 0, .int .i64 0, .int .u64 0, .slice none 0 0, .slice none 0 0] rfl rfl HD.out.zr infoRc rfl (by simp [Value.oneCell']) ?_)
            intro w9 hr9 hk9 _
            have HROW := hide hr9
            have HBL := hide (hk9 _ _ HD.out.bel HLI.out.a)
            clear hr9 hk9 HD c1 c2
            go_wp2
            (try simp only [Exit.inBlock, Exit.then])
            refine bodyPost_ret (res_at rfl _ _ gr #[.int .i64 0, .int .u64 0, .int .i64 0, .int .u64 0, .int .i64 0, .int .i64 0, .int .i64 0, .string ⟨#[]⟩, .string ⟨#[]⟩, .int .u64 0, .int .i64 0, .int .u64 0, .slice none 0 0, .slice none 0 0] _ rfl HROW.out Try.underlying28 rfl infoRc) rfl ?_
            show Ans _ _ _ _
            unfold Ans
            rw [HDD.out]
            exact ⟨⟨_, _, rfl, World.ownsRow_nil _ _ _ _, World.ownsRow_nil _ _ _ _⟩, HBL.out⟩
          have hln : s'.l = [] := by
            rw [← hdl]
            apply List.drop_eq_nil_of_le
            rw [data_length]
            omega
          have k0 : ((k : Int) == (b.size : Int)) = true := by rw [hk]; exact beq_self_eq_true _
          have k1 : ((k : Int) != (b.size : Int)) = false := by rw [bne, k0]; rfl
          clear hk
          have r0 := HD.out.xr.cell 0 (.int .i64 r.k) rfl
          have r1 := HD.out.xr.cell 1 (.int .u64 (r.l : Int)) rfl
          have r2 := HD.out.xr.cell 2 (.int .i64 r.t) rfl
          have r3 := HD.out.xr.cell 3 (.int .u64 (r.p : Int)) rfl
          have r4 := HD.out.xr.cell 4 (.int .i64 r.c.k) rfl
          have r5 := HD.out.xr.cell 5 (.int .i64 r.c.pg) rfl
          have r6 := HD.out.xr.cell 6 (.int .i64 r.c.sl) rfl
          have r7 := HD.out.xr.cell 7 (.string r.c.o) rfl
          have r8 := HD.out.xr.cell 8 (.string r.c.n) rfl
          have r9 := HD.out.xr.cell 9 (.int .u64 (r.n : Int)) rfl
          have r10 := HD.out.xr.cell 10 (.int .i64 r.s) rfl
          have r11 := HD.out.xr.cell 11 (.int .u64 (r.b : Int)) rfl
          have r12 := HD.out.xr.cell 12 (.slice av r.ts.length cv) rfl
          have r13 := HD.out.xr.cell 13 (.slice au r.ds.length cu) rfl
          have HFR : Hid r.c.fits := by rw [← hrq]; exact (rec_fits ⟨b.data.toList, 0⟩).c
          by_cases hr : r.right
          case neg =>
            have hdr : decR b.data.toList = (Rec.zero, 2) := by rw [HDR.out, HPR.out.1, hrq, if_neg (fun h => h he), if_pos (.inr (rightB_no hr))]
            have HDD := hide hdr
            have HR := hide (rright6_at' r (.slice av r.ts.length cv) (.slice au r.ds.length cu) yt false (hide ⟨fun h => (nomatch h), fun h => absurd h hr⟩) HFR.out HD.out.got.rc)
            clear hdr HDR he HPR HKL hrq hdl hln hr HFR
            refine unhalt ?_
            go_wp2_with fail
            refine HR.out.mono ?_
            rintro e x2 ⟨rfl, hb2⟩
            have HD2 := hide (HD.out.later hb2)
            clear hb2 HD HR c1 c2 r0 r1 r2 r3 r4 r5 r6 r7 r8 r9 r10 r11 r12 r13
            go_wp2_with (refine wpList_store_at rfl 28 (.tmp 2) (.tmp 174) rfl gr #[.int .i64 0, .int .u64 0, .int .i64 0, .int .u64 0, .int .i64 0, .int .i64 0, .int .i64 0, .string ⟨#[]⟩, .string ⟨#[]⟩, .int .u64 0, .int .i64 0, .int .u64 0, .slice none 0 0, .slice none 0 0] #[.int .i64 0, .int .u64 0, .int .i64 0, .int .u64 0, .int .i64 0, .int .i64 0, .int .i64 0, .string ⟨#[]⟩, .string ⟨#[]⟩, .int .u64 0, .int .i64 0, .int .u64 0, .slice none 0 0, .slice none 0 0] rfl rfl HD2.out.zr infoRc rfl (by simp [Value.oneCell']) ?_)
            intro w9 hr9 hk9 _
            have HROW := hide hr9
            have HBL := hide (hk9 _ _ HD2.out.bel HLI.out.a)
            clear hr9 hk9 HD2
            go_wp2
            (try simp only [Exit.inBlock, Exit.then])
            refine bodyPost_ret (res_at rfl _ _ gr #[.int .i64 0, .int .u64 0, .int .i64 0, .int .u64 0, .int .i64 0, .int .i64 0, .int .i64 0, .string ⟨#[]⟩, .string ⟨#[]⟩, .int .u64 0, .int .i64 0, .int .u64 0, .slice none 0 0, .slice none 0 0] _ rfl HROW.out Try.underlying28 rfl infoRc) rfl ?_
            show Ans _ _ _ _
            unfold Ans
            rw [HDD.out]
            exact ⟨⟨_, _, rfl, World.ownsRow_nil _ _ _ _, World.ownsRow_nil _ _ _ _⟩, HBL.out⟩
          have hdr : decR b.data.toList = (r, 0) := by rw [HDR.out, HPR.out.1, hrq, if_neg (fun h => h he), if_neg (fun h => h.elim (fun h => h hln) (fun h => by rw [rightB_yes hr] at h; cases h))]
          have HDD := hide hdr
          have HR := hide (rright6_at' r (.slice av r.ts.length cv) (.slice au r.ds.length cu) yt true (hide ⟨fun _ => hr, fun _ => rfl⟩) HFR.out HD.out.got.rc)
          clear hdr HDR he HPR HKL hrq hdl hln hr HFR
          refine unhalt ?_
          go_wp2_with fail
          refine HR.out.mono ?_
          rintro e x2 ⟨rfl, hb2⟩
          have HD2 := hide (HD.out.later hb2)
          clear hb2 HD HR c1 c2 r0 r1 r2 r3 r4 r5 r6 r7 r8 r9 r10 r11 r12 r13
          go_wp2_with (first | (refine wpList_load_at rfl 28 (.tmp 5) rfl gx rfl (rcA r (.slice av r.ts.length cv) (.slice au r.ds.length cu)) HD2.out.xr _ Try.underlying28 rfl infoRc ?_) | (refine wpList_store_at rfl 28 (.tmp 2) (.tmp 175) rfl gr #[.int .i64 0, .int .u64 0, .int .i64 0, .int .u64 0, .int .i64 0, .int .i64 0, .int .i64 0, .string ⟨#[]⟩, .string ⟨#[]⟩, .int .u64 0, .int .i64 0, .int .u64 0, .slice none 0 0, .slice none 0 0] (rcA r (.slice av r.ts.length cv) (.slice au r.ds.length cu)) rfl rfl HD2.out.zr infoRc rfl (by simp [rcA, Value.oneCell']) ?_))
          intro w9 hr9 hk9 ho9
          have HROW := hide hr9
          have HBL := hide (hk9 _ _ HD2.out.bel HLI.out.a)
          have HG9 : Hid (GotIn w.heap.size w9 r (.slice av r.ts.length cv) (.slice au r.ds.length cu)) := ⟨own_put HD2.out.got.1 HD2.out.zr (by decide) ho9, own_put HD2.out.got.2 HD2.out.zr (by decide) ho9⟩
          clear hr9 hk9 HD2 ho9
          go_wp2
          (try simp only [Exit.inBlock, Exit.then])
          refine bodyPost_ret (res_at rfl _ _ gr (rcA r (.slice av r.ts.length cv) (.slice au r.ds.length cu)) _ rfl HROW.out Try.underlying28 rfl infoRc) rfl ?_
          show Ans _ _ _ _
          unfold Ans
          rw [HDD.out]
          exact ⟨⟨_, _, rfl, HG9.out⟩, HBL.out⟩

        have jn : (j2 : Int) < (m : Int) := by omega
        by_cases hse : S.e = 0
        case neg =>
          have HEX : Hid (j2 = m ∨ S.e ≠ 0) := .inr hse
          have kse : (S.e == 0) = false := by rw [beq_eq_false_iff_ne]; exact hse
          have HD := HB
          clear HB
          have HPR : Hid ((pRec ⟨b.data.toList, 0⟩).2 = S ∧ (S.e = 0 → (pRec ⟨b.data.toList, 0⟩).1 = ⟨8, l, t, p, Ch.zero, 0, 0, bg, LS1, LST⟩)) := by
            have ex := exit_state Good.di hj2 (s := sB) (by rw [← HS.out]; exact HEX.out)
            rw [← HS.out, ← HLST.out] at ex
            rw [← HSS.out, HPR0.out, HS1.out.1, hB.out]
            refine ⟨ex.1, fun h => ?_⟩
            have hS1e : S1.e = 0 := by
              by_cases hh : S1.e = 0
              · exact hh
              · have e3 : pNum 1 S1 = (0, S1) := by unfold pNum; rw [if_pos hh]
                have e4 := (Good.in 0 32).stick S1 hh
                rw [hB.out] at e4
                have e5 : (pSome pDi m sB).2 = S := ex.1
                have e6 := (Good.some Good.di m).stick sB (by show sB.e ≠ 0; rw [show sB = S1 from e4]; exact hh)
                rw [e5] at e6
                rw [e6, show sB = S1 from e4] at h
                exact absurd h hh
            rw [HS1.out.2 hS1e]
            show (⟨8, l, t, p, Ch.zero, 0, 0, bg, LS1, (pSome pDi m sB).1⟩ : Rec) = _
            rw [ex.2 h]
          clear HPR0 HEX HS1 hB HS HLST HLL c2
          obtain ⟨r, hrr⟩ : ∃ r : Rec, r = ⟨8, l, t, p, Ch.zero, 0, 0, bg, LS1, LST⟩ := ⟨_, rfl⟩
          rw [← hrr] at HD HPR
          clear hrr
          obtain ⟨vb, hvb0⟩ : ∃ v, v = vl := ⟨_, rfl⟩
          rw [← hvb0] at HD
          clear hvb0
          obtain ⟨s', hs'⟩ : ∃ s', s' = S := ⟨_, rfl⟩
          rw [← hs'] at HD HPR
          have HNE : Hid (s'.e ≠ 0) := by show s'.e ≠ 0; rw [hs']; exact hse
          clear hs'
          obtain ⟨yt, hyt⟩ : ∃ y, y = wr := ⟨_, rfl⟩
          rw [← hyt] at HD
          rw [← hyt]
          clear hyt
          refine halt ?_
          obtain ⟨k, q, hkb, hkl⟩ := HD.out.rd
          have c2 := q.cell 2 (.int .i64 s'.e) rfl
          have c1 := q.cell 1 (.int .i64 (k : Int)) rfl
          have HKL := hide hkl
          clear q hkl
          have HDR : Hid (decR b.data.toList = if (pRec ⟨b.data.toList, 0⟩).2.e ≠ 0 then (Rec.zero, (pRec ⟨b.data.toList, 0⟩).2.e) else if (pRec ⟨b.data.toList, 0⟩).2.l ≠ [] ∨ (pRec ⟨b.data.toList, 0⟩).1.rightB = false then (Rec.zero, 2) else ((pRec ⟨b.data.toList, 0⟩).1, 0)) := rfl
          by_cases he : s'.e = 0
          case neg =>
            have hdr : decR b.data.toList = (Rec.zero, s'.e) := by rw [HDR.out, HPR.out.1, if_pos he]
            have HDD := hide hdr
            have k0 : (s'.e == 0) = false := by rw [beq_eq_false_iff_ne]; exact he
            have k1 : (s'.e != 0) = true := by rw [bne, k0]; rfl
            clear hdr HDR he HPR HKL c1 hkb
            generalize s'.e = es at *
            have z0 := HD.out.zr.cell 0 (.int .i64 0) rfl
            have zf0 := HD.out.zr.free 0
            have z1 := HD.out.zr.cell 1 (.int .u64 0) rfl
            have zf1 := HD.out.zr.free 1
            have z2 := HD.out.zr.cell 2 (.int .i64 0) rfl
            have zf2 := HD.out.zr.free 2
            have z3 := HD.out.zr.cell 3 (.int .u64 0) rfl
            have zf3 := HD.out.zr.free 3
            have z4 := HD.out.zr.cell 4 (.int .i64 0) rfl
            have zf4 := HD.out.zr.free 4
            have z5 := HD.out.zr.cell 5 (.int .i64 0) rfl
            have zf5 := HD.out.zr.free 5
            have z6 := HD.out.zr.cell 6 (.int .i64 0) rfl
            have zf6 := HD.out.zr.free 6
            have z7 := HD.out.zr.cell 7 (.string ⟨#[]⟩) rfl
            have zf7 := HD.out.zr.free 7
            have z8 := HD.out.zr.cell 8 (.string ⟨#[]⟩) rfl
            have zf8 := HD.out.zr.free 8
            have z9 := HD.out.zr.cell 9 (.int .u64 0) rfl
            have zf9 := HD.out.zr.free 9
            have z10 := HD.out.zr.cell 10 (.int .i64 0) rfl
            have zf10 := HD.out.zr.free 10
            have z11 := HD.out.zr.cell 11 (.int .u64 0) rfl
            have zf11 := HD.out.zr.free 11
            have z12 := HD.out.zr.cell 12 (.slice none 0 0) rfl
            have zf12 := HD.out.zr.free 12
            have z13 := HD.out.zr.cell 13 (.slice none 0 0) rfl
            have zf13 := HD.out.zr.free 13
            have ne1 := HLI.out.d
            refine unhalt ?_
            go_wp2_with fail
            go_region
            have HRW := hide ((((((((((((((HD.out.zr.setSame 0 (.int .i64 0) rfl).setSame 1 (.int .u64 0) rfl).setSame 2 (.int .i64 0) rfl).setSame 3 (.int .u64 0) rfl).setSame 4 (.int .i64 0) rfl).setSame 5 (.int .i64 0) rfl).setSame 6 (.int .i64 0) rfl).setSame 7 (.string ⟨#[]⟩) rfl).setSame 8 (.string ⟨#[]⟩) rfl).setSame 9 (.int .u64 0) rfl).setSame 10 (.int .i64 0) rfl).setSame 11 (.int .u64 0) rfl).setSame 12 (.slice none 0 0) rfl).setSame 13 (.slice none 0 0) rfl)
            have HBW := hide ((((((((((((((HD.out.bel.set1 HLI.out.a 0 (.int .i64 0)).set1 HLI.out.a 1 (.int .u64 0)).set1 HLI.out.a 2 (.int .i64 0)).set1 HLI.out.a 3 (.int .u64 0)).set1 HLI.out.a 4 (.int .i64 0)).set1 HLI.out.a 5 (.int .i64 0)).set1 HLI.out.a 6 (.int .i64 0)).set1 HLI.out.a 7 (.string ⟨#[]⟩)).set1 HLI.out.a 8 (.string ⟨#[]⟩)).set1 HLI.out.a 9 (.int .u64 0)).set1 HLI.out.a 10 (.int .i64 0)).set1 HLI.out.a 11 (.int .u64 0)).set1 HLI.out.a 12 (.slice none 0 0)).set1 HLI.out.a 13 (.slice none 0 0))
            refine gen_w (fun x => Hid (RowAt x gr 28 #[.int .i64 0, .int .u64 0, .int .i64 0, .int .u64 0, .int .i64 0, .int .i64 0, .int .i64 0, .string ⟨#[]⟩, .string ⟨#[]⟩, .int .u64 0, .int .i64 0, .int .u64 0, .slice none 0 0, .slice none 0 0]) ∧ Hid (Below w.heap.size w x)) (x := ((((((((((((((yt.setCell ⟨gr, 0, none⟩ (.int .i64 0)).setCell ⟨gr, 1, none⟩ (.int .u64 0)).setCell ⟨gr, 2, none⟩ (.int .i64 0)).setCell ⟨gr, 3, none⟩ (.int .u64 0)).setCell ⟨gr, 4, none⟩ (.int .i64 0)).setCell ⟨gr, 5, none⟩ (.int .i64 0)).setCell ⟨gr, 6, none⟩ (.int .i64 0)).setCell ⟨gr, 7, none⟩ (.string ⟨#[]⟩)).setCell ⟨gr, 8, none⟩ (.string ⟨#[]⟩)).setCell ⟨gr, 9, none⟩ (.int .u64 0)).setCell ⟨gr, 10, none⟩ (.int .i64 0)).setCell ⟨gr, 11, none⟩ (.int .u64 0)).setCell ⟨gr, 12, none⟩ (.slice none 0 0)).setCell ⟨gr, 13, none⟩ (.slice none 0 0)).drew) ⟨hide (rowat_drew HRW.out), hide (below_drew HBW.out)⟩ ?_
            clear HD HRW HBW z0 zf0 z1 zf1 z2 zf2 z3 zf3 z4 zf4 z5 zf5 z6 zf6 z7 zf7 z8 zf8 z9 zf9 z10 zf10 z11 zf11 z12 zf12 z13 zf13 ne1 c2
            rintro y0 ⟨HROW, HBL⟩
            go_wp2
            (try simp only [Exit.inBlock, Exit.then])
            refine bodyPost_ret (res_at rfl _ _ gr #[.int .i64 0, .int .u64 0, .int .i64 0, .int .u64 0, .int .i64 0, .int .i64 0, .int .i64 0, .string ⟨#[]⟩, .string ⟨#[]⟩, .int .u64 0, .int .i64 0, .int .u64 0, .slice none 0 0, .slice none 0 0] _ rfl HROW.out Try.underlying28 rfl infoRc) rfl ?_
            show Ans _ _ _ _
            unfold Ans
            rw [HDD.out]
            exact ⟨⟨_, _, rfl, World.ownsRow_nil _ _ _ _, World.ownsRow_nil _ _ _ _⟩, HBL.out⟩
          exact absurd he HNE.out

        rw [hse] at c2
        have ewj : IntKind.u64.wrap ((j2 : Int) + 1) = (j2 : Int) + 1 := by rw [IntKind.wrap_u64]; omega
        obtain ⟨xn1, xs1, hxn1⟩ : ∃ n s', pNum 2 S = (n, s') := ⟨_, _, rfl⟩
        have bxn1 : xn1 < 256 ^ 2 := by have := num_lt 2 S; rw [hxn1] at this; exact this
        have ewxn1 := conv_i64 xn1 (by omega)
        clear bxn1
        have Cxn1 := hide (fun x h => rnum_any g b S 2 x (by omega) hb h)
        rw [hxn1] at Cxn1
        obtain ⟨xn2, xs2, hxn2⟩ : ∃ n s', pNum 8 xs1 = (n, s') := ⟨_, _, rfl⟩
        have Cxn2 := hide (fun x h => rnum_any g b xs1 8 x (by omega) hb h)
        rw [hxn2] at Cxn2
        have HP : Hid (pDi S = ((⟨xn1, xn2⟩ : Di), xs2)) := by
          show pDi S = _
          simp only [pDi, bindP, pureP, hxn1, hxn2]
        clear hxn1 hxn2
        obtain ⟨gt, hgt⟩ : ∃ gt, gt = wr.heap.size := ⟨_, rfl⟩
        have HB0 : Hid (DK w (wr.alloc (.cells #[.int .i64 0, .int .u64 0] 72)) gr g gx b S ⟨8, l, t, p, Ch.zero, 0, 0, bg, LS1, LST⟩ va vl [(wr.heap.size, 72, #[.int .i64 0, .int .u64 0])]) := HB.out.more ((Below.refl _ _).alloc (Nat.le_refl _) _) (RowAt.new _ _ _)
        have HGT : Hid (gt ≠ g ∧ gx ≠ gt ∧ gr ≠ gt ∧ w.heap.size ≤ gt) := by
          obtain ⟨kq2, q, -, -⟩ := HB.out.rd
          have a1 := q.lt
          have a2 := HB.out.xr.lt
          have a3 := HB.out.zr.lt
          have a4 := HB.out.bel.size
          exact ⟨by omega, by omega, by omega, by omega⟩
        have HOFF : Hid ((va : Value).ownBlock ≠ some gt ∧ (vl : Value).ownBlock ≠ some gt) := ⟨fun e => by have := (HB.out.got.1.lt gt e).2; omega, fun e => by have := (HB.out.got.2.lt gt e).2; omega⟩
        have HOG : Hid (∀ cs : Array Value, Off g [(gt, 72, cs)]) := fun cs e he => by
          simp only [List.mem_cons, List.not_mem_nil, or_false] at he
          subst he
          exact HGT.out.1
        clear HB
        go_wp2_with fail
        clear c2
        rw [← hgt] at HB0
        rw [← hgt]
        refine gen_calls (fun x => Hid (DK w x gr g gx b S ⟨8, l, t, p, Ch.zero, 0, 0, bg, LS1, LST⟩ va vl [(gt, 72, #[.int .i64 0, .int .u64 0])])) HB0 ?_
        clear HB0 hgt
        intro y0 HB
        refine (Cxn1.out _ HB.out.rd).mono ?_
        rintro e x1 ⟨rfl, hrd, hgw⟩
        have HX := hide (HB.out.step HLI.out (HOG.out _) hrd hgw)
        clear hrd hgw HB Cxn1
        have c := HX.out.has.1.cell 0 (.int .i64 0) rfl
        have f := HX.out.has.1.free 0
        have HB : Hid (DK w (x1.setCell ⟨gt, 0, none⟩ (.int .i64 ((xn1 : Nat) : Int))) gr g gx b xs1 ⟨8, l, t, p, Ch.zero, 0, 0, bg, LS1, LST⟩ va vl [(gt, 72, #[.int .i64 ((xn1 : Nat) : Int), .int .u64 0])]) := HX.out.put HGT.out.1 HGT.out.2.1 HGT.out.2.2.1 HGT.out.2.2.2 HOFF.out 0 (.int .i64 ((xn1 : Nat) : Int))
        clear HX
        go_wp2_with fail
        refine gen_calls (fun x => Hid (DK w x gr g gx b xs1 ⟨8, l, t, p, Ch.zero, 0, 0, bg, LS1, LST⟩ va vl [(gt, 72, #[.int .i64 ((xn1 : Nat) : Int), .int .u64 0])])) HB ?_
        clear HB c f
        intro y1 HB
        refine (Cxn2.out _ HB.out.rd).mono ?_
        rintro e x2 ⟨rfl, hrd, hgw⟩
        have HX := hide (HB.out.step HLI.out (HOG.out _) hrd hgw)
        clear hrd hgw HB Cxn2
        have c := HX.out.has.1.cell 1 (.int .u64 0) rfl
        have f := HX.out.has.1.free 1
        have HB : Hid (DK w (x2.setCell ⟨gt, 1, none⟩ (.int .u64 ((xn2 : Nat) : Int))) gr g gx b xs2 ⟨8, l, t, p, Ch.zero, 0, 0, bg, LS1, LST⟩ va vl [(gt, 72, #[.int .i64 ((xn1 : Nat) : Int), .int .u64 ((xn2 : Nat) : Int)])]) := HX.out.put HGT.out.1 HGT.out.2.1 HGT.out.2.2.1 HGT.out.2.2.2 HOFF.out 1 (.int .u64 ((xn2 : Nat) : Int))
        clear HX
        obtain ⟨av, cv, hva⟩ := own_shape5 HB.out.got.2
        have HVA := hide hva
        clear hva
        have HBL := hide ((Below.refl (x2.setCell ⟨gt, 1, none⟩ (.int .u64 ((xn2 : Nat) : Int))).heap.size (x2.setCell ⟨gt, 1, none⟩ (.int .u64 ((xn2 : Nat) : Int)))).alloc (Nat.le_refl _) (.cells #[.int .i64 ((xn1 : Nat) : Int), .int .u64 ((xn2 : Nat) : Int)] 72))
        go_wp2_with (first | (refine wpList_load_val rfl 26 (.tmp 146) rfl _ vl rfl (load_v26 _ vl av _ cv HVA.out (HB.out.xr.cell 13 vl rfl)) ?_) | (refine wpList_load_at rfl 72 (.tmp 10) rfl gt rfl #[.int .i64 ((xn1 : Nat) : Int), .int .u64 ((xn2 : Nat) : Int)] HB.out.has.1 _ Try.underlying72 rfl infoDi ?_) | (at_builtin; refine wpList_append_row _ rfl (.tmp 147) (.tmp 149) 26 72 rfl #[.int .i64 0, .int .u64 0] 2 16 Try.underlying26 infoDi3 rfl (by decide) w.heap.size vl LST.length (flatD LST) rfl (ownsRow_below HB.out.got.2 HBL.out) x2.heap.size #[.int .i64 ((xn1 : Nat) : Int), .int .u64 ((xn2 : Nat) : Int)] rfl (by simp [Value.oneCell']) rfl (row_new2 (x2.setCell ⟨gt, 1, none⟩ (.int .u64 ((xn2 : Nat) : Int))) 72 #[.int .i64 ((xn1 : Nat) : Int), .int .u64 ((xn2 : Nat) : Int)] (by simp)) (by rw [HLL.out]; omega) (by omega) (Nat.le_trans HB.out.bel.size HBL.out.size) ?_))
        intro v' w9 ho9 hg9
        have hpush := (HB.out.later HBL.out).pushD (r' := ⟨8, l, t, p, Ch.zero, 0, 0, bg, LS1, (LST ++ [(⟨xn1, xn2⟩ : Di)])⟩) HLI.out hg9 (by
          show w9.ownsRow w.heap.size 72 2 v' (LST ++ [(⟨xn1, xn2⟩ : Di)]).length (flatD (LST ++ [(⟨xn1, xn2⟩ : Di)]))
          rw [List.length_append, flatD_more]
          exact ho9) rfl rfl
        obtain ⟨a9, c9, hv9⟩ := own_shape5 ho9
        have HX9 := hide hpush.1
        have HDN := hide hpush.2
        clear ho9 hg9 hpush HB HVA HBL c f
        subst hv9
        have c := HX9.out.cell 13 vl rfl
        have f := HX9.out.free 13
        clear HX9
        go_wp2
        clear c f
        go_roundw
        case rel =>
          refine ⟨j2 + 1, by omega, by go_num, .slice a9 (LST.length + 1) c9, ?_⟩
          have e1 : itS pDi (j2 + 1) sB = xs2 := by rw [itS_more, ← HS.out, HP.out]
          have e2 : itL pDi (j2 + 1) sB = LST ++ [(⟨xn1, xn2⟩ : Di)] := by rw [itL_more, ← HS.out, HP.out, HLST.out]
          rw [e1, e2]
          exact HDN.out
        case measure => simp [intOf]; omega

    have jn : (j : Int) < (n : Int) := by omega
    by_cases hse : S.e = 0
    case neg =>
      have HEX : Hid (j = n ∨ S.e ≠ 0) := .inr hse
      have kse : (S.e == 0) = false := by rw [beq_eq_false_iff_ne]; exact hse
      have ex1 := exit_state Good.tx hj (s := sA) (by rw [← HS.out]; exact HEX.out)
      rw [← HS.out, ← HLST.out] at ex1
      obtain ⟨S1, hS1⟩ : ∃ S1, S1 = S := ⟨_, rfl⟩
      obtain ⟨LS1, hLS1⟩ : ∃ L, L = LST := ⟨_, rfl⟩
      rw [← hS1, ← hLS1] at ex1
      rw [← hS1, ← hLS1] at HB
      have HS1 := hide ex1
      obtain ⟨m, sB, hB0⟩ : ∃ n s', pIn 0 32 S1 = (n, s') := ⟨_, _, rfl⟩
      have hm255 : m ≤ 255 := by
        have h1 := in_val 0 32 S1
        rw [hB0] at h1
        have := num_lt 1 S1
        omega
      have CB := hide (fun x h => rmany_any g b S1 32 x hb h)
      rw [hB0] at CB
      have hB := hide hB0
      obtain ⟨va, hva1⟩ : ∃ v, v = vl := ⟨_, rfl⟩
      rw [← hva1] at HB
      have HL1 : Hid (LS1.length = j) := by show LS1.length = j; rw [hLS1]; exact HLL.out
      clear ex1 hB0 hva1 HS HLST HLL HEX hLS1
      go_wp2_with fail
      clear c2 hS1
      refine (CB.out _ HB.out.rd).mono ?_
      rintro e xB ⟨rfl, hrd, hgw⟩
      have HX := hide (HB.out.step HLI.out (fun e he => (nomatch he)) hrd hgw)
      clear hrd hgw HB CB
      have HB := HX
      clear HX
      go_wp2
      go_loopw [9, 10] (fun v _ wr => ∃ j2 : Nat, j2 ≤ m ∧ v = .int .u64 j2 ∧ ∃ vl, DK w wr gr g gx b (itS pDi j2 sB) ⟨8, l, t, p, Ch.zero, 0, 0, bg, LS1, (itL pDi j2 sB)⟩ va vl []) (fun v _ _ => m - (intOf v).toNat)
      case atStart => exact ⟨0, Nat.zero_le _, rfl, _, HB.out⟩
      case round =>
        obtain ⟨j2, hj2, rfl, vl, hdk⟩ := hrel
        have HB' := hide hdk
        clear hdk HB
        obtain ⟨S, hS⟩ : ∃ S, S = itS pDi j2 sB := ⟨_, rfl⟩
        obtain ⟨LST, hLST⟩ : ∃ LST, LST = itL pDi j2 sB := ⟨_, rfl⟩
        have hll : LST.length = j2 := by rw [hLST, itL_length]
        have HB := HB'
        clear HB'
        rw [← hS, ← hLST] at HB
        have HS := hide hS
        have HLST := hide hLST
        have HLL := hide hll
        clear hS hLST hll
        obtain ⟨kq, q, -, -⟩ := HB.out.rd
        have c2 := q.cell 2 (.int .i64 S.e) rfl
        clear q
        by_cases hjn : j2 < m
        case neg =>
          have jn : ¬ ((j2 : Int) < (m : Int)) := by omega
          have HEX : Hid (j2 = m ∨ S.e ≠ 0) := .inl (by omega)
          have HD := HB
          clear HB
          have HPR : Hid ((pRec ⟨b.data.toList, 0⟩).2 = S ∧ (S.e = 0 → (pRec ⟨b.data.toList, 0⟩).1 = ⟨8, l, t, p, Ch.zero, 0, 0, bg, LS1, LST⟩)) := by
            have ex := exit_state Good.di hj2 (s := sB) (by rw [← HS.out]; exact HEX.out)
            rw [← HS.out, ← HLST.out] at ex
            rw [← HSS.out, HPR0.out, HS1.out.1, hB.out]
            refine ⟨ex.1, fun h => ?_⟩
            have hS1e : S1.e = 0 := by
              by_cases hh : S1.e = 0
              · exact hh
              · have e3 : pNum 1 S1 = (0, S1) := by unfold pNum; rw [if_pos hh]
                have e4 := (Good.in 0 32).stick S1 hh
                rw [hB.out] at e4
                have e5 : (pSome pDi m sB).2 = S := ex.1
                have e6 := (Good.some Good.di m).stick sB (by show sB.e ≠ 0; rw [show sB = S1 from e4]; exact hh)
                rw [e5] at e6
                rw [e6, show sB = S1 from e4] at h
                exact absurd h hh
            rw [HS1.out.2 hS1e]
            show (⟨8, l, t, p, Ch.zero, 0, 0, bg, LS1, (pSome pDi m sB).1⟩ : Rec) = _
            rw [ex.2 h]
          clear HPR0 HEX HS1 hB HS HLST HLL c2
          obtain ⟨r, hrr⟩ : ∃ r : Rec, r = ⟨8, l, t, p, Ch.zero, 0, 0, bg, LS1, LST⟩ := ⟨_, rfl⟩
          rw [← hrr] at HD HPR
          clear hrr
          obtain ⟨vb, hvb0⟩ : ∃ v, v = vl := ⟨_, rfl⟩
          rw [← hvb0] at HD
          clear hvb0
          obtain ⟨s', hs'⟩ : ∃ s', s' = S := ⟨_, rfl⟩
          rw [← hs'] at HD HPR
          clear hs'
          obtain ⟨yt, hyt⟩ : ∃ y, y = wr := ⟨_, rfl⟩
          rw [← hyt] at HD
          rw [← hyt]
          clear hyt
          refine halt ?_
          obtain ⟨k, q, hkb, hkl⟩ := HD.out.rd
          have c2 := q.cell 2 (.int .i64 s'.e) rfl
          have c1 := q.cell 1 (.int .i64 (k : Int)) rfl
          have HKL := hide hkl
          clear q hkl
          have HDR : Hid (decR b.data.toList = if (pRec ⟨b.data.toList, 0⟩).2.e ≠ 0 then (Rec.zero, (pRec ⟨b.data.toList, 0⟩).2.e) else if (pRec ⟨b.data.toList, 0⟩).2.l ≠ [] ∨ (pRec ⟨b.data.toList, 0⟩).1.rightB = false then (Rec.zero, 2) else ((pRec ⟨b.data.toList, 0⟩).1, 0)) := rfl
          by_cases he : s'.e = 0
          case neg =>
            have hdr : decR b.data.toList = (Rec.zero, s'.e) := by rw [HDR.out, HPR.out.1, if_pos he]
            have HDD := hide hdr
            have k0 : (s'.e == 0) = false := by rw [beq_eq_false_iff_ne]; exact he
            have k1 : (s'.e != 0) = true := by rw [bne, k0]; rfl
            clear hdr HDR he HPR HKL c1 hkb
            generalize s'.e = es at *
            have z0 := HD.out.zr.cell 0 (.int .i64 0) rfl
            have zf0 := HD.out.zr.free 0
            have z1 := HD.out.zr.cell 1 (.int .u64 0) rfl
            have zf1 := HD.out.zr.free 1
            have z2 := HD.out.zr.cell 2 (.int .i64 0) rfl
            have zf2 := HD.out.zr.free 2
            have z3 := HD.out.zr.cell 3 (.int .u64 0) rfl
            have zf3 := HD.out.zr.free 3
            have z4 := HD.out.zr.cell 4 (.int .i64 0) rfl
            have zf4 := HD.out.zr.free 4
            have z5 := HD.out.zr.cell 5 (.int .i64 0) rfl
            have zf5 := HD.out.zr.free 5
            have z6 := HD.out.zr.cell 6 (.int .i64 0) rfl
            have zf6 := HD.out.zr.free 6
            have z7 := HD.out.zr.cell 7 (.string ⟨#[]⟩) rfl
            have zf7 := HD.out.zr.free 7
            have z8 := HD.out.zr.cell 8 (.string ⟨#[]⟩) rfl
            have zf8 := HD.out.zr.free 8
            have z9 := HD.out.zr.cell 9 (.int .u64 0) rfl
            have zf9 := HD.out.zr.free 9
            have z10 := HD.out.zr.cell 10 (.int .i64 0) rfl
            have zf10 := HD.out.zr.free 10
            have z11 := HD.out.zr.cell 11 (.int .u64 0) rfl
            have zf11 := HD.out.zr.free 11
            have z12 := HD.out.zr.cell 12 (.slice none 0 0) rfl
            have zf12 := HD.out.zr.free 12
            have z13 := HD.out.zr.cell 13 (.slice none 0 0) rfl
            have zf13 := HD.out.zr.free 13
            have ne1 := HLI.out.d
            refine unhalt ?_
            go_wp2_with fail
            go_region
            have HRW := hide ((((((((((((((HD.out.zr.setSame 0 (.int .i64 0) rfl).setSame 1 (.int .u64 0) rfl).setSame 2 (.int .i64 0) rfl).setSame 3 (.int .u64 0) rfl).setSame 4 (.int .i64 0) rfl).setSame 5 (.int .i64 0) rfl).setSame 6 (.int .i64 0) rfl).setSame 7 (.string ⟨#[]⟩) rfl).setSame 8 (.string ⟨#[]⟩) rfl).setSame 9 (.int .u64 0) rfl).setSame 10 (.int .i64 0) rfl).setSame 11 (.int .u64 0) rfl).setSame 12 (.slice none 0 0) rfl).setSame 13 (.slice none 0 0) rfl)
            have HBW := hide ((((((((((((((HD.out.bel.set1 HLI.out.a 0 (.int .i64 0)).set1 HLI.out.a 1 (.int .u64 0)).set1 HLI.out.a 2 (.int .i64 0)).set1 HLI.out.a 3 (.int .u64 0)).set1 HLI.out.a 4 (.int .i64 0)).set1 HLI.out.a 5 (.int .i64 0)).set1 HLI.out.a 6 (.int .i64 0)).set1 HLI.out.a 7 (.string ⟨#[]⟩)).set1 HLI.out.a 8 (.string ⟨#[]⟩)).set1 HLI.out.a 9 (.int .u64 0)).set1 HLI.out.a 10 (.int .i64 0)).set1 HLI.out.a 11 (.int .u64 0)).set1 HLI.out.a 12 (.slice none 0 0)).set1 HLI.out.a 13 (.slice none 0 0))
            refine gen_w (fun x => Hid (RowAt x gr 28 #[.int .i64 0, .int .u64 0, .int .i64 0, .int .u64 0, .int .i64 0, .int .i64 0, .int .i64 0, .string ⟨#[]⟩, .string ⟨#[]⟩, .int .u64 0, .int .i64 0, .int .u64 0, .slice none 0 0, .slice none 0 0]) ∧ Hid (Below w.heap.size w x)) (x := ((((((((((((((yt.setCell ⟨gr, 0, none⟩ (.int .i64 0)).setCell ⟨gr, 1, none⟩ (.int .u64 0)).setCell ⟨gr, 2, none⟩ (.int .i64 0)).setCell ⟨gr, 3, none⟩ (.int .u64 0)).setCell ⟨gr, 4, none⟩ (.int .i64 0)).setCell ⟨gr, 5, none⟩ (.int .i64 0)).setCell ⟨gr, 6, none⟩ (.int .i64 0)).setCell ⟨gr, 7, none⟩ (.string ⟨#[]⟩)).setCell ⟨gr, 8, none⟩ (.string ⟨#[]⟩)).setCell ⟨gr, 9, none⟩ (.int .u64 0)).setCell ⟨gr, 10, none⟩ (.int .i64 0)).setCell ⟨gr, 11, none⟩ (.int .u64 0)).setCell ⟨gr, 12, none⟩ (.slice none 0 0)).setCell ⟨gr, 13, none⟩ (.slice none 0 0)).drew) ⟨hide (rowat_drew HRW.out), hide (below_drew HBW.out)⟩ ?_
            clear HD HRW HBW z0 zf0 z1 zf1 z2 zf2 z3 zf3 z4 zf4 z5 zf5 z6 zf6 z7 zf7 z8 zf8 z9 zf9 z10 zf10 z11 zf11 z12 zf12 z13 zf13 ne1 c2
            rintro y0 ⟨HROW, HBL⟩
            go_wp2
            (try simp only [Exit.inBlock, Exit.then])
            refine bodyPost_ret (res_at rfl _ _ gr #[.int .i64 0, .int .u64 0, .int .i64 0, .int .u64 0, .int .i64 0, .int .i64 0, .int .i64 0, .string ⟨#[]⟩, .string ⟨#[]⟩, .int .u64 0, .int .i64 0, .int .u64 0, .slice none 0 0, .slice none 0 0] _ rfl HROW.out Try.underlying28 rfl infoRc) rfl ?_
            show Ans _ _ _ _
            unfold Ans
            rw [HDD.out]
            exact ⟨⟨_, _, rfl, World.ownsRow_nil _ _ _ _, World.ownsRow_nil _ _ _ _⟩, HBL.out⟩
          rw [he] at c2
          have hrq := HPR.out.2 he
          obtain ⟨hks, hdl⟩ := HKL.out he
          obtain ⟨av, cv, hva⟩ := own_shape5 HD.out.got.1
          obtain ⟨au, cu, hvb⟩ := own_shape5 HD.out.got.2
          subst hva hvb
          by_cases hk : (k : Int) = (b.size : Int)
          case neg =>
            have hne : s'.l ≠ [] := fun h => by
              rw [h] at hdl
              have h3 := congrArg List.length hdl
              rw [List.length_drop, data_length] at h3
              have h4 : b.size - k = 0 := h3
              omega
            have hdr : decR b.data.toList = (Rec.zero, 2) := by rw [HDR.out, HPR.out.1, if_neg (fun h => h he), if_pos (.inl hne)]
            have HDD := hide hdr
            have k0 : ((k : Int) == (b.size : Int)) = false := by rw [beq_eq_false_iff_ne]; exact hk
            have k1 : ((k : Int) != (b.size : Int)) = true := by rw [bne, k0]; rfl
            clear hdr HDR he HPR HKL hrq hdl hne hk
            refine unhalt ?_
            go_wp2_with (refine wpList_store_at rfl 28 (.tmp 2) (.tmp 174) rfl gr #[.int .i64 0, .int .u64 0, .int .i64 0, .int .u64 0, .int .i64 0, .int .i64 0, .int .i64 0, .string ⟨#[]⟩, .string ⟨#[]⟩, .int .u64 0, .int .i64 0, .int .u64 0, .slice none 0 0, .slice none 0 0] #[.int .i64 0, .int .u64 0, .int .i64 0, .int .u64 0, .int .i64 0, .int .i64 0, .int .i64 0, .string ⟨#[]⟩, .string ⟨#[]⟩, .int .u64 0, .int .i64 0, .int .u64 0, .slice none 0 0, .slice none 0 0] rfl rfl HD.out.zr infoRc rfl (by simp [Value.oneCell']) ?_)
            intro w9 hr9 hk9 _
            have HROW := hide hr9
            have HBL := hide (hk9 _ _ HD.out.bel HLI.out.a)
            clear hr9 hk9 HD c1 c2
            go_wp2
            (try simp only [Exit.inBlock, Exit.then])
            refine bodyPost_ret (res_at rfl _ _ gr #[.int .i64 0, .int .u64 0, .int .i64 0, .int .u64 0, .int .i64 0, .int .i64 0, .int .i64 0, .string ⟨#[]⟩, .string ⟨#[]⟩, .int .u64 0, .int .i64 0, .int .u64 0, .slice none 0 0, .slice none 0 0] _ rfl HROW.out Try.underlying28 rfl infoRc) rfl ?_
            show Ans _ _ _ _
            unfold Ans
            rw [HDD.out]
            exact ⟨⟨_, _, rfl, World.ownsRow_nil _ _ _ _, World.ownsRow_nil _ _ _ _⟩, HBL.out⟩
          have hln : s'.l = [] := by
            rw [← hdl]
            apply List.drop_eq_nil_of_le
            rw [data_length]
            omega
          have k0 : ((k : Int) == (b.size : Int)) = true := by rw [hk]; exact beq_self_eq_true _
          have k1 : ((k : Int) != (b.size : Int)) = false := by rw [bne, k0]; rfl
          clear hk
          have r0 := HD.out.xr.cell 0 (.int .i64 r.k) rfl
          have r1 := HD.out.xr.cell 1 (.int .u64 (r.l : Int)) rfl
          have r2 := HD.out.xr.cell 2 (.int .i64 r.t) rfl
          have r3 := HD.out.xr.cell 3 (.int .u64 (r.p : Int)) rfl
          have r4 := HD.out.xr.cell 4 (.int .i64 r.c.k) rfl
          have r5 := HD.out.xr.cell 5 (.int .i64 r.c.pg) rfl
          have r6 := HD.out.xr.cell 6 (.int .i64 r.c.sl) rfl
          have r7 := HD.out.xr.cell 7 (.string r.c.o) rfl
          have r8 := HD.out.xr.cell 8 (.string r.c.n) rfl
          have r9 := HD.out.xr.cell 9 (.int .u64 (r.n : Int)) rfl
          have r10 := HD.out.xr.cell 10 (.int .i64 r.s) rfl
          have r11 := HD.out.xr.cell 11 (.int .u64 (r.b : Int)) rfl
          have r12 := HD.out.xr.cell 12 (.slice av r.ts.length cv) rfl
          have r13 := HD.out.xr.cell 13 (.slice au r.ds.length cu) rfl
          have HFR : Hid r.c.fits := by rw [← hrq]; exact (rec_fits ⟨b.data.toList, 0⟩).c
          by_cases hr : r.right
          case neg =>
            have hdr : decR b.data.toList = (Rec.zero, 2) := by rw [HDR.out, HPR.out.1, hrq, if_neg (fun h => h he), if_pos (.inr (rightB_no hr))]
            have HDD := hide hdr
            have HR := hide (rright6_at' r (.slice av r.ts.length cv) (.slice au r.ds.length cu) yt false (hide ⟨fun h => (nomatch h), fun h => absurd h hr⟩) HFR.out HD.out.got.rc)
            clear hdr HDR he HPR HKL hrq hdl hln hr HFR
            refine unhalt ?_
            go_wp2_with fail
            refine HR.out.mono ?_
            rintro e x2 ⟨rfl, hb2⟩
            have HD2 := hide (HD.out.later hb2)
            clear hb2 HD HR c1 c2 r0 r1 r2 r3 r4 r5 r6 r7 r8 r9 r10 r11 r12 r13
            go_wp2_with (refine wpList_store_at rfl 28 (.tmp 2) (.tmp 174) rfl gr #[.int .i64 0, .int .u64 0, .int .i64 0, .int .u64 0, .int .i64 0, .int .i64 0, .int .i64 0, .string ⟨#[]⟩, .string ⟨#[]⟩, .int .u64 0, .int .i64 0, .int .u64 0, .slice none 0 0, .slice none 0 0] #[.int .i64 0, .int .u64 0, .int .i64 0, .int .u64 0, .int .i64 0, .int .i64 0, .int .i64 0, .string ⟨#[]⟩, .string ⟨#[]⟩, .int .u64 0, .int .i64 0, .int .u64 0, .slice none 0 0, .slice none 0 0] rfl rfl HD2.out.zr infoRc rfl (by simp [Value.oneCell']) ?_)
            intro w9 hr9 hk9 _
            have HROW := hide hr9
            have HBL := hide (hk9 _ _ HD2.out.bel HLI.out.a)
            clear hr9 hk9 HD2
            go_wp2
            (try simp only [Exit.inBlock, Exit.then])
            refine bodyPost_ret (res_at rfl _ _ gr #[.int .i64 0, .int .u64 0, .int .i64 0, .int .u64 0, .int .i64 0, .int .i64 0, .int .i64 0, .string ⟨#[]⟩, .string ⟨#[]⟩, .int .u64 0, .int .i64 0, .int .u64 0, .slice none 0 0, .slice none 0 0] _ rfl HROW.out Try.underlying28 rfl infoRc) rfl ?_
            show Ans _ _ _ _
            unfold Ans
            rw [HDD.out]
            exact ⟨⟨_, _, rfl, World.ownsRow_nil _ _ _ _, World.ownsRow_nil _ _ _ _⟩, HBL.out⟩
          have hdr : decR b.data.toList = (r, 0) := by rw [HDR.out, HPR.out.1, hrq, if_neg (fun h => h he), if_neg (fun h => h.elim (fun h => h hln) (fun h => by rw [rightB_yes hr] at h; cases h))]
          have HDD := hide hdr
          have HR := hide (rright6_at' r (.slice av r.ts.length cv) (.slice au r.ds.length cu) yt true (hide ⟨fun _ => hr, fun _ => rfl⟩) HFR.out HD.out.got.rc)
          clear hdr HDR he HPR HKL hrq hdl hln hr HFR
          refine unhalt ?_
          go_wp2_with fail
          refine HR.out.mono ?_
          rintro e x2 ⟨rfl, hb2⟩
          have HD2 := hide (HD.out.later hb2)
          clear hb2 HD HR c1 c2 r0 r1 r2 r3 r4 r5 r6 r7 r8 r9 r10 r11 r12 r13
          go_wp2_with (first | (refine wpList_load_at rfl 28 (.tmp 5) rfl gx rfl (rcA r (.slice av r.ts.length cv) (.slice au r.ds.length cu)) HD2.out.xr _ Try.underlying28 rfl infoRc ?_) | (refine wpList_store_at rfl 28 (.tmp 2) (.tmp 175) rfl gr #[.int .i64 0, .int .u64 0, .int .i64 0, .int .u64 0, .int .i64 0, .int .i64 0, .int .i64 0, .string ⟨#[]⟩, .string ⟨#[]⟩, .int .u64 0, .int .i64 0, .int .u64 0, .slice none 0 0, .slice none 0 0] (rcA r (.slice av r.ts.length cv) (.slice au r.ds.length cu)) rfl rfl HD2.out.zr infoRc rfl (by simp [rcA, Value.oneCell']) ?_))
          intro w9 hr9 hk9 ho9
          have HROW := hide hr9
          have HBL := hide (hk9 _ _ HD2.out.bel HLI.out.a)
          have HG9 : Hid (GotIn w.heap.size w9 r (.slice av r.ts.length cv) (.slice au r.ds.length cu)) := ⟨own_put HD2.out.got.1 HD2.out.zr (by decide) ho9, own_put HD2.out.got.2 HD2.out.zr (by decide) ho9⟩
          clear hr9 hk9 HD2 ho9
          go_wp2
          (try simp only [Exit.inBlock, Exit.then])
          refine bodyPost_ret (res_at rfl _ _ gr (rcA r (.slice av r.ts.length cv) (.slice au r.ds.length cu)) _ rfl HROW.out Try.underlying28 rfl infoRc) rfl ?_
          show Ans _ _ _ _
          unfold Ans
          rw [HDD.out]
          exact ⟨⟨_, _, rfl, HG9.out⟩, HBL.out⟩

        have jn : (j2 : Int) < (m : Int) := by omega
        by_cases hse : S.e = 0
        case neg =>
          have HEX : Hid (j2 = m ∨ S.e ≠ 0) := .inr hse
          have kse : (S.e == 0) = false := by rw [beq_eq_false_iff_ne]; exact hse
          have HD := HB
          clear HB
          have HPR : Hid ((pRec ⟨b.data.toList, 0⟩).2 = S ∧ (S.e = 0 → (pRec ⟨b.data.toList, 0⟩).1 = ⟨8, l, t, p, Ch.zero, 0, 0, bg, LS1, LST⟩)) := by
            have ex := exit_state Good.di hj2 (s := sB) (by rw [← HS.out]; exact HEX.out)
            rw [← HS.out, ← HLST.out] at ex
            rw [← HSS.out, HPR0.out, HS1.out.1, hB.out]
            refine ⟨ex.1, fun h => ?_⟩
            have hS1e : S1.e = 0 := by
              by_cases hh : S1.e = 0
              · exact hh
              · have e3 : pNum 1 S1 = (0, S1) := by unfold pNum; rw [if_pos hh]
                have e4 := (Good.in 0 32).stick S1 hh
                rw [hB.out] at e4
                have e5 : (pSome pDi m sB).2 = S := ex.1
                have e6 := (Good.some Good.di m).stick sB (by show sB.e ≠ 0; rw [show sB = S1 from e4]; exact hh)
                rw [e5] at e6
                rw [e6, show sB = S1 from e4] at h
                exact absurd h hh
            rw [HS1.out.2 hS1e]
            show (⟨8, l, t, p, Ch.zero, 0, 0, bg, LS1, (pSome pDi m sB).1⟩ : Rec) = _
            rw [ex.2 h]
          clear HPR0 HEX HS1 hB HS HLST HLL c2
          obtain ⟨r, hrr⟩ : ∃ r : Rec, r = ⟨8, l, t, p, Ch.zero, 0, 0, bg, LS1, LST⟩ := ⟨_, rfl⟩
          rw [← hrr] at HD HPR
          clear hrr
          obtain ⟨vb, hvb0⟩ : ∃ v, v = vl := ⟨_, rfl⟩
          rw [← hvb0] at HD
          clear hvb0
          obtain ⟨s', hs'⟩ : ∃ s', s' = S := ⟨_, rfl⟩
          rw [← hs'] at HD HPR
          have HNE : Hid (s'.e ≠ 0) := by show s'.e ≠ 0; rw [hs']; exact hse
          clear hs'
          obtain ⟨yt, hyt⟩ : ∃ y, y = wr := ⟨_, rfl⟩
          rw [← hyt] at HD
          rw [← hyt]
          clear hyt
          refine halt ?_
          obtain ⟨k, q, hkb, hkl⟩ := HD.out.rd
          have c2 := q.cell 2 (.int .i64 s'.e) rfl
          have c1 := q.cell 1 (.int .i64 (k : Int)) rfl
          have HKL := hide hkl
          clear q hkl
          have HDR : Hid (decR b.data.toList = if (pRec ⟨b.data.toList, 0⟩).2.e ≠ 0 then (Rec.zero, (pRec ⟨b.data.toList, 0⟩).2.e) else if (pRec ⟨b.data.toList, 0⟩).2.l ≠ [] ∨ (pRec ⟨b.data.toList, 0⟩).1.rightB = false then (Rec.zero, 2) else ((pRec ⟨b.data.toList, 0⟩).1, 0)) := rfl
          by_cases he : s'.e = 0
          case neg =>
            have hdr : decR b.data.toList = (Rec.zero, s'.e) := by rw [HDR.out, HPR.out.1, if_pos he]
            have HDD := hide hdr
            have k0 : (s'.e == 0) = false := by rw [beq_eq_false_iff_ne]; exact he
            have k1 : (s'.e != 0) = true := by rw [bne, k0]; rfl
            clear hdr HDR he HPR HKL c1 hkb
            generalize s'.e = es at *
            have z0 := HD.out.zr.cell 0 (.int .i64 0) rfl
            have zf0 := HD.out.zr.free 0
            have z1 := HD.out.zr.cell 1 (.int .u64 0) rfl
            have zf1 := HD.out.zr.free 1
            have z2 := HD.out.zr.cell 2 (.int .i64 0) rfl
            have zf2 := HD.out.zr.free 2
            have z3 := HD.out.zr.cell 3 (.int .u64 0) rfl
            have zf3 := HD.out.zr.free 3
            have z4 := HD.out.zr.cell 4 (.int .i64 0) rfl
            have zf4 := HD.out.zr.free 4
            have z5 := HD.out.zr.cell 5 (.int .i64 0) rfl
            have zf5 := HD.out.zr.free 5
            have z6 := HD.out.zr.cell 6 (.int .i64 0) rfl
            have zf6 := HD.out.zr.free 6
            have z7 := HD.out.zr.cell 7 (.string ⟨#[]⟩) rfl
            have zf7 := HD.out.zr.free 7
            have z8 := HD.out.zr.cell 8 (.string ⟨#[]⟩) rfl
            have zf8 := HD.out.zr.free 8
            have z9 := HD.out.zr.cell 9 (.int .u64 0) rfl
            have zf9 := HD.out.zr.free 9
            have z10 := HD.out.zr.cell 10 (.int .i64 0) rfl
            have zf10 := HD.out.zr.free 10
            have z11 := HD.out.zr.cell 11 (.int .u64 0) rfl
            have zf11 := HD.out.zr.free 11
            have z12 := HD.out.zr.cell 12 (.slice none 0 0) rfl
            have zf12 := HD.out.zr.free 12
            have z13 := HD.out.zr.cell 13 (.slice none 0 0) rfl
            have zf13 := HD.out.zr.free 13
            have ne1 := HLI.out.d
            refine unhalt ?_
            go_wp2_with fail
            go_region
            have HRW := hide ((((((((((((((HD.out.zr.setSame 0 (.int .i64 0) rfl).setSame 1 (.int .u64 0) rfl).setSame 2 (.int .i64 0) rfl).setSame 3 (.int .u64 0) rfl).setSame 4 (.int .i64 0) rfl).setSame 5 (.int .i64 0) rfl).setSame 6 (.int .i64 0) rfl).setSame 7 (.string ⟨#[]⟩) rfl).setSame 8 (.string ⟨#[]⟩) rfl).setSame 9 (.int .u64 0) rfl).setSame 10 (.int .i64 0) rfl).setSame 11 (.int .u64 0) rfl).setSame 12 (.slice none 0 0) rfl).setSame 13 (.slice none 0 0) rfl)
            have HBW := hide ((((((((((((((HD.out.bel.set1 HLI.out.a 0 (.int .i64 0)).set1 HLI.out.a 1 (.int .u64 0)).set1 HLI.out.a 2 (.int .i64 0)).set1 HLI.out.a 3 (.int .u64 0)).set1 HLI.out.a 4 (.int .i64 0)).set1 HLI.out.a 5 (.int .i64 0)).set1 HLI.out.a 6 (.int .i64 0)).set1 HLI.out.a 7 (.string ⟨#[]⟩)).set1 HLI.out.a 8 (.string ⟨#[]⟩)).set1 HLI.out.a 9 (.int .u64 0)).set1 HLI.out.a 10 (.int .i64 0)).set1 HLI.out.a 11 (.int .u64 0)).set1 HLI.out.a 12 (.slice none 0 0)).set1 HLI.out.a 13 (.slice none 0 0))
            refine gen_w (fun x => Hid (RowAt x gr 28 #[.int .i64 0, .int .u64 0, .int .i64 0, .int .u64 0, .int .i64 0, .int .i64 0, .int .i64 0, .string ⟨#[]⟩, .string ⟨#[]⟩, .int .u64 0, .int .i64 0, .int .u64 0, .slice none 0 0, .slice none 0 0]) ∧ Hid (Below w.heap.size w x)) (x := ((((((((((((((yt.setCell ⟨gr, 0, none⟩ (.int .i64 0)).setCell ⟨gr, 1, none⟩ (.int .u64 0)).setCell ⟨gr, 2, none⟩ (.int .i64 0)).setCell ⟨gr, 3, none⟩ (.int .u64 0)).setCell ⟨gr, 4, none⟩ (.int .i64 0)).setCell ⟨gr, 5, none⟩ (.int .i64 0)).setCell ⟨gr, 6, none⟩ (.int .i64 0)).setCell ⟨gr, 7, none⟩ (.string ⟨#[]⟩)).setCell ⟨gr, 8, none⟩ (.string ⟨#[]⟩)).setCell ⟨gr, 9, none⟩ (.int .u64 0)).setCell ⟨gr, 10, none⟩ (.int .i64 0)).setCell ⟨gr, 11, none⟩ (.int .u64 0)).setCell ⟨gr, 12, none⟩ (.slice none 0 0)).setCell ⟨gr, 13, none⟩ (.slice none 0 0)).drew) ⟨hide (rowat_drew HRW.out), hide (below_drew HBW.out)⟩ ?_
            clear HD HRW HBW z0 zf0 z1 zf1 z2 zf2 z3 zf3 z4 zf4 z5 zf5 z6 zf6 z7 zf7 z8 zf8 z9 zf9 z10 zf10 z11 zf11 z12 zf12 z13 zf13 ne1 c2
            rintro y0 ⟨HROW, HBL⟩
            go_wp2
            (try simp only [Exit.inBlock, Exit.then])
            refine bodyPost_ret (res_at rfl _ _ gr #[.int .i64 0, .int .u64 0, .int .i64 0, .int .u64 0, .int .i64 0, .int .i64 0, .int .i64 0, .string ⟨#[]⟩, .string ⟨#[]⟩, .int .u64 0, .int .i64 0, .int .u64 0, .slice none 0 0, .slice none 0 0] _ rfl HROW.out Try.underlying28 rfl infoRc) rfl ?_
            show Ans _ _ _ _
            unfold Ans
            rw [HDD.out]
            exact ⟨⟨_, _, rfl, World.ownsRow_nil _ _ _ _, World.ownsRow_nil _ _ _ _⟩, HBL.out⟩
          exact absurd he HNE.out

        rw [hse] at c2
        have ewj : IntKind.u64.wrap ((j2 : Int) + 1) = (j2 : Int) + 1 := by rw [IntKind.wrap_u64]; omega
        obtain ⟨xn1, xs1, hxn1⟩ : ∃ n s', pNum 2 S = (n, s') := ⟨_, _, rfl⟩
        have bxn1 : xn1 < 256 ^ 2 := by have := num_lt 2 S; rw [hxn1] at this; exact this
        have ewxn1 := conv_i64 xn1 (by omega)
        clear bxn1
        have Cxn1 := hide (fun x h => rnum_any g b S 2 x (by omega) hb h)
        rw [hxn1] at Cxn1
        obtain ⟨xn2, xs2, hxn2⟩ : ∃ n s', pNum 8 xs1 = (n, s') := ⟨_, _, rfl⟩
        have Cxn2 := hide (fun x h => rnum_any g b xs1 8 x (by omega) hb h)
        rw [hxn2] at Cxn2
        have HP : Hid (pDi S = ((⟨xn1, xn2⟩ : Di), xs2)) := by
          show pDi S = _
          simp only [pDi, bindP, pureP, hxn1, hxn2]
        clear hxn1 hxn2
        obtain ⟨gt, hgt⟩ : ∃ gt, gt = wr.heap.size := ⟨_, rfl⟩
        have HB0 : Hid (DK w (wr.alloc (.cells #[.int .i64 0, .int .u64 0] 72)) gr g gx b S ⟨8, l, t, p, Ch.zero, 0, 0, bg, LS1, LST⟩ va vl [(wr.heap.size, 72, #[.int .i64 0, .int .u64 0])]) := HB.out.more ((Below.refl _ _).alloc (Nat.le_refl _) _) (RowAt.new _ _ _)
        have HGT : Hid (gt ≠ g ∧ gx ≠ gt ∧ gr ≠ gt ∧ w.heap.size ≤ gt) := by
          obtain ⟨kq2, q, -, -⟩ := HB.out.rd
          have a1 := q.lt
          have a2 := HB.out.xr.lt
          have a3 := HB.out.zr.lt
          have a4 := HB.out.bel.size
          exact ⟨by omega, by omega, by omega, by omega⟩
        have HOFF : Hid ((va : Value).ownBlock ≠ some gt ∧ (vl : Value).ownBlock ≠ some gt) := ⟨fun e => by have := (HB.out.got.1.lt gt e).2; omega, fun e => by have := (HB.out.got.2.lt gt e).2; omega⟩
        have HOG : Hid (∀ cs : Array Value, Off g [(gt, 72, cs)]) := fun cs e he => by
          simp only [List.mem_cons, List.not_mem_nil, or_false] at he
          subst he
          exact HGT.out.1
        clear HB
        go_wp2_with fail
        clear c2
        rw [← hgt] at HB0
        rw [← hgt]
        refine gen_calls (fun x => Hid (DK w x gr g gx b S ⟨8, l, t, p, Ch.zero, 0, 0, bg, LS1, LST⟩ va vl [(gt, 72, #[.int .i64 0, .int .u64 0])])) HB0 ?_
        clear HB0 hgt
        intro y0 HB
        refine (Cxn1.out _ HB.out.rd).mono ?_
        rintro e x1 ⟨rfl, hrd, hgw⟩
        have HX := hide (HB.out.step HLI.out (HOG.out _) hrd hgw)
        clear hrd hgw HB Cxn1
        have c := HX.out.has.1.cell 0 (.int .i64 0) rfl
        have f := HX.out.has.1.free 0
        have HB : Hid (DK w (x1.setCell ⟨gt, 0, none⟩ (.int .i64 ((xn1 : Nat) : Int))) gr g gx b xs1 ⟨8, l, t, p, Ch.zero, 0, 0, bg, LS1, LST⟩ va vl [(gt, 72, #[.int .i64 ((xn1 : Nat) : Int), .int .u64 0])]) := HX.out.put HGT.out.1 HGT.out.2.1 HGT.out.2.2.1 HGT.out.2.2.2 HOFF.out 0 (.int .i64 ((xn1 : Nat) : Int))
        clear HX
        go_wp2_with fail
        refine gen_calls (fun x => Hid (DK w x gr g gx b xs1 ⟨8, l, t, p, Ch.zero, 0, 0, bg, LS1, LST⟩ va vl [(gt, 72, #[.int .i64 ((xn1 : Nat) : Int), .int .u64 0])])) HB ?_
        clear HB c f
        intro y1 HB
        refine (Cxn2.out _ HB.out.rd).mono ?_
        rintro e x2 ⟨rfl, hrd, hgw⟩
        have HX := hide (HB.out.step HLI.out (HOG.out _) hrd hgw)
        clear hrd hgw HB Cxn2
        have c := HX.out.has.1.cell 1 (.int .u64 0) rfl
        have f := HX.out.has.1.free 1
        have HB : Hid (DK w (x2.setCell ⟨gt, 1, none⟩ (.int .u64 ((xn2 : Nat) : Int))) gr g gx b xs2 ⟨8, l, t, p, Ch.zero, 0, 0, bg, LS1, LST⟩ va vl [(gt, 72, #[.int .i64 ((xn1 : Nat) : Int), .int .u64 ((xn2 : Nat) : Int)])]) := HX.out.put HGT.out.1 HGT.out.2.1 HGT.out.2.2.1 HGT.out.2.2.2 HOFF.out 1 (.int .u64 ((xn2 : Nat) : Int))
        clear HX
        obtain ⟨av, cv, hva⟩ := own_shape5 HB.out.got.2
        have HVA := hide hva
        clear hva
        have HBL := hide ((Below.refl (x2.setCell ⟨gt, 1, none⟩ (.int .u64 ((xn2 : Nat) : Int))).heap.size (x2.setCell ⟨gt, 1, none⟩ (.int .u64 ((xn2 : Nat) : Int)))).alloc (Nat.le_refl _) (.cells #[.int .i64 ((xn1 : Nat) : Int), .int .u64 ((xn2 : Nat) : Int)] 72))
        go_wp2_with (first | (refine wpList_load_val rfl 26 (.tmp 146) rfl _ vl rfl (load_v26 _ vl av _ cv HVA.out (HB.out.xr.cell 13 vl rfl)) ?_) | (refine wpList_load_at rfl 72 (.tmp 10) rfl gt rfl #[.int .i64 ((xn1 : Nat) : Int), .int .u64 ((xn2 : Nat) : Int)] HB.out.has.1 _ Try.underlying72 rfl infoDi ?_) | (at_builtin; refine wpList_append_row _ rfl (.tmp 147) (.tmp 149) 26 72 rfl #[.int .i64 0, .int .u64 0] 2 16 Try.underlying26 infoDi3 rfl (by decide) w.heap.size vl LST.length (flatD LST) rfl (ownsRow_below HB.out.got.2 HBL.out) x2.heap.size #[.int .i64 ((xn1 : Nat) : Int), .int .u64 ((xn2 : Nat) : Int)] rfl (by simp [Value.oneCell']) rfl (row_new2 (x2.setCell ⟨gt, 1, none⟩ (.int .u64 ((xn2 : Nat) : Int))) 72 #[.int .i64 ((xn1 : Nat) : Int), .int .u64 ((xn2 : Nat) : Int)] (by simp)) (by rw [HLL.out]; omega) (by omega) (Nat.le_trans HB.out.bel.size HBL.out.size) ?_))
        intro v' w9 ho9 hg9
        have hpush := (HB.out.later HBL.out).pushD (r' := ⟨8, l, t, p, Ch.zero, 0, 0, bg, LS1, (LST ++ [(⟨xn1, xn2⟩ : Di)])⟩) HLI.out hg9 (by
          show w9.ownsRow w.heap.size 72 2 v' (LST ++ [(⟨xn1, xn2⟩ : Di)]).length (flatD (LST ++ [(⟨xn1, xn2⟩ : Di)]))
          rw [List.length_append, flatD_more]
          exact ho9) rfl rfl
        obtain ⟨a9, c9, hv9⟩ := own_shape5 ho9
        have HX9 := hide hpush.1
        have HDN := hide hpush.2
        clear ho9 hg9 hpush HB HVA HBL c f
        subst hv9
        have c := HX9.out.cell 13 vl rfl
        have f := HX9.out.free 13
        clear HX9
        go_wp2
        clear c f
        go_roundw
        case rel =>
          refine ⟨j2 + 1, by omega, by go_num, .slice a9 (LST.length + 1) c9, ?_⟩
          have e1 : itS pDi (j2 + 1) sB = xs2 := by rw [itS_more, ← HS.out, HP.out]
          have e2 : itL pDi (j2 + 1) sB = LST ++ [(⟨xn1, xn2⟩ : Di)] := by rw [itL_more, ← HS.out, HP.out, HLST.out]
          rw [e1, e2]
          exact HDN.out
        case measure => simp [intOf]; omega

    rw [hse] at c2
    have ewj : IntKind.u64.wrap ((j : Int) + 1) = (j : Int) + 1 := by rw [IntKind.wrap_u64]; omega
    obtain ⟨xn1, xs1, hxn1⟩ : ∃ n s', pNum 4 S = (n, s') := ⟨_, _, rfl⟩
    have bxn1 : xn1 < 256 ^ 4 := by have := num_lt 4 S; rw [hxn1] at this; exact this
    have ewxn1 := conv_i64 xn1 (by omega)
    clear bxn1
    have Cxn1 := hide (fun x h => rnum_any g b S 4 x (by omega) hb h)
    rw [hxn1] at Cxn1
    obtain ⟨xn2, xs2, hxn2⟩ : ∃ n s', pNum 1 xs1 = (n, s') := ⟨_, _, rfl⟩
    have bxn2 : xn2 < 256 ^ 1 := by have := num_lt 1 xs1; rw [hxn2] at this; exact this
    have ewxn2 := conv_i64 xn2 (by omega)
    clear bxn2
    have Cxn2 := hide (fun x h => rnum_any g b xs1 1 x (by omega) hb h)
    rw [hxn2] at Cxn2
    obtain ⟨xn3, xs3, hxn3⟩ : ∃ n s', pNum 8 xs2 = (n, s') := ⟨_, _, rfl⟩
    have Cxn3 := hide (fun x h => rnum_any g b xs2 8 x (by omega) hb h)
    rw [hxn3] at Cxn3
    obtain ⟨xn4, xs4, hxn4⟩ : ∃ n s', pNum 8 xs3 = (n, s') := ⟨_, _, rfl⟩
    have Cxn4 := hide (fun x h => rnum_any g b xs3 8 x (by omega) hb h)
    rw [hxn4] at Cxn4
    obtain ⟨xn5, xs5, hxn5⟩ : ∃ n s', pNum 8 xs4 = (n, s') := ⟨_, _, rfl⟩
    have Cxn5 := hide (fun x h => rnum_any g b xs4 8 x (by omega) hb h)
    rw [hxn5] at Cxn5
    have HP : Hid (pTx S = ((⟨xn1, xn2, xn3, xn4, xn5⟩ : Tx), xs5)) := by
      show pTx S = _
      simp only [pTx, bindP, pureP, hxn1, hxn2, hxn3, hxn4, hxn5]
    clear hxn1 hxn2 hxn3 hxn4 hxn5
    obtain ⟨gt, hgt⟩ : ∃ gt, gt = wr.heap.size := ⟨_, rfl⟩
    have HB0 : Hid (DK w (wr.alloc (.cells #[.int .i64 0, .int .i64 0, .int .u64 0, .int .u64 0, .int .u64 0] 70)) gr g gx b S ⟨8, l, t, p, Ch.zero, 0, 0, bg, LST, []⟩ vl (.slice none 0 0) [(wr.heap.size, 70, #[.int .i64 0, .int .i64 0, .int .u64 0, .int .u64 0, .int .u64 0])]) := HB.out.more ((Below.refl _ _).alloc (Nat.le_refl _) _) (RowAt.new _ _ _)
    have HGT : Hid (gt ≠ g ∧ gx ≠ gt ∧ gr ≠ gt ∧ w.heap.size ≤ gt) := by
      obtain ⟨kq2, q, -, -⟩ := HB.out.rd
      have a1 := q.lt
      have a2 := HB.out.xr.lt
      have a3 := HB.out.zr.lt
      have a4 := HB.out.bel.size
      exact ⟨by omega, by omega, by omega, by omega⟩
    have HOFF : Hid ((vl : Value).ownBlock ≠ some gt ∧ ((.slice none 0 0) : Value).ownBlock ≠ some gt) := ⟨fun e => by have := (HB.out.got.1.lt gt e).2; omega, fun e => by have := (HB.out.got.2.lt gt e).2; omega⟩
    have HOG : Hid (∀ cs : Array Value, Off g [(gt, 70, cs)]) := fun cs e he => by
      simp only [List.mem_cons, List.not_mem_nil, or_false] at he
      subst he
      exact HGT.out.1
    clear HB
    go_wp2_with fail
    clear c2
    rw [← hgt] at HB0
    rw [← hgt]
    refine gen_calls (fun x => Hid (DK w x gr g gx b S ⟨8, l, t, p, Ch.zero, 0, 0, bg, LST, []⟩ vl (.slice none 0 0) [(gt, 70, #[.int .i64 0, .int .i64 0, .int .u64 0, .int .u64 0, .int .u64 0])])) HB0 ?_
    clear HB0 hgt
    intro y0 HB
    refine (Cxn1.out _ HB.out.rd).mono ?_
    rintro e x1 ⟨rfl, hrd, hgw⟩
    have HX := hide (HB.out.step HLI.out (HOG.out _) hrd hgw)
    clear hrd hgw HB Cxn1
    have c := HX.out.has.1.cell 0 (.int .i64 0) rfl
    have f := HX.out.has.1.free 0
    have HB : Hid (DK w (x1.setCell ⟨gt, 0, none⟩ (.int .i64 ((xn1 : Nat) : Int))) gr g gx b xs1 ⟨8, l, t, p, Ch.zero, 0, 0, bg, LST, []⟩ vl (.slice none 0 0) [(gt, 70, #[.int .i64 ((xn1 : Nat) : Int), .int .i64 0, .int .u64 0, .int .u64 0, .int .u64 0])]) := HX.out.put HGT.out.1 HGT.out.2.1 HGT.out.2.2.1 HGT.out.2.2.2 HOFF.out 0 (.int .i64 ((xn1 : Nat) : Int))
    clear HX
    go_wp2_with fail
    refine gen_calls (fun x => Hid (DK w x gr g gx b xs1 ⟨8, l, t, p, Ch.zero, 0, 0, bg, LST, []⟩ vl (.slice none 0 0) [(gt, 70, #[.int .i64 ((xn1 : Nat) : Int), .int .i64 0, .int .u64 0, .int .u64 0, .int .u64 0])])) HB ?_
    clear HB c f
    intro y1 HB
    refine (Cxn2.out _ HB.out.rd).mono ?_
    rintro e x2 ⟨rfl, hrd, hgw⟩
    have HX := hide (HB.out.step HLI.out (HOG.out _) hrd hgw)
    clear hrd hgw HB Cxn2
    have c := HX.out.has.1.cell 1 (.int .i64 0) rfl
    have f := HX.out.has.1.free 1
    have HB : Hid (DK w (x2.setCell ⟨gt, 1, none⟩ (.int .i64 ((xn2 : Nat) : Int))) gr g gx b xs2 ⟨8, l, t, p, Ch.zero, 0, 0, bg, LST, []⟩ vl (.slice none 0 0) [(gt, 70, #[.int .i64 ((xn1 : Nat) : Int), .int .i64 ((xn2 : Nat) : Int), .int .u64 0, .int .u64 0, .int .u64 0])]) := HX.out.put HGT.out.1 HGT.out.2.1 HGT.out.2.2.1 HGT.out.2.2.2 HOFF.out 1 (.int .i64 ((xn2 : Nat) : Int))
    clear HX
    go_wp2_with fail
    refine gen_calls (fun x => Hid (DK w x gr g gx b xs2 ⟨8, l, t, p, Ch.zero, 0, 0, bg, LST, []⟩ vl (.slice none 0 0) [(gt, 70, #[.int .i64 ((xn1 : Nat) : Int), .int .i64 ((xn2 : Nat) : Int), .int .u64 0, .int .u64 0, .int .u64 0])])) HB ?_
    clear HB c f
    intro y2 HB
    refine (Cxn3.out _ HB.out.rd).mono ?_
    rintro e x3 ⟨rfl, hrd, hgw⟩
    have HX := hide (HB.out.step HLI.out (HOG.out _) hrd hgw)
    clear hrd hgw HB Cxn3
    have c := HX.out.has.1.cell 2 (.int .u64 0) rfl
    have f := HX.out.has.1.free 2
    have HB : Hid (DK w (x3.setCell ⟨gt, 2, none⟩ (.int .u64 ((xn3 : Nat) : Int))) gr g gx b xs3 ⟨8, l, t, p, Ch.zero, 0, 0, bg, LST, []⟩ vl (.slice none 0 0) [(gt, 70, #[.int .i64 ((xn1 : Nat) : Int), .int .i64 ((xn2 : Nat) : Int), .int .u64 ((xn3 : Nat) : Int), .int .u64 0, .int .u64 0])]) := HX.out.put HGT.out.1 HGT.out.2.1 HGT.out.2.2.1 HGT.out.2.2.2 HOFF.out 2 (.int .u64 ((xn3 : Nat) : Int))
    clear HX
    go_wp2_with fail
    refine gen_calls (fun x => Hid (DK w x gr g gx b xs3 ⟨8, l, t, p, Ch.zero, 0, 0, bg, LST, []⟩ vl (.slice none 0 0) [(gt, 70, #[.int .i64 ((xn1 : Nat) : Int), .int .i64 ((xn2 : Nat) : Int), .int .u64 ((xn3 : Nat) : Int), .int .u64 0, .int .u64 0])])) HB ?_
    clear HB c f
    intro y3 HB
    refine (Cxn4.out _ HB.out.rd).mono ?_
    rintro e x4 ⟨rfl, hrd, hgw⟩
    have HX := hide (HB.out.step HLI.out (HOG.out _) hrd hgw)
    clear hrd hgw HB Cxn4
    have c := HX.out.has.1.cell 3 (.int .u64 0) rfl
    have f := HX.out.has.1.free 3
    have HB : Hid (DK w (x4.setCell ⟨gt, 3, none⟩ (.int .u64 ((xn4 : Nat) : Int))) gr g gx b xs4 ⟨8, l, t, p, Ch.zero, 0, 0, bg, LST, []⟩ vl (.slice none 0 0) [(gt, 70, #[.int .i64 ((xn1 : Nat) : Int), .int .i64 ((xn2 : Nat) : Int), .int .u64 ((xn3 : Nat) : Int), .int .u64 ((xn4 : Nat) : Int), .int .u64 0])]) := HX.out.put HGT.out.1 HGT.out.2.1 HGT.out.2.2.1 HGT.out.2.2.2 HOFF.out 3 (.int .u64 ((xn4 : Nat) : Int))
    clear HX
    go_wp2_with fail
    refine gen_calls (fun x => Hid (DK w x gr g gx b xs4 ⟨8, l, t, p, Ch.zero, 0, 0, bg, LST, []⟩ vl (.slice none 0 0) [(gt, 70, #[.int .i64 ((xn1 : Nat) : Int), .int .i64 ((xn2 : Nat) : Int), .int .u64 ((xn3 : Nat) : Int), .int .u64 ((xn4 : Nat) : Int), .int .u64 0])])) HB ?_
    clear HB c f
    intro y4 HB
    refine (Cxn5.out _ HB.out.rd).mono ?_
    rintro e x5 ⟨rfl, hrd, hgw⟩
    have HX := hide (HB.out.step HLI.out (HOG.out _) hrd hgw)
    clear hrd hgw HB Cxn5
    have c := HX.out.has.1.cell 4 (.int .u64 0) rfl
    have f := HX.out.has.1.free 4
    have HB : Hid (DK w (x5.setCell ⟨gt, 4, none⟩ (.int .u64 ((xn5 : Nat) : Int))) gr g gx b xs5 ⟨8, l, t, p, Ch.zero, 0, 0, bg, LST, []⟩ vl (.slice none 0 0) [(gt, 70, #[.int .i64 ((xn1 : Nat) : Int), .int .i64 ((xn2 : Nat) : Int), .int .u64 ((xn3 : Nat) : Int), .int .u64 ((xn4 : Nat) : Int), .int .u64 ((xn5 : Nat) : Int)])]) := HX.out.put HGT.out.1 HGT.out.2.1 HGT.out.2.2.1 HGT.out.2.2.2 HOFF.out 4 (.int .u64 ((xn5 : Nat) : Int))
    clear HX
    obtain ⟨av, cv, hva⟩ := own_shape5 HB.out.got.1
    have HVA := hide hva
    clear hva
    have HBL := hide ((Below.refl (x5.setCell ⟨gt, 4, none⟩ (.int .u64 ((xn5 : Nat) : Int))).heap.size (x5.setCell ⟨gt, 4, none⟩ (.int .u64 ((xn5 : Nat) : Int)))).alloc (Nat.le_refl _) (.cells #[.int .i64 ((xn1 : Nat) : Int), .int .i64 ((xn2 : Nat) : Int), .int .u64 ((xn3 : Nat) : Int), .int .u64 ((xn4 : Nat) : Int), .int .u64 ((xn5 : Nat) : Int)] 70))
    go_wp2_with (first | (refine wpList_load_val rfl 25 (.tmp 119) rfl _ vl rfl (load_v25 _ vl av _ cv HVA.out (HB.out.xr.cell 12 vl rfl)) ?_) | (refine wpList_load_at rfl 70 (.tmp 8) rfl gt rfl #[.int .i64 ((xn1 : Nat) : Int), .int .i64 ((xn2 : Nat) : Int), .int .u64 ((xn3 : Nat) : Int), .int .u64 ((xn4 : Nat) : Int), .int .u64 ((xn5 : Nat) : Int)] HB.out.has.1 _ Try.underlying70 rfl infoTx ?_) | (at_builtin; refine wpList_append_row _ rfl (.tmp 120) (.tmp 122) 25 70 rfl #[.int .i64 0, .int .i64 0, .int .u64 0, .int .u64 0, .int .u64 0] 5 40 Try.underlying25 infoTx3 rfl (by decide) w.heap.size vl LST.length (flatT LST) rfl (ownsRow_below HB.out.got.1 HBL.out) x5.heap.size #[.int .i64 ((xn1 : Nat) : Int), .int .i64 ((xn2 : Nat) : Int), .int .u64 ((xn3 : Nat) : Int), .int .u64 ((xn4 : Nat) : Int), .int .u64 ((xn5 : Nat) : Int)] rfl (by simp [Value.oneCell']) rfl (row_new2 (x5.setCell ⟨gt, 4, none⟩ (.int .u64 ((xn5 : Nat) : Int))) 70 #[.int .i64 ((xn1 : Nat) : Int), .int .i64 ((xn2 : Nat) : Int), .int .u64 ((xn3 : Nat) : Int), .int .u64 ((xn4 : Nat) : Int), .int .u64 ((xn5 : Nat) : Int)] (by simp)) (by rw [HLL.out]; omega) (by omega) (Nat.le_trans HB.out.bel.size HBL.out.size) ?_))
    intro v' w9 ho9 hg9
    have hpush := (HB.out.later HBL.out).pushT (r' := ⟨8, l, t, p, Ch.zero, 0, 0, bg, (LST ++ [(⟨xn1, xn2, xn3, xn4, xn5⟩ : Tx)]), []⟩) HLI.out hg9 (by
      show w9.ownsRow w.heap.size 70 5 v' (LST ++ [(⟨xn1, xn2, xn3, xn4, xn5⟩ : Tx)]).length (flatT (LST ++ [(⟨xn1, xn2, xn3, xn4, xn5⟩ : Tx)]))
      rw [List.length_append, flatT_more]
      exact ho9) rfl rfl
    obtain ⟨a9, c9, hv9⟩ := own_shape5 ho9
    have HX9 := hide hpush.1
    have HDN := hide hpush.2
    clear ho9 hg9 hpush HB HVA HBL c f
    subst hv9
    have c := HX9.out.cell 12 vl rfl
    have f := HX9.out.free 12
    clear HX9
    go_wp2
    clear c f
    go_roundw
    case rel =>
      refine ⟨j + 1, by omega, by go_num, .slice a9 (LST.length + 1) c9, ?_⟩
      have e1 : itS pTx (j + 1) sA = xs5 := by rw [itS_more, ← HS.out, HP.out]
      have e2 : itL pTx (j + 1) sA = LST ++ [(⟨xn1, xn2, xn3, xn4, xn5⟩ : Tx)] := by rw [itL_more, ← HS.out, HP.out, HLST.out]
      rw [e1, e2]
      exact HDN.out
    case measure => simp [intOf]; omega
end Go.Proofs.Ytgobegpmojkhaaa

/-
  The document's Decode: a kind that is none.
-/
namespace Go.Proofs.Ytgobegpmojkhaaa
open Go.RowKit
set_option linter.unusedVariables false

set_option maxRecDepth 6000 in
set_option maxHeartbeats 6400000 in
theorem rdec_bad (b : ByteArray) (w : World) (hb : b.size ≤ 140737488355328) (hk : (pNum 1 (⟨b.data.toList, 0⟩ : St)).2.e = 0 ∧ ((pNum 1 (⟨b.data.toList, 0⟩ : St)).1 < 1 ∨ 8 < (pNum 1 (⟨b.data.toList, 0⟩ : St)).1)) :
    Calls Try.prog 33 #[.string b] w fun e w' => Ans w b.data.toList e w' := by
  obtain ⟨s, hs⟩ : ∃ s : St, s = ⟨b.data.toList, 0⟩ := ⟨_, rfl⟩
  have HSS := hide hs
  obtain ⟨kd, s0, h0⟩ : ∃ n s', pNum 1 s = (n, s') := ⟨_, _, rfl⟩
  rw [← hs, h0] at hk
  simp only at hk
  have hpi : pIn 1 8 s = (kd, ⟨s0.l, 2⟩) := by
    unfold pIn
    rw [if_pos (by rw [h0]; exact hk), h0]
  have HDD : Hid (decR b.data.toList = (Rec.zero, 2)) := by
    have hst : (pRec s).2 = ⟨s0.l, 2⟩ := by
      rw [rec_rest, hpi]
      exact (Good.rest kd).stick _ (by show (2 : Int) ≠ 0; decide)
    show decR b.data.toList = _
    unfold decR
    rw [← hs, hst]
    rfl
  have he0 := hk.1
  have bkd : kd < 256 ^ 1 := by have := num_lt 1 s; rw [h0] at this; exact this
  have ekd := conv_i64 kd (by omega)
  have HKB := hide hk.2
  clear hk hpi bkd
  have K3 := Keeps.three w 28 97 28 #[.int .i64 0, .int .u64 0, .int .i64 0, .int .u64 0, .int .i64 0, .int .i64 0, .int .i64 0, .string ⟨#[]⟩, .string ⟨#[]⟩, .int .u64 0, .int .i64 0, .int .u64 0, .slice none 0 0, .slice none 0 0] #[.string b, .int .i64 0, .int .i64 0] #[.int .i64 0, .int .u64 0, .int .i64 0, .int .u64 0, .int .i64 0, .int .i64 0, .int .i64 0, .string ⟨#[]⟩, .string ⟨#[]⟩, .int .u64 0, .int .i64 0, .int .u64 0, .slice none 0 0, .slice none 0 0]
  have HI : Hid (DK w (((w.alloc (.cells #[.int .i64 0, .int .u64 0, .int .i64 0, .int .u64 0, .int .i64 0, .int .i64 0, .int .i64 0, .string ⟨#[]⟩, .string ⟨#[]⟩, .int .u64 0, .int .i64 0, .int .u64 0, .slice none 0 0, .slice none 0 0] 28)).alloc (.cells #[.string b, .int .i64 0, .int .i64 0] 97)).alloc (.cells #[.int .i64 0, .int .u64 0, .int .i64 0, .int .u64 0, .int .i64 0, .int .i64 0, .int .i64 0, .string ⟨#[]⟩, .string ⟨#[]⟩, .int .u64 0, .int .i64 0, .int .u64 0, .slice none 0 0, .slice none 0 0] 28)) w.heap.size (w.heap.size + 1) (w.heap.size + 1 + 1) b s Rec.zero (.slice none 0 0) (.slice none 0 0) []) := by
    rw [hs]
    exact ⟨⟨0, K3.1.2.1, Nat.zero_le _, fun _ => ⟨Nat.zero_le _, rfl⟩⟩, K3.1.1, K3.1.2.2.1, K3.2, ⟨World.ownsRow_nil _ _ _ _, World.ownsRow_nil _ _ _ _⟩, trivial⟩
  have HLI0 : Hid (Lie w w.heap.size (w.heap.size + 1) (w.heap.size + 1 + 1)) := ⟨by omega, by omega, by omega, by omega, by omega, by omega⟩
  clear K3
  go_enter Try.func33, Try.ntmps33
  go_wp2_with fail
  obtain ⟨gx, hgx⟩ : ∃ g, g = w.heap.size + 1 + 1 := ⟨_, rfl⟩
  obtain ⟨g, hg⟩ : ∃ g, g = w.heap.size + 1 := ⟨_, rfl⟩
  obtain ⟨gr, hgr⟩ : ∃ g, g = w.heap.size := ⟨_, rfl⟩
  have HLI : Hid (Lie w gr g gx) := by rw [hgx, hg, hgr]; exact HLI0
  have HB : Hid (DK w (((w.alloc (.cells #[.int .i64 0, .int .u64 0, .int .i64 0, .int .u64 0, .int .i64 0, .int .i64 0, .int .i64 0, .string ⟨#[]⟩, .string ⟨#[]⟩, .int .u64 0, .int .i64 0, .int .u64 0, .slice none 0 0, .slice none 0 0] 28)).alloc (.cells #[.string b, .int .i64 0, .int .i64 0] 97)).alloc (.cells #[.int .i64 0, .int .u64 0, .int .i64 0, .int .u64 0, .int .i64 0, .int .i64 0, .int .i64 0, .string ⟨#[]⟩, .string ⟨#[]⟩, .int .u64 0, .int .i64 0, .int .u64 0, .slice none 0 0, .slice none 0 0] 28)) gr g gx b s Rec.zero (.slice none 0 0) (.slice none 0 0) []) := by rw [hgx, hg, hgr]; exact HI
  rw [← hgx, ← hg, ← hgr]
  refine gen_calls (fun x => Hid (DK w x gr g gx b s Rec.zero (.slice none 0 0) (.slice none 0 0) [])) HB ?_
  clear HB HI HLI0 hgx hg hgr hs
  intro y HB
  have Ck := hide (fun x h => rnum_any g b s 1 x (by omega) hb h)
  rw [h0] at Ck
  clear h0
  refine (Ck.out _ HB.out.rd).mono ?_
  rintro e x ⟨rfl, hrd, hgw⟩
  have HX := hide (HB.out.step HLI.out (fun e he => (nomatch he)) hrd hgw)
  clear hrd hgw HB Ck
  have c := HX.out.xr.cell 0 (.int .i64 0) rfl
  have f := HX.out.xr.free 0
  have hst : (Instr.storeAt 3 (.pointer (some ⟨gx, 0, none⟩)) (.int .i64 ((kd : Nat) : Int))).run Try.prog x = .ok () (x.setCell ⟨gx, 0, none⟩ (.int .i64 ((kd : Nat) : Int))) := by go_simp
  clear c f
  have HB : Hid (DK w (x.setCell ⟨gx, 0, none⟩ (.int .i64 ((kd : Nat) : Int))) gr g gx b s0 ⟨kd, 0, 0, 0, Ch.zero, 0, 0, 0, [], []⟩ (.slice none 0 0) (.slice none 0 0) []) := HX.out.set HLI.out (fun e he => (nomatch he)) 0 (.int .i64 ((kd : Nat) : Int)) ⟨kd, 0, 0, 0, Ch.zero, 0, 0, 0, [], []⟩ rfl rfl rfl
  clear HX
  go_wp2_with (refine wpList_store_one rfl 3 (.tmp 17) (.tmp 16) rfl gx 0 (.int .i64 ((kd : Nat) : Int)) rfl rfl hst ?_; refine gen_w (fun x => Hid (DK w x gr g gx b s0 ⟨kd, 0, 0, 0, Ch.zero, 0, 0, 0, [], []⟩ (.slice none 0 0) (.slice none 0 0) [])) HB ?_; clear HB hst; intro yt HD; refine halt ?_)
  have c0 := HD.out.xr.cell 0 (.int .i64 ((kd : Nat) : Int)) rfl
  obtain ⟨k, q, -, -⟩ := HD.out.rd
  have c2 := q.cell 2 (.int .i64 0) (by rw [he0]; rfl)
  clear q
  have hbad := HKB.out
  by_cases h1 : (kd : Int) < 1
  case pos =>
    clear hbad
    refine unhalt ?_
    go_wp2_with (refine wpList_store_at rfl 28 (.tmp 2) (.tmp 33) rfl gr #[.int .i64 0, .int .u64 0, .int .i64 0, .int .u64 0, .int .i64 0, .int .i64 0, .int .i64 0, .string ⟨#[]⟩, .string ⟨#[]⟩, .int .u64 0, .int .i64 0, .int .u64 0, .slice none 0 0, .slice none 0 0] #[.int .i64 0, .int .u64 0, .int .i64 0, .int .u64 0, .int .i64 0, .int .i64 0, .int .i64 0, .string ⟨#[]⟩, .string ⟨#[]⟩, .int .u64 0, .int .i64 0, .int .u64 0, .slice none 0 0, .slice none 0 0] rfl rfl HD.out.zr infoRc rfl (by simp [Value.oneCell']) ?_)
    intro w9 hr9 hk9 _
    have HROW := hide hr9
    have HBL := hide (hk9 _ _ HD.out.bel HLI.out.a)
    clear hr9 hk9 HD c0 c2
    go_wp2
    (try simp only [Exit.inBlock, Exit.then])
    refine bodyPost_ret (res_at rfl _ _ gr #[.int .i64 0, .int .u64 0, .int .i64 0, .int .u64 0, .int .i64 0, .int .i64 0, .int .i64 0, .string ⟨#[]⟩, .string ⟨#[]⟩, .int .u64 0, .int .i64 0, .int .u64 0, .slice none 0 0, .slice none 0 0] _ rfl HROW.out Try.underlying28 rfl infoRc) rfl ?_
    show Ans _ _ _ _
    unfold Ans
    rw [HDD.out]
    exact ⟨⟨_, _, rfl, World.ownsRow_nil _ _ _ _, World.ownsRow_nil _ _ _ _⟩, HBL.out⟩
  case neg =>
    have h8 : (8 : Int) < (kd : Int) := by omega
    clear hbad
    refine unhalt ?_
    go_wp2_with (refine wpList_store_at rfl 28 (.tmp 2) (.tmp 33) rfl gr #[.int .i64 0, .int .u64 0, .int .i64 0, .int .u64 0, .int .i64 0, .int .i64 0, .int .i64 0, .string ⟨#[]⟩, .string ⟨#[]⟩, .int .u64 0, .int .i64 0, .int .u64 0, .slice none 0 0, .slice none 0 0] #[.int .i64 0, .int .u64 0, .int .i64 0, .int .u64 0, .int .i64 0, .int .i64 0, .int .i64 0, .string ⟨#[]⟩, .string ⟨#[]⟩, .int .u64 0, .int .i64 0, .int .u64 0, .slice none 0 0, .slice none 0 0] rfl rfl HD.out.zr infoRc rfl (by simp [Value.oneCell']) ?_)
    intro w9 hr9 hk9 _
    have HROW := hide hr9
    have HBL := hide (hk9 _ _ HD.out.bel HLI.out.a)
    clear hr9 hk9 HD c0 c2
    go_wp2
    (try simp only [Exit.inBlock, Exit.then])
    refine bodyPost_ret (res_at rfl _ _ gr #[.int .i64 0, .int .u64 0, .int .i64 0, .int .u64 0, .int .i64 0, .int .i64 0, .int .i64 0, .string ⟨#[]⟩, .string ⟨#[]⟩, .int .u64 0, .int .i64 0, .int .u64 0, .slice none 0 0, .slice none 0 0] _ rfl HROW.out Try.underlying28 rfl infoRc) rfl ?_
    show Ans _ _ _ _
    unfold Ans
    rw [HDD.out]
    exact ⟨⟨_, _, rfl, World.ownsRow_nil _ _ _ _, World.ownsRow_nil _ _ _ _⟩, HBL.out⟩
end Go.Proofs.Ytgobegpmojkhaaa
