/-
  The document's Decode: kind 6.
-/
import Derived.Test.YtmapgfakfeddmaaRecRefDecX
namespace Go.Proofs.Ytmapgfakfeddmaa
open Go.RowKit
set_option linter.unusedVariables false

set_option maxRecDepth 6000 in
set_option maxHeartbeats 6400000 in
theorem rdec_6 (b : ByteArray) (w : World) (hb : b.size ≤ 140737488355328) (hk : (pNum 1 (⟨b.data.toList, 0⟩ : St)).2.e = 0 ∧ (pNum 1 (⟨b.data.toList, 0⟩ : St)).1 = 6) :
    Calls Try.prog 16 #[.string b] w fun e w' => Ans w b.data.toList e w' := by
  obtain ⟨s, hs⟩ : ∃ s : St, s = ⟨b.data.toList, 0⟩ := ⟨_, rfl⟩
  have HSS := hide hs
  obtain ⟨kd, s0, h0⟩ : ∃ n s', pNum 1 s = (n, s') := ⟨_, _, rfl⟩
  rw [← hs, h0] at hk
  simp only at hk
  have hgd : pIn 1 8 s = pNum 1 s := pin_good (by rw [h0]; simp only; omega)
  have he0 := hk.1
  obtain rfl : kd = 6 := hk.2
  clear hk
  obtain ⟨l, s1, hl⟩ : ∃ n s', pNum 8 s0 = (n, s') := ⟨_, _, rfl⟩
  obtain ⟨t, s2, ht⟩ : ∃ n s', pNum 4 s1 = (n, s') := ⟨_, _, rfl⟩
  have bt : t < 256 ^ 4 := by have := num_lt 4 s1; rw [ht] at this; exact this
  have ewt := conv_i64 t (by omega)
  clear bt
  obtain ⟨p, s3, hp⟩ : ∃ n s', pNum 8 s2 = (n, s') := ⟨_, _, rfl⟩
  obtain ⟨sv, s4, hsv⟩ : ∃ n s', pNum 1 s3 = (n, s') := ⟨_, _, rfl⟩
  have bsv : sv < 256 ^ 1 := by have := num_lt 1 s3; rw [hsv] at this; exact this
  have ewsv := conv_i64 sv (by omega)
  clear bsv
  have HPR0 : pRec s = (⟨6, l, t, p, Ch.zero, 0, sv, 0, [], []⟩, s4) := by
    rw [rec_rest, hgd, h0]
    simp [recRest, bindP, pureP, pMay, hl, ht, hp, hsv]
  have HPR : Hid ((pRec ⟨b.data.toList, 0⟩).2 = s4 ∧ (s4.e = 0 → (pRec ⟨b.data.toList, 0⟩).1 = ⟨6, l, t, p, Ch.zero, 0, sv, 0, [], []⟩)) := by
    rw [← HSS.out, HPR0]
    exact ⟨rfl, fun _ => rfl⟩
  clear HPR0 hgd
  have K3 := Keeps.three w 28 60 28 #[.int .i64 0, .int .u64 0, .int .i64 0, .int .u64 0, .int .i64 0, .int .i64 0, .int .i64 0, .string ⟨#[]⟩, .string ⟨#[]⟩, .int .u64 0, .int .i64 0, .int .u64 0, .slice none 0 0, .slice none 0 0] #[.string b, .int .i64 0, .int .i64 0] #[.int .i64 0, .int .u64 0, .int .i64 0, .int .u64 0, .int .i64 0, .int .i64 0, .int .i64 0, .string ⟨#[]⟩, .string ⟨#[]⟩, .int .u64 0, .int .i64 0, .int .u64 0, .slice none 0 0, .slice none 0 0]
  have HI : Hid (DK w (((w.alloc (.cells #[.int .i64 0, .int .u64 0, .int .i64 0, .int .u64 0, .int .i64 0, .int .i64 0, .int .i64 0, .string ⟨#[]⟩, .string ⟨#[]⟩, .int .u64 0, .int .i64 0, .int .u64 0, .slice none 0 0, .slice none 0 0] 28)).alloc (.cells #[.string b, .int .i64 0, .int .i64 0] 60)).alloc (.cells #[.int .i64 0, .int .u64 0, .int .i64 0, .int .u64 0, .int .i64 0, .int .i64 0, .int .i64 0, .string ⟨#[]⟩, .string ⟨#[]⟩, .int .u64 0, .int .i64 0, .int .u64 0, .slice none 0 0, .slice none 0 0] 28)) w.heap.size (w.heap.size + 1) (w.heap.size + 1 + 1) b s Rec.zero (.slice none 0 0) (.slice none 0 0) []) := by
    rw [hs]
    exact ⟨⟨0, K3.1.2.1, Nat.zero_le _, fun _ => ⟨Nat.zero_le _, rfl⟩⟩, K3.1.1, K3.1.2.2.1, K3.2, ⟨World.ownsRow_nil _ _ _ _, World.ownsRow_nil _ _ _ _⟩, trivial⟩
  have HLI0 : Hid (Lie w w.heap.size (w.heap.size + 1) (w.heap.size + 1 + 1)) := ⟨by omega, by omega, by omega, by omega, by omega, by omega⟩
  clear K3
  go_enter Try.func16, Try.ntmps16
  go_wp2_with fail
  obtain ⟨gx, hgx⟩ : ∃ g, g = w.heap.size + 1 + 1 := ⟨_, rfl⟩
  obtain ⟨g, hg⟩ : ∃ g, g = w.heap.size + 1 := ⟨_, rfl⟩
  obtain ⟨gr, hgr⟩ : ∃ g, g = w.heap.size := ⟨_, rfl⟩
  have HLI : Hid (Lie w gr g gx) := by rw [hgx, hg, hgr]; exact HLI0
  have HB : Hid (DK w (((w.alloc (.cells #[.int .i64 0, .int .u64 0, .int .i64 0, .int .u64 0, .int .i64 0, .int .i64 0, .int .i64 0, .string ⟨#[]⟩, .string ⟨#[]⟩, .int .u64 0, .int .i64 0, .int .u64 0, .slice none 0 0, .slice none 0 0] 28)).alloc (.cells #[.string b, .int .i64 0, .int .i64 0] 60)).alloc (.cells #[.int .i64 0, .int .u64 0, .int .i64 0, .int .u64 0, .int .i64 0, .int .i64 0, .int .i64 0, .string ⟨#[]⟩, .string ⟨#[]⟩, .int .u64 0, .int .i64 0, .int .u64 0, .slice none 0 0, .slice none 0 0] 28)) gr g gx b s Rec.zero (.slice none 0 0) (.slice none 0 0) []) := by rw [hgx, hg, hgr]; exact HI
  rw [← hgx, ← hg, ← hgr]
  refine gen_calls (fun x => Hid (DK w x gr g gx b s Rec.zero (.slice none 0 0) (.slice none 0 0) [])) HB ?_
  clear HB HI HLI0 hgx hg hgr hs
  intro y HB
  have Ck := hide (fun x h => rnum_any g b s 1 x (by omega) hb h)
  rw [h0] at Ck
  have Cl := hide (fun x h => rnum_any g b s0 8 x (by omega) hb h)
  rw [hl] at Cl
  have Ct := hide (fun x h => rnum_any g b s1 4 x (by omega) hb h)
  rw [ht] at Ct
  have Cp := hide (fun x h => rnum_any g b s2 8 x (by omega) hb h)
  rw [hp] at Cp
  have Csv := hide (fun x h => rnum_any g b s3 1 x (by omega) hb h)
  rw [hsv] at Csv
  clear h0 hl ht hp hsv
  refine (Ck.out _ HB.out.rd).mono ?_
  rintro e x ⟨rfl, hrd, hgw⟩
  have HX := hide (HB.out.step HLI.out (fun e he => (nomatch he)) hrd hgw)
  clear hrd hgw HB Ck
  have c := HX.out.xr.cell 0 (.int .i64 0) rfl
  have f := HX.out.xr.free 0
  have hst : (Instr.storeAt 3 (.pointer (some ⟨gx, 0, none⟩)) (.int .i64 6)).run Try.prog x = .ok () (x.setCell ⟨gx, 0, none⟩ (.int .i64 6)) := by go_simp
  clear c f
  have HB : Hid (DK w (x.setCell ⟨gx, 0, none⟩ (.int .i64 6)) gr g gx b s0 ⟨6, 0, 0, 0, Ch.zero, 0, 0, 0, [], []⟩ (.slice none 0 0) (.slice none 0 0) []) := HX.out.set HLI.out (fun e he => (nomatch he)) 0 (.int .i64 6) ⟨6, 0, 0, 0, Ch.zero, 0, 0, 0, [], []⟩ rfl rfl rfl
  clear HX
  go_wp2_with (refine wpList_store_one rfl 3 (.tmp 17) (.tmp 16) rfl gx 0 (.int .i64 6) rfl rfl hst ?_; refine gen_w (fun x => Hid (DK w x gr g gx b s0 ⟨6, 0, 0, 0, Ch.zero, 0, 0, 0, [], []⟩ (.slice none 0 0) (.slice none 0 0) [])) HB ?_; clear HB hst; intro y HB; have c0 := HB.out.xr.cell 0 (.int .i64 6) rfl; obtain ⟨k, q, -, -⟩ := HB.out.rd; have c2 := q.cell 2 (.int .i64 0) (by rw [he0]; rfl); clear q)
  clear c2
  refine (Cl.out _ HB.out.rd).mono ?_
  rintro e x ⟨rfl, hrd, hgw⟩
  have HX := hide (HB.out.step HLI.out (fun e he => (nomatch he)) hrd hgw)
  clear hrd hgw HB Cl c0
  have c := HX.out.xr.cell 1 (.int .u64 0) rfl
  have f := HX.out.xr.free 1
  have hst : (Instr.storeAt 22 (.pointer (some ⟨gx, 1, none⟩)) (.int .u64 ((l : Nat) : Int))).run Try.prog x = .ok () (x.setCell ⟨gx, 1, none⟩ (.int .u64 ((l : Nat) : Int))) := by go_simp
  clear c f
  have HB : Hid (DK w (x.setCell ⟨gx, 1, none⟩ (.int .u64 ((l : Nat) : Int))) gr g gx b s1 ⟨6, l, 0, 0, Ch.zero, 0, 0, 0, [], []⟩ (.slice none 0 0) (.slice none 0 0) []) := HX.out.set HLI.out (fun e he => (nomatch he)) 1 (.int .u64 ((l : Nat) : Int)) ⟨6, l, 0, 0, Ch.zero, 0, 0, 0, [], []⟩ rfl rfl rfl
  clear HX
  go_wp2_with (refine wpList_store_one rfl 22 (.tmp 36) (.tmp 35) rfl gx 1 (.int .u64 ((l : Nat) : Int)) rfl rfl hst ?_; refine gen_w (fun x => Hid (DK w x gr g gx b s1 ⟨6, l, 0, 0, Ch.zero, 0, 0, 0, [], []⟩ (.slice none 0 0) (.slice none 0 0) [])) HB ?_; clear HB hst; intro y HB; have c0 := HB.out.xr.cell 0 (.int .i64 6) rfl)
  refine (Ct.out _ HB.out.rd).mono ?_
  rintro e x ⟨rfl, hrd, hgw⟩
  have HX := hide (HB.out.step HLI.out (fun e he => (nomatch he)) hrd hgw)
  clear hrd hgw HB Ct c0
  have c := HX.out.xr.cell 2 (.int .i64 0) rfl
  have f := HX.out.xr.free 2
  have hst : (Instr.storeAt 3 (.pointer (some ⟨gx, 2, none⟩)) (.int .i64 ((t : Nat) : Int))).run Try.prog x = .ok () (x.setCell ⟨gx, 2, none⟩ (.int .i64 ((t : Nat) : Int))) := by go_simp
  clear c f
  have HB : Hid (DK w (x.setCell ⟨gx, 2, none⟩ (.int .i64 ((t : Nat) : Int))) gr g gx b s2 ⟨6, l, t, 0, Ch.zero, 0, 0, 0, [], []⟩ (.slice none 0 0) (.slice none 0 0) []) := HX.out.set HLI.out (fun e he => (nomatch he)) 2 (.int .i64 ((t : Nat) : Int)) ⟨6, l, t, 0, Ch.zero, 0, 0, 0, [], []⟩ rfl rfl rfl
  clear HX
  go_wp2_with (refine wpList_store_one rfl 3 (.tmp 40) (.tmp 39) rfl gx 2 (.int .i64 ((t : Nat) : Int)) rfl rfl hst ?_; refine gen_w (fun x => Hid (DK w x gr g gx b s2 ⟨6, l, t, 0, Ch.zero, 0, 0, 0, [], []⟩ (.slice none 0 0) (.slice none 0 0) [])) HB ?_; clear HB hst; intro y HB; have c0 := HB.out.xr.cell 0 (.int .i64 6) rfl)
  refine (Cp.out _ HB.out.rd).mono ?_
  rintro e x ⟨rfl, hrd, hgw⟩
  have HX := hide (HB.out.step HLI.out (fun e he => (nomatch he)) hrd hgw)
  clear hrd hgw HB Cp c0
  have c := HX.out.xr.cell 3 (.int .u64 0) rfl
  have f := HX.out.xr.free 3
  have hst : (Instr.storeAt 22 (.pointer (some ⟨gx, 3, none⟩)) (.int .u64 ((p : Nat) : Int))).run Try.prog x = .ok () (x.setCell ⟨gx, 3, none⟩ (.int .u64 ((p : Nat) : Int))) := by go_simp
  clear c f
  have HB : Hid (DK w (x.setCell ⟨gx, 3, none⟩ (.int .u64 ((p : Nat) : Int))) gr g gx b s3 ⟨6, l, t, p, Ch.zero, 0, 0, 0, [], []⟩ (.slice none 0 0) (.slice none 0 0) []) := HX.out.set HLI.out (fun e he => (nomatch he)) 3 (.int .u64 ((p : Nat) : Int)) ⟨6, l, t, p, Ch.zero, 0, 0, 0, [], []⟩ rfl rfl rfl
  clear HX
  go_wp2_with (refine wpList_store_one rfl 22 (.tmp 43) (.tmp 42) rfl gx 3 (.int .u64 ((p : Nat) : Int)) rfl rfl hst ?_; refine gen_w (fun x => Hid (DK w x gr g gx b s3 ⟨6, l, t, p, Ch.zero, 0, 0, 0, [], []⟩ (.slice none 0 0) (.slice none 0 0) [])) HB ?_; clear HB hst; intro y HB; have c0 := HB.out.xr.cell 0 (.int .i64 6) rfl)
  refine (Csv.out _ HB.out.rd).mono ?_
  rintro e x ⟨rfl, hrd, hgw⟩
  have HX := hide (HB.out.step HLI.out (fun e he => (nomatch he)) hrd hgw)
  clear hrd hgw HB Csv c0
  have c := HX.out.xr.cell 10 (.int .i64 0) rfl
  have f := HX.out.xr.free 10
  have hst : (Instr.storeAt 3 (.pointer (some ⟨gx, 10, none⟩)) (.int .i64 ((sv : Nat) : Int))).run Try.prog x = .ok () (x.setCell ⟨gx, 10, none⟩ (.int .i64 ((sv : Nat) : Int))) := by go_simp
  clear c f
  have HB : Hid (DK w (x.setCell ⟨gx, 10, none⟩ (.int .i64 ((sv : Nat) : Int))) gr g gx b s4 ⟨6, l, t, p, Ch.zero, 0, sv, 0, [], []⟩ (.slice none 0 0) (.slice none 0 0) []) := HX.out.set HLI.out (fun e he => (nomatch he)) 10 (.int .i64 ((sv : Nat) : Int)) ⟨6, l, t, p, Ch.zero, 0, sv, 0, [], []⟩ rfl rfl rfl
  clear HX
  go_wp2_with (refine wpList_store_one rfl 3 (.tmp 82) (.tmp 81) rfl gx 10 (.int .i64 ((sv : Nat) : Int)) rfl rfl hst ?_; refine gen_w (fun x => Hid (DK w x gr g gx b s4 ⟨6, l, t, p, Ch.zero, 0, sv, 0, [], []⟩ (.slice none 0 0) (.slice none 0 0) [])) HB ?_; clear HB hst; intro yt HD; refine halt ?_)
  obtain ⟨r, hrr⟩ : ∃ r : Rec, r = ⟨6, l, t, p, Ch.zero, 0, sv, 0, [], []⟩ := ⟨_, rfl⟩
  have hrk : r.k = ((6 : Nat) : Int) := by first | (rw [hrr]; done) | (rw [hrr]; rfl)
  rw [← hrr] at HD HPR
  have HRR := hide hrr
  clear hrr
  clear hrk
  obtain ⟨va, hva0⟩ : ∃ v, v = Value.slice none 0 0 := ⟨_, rfl⟩
  obtain ⟨vb, hvb0⟩ : ∃ v, v = Value.slice none 0 0 := ⟨_, rfl⟩
  have HD1 : Hid (DK w yt gr g gx b s4 r va vb []) := by rw [hva0, hvb0]; exact HD
  clear HD
  have HD := HD1
  clear HD1 hva0 hvb0
  generalize s4 = s' at *
  obtain ⟨k, q, hkb, hkl⟩ := HD.out.rd
  have c2 := q.cell 2 (.int .i64 s'.e) rfl
  have c1 := q.cell 1 (.int .i64 (k : Int)) rfl
  have HKL := hide hkl
  clear q hkl
  have HDR : Hid (decR b.data.toList = if (pRec ⟨b.data.toList, 0⟩).2.e ≠ 0 then (Rec.zero, (pRec ⟨b.data.toList, 0⟩).2.e) else if (pRec ⟨b.data.toList, 0⟩).2.l ≠ [] ∨ (pRec ⟨b.data.toList, 0⟩).1.rightB = false then (Rec.zero, 2) else ((pRec ⟨b.data.toList, 0⟩).1, 0)) := rfl
  by_cases he : s'.e = 0
  case neg =>
    have hdr : decR b.data.toList = (Rec.zero, s'.e) := by rw [HDR.out, HPR.out.1, if_pos he]
    have HDD := hide hdr
    have k0 : (s'.e == 0) = false := by rw [beq_eq_false_iff_ne]; exact he
    have k1 : (s'.e != 0) = true := by rw [bne, k0]; rfl
    clear hdr HDR he HPR HKL c1 hkb
    generalize s'.e = es at *
    have z0 := HD.out.zr.cell 0 (.int .i64 0) rfl
    have zf0 := HD.out.zr.free 0
    have z1 := HD.out.zr.cell 1 (.int .u64 0) rfl
    have zf1 := HD.out.zr.free 1
    have z2 := HD.out.zr.cell 2 (.int .i64 0) rfl
    have zf2 := HD.out.zr.free 2
    have z3 := HD.out.zr.cell 3 (.int .u64 0) rfl
    have zf3 := HD.out.zr.free 3
    have z4 := HD.out.zr.cell 4 (.int .i64 0) rfl
    have zf4 := HD.out.zr.free 4
    have z5 := HD.out.zr.cell 5 (.int .i64 0) rfl
    have zf5 := HD.out.zr.free 5
    have z6 := HD.out.zr.cell 6 (.int .i64 0) rfl
    have zf6 := HD.out.zr.free 6
    have z7 := HD.out.zr.cell 7 (.string ⟨#[]⟩) rfl
    have zf7 := HD.out.zr.free 7
    have z8 := HD.out.zr.cell 8 (.string ⟨#[]⟩) rfl
    have zf8 := HD.out.zr.free 8
    have z9 := HD.out.zr.cell 9 (.int .u64 0) rfl
    have zf9 := HD.out.zr.free 9
    have z10 := HD.out.zr.cell 10 (.int .i64 0) rfl
    have zf10 := HD.out.zr.free 10
    have z11 := HD.out.zr.cell 11 (.int .u64 0) rfl
    have zf11 := HD.out.zr.free 11
    have z12 := HD.out.zr.cell 12 (.slice none 0 0) rfl
    have zf12 := HD.out.zr.free 12
    have z13 := HD.out.zr.cell 13 (.slice none 0 0) rfl
    have zf13 := HD.out.zr.free 13
    have ne1 := HLI.out.d
    refine unhalt ?_
    go_wp2_with fail
    go_region
    have HRW := hide ((((((((((((((HD.out.zr.setSame 0 (.int .i64 0) rfl).setSame 1 (.int .u64 0) rfl).setSame 2 (.int .i64 0) rfl).setSame 3 (.int .u64 0) rfl).setSame 4 (.int .i64 0) rfl).setSame 5 (.int .i64 0) rfl).setSame 6 (.int .i64 0) rfl).setSame 7 (.string ⟨#[]⟩) rfl).setSame 8 (.string ⟨#[]⟩) rfl).setSame 9 (.int .u64 0) rfl).setSame 10 (.int .i64 0) rfl).setSame 11 (.int .u64 0) rfl).setSame 12 (.slice none 0 0) rfl).setSame 13 (.slice none 0 0) rfl)
    have HBW := hide ((((((((((((((HD.out.bel.set1 HLI.out.a 0 (.int .i64 0)).set1 HLI.out.a 1 (.int .u64 0)).set1 HLI.out.a 2 (.int .i64 0)).set1 HLI.out.a 3 (.int .u64 0)).set1 HLI.out.a 4 (.int .i64 0)).set1 HLI.out.a 5 (.int .i64 0)).set1 HLI.out.a 6 (.int .i64 0)).set1 HLI.out.a 7 (.string ⟨#[]⟩)).set1 HLI.out.a 8 (.string ⟨#[]⟩)).set1 HLI.out.a 9 (.int .u64 0)).set1 HLI.out.a 10 (.int .i64 0)).set1 HLI.out.a 11 (.int .u64 0)).set1 HLI.out.a 12 (.slice none 0 0)).set1 HLI.out.a 13 (.slice none 0 0))
    refine gen_w (fun x => Hid (RowAt x gr 28 #[.int .i64 0, .int .u64 0, .int .i64 0, .int .u64 0, .int .i64 0, .int .i64 0, .int .i64 0, .string ⟨#[]⟩, .string ⟨#[]⟩, .int .u64 0, .int .i64 0, .int .u64 0, .slice none 0 0, .slice none 0 0]) ∧ Hid (Below w.heap.size w x)) (x := ((((((((((((((yt.setCell ⟨gr, 0, none⟩ (.int .i64 0)).setCell ⟨gr, 1, none⟩ (.int .u64 0)).setCell ⟨gr, 2, none⟩ (.int .i64 0)).setCell ⟨gr, 3, none⟩ (.int .u64 0)).setCell ⟨gr, 4, none⟩ (.int .i64 0)).setCell ⟨gr, 5, none⟩ (.int .i64 0)).setCell ⟨gr, 6, none⟩ (.int .i64 0)).setCell ⟨gr, 7, none⟩ (.string ⟨#[]⟩)).setCell ⟨gr, 8, none⟩ (.string ⟨#[]⟩)).setCell ⟨gr, 9, none⟩ (.int .u64 0)).setCell ⟨gr, 10, none⟩ (.int .i64 0)).setCell ⟨gr, 11, none⟩ (.int .u64 0)).setCell ⟨gr, 12, none⟩ (.slice none 0 0)).setCell ⟨gr, 13, none⟩ (.slice none 0 0)).drew) ⟨hide (rowat_drew HRW.out), hide (below_drew HBW.out)⟩ ?_
    clear HD HRW HBW z0 zf0 z1 zf1 z2 zf2 z3 zf3 z4 zf4 z5 zf5 z6 zf6 z7 zf7 z8 zf8 z9 zf9 z10 zf10 z11 zf11 z12 zf12 z13 zf13 ne1 c2
    rintro y0 ⟨HROW, HBL⟩
    go_wp2
    (try simp only [Exit.inBlock, Exit.then])
    refine bodyPost_ret (res_at rfl _ _ gr #[.int .i64 0, .int .u64 0, .int .i64 0, .int .u64 0, .int .i64 0, .int .i64 0, .int .i64 0, .string ⟨#[]⟩, .string ⟨#[]⟩, .int .u64 0, .int .i64 0, .int .u64 0, .slice none 0 0, .slice none 0 0] _ rfl HROW.out Try.underlying28 rfl infoRc) rfl ?_
    show Ans _ _ _ _
    unfold Ans
    rw [HDD.out]
    exact ⟨⟨_, _, rfl, World.ownsRow_nil _ _ _ _, World.ownsRow_nil _ _ _ _⟩, HBL.out⟩
  rw [he] at c2
  have hrq := HPR.out.2 he
  obtain ⟨hks, hdl⟩ := HKL.out he
  obtain ⟨av, cv, hva⟩ := own_shape5 HD.out.got.1
  obtain ⟨au, cu, hvb⟩ := own_shape5 HD.out.got.2
  subst hva hvb
  by_cases hk : (k : Int) = (b.size : Int)
  case neg =>
    have hne : s'.l ≠ [] := fun h => by
      rw [h] at hdl
      have h3 := congrArg List.length hdl
      rw [List.length_drop, data_length] at h3
      have h4 : b.size - k = 0 := h3
      omega
    have hdr : decR b.data.toList = (Rec.zero, 2) := by rw [HDR.out, HPR.out.1, if_neg (fun h => h he), if_pos (.inl hne)]
    have HDD := hide hdr
    have k0 : ((k : Int) == (b.size : Int)) = false := by rw [beq_eq_false_iff_ne]; exact hk
    have k1 : ((k : Int) != (b.size : Int)) = true := by rw [bne, k0]; rfl
    clear hdr HDR he HPR HKL hrq hdl hne hk
    refine unhalt ?_
    go_wp2_with (refine wpList_store_at rfl 28 (.tmp 2) (.tmp 174) rfl gr #[.int .i64 0, .int .u64 0, .int .i64 0, .int .u64 0, .int .i64 0, .int .i64 0, .int .i64 0, .string ⟨#[]⟩, .string ⟨#[]⟩, .int .u64 0, .int .i64 0, .int .u64 0, .slice none 0 0, .slice none 0 0] #[.int .i64 0, .int .u64 0, .int .i64 0, .int .u64 0, .int .i64 0, .int .i64 0, .int .i64 0, .string ⟨#[]⟩, .string ⟨#[]⟩, .int .u64 0, .int .i64 0, .int .u64 0, .slice none 0 0, .slice none 0 0] rfl rfl HD.out.zr infoRc rfl (by simp [Value.oneCell']) ?_)
    intro w9 hr9 hk9 _
    have HROW := hide hr9
    have HBL := hide (hk9 _ _ HD.out.bel HLI.out.a)
    clear hr9 hk9 HD c1 c2
    go_wp2
    (try simp only [Exit.inBlock, Exit.then])
    refine bodyPost_ret (res_at rfl _ _ gr #[.int .i64 0, .int .u64 0, .int .i64 0, .int .u64 0, .int .i64 0, .int .i64 0, .int .i64 0, .string ⟨#[]⟩, .string ⟨#[]⟩, .int .u64 0, .int .i64 0, .int .u64 0, .slice none 0 0, .slice none 0 0] _ rfl HROW.out Try.underlying28 rfl infoRc) rfl ?_
    show Ans _ _ _ _
    unfold Ans
    rw [HDD.out]
    exact ⟨⟨_, _, rfl, World.ownsRow_nil _ _ _ _, World.ownsRow_nil _ _ _ _⟩, HBL.out⟩
  have hln : s'.l = [] := by
    rw [← hdl]
    apply List.drop_eq_nil_of_le
    rw [data_length]
    omega
  have k0 : ((k : Int) == (b.size : Int)) = true := by rw [hk]; exact beq_self_eq_true _
  have k1 : ((k : Int) != (b.size : Int)) = false := by rw [bne, k0]; rfl
  clear hk
  have r0 := HD.out.xr.cell 0 (.int .i64 r.k) rfl
  have r1 := HD.out.xr.cell 1 (.int .u64 (r.l : Int)) rfl
  have r2 := HD.out.xr.cell 2 (.int .i64 r.t) rfl
  have r3 := HD.out.xr.cell 3 (.int .u64 (r.p : Int)) rfl
  have r4 := HD.out.xr.cell 4 (.int .i64 r.c.k) rfl
  have r5 := HD.out.xr.cell 5 (.int .i64 r.c.pg) rfl
  have r6 := HD.out.xr.cell 6 (.int .i64 r.c.sl) rfl
  have r7 := HD.out.xr.cell 7 (.string r.c.o) rfl
  have r8 := HD.out.xr.cell 8 (.string r.c.n) rfl
  have r9 := HD.out.xr.cell 9 (.int .u64 (r.n : Int)) rfl
  have r10 := HD.out.xr.cell 10 (.int .i64 r.s) rfl
  have r11 := HD.out.xr.cell 11 (.int .u64 (r.b : Int)) rfl
  have r12 := HD.out.xr.cell 12 (.slice av r.ts.length cv) rfl
  have r13 := HD.out.xr.cell 13 (.slice au r.ds.length cu) rfl
  have HFR : Hid r.c.fits := by rw [← hrq]; exact (rec_fits ⟨b.data.toList, 0⟩).c
  by_cases hr : r.right
  case neg =>
    have hdr : decR b.data.toList = (Rec.zero, 2) := by rw [HDR.out, HPR.out.1, hrq, if_neg (fun h => h he), if_pos (.inr (rightB_no hr))]
    have HDD := hide hdr
    have HR := hide (rright6_at' r (.slice av r.ts.length cv) (.slice au r.ds.length cu) yt false (hide ⟨fun h => (nomatch h), fun h => absurd h hr⟩) HFR.out HD.out.got.rc)
    clear hdr HDR he HPR HKL hrq hdl hln hr HFR
    refine unhalt ?_
    go_wp2_with fail
    refine HR.out.mono ?_
    rintro e x2 ⟨rfl, hb2⟩
    have HD2 := hide (HD.out.later hb2)
    clear hb2 HD HR c1 c2 r0 r1 r2 r3 r4 r5 r6 r7 r8 r9 r10 r11 r12 r13
    go_wp2_with (refine wpList_store_at rfl 28 (.tmp 2) (.tmp 174) rfl gr #[.int .i64 0, .int .u64 0, .int .i64 0, .int .u64 0, .int .i64 0, .int .i64 0, .int .i64 0, .string ⟨#[]⟩, .string ⟨#[]⟩, .int .u64 0, .int .i64 0, .int .u64 0, .slice none 0 0, .slice none 0 0] #[.int .i64 0, .int .u64 0, .int .i64 0, .int .u64 0, .int .i64 0, .int .i64 0, .int .i64 0, .string ⟨#[]⟩, .string ⟨#[]⟩, .int .u64 0, .int .i64 0, .int .u64 0, .slice none 0 0, .slice none 0 0] rfl rfl HD2.out.zr infoRc rfl (by simp [Value.oneCell']) ?_)
    intro w9 hr9 hk9 _
    have HROW := hide hr9
    have HBL := hide (hk9 _ _ HD2.out.bel HLI.out.a)
    clear hr9 hk9 HD2
    go_wp2
    (try simp only [Exit.inBlock, Exit.then])
    refine bodyPost_ret (res_at rfl _ _ gr #[.int .i64 0, .int .u64 0, .int .i64 0, .int .u64 0, .int .i64 0, .int .i64 0, .int .i64 0, .string ⟨#[]⟩, .string ⟨#[]⟩, .int .u64 0, .int .i64 0, .int .u64 0, .slice none 0 0, .slice none 0 0] _ rfl HROW.out Try.underlying28 rfl infoRc) rfl ?_
    show Ans _ _ _ _
    unfold Ans
    rw [HDD.out]
    exact ⟨⟨_, _, rfl, World.ownsRow_nil _ _ _ _, World.ownsRow_nil _ _ _ _⟩, HBL.out⟩
  have hdr : decR b.data.toList = (r, 0) := by rw [HDR.out, HPR.out.1, hrq, if_neg (fun h => h he), if_neg (fun h => h.elim (fun h => h hln) (fun h => by rw [rightB_yes hr] at h; cases h))]
  have HDD := hide hdr
  have HR := hide (rright6_at' r (.slice av r.ts.length cv) (.slice au r.ds.length cu) yt true (hide ⟨fun _ => hr, fun _ => rfl⟩) HFR.out HD.out.got.rc)
  clear hdr HDR he HPR HKL hrq hdl hln hr HFR
  refine unhalt ?_
  go_wp2_with fail
  refine HR.out.mono ?_
  rintro e x2 ⟨rfl, hb2⟩
  have HD2 := hide (HD.out.later hb2)
  clear hb2 HD HR c1 c2 r0 r1 r2 r3 r4 r5 r6 r7 r8 r9 r10 r11 r12 r13
  go_wp2_with (first | (refine wpList_load_at rfl 28 (.tmp 5) rfl gx rfl (rcA r (.slice av r.ts.length cv) (.slice au r.ds.length cu)) HD2.out.xr _ Try.underlying28 rfl infoRc ?_) | (refine wpList_store_at rfl 28 (.tmp 2) (.tmp 175) rfl gr #[.int .i64 0, .int .u64 0, .int .i64 0, .int .u64 0, .int .i64 0, .int .i64 0, .int .i64 0, .string ⟨#[]⟩, .string ⟨#[]⟩, .int .u64 0, .int .i64 0, .int .u64 0, .slice none 0 0, .slice none 0 0] (rcA r (.slice av r.ts.length cv) (.slice au r.ds.length cu)) rfl rfl HD2.out.zr infoRc rfl (by simp [rcA, Value.oneCell']) ?_))
  intro w9 hr9 hk9 ho9
  have HROW := hide hr9
  have HBL := hide (hk9 _ _ HD2.out.bel HLI.out.a)
  have HG9 : Hid (GotIn w.heap.size w9 r (.slice av r.ts.length cv) (.slice au r.ds.length cu)) := ⟨own_put HD2.out.got.1 HD2.out.zr (by decide) ho9, own_put HD2.out.got.2 HD2.out.zr (by decide) ho9⟩
  clear hr9 hk9 HD2 ho9
  go_wp2
  (try simp only [Exit.inBlock, Exit.then])
  refine bodyPost_ret (res_at rfl _ _ gr (rcA r (.slice av r.ts.length cv) (.slice au r.ds.length cu)) _ rfl HROW.out Try.underlying28 rfl infoRc) rfl ?_
  show Ans _ _ _ _
  unfold Ans
  rw [HDD.out]
  exact ⟨⟨_, _, rfl, HG9.out⟩, HBL.out⟩
end Go.Proofs.Ytmapgfakfeddmaa
