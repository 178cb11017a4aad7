/-
  The contract of record.Decode.
-/
import Derived.Test.YtmapgfakfeddmaaRecDec0
namespace Go.Proofs.Ytmapgfakfeddmaa
open Go.RowKit
set_option linter.unusedVariables false

theorem rowat_drew {x : World} {b : Nat} {t : TypeId} {cs : Array Value} (h : RowAt x b t cs) : RowAt x.drew b t cs := h
theorem below_drew {B : Nat} {w x : World} (h : Below B w x) : Below B w x.drew := ⟨h.1, h.2, h.3, h.4, h.5⟩
/-- A row of the call's own, when a struct of another type is written. -/
theorem own_put {w w2 : World} {base n sz b : Nat} {e t : TypeId} {v : Value} {xs : List Value} {c0 : Array Value} (h : w.ownsRow base e sz v n xs) (hr : RowAt w b t c0) (ht : t ≠ e) (ho : ∀ k t' c', k ≠ b → RowAt w k t' c' → RowAt w2 k t' c') : w2.ownsRow base e sz v n xs := by
  refine ⟨h.1, h.2.imp id ?_⟩
  rintro ⟨g, cap, cur, h1, h2, h3, h4⟩
  refine ⟨g, cap, cur, h1, h2, ho g e cur (fun hg => ?_) h3, h4⟩
  subst hg
  have h5 := hr.symm.trans h3
  simp only [Option.some.injEq, Obj.cells.injEq] at h5
  exact ht h5.2.1
theorem rd_range {x : World} {g k : Nat} {v : Value} {e : Int} {r : Rec} {va vb : Value} (h : RowAt x g 57 (rdB v k e r va vb)) : x.rangeAt g 3 (rcA r va vb).toList := by
  intro j u hu
  have hj : j < 14 := (List.getElem?_eq_some_iff.1 hu).1
  refine h.cell (3 + j) u ?_
  rw [← hu, Array.getElem?_toList]
  match j, hj with
  | 0, _ => rfl
  | 1, _ => rfl
  | 2, _ => rfl
  | 3, _ => rfl
  | 4, _ => rfl
  | 5, _ => rfl
  | 6, _ => rfl
  | 7, _ => rfl
  | 8, _ => rfl
  | 9, _ => rfl
  | 10, _ => rfl
  | 11, _ => rfl
  | 12, _ => rfl
  | 13, _ => rfl

set_option maxRecDepth 4000 in
set_option maxHeartbeats 3200000 in
theorem dec_any (a : Option Addr) (len cap : Nat) (bs : List UInt8) (w : World) (hB : IsB w a len bs) (hl : len ≤ 140737488355328) (hc : len ≤ cap) :
    Calls Try.prog 15 #[.slice a len cap] w fun e w' => (∃ va vb, e = .returned (.tuple #[.agg (rcA (decR bs).1 va vb), .int .i64 (decR bs).2]) ∧ GotIn w.heap.size w' (decR bs).1 va vb) ∧ Below w.heap.size w w' := by
  have K2 := Keeps.two w 28 57 #[.int .i64 0, .int .u64 0, .int .i64 0, .int .u64 0, .int .i64 0, .int .i64 0, .int .i64 0, .string ⟨#[]⟩, .string ⟨#[]⟩, .int .u64 0, .int .i64 0, .int .u64 0, .slice none 0 0, .slice none 0 0] #[.slice a len cap, .int .i64 0, .int .i64 0, .int .i64 0, .int .u64 0, .int .i64 0, .int .u64 0, .int .i64 0, .int .i64 0, .int .i64 0, .string ⟨#[]⟩, .string ⟨#[]⟩, .int .u64 0, .int .i64 0, .int .u64 0, .slice none 0 0, .slice none 0 0]
  have HL2 := hide hB.1
  have HRB : Hid (RbAt ((w.alloc (.cells #[.int .i64 0, .int .u64 0, .int .i64 0, .int .u64 0, .int .i64 0, .int .i64 0, .int .i64 0, .string ⟨#[]⟩, .string ⟨#[]⟩, .int .u64 0, .int .i64 0, .int .u64 0, .slice none 0 0, .slice none 0 0] 28)).alloc (.cells #[.slice a len cap, .int .i64 0, .int .i64 0, .int .i64 0, .int .u64 0, .int .i64 0, .int .u64 0, .int .i64 0, .int .i64 0, .int .i64 0, .string ⟨#[]⟩, .string ⟨#[]⟩, .int .u64 0, .int .i64 0, .int .u64 0, .slice none 0 0, .slice none 0 0] 57)) (w.heap.size + 1) a len cap bs ⟨bs, 0⟩ Rec.zero (.slice none 0 0) (.slice none 0 0)) :=
    ⟨⟨0, K2.1.1, Nat.zero_le _, fun _ => rfl⟩, hB.below K2.2, ⟨hl, hc⟩, fun hp x hx => by
      obtain ⟨b, off, ha, hlt, _⟩ := hB.2 hp
      rw [ha] at hx
      cases hx
      show b < w.heap.size + 1
      omega⟩
  have HZR := hide (And.intro K2.1.2.1 K2.2)
  have HGI : Hid (w.heap.size ≤ w.heap.size ∧ w.heap.size ≠ w.heap.size + 1 ∧ w.heap.size ≤ w.heap.size + 1) := ⟨Nat.le_refl _, by omega, by omega⟩
  clear K2 hB hc
  have hml : len ≤ 140737488355328 := hl
  go_enter Try.func15, Try.ntmps15
  go_wp2_with fail
  obtain ⟨g, hg⟩ : ∃ g, g = w.heap.size + 1 := ⟨_, rfl⟩
  rw [← hg] at HRB HGI
  rw [← hg]
  refine gen_calls (fun x => Hid (RbAt x g a len cap bs ⟨bs, 0⟩ Rec.zero (.slice none 0 0) (.slice none 0 0)) ∧ Hid (RowAt x w.heap.size 28 #[.int .i64 0, .int .u64 0, .int .i64 0, .int .u64 0, .int .i64 0, .int .i64 0, .int .i64 0, .string ⟨#[]⟩, .string ⟨#[]⟩, .int .u64 0, .int .i64 0, .int .u64 0, .slice none 0 0, .slice none 0 0] ∧ Below w.heap.size w x)) ⟨HRB, HZR⟩ ?_
  clear HRB HZR hg
  rintro x0 ⟨HRB, HZR⟩
  have HGE := HGI
  refine (brecord_any g a len cap bs ⟨bs, 0⟩ rfl x0 HRB.out).mono ?_
  rintro e x1 ⟨rfl, r, va, vb, hrb, hreq, ho1, ho2, hgr⟩
  have HRB1 := hide hrb
  have HREQ := hide hreq
  have HGOT : Hid (GotIn w.heap.size x1 r va vb) := ⟨own_mono ho1 HZR.out.2.size, own_mono ho2 HZR.out.2.size⟩
  have HD : Hid (RowAt x1 w.heap.size 28 #[.int .i64 0, .int .u64 0, .int .i64 0, .int .u64 0, .int .i64 0, .int .i64 0, .int .i64 0, .string ⟨#[]⟩, .string ⟨#[]⟩, .int .u64 0, .int .i64 0, .int .u64 0, .slice none 0 0, .slice none 0 0] ∧ Below w.heap.size w x1) := ⟨row_grown HZR.out.1 hgr HGE.out.2.1, ⟨hgr.os.trans HZR.out.2.os, hgr.tape.trans HZR.out.2.tape, hgr.output.trans HZR.out.2.output, Nat.le_trans HZR.out.2.size hgr.size, fun k hk => (hgr.block k (Nat.lt_of_lt_of_le hk HZR.out.2.size) (fun e => by cases e; have := HGE.out.2.2; omega)).trans (HZR.out.2.block k hk)⟩⟩
  clear hrb hreq ho1 ho2 hgr HRB HZR HGI
  have HDR : Hid (decR bs = if (pRec ⟨bs, 0⟩).2.e ≠ 0 then (Rec.zero, (pRec ⟨bs, 0⟩).2.e) else if (pRec ⟨bs, 0⟩).2.l ≠ [] ∨ (pRec ⟨bs, 0⟩).1.rightB = false then (Rec.zero, 2) else ((pRec ⟨bs, 0⟩).1, 0)) := rfl
  have HFI := hide (rec_fits ⟨bs, 0⟩)
  generalize pRec ⟨bs, 0⟩ = pr at *
  obtain ⟨pr, s'⟩ := pr
  simp only at HREQ HDR HRB1 HFI
  obtain ⟨k, q, hkl, hd⟩ := HRB1.out.row
  have c2 := q.cell 2 (.int .i64 s'.e) rfl
  have HQ := hide q
  have HKL := hide hkl
  have HDL := hide hd
  clear q hkl hd
  by_cases he : s'.e = 0
  case neg =>
    have hdr : decR bs = (Rec.zero, s'.e) := by rw [HDR.out, if_pos he]
    have HDD := hide hdr
    have k0 : (s'.e == 0) = false := by rw [beq_eq_false_iff_ne]; exact he
    have k1 : (s'.e != 0) = true := by rw [bne, k0]; rfl
    clear hdr HDR he HREQ HQ HKL HDL HFI
    generalize s'.e = es at *
    have z0 := HD.out.1.cell 0 (.int .i64 0) rfl
    have zf0 := HD.out.1.free 0
    have z1 := HD.out.1.cell 1 (.int .u64 0) rfl
    have zf1 := HD.out.1.free 1
    have z2 := HD.out.1.cell 2 (.int .i64 0) rfl
    have zf2 := HD.out.1.free 2
    have z3 := HD.out.1.cell 3 (.int .u64 0) rfl
    have zf3 := HD.out.1.free 3
    have z4 := HD.out.1.cell 4 (.int .i64 0) rfl
    have zf4 := HD.out.1.free 4
    have z5 := HD.out.1.cell 5 (.int .i64 0) rfl
    have zf5 := HD.out.1.free 5
    have z6 := HD.out.1.cell 6 (.int .i64 0) rfl
    have zf6 := HD.out.1.free 6
    have z7 := HD.out.1.cell 7 (.string ⟨#[]⟩) rfl
    have zf7 := HD.out.1.free 7
    have z8 := HD.out.1.cell 8 (.string ⟨#[]⟩) rfl
    have zf8 := HD.out.1.free 8
    have z9 := HD.out.1.cell 9 (.int .u64 0) rfl
    have zf9 := HD.out.1.free 9
    have z10 := HD.out.1.cell 10 (.int .i64 0) rfl
    have zf10 := HD.out.1.free 10
    have z11 := HD.out.1.cell 11 (.int .u64 0) rfl
    have zf11 := HD.out.1.free 11
    have z12 := HD.out.1.cell 12 (.slice none 0 0) rfl
    have zf12 := HD.out.1.free 12
    have z13 := HD.out.1.cell 13 (.slice none 0 0) rfl
    have zf13 := HD.out.1.free 13
    have ne1 := HGE.out.2.1
    go_wp2_with fail
    go_region
    have HRW := hide ((((((((((((((HD.out.1.setSame 0 (.int .i64 0) rfl).setSame 1 (.int .u64 0) rfl).setSame 2 (.int .i64 0) rfl).setSame 3 (.int .u64 0) rfl).setSame 4 (.int .i64 0) rfl).setSame 5 (.int .i64 0) rfl).setSame 6 (.int .i64 0) rfl).setSame 7 (.string ⟨#[]⟩) rfl).setSame 8 (.string ⟨#[]⟩) rfl).setSame 9 (.int .u64 0) rfl).setSame 10 (.int .i64 0) rfl).setSame 11 (.int .u64 0) rfl).setSame 12 (.slice none 0 0) rfl).setSame 13 (.slice none 0 0) rfl)
    have HBW := hide ((((((((((((((HD.out.2.set1 HGE.out.1 0 (.int .i64 0)).set1 HGE.out.1 1 (.int .u64 0)).set1 HGE.out.1 2 (.int .i64 0)).set1 HGE.out.1 3 (.int .u64 0)).set1 HGE.out.1 4 (.int .i64 0)).set1 HGE.out.1 5 (.int .i64 0)).set1 HGE.out.1 6 (.int .i64 0)).set1 HGE.out.1 7 (.string ⟨#[]⟩)).set1 HGE.out.1 8 (.string ⟨#[]⟩)).set1 HGE.out.1 9 (.int .u64 0)).set1 HGE.out.1 10 (.int .i64 0)).set1 HGE.out.1 11 (.int .u64 0)).set1 HGE.out.1 12 (.slice none 0 0)).set1 HGE.out.1 13 (.slice none 0 0))
    refine gen_w (fun x => Hid (RowAt x w.heap.size 28 #[.int .i64 0, .int .u64 0, .int .i64 0, .int .u64 0, .int .i64 0, .int .i64 0, .int .i64 0, .string ⟨#[]⟩, .string ⟨#[]⟩, .int .u64 0, .int .i64 0, .int .u64 0, .slice none 0 0, .slice none 0 0]) ∧ Hid (Below w.heap.size w x)) (x := ((((((((((((((x1.setCell ⟨w.heap.size, 0, none⟩ (.int .i64 0)).setCell ⟨w.heap.size, 1, none⟩ (.int .u64 0)).setCell ⟨w.heap.size, 2, none⟩ (.int .i64 0)).setCell ⟨w.heap.size, 3, none⟩ (.int .u64 0)).setCell ⟨w.heap.size, 4, none⟩ (.int .i64 0)).setCell ⟨w.heap.size, 5, none⟩ (.int .i64 0)).setCell ⟨w.heap.size, 6, none⟩ (.int .i64 0)).setCell ⟨w.heap.size, 7, none⟩ (.string ⟨#[]⟩)).setCell ⟨w.heap.size, 8, none⟩ (.string ⟨#[]⟩)).setCell ⟨w.heap.size, 9, none⟩ (.int .u64 0)).setCell ⟨w.heap.size, 10, none⟩ (.int .i64 0)).setCell ⟨w.heap.size, 11, none⟩ (.int .u64 0)).setCell ⟨w.heap.size, 12, none⟩ (.slice none 0 0)).setCell ⟨w.heap.size, 13, none⟩ (.slice none 0 0)).drew) ⟨hide (rowat_drew HRW.out), hide (below_drew HBW.out)⟩ ?_
    clear HD HRW HBW z0 zf0 z1 zf1 z2 zf2 z3 zf3 z4 zf4 z5 zf5 z6 zf6 z7 zf7 z8 zf8 z9 zf9 z10 zf10 z11 zf11 z12 zf12 z13 zf13 ne1 c2
    rintro y0 ⟨HROW, HBL⟩
    go_wp2
    (try simp only [Exit.inBlock, Exit.then])
    refine bodyPost_ret (res_at rfl _ _ w.heap.size #[.int .i64 0, .int .u64 0, .int .i64 0, .int .u64 0, .int .i64 0, .int .i64 0, .int .i64 0, .string ⟨#[]⟩, .string ⟨#[]⟩, .int .u64 0, .int .i64 0, .int .u64 0, .slice none 0 0, .slice none 0 0] _ rfl HROW.out Try.underlying28 rfl infoRc) rfl ?_
    rw [HDD.out]
    exact ⟨⟨_, _, rfl, World.ownsRow_nil _ _ _ _, World.ownsRow_nil _ _ _ _⟩, HBL.out⟩
  rw [he] at c2 HQ
  obtain rfl := HREQ.out he
  obtain ⟨av, cv, hva⟩ := own_shape5 HGOT.out.1
  obtain ⟨au, cu, hvb⟩ := own_shape5 HGOT.out.2
  subst hva hvb
  have c1 := HQ.out.cell 1 (.int .i64 (k : Int)) rfl
  have HL0 := hide (HDL.out he)
  by_cases hk : k < len
  case pos =>
    have hne : s'.l ≠ [] := fun h => by
      have h2 := HL0.out
      rw [h] at h2
      have h3 := congrArg List.length h2
      rw [List.length_drop, HL2.out] at h3
      have h4 : len - k = 0 := h3
      omega
    have hdr : decR bs = (Rec.zero, 2) := by rw [HDR.out, if_neg (fun h => h he), if_pos (.inl hne)]
    clear hne
    have HDD := hide hdr
    have i1 : (k : Int) < (len : Int) := by omega
    clear hdr HDR he HREQ HQ HKL HDL HFI HL0
    go_wp2_with (refine wpList_store_at rfl 28 (.tmp 2) (.tmp 25) rfl w.heap.size #[.int .i64 0, .int .u64 0, .int .i64 0, .int .u64 0, .int .i64 0, .int .i64 0, .int .i64 0, .string ⟨#[]⟩, .string ⟨#[]⟩, .int .u64 0, .int .i64 0, .int .u64 0, .slice none 0 0, .slice none 0 0] #[.int .i64 0, .int .u64 0, .int .i64 0, .int .u64 0, .int .i64 0, .int .i64 0, .int .i64 0, .string ⟨#[]⟩, .string ⟨#[]⟩, .int .u64 0, .int .i64 0, .int .u64 0, .slice none 0 0, .slice none 0 0] rfl rfl HD.out.1 infoRc rfl (by simp [Value.oneCell']) ?_)
    intro w9 hr9 hk9 _
    have HROW := hide hr9
    have HBL := hide (hk9 _ _ HD.out.2 (Nat.le_refl _))
    clear hr9 hk9 HD c1 c2
    go_wp2
    (try simp only [Exit.inBlock, Exit.then])
    refine bodyPost_ret (res_at rfl _ _ w.heap.size #[.int .i64 0, .int .u64 0, .int .i64 0, .int .u64 0, .int .i64 0, .int .i64 0, .int .i64 0, .string ⟨#[]⟩, .string ⟨#[]⟩, .int .u64 0, .int .i64 0, .int .u64 0, .slice none 0 0, .slice none 0 0] _ rfl HROW.out Try.underlying28 rfl infoRc) rfl ?_
    rw [HDD.out]
    exact ⟨⟨_, _, rfl, World.ownsRow_nil _ _ _ _, World.ownsRow_nil _ _ _ _⟩, HBL.out⟩
  have hln : s'.l = [] := by
    have h2 := HL0.out
    rw [← h2]
    apply List.drop_eq_nil_of_le
    rw [HL2.out]
    omega
  have i1 : ¬ (k : Int) < (len : Int) := by omega
  have r0 := HQ.out.cell 3 (.int .i64 r.k) rfl
  have r1 := HQ.out.cell 4 (.int .u64 (r.l : Int)) rfl
  have r2 := HQ.out.cell 5 (.int .i64 r.t) rfl
  have r3 := HQ.out.cell 6 (.int .u64 (r.p : Int)) rfl
  have r4 := HQ.out.cell 7 (.int .i64 r.c.k) rfl
  have r5 := HQ.out.cell 8 (.int .i64 r.c.pg) rfl
  have r6 := HQ.out.cell 9 (.int .i64 r.c.sl) rfl
  have r7 := HQ.out.cell 10 (.string r.c.o) rfl
  have r8 := HQ.out.cell 11 (.string r.c.n) rfl
  have r9 := HQ.out.cell 12 (.int .u64 (r.n : Int)) rfl
  have r10 := HQ.out.cell 13 (.int .i64 r.s) rfl
  have r11 := HQ.out.cell 14 (.int .u64 (r.b : Int)) rfl
  have r12 := HQ.out.cell 15 (.slice av r.ts.length cv) rfl
  have r13 := HQ.out.cell 16 (.slice au r.ds.length cu) rfl
  by_cases hr : r.right
  case neg =>
    have hdr : decR bs = (Rec.zero, 2) := by rw [HDR.out, if_neg (fun h => h he), if_pos (.inr (rightB_no hr))]
    have HDD := hide hdr
    have HR := hide (right_at r (.slice av r.ts.length cv) (.slice au r.ds.length cu) x1 false (hide ⟨fun h => (nomatch h), fun h => absurd h hr⟩) HFI.out HGOT.out.rc)
    clear hdr HDR he HREQ HQ HKL HDL HFI HL0 hr hln hk
    go_wp2_with fail
    refine HR.out.mono ?_
    rintro e x2 ⟨rfl, hb2⟩
    have HD2 : Hid (RowAt x2 w.heap.size 28 #[.int .i64 0, .int .u64 0, .int .i64 0, .int .u64 0, .int .i64 0, .int .i64 0, .int .i64 0, .string ⟨#[]⟩, .string ⟨#[]⟩, .int .u64 0, .int .i64 0, .int .u64 0, .slice none 0 0, .slice none 0 0] ∧ Below w.heap.size w x2) := ⟨HD.out.1.later hb2, HD.out.2.trans (hb2.mono HD.out.2.size)⟩
    clear hb2 HD HR c1 c2 r0 r1 r2 r3 r4 r5 r6 r7 r8 r9 r10 r11 r12 r13
    go_wp2_with (refine wpList_store_at rfl 28 (.tmp 2) (.tmp 25) rfl w.heap.size #[.int .i64 0, .int .u64 0, .int .i64 0, .int .u64 0, .int .i64 0, .int .i64 0, .int .i64 0, .string ⟨#[]⟩, .string ⟨#[]⟩, .int .u64 0, .int .i64 0, .int .u64 0, .slice none 0 0, .slice none 0 0] #[.int .i64 0, .int .u64 0, .int .i64 0, .int .u64 0, .int .i64 0, .int .i64 0, .int .i64 0, .string ⟨#[]⟩, .string ⟨#[]⟩, .int .u64 0, .int .i64 0, .int .u64 0, .slice none 0 0, .slice none 0 0] rfl rfl HD2.out.1 infoRc rfl (by simp [Value.oneCell']) ?_)
    intro w9 hr9 hk9 _
    have HROW := hide hr9
    have HBL := hide (hk9 _ _ HD2.out.2 (Nat.le_refl _))
    clear hr9 hk9 HD2
    go_wp2
    (try simp only [Exit.inBlock, Exit.then])
    refine bodyPost_ret (res_at rfl _ _ w.heap.size #[.int .i64 0, .int .u64 0, .int .i64 0, .int .u64 0, .int .i64 0, .int .i64 0, .int .i64 0, .string ⟨#[]⟩, .string ⟨#[]⟩, .int .u64 0, .int .i64 0, .int .u64 0, .slice none 0 0, .slice none 0 0] _ rfl HROW.out Try.underlying28 rfl infoRc) rfl ?_
    rw [HDD.out]
    exact ⟨⟨_, _, rfl, World.ownsRow_nil _ _ _ _, World.ownsRow_nil _ _ _ _⟩, HBL.out⟩
  have hdr : decR bs = (r, 0) := by rw [HDR.out, if_neg (fun h => h he), if_neg (fun h => h.elim (fun h => h hln) (fun h => by rw [rightB_yes hr] at h; cases h))]
  have HDD := hide hdr
  have HR := hide (right_at r (.slice av r.ts.length cv) (.slice au r.ds.length cu) x1 true (hide ⟨fun _ => hr, fun _ => rfl⟩) HFI.out HGOT.out.rc)
  clear hdr HDR he HREQ HKL HDL HFI HL0 hr hln hk
  go_wp2_with fail
  refine HR.out.mono ?_
  rintro e x2 ⟨rfl, hb2⟩
  have HD2 : Hid (RowAt x2 w.heap.size 28 #[.int .i64 0, .int .u64 0, .int .i64 0, .int .u64 0, .int .i64 0, .int .i64 0, .int .i64 0, .string ⟨#[]⟩, .string ⟨#[]⟩, .int .u64 0, .int .i64 0, .int .u64 0, .slice none 0 0, .slice none 0 0] ∧ Below w.heap.size w x2) := ⟨HD.out.1.later hb2, HD.out.2.trans (hb2.mono HD.out.2.size)⟩
  have HGOT2 := hide (HGOT.out.below hb2)
  have HRG : Hid (x2.rangeAt g 3 (rcA r (.slice av r.ts.length cv) (.slice au r.ds.length cu)).toList) := rd_range (HQ.out.later hb2)
  clear hb2 HD HR HQ HGOT c1 c2 r0 r1 r2 r3 r4 r5 r6 r7 r8 r9 r10 r11 r12 r13
  go_wp2_with (first | (refine wpList_load_mid rfl 28 (.tmp 26) rfl g 3 (rcA r (.slice av r.ts.length cv) (.slice au r.ds.length cu)) rfl HRG.out _ Try.underlying28 rfl infoRc ?_) | (refine wpList_store_at rfl 28 (.tmp 2) (.tmp 27) rfl w.heap.size #[.int .i64 0, .int .u64 0, .int .i64 0, .int .u64 0, .int .i64 0, .int .i64 0, .int .i64 0, .string ⟨#[]⟩, .string ⟨#[]⟩, .int .u64 0, .int .i64 0, .int .u64 0, .slice none 0 0, .slice none 0 0] (rcA r (.slice av r.ts.length cv) (.slice au r.ds.length cu)) rfl rfl HD2.out.1 infoRc rfl (by simp [rcA, Value.oneCell']) ?_))
  intro w9 hr9 hk9 ho9
  have HROW := hide hr9
  have HBL := hide (hk9 _ _ HD2.out.2 (Nat.le_refl _))
  have HG9 : Hid (GotIn w.heap.size w9 r (.slice av r.ts.length cv) (.slice au r.ds.length cu)) := ⟨own_put HGOT2.out.1 HD2.out.1 (by decide) ho9, own_put HGOT2.out.2 HD2.out.1 (by decide) ho9⟩
  clear hr9 hk9 HD2 HGOT2 HRG ho9
  go_wp2
  (try simp only [Exit.inBlock, Exit.then])
  refine bodyPost_ret (res_at rfl _ _ w.heap.size (rcA r (.slice av r.ts.length cv) (.slice au r.ds.length cu)) _ rfl HROW.out Try.underlying28 rfl infoRc) rfl ?_
  rw [HDD.out]
  exact ⟨⟨_, _, rfl, HG9.out⟩, HBL.out⟩
end Go.Proofs.Ytmapgfakfeddmaa
