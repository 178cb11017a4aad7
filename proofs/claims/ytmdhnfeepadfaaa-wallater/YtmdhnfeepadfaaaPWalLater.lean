/-
  When the records that wait are written plays no part in what they are, and in what the tape has in the end. WalLater returns true for every input, and its arguments read as before.
  Condition: none but those that the form of every such statement bears by itself (each string within the reach).
-/
import Derived.Deep.RegionHeld3
import Derived.Test.YtmdhnfeepadfaaaRows
import Derived.ProofKit
import Derived.OpenShut
import Derived.ShutString
import Derived.SizedLaws
import Derived.JoinedCond
import Derived.Test.YtmdhnfeepadfaaaK16
import Derived.Test.YtmdhnfeepadfaaaK07
import Derived.Test.YtmdhnfeepadfaaaK14
import Derived.Test.YtmdhnfeepadfaaaK15

/-
  The walk of WalLater.
-/
namespace Go.Proofs.Ytmdhnfeepadfaaa.walLater
open Go.RowKit
set_option linter.unusedVariables false

theorem byte_ext {a b : ByteArray} (h : a.data.toList = b.data.toList) : a = b := by
  have e : a.data = b.data := by rw [← Array.toArray_toList (xs := a.data), h, Array.toArray_toList]
  cases a
  cases b
  simp only at e
  rw [e]
/-- A script's call in memory, cell by cell. -/
theorem cells_of {w0 x : World} {b off len cap j : Nat} {cs : List Wc} (h : Scr w0 (.slice (some ⟨b, off, none⟩) len cap) cs) (p : Below w0.heap.size w0 x) (hj : j < cs.length) : ∀ k u, (wcA (cs.getD j Wc.zero)).toList[k]? = some u → x.cell? ⟨b, off + j * 17 + k, none⟩ = some u := by
  obtain ⟨a', cap', e, h2⟩ := h.rows
  injection e with e1 e2 e3
  subst e1
  obtain ⟨b', off', h3, h4, h5⟩ := h2 (by omega)
  injection h3 with h3
  injection h3 with h3 h6
  subst h3 h6
  intro k u hu
  exact rangeAt_below (h5 j hj) p h4 k u hu
theorem run_str (x : World) (a : Option Addr) (n c : Nat) (bs : List UInt8) (h : IsB x a n bs) : (convert 61 9 (.slice a n c)).run Try.prog x = .ok (.string ⟨bs.toArray⟩) x := run_toString (P := Try.prog) x 61 9 5 Try.underlying61 Try.underlying5 Try.underlying9 a n c bs h
set_option maxRecDepth 8000 in
set_option maxHeartbeats 3200000 in
theorem no (v : Value) (wa : Option Addr) (wl wc : Nat) (w : World) (hf : ∀ x, Below w.heap.size w x → Calls Try.prog 23 #[v] x (fun e w' => e = .returned (.bool false) ∧ x = w')) :
    Calls Try.prog 5 #[v, .slice wa wl wc] w fun e w' => e = .returned (.bool true) ∧ Below w.heap.size w w' := by
  have HF := hide hf
  clear hf
  go_enter Try.func5, Try.ntmps5
  go_wp2_with fail
  refine (awake9_any w).mono ?_
  rintro e w1 ⟨rfl, hb1⟩
  have HB := hide hb1
  clear hb1
  go_wp2_with fail
  refine (HF.out w1 HB.out).mono ?_
  rintro e w2 ⟨rfl, rfl⟩
  go_wp2_with fail
  refine (awake9_any w1).mono ?_
  rintro e w3 ⟨rfl, hb3⟩
  have HB3 := hide (HB.out.trans (hb3.mono HB.out.size))
  clear hb3 HB
  go_wp2
  go_ret
  exact ⟨rfl, HB3.out⟩
set_option maxRecDepth 8000 in
set_option maxHeartbeats 6400000 in
theorem yes (v : Value) (cs : List Wc) (wa : Option Addr) (wl wc : Nat) (wf : Nat → Bool) (w : World) (hs : Scr w v cs) (hl : cs.length ≤ 100) (hf : ∀ x, Below w.heap.size w x → Calls Try.prog 23 #[v] x (fun e w' => e = .returned (.bool true) ∧ x = w')) (hwn : IsRow w wa wl 1 (fun i _ => .bool (wf i))) (hwl : wl ≤ 140737488355328) :
    Calls Try.prog 5 #[v, .slice wa wl wc] w fun e w' => e = .returned (.bool true) ∧ Below w.heap.size w w' := by
  have hs' := hs
  obtain ⟨⟨a, cap, rfl, -⟩, -, hcap⟩ := hs'
  have hcap := hcap _ _ _ rfl
  obtain ⟨ln, hln⟩ : ∃ ln, ln = cs.length := ⟨_, rfl⟩
  rw [← hln] at hs hl hcap hf ⊢
  have HLN := hide hln
  have HWN := hide hwn
  clear hln hwn
  have HF := hide hf
  have HS := hide hs
  clear hf hs
  go_enter Try.func5, Try.ntmps5
  go_wp2_with fail
  refine (awake9_any w).mono ?_
  rintro e w1 ⟨rfl, hb1⟩
  have HB := hide hb1
  clear hb1
  go_wp2_with fail
  refine (HF.out w1 HB.out).mono ?_
  rintro e w2 ⟨rfl, rfl⟩
  clear HF
  go_wp2_with fail
  refine (knew8 65536 w w1 HB.out).mono ?_
  rintro e w2 ⟨rfl, h2, -⟩
  have H2 := hide h2
  clear h2 HB
  obtain ⟨gs, hgs⟩ : ∃ gs, gs = w1.heap.size := ⟨_, rfl⟩
  rw [← hgs] at H2 ⊢
  have HGS := hide hgs
  clear hgs
  go_wp2_with fail
  refine (new8_any 65536 w2).mono ?_
  rintro e w3 ⟨rfl, hnew3, hb3⟩
  have h3 : K8 w w3 w2.heap.size (Tp.new 65536) := ⟨H2.out.bel.size, Tp.new_ok 65536, ⟨w2.heap.size, H2.out.bel.size, hnew3⟩, H2.out.bel.trans (hb3.mono H2.out.bel.size)⟩
  obtain ⟨gt, hgt⟩ : ∃ gt, gt = w2.heap.size := ⟨_, rfl⟩
  rw [← hgt] at h3 hnew3 ⊢
  have hne : gs ≠ gt := by
    obtain ⟨q, _, h⟩ := H2.out.tp
    have := h.lt
    omega
  have HOPEN := hide (two_open h3 (H2.out.later hb3) hne hgt H2.out hnew3 (by
    obtain ⟨q, hq, h⟩ := H2.out.tp
    have := h.lt
    exact ⟨q, hq, h.later hb3, by omega⟩))
  clear h3 hb3 hgt H2 hne hnew3
  go_wp2_with fail
  refine HOPEN.out.mono ?_
  rintro e w4 ⟨ga, rfl, h4⟩
  have H4 := hide h4
  clear h4 HOPEN
  go_wp2_with fail
  refine H4.out.mono ?_
  rintro e w5 ⟨gb, rfl, h5⟩
  have H5 := hide h5
  clear h5 H4
  go_wp2
  go_loopw [52] (fun i wr => ∃ j : Nat, j ≤ ln ∧ i = .int .i64 (j : Int) ∧ ∃ g1 g2, Hid (K92 w wr gs ga gt gb g1 g2 ∧ Sim g1 g2)) (fun i _ => ln - (intOf i).toNat)
  case atStart => exact ⟨0, Nat.zero_le _, rfl, _, _, H5.out, ⟨rfl, rfl, rfl, rfl⟩⟩
  case round =>
    obtain ⟨j, hj, rfl, g1, g2, HK⟩ := hrel
    clear H5
    by_cases hlt : j < ln
    · have ij : (j : Int) < (ln : Int) := by omega
      have hjc : j < cs.length := by have := HLN.out; omega
      obtain ⟨b, off, rfl, -, hft, hin⟩ := HS.out.at HK.out.1.bel (j := j) hjc
      have HCL := hide (fun x (hx : Below w.heap.size w x) => cells_of HS.out hx hjc)
      obtain ⟨c, hc⟩ : ∃ c, c = cs.getD j Wc.zero := ⟨_, rfl⟩
      rw [← hc] at hft hin HCL
      clear hc
      obtain ⟨⟨a1, c1, h1⟩, a2, c2, h2⟩ := rcF_slices hin
      have HFT := hide (And.intro hft hin)
      have HN := hide (wf_u64 hft.2.1)
      have HC2 : Hid (∀ x, Below w.heap.size w x → (fun x => x.cell? ⟨b, off + j * 17 + 1, none⟩ = some (.int .i64 c.m.1.k) ∧ x.cell? ⟨b, off + j * 17 + 2, none⟩ = some (.int .u64 (c.m.1.l : Int)) ∧ x.cell? ⟨b, off + j * 17 + 3, none⟩ = some (.int .i64 c.m.1.t) ∧ x.cell? ⟨b, off + j * 17 + 4, none⟩ = some (.int .u64 (c.m.1.p : Int)) ∧ x.cell? ⟨b, off + j * 17 + 5, none⟩ = some (.int .i64 c.m.1.c.k) ∧ x.cell? ⟨b, off + j * 17 + 6, none⟩ = some (.int .i64 c.m.1.c.pg) ∧ x.cell? ⟨b, off + j * 17 + 7, none⟩ = some (.int .i64 c.m.1.c.sl) ∧ x.cell? ⟨b, off + j * 17 + 8, none⟩ = some (.string c.m.1.c.o) ∧ x.cell? ⟨b, off + j * 17 + 9, none⟩ = some (.string c.m.1.c.n) ∧ x.cell? ⟨b, off + j * 17 + 10, none⟩ = some (.int .u64 (c.m.1.n : Int)) ∧ x.cell? ⟨b, off + j * 17 + 11, none⟩ = some (.int .i64 c.m.1.s) ∧ x.cell? ⟨b, off + j * 17 + 12, none⟩ = some (.int .u64 (c.m.1.b : Int)) ∧ x.cell? ⟨b, off + j * 17 + 13, none⟩ = some (.slice a1 c.m.1.ts.length c1) ∧ x.cell? ⟨b, off + j * 17 + 14, none⟩ = some (.slice a2 c.m.1.ds.length c2) ∧ x.cell? ⟨b, off + j * 17 + 15, none⟩ = some (.int .u64 (c.n : Int)) ∧ x.cell? ⟨b, off + j * 17 + 16, none⟩ = some (.int .i64 c.h)) x) := hide (fun x hx => by
        have e := HCL.out x hx
        unfold wcA at e
        rw [h1, h2] at e
        exact ⟨e 1 _ rfl, e 2 _ rfl, e 3 _ rfl, e 4 _ rfl, e 5 _ rfl, e 6 _ rfl, e 7 _ rfl, e 8 _ rfl, e 9 _ rfl, e 10 _ rfl, e 11 _ rfl, e 12 _ rfl, e 13 _ rfl, e 14 _ rfl, e 15 _ rfl, e 16 _ rfl⟩)
      have HAPP : Hid (∀ (x : World) (gs ga gt gb : Nat) (g1 g2 : Lg), K92 w x gs ga gt gb g1 g2 → Calls Try.prog 10 #[.pointer (some ⟨ga, 0, none⟩), .agg #[.int .i64 c.m.1.k, .int .u64 (c.m.1.l : Int), .int .i64 c.m.1.t, .int .u64 (c.m.1.p : Int), .int .i64 c.m.1.c.k, .int .i64 c.m.1.c.pg, .int .i64 c.m.1.c.sl, .string c.m.1.c.o, .string c.m.1.c.n, .int .u64 (c.m.1.n : Int), .int .i64 c.m.1.s, .int .u64 (c.m.1.b : Int), .slice a1 c.m.1.ts.length c1, .slice a2 c.m.1.ds.length c2], .int .u64 (c.n : Int), .int .i64 c.h] x fun e w' => e = .returned (.tuple #[.int .u64 (g1.appN c.m.1 c.n c.h : Int), .int .i64 (g1.appE c.m.1 c.n c.h)]) ∧ K92 w w' gs ga gt gb (g1.app c.m.1 c.n c.h) g2) := hide (fun x gs ga gt gb g1 g2 hk => by
        have T := k2app hk c.m.1 c.m.2.1 c.m.2.2 c.n c.h HFT.out.1.2.2.2 (rck9 HFT.out.2 hk.bel) HN.out HFT.out.1.2.2.1
        rw [h1, h2] at T
        exact T)
      clear hft hin h1 h2 HCL
      obtain ⟨z1, z2, z3, z4, z5, z6, z7, z8, z9, z10, z11, z12, z13, z14, z15, z16⟩ := HC2.out wr HK.out.1.bel
      go_wp2_with fail
      go_region_held3 (fun x => x.cell? ⟨b, off + j * 17 + 1, none⟩ = some (.int .i64 c.m.1.k) ∧ x.cell? ⟨b, off + j * 17 + 2, none⟩ = some (.int .u64 (c.m.1.l : Int)) ∧ x.cell? ⟨b, off + j * 17 + 3, none⟩ = some (.int .i64 c.m.1.t) ∧ x.cell? ⟨b, off + j * 17 + 4, none⟩ = some (.int .u64 (c.m.1.p : Int)) ∧ x.cell? ⟨b, off + j * 17 + 5, none⟩ = some (.int .i64 c.m.1.c.k) ∧ x.cell? ⟨b, off + j * 17 + 6, none⟩ = some (.int .i64 c.m.1.c.pg) ∧ x.cell? ⟨b, off + j * 17 + 7, none⟩ = some (.int .i64 c.m.1.c.sl) ∧ x.cell? ⟨b, off + j * 17 + 8, none⟩ = some (.string c.m.1.c.o) ∧ x.cell? ⟨b, off + j * 17 + 9, none⟩ = some (.string c.m.1.c.n) ∧ x.cell? ⟨b, off + j * 17 + 10, none⟩ = some (.int .u64 (c.m.1.n : Int)) ∧ x.cell? ⟨b, off + j * 17 + 11, none⟩ = some (.int .i64 c.m.1.s) ∧ x.cell? ⟨b, off + j * 17 + 12, none⟩ = some (.int .u64 (c.m.1.b : Int)) ∧ x.cell? ⟨b, off + j * 17 + 13, none⟩ = some (.slice a1 c.m.1.ts.length c1) ∧ x.cell? ⟨b, off + j * 17 + 14, none⟩ = some (.slice a2 c.m.1.ds.length c2) ∧ x.cell? ⟨b, off + j * 17 + 15, none⟩ = some (.int .u64 (c.n : Int)) ∧ x.cell? ⟨b, off + j * 17 + 16, none⟩ = some (.int .i64 c.h)) (go_keep)
        (first | (go_at_call 10; with_reducible refine (HAPP.out _ gs ga gt gb g1 g2 HK.out.1.drew).mono ?_; rintro e w6 ⟨rfl, h6⟩; obtain ⟨z1, z2, z3, z4, z5, z6, z7, z8, z9, z10, z11, z12, z13, z14, z15, z16⟩ := HC2.out w6 h6.bel))
      have hsim := HK.out.2.app HK.out.1.ok1 HK.out.1.ok2 c.m.1 c.n c.h
      have hsE := HK.out.2.appE HK.out.1.ok1 HK.out.1.ok2 c.m.1 c.n c.h
      have H6 := hide h6
      have T2 := hide (fun x (hx : K92 w x gt gb gs ga g2 (g1.app c.m.1 c.n c.h)) => HAPP.out x gt gb gs ga g2 (g1.app c.m.1 c.n c.h) hx)
      rw [← hsim.1, ← hsE] at T2
      have HSIM := hide hsim.2
      clear h6 HAPP HK hsim hsE
      generalize g1.app c.m.1 c.n c.h = g1' at *
      generalize g2.app c.m.1 c.n c.h = g2' at *
      generalize g1.appN c.m.1 c.n c.h = N1 at *
      generalize g1.appE c.m.1 c.n c.h = E1 at *
      go_wp2_with fail
      go_region_held3 (fun x => x.cell? ⟨b, off + j * 17 + 1, none⟩ = some (.int .i64 c.m.1.k) ∧ x.cell? ⟨b, off + j * 17 + 2, none⟩ = some (.int .u64 (c.m.1.l : Int)) ∧ x.cell? ⟨b, off + j * 17 + 3, none⟩ = some (.int .i64 c.m.1.t) ∧ x.cell? ⟨b, off + j * 17 + 4, none⟩ = some (.int .u64 (c.m.1.p : Int)) ∧ x.cell? ⟨b, off + j * 17 + 5, none⟩ = some (.int .i64 c.m.1.c.k) ∧ x.cell? ⟨b, off + j * 17 + 6, none⟩ = some (.int .i64 c.m.1.c.pg) ∧ x.cell? ⟨b, off + j * 17 + 7, none⟩ = some (.int .i64 c.m.1.c.sl) ∧ x.cell? ⟨b, off + j * 17 + 8, none⟩ = some (.string c.m.1.c.o) ∧ x.cell? ⟨b, off + j * 17 + 9, none⟩ = some (.string c.m.1.c.n) ∧ x.cell? ⟨b, off + j * 17 + 10, none⟩ = some (.int .u64 (c.m.1.n : Int)) ∧ x.cell? ⟨b, off + j * 17 + 11, none⟩ = some (.int .i64 c.m.1.s) ∧ x.cell? ⟨b, off + j * 17 + 12, none⟩ = some (.int .u64 (c.m.1.b : Int)) ∧ x.cell? ⟨b, off + j * 17 + 13, none⟩ = some (.slice a1 c.m.1.ts.length c1) ∧ x.cell? ⟨b, off + j * 17 + 14, none⟩ = some (.slice a2 c.m.1.ds.length c2) ∧ x.cell? ⟨b, off + j * 17 + 15, none⟩ = some (.int .u64 (c.n : Int)) ∧ x.cell? ⟨b, off + j * 17 + 16, none⟩ = some (.int .i64 c.h)) (go_keep)
        (first | (go_at_call 10; with_reducible refine (T2.out _ H6.out.swap.drew).mono ?_; rintro e w7 ⟨rfl, h7⟩; obtain ⟨z1, z2, z3, z4, z5, z6, z7, z8, z9, z10, z11, z12, z13, z14, z15, z16⟩ := HC2.out w7 h7.bel))
      have H7 := hide (show K92 w w7 gs ga gt gb g1' g2' ∧ Sim g1' g2' from ⟨h7.swap, HSIM.out⟩)
      clear h7 T2 HC2 H6 HSIM z1 z2 z3 z4 z5 z6 z7 z8 z9 z10 z11 z12 z13 z14 z15 z16 HFT HN
      have TL := hide (fun x (hx : K92 w x gs ga gt gb g1' g2') => k2left hx)
      have TR := hide (fun x (hx : K92 w x gs ga gt gb g1' g2') => k2left hx.swap)
      have eL : (g2'.t.m : Int) - (g2'.used : Int) - (g2'.hd : Int) = (g1'.t.m : Int) - (g1'.used : Int) - (g1'.hd : Int) := by rw [H7.out.2.m, H7.out.2.hd, H7.out.2.used H7.out.1.ok1 H7.out.1.ok2]
      rw [eL] at TR
      generalize (g1'.t.m : Int) - (g1'.used : Int) - (g1'.hd : Int) = LF at *
      clear eL
      go_wp2_with fail
      refine (TL.out w7 H7.out.1).mono ?_
      rintro e w8 ⟨rfl, _, h8⟩
      have H8 := hide (And.intro h8 H7.out.2)
      clear h8 H7
      go_wp2_with fail
      refine (TR.out w8 H8.out.1).mono ?_
      rintro e w9 ⟨rfl, _, h9⟩
      have H9 := hide (show K92 w w9 gs ga gt gb g1' g2' ∧ Sim g1' g2' from ⟨h9.swap, H8.out.2⟩)
      clear h9 H8 TL TR
      by_cases hjw : j < wl
      · have ijw : (j : Int) < (wl : Int) := by omega
        obtain ⟨b2, off2, rfl, hb2, hcw⟩ := HWN.out (by omega)
        have y1 : w9.cell? ⟨b2, off2 + j, none⟩ = some (.bool (wf j)) := by
          have e := hcw j 0 hjw (by decide)
          have e2 := (World.cell?_of_block (a := ⟨b2, off2 + (j * 1 + 0), none⟩) (H9.out.1.bel.block b2 hb2)).trans e
          simpa using e2
        clear hcw
        cases hwj : wf j with
        | true =>
          rw [hwj] at y1
          go_wp2_with fail
          refine (k2write H9.out.1).mono ?_
          rintro e w10 ⟨rfl, h10⟩
          have H10 := hide (show K92 w w10 gs ga gt gb g1'.write g2' ∧ Sim g1'.write g2' from ⟨h10, H9.out.2.write H9.out.1.ok1⟩)
          clear h10 H9 y1
          go_wp2
          go_roundw
          case rel => exact ⟨j + 1, by omega, by go_num, _, _, H10.out⟩
          case measure => simp [intOf]; omega
        | false =>
          rw [hwj] at y1
          go_wp2
          go_roundw
          case rel => exact ⟨j + 1, by omega, by go_num, _, _, H9.out⟩
          case measure => simp [intOf]; omega
      · have ijw : ¬ (j : Int) < (wl : Int) := by omega
        go_wp2
        go_roundw
        case rel => exact ⟨j + 1, by omega, by go_num, _, _, H9.out⟩
        case measure => simp [intOf]; omega
    · go_wp2_with fail
      refine (k2write HK.out.1).mono ?_
      rintro e w6 ⟨rfl, h6⟩
      have H6 := hide (And.intro h6 (HK.out.2.write HK.out.1.ok1))
      have HB1 := hide (write_bytes g1 HK.out.1.ok1)
      clear h6
      go_wp2_with fail
      refine (k2write H6.out.1.swap).mono ?_
      rintro e w7 ⟨rfl, h7⟩
      have H7 := hide (show K92 w w7 gs ga gt gb g1.write g2.write ∧ Sim g1.write g2.write from ⟨h7.swap, (H6.out.2.swap.write HK.out.1.ok2).swap⟩)
      have HB2 := hide (write_bytes g2 HK.out.1.ok2)
      have hfew := few_recs g1 HK.out.1.ok1
      have hl12 := HK.out.2.l
      have HBB := hide (show g1.write.t.b = g2.write.t.b from byte_ext (by rw [HB1.out, HB2.out, HK.out.2.l]))
      clear h7 H6 HB1 HB2 HK
      have e1 : g1.write.l = g1.l := rfl
      have e2 : g2.write.l = g1.l := hl12.symm
      have HLL := hide (And.intro e1 e2)
      clear e1 e2 hl12
      generalize g1.write = h1 at *
      generalize g2.write = h2 at *
      have eL : (h2.t.m : Int) - (h2.used : Int) - (h2.hd : Int) = (h1.t.m : Int) - (h1.used : Int) - (h1.hd : Int) := by rw [H7.out.2.m, H7.out.2.hd, H7.out.2.used H7.out.1.ok1 H7.out.1.ok2]
      obtain ⟨n, hn⟩ : ∃ n, n = g1.l.length := ⟨_, rfl⟩
      have KR1 : Hid (∀ x, K92 w x gs ga gt gb h1 h2 → Calls Try.prog 11 #[.pointer (some ⟨ga, 0, none⟩)] x fun e x' => ∃ gr ns, e = .returned (.slice (some ⟨gr, 0, none⟩) n n) ∧ RsIn x' (.slice (some ⟨gr, 0, none⟩) n n) ns ∧ msR ns = g1.l ∧ Below x.heap.size x x' ∧ K92 w x' gs ga gt gb h1 h2) := hide (fun x hx => (k2recs hx).mono fun e x' ⟨gr, ns, q1, q2, q3, q4⟩ => by
        have hz : h1.l.length = n := by rw [HLL.out.1, hn]
        have r := q2.rs
        rw [q2.len, hz] at r
        rw [hz] at q1
        exact ⟨gr, ns, q1, r.1, r.2.trans HLL.out.1, q3, q4⟩)
      have KR2 : Hid (∀ x, K92 w x gs ga gt gb h1 h2 → Calls Try.prog 11 #[.pointer (some ⟨gb, 0, none⟩)] x fun e x' => ∃ gr ns, e = .returned (.slice (some ⟨gr, 0, none⟩) n n) ∧ RsIn x' (.slice (some ⟨gr, 0, none⟩) n n) ns ∧ msR ns = g1.l ∧ Below x.heap.size x x' ∧ K92 w x' gs ga gt gb h1 h2) := hide (fun x hx => (k2recs hx.swap).mono fun e x' ⟨gr, ns, q1, q2, q3, q4⟩ => by
        have hz : h2.l.length = n := by rw [HLL.out.2, hn]
        have r := q2.rs
        rw [q2.len, hz] at r
        rw [hz] at q1
        exact ⟨gr, ns, q1, r.1, r.2.trans HLL.out.2, q3, q4.swap⟩)
      have KB1 := hide (fun x (hx : K92 w x gs ga gt gb h1 h2) => k2bytes hx)
      have KB2 := hide (fun x (hx : K92 w x gs ga gt gb h1 h2) => k2bytes hx.swap)
      have KL1 := hide (fun x (hx : K92 w x gs ga gt gb h1 h2) => k2left hx)
      have KL2 := hide (fun x (hx : K92 w x gs ga gt gb h1 h2) => k2left hx.swap)
      rw [eL] at KL2
      rw [← HBB.out] at KB2
      clear eL
      generalize (h1.t.m : Int) - (h1.used : Int) - (h1.hd : Int) = LF at *
      rw [← hn] at hfew
      have HNN := hide hn
      clear hn
      generalize h1.t.b.size = Z at *
      generalize h1.t.b.data.toList = BS at *
      go_wp2_with fail
      go_region_with (first
        | (go_at_call 11; with_reducible refine (KR1.out _ H7.out.1.drew).mono ?_; rintro e w8 ⟨r1, n1, rfl, i1, m1, b1, k1⟩)
        | (go_at_call 11; with_reducible refine (KR2.out w8 k1).mono ?_; rintro e w9 ⟨r2, n2, rfl, i2, m2, b2, k2⟩)
        | (go_at_call 24; with_reducible refine (rlist_any _ _ n1 n2 w9 (i1.below b2) i2 (m1.trans m2.symm) (by have e := congrArg List.length m1; simp only [msR, List.length_map] at e; have := HNN.out; omega)).mono ?_; rintro e w10 ⟨rfl, b3⟩; have k3 := k2.later b3)
        | (go_at_call 25; with_reducible refine (KB1.out w10 k3).mono ?_; rintro e w11 ⟨s1, c1, rfl, hB1, b4, k4⟩; have q1 := run_str w11 s1 Z c1 BS hB1)
        | (go_at_call 25; with_reducible refine (KB2.out w11 k4).mono ?_; rintro e w12 ⟨s2, c2, rfl, hB2, b5, k5⟩; have q2 := run_str w12 s2 Z c2 BS hB2; have q3 := run_str w12 s1 Z c1 BS (hB1.below b5))
        | (go_at_call 22; with_reducible refine (KL1.out w12 k5.swap).mono ?_; rintro e w13 ⟨rfl, b6, k6⟩)
        | (go_at_call 22; with_reducible refine (KL2.out w13 k6).mono ?_; rintro e w14 ⟨rfl, b7, k7⟩))
      all_goals
        have HB14 := hide k7.bel
        go_wp2
        go_ret
        exact ⟨rfl, HB14.out⟩
theorem walk (v : Value) (cs : List Wc) (m : Option Addr × Nat × Nat × (Nat → Bool)) (w : World) (h1 : RowsIn wcA Wc.zero 17 w v cs) (_ : cs.length ≤ maxLen) (h3 : ∀ c ∈ cs, c.fits ∧ RcIn w c.m.1 c.m.2.1 c.m.2.2) (h4 : ∀ a len cap, v = .slice a len cap → len ≤ cap) (h5 : m.2.1 ≤ 140737488355328 ∧ IsRow w m.1 m.2.1 1 (fun i _ => .bool (m.2.2.2 i))) :
    Calls Try.prog 5 #[v, .slice m.1 m.2.1 m.2.2.1] w fun e w' => e = .returned (.bool true) ∧ Below w.heap.size w w' := by
  rcases few9_two v cs w ⟨h1, h3, h4⟩ with ⟨hl, hf⟩ | hf
  · exact yes v cs m.1 m.2.1 m.2.2.1 m.2.2.2 w ⟨h1, h3, h4⟩ hl hf h5.2 h5.1
  · exact no v m.1 m.2.1 m.2.2.1 w hf
end Go.Proofs.Ytmdhnfeepadfaaa.walLater

namespace Go.Proofs.Ytmdhnfeepadfaaa.walLater
open Go.ChangeShapes Go.WideShapes Go.ChangeAt Go.RowKit
open Go.ChangeMaps (open_string shut_string)
set_option linter.unusedVariables false

theorem laidOut : laidOutB Try.prog = true := by kernel_rfl
theorem own : ownKnob Try.prog.godebug = none := by kernel_rfl

set_option maxRecDepth 100000 in
theorem lifted (os : Os) (started : os.Started) (H : Type) (enc : TypeId × Value → H) :
    ReturnsInHanded {} Try.checked os 5 .any (Rows.walLaterSpec.pre6 enc Try.prog Try.f5 Rows.walLaterRow.domain false) (Rows.walLaterSpec.post enc Try.prog Try.f5 false true false false) := by
  refine returnsInHanded_of_change_sized (C := Try.checked) own started (by kernel_rfl) Try.func5
    (ChangeSpec.witness6 (enc := enc) (C := Try.checked) false ⟨#[], #[.slice none 0 0, .slice none 0 0], []⟩ 8 (by kernel_rfl) (by kernel_rfl) (by kernel_rfl) (by kernel_rfl)) ?_
  intro W base args ds gs before hval0 hW hcnd hsz0 _
  have hval : ∀ (j : Nat) t v, Try.f5.params[j]? = some t → args[j]? = some v → Value.okWide Try.prog W .any base t v := hval0
  have hsz : (DataW.weightsEach Try.prog (Try.f5.params.toList ++ Rows.walLaterSpec.plain.varTypes Try.prog) (ds ++ gs)).all (· ≤ reachBytes) = true := hsz0
  have hW' := hW
  obtain ⟨p, q, hA0, hV, rfl, hfz, hnd⟩ := hW
  have hA : DataW.TrodAll enc Try.prog W 0 (fun _ => true) true Try.f5.params.toList args.toList ds p := hA0
  rw [Try.params5] at hA hval hsz
  obtain ⟨v0, vs0, d0, ds0, p0, q0, hargs, rfl, rfl, h0, r0⟩ := trodAll_cons hA
  obtain ⟨v1, vs1, d1, ds1, p1, q1, rfl, rfl, rfl, h1, r1⟩ := trodAll_cons r0
  obtain ⟨rfl, rfl, rfl⟩ := trodAll_nil r1
  obtain rfl : args = #[v0, v1] := by cases args; simp_all
  obtain ⟨rfl, rfl⟩ := trodVars_none hV
  have k0 := h0
  have lt0 := trod_places h0
  have k1 := h1
  have lt1 := trod_places h1
  obtain ⟨m0, w0a, w0b, w0c, w0d⟩ := op_wcs (hval 0 57 v0 rfl rfl) h0
  obtain ⟨m1, rfl, w1⟩ := op_bools (hval 1 58 v1 rfl rfl) h1 (sized_each hsz (j := 1) (t := 58) rfl rfl)
  clear hA0 hval0 hsz0 hsz
  refine (walk v0 m0 m1 W w0a w0b w0c w0d w1).mono fun e W' ⟨he, bel⟩ => ?_
  subst he
  exact ⟨_, rfl, _, _, _, [], _, [], hW', trodAll_mk1 (shut_bool Try.underlying4 _), (trodAll_cons_mk (Below.trod laidOut (by kernel_rfl) (of_decide_eq_true (by kernel_rfl)) k0 bel lt0) (trodAll_cons_mk (Below.trod laidOut (by kernel_rfl) (of_decide_eq_true (by kernel_rfl)) k1 bel lt1) trodAll_mk0)), rfl, bel.frame _, fun h => by cases h⟩

theorem over : Rows.walLaterRow.holds Try.pinned (OpenSpec.ofChange Rows.walLaterSpec) :=
  OpenClaim.holds_of_wide 5 Try.f5 rfl rfl rfl rfl rfl rfl rfl ⟨rfl, rfl, rfl, rfl, rfl⟩ rfl rfl rfl rfl rfl (by kernel_rfl) Try.func5 (by kernel_rfl)
    (of_decide_eq_true (by kernel_rfl)) (by unfold Func.isWrapper; first | (rw [if_pos (by decide +kernel)]; kernel_rfl) | (rw [if_neg (by decide +kernel)]; exact ⟨rfl, rfl⟩))
    (fun os started H enc _ => lifted os started H enc)

/-- THE STATEMENT. -/
theorem proved : Rows.WalLaterSaid := over
end Go.Proofs.Ytmdhnfeepadfaaa.walLater
namespace Go.Proofs.Ytmdhnfeepadfaaa
theorem walLater_proved : Rows.WalLaterSaid := walLater.proved
end Go.Proofs.Ytmdhnfeepadfaaa
