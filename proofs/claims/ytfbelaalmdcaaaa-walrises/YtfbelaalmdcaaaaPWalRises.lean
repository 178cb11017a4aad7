/-
  The numbers of records rise, are above what was seen, and above the floor; a refused record has none. WalRises returns true for every input, and its arguments read as before.
  Condition: none but those that the form of every such statement bears by itself (each string within the reach).
-/
import Derived.Test.YtfbelaalmdcaaaaRows
import Derived.ProofKit
import Derived.OpenShut
import Derived.ShutString
import Derived.SizedLaws
import Derived.JoinedCond
import Derived.Test.YtfbelaalmdcaaaaK16
import Derived.Test.YtfbelaalmdcaaaaK03

/-
  The walk of WalRises.
-/
namespace Go.Proofs.Ytfbelaalmdcaaaa.walRises
open Go.RowKit
set_option linter.unusedVariables false

/-- What Append leaves of what the loop keeps. -/
theorem app_len (g : Lg) (r : Rec) (f : Nat) (h : Int) (he : g.appE r f h = 0) : (g.app r f h).c = g.num f ∧ (g.app r f h).l = g.l ++ [r.put (g.num f)] := by
  rw [(g.app_yes r f h he).1]
  exact ⟨rfl, rfl⟩
theorem app_get (g : Lg) (ok : g.ok) (r : Rec) (f : Nat) (h : Int) (he : g.appE r f h = 0) : (g.app r f h).get (g.num f) = (r.put (g.num f), true) := by
  have hok := g.app_ok ok r f h
  have hl := (app_len g r f h he).2
  have hlen : (g.app r f h).l.length = g.l.length + 1 := by rw [hl, List.length_append, List.length_singleton]
  have hat : (g.app r f h).l.getD g.l.length Rec.zero = r.put (g.num f) := by
    rw [hl, List.getD_eq_getElem?_getD, List.getElem?_append_right (Nat.le_refl _), Nat.sub_self]
    rfl
  have e := find_at (g.app r f h).l 0 (g.num f) g.l.length hok.rise (by omega) (by rw [hat]; rfl)
  unfold Lg.get
  rw [e, hat]
set_option maxRecDepth 8000 in
set_option maxHeartbeats 3200000 in
theorem no (room : Int) (v : Value) (w : World) (hf : ∀ x, Below w.heap.size w x → Calls Try.prog 8 #[v] x (fun e w' => e = .returned (.bool false) ∧ x = w')) :
    Calls Try.prog 5 #[.int .i64 room, v] w fun e w' => e = .returned (.bool true) ∧ Below w.heap.size w w' := by
  have HF := hide hf
  clear hf
  go_enter Try.func5, Try.ntmps5
  go_wp2_with fail
  refine (awake9_any w).mono ?_
  rintro e w1 ⟨rfl, hb1⟩
  have HB := hide hb1
  clear hb1
  go_wp2_with fail
  refine (HF.out w1 HB.out).mono ?_
  rintro e w2 ⟨rfl, rfl⟩
  go_wp2_with fail
  refine (awake9_any w1).mono ?_
  rintro e w3 ⟨rfl, hb3⟩
  have HB3 := hide (HB.out.trans (hb3.mono HB.out.size))
  clear hb3 HB
  go_wp2
  go_ret
  exact ⟨rfl, HB3.out⟩
set_option maxRecDepth 8000 in
set_option maxHeartbeats 6400000 in
theorem yes (room : Int) (v : Value) (cs : List Wc) (w : World) (hs : Scr w v cs) (hl : cs.length ≤ 100) (hf : ∀ x, Below w.heap.size w x → Calls Try.prog 8 #[v] x (fun e w' => e = .returned (.bool true) ∧ x = w')) :
    Calls Try.prog 5 #[.int .i64 room, v] w fun e w' => e = .returned (.bool true) ∧ Below w.heap.size w w' := by
  have hs' := hs
  obtain ⟨⟨a, cap, rfl, -⟩, -, hcap⟩ := hs'
  have hcap := hcap _ _ _ rfl
  obtain ⟨ln, hln⟩ : ∃ ln, ln = cs.length := ⟨_, rfl⟩
  rw [← hln] at hs hl hcap hf ⊢
  have HLN := hide hln
  clear hln
  have HF := hide hf
  have HS := hide hs
  clear hf hs
  go_enter Try.func5, Try.ntmps5
  go_wp2_with fail
  refine (awake9_any w).mono ?_
  rintro e w1 ⟨rfl, hb1⟩
  have HB := hide hb1
  clear hb1
  go_wp2_with fail
  refine (HF.out w1 HB.out).mono ?_
  rintro e w2 ⟨rfl, rfl⟩
  clear HF
  go_wp2_with fail
  refine (knew8 room w w1 HB.out).mono ?_
  rintro e w2 ⟨rfl, h2, -⟩
  have H2 := hide h2
  clear h2 HB
  obtain ⟨gt, hgt⟩ : ∃ gt, gt = w1.heap.size := ⟨_, rfl⟩
  rw [← hgt] at H2 ⊢
  clear hgt
  go_wp2_with fail
  refine (kfirst9 w w2 gt (Tp.new room) 0 H2.out (by decide)).mono ?_
  rintro e w3 ⟨gl, rfl, h3⟩
  have hop : (Lg.open (Tp.new room) 0).c = 0 ∧ (Lg.open (Tp.new room) 0).l = [] := by
    unfold Lg.open
    have e : (Tp.new room).b.data.toList = [] := rfl
    rw [e, scan_nil9]
    exact ⟨rfl, rfl⟩
  have H3 := hide (And.intro h3 hop)
  clear h3 H2 hop
  go_wp2
  go_loopw [34, 7, 8] (fun i u m wr => ∃ j : Nat, j ≤ ln ∧ i = .int .i64 (j : Int) ∧ ∃ g, u = .int .u64 (g.c : Int) ∧ m = .int .i64 (g.l.length : Int) ∧ Hid (K9 NoP w w wr gt gl g)) (fun i _ _ _ => ln - (intOf i).toNat)
  case atStart => exact ⟨0, Nat.zero_le _, rfl, _, by rw [H3.out.2.1]; rfl, by rw [H3.out.2.2]; rfl, H3.out.1⟩
  case round =>
    obtain ⟨j, hj, rfl, g, rfl, rfl, HK⟩ := hrel
    clear H3
    have hfew := few_recs g HK.out.ok
    have htop := HK.out.ok.top
    by_cases hlt : j < ln
    · have ij : (j : Int) < (ln : Int) := by omega
      obtain ⟨b, off, rfl, hld, hft, hin⟩ := HS.out.at HK.out.bel (j := j) (by have := HLN.out; omega)
      obtain ⟨c, hc⟩ : ∃ c, c = cs.getD j Wc.zero := ⟨_, rfl⟩
      rw [← hc] at hld hft hin
      clear hc
      have HLD := hide hld
      have hb1 : Below wr.heap.size wr (wr.alloc (.cells wcZ 52)) := (Below.refl _ _).alloc (Nat.le_refl _) _
      have HZ := hide (And.intro (RowAt.new wr 52 wcZ) hb1)
      obtain ⟨⟨a1, c1, h1⟩, a2, c2, h2⟩ := rcF_slices hin
      have HFT := hide (And.intro hft hin)
      have HAL := hide (wcA_all c ⟨a1, _, c1, h1⟩ ⟨a2, _, c2, h2⟩)
      have HSL := hide (And.intro h1 h2)
      clear hld hb1 hft hin h1 h2
      go_wp2_with (first | (refine wpList_load_val rfl 52 (.tmp 39) rfl _ _ rfl HLD.out ?_) | (refine wpList_store_at rfl 52 (.tmp 10) (.tmp 40) rfl wr.heap.size wcZ (wcA c) rfl rfl HZ.out.1 infoWc rfl HAL.out ?_; intro w3 hr3 hk3 hrow3; refine stop9 ?_))
      have hb3 := hk3 _ _ HZ.out.2 (Nat.le_refl _)
      have H3 := hide (And.intro hr3 (HK.out.later hb3))
      obtain ⟨go, hgo⟩ : ∃ go, go = wr.heap.size := ⟨_, rfl⟩
      rw [← hgo] at H3 ⊢
      clear hr3 hk3 hrow3 hb3 HZ HLD HAL HK hgo
      have HWR := hide (load_wr w3 go c H3.out.1)
      have z0 := H3.out.1.cell 0 (.int .i64 c.k) rfl
      have z15 := H3.out.1.cell 15 (.int .u64 (c.n : Int)) rfl
      have z16 := H3.out.1.cell 16 (.int .i64 c.h) rfl
      have HN := hide (wf_u64 HFT.out.1.2.1)
      have b5 : (c.k == 5) = decide (c.k = 5) := by rw [Bool.eq_iff_iff]; simp
      obtain ⟨k, hk⟩ : ∃ k, k = c.k := ⟨_, rfl⟩
      rw [← hk] at b5 z0
      clear hk
      refine unstop9 ?_
      by_cases k5 : k = 5
      · subst k5
        clear b5
        go_wp2_with fail
        refine (ksee9 (H3.out.2.side H3.out.1 (by decide)) c.n HN.out).mono ?_
        rintro e w4 ⟨rfl, h4⟩
        have H4 := hide h4
        have y15 := (h4.row H3.out.1).cell 15 (.int .u64 (c.n : Int)) rfl
        have HC : Hid ((g.see c.n).c = max g.c (min c.n maxL) ∧ (g.see c.n).l = g.l) := ⟨rfl, rfl⟩
        obtain ⟨mn, hmn⟩ : ∃ mn, mn = min c.n maxL := ⟨_, rfl⟩
        obtain ⟨mx, hmx⟩ : ∃ mx, mx = max g.c mn := ⟨_, rfl⟩
        rw [← hmn, ← hmx] at HC
        have imn : (if (4611686018427387904 : Int) < (c.n : Int) then (4611686018427387904 : Int) else (c.n : Int)) = (mn : Int) := by
          unfold maxL at hmn
          split <;> omega
        have imx : (if g.c < mn then (mn : Int) else (g.c : Int)) = (mx : Int) := by
          split <;> omega
        clear h4 HWR z0 z15 z16 hmn hmx H3
        go_wp2
        go_roundw
        case rel => exact ⟨j + 1, by omega, by go_num, g.see c.n, by rw [HC.out.1], by rw [HC.out.2], H4.out.free⟩
        case measure => simp [intOf]; omega
      · simp only [k5, decide_false] at b5
        have T := hide (kapp9 (H3.out.2.side H3.out.1 (by decide)) c.m.1 c.m.2.1 c.m.2.2 c.n c.h HFT.out.1.2.2.2 (rck9 HFT.out.2 H3.out.2.bel) HN.out HFT.out.1.2.2.1)
        by_cases he : g.appE c.m.1 c.n c.h = 0
        · have hy := g.app_yes c.m.1 c.n c.h he
          have hcl := app_len g c.m.1 c.n c.h he
          have hgt := app_get g H3.out.2.ok c.m.1 c.n c.h he
          have hfits : (c.m.1.put (g.num c.n)).fits := ⟨HFT.out.1.2.2.2.c, HFT.out.1.2.2.2.tl, HFT.out.1.2.2.2.dl, HFT.out.1.2.2.2.ts, HFT.out.1.2.2.2.ds⟩
          have hnn : g.c < g.num c.n ∧ c.n < g.num c.n := by unfold Lg.num; omega
          rw [hy.2, he] at T
          obtain ⟨g', hg'⟩ : ∃ g', g' = g.app c.m.1 c.n c.h := ⟨_, rfl⟩
          rw [← hg'] at T hcl hgt
          obtain ⟨n, hn⟩ : ∃ n, n = g.num c.n := ⟨_, rfl⟩
          rw [← hn] at T hcl hgt hfits hnn
          have HG := hide (And.intro hcl (And.intro hgt hfits))
          have i1 : ¬ (n : Int) ≤ (g.c : Int) := by omega
          have i2 : ¬ (n : Int) ≤ (c.n : Int) := by omega
          clear hy hcl hgt hfits hg' hn he
          go_wp2_with (refine wpList_load_val rfl 43 (.tmp 55) rfl _ _ rfl HWR.out ?_)
          refine T.out.mono ?_
          rintro e w4 ⟨rfl, h4⟩
          have H4 := hide h4
          have HR4 := hide (h4.row H3.out.1)
          have y15 := HR4.out.cell 15 (.int .u64 (c.n : Int)) rfl
          clear h4 T HWR z0 z15 z16
          have T := hide (klast9 H4.out)
          rw [HG.out.1.1] at T
          go_wp2_with fail
          refine T.out.mono ?_
          rintro e w5 ⟨rfl, h5⟩
          have H5 := hide h5
          clear h5 T H4 y15
          go_wp2_with fail
          have T := hide (kget9 H5.out n)
          unfold GetAns at T
          rw [HG.out.2.1] at T
          simp only at T
          refine T.out.mono ?_
          rintro e w6 ⟨⟨m, rfl, hm2, hm3, hm4, hm5⟩, h6⟩
          have HR6 := hide (h6.row H3.out.1)
          have H6 := hide h6.free
          obtain ⟨⟨ua, uc, u1⟩, ub, ud, u2⟩ := rcF_slices hm4.rc
          have HM := hide (And.intro hm2 (And.intro hm3 hm4))
          have HAM := hide (rcF_all m ⟨ua, uc, u1⟩ ⟨ub, ud, u2⟩)
          clear hm2 hm3 hm4 hm5 h6 H5 HR4 H3 u1 u2 T
          have hb7 : Below w6.heap.size w6 (w6.alloc (.cells zeroA 43)) := (Below.refl _ _).alloc (Nat.le_refl _) _
          have HZ7 := hide (And.intro (RowAt.new w6 43 zeroA) hb7)
          clear hb7
          go_wp2_with (refine wpList_store_at rfl 43 (.tmp 13) (.tmp 93) rfl w6.heap.size zeroA (rcF m) rfl rfl HZ7.out.1 infoRc rfl HAM.out ?_; intro w7 hr7 hk7 hrow7; refine stop9 ?_)
          have hb7 := hk7 _ _ HZ7.out.2 (Nat.le_refl _)
          have H7 := hide (And.intro hr7 (And.intro (HR6.out.later hb7) (And.intro (H6.out.later hb7) (HM.out.2.2.below hb7))))
          obtain ⟨g13, hg13⟩ : ∃ g13, g13 = w6.heap.size := ⟨_, rfl⟩
          rw [← hg13] at H7 ⊢
          clear hr7 hk7 hrow7 hb7 HZ7 HAM HR6 H6 hg13
          have HWR := hide (load_wr w7 go c H7.out.2.1)
          have hb8 : Below w7.heap.size w7 (w7.alloc (.cells zeroA 43)) := (Below.refl _ _).alloc (Nat.le_refl _) _
          have HZ8 := hide (And.intro (RowAt.new w7 43 zeroA) hb8)
          have HAC := hide (rcF_all c.m ⟨_, _, HSL.out.1⟩ ⟨_, _, HSL.out.2⟩)
          clear hb8
          refine unstop9 ?_
          go_wp2_with (first | (refine wpList_load_val rfl 43 (.tmp 95) rfl _ _ rfl HWR.out ?_) | (refine wpList_store_at rfl 43 (.tmp 15) (.tmp 96) rfl w7.heap.size zeroA (rcF c.m) rfl rfl HZ8.out.1 infoRc rfl HAC.out ?_; intro w8 hr8 hk8 hrow8; refine stop9 ?_))
          have hb8 := hk8 _ _ HZ8.out.2 (Nat.le_refl _)
          have hn13 : g13 ≠ w7.heap.size := by have := H7.out.1.lt; omega
          obtain ⟨g15, hg15⟩ : ∃ g15, g15 = w7.heap.size := ⟨_, rfl⟩
          rw [← hg15] at hr8 hn13 ⊢
          have hwl : w.heap.size ≤ g15 := by rw [hg15]; exact H7.out.2.2.1.bel.size
          have f1 := hr8.free 1
          have y1 := hr8.cell 1 (.int .u64 (c.m.1.l : Int)) rfl
          have hrow9 : RowAt (w8.setCell ⟨g15, 1, none⟩ (.int .u64 (n : Int))) g15 43 (rcA (c.m.1.put n) c.m.2.1 c.m.2.2) := hr8.set 1 _
          have hbel9 : Below w.heap.size w (w8.setCell ⟨g15, 1, none⟩ (.int .u64 (n : Int))) := (H7.out.2.2.1.bel.trans (hb8.mono H7.out.2.2.1.bel.size)).setCell hwl _
          have hT9 : Tn (Is g15) w8 (w8.setCell ⟨g15, 1, none⟩ (.int .u64 (n : Int))) := (Tn.refl (Is g15) w8).set g15 1 _ rfl
          have hK9 : K9 NoP w w (w8.setCell ⟨g15, 1, none⟩ (.int .u64 (n : Int))) gt gl g' := H7.out.2.2.1.turn hb8 (hg15 ▸ hr8) (hg15 ▸ hT9)
          have hrc9 : RcIn (w8.setCell ⟨g15, 1, none⟩ (.int .u64 (n : Int))) m.1 m.2.1 m.2.2 := (rc_aside (H7.out.2.2.2.below hb8) hr8 hT9).rc
          have H9 := hide (And.intro hrow9 (And.intro ((hT9.row (H7.out.1.later hb8) hn13)) (And.intro hK9 (And.intro hrc9 (HFT.out.2.below hbel9)))))
          clear hr8 hk8 hrow8 hb8 hn13 hrow9 hbel9 hT9 hK9 hrc9 HZ8 HAC HWR H7 hg15 hwl
          refine unstop9 ?_
          go_wp2_with (first | (refine wpList_load_at rfl 43 (.tmp 13) rfl g13 rfl (rcF m) H9.out.2.1 _ Try.underlying43 rfl infoRc ?_) | (refine wpList_load_at rfl 43 (.tmp 15) rfl g15 rfl (rcA (c.m.1.put n) c.m.2.1 c.m.2.2) H9.out.1 _ Try.underlying43 rfl infoRc ?_))
          refine (rsame_at m.1 (c.m.1.put n) _ _ _ _ _ true (hide ⟨fun _ => HM.out.1, fun _ => rfl⟩) HM.out.2.1 HG.out.2.2 H9.out.2.2.2.1 H9.out.2.2.2.2).mono ?_
          rintro e w10 ⟨rfl, hb10⟩
          have H10 := hide (H9.out.2.2.1.later hb10)
          clear hb10 H9 HM f1 y1
          go_wp2
          go_roundw
          case rel => exact ⟨j + 1, by omega, by go_num, g', by rw [HG.out.1.1], by rw [HG.out.1.2, List.length_append, List.length_singleton]; go_num, H10.out⟩
          case measure => simp [intOf]; omega
        · have hy := g.app_no c.m.1 c.n c.h he
          rw [hy.1, hy.2] at T
          obtain ⟨E, hE⟩ : ∃ E, E = g.appE c.m.1 c.n c.h := ⟨_, rfl⟩
          rw [← hE] at T he
          have i1 : (E != 0) = true := by simp [he]
          have i2 : (E == 0) = false := by simp [he]
          clear hy hE
          go_wp2_with (refine wpList_load_val rfl 43 (.tmp 55) rfl _ _ rfl HWR.out ?_)
          refine T.out.mono ?_
          rintro e w4 ⟨rfl, h4⟩
          have H4 := hide h4
          clear h4 T HWR z0 z15 z16 H3
          have T := hide (klast9 H4.out)
          go_wp2_with fail
          refine T.out.mono ?_
          rintro e w5 ⟨rfl, h5⟩
          have H5 := hide h5.free
          clear h5 T H4
          go_wp2
          go_roundw
          case rel => exact ⟨j + 1, by omega, by go_num, g, rfl, rfl, H5.out⟩
          case measure => simp [intOf]; omega
    · obtain rfl : j = ln := by omega
      go_wp2_with fail
      refine (krecs9 HK.out).mono ?_
      rintro e w4 ⟨ga, ns, rfl, -, h4⟩
      have H4 := hide h4
      clear h4 HK
      go_wp2
      go_ret
      exact ⟨rfl, H4.out.bel⟩
theorem walk (room : Int) (v : Value) (cs : List Wc) (w : World) (_ : (Lit.int .i64 room).wf = true) (h1 : RowsIn wcA Wc.zero 17 w v cs) (_ : cs.length ≤ maxLen) (h3 : ∀ c ∈ cs, c.fits ∧ RcIn w c.m.1 c.m.2.1 c.m.2.2) (h4 : ∀ a len cap, v = .slice a len cap → len ≤ cap) :
    Calls Try.prog 5 #[.int .i64 room, v] w fun e w' => e = .returned (.bool true) ∧ Below w.heap.size w w' := by
  rcases few9_two v cs w ⟨h1, h3, h4⟩ with ⟨hl, hf⟩ | hf
  · exact yes room v cs w ⟨h1, h3, h4⟩ hl hf
  · exact no room v w hf
end Go.Proofs.Ytfbelaalmdcaaaa.walRises

namespace Go.Proofs.Ytfbelaalmdcaaaa.walRises
open Go.ChangeShapes Go.WideShapes Go.ChangeAt Go.RowKit
open Go.ChangeMaps (open_string shut_string)
set_option linter.unusedVariables false

theorem laidOut : laidOutB Try.prog = true := by kernel_rfl
theorem own : ownKnob Try.prog.godebug = none := by kernel_rfl

set_option maxRecDepth 100000 in
theorem lifted (os : Os) (started : os.Started) (H : Type) (enc : TypeId × Value → H) :
    ReturnsInHanded {} Try.checked os 5 .any (Rows.walRisesSpec.pre6 enc Try.prog Try.f5 Rows.walRisesRow.domain false) (Rows.walRisesSpec.post enc Try.prog Try.f5 false true false false) := by
  refine returnsInHanded_of_change_sized (C := Try.checked) own started (by kernel_rfl) Try.func5
    (ChangeSpec.witness6 (enc := enc) (C := Try.checked) false ⟨#[], #[.int .i64 0, .slice none 0 0], []⟩ 8 (by kernel_rfl) (by kernel_rfl) (by kernel_rfl) (by kernel_rfl)) ?_
  intro W base args ds gs before hval0 hW hcnd hsz0 _
  have hval : ∀ (j : Nat) t v, Try.f5.params[j]? = some t → args[j]? = some v → Value.okWide Try.prog W .any base t v := hval0
  have hsz : (DataW.weightsEach Try.prog (Try.f5.params.toList ++ Rows.walRisesSpec.plain.varTypes Try.prog) (ds ++ gs)).all (· ≤ reachBytes) = true := hsz0
  have hW' := hW
  obtain ⟨p, q, hA0, hV, rfl, hfz, hnd⟩ := hW
  have hA : DataW.TrodAll enc Try.prog W 0 (fun _ => true) true Try.f5.params.toList args.toList ds p := hA0
  rw [Try.params5] at hA hval hsz
  obtain ⟨v0, vs0, d0, ds0, p0, q0, hargs, rfl, rfl, h0, r0⟩ := trodAll_cons hA
  obtain ⟨v1, vs1, d1, ds1, p1, q1, rfl, rfl, rfl, h1, r1⟩ := trodAll_cons r0
  obtain ⟨rfl, rfl, rfl⟩ := trodAll_nil r1
  obtain rfl : args = #[v0, v1] := by cases args; simp_all
  obtain ⟨rfl, rfl⟩ := trodVars_none hV
  obtain ⟨a0, rfl, rfl, rfl, w0⟩ := open_int Try.underlying3 (hval 0 3 v0 rfl rfl) h0
  have k1 := h1
  have lt1 := trod_places h1
  obtain ⟨m1, w1a, w1b, w1c, w1d⟩ := op_wcs (hval 1 22 v1 rfl rfl) h1
  clear hA0 hval0 hsz0 hsz
  refine (walk a0 v1 m1 W w0 w1a w1b w1c w1d).mono fun e W' ⟨he, bel⟩ => ?_
  subst he
  exact ⟨_, rfl, _, _, _, [], _, [], hW', trodAll_mk1 (shut_bool Try.underlying4 _), (trodAll_cons_mk (shut_int Try.underlying3 w0) (trodAll_cons_mk (Below.trod laidOut (by kernel_rfl) (of_decide_eq_true (by kernel_rfl)) k1 bel lt1) trodAll_mk0)), rfl, bel.frame _, fun h => by cases h⟩

theorem over : Rows.walRisesRow.holds Try.pinned (OpenSpec.ofChange Rows.walRisesSpec) :=
  OpenClaim.holds_of_wide 5 Try.f5 rfl rfl rfl rfl rfl rfl rfl ⟨rfl, rfl, rfl, rfl, rfl⟩ rfl rfl rfl rfl rfl (by kernel_rfl) Try.func5 (by kernel_rfl)
    (of_decide_eq_true (by kernel_rfl)) (by unfold Func.isWrapper; first | (rw [if_pos (by decide +kernel)]; kernel_rfl) | (rw [if_neg (by decide +kernel)]; exact ⟨rfl, rfl⟩))
    (fun os started H enc _ => lifted os started H enc)

/-- THE STATEMENT. -/
theorem proved : Rows.WalRisesSaid := over
end Go.Proofs.Ytfbelaalmdcaaaa.walRises
namespace Go.Proofs.Ytfbelaalmdcaaaa
theorem walRises_proved : Rows.WalRisesSaid := walRises.proved
end Go.Proofs.Ytfbelaalmdcaaaa
