/-
  Texts that lean on one another, one behind the other: each opens with its own remark.
-/
import Derived.Deep.RegionLaw
import Derived.Lib.SliceRun
import Derived.Deep.RegionHeld3
import Derived.Test.YtfbelaalmdcaaaaK12
import Derived.Test.YtfbelaalmdcaaaaK13
import Derived.Test.YtfbelaalmdcaaaaK14
import Derived.Test.YtfbelaalmdcaaaaK08
import Derived.Test.YtfbelaalmdcaaaaK00
import Derived.Test.YtfbelaalmdcaaaaK06
import Derived.Test.YtfbelaalmdcaaaaK05
import Derived.Test.YtfbelaalmdcaaaaK07

/-
  The contract of quaysideref06.Encode.
-/
namespace Go.Proofs.Ytfbelaalmdcaaaa
open Go.RowKit
set_option linter.unusedVariables false

theorem bytes_any (r : Rec) (va vb : Value) (w : World) (hr : r.right) (hin : RcIn w r va vb) :
    Calls Try.prog 57 #[.agg (rcA r va vb)] w fun e w' => e = .returned (.string (mkS (recB r))) ∧ Below w.heap.size w w' := by
  have h1 := hr.k1
  have h8 := hr.k8
  by_cases k1 : r.k = 1
  · exact bytes_update r va vb w hr k1 hin
  by_cases k2 : r.k = 2
  · exact bytes_clr r va vb w hr k2 hin
  by_cases k6 : r.k = 6
  · exact bytes_save r va vb w hr k6 hin
  by_cases k8 : r.k = 8
  · exact bytes_check r va vb w hr k8 hin
  exact bytes_end r va vb w hr (by omega) hin

/-- What 'Encode' answers. -/
def encE (r : Rec) : Int := if r.rightB = true then 0 else 1
def encL (r : Rec) : List UInt8 := if r.rightB = true then recB r else []

end Go.Proofs.Ytfbelaalmdcaaaa

/-
  The contracts of record.Encode and Size, whole, and of awake.
-/
namespace Go.Proofs.Ytfbelaalmdcaaaa
open Go.RowKit
set_option linter.unusedVariables false

set_option maxRecDepth 4000 in
set_option maxHeartbeats 1600000 in
theorem enc_no (r : Rec) (va vb : Value) (w : World) (hr : ¬ r.right) (hf : r.fits) (hin : RcIn w r va vb) :
    Calls Try.prog 51 #[.agg (rcA r va vb)] w fun e w' => e = .returned (.tuple #[.slice none 0 0, .int .i64 1]) ∧ Below w.heap.size w w' := by
  have HIN := hide hin
  have HRT := hide (fun w h => right_at r va vb w false (hide ⟨fun h => (nomatch h), fun h => absurd h hr⟩) hf h)
  have HK0 := hide (Keeps.one w 43 (rcA r va vb))
  clear hr hf hin
  obtain ⟨A, hA⟩ : ∃ A, A = rcA r va vb := ⟨_, rfl⟩
  rw [← hA] at HK0 HRT ⊢
  have HIA : Hid ((Try.prog.info? 43).map (·.size) = some A.size) := by
    rw [hA]
    exact infoRc
  clear hA
  go_enter Try.func51, Try.ntmps51
  go_wp2_with (refine wpList_load_at rfl 43 (.tmp 1) rfl w.heap.size rfl A HK0.out.1.1 _ Try.underlying43 rfl HIA.out ?_)
  refine (HRT.out _ (HIN.out.below HK0.out.2)).mono ?_
  rintro e w1 ⟨rfl, hb1⟩
  have d1 := (HK0.out.later hb1).2
  clear HK0 HRT hb1
  go_wp2
  go_ret2
  exact ⟨rfl, d1⟩

/-- THE CONTRACT. -/
theorem enc_any (r : Rec) (va vb : Value) (w : World) (hf : r.fits) (hin : RcIn w r va vb) :
    Calls Try.prog 51 #[.agg (rcA r va vb)] w fun e w' => (∃ v, e = .returned (.tuple #[v, .int .i64 (encE r)]) ∧ EncIn w' v (encL r)) ∧ Below w.heap.size w w' := by
  by_cases hr : r.right
  · have e1 : encL r = recB r := by unfold encL; rw [if_pos (rightB_yes hr)]
    have e2 : encE r = 0 := by unfold encE; rw [if_pos (rightB_yes hr)]
    rw [e1, e2]
    have h1 := hr.k1
    have h8 := hr.k8
    by_cases k1 : r.k = 1
    · exact enc_1 r va vb w hr k1 hf hin
    by_cases k2 : r.k = 2
    · exact enc_2 r va vb w hr k2 hf hin
    by_cases k3 : r.k = 3
    · exact enc_3 r va vb w hr k3 hf hin
    by_cases k4 : r.k = 4
    · exact enc_4 r va vb w hr k4 hf hin
    by_cases k5 : r.k = 5
    · exact enc_5 r va vb w hr k5 hf hin
    by_cases k6 : r.k = 6
    · exact enc_6 r va vb w hr k6 hf hin
    by_cases k7 : r.k = 7
    · exact enc_7 r va vb w hr k7 hf hin
    exact enc_8 r va vb w hr (by omega) hf hin
  · have e1 : encL r = [] := by unfold encL; rw [if_neg (by rw [rightB_no hr]; decide)]
    have e2 : encE r = 1 := by unfold encE; rw [if_neg (by rw [rightB_no hr]; decide)]
    rw [e1, e2]
    refine (enc_no r va vb w hr hf hin).mono ?_
    rintro e w1 ⟨rfl, hb1⟩
    exact ⟨⟨_, rfl, none, 0, rfl, fun _ => rfl, Nat.le_refl _, isB_nil _⟩, hb1⟩

set_option maxRecDepth 4000 in
set_option maxHeartbeats 1600000 in
theorem size_any (r : Rec) (va vb : Value) (w : World) (hf : r.fits) (hin : RcIn w r va vb) :
    Calls Try.prog 72 #[.agg (rcA r va vb)] w fun e w' => e = .returned (.int .i64 ((encL r).length : Int)) ∧ Below w.heap.size w w' := by
  have HIN := hide hin
  have HE := hide (fun w h => enc_any r va vb w hf h)
  have HK0 := hide (Keeps.one w 43 (rcA r va vb))
  clear hf hin
  obtain ⟨A, hA⟩ : ∃ A, A = rcA r va vb := ⟨_, rfl⟩
  rw [← hA] at HK0 HE ⊢
  have HIA : Hid ((Try.prog.info? 43).map (·.size) = some A.size) := by
    rw [hA]
    exact infoRc
  clear hA
  go_enter Try.func72, Try.ntmps72
  go_wp2_with (refine wpList_load_at rfl 43 (.tmp 1) rfl w.heap.size rfl A HK0.out.1.1 _ Try.underlying43 rfl HIA.out ?_)
  refine (HE.out _ (HIN.out.below HK0.out.2)).mono ?_
  rintro e w1 ⟨⟨v, rfl, a, c, rfl, -⟩, hb1⟩
  have d1 := (HK0.out.later hb1).2
  clear HK0 HE hb1
  go_wp2
  go_ret
  exact ⟨rfl, d1⟩

/-! ### awake -/
def awR : Rec := ⟨3, 5, 2, 3, Ch.zero, 0, 0, 0, [], []⟩
theorem awR_right : awR.right := ⟨by decide, by decide, by decide, by decide, fun _ => by decide, fun h => absurd h (by decide), fun h => absurd h (by decide), fun _ => rfl, fun h => absurd h (by decide), fun _ => rfl, fun h => absurd h (by decide), fun _ => rfl, fun h => absurd h (by decide), fun _ => ⟨rfl, rfl, rfl⟩⟩
theorem awR_fits : awR.fits := ⟨zero_fits, Nat.zero_le _, Nat.zero_le _, fun x hx => (nomatch hx), fun x hx => (nomatch hx)⟩
theorem awR_in (w : World) : RcIn w awR (.slice none 0 0) (.slice none 0 0) := ⟨⟨none, 0, rfl, fun h => absurd h (by decide)⟩, ⟨none, 0, rfl, fun h => absurd h (by decide)⟩⟩
def awL : Array Value := #[.int .i64 3, .int .u64 5, .int .i64 2, .int .u64 3, .int .i64 0, .int .i64 0, .int .i64 0, .string ⟨#[]⟩, .string ⟨#[]⟩, .int .u64 0, .int .i64 0, .int .u64 0, .slice none 0 0, .slice none 0 0]
theorem awA : rcA awR (.slice none 0 0) (.slice none 0 0) = awL := rfl
theorem awB : recB awR = [3, 0, 0, 0, 0, 0, 0, 0, 5, 0, 0, 0, 2, 0, 0, 0, 0, 0, 0, 0, 3] := by decide

end Go.Proofs.Ytfbelaalmdcaaaa

/-
  The contracts of frame.Put and frame.Room.
-/
namespace Go.Proofs.Ytfbelaalmdcaaaa
open Go.RowKit
set_option linter.unusedVariables false

/-- What Put answers. -/
def putL (r : Rec) : List UInt8 := if r.rightB = true then frameB r else []

set_option maxRecDepth 4000 in
set_option maxHeartbeats 1600000 in
theorem fput_no (r : Rec) (va vb : Value) (w : World) (hr : ¬ r.right) (hf : r.fits) (hin : RcIn w r va vb) :
    Calls Try.prog 36 #[.agg (rcA r va vb)] w fun e w' => e = .returned (.tuple #[.slice none 0 0, .int .i64 1]) ∧ Below w.heap.size w w' := by
  have HIN := hide hin
  have HE := hide (fun w h => enc_no r va vb w hr hf h)
  have HK0 := hide (Keeps.one w 43 (rcA r va vb))
  clear hr hf hin
  obtain ⟨A, hA⟩ : ∃ A, A = rcA r va vb := ⟨_, rfl⟩
  rw [← hA] at HK0 HE ⊢
  have HIA : Hid ((Try.prog.info? 43).map (·.size) = some A.size) := by
    rw [hA]
    exact infoRc
  clear hA
  go_enter Try.func36, Try.ntmps36
  go_wp2_with (refine wpList_load_at rfl 43 (.tmp 1) rfl w.heap.size rfl A HK0.out.1.1 _ Try.underlying43 rfl HIA.out ?_)
  refine (HE.out _ (HIN.out.below HK0.out.2)).mono ?_
  rintro e w1 ⟨rfl, hb1⟩
  have d1 := (HK0.out.later hb1).2
  clear HK0 HE hb1
  go_wp2
  go_ret2
  exact ⟨rfl, d1⟩

set_option maxRecDepth 4000 in
set_option maxHeartbeats 1600000 in
theorem fput_ok (r : Rec) (va vb : Value) (w : World) (hr : r.right) (hf : r.fits) (hin : RcIn w r va vb) :
    Calls Try.prog 36 #[.agg (rcA r va vb)] w fun e w' => ∃ v, e = .returned (.tuple #[v, .int .i64 0]) ∧ w'.ownsRow w.heap.size 5 1 v (frameB r).length (toV (frameB r)) ∧ Below w.heap.size w w' := by
  have HIN := hide hin
  have HE := hide (fun w h => enc_any r va vb w hf h)
  have eE : encE r = 0 := by unfold encE; rw [if_pos (rightB_yes hr)]
  have eL : encL r = recB r := by unfold encL; rw [if_pos (rightB_yes hr)]
  rw [eE, eL] at HE
  have HFB : Hid (frameB r = sealB (beB 2 (recB r).length ++ recB r)) := rfl
  have hfew := rec_few r hr
  have HLF := hide (frameB_length r)
  have HK0 := hide (Keeps.one w 43 (rcA r va vb))
  clear hf hin hr eE eL
  generalize frameB r = FB at *
  generalize recB r = L at *
  obtain ⟨A, hA⟩ : ∃ A, A = rcA r va vb := ⟨_, rfl⟩
  rw [← hA] at HK0 HE ⊢
  have HIA : Hid ((Try.prog.info? 43).map (·.size) = some A.size) := by
    rw [hA]
    exact infoRc
  clear hA
  obtain ⟨ln, hln⟩ : ∃ ln, ln = L.length := ⟨_, rfl⟩
  rw [← hln] at hfew HFB HLF
  have HLN := hide hln
  clear hln
  have HPW : Hid (ln < 256 ^ 2) := by show ln < 65536; omega
  have ewl : IntKind.u64.wrap (ln : Int) = (ln : Int) := by rw [IntKind.wrap_u64]; omega
  go_enter Try.func36, Try.ntmps36
  go_wp2_with (refine wpList_load_at rfl 43 (.tmp 1) rfl w.heap.size rfl A HK0.out.1.1 _ Try.underlying43 rfl HIA.out ?_)
  refine (HE.out _ (HIN.out.below HK0.out.2)).mono ?_
  rintro e w1 ⟨⟨v1, rfl, p1, k1, rfl, hnil, hcap, hB1⟩, hb1⟩
  rw [← HLN.out] at hB1 hcap
  rw [← HLN.out]
  have HB1 := hide hB1
  have HD1 := hide (HK0.out.later hb1).2
  have HNIL := hide hnil
  clear HK0 HE hb1 hB1 hnil
  go_wp2_with fail
  refine (put_ok none 0 0 2 ln [] w1 (IsB.nil w1) (by omega) (by omega) (by omega) HPW.out).mono ?_
  rintro e w2 ⟨rfl, hown2, hb2⟩
  have HO2 := hide (own_mono hown2 HD1.out.size)
  have HB2 := hide (HB1.out.below hb2)
  have HD2 := hide (HD1.out.trans (hb2.mono HD1.out.size))
  clear hown2 hb2 HB1 HD1
  generalize w1.heap.size = g1 at *
  go_wp2_with (at_builtin; refine wpList_append_ob _ rfl (.tmp 22) (.tmp 23) 60 rfl 5 Try.underlying60 info8 w.heap.size _ 2 _ rfl HO2.out p1 ln k1 L rfl HB2.out HNIL.out (by omega) HD2.out.size ?_)
  intro v3 w3 hown3 hg3
  have d3 := HD2.out.grown hg3 HD2.out.size (fun k hk => (HO2.out.lt k hk).1)
  obtain ⟨a3, c3, rfl, hc3, hB3⟩ := shape_isB hown3
  have HB3 := hide hB3
  have HD3 := hide d3
  clear hown3 hg3 d3 hB3 HO2 HB2 HD2 hc3
  go_wp2_with fail
  refine (seal_any a3 (2 + ln) c3 ([] ++ beB 2 ln ++ L) w3 HB3.out (by omega)).mono ?_
  rintro e w4 ⟨v4, rfl, hown4, hb4⟩
  have HO4 := hide (own_mono hown4 HD3.out.size)
  have HD4 := hide (HD3.out.trans (hb4.mono HD3.out.size))
  clear hown4 hb4 HB3 HD3
  obtain ⟨a4, c4, rfl⟩ := own_shape5 HO4.out
  go_wp2
  go_ret2
  have e1 : FB.length = 2 + ln + 4 := by
    have := HLF.out
    omega
  refine ⟨_, rfl, ?_, HD4.out⟩
  rw [e1, HFB.out]
  exact HO4.out

/-- THE CONTRACT. -/
theorem fput_any (r : Rec) (va vb : Value) (w : World) (hf : r.fits) (hin : RcIn w r va vb) :
    Calls Try.prog 36 #[.agg (rcA r va vb)] w fun e w' => ∃ v, e = .returned (.tuple #[v, .int .i64 (encE r)]) ∧ w'.ownsRow w.heap.size 5 1 v (putL r).length (toV (putL r)) ∧ Below w.heap.size w w' := by
  by_cases hr : r.right
  · have e1 : putL r = frameB r := by unfold putL; rw [if_pos (rightB_yes hr)]
    have e2 : encE r = 0 := by unfold encE; rw [if_pos (rightB_yes hr)]
    rw [e1, e2]
    exact fput_ok r va vb w hr hf hin
  · have e1 : putL r = [] := by unfold putL; rw [if_neg (by rw [rightB_no hr]; decide)]
    have e2 : encE r = 1 := by unfold encE; rw [if_neg (by rw [rightB_no hr]; decide)]
    rw [e1, e2]
    refine (fput_no r va vb w hr hf hin).mono ?_
    rintro e w1 ⟨rfl, hb1⟩
    exact ⟨_, rfl, World.ownsRow_nil _ _ _ _, hb1⟩

theorem putL_few (r : Rec) : (putL r).length ≤ 1006 := by
  unfold putL
  by_cases hr : r.right
  · rw [if_pos (rightB_yes hr), frameB_length]
    have := rec_few r hr
    omega
  · rw [if_neg (by rw [rightB_no hr]; decide)]
    exact Nat.zero_le _

set_option maxRecDepth 4000 in
set_option maxHeartbeats 1600000 in
theorem froom_any (r : Rec) (va vb : Value) (w : World) (hf : r.fits) (hin : RcIn w r va vb) :
    Calls Try.prog 56 #[.agg (rcA r va vb)] w fun e w' => e = .returned (.int .i64 ((putL r).length : Int)) ∧ Below w.heap.size w w' := by
  have HIN := hide hin
  have HR := hide (fun w q h h2 => right_at r va vb w q h hf h2)
  have HS := hide (fun w h => size_any r va vb w hf h)
  have HK0 := hide (Keeps.one w 43 (rcA r va vb))
  clear hf hin
  obtain ⟨A, hA⟩ : ∃ A, A = rcA r va vb := ⟨_, rfl⟩
  rw [← hA] at HK0 HR HS ⊢
  have HIA : Hid ((Try.prog.info? 43).map (·.size) = some A.size) := by
    rw [hA]
    exact infoRc
  clear hA
  by_cases hr : r.right
  · have e1 : (putL r).length = (encL r).length + 6 := by
      unfold putL encL
      rw [if_pos (rightB_yes hr), if_pos (rightB_yes hr), frameB_length]
    have e2 : (encL r).length ≤ 1000 := by
      unfold encL
      rw [if_pos (rightB_yes hr)]
      exact rec_few r hr
    have HE1 := hide e1
    have HRT := hide (fun w h2 => HR.out w true (hide ⟨fun _ => hr, fun _ => rfl⟩) h2)
    clear hr HR e1
    generalize (encL r).length = ln at *
    go_enter Try.func56, Try.ntmps56
    go_wp2_with (refine wpList_load_at rfl 43 (.tmp 1) rfl w.heap.size rfl A HK0.out.1.1 _ Try.underlying43 rfl HIA.out ?_)
    refine (HRT.out _ (HIN.out.below HK0.out.2)).mono ?_
    rintro e w1 ⟨rfl, hb1⟩
    have HK1 := hide (HK0.out.later hb1)
    clear HK0 HRT hb1
    go_wp2_with (refine wpList_load_at rfl 43 (.tmp 1) rfl w.heap.size rfl A HK1.out.1.1 _ Try.underlying43 rfl HIA.out ?_)
    refine (HS.out _ (HIN.out.below HK1.out.2)).mono ?_
    rintro e w2 ⟨rfl, hb2⟩
    have d2 := (HK1.out.later hb2).2
    clear HK1 HS hb2
    go_wp2
    go_ret
    exact ⟨by rw [HE1.out]; rfl, d2⟩
  · have e1 : (putL r).length = 0 := by
      unfold putL
      rw [if_neg (by rw [rightB_no hr]; decide)]
      rfl
    have HE1 := hide e1
    have HRT := hide (fun w h2 => HR.out w false (hide ⟨fun h => (nomatch h), fun h => absurd h hr⟩) h2)
    clear hr HR e1 HS
    go_enter Try.func56, Try.ntmps56
    go_wp2_with (refine wpList_load_at rfl 43 (.tmp 1) rfl w.heap.size rfl A HK0.out.1.1 _ Try.underlying43 rfl HIA.out ?_)
    refine (HRT.out _ (HIN.out.below HK0.out.2)).mono ?_
    rintro e w1 ⟨rfl, hb1⟩
    have d1 := (HK0.out.later hb1).2
    clear HK0 HRT hb1
    go_wp2
    go_ret
    exact ⟨by rw [HE1.out]; rfl, d1⟩
end Go.Proofs.Ytfbelaalmdcaaaa

/-
  A log's records and its waiting frames grow: what its memory is behind it.
-/
namespace Go.Proofs.Ytfbelaalmdcaaaa
open Go.RowKit
set_option linter.unusedVariables false

/-- A call as one step of a region that draws its order. -/
theorem step_call_fn {P : Program} {ops : Array Oper} {o : Oper} {a : Act} {w : World} {K : Act → World → Prop} {Q : Exit → Act → World → Prop} {E : Prop} (hg : o.guard = none) (f : FuncId) (args : Array Value) (he : (execOp a.eval o).run P w = .ok (.enter f args) w)
    (hc : Calls P f args w fun e w' => ∃ v, e = .returned v ∧ K (a.put o.dst v) w') : if Region.wanted o (yielded ops a.tmps) = true then Oper.wp P o a w K Q else E := by
  have hw : Region.wanted o (yielded ops a.tmps) = true := by simp [Region.wanted, hg]
  rw [if_pos hw]
  unfold Oper.wp
  rw [he, Oper.upon_enter]
  refine hc.mono ?_
  rintro e w' ⟨v, rfl, h⟩
  exact h
section
variable {B : Nat} {gl gc gt gb : Nat} {a : Option Addr} {cap : Nat} {ms : List Rm} {wa : Option Addr} {wc : Nat} {bs : List UInt8} {g : Lg}
theorem LV.pushed {y z : World} {a' : Option Addr} {cap' : Nat} {m : Rm} (h : LV B y gl gc gt gb a cap ms wa wc bs g) (q2 : RB B z a' cap' (ms ++ [m])) (q3 : Tn (blk a) y z) (q4 : ∀ k, blk a' k → blk a k ∨ y.heap.size ≤ k) :
    LV B (z.setCell ⟨gl, 2, none⟩ (.slice a' (g.l.length + 1) cap')) gl gc gt gb a' cap' (ms ++ [m]) wa wc bs { g with l := g.l ++ [m.1] } ∧ Tn (FC gl gc gt gb a wa) y (z.setCell ⟨gl, 2, none⟩ (.slice a' (g.l.length + 1) cap')) := by
  have A := h.all
  have hlog := q3.row h.log A.la
  have hTs : Tn (Is gl) z (z.setCell ⟨gl, 2, none⟩ (.slice a' (g.l.length + 1) cap')) := (Tn.refl (Is gl) z).set gl 2 _ rfl
  have hal : ¬ blk a' gl := fun hk => by
    rcases q4 gl hk with h1 | h1
    · exact A.la h1
    · have := h.log.lt
      omega
  refine ⟨⟨h.lowl, h.lowc, h.lowt, h.lowb, ?_, ?_, ?_, ?_, ?_, ?_, h.apart⟩, (q3.weak (fun k hk => .inr (.inr (.inr (.inr (.inl hk)))))).then (hTs.weak (fun k hk => .inl hk))⟩
  · have e := hlog.set 2 (.slice a' (g.l.length + 1) cap')
    show RowAt _ gl _ #[.pointer (some ⟨gc, 0, none⟩), .pointer (some ⟨gt, 0, none⟩), .slice a' (g.l ++ [m.1]).length cap', .int .i64 (g.fa : Int), .int .i64 (g.on : Int), .slice wa bs.length wc, .int .u64 (g.du : Int), .int .i64 (g.hd : Int)]
    rw [List.length_append, List.length_singleton]
    exact e
  · exact ⟨h.clock.1, hTs.row (q3.row h.clock.2 A.ca) (fun e => A.lc (show gc = gl from e).symm)⟩
  · have q1 := h.tape.keep (q3.block _ h.tape.lt.1 A.ta) (q3.block _ h.tape.lt.2 A.ba)
    exact q1.keep (hTs.block _ q1.lt.1 (fun e => A.lt (show gt = gl from e).symm)) (hTs.block _ q1.lt.2 (fun e => A.lb (show gb = gl from e).symm))
  · exact q2.keep (F := Is gl) (fun q hq => ⟨by rw [show q = gl from hq]; exact h.lowl, by rw [show q = gl from hq]; exact hlog.lt, fun ty cs hrow => by rw [show q = gl from hq] at hrow; rw [row_kind hrow hlog]; decide⟩) hTs (fun q hq e => hal (by rw [← show q = gl from e]; exact hq))
  · rw [msR_snoc, h.same]
  · have q1 : WB B z wa wc bs := h.wait.keep (fun q hq => q3.block q (by obtain ⟨_, _, hr⟩ := h.wait.kind q hq; exact hr.lt) (fun ha => A.aw q ha hq))
    exact q1.keep (fun q hq => hTs.block q (by obtain ⟨_, _, hr⟩ := q1.kind q hq; exact hr.lt) (fun e => A.lw (by rw [← show q = gl from e]; exact hq)))
theorem LV.waited {y z : World} {wa' : Option Addr} {wc' : Nat} {ys : List UInt8} (h : LV B y gl gc gt gb a cap ms wa wc bs g) (q1 : WB B z wa' wc' (bs ++ ys)) (q2 : Tn (blk wa) y z) (q3 : ∀ k, blk wa' k → blk wa k ∨ y.heap.size ≤ k) :
    LV B (z.setCell ⟨gl, 5, none⟩ (.slice wa' (bs.length + ys.length) wc')) gl gc gt gb a cap ms wa' wc' (bs ++ ys) g ∧ Tn (FC gl gc gt gb a wa) y (z.setCell ⟨gl, 5, none⟩ (.slice wa' (bs.length + ys.length) wc')) := by
  have A := h.all
  have hlog := q2.row h.log A.lw
  have hTs : Tn (Is gl) z (z.setCell ⟨gl, 5, none⟩ (.slice wa' (bs.length + ys.length) wc')) := (Tn.refl (Is gl) z).set gl 5 _ rfl
  have hnew : ∀ j, j < y.heap.size → ¬ blk wa j → ¬ blk wa' j := fun j hj hn hk => by
    rcases q3 j hk with h1 | h1
    · exact hn h1
    · omega
  have hloz : Loose B y (blk wa) := fun k hk => h.loose k (.inr (.inr (.inr (.inr (.inr hk)))))
  refine ⟨⟨h.lowl, h.lowc, h.lowt, h.lowb, ?_, ?_, ?_, ?_, h.same, ?_, hnew gb h.tape.lt.2 h.apart⟩, (q2.weak (fun k hk => .inr (.inr (.inr (.inr (.inr hk)))))).then (hTs.weak (fun k hk => .inl hk))⟩
  · have e := hlog.set 5 (.slice wa' (bs.length + ys.length) wc')
    show RowAt _ gl _ #[.pointer (some ⟨gc, 0, none⟩), .pointer (some ⟨gt, 0, none⟩), .slice a g.l.length cap, .int .i64 (g.fa : Int), .int .i64 (g.on : Int), .slice wa' (bs ++ ys).length wc', .int .u64 (g.du : Int), .int .i64 (g.hd : Int)]
    rw [List.length_append]
    exact e
  · exact ⟨h.clock.1, hTs.row (q2.row h.clock.2 A.cw) (fun e => A.lc (show gc = gl from e).symm)⟩
  · have q := h.tape.keep (q2.block _ h.tape.lt.1 A.tw) (q2.block _ h.tape.lt.2 h.apart)
    exact q.keep (hTs.block _ q.lt.1 (fun e => A.lt (show gt = gl from e).symm)) (hTs.block _ q.lt.2 (fun e => A.lb (show gb = gl from e).symm))
  · have q := h.recs.keep hloz q2 (fun k hk hw => A.aw k hk hw)
    exact q.keep (F := Is gl) (fun k hk => ⟨by rw [show k = gl from hk]; exact h.lowl, by rw [show k = gl from hk]; exact hlog.lt, fun ty cs hrow => by rw [show k = gl from hk] at hrow; rw [row_kind hrow hlog]; decide⟩) hTs (fun k hk e => A.la (by rw [← show k = gl from e]; exact hk))
  · exact q1.keep (fun q hq => hTs.block q (by obtain ⟨_, _, hr⟩ := q1.kind q hq; exact hr.lt) (fun e => hnew gl h.log.lt A.lw (by rw [← show q = gl from e]; exact hq)))
/-- A record with lists of its own is put behind the others. -/
theorem LV.push9 {w4 w5 : World} {r : Rec} {ua ub : Value} {base : Nat} (h : LV B w4 gl gc gt gb a cap ms wa wc bs g) (hb : Below w4.heap.size w4 w5) (hg : GotIn base w5 r ua ub) (hf : r.fits) (hlen : g.l.length ≤ 100000000) :
    ∃ a' cap' w6, (Builtin.append_ #[29, 29] 29 #[.slice a g.l.length cap, .slice (some ⟨w5.heap.size, 0, none⟩) 1 1]).run Try.prog (w5.alloc (.cells (rcA r ua ub) 43)) = .ok (.slice a' (g.l.length + 1) cap') w6 ∧
      w5.cell? ⟨gl, 2, none⟩ = some (.slice a g.l.length cap) ∧ (w5.alloc (.cells (rcA r ua ub) 43)).cell? ⟨gl, 2, none⟩ = some (.slice a g.l.length cap) ∧ w6.cell? ⟨gl, 2, none⟩ = some (.slice a g.l.length cap) ∧ w6.frozen? ⟨gl, 2, none⟩ = false ∧
      Hid (LV B (w6.setCell ⟨gl, 2, none⟩ (.slice a' (g.l.length + 1) cap')) gl gc gt gb a' cap' (ms ++ [(r, ua, ub)]) wa wc bs { g with l := g.l ++ [r] } ∧ Tn (FC gl gc gt gb a wa) w4 (w6.setCell ⟨gl, 2, none⟩ (.slice a' (g.l.length + 1) cap')) ∧ (∀ k, blk a' k → blk a k ∨ w4.heap.size ≤ k)) := by
  have hbY : Below w5.heap.size w5 (w5.alloc (.cells (rcA r ua ub) 43)) := (Below.refl _ _).alloc (Nat.le_refl _) _
  have hb4 : Below w4.heap.size w4 (w5.alloc (.cells (rcA r ua ub) 43)) := hb.trans (hbY.mono hb.size)
  have hY := h.later hb4
  obtain ⟨a', cap', w6, q1, q2, q3, q4⟩ := run_push B (w5.alloc (.cells (rcA r ua ub) 43)) 29 29 Try.underlying29 a cap ms hY.recs (r, ua, ub) w5.heap.size 1 (RowAt.new w5 _ _) ⟨hf, RcK.got (hg.below hbY)⟩ hY.here (by rw [h.len]; exact hlen)
  rw [h.len] at q1
  obtain ⟨r1, r2⟩ := hY.pushed q2 q3 q4
  have hl6 := q3.row hY.log hY.all.la
  exact ⟨a', cap', w6, q1, (h.later hb).c2, hY.c2, hl6.cell 2 _ rfl, hl6.free 2, r1, (Tn.of_below hb4).then r2, fun k hk => (q4 k hk).imp id (fun h => Nat.le_trans hb4.size h)⟩
/-- The frame's bytes behind the waiting ones. -/
theorem WB.app {y : World} (h : WB B y wa wc bs) (hB : B ≤ y.heap.size) (ad : Option Addr) (m c : Nat) (ys : List UInt8) (hY : IsB y ad m ys) (hnil : ad = none → c = 0) (hz : bs.length + m ≤ 1000000) :
    ∃ wa' wc' z, (Builtin.append_ #[60, 60] 60 #[.slice wa bs.length wc, .slice ad m c]).run Try.prog y = .ok (.slice wa' (bs.length + m) wc') z ∧ WB B z wa' wc' (bs ++ ys) ∧ Tn (blk wa) y z ∧ (∀ k, blk wa' k → blk wa k ∨ y.heap.size ≤ k) := by
  have hy := hY.1
  obtain ⟨wa', wc', z, r1, r2, r3, r4⟩ := run_app8 (P := Try.prog) y 60 60 5 Try.underlying60 info8 wa bs.length wc bs (own_low h (Nat.zero_le _)) ad m c ys hY hnil (by omega)
  have hT : Tn (blk wa) y z := Tn.of_grown r3 (fun k hk => by
    rcases h.2 with ⟨e, _⟩ | ⟨k', c', cur, e, _⟩
    · injection e with e1 e2 e3
      subst e1
      cases hk
    · injection e with e1 e2 e3
      subst e1
      injection hk with hk
      exact ⟨0, by rw [← hk]⟩)
  have hnew : ∀ k, blk wa' k → blk wa k ∨ y.heap.size ≤ k := fun k hk => by
    rcases r4 with rfl | ⟨g', rfl, h5⟩
    · exact .inl hk
    · obtain ⟨off, e⟩ := hk
      injection e with e
      injection e with e
      exact .inr (by omega)
  refine ⟨wa', wc', z, r1, ?_, hT, hnew⟩
  have hlen : (bs ++ ys).length = bs.length + m := by rw [List.length_append, hy]
  unfold WB
  rw [hlen]
  refine ⟨r2.1, ?_⟩
  rcases r2.2 with h5 | ⟨g', c', cur, e, _, h6⟩
  · exact .inl h5
  · refine .inr ⟨g', c', cur, e, ?_, h6⟩
    injection e with e1
    rcases hnew g' ⟨0, e1⟩ with h7 | h7
    · exact (h.kind g' h7).1
    · omega
end
end Go.Proofs.Ytfbelaalmdcaaaa

/-
  Plain facts on what bytes tell of a page: the page cell by cell, of no program.
-/
namespace Go.Proofs.Ytfbelaalmdcaaaa
open Go.RowKit
set_option linter.unusedVariables false

/-- The first cells of the page that bytes tell. -/
def prefP (bs : List UInt8) (j : Nat) : Pg := ⟨beAt bs 0 8, fun i => decide (i < j) && usedAt (taleOf bs) i, fun i => if i < j then cutAt (taleOf bs) i else ⟨#[]⟩⟩

theorem pref_full (bs : List UInt8) : (prefP bs 8).same (scanP bs) := by
  refine ⟨rfl, fun i hi => ⟨?_, ?_⟩⟩
  · show (decide (i < 8) && usedAt (taleOf bs) i) = usedAt (taleOf bs) i
    simp [hi]
  · show (if i < 8 then cutAt (taleOf bs) i else ⟨#[]⟩) = cutAt (taleOf bs) i
    rw [if_pos hi]

theorem pref_zero (bs : List UInt8) : pgA (prefP bs 0) = pgA ⟨beAt bs 0 8, Pg.zero.u, Pg.zero.s⟩ := by
  refine same_pgA ⟨rfl, fun i hi => ⟨?_, ?_⟩⟩
  · show (decide (i < 0) && usedAt (taleOf bs) i) = false
    simp
  · show (if i < 0 then cutAt (taleOf bs) i else ⟨#[]⟩) = _
    rw [if_neg (by omega)]
    rfl

theorem cut_unused (t : List UInt8) (j : Nat) (h : usedAt t j = false) : cutAt t j = ⟨#[]⟩ := by
  unfold cutAt lenAt
  rw [h]
  simp

theorem pref_skip (bs : List UInt8) (j : Nat) (h : usedAt (taleOf bs) j = false) : pgA (prefP bs (j + 1)) = pgA (prefP bs j) := by
  refine same_pgA ⟨rfl, fun i hi => ⟨?_, ?_⟩⟩
  · show (decide (i < j + 1) && usedAt (taleOf bs) i) = (decide (i < j) && usedAt (taleOf bs) i)
    by_cases hij : i = j
    · subst hij
      simp [h]
    · have e : decide (i < j + 1) = decide (i < j) := decide_eq_decide.2 (by omega)
      rw [e]
  · show (if i < j + 1 then cutAt (taleOf bs) i else ⟨#[]⟩) = if i < j then cutAt (taleOf bs) i else ⟨#[]⟩
    by_cases hij : i = j
    · subst hij
      rw [if_pos (by omega), if_neg (by omega), cut_unused _ _ h]
    · by_cases h2 : i < j
      · rw [if_pos (by omega), if_pos h2]
      · rw [if_neg (by omega), if_neg h2]

theorem pgA_set (p : Pg) (j : Nat) (hj : j < 8) (b : Bool) (s : ByteArray) :
    ((pgA p).setIfInBounds (1 + j * 2) (.bool b)).setIfInBounds (1 + j * 2 + 1) (.string s) = pgA ⟨p.l, fun i => if i = j then b else p.u i, fun i => if i = j then s else p.s i⟩ := by
  rcases lt8 hj with rfl | rfl | rfl | rfl | rfl | rfl | rfl | rfl <;> simp [pgA]

theorem pref_more (bs : List UInt8) (j : Nat) (h : usedAt (taleOf bs) j = true) :
    pgA ⟨(prefP bs j).l, fun i => if i = j then true else (prefP bs j).u i, fun i => if i = j then cutAt (taleOf bs) j else (prefP bs j).s i⟩ = pgA (prefP bs (j + 1)) := by
  refine same_pgA ⟨rfl, fun i hi => ⟨?_, ?_⟩⟩
  · show (if i = j then true else (decide (i < j) && usedAt (taleOf bs) i)) = (decide (i < j + 1) && usedAt (taleOf bs) i)
    by_cases hij : i = j
    · subst hij
      simp [h]
    · have e : decide (i < j + 1) = decide (i < j) := decide_eq_decide.2 (by omega)
      rw [e, if_neg hij]
  · show (if i = j then cutAt (taleOf bs) j else if i < j then cutAt (taleOf bs) i else ⟨#[]⟩) = if i < j + 1 then cutAt (taleOf bs) i else ⟨#[]⟩
    by_cases hij : i = j
    · subst hij
      rw [if_pos rfl, if_pos (by omega)]
    · rw [if_neg hij]
      by_cases h2 : i < j
      · rw [if_pos h2, if_pos (by omega)]
      · rw [if_neg h2, if_neg (by omega)]

theorem pos_le (t : List UInt8) (j : Nat) (h : ∀ k, k < j → lenAt t k ≤ 20) : posAt t j ≤ 10 + 20 * j := by
  induction j with
  | zero => exact Nat.le_refl _
  | succ j ih =>
    have h1 := ih (fun k hk => h k (by omega))
    have h2 := h j (by omega)
    rw [posAt]
    omega

theorem cut_size (t : List UInt8) (j : Nat) (ht : t.length = 240) : (cutAt t j).size = min (lenAt t j) (240 - posAt t j) := by
  unfold cutAt
  rw [size_mk, List.length_take, List.length_drop, ht]

/-- A cell's byte between 21 and 254: no right page. -/
theorem scan_wrong (bs : List UInt8) (j : Nat) (hb : bs.length = 256) (hj : j < 8) (h : ∀ k, k < j → lenAt (taleOf bs) k ≤ 20) (hl : 20 < lenAt (taleOf bs) j) : ¬ (scanP bs).right := by
  intro hr
  have h1 := (hr.2 j hj).1
  have h2 := cut_size (taleOf bs) j (taleOf_length bs hb)
  have h3 := pos_le (taleOf bs) j h
  have h4 : (scanP bs).s j = cutAt (taleOf bs) j := rfl
  rw [h4, h2] at h1
  omega

theorem nAt_str (s : ByteArray) (T : ByteArray) (hT : T = ⟨(taleOf s.data.toList).toArray⟩) (j : Nat) (h : 2 + j < T.size) : T[2 + j].toNat = nAt (taleOf s.data.toList) j := by
  unfold nAt
  rw [← getD_str T (2 + j) h, hT]

theorem cut_str (s : ByteArray) (T : ByteArray) (hT : T = ⟨(taleOf s.data.toList).toArray⟩) (j : Nat) (h : posAt (taleOf s.data.toList) j + lenAt (taleOf s.data.toList) j ≤ T.size) :
    T.extract (posAt (taleOf s.data.toList) j) (posAt (taleOf s.data.toList) j + lenAt (taleOf s.data.toList) j) = cutAt (taleOf s.data.toList) j := by
  rw [extract_eq T _ _ h, hT]
  rfl
theorem len_used (t : List UInt8) (j m : Nat) (hm : nAt t j = m) (h : m ≠ 255) : lenAt t j = m ∧ usedAt t j = true := by
  have hu : usedAt t j = true := by unfold usedAt; rw [hm]; simp [h]
  exact ⟨by unfold lenAt; rw [hu, if_pos rfl, hm], hu⟩
theorem len_unused (t : List UInt8) (j : Nat) (hm : nAt t j = 255) : lenAt t j = 0 ∧ usedAt t j = false := by
  have hu : usedAt t j = false := by unfold usedAt; rw [hm]; simp
  exact ⟨by unfold lenAt; rw [hu]; simp, hu⟩

/-- What 'Decode' answers behind the sum. -/
theorem dec_last (id : Int) (bs : List UInt8) (h0 : 0 ≤ id ∧ id ≤ 31) (hb : bs.length = 256) (ht : tornB bs = false) (hs : leN ((taleOf bs).drop 236) = crc ((taleOf bs).take 236)) :
    decE id bs = if (scanP bs).right ∧ imageB id.toNat (scanP bs) = bs then 0 else 2 := by
  unfold decE
  rw [if_neg (by simpa using h0), if_neg (by omega), if_neg (by omega), if_neg (by simp [ht]), if_neg (by simp [hs])]
end Go.Proofs.Ytfbelaalmdcaaaa

/-
  What 'Apply' finds and leaves in memory, and what it answers: of no program's function.
-/
namespace Go.Proofs.Ytfbelaalmdcaaaa
open Go.RowKit
set_option linter.unusedVariables false

/-- What 'Apply' answers, once its arguments are right. -/
theorem app_at (p : Pg) (c : Ch) (l : Nat) (hp : p.right) (hc : c.right) (hl : l ≤ maxP) (hl2 : p.l < l) (i : Nat) (hi : c.at = i) :
    (p.u i = true ∧ c.wantU = false → appE p c l = 6 ∧ appP p c l = Pg.zero) ∧ (p.u i = false ∧ c.wantU = true → appE p c l = 5 ∧ appP p c l = Pg.zero) ∧
    (p.u i = c.wantU → p.s i ≠ c.wantV → appE p c l = 2 ∧ appP p c l = Pg.zero) ∧ (p.u i = c.wantU → p.s i = c.wantV → appE p c l = 0 ∧ appP p c l = p.put l i c.makeU c.makeV) := by
  subst hi
  have hbase : appE p c l = if p.u c.at = true ∧ c.wantU = false then 6 else if p.u c.at = false ∧ c.wantU = true then 5 else if p.s c.at ≠ c.wantV then 2 else 0 := by
    unfold appE
    rw [if_neg (fun h => h ⟨hp, hc, hl⟩), if_neg (by omega)]
  refine ⟨fun h => ?_, fun h => ?_, fun h1 h2 => ?_, fun h1 h2 => ?_⟩
  · have e : appE p c l = 6 := by rw [hbase, if_pos h]
    exact ⟨e, app_no _ _ _ (by rw [e]; decide)⟩
  · have e : appE p c l = 5 := by rw [hbase, if_neg (by rw [h.1]; simp), if_pos h]
    exact ⟨e, app_no _ _ _ (by rw [e]; decide)⟩
  · have e : appE p c l = 2 := by rw [hbase, if_neg (by rw [h1]; intro h; rw [h.1] at h; cases h.2), if_neg (by rw [h1]; intro h; rw [h.1] at h; cases h.2), if_pos h2]
    exact ⟨e, app_no _ _ _ (by rw [e]; decide)⟩
  · have e : appE p c l = 0 := (app_yes p c l).2 ⟨hp, hc, hl, hl2, h1, h2⟩
    exact ⟨e, by unfold appP; rw [if_pos e]⟩
end Go.Proofs.Ytfbelaalmdcaaaa

/-
  A struct's block that is loaded; a page's cell that is stored.
-/
namespace Go.Proofs.Ytfbelaalmdcaaaa
open Go.RowKit
set_option linter.unusedVariables false

theorem load_row {P : Program} {b : Nat} {t : TypeId} {cs : Array Value} {d : TypeDesc} (x : World) (h : RowAt x b t cs) (hu : P.underlying t = some d) (hd : (match d with | .struct _ | .array _ _ => true | _ => false) = true) (hi : (P.info? t).map (·.size) = some cs.size) :
    (Instr.loadAt t (.pointer (some ⟨b, 0, none⟩))).run P x = .ok (.agg cs) x := by
  have h1 := run_loadVar_row (P := P) x b t t cs (0, 0) d h hu hd hi
  simp only [Instr.loadAt, Instr.sureAddr, Sem.run_bind, Sem.run_pure, Result.andThen_ok, h1]

end Go.Proofs.Ytfbelaalmdcaaaa

/-
  The contracts of cmp.Compare, package wal's order, slices.BinarySearchFunc at a log's records.
-/
namespace Go.Proofs.Ytfbelaalmdcaaaa
open Go.RowKit
set_option linter.unusedVariables false

set_option maxRecDepth 4000 in
set_option maxHeartbeats 400000 in
theorem nan9 (x : Nat) (w : World) : Calls Try.prog 71 #[.int .u64 (x : Int)] w fun e w' => e = .returned (.bool false) ∧ w = w' := by
  go_enter Try.func71, Try.ntmps71
  go_wp2
  go_ret
  simp
/-- What Compare answers. -/
def cmpI (x y : Nat) : Int := if x < y then -1 else if y < x then 1 else 0
set_option maxRecDepth 4000 in
set_option maxHeartbeats 400000 in
theorem cmp9 (x y : Nat) (w : World) : Calls Try.prog 55 #[.int .u64 (x : Int), .int .u64 (y : Int)] w fun e w' => e = .returned (.int .i64 (cmpI x y)) ∧ w = w' := by
  have HN := hide (fun z w => nan9 z w)
  unfold cmpI
  by_cases h1 : x < y
  · rw [if_pos h1]
    have i1 : (x : Int) < (y : Int) := by omega
    go_enter Try.func55, Try.ntmps55
    go_wp2_with fail
    refine (HN.out x w).mono ?_
    rintro e w1 ⟨rfl, rfl⟩
    go_wp2_with fail
    refine (HN.out y w).mono ?_
    rintro e w1 ⟨rfl, rfl⟩
    go_wp2
    go_ret
    exact ⟨rfl, rfl⟩
  · rw [if_neg h1]
    by_cases h2 : y < x
    · rw [if_pos h2]
      have i1 : ¬ (x : Int) < (y : Int) := by omega
      have i2 : (y : Int) < (x : Int) := by omega
      go_enter Try.func55, Try.ntmps55
      go_wp2_with fail
      refine (HN.out x w).mono ?_
      rintro e w1 ⟨rfl, rfl⟩
      go_wp2_with fail
      refine (HN.out y w).mono ?_
      rintro e w1 ⟨rfl, rfl⟩
      go_wp2
      go_ret
      exact ⟨rfl, rfl⟩
    · rw [if_neg h2]
      have i1 : ¬ (x : Int) < (y : Int) := by omega
      have i2 : ¬ (y : Int) < (x : Int) := by omega
      go_enter Try.func55, Try.ntmps55
      go_wp2_with fail
      refine (HN.out x w).mono ?_
      rintro e w1 ⟨rfl, rfl⟩
      go_wp2_with fail
      refine (HN.out y w).mono ?_
      rintro e w1 ⟨rfl, rfl⟩
      go_wp2
      go_ret
      exact ⟨rfl, rfl⟩
set_option maxRecDepth 4000 in
set_option maxHeartbeats 400000 in
theorem order9 (r : Rec) (va vb : Value) (n : Nat) (w : World) : Calls Try.prog 41 #[.agg (rcA r va vb), .int .u64 (n : Int)] w fun e w' => e = .returned (.int .i64 (cmpI r.l n)) ∧ Below w.heap.size w w' := by
  have c1 := (RowAt.new w 43 (rcA r va vb)).cell 1 (.int .u64 (r.l : Int)) rfl
  have HB := hide ((Below.refl w.heap.size w).alloc (Nat.le_refl _) (.cells (rcA r va vb) 43))
  have HC := hide (fun w => cmp9 r.l n w)
  generalize cmpI r.l n = c at *
  generalize rcA r va vb = A at *
  go_enter Try.func41, Try.ntmps41
  go_wp2_with fail
  refine (HC.out _).mono ?_
  rintro e w1 ⟨rfl, rfl⟩
  go_wp2
  go_ret
  exact ⟨rfl, HB.out⟩
/-- Where a number stands, or would. -/
theorem cmpI_lt (x y : Nat) : (cmpI x y < 0 ↔ x < y) ∧ (cmpI x y = 0 ↔ x = y) := by
  unfold cmpI
  split
  · constructor <;> omega
  · split
    · constructor <;> omega
    · constructor <;> omega

/-- What the search tells. -/
def Found9 (ms : List Rm) (n : Nat) (w : World) (e : Ending) (w' : World) : Prop := ∃ i : Nat, ∃ q : Bool, e = .returned (.tuple #[.int .i64 (i : Int), .bool q]) ∧ (q = true → i < ms.length ∧ (ms.getD i rcZ).1.l = n) ∧ (q = false → ∀ j, j < ms.length → (ms.getD j rcZ).1.l ≠ n) ∧ Below w.heap.size w w'
set_option maxRecDepth 8000 in
set_option maxHeartbeats 1600000 in
theorem search9_any (a : Option Addr) (cap : Nat) (ms : List Rm) (n : Nat) (w : World) (h : RsIn w (.slice a ms.length cap) ms) (hm : ∀ p q, p < q → q < ms.length → (ms.getD p rcZ).1.l < (ms.getD q rcZ).1.l) (hl : ms.length ≤ 100000) (hcap : ms.length ≤ cap) :
    Calls Try.prog 40 #[.slice a ms.length cap, .int .u64 (n : Int), .func (.func 41) #[] #[]] w (Found9 ms n w) := by
  have H := hide h
  have HM := hide hm
  obtain ⟨ln, hln⟩ : ∃ ln, ln = ms.length := ⟨_, rfl⟩
  rw [← hln] at H HM hl hcap ⊢
  have HLN := hide hln
  clear hln h hm
  go_enter Try.func40, Try.ntmps40
  go_wp2
  go_loopw [9, 10, 11] (fun i j _ wr => ∃ p q : Nat, p ≤ q ∧ q ≤ ln ∧ i = .int .i64 (p : Int) ∧ j = .int .i64 (q : Int) ∧ Hid ((∀ k, k < p → (ms.getD k rcZ).1.l < n) ∧ (∀ k, q ≤ k → k < ln → n ≤ (ms.getD k rcZ).1.l)) ∧ Hid (Below w.heap.size w wr)) (fun i j _ _ => (intOf j).toNat - (intOf i).toNat)
  case atStart => exact ⟨0, ln, Nat.zero_le _, Nat.le_refl _, rfl, rfl, ⟨fun k hk => absurd hk (Nat.not_lt_zero _), fun k h1 h2 => absurd h1 (by omega)⟩, Below.refl _ _⟩
  case round =>
    obtain ⟨p, q, hpq, hq, rfl, rfl, HPQ, HB⟩ := hrel
    by_cases hlt : p < q
    · have ipq : (p : Int) < (q : Int) := by omega
      obtain ⟨hh, hhd⟩ : ∃ hh, hh = (p + q) / 2 := ⟨_, rfl⟩
      have eh : ((p : Int) + (q : Int)) / 2 = (hh : Int) := by omega
      have h1 : p ≤ hh := by omega
      have h2 : hh < q := by omega
      have hhl : (hh : Int) < (ln : Int) := by omega
      obtain ⟨b, off, rfl, hbl, hrg, hft, hin⟩ := H.out.at (i := hh) (by have := HLN.out; omega)
      obtain ⟨m, hm⟩ : ∃ m, m = ms.getD hh rcZ := ⟨_, rfl⟩
      rw [← hm] at hrg
      have HMM := hide hm
      clear hm hft hin hhd
      have HLD := hide (load_mid wr b (off + hh * 14) m (rangeAt_below hrg HB.out hbl))
      clear hrg
      by_cases hlo : m.1.l < n
      · have ilo : cmpI m.1.l n < 0 := (cmpI_lt _ _).1.2 hlo
        have HO := hide (fun w => order9 m.1 m.2.1 m.2.2 n w)
        generalize cmpI m.1.l n = c at *
        go_wp2_with (refine wpList_load_val rfl 43 (.tmp 27) rfl _ _ rfl HLD.out ?_)
        refine (HO.out wr).mono ?_
        rintro e w1 ⟨rfl, hb1⟩
        have HB1 := hide (HB.out.trans (hb1.mono HB.out.size))
        clear hb1 HB HLD HO
        go_wp2
        go_roundw
        case rel =>
          refine ⟨hh + 1, q, by omega, hq, by go_num, rfl, ⟨fun k hk => ?_, HPQ.out.2⟩, HB1.out⟩
          rcases Nat.lt_or_ge k hh with hk2 | hk2
          · have := HM.out k hh hk2 (by omega)
            rw [← HMM.out] at this
            omega
          · obtain rfl : k = hh := by omega
            rw [← HMM.out]
            exact hlo
        case measure => simp [intOf]; omega
      · have ilo : ¬ cmpI m.1.l n < 0 := fun h => hlo ((cmpI_lt _ _).1.1 h)
        have HO := hide (fun w => order9 m.1 m.2.1 m.2.2 n w)
        generalize cmpI m.1.l n = c at *
        go_wp2_with (refine wpList_load_val rfl 43 (.tmp 27) rfl _ _ rfl HLD.out ?_)
        refine (HO.out wr).mono ?_
        rintro e w1 ⟨rfl, hb1⟩
        have HB1 := hide (HB.out.trans (hb1.mono HB.out.size))
        clear hb1 HB HLD HO
        go_wp2
        go_roundw
        case rel =>
          refine ⟨p, hh, h1, by omega, rfl, rfl, ⟨HPQ.out.1, fun k hk hk2 => ?_⟩, HB1.out⟩
          rcases Nat.lt_or_ge hh k with hk3 | hk3
          · have := HM.out hh k hk3 hk2
            rw [← HMM.out] at this
            omega
          · obtain rfl : k = hh := by omega
            rw [← HMM.out]
            omega
        case measure => simp [intOf]; omega
    · obtain rfl : p = q := by omega
      by_cases hpl : p < ln
      · have ipl : (p : Int) < (ln : Int) := by omega
        obtain ⟨b, off, rfl, hbl, hrg, hft, hin⟩ := H.out.at (i := p) (by have := HLN.out; omega)
        obtain ⟨m, hm⟩ : ∃ m, m = ms.getD p rcZ := ⟨_, rfl⟩
        rw [← hm] at hrg
        have HMM := hide hm
        clear hm hft hin
        have HLD := hide (load_mid wr b (off + p * 14) m (rangeAt_below hrg HB.out hbl))
        clear hrg
        have HO := hide (fun w => order9 m.1 m.2.1 m.2.2 n w)
        by_cases heq : m.1.l = n
        · have ieq : (cmpI m.1.l n == 0) = true := by rw [beq_iff_eq]; exact (cmpI_lt _ _).2.2 heq
          generalize cmpI m.1.l n = c at *
          go_wp2_with (refine wpList_load_val rfl 43 (.tmp 43) rfl _ _ rfl HLD.out ?_)
          refine (HO.out wr).mono ?_
          rintro e w1 ⟨rfl, hb1⟩
          have HB1 := hide (HB.out.trans (hb1.mono HB.out.size))
          clear hb1 HB HLD HO
          go_wp2
          go_ret2
          exact ⟨p, true, rfl, fun _ => ⟨by have := HLN.out; omega, by rw [← HMM.out]; exact heq⟩, fun h => (nomatch h), HB1.out⟩
        · have ieq : (cmpI m.1.l n == 0) = false := by rw [beq_eq_false_iff_ne]; exact fun h => heq ((cmpI_lt _ _).2.1 h)
          generalize cmpI m.1.l n = c at *
          go_wp2_with (refine wpList_load_val rfl 43 (.tmp 43) rfl _ _ rfl HLD.out ?_)
          refine (HO.out wr).mono ?_
          rintro e w1 ⟨rfl, hb1⟩
          have HB1 := hide (HB.out.trans (hb1.mono HB.out.size))
          clear hb1 HB HLD HO
          go_wp2
          go_ret2
          refine ⟨p, false, rfl, fun h => (nomatch h), fun _ j hj => ?_, HB1.out⟩
          rcases Nat.lt_trichotomy j p with h3 | h3 | h3
          · have := HPQ.out.1 j h3
            omega
          · rw [h3, ← HMM.out]
            exact heq
          · have h4 := HM.out p j h3 (by have := HLN.out; omega)
            have h5 := HPQ.out.2 p (Nat.le_refl _) hpl
            omega
      · have ipl : ¬ (p : Int) < (ln : Int) := by omega
        go_wp2
        go_ret2
        refine ⟨p, false, rfl, fun h => (nomatch h), fun _ j hj => ?_, HB.out⟩
        have := HPQ.out.1 j (by have := HLN.out; omega)
        omega
end Go.Proofs.Ytfbelaalmdcaaaa

/-
  The contract of slices.Delete at a log's records: the first ones are gone, the others moved to the row's beginning.
-/
namespace Go.Proofs.Ytfbelaalmdcaaaa
open Go.RowKit
set_option linter.unusedVariables false

theorem zeros_one (n : Nat) : ∀ v ∈ (Builtin.zeroCells zeroA n).toList, v.oneCell' = true := by
  intro v hv
  simp only [Builtin.zeroCells, Array.toList_map, List.mem_map] at hv
  obtain ⟨i, _, rfl⟩ := hv
  have h : zeroA.size = 14 := rfl
  rw [h]
  have h2 : i % 14 < 14 := Nat.mod_lt _ (by decide)
  generalize i % 14 = j at h2
  have h3 : j = 0 ∨ j = 1 ∨ j = 2 ∨ j = 3 ∨ j = 4 ∨ j = 5 ∨ j = 6 ∨ j = 7 ∨ j = 8 ∨ j = 9 ∨ j = 10 ∨ j = 11 ∨ j = 12 ∨ j = 13 := by omega
  rcases h3 with rfl | rfl | rfl | rfl | rfl | rfl | rfl | rfl | rfl | rfl | rfl | rfl | rfl | rfl <;> rfl
theorem zeros_len (n : Nat) : (Builtin.zeroCells zeroA n).toList.length = n * 14 := by
  simp [Builtin.zeroCells, show zeroA.size = 14 from rfl]
/-- 'clear' of records. -/
theorem run_clear9 (w : World) (ty : TypeId) (b o n c : Nat) (hn : 0 < n) (hc : ∀ j, j < n * 14 → (w.cell? ⟨b, o + j, none⟩).isSome = true) (hf : ∀ j, w.frozen? ⟨b, j, none⟩ = false) :
    (Builtin.clear_ #[29] ty #[.slice (some ⟨b, o, none⟩) n c]).run Try.prog w = .ok (.tuple #[]) (w.setCells b o (Builtin.zeroCells zeroA n).toList) := by
  have hst := run_storeCells_cells (P := Try.prog) b o (Builtin.zeroCells zeroA n).toList 0 w (by rw [zeros_len]; simpa using hc) (fun j _ => by simpa using hf _) (zeros_one n)
  simp only [Nat.add_zero] at hst
  obtain ⟨m, rfl⟩ : ∃ m, n = m + 1 := ⟨n - 1, by omega⟩
  simp [Builtin.clear_, run_underlying (P := Try.prog) Try.underlying29]
  change ((Sem.run Try.prog (storeCells ⟨b, o, none⟩ (Builtin.zeroCells zeroA (m + 1)).toList) w).andThen fun a w' => Result.ok (Value.tuple #[]) w') = _
  rw [hst]
  rfl

set_option maxRecDepth 4000 in
set_option maxHeartbeats 800000 in
theorem del9_zero (a : Option Addr) (n cap : Nat) (w : World) (hc : n ≤ cap) :
    Calls Try.prog 44 #[.slice a n cap, .int .i64 0, .int .i64 0] w fun e w' => e = .returned (.slice a n cap) ∧ w = w' := by
  cases a with
  | none =>
    go_enter Try.func44, Try.ntmps44
    go_wp2
    go_ret
    exact ⟨rfl, rfl⟩
  | some a =>
    go_enter Try.func44, Try.ntmps44
    go_wp2
    all_goals
      go_ret
      exact ⟨rfl, rfl⟩
/-- What is left behind the moving and the zeros. -/
theorem RB.deleted {B : Nat} {w : World} {b off cap : Nat} {ms : List Rm} (h : RB B w (some ⟨b, off, none⟩) cap ms) (k : Nat) (hk : k ≤ ms.length) :
    RB B ((w.drew.setCells b (off + 0 * 14) (flatR (ms.drop k))).setCells b (off + (ms.length - k) * 14) (Builtin.zeroCells zeroA (ms.length - (ms.length - k))).toList) (some ⟨b, off, none⟩) cap (ms.drop k) ∧
    Tn (blk (some ⟨b, off, none⟩)) w ((w.drew.setCells b (off + 0 * 14) (flatR (ms.drop k))).setCells b (off + (ms.length - k) * 14) (Builtin.zeroCells zeroA (ms.length - (ms.length - k))).toList) := by
  have hL := h.loose
  have hT : Tn (blk (some ⟨b, off, none⟩)) w ((w.drew.setCells b (off + 0 * 14) (flatR (ms.drop k))).setCells b (off + (ms.length - k) * 14) (Builtin.zeroCells zeroA (ms.length - (ms.length - k))).toList) :=
    ((Tn.refl _ w).drew.then (setCells_tn _ _ _ b _ ⟨off, rfl⟩)).then (setCells_tn _ _ _ b _ ⟨off, rfl⟩)
  refine ⟨⟨?_, fun m hm => ⟨(h.2 m (List.mem_of_mem_drop hm)).1, (h.2 m (List.mem_of_mem_drop hm)).2.keep hL hT⟩⟩, hT⟩
  rcases h.1 with ⟨h1, _⟩ | ⟨b', off', cs, h1, h2, h3, h4, h5, h6⟩
  · cases h1
  · injection h1 with h1
    injection h1 with h1 h7
    subst h1 h7
    have h3' : RowAt w.drew b 43 cs := h3
    obtain ⟨ds, d1, d2⟩ := setCells_row (flatR (ms.drop k)) (off + 0 * 14) w.drew b _ cs h3'
    obtain ⟨es, e1, e2⟩ := setCells_row (Builtin.zeroCells zeroA (ms.length - (ms.length - k))).toList (off + (ms.length - k) * 14) _ b _ ds d1
    have hfl : (flatR (ms.drop k)).length = (ms.length - k) * 14 := by rw [flatR, flat_length rcF 14 (fun _ => rfl), List.length_drop]
    refine .inr ⟨b, off, es, rfl, h2, e1, by omega, by rw [List.length_drop]; omega, fun i hi j u hu => ?_⟩
    rw [List.length_drop] at hi
    have hj : j < 14 := (List.getElem?_eq_some_iff.1 hu).1
    rw [World.cell?_setCells_out b _ _ _ _ (fun _ _ => .inl (by show off + i * 14 + j < off + (ms.length - k) * 14; omega))]
    have hin := World.cell?_setCells_in b (flatR (ms.drop k)) (off + 0 * 14) w.drew (fun q hq => by
      rw [hfl] at hq
      rw [cell_of_row _ _ _ _ _ _ h3', Array.getElem?_eq_getElem (by omega)]
      rfl) (i * 14 + j) (by rw [hfl]; omega)
    rw [show off + 0 * 14 + (i * 14 + j) = off + i * 14 + j by omega] at hin
    rw [hin, ← List.getElem?_eq_getElem, flatR, flat_get rcF 14 (fun _ => rfl) rcZ (ms.drop k) i j (by rw [List.length_drop]; omega) hj]
    exact hu
/-- The cells that are moved. -/
theorem RB.flat {B : Nat} {w : World} {b off cap : Nat} {ms : List Rm} (h : RB B w (some ⟨b, off, none⟩) cap ms) (k : Nat) (hk : k ≤ ms.length) : ∀ j u, (flatR (ms.drop k))[j]? = some u → w.cell? ((⟨b, off + k * 14, none⟩ : Addr).add j) = some u := by
  intro j u hu
  rcases h.1 with ⟨h1, _⟩ | ⟨b', off', cs, h1, _, _, _, _, h6⟩
  · cases h1
  · injection h1 with h1
    injection h1 with h1 h7
    subst h1 h7
    have hj : j < (ms.length - k) * 14 := by
      have := (List.getElem?_eq_some_iff.1 hu).1
      rwa [flatR, flat_length rcF 14 (fun _ => rfl), List.length_drop] at this
    have h4 := flat_get rcF 14 (fun _ => rfl) rcZ (ms.drop k) (j / 14) (j % 14) (by rw [List.length_drop]; omega) (by omega)
    rw [show j / 14 * 14 + j % 14 = j by omega] at h4
    have e : (ms.drop k).getD (j / 14) rcZ = ms.getD (k + j / 14) rcZ := by
      rw [List.getD_eq_getElem?_getD, List.getD_eq_getElem?_getD, List.getElem?_drop]
    rw [e] at h4
    have h5 := h6 (k + j / 14) (by omega) (j % 14) u (by rw [← h4]; exact hu)
    rw [Addr.add_lit]
    rwa [show off + (k + j / 14) * 14 + j % 14 = off + k * 14 + j by omega] at h5
theorem flat_one {B : Nat} {w : World} {a : Option Addr} {cap : Nat} {ms : List Rm} (h : RB B w a cap ms) : ∀ u ∈ flatR ms, u.oneCell' = true := by
  intro u hu
  obtain ⟨m, hm, hu⟩ := List.mem_flatMap.1 hu
  exact rcF_one m (rc_one (h.2 m hm).2.rc) u hu

set_option maxRecDepth 8000 in
set_option maxHeartbeats 1600000 in
theorem del9_some (B : Nat) (w : World) (b off cap : Nat) (ms : List Rm) (h : RB B w (some ⟨b, off, none⟩) cap ms) (k : Nat) (hk : k ≤ ms.length) (h0 : 0 < k) (hl : ms.length ≤ 100000) :
    Calls Try.prog 44 #[.slice (some ⟨b, off, none⟩) ms.length cap, .int .i64 0, .int .i64 (k : Int)] w fun e w' => e = .returned (.slice (some ⟨b, off, none⟩) (ms.length - k) cap) ∧ RB B w' (some ⟨b, off, none⟩) cap (ms.drop k) ∧ Tn (blk (some ⟨b, off, none⟩)) w w' := by
  obtain ⟨i, hi0, hi1⟩ := Option.map_eq_some_iff.1 infoRc3
  simp only [Prod.mk.injEq] at hi1
  have hcap := h.cap
  have HD := hide (h.deleted k hk)
  have hfl : (flatR (ms.drop k)).length = (ms.length - k) * 14 := by rw [flatR, flat_length rcF 14 (fun _ => rfl), List.length_drop]
  have hone : ∀ u ∈ flatR (ms.drop k), u.oneCell' = true := fun u hu => by
    obtain ⟨m, hm, hu⟩ := List.mem_flatMap.1 hu
    exact flat_one h u (List.mem_flatMap.2 ⟨m, List.mem_of_mem_drop hm, hu⟩)
  have hflat := h.flat k hk
  obtain ⟨cs, hrow, hcs⟩ : ∃ cs, RowAt w b 43 cs ∧ off + cap * 14 ≤ cs.size := by
    rcases h.1 with ⟨h1, _⟩ | ⟨b', off', cs, h1, _, h3, h4, _⟩
    · cases h1
    · injection h1 with h1
      injection h1 with h1 h7
      subst h1 h7
      exact ⟨cs, h3, h4⟩
  have hrow' : RowAt w.drew b 43 cs := hrow
  have hc : ∀ j, j < (flatR (ms.drop k)).length → (w.drew.cell? ⟨b, off + 0 * i.size + j, none⟩).isSome = true := fun j hj => by
    rw [hfl] at hj
    rw [hi1.2.1, cell_of_row _ _ _ _ _ _ hrow', Array.getElem?_eq_getElem (by omega)]
    rfl
  have happ : ∀ ad c, (∀ j u, (flatR (ms.drop k))[j]? = some u → w.drew.cell? (Addr.add ad j) = some u) → (Builtin.append_ #[29, 29] 29 #[.slice (some ⟨b, off, none⟩) 0 cap, .slice (some ad) (ms.length - k) c]).run Try.prog w.drew = .ok (.slice (some ⟨b, off, none⟩) (0 + (ms.length - k)) cap) (w.drew.setCells b (off + 0 * 14) (flatR (ms.drop k))) := fun ad c hcl => by
    have r1 := run_append_room_cells (P := Try.prog) w.drew 29 29 43 i Try.underlying29 hi0 b off 0 cap ad (ms.length - k) c (flatR (ms.drop k)) (by rw [hfl, hi1.2.1]) hcl hone (by omega) hc (fun j _ => hrow'.free _)
    rw [hi1.2.1] at r1
    exact r1
  obtain ⟨ds, d1, d2⟩ := setCells_row (flatR (ms.drop k)) (off + 0 * 14) w.drew b _ cs hrow'
  have hcl : ∀ ty, (Builtin.clear_ #[29] ty #[.slice (some ⟨b, off + (ms.length - k) * 14, none⟩) (ms.length - (ms.length - k)) (cap - (ms.length - k))]).run Try.prog (w.drew.setCells b (off + 0 * 14) (flatR (ms.drop k))) = .ok (.tuple #[]) ((w.drew.setCells b (off + 0 * 14) (flatR (ms.drop k))).setCells b (off + (ms.length - k) * 14) (Builtin.zeroCells zeroA (ms.length - (ms.length - k))).toList) := fun ty =>
    run_clear9 _ ty b (off + (ms.length - k) * 14) (ms.length - (ms.length - k)) (cap - (ms.length - k)) (by omega) (fun j hj => by
      rw [cell_of_row _ _ _ _ _ _ d1, Array.getElem?_eq_getElem (by omega)]
      rfl) (fun j => d1.free j)
  obtain ⟨W1, hW1⟩ : ∃ W1, W1 = w.drew.setCells b (off + 0 * 14) (flatR (ms.drop k)) := ⟨_, rfl⟩
  rw [← hW1] at hcl HD happ
  obtain ⟨W2, hW2⟩ : ∃ W2, W2 = W1.setCells b (off + (ms.length - k) * 14) (Builtin.zeroCells zeroA (ms.length - (ms.length - k))).toList := ⟨_, rfl⟩
  rw [← hW2] at hcl HD
  have HE := hide (fun (e : cap = k) => show ms.drop k = [] from List.eq_nil_of_length_eq_zero (by rw [List.length_drop]; omega))
  clear hW1 hW2 d1 d2 hc hrow hrow' hone hfl h hi1 hi0
  generalize ms.length = n at *
  have e1 : ((0 : Int) == (k : Int)) = false := by
    rw [beq_eq_false_iff_ne]
    omega
  have e2 : (k : Int) ≤ (n : Int) := by omega
  have e3 : (n : Int) ≤ (cap : Int) := by omega
  have e4 : (k : Int) ≤ (cap : Int) := by omega
  have e5 : ¬ cap = n - k := by omega
  have e6 : ((n - k : Nat) : Int) ≤ (n : Int) := by omega
  have HAP := hide happ
  by_cases hck : cap = k
  · have q1 := HAP.out ⟨b, off, none⟩ (cap - k) (fun j u hu => by
      rw [HE.out hck] at hu
      cases hu)
    clear happ HAP hflat HE
    subst hck
    obtain rfl : n = cap := by omega
    simp only [Nat.sub_self, Nat.zero_mul, Nat.add_zero, Nat.sub_zero] at q1 hcl HD ⊢
    have e7 : ¬ n = 0 := by omega
    clear e5 e6
    go_enter Try.func44, Try.ntmps44
    go_wp2_with fail
    go_region_law (refine step_append_run rfl (.tmp 22) (.tmp 25) 29 29 rfl (.slice (some ⟨b, off, none⟩) 0 n) (.slice (some ⟨b, off, none⟩) 0 0) (.slice (some ⟨b, off, none⟩) 0 n) W1 ?h1 ?h2 q1 ?_; (case h1 => simp [Act.eval, Act.put]); (case h2 => simp [Act.eval, Act.put]))
    go_wp2
    go_ret
    exact ⟨rfl, HD.out⟩
  · have q1 := HAP.out ⟨b, off + k * 14, none⟩ (cap - k) hflat
    clear happ HAP hflat HE
    go_enter Try.func44, Try.ntmps44
    go_wp2_with fail
    go_region_law (refine step_append_run rfl (.tmp 22) (.tmp 25) 29 29 rfl (.slice (some ⟨b, off, none⟩) 0 cap) (.slice (some ⟨b, off + k * 14, none⟩) (n - k) (cap - k)) (.slice (some ⟨b, off, none⟩) (0 + (n - k)) cap) W1 ?h1 ?h2 q1 ?_; (case h1 => simp [Act.eval, Act.put]); (case h2 => simp [Act.eval, Act.put]))
    go_wp2
    go_ret
    exact ⟨rfl, HD.out⟩
/-- The first k records are deleted. -/
theorem del9_any (B : Nat) (w : World) (a : Option Addr) (cap : Nat) (ms : List Rm) (h : RB B w a cap ms) (k : Nat) (hk : k ≤ ms.length) (hl : ms.length ≤ 100000) :
    Calls Try.prog 44 #[.slice a ms.length cap, .int .i64 0, .int .i64 (k : Int)] w fun e w' => e = .returned (.slice a (ms.length - k) cap) ∧ RB B w' a cap (ms.drop k) ∧ Tn (blk a) w w' := by
  by_cases h0 : k = 0
  · subst h0
    refine (del9_zero a ms.length cap w h.cap).mono ?_
    rintro e w' ⟨rfl, rfl⟩
    exact ⟨rfl, h, Tn.refl _ _⟩
  · rcases h.1 with ⟨_, rfl, _⟩ | ⟨b, off, cs, rfl, _⟩
    · simp at hk
      exact absurd hk h0
    · exact del9_some B w b off cap ms h k hk (by omega) hl
end Go.Proofs.Ytfbelaalmdcaaaa

/-
  The contract of the code's Cut.
-/
namespace Go.Proofs.Ytfbelaalmdcaaaa
open Go.RowKit
set_option linter.unusedVariables false

set_option maxRecDepth 4000 in
set_option maxHeartbeats 800000 in
theorem cut8_no (gt gb : Nat) (t : Tp) (n : Int) (w : World) (h : TpAt w gt gb t) (hn : n < 0 ∨ (t.f : Int) < n) :
    Calls Try.prog 43 #[.pointer (some ⟨gt, 0, none⟩), .int .i64 n] w fun e w' => e = .returned (.int .i64 1) ∧ w = w' := by
  obtain ⟨cap, a, h⟩ := h
  have c1 := h.1.cell 1 _ rfl
  clear h
  by_cases h1 : n < 0
  · clear hn
    go_enter Try.func43, Try.ntmps43
    go_wp2
    go_ret
    exact ⟨rfl, rfl⟩
  · have h2 : (t.f : Int) < n := by omega
    clear hn
    go_enter Try.func43, Try.ntmps43
    go_wp2
    go_ret
    exact ⟨rfl, rfl⟩

/-- The rest moves to the front. -/
theorem TpV.move {w : World} {gt gb cap : Nat} {a : Option Addr} {t : Tp} (h : TpV w gt gb cap a t) (n : Nat) (hn : n ≤ t.b.size) (a2 : Option Addr) (c2 m : Nat) (hm : t.b.size - n = m) (hs : m = 0 ∨ a = some ⟨gb, 0, none⟩ ∧ a2 = some ⟨gb, n, none⟩) :
    ∃ w2, (Builtin.copy_ #[60, 60] 3 #[.slice a t.b.size cap, .slice a2 m c2]).run Try.prog w = .ok (.int .i64 (m : Int)) w2 ∧ RowAt w2 gt 69 #[.slice a t.b.size cap, .int .i64 (t.f : Int), .int .u64 (t.s : Int), .int .i64 (t.m : Int)] ∧ Turn gt gb w w2 ∧ TpV (w2.setCell ⟨gt, 0, none⟩ (.slice a m cap)) gt gb cap a { t with b := t.b.extract n t.b.size } := by
  subst hm
  have hz : (t.b.extract n t.b.size).size = t.b.size - n := by rw [ByteArray.size_extract]; omega
  have hd : (t.b.extract n t.b.size).data.toList = t.b.data.toList.drop n := by
    have e := extract_eq t.b n (t.b.size - n) (by omega)
    rw [show n + (t.b.size - n) = t.b.size by omega] at e
    rw [e]
    exact List.take_of_length_le (by rw [List.length_drop, data_length]; omega)
  have fin : ∀ w2, RowAt w2 gt 69 #[.slice a t.b.size cap, .int .i64 (t.f : Int), .int .u64 (t.s : Int), .int .i64 (t.m : Int)] → (w2.setCell ⟨gt, 0, none⟩ (.slice a (t.b.size - n) cap)).ownsRow 0 5 1 (.slice a (t.b.size - n) cap) (t.b.size - n) (toV (t.b.data.toList.drop n)) → TpV (w2.setCell ⟨gt, 0, none⟩ (.slice a (t.b.size - n) cap)) gt gb cap a { t with b := t.b.extract n t.b.size } := by
    intro w2 h1 h2
    refine ⟨?_, ?_, h.2.2⟩
    · show RowAt _ gt _ #[.slice a (t.b.extract n t.b.size).size cap, _, _, _]
      rw [hz]
      exact RowAt.set h1 0 _
    · show World.ownsRow _ 0 _ 1 (.slice a (t.b.extract n t.b.size).size cap) (t.b.extract n t.b.size).size (toV (t.b.extract n t.b.size).data.toList)
      rw [hz, hd]
      exact h2
  have hdl : (t.b.data.toList.drop n).length = t.b.size - n := by rw [List.length_drop, data_length]
  rcases Nat.eq_zero_or_pos (t.b.size - n) with h0 | hp
  · refine ⟨w, ?_, h.1, Turn.refl _ _ _, fin w h.1 ?_⟩
    · rw [h0]
      exact run_copy_none (P := Try.prog) w 60 60 3 5 a a2 t.b.size cap 0 c2 Try.underlying60 info8s (Nat.zero_min _)
    · have hnil : t.b.data.toList.drop n = [] := List.eq_nil_of_length_eq_zero (by omega)
      rw [h0, hnil]
      rcases h.own with ⟨rfl, _, _, rfl⟩ | ⟨rfl, h2, h3, h4, h5, cur, h6, h7, h8⟩
      · exact World.ownsRow_nil _ _ _ _
      · exact ⟨rfl, .inr ⟨gb, cap, cur, rfl, Nat.zero_le _, (heap_setCell_other w ⟨gt, 0, none⟩ gb _ (fun e => h2 e.symm)).trans h6, Nat.zero_le _, h5, by simpa using h7, by simp [toV]⟩⟩
  · obtain ⟨ha, rfl⟩ : a = some ⟨gb, 0, none⟩ ∧ a2 = some ⟨gb, n, none⟩ := by
      rcases hs with h1 | h1
      · omega
      · exact h1
    rcases h.own with ⟨e, _⟩ | ⟨_, h2, h3, h4, h5, cur, h6, h7, h8⟩
    · rw [ha] at e
      cases e
    subst ha
    have hB := h.isB
    have r1 := run_copy_row Try.prog w 60 60 3 5 gb 0 t.b.size cap ⟨gb, n, none⟩ (t.b.size - n) c2 cur 5 (toV (t.b.data.toList.drop n)) Try.underlying60 info8s h6 (by rw [toV_length, hdl]; exact (Nat.min_eq_left (Nat.sub_le _ _)).symm) (fun j v hv => by
      obtain ⟨g1, rfl⟩ := toV_some _ j v hv
      rw [Addr.add_lit]
      obtain ⟨b', off', hb', _, hc⟩ := hB.2 (by omega)
      cases hb'
      have := hc (n + j) (by omega)
      rw [Nat.zero_add] at this
      rw [this]
      simp only [List.getD_eq_getElem?_getD, List.getElem?_drop]) (by rw [toV_length, hdl, h7]; omega) (toV_one _)
    rw [toV_length, hdl] at r1
    refine ⟨_, r1, (setRow_other w gb gt _ h2).trans h.1, ⟨rfl, rfl, rfl, by simp, fun k _ _ hk => setRow_other w gb k _ hk⟩, fin _ ((setRow_other w gb gt _ h2).trans h.1) ⟨by rw [toV_length, hdl, Nat.mul_one], .inr ⟨gb, cap, _, rfl, Nat.zero_le _, (heap_setCell_other _ ⟨gt, 0, none⟩ gb _ (fun e => h2 e.symm)).trans (setRow_heap w gb cur _ 5 _ h6), by omega, h5, ?_, ?_⟩⟩⟩
    · simp only [List.size_toArray, List.length_append, List.length_take, List.length_drop, Array.length_toList, toV_length, h7]
      have := data_length t.b
      rw [Array.length_toList] at this
      omega
    · rw [Nat.mul_one]
      simp only [List.take_zero, List.nil_append]
      have e2 : t.b.size - n = (toV (t.b.data.toList.drop n)).length := by rw [toV_length, hdl]
      rw [e2]
      exact List.take_left

theorem TpV.sets {w : World} {gt gb cap : Nat} {a : Option Addr} {t : Tp} (h : TpV w gt gb cap a t) (s : Int) (n : Nat) (hf : s = (n : Int)) : TpV (w.setCell ⟨gt, 2, none⟩ (.int .u64 s)) gt gb cap a { t with s := n } := by
  subst hf
  refine ⟨RowAt.set h.1 2 _, ?_, h.2.2⟩
  rcases h.own with ⟨rfl, _, h2, rfl⟩ | ⟨rfl, h2, h3, h4, h5, cur, h6, h7, h8⟩
  · show World.ownsRow _ 0 5 1 (.slice none t.b.size 0) t.b.size (toV t.b.data.toList)
    have hd : t.b.data.toList = [] := List.eq_nil_of_length_eq_zero (by rw [data_length, h2])
    rw [h2, hd]
    exact World.ownsRow_nil _ _ _ _
  · exact ⟨h.2.1.1, .inr ⟨gb, cap, cur, rfl, Nat.zero_le _, (heap_setCell_other w ⟨gt, 2, none⟩ gb _ (fun e => h2 e.symm)).trans h6, h4, h5, by simpa using h7, by simpa using h8⟩⟩

/-- What Cut leaves of a tape. -/
theorem TpV.cut {w2 : World} {gt gb cap m : Nat} {a : Option Addr} {t : Tp} {n : Nat} (h : TpV (w2.setCell ⟨gt, 0, none⟩ (.slice a m cap)) gt gb cap a { t with b := t.b.extract n t.b.size }) (f s : Int) (hf : f = ((t.f - n : Nat) : Int)) (hs : s = (((t.s + n) % 18446744073709551616 : Nat) : Int)) :
    TpV (((w2.setCell ⟨gt, 0, none⟩ (.slice a m cap)).setCell ⟨gt, 1, none⟩ (.int .i64 f)).setCell ⟨gt, 2, none⟩ (.int .u64 s)) gt gb cap a ⟨t.b.extract n t.b.size, t.f - n, t.m, (t.s + n) % 18446744073709551616⟩ := (h.setf f _ hf).sets s _ hs

set_option maxRecDepth 4000 in
set_option maxHeartbeats 1600000 in
theorem cut8_go (gt gb cap : Nat) (a : Option Addr) (t : Tp) (n : Nat) (w : World) (h : TpV w gt gb cap a t) (ok : t.ok) (hn : n ≤ t.f) (hc : ¬ cap = n) (hcap : t.b.size ≤ cap) (ha : a = some ⟨gb, 0, none⟩) :
    Calls Try.prog 43 #[.pointer (some ⟨gt, 0, none⟩), .int .i64 (n : Int)] w fun e w' => e = .returned (.int .i64 0) ∧ TpAt w' gt gb ⟨t.b.extract n t.b.size, t.f - n, t.m, (t.s + n) % 18446744073709551616⟩ ∧ Turn gt gb w w' := by
  subst ha
  have h3 : n ≤ t.b.size := Nat.le_trans hn ok.fast
  have hz := ok.few
  have hy := ok.room
  have hx := ok.fast
  have hs := ok.went
  obtain ⟨w2, q1, q2, q3, q4⟩ := h.drew.move n h3 (some ⟨gb, n, none⟩) (cap - n) (t.b.size - n) rfl (.inr ⟨rfl, rfl⟩)
  have H := hide (And.intro q3 q4)
  have c0 := h.1.cell 0 (.slice (some ⟨gb, 0, none⟩) t.b.size cap) rfl
  have c1 := h.1.cell 1 _ rfl
  have d0 := q2.cell 0 (.slice (some ⟨gb, 0, none⟩) t.b.size cap) rfl
  have d1 := q2.cell 1 _ rfl
  have d2 := q2.cell 2 _ rfl
  have e0 := q2.free 0
  have e1 := q2.free 1
  have e2 := q2.free 2
  have h1 : ¬ (n : Int) < 0 := by omega
  have h2 : ¬ (t.f : Int) < (n : Int) := by omega
  have q5 : (Builtin.copy_ #[60, 60] 3 #[.slice (some ⟨gb, 0, none⟩) t.b.size cap, .slice (some ⟨gb, n, none⟩) (t.b.size - n) (cap - n)]).run Try.prog w.drew = .ok (.int .i64 ((t.b.size - n : Nat) : Int)) w2 := by
    first | exact q1 | (rw [hsz] at q1; exact q1)
  clear h ok q2 q3 q4 q1
  go_enter Try.func43, Try.ntmps43
  go_wp2_with fail
  go_region_law (refine step_copy_run rfl (.tmp 23) (.tmp 29) 60 60 rfl (.slice (some ⟨gb, 0, none⟩) t.b.size cap) (.slice (some ⟨gb, n, none⟩) (t.b.size - n) (cap - n)) (.int .i64 ((t.b.size - n : Nat) : Int)) w2 ?h1 ?h2 q5 ?_; (case h1 => simp [Act.eval, Act.put]); (case h2 => simp [Act.eval, Act.put]))
  all_goals
    go_wp2
    go_ret
    exact ⟨rfl, ⟨cap, _, H.out.2.cut _ _ (by omega) (by rw [IntKind.wrap_u64]; omega)⟩, (((((Turn.refl gt gb w).drew).trans H.out.1).set 0 _).set 1 _).set 2 _⟩

set_option maxRecDepth 4000 in
set_option maxHeartbeats 1600000 in
theorem cut8_full (gt gb : Nat) (t : Tp) (n : Nat) (w : World) (h : TpV w gt gb n (some ⟨gb, 0, none⟩) t) (ok : t.ok) (hn : n ≤ t.f) (hsz : t.b.size = n) :
    Calls Try.prog 43 #[.pointer (some ⟨gt, 0, none⟩), .int .i64 (n : Int)] w fun e w' => e = .returned (.int .i64 0) ∧ TpAt w' gt gb ⟨t.b.extract n t.b.size, t.f - n, t.m, (t.s + n) % 18446744073709551616⟩ ∧ Turn gt gb w w' := by
  have hz := ok.few
  have hy := ok.room
  have hx := ok.fast
  have hs := ok.went
  obtain ⟨w2, q1, q2, q3, q4⟩ := h.drew.move n (by omega) (some ⟨gb, 0, none⟩) 0 0 (by omega) (.inl rfl)
  have H := hide (And.intro q3 q4)
  have c0 := h.1.cell 0 (.slice (some ⟨gb, 0, none⟩) n n) (by rw [hsz]; rfl)
  have c1 := h.1.cell 1 _ rfl
  have d0 := q2.cell 0 (.slice (some ⟨gb, 0, none⟩) n n) (by rw [hsz]; rfl)
  have d1 := q2.cell 1 _ rfl
  have d2 := q2.cell 2 _ rfl
  have e0 := q2.free 0
  have e1 := q2.free 1
  have e2 := q2.free 2
  have h1 : ¬ (n : Int) < 0 := by omega
  have h2 : ¬ (t.f : Int) < (n : Int) := by omega
  have q5 : (Builtin.copy_ #[60, 60] 3 #[.slice (some ⟨gb, 0, none⟩) n n, .slice (some ⟨gb, 0, none⟩) 0 0]).run Try.prog w.drew = .ok (.int .i64 (0)) w2 := by
    first | exact q1 | (rw [hsz] at q1; exact q1)
  have HS := hide hsz
  clear h ok q2 q3 q4 q1 hsz
  go_enter Try.func43, Try.ntmps43
  go_wp2_with fail
  go_region_law (refine step_copy_run rfl (.tmp 23) (.tmp 29) 60 60 rfl (.slice (some ⟨gb, 0, none⟩) n n) (.slice (some ⟨gb, 0, none⟩) 0 0) (.int .i64 (0)) w2 ?h1 ?h2 q5 ?_; (case h1 => simp [Act.eval, Act.put]); (case h2 => simp [Act.eval, Act.put]))
  all_goals
    go_wp2
    go_ret
    exact ⟨rfl, ⟨n, _, H.out.2.cut _ _ (by have := HS.out; omega) (by rw [IntKind.wrap_u64]; omega)⟩, (((((Turn.refl gt gb w).drew).trans H.out.1).set 0 _).set 1 _).set 2 _⟩

set_option maxRecDepth 4000 in
set_option maxHeartbeats 1600000 in
theorem cut8_none (gt gb : Nat) (t : Tp) (w : World) (h : TpV w gt gb 0 none t) (ok : t.ok) (hsz : t.b.size = 0) :
    Calls Try.prog 43 #[.pointer (some ⟨gt, 0, none⟩), .int .i64 (0 : Int)] w fun e w' => e = .returned (.int .i64 0) ∧ TpAt w' gt gb ⟨t.b.extract 0 t.b.size, t.f - 0, t.m, (t.s + 0) % 18446744073709551616⟩ ∧ Turn gt gb w w' := by
  have hz := ok.few
  have hy := ok.room
  have hx := ok.fast
  have hs := ok.went
  obtain ⟨w2, q1, q2, q3, q4⟩ := h.drew.move 0 (by omega) none 0 0 (by omega) (.inl rfl)
  have H := hide (And.intro q3 q4)
  have c0 := h.1.cell 0 (.slice none 0 0) (by rw [hsz]; rfl)
  have c1 := h.1.cell 1 _ rfl
  have d0 := q2.cell 0 (.slice none 0 0) (by rw [hsz]; rfl)
  have d1 := q2.cell 1 _ rfl
  have d2 := q2.cell 2 _ rfl
  have e0 := q2.free 0
  have e1 := q2.free 1
  have e2 := q2.free 2
  have h1 : ¬ (0 : Int) < 0 := by omega
  have h2 : ¬ (t.f : Int) < (0 : Int) := by omega
  have q5 : (Builtin.copy_ #[60, 60] 3 #[.slice none 0 0, .slice none 0 0]).run Try.prog w.drew = .ok (.int .i64 (0)) w2 := by
    first | exact q1 | (rw [hsz] at q1; exact q1)
  have HS := hide hsz
  clear h ok q2 q3 q4 q1 hsz
  go_enter Try.func43, Try.ntmps43
  go_wp2_with fail
  go_region_law (refine step_copy_run rfl (.tmp 23) (.tmp 29) 60 60 rfl (.slice none 0 0) (.slice none 0 0) (.int .i64 (0)) w2 ?h1 ?h2 q5 ?_; (case h1 => simp [Act.eval, Act.put]); (case h2 => simp [Act.eval, Act.put]))
  all_goals
    go_wp2
    go_ret
    exact ⟨rfl, ⟨0, _, H.out.2.cut _ _ (by have := HS.out; omega) (by omega)⟩, (((((Turn.refl gt gb w).drew).trans H.out.1).set 0 _).set 1 _).set 2 _⟩

theorem cut8_any (gt gb : Nat) (t : Tp) (n : Int) (w : World) (h : TpAt w gt gb t) (ok : t.ok) :
    Calls Try.prog 43 #[.pointer (some ⟨gt, 0, none⟩), .int .i64 n] w fun e w' => e = .returned (.int .i64 (t.cut n).2) ∧ TpAt w' gt gb (t.cut n).1 ∧ Turn gt gb w w' := by
  unfold Tp.cut
  by_cases hn : n < 0 ∨ (t.f : Int) < n
  · rw [if_pos hn]
    refine (cut8_no gt gb t n w h hn).mono ?_
    rintro e w' ⟨rfl, rfl⟩
    exact ⟨rfl, h, Turn.refl _ _ _⟩
  · rw [if_neg hn]
    obtain ⟨m, rfl⟩ := Int.eq_ofNat_of_zero_le (show 0 ≤ n by omega)
    have hx := ok.fast
    obtain ⟨cap, a, h⟩ := h
    rcases h.own with ⟨rfl, _, h2, rfl⟩ | ⟨rfl, _, _, h2, _⟩
    · obtain rfl : m = 0 := by omega
      exact cut8_none gt gb t w h ok h2
    · by_cases hc : cap = m
      · subst hc
        exact cut8_full gt gb t cap w h ok (by omega) (by omega)
      · exact cut8_go gt gb cap _ t m w h ok (by omega) hc h2 rfl
end Go.Proofs.Ytfbelaalmdcaaaa

/-
  The contracts of package wal's Get, below and Trim.
-/
namespace Go.Proofs.Ytfbelaalmdcaaaa
open Go.RowKit
set_option linter.unusedVariables false

theorem rise_get : ∀ (l : List Rec) (a : Nat), Rise a l → ∀ p q, p < q → q < l.length → (l.getD p Rec.zero).l < (l.getD q Rec.zero).l
  | [], _, _, _, _, _, h => absurd h (by simp)
  | r :: rs, a, h, 0, q + 1, _, hq => by
    have hm : rs.getD q Rec.zero ∈ rs := by
      rw [List.getD_eq_getElem?_getD, List.getElem?_eq_getElem (by simpa using hq)]
      exact List.getElem_mem _
    have := (rise_mem rs r.l h.2.2 _ hm).1
    simpa using this
  | r :: rs, a, h, p + 1, q + 1, hpq, hq => by
    have := rise_get rs r.l h.2.2 p q (by omega) (by simpa using hq)
    simpa using this
theorem find_at (l : List Rec) (a n i : Nat) (hr : Rise a l) (hi : i < l.length) (he : (l.getD i Rec.zero).l = n) : l.find? (fun r => decide (r.l = n)) = some (l.getD i Rec.zero) := by
  rw [List.find?_eq_some_iff_getElem]
  refine ⟨by simpa using he, i, hi, ?_, fun j hj => ?_⟩
  · rw [List.getD_eq_getElem?_getD, List.getElem?_eq_getElem hi]
    rfl
  · have h1 := rise_get l a hr j i hj hi
    rw [he] at h1
    rw [List.getD_eq_getElem?_getD, List.getElem?_eq_getElem (by omega)] at h1
    have h2 : (l[j]).l < n := h1
    simp
    omega
theorem find_no (l : List Rec) (n : Nat) (h : ∀ j, j < l.length → (l.getD j Rec.zero).l ≠ n) : l.find? (fun r => decide (r.l = n)) = none := by
  rw [List.find?_eq_none]
  intro m hm
  obtain ⟨j, hj, rfl⟩ := List.mem_iff_getElem.1 hm
  have := h j hj
  rw [List.getD_eq_getElem?_getD, List.getElem?_eq_getElem hj] at this
  simpa using this
/-- A right record's lists are short. -/
theorem right_few {r : Rec} (h : r.right) : r.ts.length ≤ 1000000 ∧ r.ds.length ≤ 1000000 := by
  by_cases h8 : r.k = 8
  · have hr := h.check h8
    have h1 := hr.1
    have h2 := hr.2.1
    omega
  · have := h.nocheck h8
    rw [this.2.1, this.2.2]
    exact ⟨Nat.zero_le _, Nat.zero_le _⟩
theorem got_zero (base : Nat) (w : World) : GotIn base w Rec.zero (.slice none 0 0) (.slice none 0 0) := ⟨World.ownsRow_nil _ _ _ _, World.ownsRow_nil _ _ _ _⟩
/-- What Get answers. -/
def GetAns (g : Lg) (n : Nat) (w : World) (e : Ending) (w' : World) : Prop := ∃ m : Rm, e = .returned (.tuple #[.agg (rcF m), .bool (g.get n).2]) ∧ m.1 = (g.get n).1 ∧ m.1.fits ∧ GotIn w.heap.size w' m.1 m.2.1 m.2.2 ∧ Below w.heap.size w w'
section
variable {B : Nat} {gl gc gt gb : Nat} {a : Option Addr} {cap : Nat} {ms : List Rm} {wa : Option Addr} {wc : Nat} {bs : List UInt8} {g : Lg}
/-- A kept record's facts. -/
theorem LV.recAt {w : World} (h : LV B w gl gc gt gb a cap ms wa wc bs g) (ok : g.ok) {i : Nat} (hi : i < ms.length) : (ms.getD i rcZ).1.right ∧ (ms.getD i rcZ).1 = g.l.getD i Rec.zero := by
  have e : (ms.getD i rcZ).1 = g.l.getD i Rec.zero := by rw [← h.same, msR_get]
  refine ⟨?_, e⟩
  rw [e]
  refine rise_right _ 0 ok.rise _ ?_
  rw [List.getD_eq_getElem?_getD, List.getElem?_eq_getElem (by rw [← h.len]; exact hi)]
  exact List.getElem_mem _
set_option maxRecDepth 8000 in
set_option maxHeartbeats 1600000 in
theorem get9_any (w : World) (n : Nat) (h : LV B w gl gc gt gb a cap ms wa wc bs g) (ok : g.ok) :
    Calls Try.prog 22 #[.pointer (some ⟨gl, 0, none⟩), .int .u64 (n : Int)] w (GetAns g n w) := by
  have hlen := h.len
  have hfew := few_recs g ok
  have hcap := h.recs.cap
  have hbx : Below w.heap.size w (w.alloc (.cells zeroA 43)) := (Below.refl _ _).alloc (Nat.le_refl _) _
  have H0 := hide (And.intro (h.later hbx) (And.intro (RowAt.new w 43 zeroA) hbx))
  have k2 := H0.out.1.c2
  have HOK := hide ok
  clear h ok hbx
  obtain ⟨ln, hln⟩ : ∃ ln, ln = g.l.length := ⟨_, rfl⟩
  rw [← hln] at hlen hfew k2
  have HLN := hide hln
  have HML := hide hlen
  clear hln
  rw [hlen] at hcap
  clear hlen
  obtain ⟨gR, hgR⟩ : ∃ gR, gR = w.heap.size := ⟨_, rfl⟩
  rw [← hgR] at H0
  have HGR := hide hgR
  clear hgR
  obtain ⟨y, hy⟩ : ∃ y, y = w.alloc (.cells zeroA 43) := ⟨_, rfl⟩
  have ky : y.cell? ⟨gl, 2, none⟩ = some (.slice a ln cap) := by rw [hy]; exact k2
  rw [← hy] at H0
  have HY := hide hy
  clear hy
  have HS := hide (search9_any a cap ms n y H0.out.1.recs.rs (fun p q hpq hq => by
    rw [(H0.out.1.recAt HOK.out (i := p) (by omega)).2, (H0.out.1.recAt HOK.out (i := q) hq).2]
    exact rise_get _ 0 HOK.out.rise p q hpq (by have := HML.out; have := HLN.out; omega)) (by have := HML.out; omega) (by have := HML.out; omega))
  rw [HML.out] at HS
  unfold zeroA at k2
  go_enter Try.func22, Try.ntmps22
  go_wp2_with fail
  refine gen_calls (fun x => x = y) (by rw [HY.out]; rfl) ?_
  intro x hx
  subst hx
  clear k2
  refine HS.out.mono ?_
  rintro e w1 ⟨i, q, rfl, hyes, hno, hb1⟩
  have H1 := hide (show LV B w1 gl gc gt gb a cap ms wa wc bs g ∧ RowAt w1 gR 43 zeroA ∧ Below gR w w1 from ⟨H0.out.1.later hb1, H0.out.2.1.later hb1, H0.out.2.2.trans (hb1.mono (by rw [HGR.out]; exact (HGR.out ▸ H0.out.2.2).size))⟩)
  have HYN := hide (And.intro hyes hno)
  clear hyes hno hb1 HS ky H0
  cases q with
  | false =>
    have hget : g.get n = (Rec.zero, false) := by
      unfold Lg.get
      rw [find_no g.l n (fun j hj => by
        rw [← (H1.out.1.recAt HOK.out (i := j) (by have := HML.out; have := HLN.out; omega)).2]
        exact HYN.out.2 rfl j (by have := HML.out; have := HLN.out; omega))]
    go_wp2_with (refine wpList_store_at rfl 43 (.tmp 4) (.tmp 22) rfl gR zeroA zeroA ?h1 rfl H1.out.2.1 infoRc rfl (by simp [zeroA, Value.oneCell']) ?_; (case h1 => rw [HGR.out]; rfl))
    intro w3 hr3 hk3 hrow3
    have hb3 := hk3 _ _ H1.out.2.2 (Nat.le_refl _)
    have HR3 := hide (And.intro hr3 hb3)
    clear hr3 hk3 hrow3 hb3
    go_wp2
    refine bodyPost_ret (res_at rfl _ _ gR zeroA _ (by rw [HGR.out]; rfl) HR3.out.1 Try.underlying43 rfl infoRc) rfl ⟨rcZ, ?_, ?_, zero_rec_fits, ?_, ?_⟩
    · rw [hget]
      rfl
    · rw [hget]
      rfl
    · exact got_zero _ _
    · rw [← HGR.out]
      exact HR3.out.2
  | true =>
    obtain ⟨hi, he⟩ := HYN.out.1 rfl
    obtain ⟨hrt, hgi⟩ := H1.out.1.recAt HOK.out hi
    have hget : g.get n = ((ms.getD i rcZ).1, true) := by
      unfold Lg.get
      rw [find_at g.l 0 n i HOK.out.rise (by have := HML.out; have := HLN.out; omega) (by rw [← hgi]; exact he), hgi]
    obtain ⟨b, off, rfl, hbl, hrg, hft, hin⟩ := H1.out.1.recs.rs.at hi
    obtain ⟨m, hm⟩ : ∃ m, m = ms.getD i rcZ := ⟨_, rfl⟩
    rw [← hm] at hrg hft hin hrt hget
    have HG := hide (And.intro hget hft)
    clear hm hget hft hgi he
    have hil : (i : Int) < (ln : Int) := by have := HML.out; omega
    have k2 : w1.cell? ⟨gl, 2, none⟩ = some (.slice (some ⟨b, off, none⟩) ln cap) := by rw [HLN.out]; exact H1.out.1.c2
    have HLD := hide (load_mid w1 b (off + i * 14) m hrg)
    have HC := hide (copied9_any m.1 m.2.1 m.2.2 w1 hin (right_few hrt).1 (right_few hrt).2)
    clear hrg hin hrt
    go_wp2_with (refine wpList_load_val rfl 43 (.tmp 28) rfl _ _ rfl HLD.out ?_)
    refine HC.out.mono ?_
    rintro e w2 ⟨ua, ub, rfl, hgot, hb2⟩
    have H2 := hide (show RowAt w2 gR 43 zeroA ∧ Below gR w w2 ∧ GotIn w1.heap.size w2 m.1 ua ub from ⟨H1.out.2.1.later hb2, H1.out.2.2.trans (hb2.mono (Nat.le_of_lt H1.out.2.1.lt)), hgot⟩)
    have hsz : gR ≤ w1.heap.size := Nat.le_of_lt H1.out.2.1.lt
    have hsl : (∃ a1 c1, ua = .slice a1 m.1.ts.length c1) ∧ ∃ a2 c2, ub = .slice a2 m.1.ds.length c2 := by
      obtain ⟨⟨a1, c1, e1, _⟩, ⟨a2, c2, e2, _⟩⟩ := hgot.rc
      exact ⟨⟨a1, c1, e1⟩, a2, c2, e2⟩
    obtain ⟨⟨a1, c1, rfl⟩, a2, c2, rfl⟩ := hsl
    clear hgot hb2 HC HLD k2 H1
    go_wp2_with (refine wpList_store_at rfl 43 (.tmp 4) (.tmp 30) rfl gR zeroA (rcA m.1 (.slice a1 m.1.ts.length c1) (.slice a2 m.1.ds.length c2)) ?h1 rfl H2.out.1 infoRc rfl (by simp [rcA, Value.oneCell']) ?_; (case h1 => rw [HGR.out]; rfl))
    intro w3 hr3 hk3 hrow3
    have hb3 := hk3 _ _ H2.out.2.1 (Nat.le_refl _)
    have hgot3 : GotIn gR w3 m.1 (.slice a1 m.1.ts.length c1) (.slice a2 m.1.ds.length c2) :=
      ⟨own_low (own_kept H2.out.2.2.1 (fun k cs hk => hrow3 k _ cs (fun e => by rw [e] at hk; exact absurd (row_kind hk H2.out.1) (by decide)) hk)) hsz,
        own_low (own_kept H2.out.2.2.2 (fun k cs hk => hrow3 k _ cs (fun e => by rw [e] at hk; exact absurd (row_kind hk H2.out.1) (by decide)) hk)) hsz⟩
    have HR3 := hide (And.intro hr3 (And.intro hb3 hgot3))
    clear hr3 hk3 hrow3 hb3 hgot3
    go_wp2
    refine bodyPost_ret (res_at rfl _ _ gR (rcA m.1 (.slice a1 m.1.ts.length c1) (.slice a2 m.1.ds.length c2)) _ (by rw [HGR.out]; rfl) HR3.out.1 Try.underlying43 rfl infoRc) rfl ⟨(m.1, .slice a1 m.1.ts.length c1, .slice a2 m.1.ds.length c2), ?_, ?_, HG.out.2, ?_, ?_⟩
    · rw [HG.out.1]
      rfl
    · rw [HG.out.1]
    · rw [← HGR.out]
      exact HR3.out.2.2
    · rw [← HGR.out]
      exact HR3.out.2.1
end
end Go.Proofs.Ytfbelaalmdcaaaa

/-
  The contract of package wal's Append.
-/
namespace Go.Proofs.Ytfbelaalmdcaaaa
open Go.RowKit
set_option linter.unusedVariables false

section
variable {B : Nat} {gl gc gt gb : Nat} {a : Option Addr} {cap : Nat} {ms : List Rm} {wa : Option Addr} {wc : Nat} {bs : List UInt8} {g : Lg}
set_option maxRecDepth 8000 in
set_option maxHeartbeats 1600000 in
theorem app9_arg (r : Rec) (va vb : Value) (f : Nat) (h : Int) (w : World) (hL : LV B w gl gc gt gb a cap ms wa wc bs g) (he : r.l ≠ 0 ∨ h < -65536 ∨ 65536 < h) :
    Calls Try.prog 16 #[.pointer (some ⟨gl, 0, none⟩), .agg (rcA r va vb), .int .u64 (f : Int), .int .i64 h] w fun e w' => e = .returned (.tuple #[.int .u64 0, .int .i64 1]) ∧ Below w.heap.size w w' := by
  have hbx : Below w.heap.size w (w.alloc (.cells (rcA r va vb) 43)) := (Below.refl _ _).alloc (Nat.le_refl _) _
  have HB := hide hbx
  have c1 := (RowAt.new w 43 (rcA r va vb)).cell 1 (.int .u64 (r.l : Int)) rfl
  have HT := hide (hastape9 gl gt _ (hL.later hbx).c1)
  clear hbx hL
  by_cases h1 : r.l = 0
  all_goals by_cases h2 : h < -65536
  all_goals by_cases h3 : 65536 < h
  all_goals first | (exfalso; omega) | skip
  all_goals
    have e1 : ((r.l : Int) != 0) = !decide (r.l = 0) := by
      rw [Bool.eq_iff_iff]
      simp
    have e3 : ((r.l : Int) == 0) = decide (r.l = 0) := by
      rw [Bool.eq_iff_iff]
      simp
    simp only [h1, decide_true, decide_false, Bool.not_true, Bool.not_false] at e1 e3
    clear he
    go_enter Try.func16, Try.ntmps16
    go_wp2_with fail
    refine HT.out.mono ?_
    rintro e w1 ⟨rfl, rfl⟩
    go_wp2
    go_ret2
    exact ⟨rfl, HB.out⟩
theorem rcF_slices9 {w : World} {r : Rec} {va vb : Value} (h : RcIn w r va vb) : (∃ a c, va = .slice a r.ts.length c) ∧ ∃ a c, vb = .slice a r.ds.length c := by
  obtain ⟨⟨a1, c1, e1, _⟩, ⟨a2, c2, e2, _⟩⟩ := h
  exact ⟨⟨a1, c1, e1⟩, a2, c2, e2⟩
/-- What is kept while a record is looked at. -/
structure AP (B : Nat) (gl gc gt gb : Nat) (a : Option Addr) (cap : Nat) (ms : List Rm) (wa : Option Addr) (wc : Nat) (bs : List UInt8) (g : Lg) (gR : Nat) (r : Rec) (va vb : Value) (w x : World) : Prop where
  lv : LV B x gl gc gt gb a cap ms wa wc bs g
  row : RowAt x gR 43 (rcA r va vb)
  bel : Below gR w x
  rck : RcK B x r va vb
theorem AP.later {gR : Nat} {r : Rec} {va vb : Value} {w x y : World} (h : AP B gl gc gt gb a cap ms wa wc bs g gR r va vb w x) (p : Below x.heap.size x y) : AP B gl gc gt gb a cap ms wa wc bs g gR r va vb w y :=
  ⟨h.lv.later p, h.row.later p, h.bel.trans (p.mono (Nat.le_of_lt h.row.lt)), h.rck.later p⟩
theorem AP.drew {gR : Nat} {r : Rec} {va vb : Value} {w x : World} (h : AP B gl gc gt gb a cap ms wa wc bs g gR r va vb w x) : AP B gl gc gt gb a cap ms wa wc bs g gR r va vb w x.drew := h.later ⟨rfl, rfl, rfl, Nat.le_refl _, fun _ _ => rfl⟩
/-- The record gets its number. -/
theorem AP.num {gR : Nat} {r : Rec} {va vb : Value} {w x : World} (h : AP B gl gc gt gb a cap ms wa wc bs g gR r va vb w x) (hB : B ≤ gR) (hlt : ∀ k, FC gl gc gt gb a wa k → k < gR) (n : Nat) : AP B gl gc gt gb a cap ms wa wc bs g gR (r.put n) va vb w (x.setCell ⟨gR, 1, none⟩ (.int .u64 (n : Int))) := by
  have hT : Tn (Is gR) x (x.setCell ⟨gR, 1, none⟩ (.int .u64 (n : Int))) := (Tn.refl (Is gR) x).set gR 1 _ rfl
  have hlo : Loose B x (Is gR) := fun k hk => ⟨by rw [show k = gR from hk]; exact hB, by rw [show k = gR from hk]; exact h.row.lt, fun ty cs hrow => by rw [show k = gR from hk] at hrow; rw [row_kind hrow h.row]; decide⟩
  have hk := h.rck.keep hlo hT
  exact ⟨h.lv.keep hlo hT (fun k hk e => by have h1 := hlt k hk; have h2 : k = gR := e; omega), h.row.set 1 _, h.bel.setCell (Nat.le_refl _) _, ⟨hk.rc, hk.tx, hk.di⟩⟩
set_option maxRecDepth 8000 in
set_option maxHeartbeats 3200000 in
theorem app9_core (w : World) (r : Rec) (va vb : Value) (f : Nat) (h : Int) (hL : LV B w gl gc gt gb a cap ms wa wc bs g) (ok : g.ok) (hbs : bs = framesB (g.l.drop g.on)) (hl : r.l = 0) (h1 : -65536 ≤ h) (h2 : h ≤ 65536) (hft : r.fits) (hin : RcK B w r va vb) (hf : f < 18446744073709551616) :
    Calls Try.prog 16 #[.pointer (some ⟨gl, 0, none⟩), .agg (rcA r va vb), .int .u64 (f : Int), .int .i64 h] w fun e w' => e = .returned (.tuple #[.int .u64 (g.appN r f h : Int), .int .i64 (g.appE r f h)]) ∧ Aft (LAc B) gt gl w (FC gl gc gt gb a wa) (g.app r f h) w' := by
  have hb0 : Below w.heap.size w (w.alloc (.cells (rcA r va vb) 43)) := (Below.refl _ _).alloc (Nat.le_refl _) _
  have c1 : (w.alloc (.cells (rcA r va vb) 43)).cell? ⟨w.heap.size, 1, none⟩ = some (.int .u64 0) := by
    have e := (RowAt.new w 43 (rcA r va vb)).cell 1 (.int .u64 (r.l : Int)) rfl
    rwa [hl] at e
  have e1 : ¬ h < -65536 := by omega
  have e2 : ¬ 65536 < h := by omega
  have H0 := hide (show AP B gl gc gt gb a cap ms wa wc bs g w.heap.size r va vb w (w.alloc (.cells (rcA r va vb) 43)) from ⟨hL.later hb0, RowAt.new w 43 (rcA r va vb), hb0, hin.later hb0⟩)
  have HBW := hide hL.here
  have HLT := hide (fun k (hk : FC gl gc gt gb a wa k) => (hL.loose k hk).2.1)
  have HNO := hide (fun (x : World) (e : g.appE r f h ≠ 0) (hx : AP B gl gc gt gb a cap ms wa wc bs g w.heap.size r va vb w x ∨ ∃ n, AP B gl gc gt gb a cap ms wa wc bs g w.heap.size (r.put n) va vb w x) => show Aft (LAc B) gt gl w (FC gl gc gt gb a wa) (g.app r f h) x from by
    rw [(g.app_no r f h e).1]
    rcases hx with hx | ⟨n, hx⟩
    · exact ⟨_, ⟨gc, gb, a, cap, ms, wa, wc, by rw [← hbs]; exact hx.lv, rfl⟩, Tn.of_below hx.bel, fun k hk => .inl hk⟩
    · exact ⟨_, ⟨gc, gb, a, cap, ms, wa, wc, by rw [← hbs]; exact hx.lv, rfl⟩, Tn.of_below hx.bel, fun k hk => .inl hk⟩)
  have HOK := hide ok
  have HBS := hide hbs
  have HRT := hide (hastape9 gl gt _ H0.out.lv.c1)
  clear hb0 hL hin ok hbs
  go_enter Try.func16, Try.ntmps16
  go_wp2_with fail
  refine HRT.out.mono ?_
  rintro e w0 ⟨rfl, rfl⟩
  go_wp2_with fail
  refine gen_calls (fun y => Hid (AP B gl gc gt gb a cap ms wa wc bs g w.heap.size r va vb w y)) H0 ?_
  clear H0 HRT c1
  intro y H0
  have hBg : B ≤ w.heap.size := HBW.out
  obtain ⟨gR, hgR⟩ : ∃ gR, gR = w.heap.size := ⟨_, rfl⟩
  rw [← hgR] at H0 hBg HLT HNO ⊢
  have HGR := hide hgR
  clear hgR
  refine (number9_any y f (decide (h < 0)) H0.out.lv hf).mono ?_
  rintro e w1 ⟨rfl, hb1⟩
  have H1 := hide (H0.out.later hb1)
  clear hb1 H0
  unfold nextS
  by_cases hfull : full g.c f (decide (h < 0)) = true
  · rw [if_pos hfull]
    have HE : Hid (g.appE r f h = 7) := by
      show g.appE r f h = 7
      unfold Lg.appE
      rw [if_neg (by omega), if_pos hfull]
    go_wp2
    go_ret2
    refine ⟨?_, HNO.out _ (by rw [HE.out]; decide) (.inl H1.out)⟩
    rw [(g.app_no r f h (by rw [HE.out]; decide)).2, HE.out]
    rfl
  · rw [if_neg hfull]
    obtain ⟨n, hn⟩ : ∃ n, n = max g.c f + 1 := ⟨_, rfl⟩
    rw [← hn]
    have HNN := hide (show n = g.num f from hn)
    have hcn : g.c < n := by omega
    clear hn
    have c1 : w1.cell? ⟨gR, 1, none⟩ = some (.int .u64 0) := by
      have e := H1.out.row.cell 1 (.int .u64 (r.l : Int)) rfl
      rwa [hl] at e
    have f1 := H1.out.row.free 1
    have H2 := hide (H1.out.num hBg HLT.out n)
    clear H1
    go_wp2_with (refine wpList_load_at rfl 43 (.tmp 5) rfl gR ?h1 (rcA (r.put n) va vb) H2.out.row _ Try.underlying43 rfl infoRc ?_; (case h1 => first | rfl | (rw [HGR.out]; rfl)))
    refine gen_calls (fun y => Hid (AP B gl gc gt gb a cap ms wa wc bs g gR (r.put n) va vb w y)) H2 ?_
    clear H2 c1 f1
    intro x H2
    have hfp : (r.put n).fits := ⟨hft.c, hft.tl, hft.dl, hft.ts, hft.ds⟩
    by_cases hrt : (r.put n).right
    · refine (fput_ok (r.put n) va vb x hrt hfp H2.out.rck.rc).mono ?_
      rintro e w3 ⟨v, rfl, ho, hb3⟩
      have hfew := rec_few (r.put n) hrt
      have hfl := frameB_length (r.put n)
      obtain ⟨gB, cB, rfl, hgB⟩ := own_slice ho (by omega)
      have H3 := hide (show AP B gl gc gt gb a cap ms wa wc bs g gR (r.put n) va vb w w3 ∧ w3.ownsRow x.heap.size 5 1 (.slice (some ⟨gB, 0, none⟩) (frameB (r.put n)).length cB) (frameB (r.put n)).length (toV (frameB (r.put n))) from ⟨H2.out.later hb3, ho⟩)
      have HGX := hide (show gR < x.heap.size from H2.out.row.lt)
      have HGB := hide hgB
      clear hgB
      clear ho hb3 H2
      have hUm := HOK.out.room
      have hmm := HOK.out.tok.room
      have hu : g.used = g.t.b.size + bs.length := by rw [HBS.out]; rfl
      rw [hu] at hUm
      have HU := hide (fun y (hy : LV B y gl gc gt gb a cap ms wa wc bs g) => used9_any y hy (by omega))
      have HHD := hide (show (g.hold h : Int) = max 0 ((g.hd : Int) + h) by unfold Lg.hold; omega)
      have HE0 := hide (show g.t.m < g.used + (frameB (r.put n)).length + g.hold h → g.appE r f h = 7 from fun hq => by
        unfold Lg.appE
        rw [if_neg (by omega), if_neg hfull, if_neg (by rw [← HNN.out]; exact fun k => k hrt), if_pos (by rw [← HNN.out]; exact hq)])
      have HE1 := hide (show ¬ g.t.m < g.used + (frameB (r.put n)).length + g.hold h → g.appE r f h = 0 from fun hq => by
        unfold Lg.appE
        rw [if_neg (by omega), if_neg hfull, if_neg (by rw [← HNN.out]; exact fun k => k hrt), if_neg (by rw [← HNN.out]; exact hq)])
      obtain ⟨U, hU⟩ : ∃ U, U = g.t.b.size + bs.length := ⟨_, rfl⟩
      obtain ⟨M, hM⟩ : ∃ M, M = (frameB (r.put n)).length := ⟨_, rfl⟩
      obtain ⟨Hh, hHh⟩ : ∃ Hh, Hh = g.hold h := ⟨_, rfl⟩
      rw [hu, ← hU, ← hM, ← hHh] at HE0 HE1
      rw [← hU] at hUm HU
      rw [← hM] at hfl H3 ⊢
      have hMb : M ≤ 1006 := by omega
      have HHV := hide (show (Hh : Int) = max 0 ((g.hd : Int) + h) by rw [hHh]; exact HHD.out)
      have HUM := hide (And.intro hU (And.intro hM hHh))
      have hhd : g.hd ≤ 65536 := by omega
      have hHb : Hh ≤ 131072 := by have := HHV.out; omega
      have hUb : U ≤ 65536 := by omega
      clear hU hM hHh hfew hfl hu hUm HHD
      have k7 := H3.out.1.lv.c7
      have ew1 : IntKind.i64.wrap ((U : Int) + (M : Int)) = (U : Int) + (M : Int) := by rw [IntKind.wrap_i64]; omega
      have ew2 : IntKind.i64.wrap ((U : Int) + (M : Int) + (Hh : Int)) = (U : Int) + (M : Int) + (Hh : Int) := by rw [IntKind.wrap_i64]; omega
      have hmx : (if (g.hd : Int) + h < 0 then (0 : Int) else (g.hd : Int) + h) = (Hh : Int) := by
        have := HHV.out
        split <;> omega
      go_wp2_with fail
      clear hmx
      refine wp_region_in (fun x => AP B gl gc gt gb a cap ms wa wc bs g gR (r.put n) va vb w x ∧ x.ownsRow gR 5 1 (.slice (some ⟨gB, 0, none⟩) M cB) M (toV (frameB (r.put n)))) (by kernel_rfl) (by kernel_rfl) ⟨H3.out.1.drew, own_low (ownsRow_below H3.out.2 (below_dn (Below.refl _ _) 1)) (Nat.le_of_lt HGX.out)⟩ ?_
      repeat (first
        | go_big_quiet_skip
        | (refine wpQuiet_load rfl 25 _ rfl _ (.pointer (some ⟨gt, 0, none⟩)) rfl (fun y hy => load9c_p y _ _ rfl hy.1.lv.c1) ?_; simp only [Act.put, Array.setIfInBounds, List.size_toArray, List.length_cons, List.length_nil, Nat.reduceAdd, Nat.reduceLT, ↓reduceDIte, List.set_toArray, List.set_cons_succ, List.set_cons_zero])
        | (refine wpQuiet_call rfl 38 #[.pointer (some ⟨gt, 0, none⟩)] (.int .i64 (g.t.m : Int)) ?_ (fun x hC => (room8_any gt gb g.t x hC.1.lv.tape).mono fun e x' hh => ⟨hh.1, hh.2 ▸ hC⟩) ?_; (intro x; go_simp); simp only [Act.put, Array.setIfInBounds, List.size_toArray, List.length_cons, List.length_nil, Nat.reduceAdd, Nat.reduceLT, ↓reduceDIte, List.set_toArray, List.set_cons_succ, List.set_cons_zero])
        | (refine wpQuiet_call rfl 37 #[.pointer (some ⟨gl, 0, none⟩)] (.int .i64 (U : Int)) ?_ (fun x hC => (HU.out x hC.1.lv).mono fun e x' hh => ⟨hh.1, hC.1.later hh.2, ownsRow_below hC.2 hh.2⟩) ?_; (intro x; go_simp); simp only [Act.put, Array.setIfInBounds, List.size_toArray, List.length_cons, List.length_nil, Nat.reduceAdd, Nat.reduceLT, ↓reduceDIte, List.set_toArray, List.set_cons_succ, List.set_cons_zero])
        | (refine wpQuiet_plain rfl (fun K hK => ?_); go_simp; (try simp only [ew1, ew2]); refine hK _ ?_; clear hK K))
      refine wpQuiet_nil ?_
      intro x hx
      have HX := hide hx
      clear hx H3 k7
      by_cases hroom : (g.t.m : Int) < (U : Int) + (M : Int) + (Hh : Int)
      · have HE := hide (HE0.out (by omega))
        go_wp2
        go_ret2
        refine ⟨?_, HNO.out _ (by rw [HE.out]; decide) (.inr ⟨n, HX.out.1⟩)⟩
        rw [(g.app_no r f h (by rw [HE.out]; decide)).2, HE.out]
        rfl
      · have HE := hide (HE1.out (by omega))
        have k0 := HX.out.1.lv.c0
        have hnm : n ≤ maxL := by
          have := hrt.lm
          have e : (r.put n).l = n := rfl
          rw [e] at this
          unfold maxP at this
          unfold maxL
          omega
        have HMN := hide (show max g.c (min n maxL) = n by omega)
        go_wp2_with fail
        refine (see_any gc g.c n x HX.out.1.lv.clock (by unfold maxL at hnm; omega)).mono ?_
        rw [HMN.out]
        rintro e w4 ⟨rfl, hc4, hg4⟩
        have hT4 : Tn (Is gc) x w4 := Tn.of_grown hg4 (fun k hk => by injection hk with hk; exact hk.symm)
        have hgc : gR ≠ gc := by
          have h4 := HLT.out gc (.inr (.inl rfl))
          omega
        have hlo : Loose B x (Is gc) := fun k hk => HX.out.1.lv.loose k (.inr (.inl hk))
        have H4 := hide (show LV B w4 gl gc gt gb a cap ms wa wc bs { g with c := n } ∧ RowAt w4 gR 43 (rcA (r.put n) va vb) ∧ Tn (FC gl gc gt gb a wa) w w4 ∧ RcK B w4 (r.put n) va vb ∧ WB B w4 (some ⟨gB, 0, none⟩) cB (frameB (r.put n)) ∧ gR ≤ gB from
          ⟨HX.out.1.lv.turnC hT4 hc4, hT4.row HX.out.1.row hgc, (Tn.of_below (by have e := HX.out.1.bel; rw [HGR.out] at e; exact e)).then (hT4.weak (fun k hk => .inr (.inl hk))), HX.out.1.rck.keep hlo hT4, by
            have e := own_low (own_kept HX.out.2 (fun k cs hk => hT4.row hk (fun e => by rw [show k = gc from e] at hk; exact absurd (row_kind hk HX.out.1.lv.clock.2) (by decide)))) hBg
            rw [HUM.out.2.1] at e
            exact e, by have := HGX.out; have := HGB.out; omega⟩)
        clear hc4 hg4 hT4 hgc hlo HX k0
        obtain ⟨⟨a1, c1, rfl⟩, a2, c2, rfl⟩ := rcF_slices9 H4.out.2.2.2.1.rc
        have HCP : Hid (Calls Try.prog 29 #[.agg #[.int .i64 r.k, .int .u64 (n : Int), .int .i64 r.t, .int .u64 (r.p : Int), .int .i64 r.c.k, .int .i64 r.c.pg, .int .i64 r.c.sl, .string r.c.o, .string r.c.n, .int .u64 (r.n : Int), .int .i64 r.s, .int .u64 (r.b : Int), .slice a1 r.ts.length c1, .slice a2 r.ds.length c2]] w4.drew fun e w' => ∃ ua ub, e = .returned (.agg #[.int .i64 r.k, .int .u64 (n : Int), .int .i64 r.t, .int .u64 (r.p : Int), .int .i64 r.c.k, .int .i64 r.c.pg, .int .i64 r.c.sl, .string r.c.o, .string r.c.n, .int .u64 (r.n : Int), .int .i64 r.s, .int .u64 (r.b : Int), ua, ub]) ∧ GotIn w4.drew.heap.size w' (r.put n) ua ub ∧ Below w4.drew.heap.size w4.drew w') := hide (copied9_any (r.put n) (.slice a1 r.ts.length c1) (.slice a2 r.ds.length c2) w4.drew (H4.out.2.2.2.1.later ⟨rfl, rfl, rfl, Nat.le_refl _, fun _ _ => rfl⟩).rc (right_few hrt).1 (right_few hrt).2)
        have HPU := hide (fun (w5 : World) (ua ub : Value) (hgot : GotIn w4.drew.heap.size w5 (r.put n) ua ub) (hb : Below w4.drew.heap.size w4.drew w5) => H4.out.1.drew.push9 hb hgot hfp (by have := few_recs g HOK.out; show g.l.length ≤ _; omega))
        have k2 : w4.cell? ⟨gl, 2, none⟩ = some (.slice a g.l.length cap) := H4.out.1.c2
        have z0 := H4.out.2.1.cell 0 (.int .i64 r.k) rfl
        have z1 := H4.out.2.1.cell 1 (.int .u64 (n : Int)) rfl
        have z2' := H4.out.2.1.cell 2 (.int .i64 r.t) rfl
        have z3 := H4.out.2.1.cell 3 (.int .u64 (r.p : Int)) rfl
        have z4 := H4.out.2.1.cell 4 (.int .i64 r.c.k) rfl
        have z5 := H4.out.2.1.cell 5 (.int .i64 r.c.pg) rfl
        have z6 := H4.out.2.1.cell 6 (.int .i64 r.c.sl) rfl
        have z7 := H4.out.2.1.cell 7 (.string r.c.o) rfl
        have z8 := H4.out.2.1.cell 8 (.string r.c.n) rfl
        have z9 := H4.out.2.1.cell 9 (.int .u64 (r.n : Int)) rfl
        have z10 := H4.out.2.1.cell 10 (.int .i64 r.s) rfl
        have z11 := H4.out.2.1.cell 11 (.int .u64 (r.b : Int)) rfl
        have z12 := H4.out.2.1.cell 12 (.slice a1 r.ts.length c1) rfl
        have z13 := H4.out.2.1.cell 13 (.slice a2 r.ds.length c2) rfl
        clear hmm hcn hrt hfp
        go_wp2_with fail
        go_region_law (first
          | (refine step_call_fn rfl 29 #[.agg #[.int .i64 r.k, .int .u64 (n : Int), .int .i64 r.t, .int .u64 (r.p : Int), .int .i64 r.c.k, .int .i64 r.c.pg, .int .i64 r.c.sl, .string r.c.o, .string r.c.n, .int .u64 (r.n : Int), .int .i64 r.s, .int .u64 (r.b : Int), .slice a1 r.ts.length c1, .slice a2 r.ds.length c2]] ?he (HCP.out.mono ?_); (case he => go_simp); rintro e w5 ⟨ua, ub, rfl, hgot, hb5⟩; obtain ⟨a', cap', w6, q1, j2, j3, j4, j5, HR⟩ := HPU.out w5 ua ub hgot hb5; simp only [rcA, Rec.put] at j3; obtain ⟨⟨ua1, uc1, rfl⟩, ua2, uc2, rfl⟩ := rcF_slices9 hgot.rc; refine ⟨_, rfl, ?_⟩; clear HCP HPU hgot hb5)
          | (refine step_append_run rfl (.tmp 81) (.tmp 84) 29 29 rfl (.slice a g.l.length cap) (.slice (some ⟨w5.heap.size, 0, none⟩) 1 1) (.slice a' (g.l.length + 1) cap') w6 ?h1 ?h2 q1 ?_; (case h1 => simp [Act.eval]); (case h2 => simp [Act.eval])))
        all_goals
          obtain ⟨z, hz⟩ : ∃ z, z = w6.setCell ⟨gl, 2, none⟩ (.slice a' (g.l.length + 1) cap') := ⟨_, rfl⟩
          rw [← hz] at HR ⊢
          clear hz j2 j3 j4 j5 q1 k2
          have hTz : Tn (FC gl gc gt gb a wa) w4 z := (Tn.refl _ w4).drew.then HR.out.2.1
          have hWz : WB B z (some ⟨gB, 0, none⟩) cB (frameB (r.put n)) := H4.out.2.2.2.2.1.keep (fun k hk => hTz.block k (by obtain ⟨_, _, hr⟩ := H4.out.2.2.2.2.1.kind k hk; exact hr.lt) (fun hF => by
            obtain ⟨off, e⟩ := hk
            injection e with e
            injection e with e
            have h5 := HLT.out k hF
            have h6 := H4.out.2.2.2.2.2
            omega))
          have hIz := hWz.isB.1
          rw [← HUM.out.2.1] at hIz
          obtain ⟨wa', wc', z2, p1, p2, p3, p4⟩ := HR.out.1.wait.app HR.out.1.here (some ⟨gB, 0, none⟩) M cB (frameB (r.put n)) hIz (fun h => (nomatch h)) (by have := HUM.out.1; omega)
          have hlog2 := p3.row HR.out.1.log HR.out.1.all.lw
          have HF := hide (show Aft (LAc B) gt gl w (FC gl gc gt gb a wa) (g.app r f h) ((z2.setCell ⟨gl, 5, none⟩ (.slice wa' (bs.length + M) wc')).setCell ⟨gl, 7, none⟩ (.int .i64 (Hh : Int))) from by
            obtain ⟨L1, T1⟩ := HR.out.1.waited p2 p3 p4
            rw [← HUM.out.2.1] at L1 T1
            have hT7 : Tn (Is gl) (z2.setCell ⟨gl, 5, none⟩ (.slice wa' (bs.length + M) wc')) ((z2.setCell ⟨gl, 5, none⟩ (.slice wa' (bs.length + M) wc')).setCell ⟨gl, 7, none⟩ (.int .i64 (Hh : Int))) := (Tn.refl (Is gl) _).set gl 7 _ rfl
            have L2 := L1.put (g' := { g with c := n, l := g.l ++ [r.put n], hd := Hh }) hT7 (L1.log.set 7 _) rfl rfl L1.recs L1.all.la L1.same L1.wait L1.all.lw L1.apart
            have hb2 : bs ++ frameB (r.put n) = framesB ((g.l ++ [r.put n]).drop g.on) := by
              rw [List.drop_append_of_le_length HOK.out.on, framesB_append, frames_one, HBS.out]
            rw [hb2] at L2
            have happ := (g.app_yes r f h HE.out).1
            rw [happ, ← HNN.out, ← HUM.out.2.2]
            have hTw : Tn (FC gl gc gt gb a wa) w z := H4.out.2.2.1.then hTz
            have hsz := H4.out.2.2.1.size
            have hszz := hTz.size
            have hblk : ∀ k, blk a' k → blk a k ∨ w.heap.size ≤ k := fun k hk => (HR.out.2.2 k hk).imp id (fun h => Nat.le_trans hsz h)
            have hbw : ∀ k, blk wa' k → blk wa k ∨ w.heap.size ≤ k := fun k hk => (p4 k hk).imp id (fun h => Nat.le_trans hsz (Nat.le_trans hszz h))
            refine ⟨_, ⟨gc, gb, a', cap', _, wa', wc', L2, rfl⟩, (hTw.trans T1 (fun k hk => ?_)).then (hT7.weak (fun k hk => .inl hk)), fun k hk => ?_⟩
            · rcases hk with hk | hk | hk | hk | hk | hk
              · exact .inl (.inl hk)
              · exact .inl (.inr (.inl hk))
              · exact .inl (.inr (.inr (.inl hk)))
              · exact .inl (.inr (.inr (.inr (.inl hk))))
              · exact (hblk k hk).imp (fun h => .inr (.inr (.inr (.inr (.inl h))))) id
              · exact .inl (.inr (.inr (.inr (.inr (.inr hk)))))
            · rcases hk with hk | hk | hk | hk | hk | hk
              · exact .inl (.inl hk)
              · exact .inl (.inr (.inl hk))
              · exact .inl (.inr (.inr (.inl hk)))
              · exact .inl (.inr (.inr (.inr (.inl hk))))
              · exact (hblk k hk).imp (fun h => .inr (.inr (.inr (.inr (.inl h))))) id
              · exact (hbw k hk).imp (fun h => .inr (.inr (.inr (.inr (.inr h))))) id)
          have c5 := HR.out.1.c5
          have d5 : z2.cell? ⟨gl, 5, none⟩ = some (.slice wa bs.length wc) := hlog2.cell 5 _ rfl
          have d7 : z2.cell? ⟨gl, 7, none⟩ = some (.int .i64 (g.hd : Int)) := hlog2.cell 7 _ rfl
          have f5 := hlog2.free 5
          have f7 := hlog2.free 7
          clear hTz hWz hIz p2 p3 p4 hlog2 HR H4 z0 z1 z2' z3 z4 z5 z6 z7 z8 z9 z10 z11 z12 z13
          go_wp2_with (at_builtin; refine wpList_append_run rfl (.tmp 92) (.tmp 93) 60 60 rfl _ _ _ rfl rfl p1 ?_)
          go_ret2
          refine ⟨?_, HF.out⟩
          rw [(g.app_yes r f h HE.out).2, HE.out, ← HNN.out]
          rfl
    · refine (fput_no (r.put n) va vb x hrt hfp H2.out.rck.rc).mono ?_
      rintro e w3 ⟨rfl, hb3⟩
      have H3 := hide (H2.out.later hb3)
      clear hb3 H2
      have HE : Hid (g.appE r f h = 1) := by
        show g.appE r f h = 1
        unfold Lg.appE
        rw [if_neg (by omega), if_neg hfull, if_pos (by rw [← HNN.out]; exact hrt)]
      go_wp2
      go_ret2
      refine ⟨?_, HNO.out _ (by rw [HE.out]; decide) (.inr ⟨n, H3.out⟩)⟩
      rw [(g.app_no r f h (by rw [HE.out]; decide)).2, HE.out]
      rfl
/-- Append. -/
theorem app9_any (w : World) (r : Rec) (va vb : Value) (f : Nat) (h : Int) (hL : LV B w gl gc gt gb a cap ms wa wc bs g) (ok : g.ok) (hbs : bs = framesB (g.l.drop g.on)) (hft : r.fits) (hin : RcK B w r va vb) (hf : f < 18446744073709551616) :
    Calls Try.prog 16 #[.pointer (some ⟨gl, 0, none⟩), .agg (rcA r va vb), .int .u64 (f : Int), .int .i64 h] w fun e w' => e = .returned (.tuple #[.int .u64 (g.appN r f h : Int), .int .i64 (g.appE r f h)]) ∧ Aft (LAc B) gt gl w (FC gl gc gt gb a wa) (g.app r f h) w' := by
  by_cases he : r.l ≠ 0 ∨ h < -65536 ∨ 65536 < h
  · have hE : g.appE r f h = 1 := by
      unfold Lg.appE
      rw [if_pos he]
    have hn := g.app_no r f h (by rw [hE]; decide)
    rw [hn.1, hn.2, hE]
    exact (app9_arg r va vb f h w hL he).mono fun e w' hh => ⟨hh.1, _, ⟨gc, gb, a, cap, ms, wa, wc, by rw [← hbs]; exact hL.later hh.2, rfl⟩, Tn.of_below hh.2, fun k hk => .inl hk⟩
  · exact app9_core w r va vb f h hL ok hbs (by omega) (by omega) (by omega) hft hin hf
end
end Go.Proofs.Ytfbelaalmdcaaaa

/-
  What a log is behind a crash, a trim, an append of what was held back. Of no program.
-/
namespace Go.Proofs.Ytfbelaalmdcaaaa
open Go.RowKit
set_option linter.unusedVariables false

/-- Where frames are cut. -/
theorem cut_index (rs : List Rec) (k : Nat) : ∃ i, i ≤ rs.length ∧ (framesB (rs.take i)).length ≤ k ∧ (i < rs.length → k < (framesB (rs.take (i + 1))).length) := by
  have key : ∀ n, n ≤ rs.length → (∃ i, i < n ∧ (framesB (rs.take i)).length ≤ k ∧ k < (framesB (rs.take (i + 1))).length) ∨ (framesB (rs.take n)).length ≤ k := by
    intro n
    induction n with
    | zero =>
      intro _
      right
      rw [List.take_zero]
      exact Nat.zero_le _
    | succ n ih =>
      intro hn
      rcases ih (by omega) with ⟨i, h1, h2, h3⟩ | h
      · exact .inl ⟨i, by omega, h2, h3⟩
      · by_cases h2 : (framesB (rs.take (n + 1))).length ≤ k
        · exact .inr h2
        · exact .inl ⟨n, by omega, h, by omega⟩
  rcases key rs.length (Nat.le_refl _) with ⟨i, h1, h2, h3⟩ | h
  · exact ⟨i, by omega, h2, fun _ => h3⟩
  · exact ⟨rs.length, Nat.le_refl _, h, fun h => absurd h (Nat.lt_irrefl _)⟩
/-- Frames of records whose LSNs rise, alone, are scanned whole. -/
theorem scan_whole (rs : List Rec) (h : Rise 0 rs) : scanL (framesB rs) = (rs, (framesB rs).length) := scan_end (by rw [List.append_nil]) h (.inl head_nil)
theorem crash_data (t : Tp) (h : t.ok) (k : Int) : (t.crash k).b.data.toList = t.b.data.toList.take (t.left k) := by
  have hl := t.left_le h k
  have e := extract_eq t.b 0 (t.left k) (by omega)
  rw [Nat.zero_add] at e
  show (t.b.extract 0 (t.left k)).data.toList = _
  rw [e]
  simp
/-- P9.6: behind a crash there is a beginning of the records, and all that stood fast. -/
theorem Lg.crashed (g : Lg) (hg : g.ok) (k : Int) (base : Nat) : ∃ i, i ≤ g.on ∧ g.fa ≤ i ∧ (Lg.open (g.t.crash k) base).l = g.l.take i ∧ (i < g.l.length → g.du < (g.l.getD i Rec.zero).l) := by
  have hon := hg.on
  have hl := g.t.left_le hg.tok k
  have hd := crash_data g.t hg.tok k
  rw [hg.bytes] at hd
  obtain ⟨i, h1, h2, h3⟩ := cut_index (g.l.take g.on) (g.t.left k)
  have hlen : (g.l.take g.on).length = g.on := by rw [List.length_take]; omega
  rw [hlen] at h1 h3
  have htk : ∀ j, j ≤ g.on → (g.l.take g.on).take j = g.l.take j := fun j hj => by rw [List.take_take, Nat.min_eq_left hj]
  have hs := cut_scan (g.l.take g.on) (g.t.left k) i (rise_first g.l 0 g.on hg.rise) (by rw [hlen]; exact h1) h2 (by rw [hlen]; exact h3)
  have hfi : g.fa ≤ i := by
    by_cases hlt : i < g.fa
    · exfalso
      have hfa := hg.fa
      have h4 := h3 (by omega)
      rw [htk (i + 1) (by omega)] at h4
      have h5 := frames_mono g.l (i + 1) g.fa hlt
      have h6 := hg.fast
      omega
    · omega
  refine ⟨i, h1, hfi, ?_, fun hi => ?_⟩
  · show (scanL (g.t.crash k).b.data.toList).1 = _
    rw [hd, hs]
    exact htk i h1
  · refine hg.high _ ?_
    rw [List.getD_eq_getElem?_getD, List.getElem?_eq_getElem hi, Option.getD_some]
    rw [List.mem_drop_iff_getElem]
    exact ⟨i - g.fa, by omega, by congr 1; omega⟩
/-- What is trimmed. -/
theorem Lg.trimmed (g : Lg) (hg : g.ok) (n i : Nat) (hi : i < g.l.length) : (i < trimK g.l g.fa n → (g.l.getD i Rec.zero).l < n ∧ (g.l.getD i Rec.zero).l ≤ g.du) ∧ (trimK g.l g.fa n ≤ i → ¬ ((g.l.getD i Rec.zero).l < n ∧ (g.l.getD i Rec.zero).l ≤ g.du)) := by
  have hk := trimK_le g.l g.fa n
  have hfa := hg.fa
  have hon := hg.on
  have e : g.l.getD i Rec.zero = g.l[i] := by rw [List.getD_eq_getElem?_getD, List.getElem?_eq_getElem hi, Option.getD_some]
  rw [e]
  constructor
  · intro h
    exact ⟨trimK_low g.l g.fa n _ (List.mem_take_iff_getElem.2 ⟨i, by omega, rfl⟩), hg.low _ (List.mem_take_iff_getElem.2 ⟨i, by omega, rfl⟩)⟩
  · rintro h ⟨h1, h2⟩
    by_cases hf : i < g.fa
    · have hs := trimK_stop g.l g.fa n (by omega) (by omega)
      have e2 : g.l.getD (trimK g.l g.fa n) Rec.zero = g.l[trimK g.l g.fa n] := by rw [List.getD_eq_getElem?_getD, List.getElem?_eq_getElem (by omega), Option.getD_some]
      rw [e2] at hs
      rcases Nat.eq_or_lt_of_le h with h3 | h3
      · have : g.l[trimK g.l g.fa n] = g.l[i] := by congr 1
        rw [this] at hs
        omega
      · have hr := rise_drop g.l 0 (trimK g.l g.fa n + 1) hg.rise
        have hm := (rise_mem _ _ hr g.l[i] (by
          rw [List.mem_drop_iff_getElem]
          exact ⟨i - (trimK g.l g.fa n + 1), by omega, by congr 1; omega⟩)).1
        have e3 := last_take g.l 0 (trimK g.l g.fa n) (by omega)
        rw [e3, e2] at hm
        omega
    · have := hg.high g.l[i] (by
        rw [List.mem_drop_iff_getElem]
        exact ⟨i - g.fa, by omega, by congr 1; omega⟩)
      omega
/-- All that is written and synced is opened. -/
theorem Lg.opened (g : Lg) (hg : g.ok) (base : Nat) : (Lg.open g.write.sync.t base).l = g.l ∧ g.write.sync.t.b = bytesS g.l := by
  have hw := (g.write.sync_ok (g.write_ok hg)).bytes
  have hb : g.write.sync.t.b.data.toList = framesB g.l := by
    rw [hw]
    show framesB (g.l.take g.l.length) = _
    rw [List.take_length]
  refine ⟨?_, ?_⟩
  · show (scanL g.write.sync.t.b.data.toList).1 = g.l
    rw [hb, scan_whole _ hg.rise]
  · have e : g.write.sync.t.b = ⟨g.write.sync.t.b.data.toList.toArray⟩ := by simp
    rw [e, hb]
    rfl
/-- How much is used doesn't hang on what is written. -/
theorem Lg.used_all (g : Lg) (hg : g.ok) : g.used = (framesB g.l).length := by
  have h := congrArg List.length hg.bytes
  rw [Array.length_toList] at h
  have h2 := frames_len g.l g.on
  have h3 : g.t.b.data.size = g.t.b.size := rfl
  unfold Lg.used
  omega
end Go.Proofs.Ytfbelaalmdcaaaa

/-
  The contracts of package wal's below and Trim.
-/
namespace Go.Proofs.Ytfbelaalmdcaaaa
open Go.RowKit
set_option linter.unusedVariables false

def Stop9 (p : Prop) : Prop := p
theorem stop9 {p : Prop} (h : Stop9 p) : p := h
theorem unstop9 {p : Prop} (h : p) : Stop9 p := h
theorem rcF_slices {w : World} {r : Rec} {va vb : Value} (h : RcIn w r va vb) : (∃ a c, va = .slice a r.ts.length c) ∧ ∃ a c, vb = .slice a r.ds.length c := by
  obtain ⟨⟨a1, c1, e1, _⟩, ⟨a2, c2, e2, _⟩⟩ := h
  exact ⟨⟨a1, c1, e1⟩, a2, c2, e2⟩
theorem rcF_all (m : Rm) (h1 : ∃ a c, m.2.1 = .slice a m.1.ts.length c) (h2 : ∃ a c, m.2.2 = .slice a m.1.ds.length c) : (rcF m).all (·.oneCell') = true := by
  obtain ⟨a, c, h1⟩ := h1
  obtain ⟨b, d, h2⟩ := h2
  simp [rcF, rcA, h1, h2, Value.oneCell']
theorem trimK_is : ∀ (l : List Rec) (f n j : Nat), j ≤ f → j ≤ l.length → (∀ i, i < j → (l.getD i Rec.zero).l < n) → (j = f ∨ j = l.length ∨ n ≤ (l.getD j Rec.zero).l) → trimK l f n = j
  | [], f, n, j, _, h2, _, _ => by
    have : j = 0 := by simpa using h2
    rw [this]
    unfold trimK
    rfl
  | r :: rs, 0, n, j, h1, _, _, _ => by
    have : j = 0 := by omega
    rw [this]
    unfold trimK
    rfl
  | r :: rs, f + 1, n, 0, _, _, _, h4 => by
    unfold trimK
    rw [if_neg]
    simp at h4
    omega
  | r :: rs, f + 1, n, j + 1, h1, h2, h3, h4 => by
    have h0 := h3 0 (by omega)
    unfold trimK
    rw [if_pos (by simpa using h0), trimK_is rs f n j (by omega) (by simpa using h2) (fun i hi => by
      have := h3 (i + 1) (by omega)
      simpa using this) (by
      rcases h4 with h4 | h4 | h4
      · exact .inl (by omega)
      · exact .inr (.inl (by simpa using h4))
      · exact .inr (.inr (by simpa using h4)))]
theorem take_frames (l : List Rec) (j : Nat) (h : j < l.length) : framesB (l.take (j + 1)) = framesB (l.take j) ++ frameB (l.getD j Rec.zero) := by
  have e : l.take (j + 1) = l.take j ++ [l.getD j Rec.zero] := by
    rw [List.take_add_one, List.getD_eq_getElem?_getD, List.getElem?_eq_getElem h]
    rfl
  rw [e, framesB_append, frames_one]
/-- What below tells. -/
def BelowAns (g : Lg) (n : Nat) (w : World) (e : Ending) (w' : World) : Prop := e = .returned (.tuple #[.int .i64 (trimK g.l g.fa n : Int), .int .i64 ((framesB (g.l.take (trimK g.l g.fa n))).length : Int)]) ∧ Below w.heap.size w w'
section
variable {B : Nat} {gl gc gt gb : Nat} {a : Option Addr} {cap : Nat} {ms : List Rm} {wa : Option Addr} {wc : Nat} {bs : List UInt8} {g : Lg}
theorem putL_right {r : Rec} (h : r.right) : putL r = frameB r := by unfold putL; rw [if_pos (rightB_yes h)]
set_option maxRecDepth 8000 in
set_option maxHeartbeats 1600000 in
theorem below9_none (w : World) (n : Nat) (h : LV B w gl gc gt gb none 0 ms wa wc bs g) (ok : g.ok) :
    Calls Try.prog 42 #[.pointer (some ⟨gl, 0, none⟩), .int .u64 (n : Int)] w (BelowAns g n w) := by
  have hlen := h.len
  have hcap := h.recs.cap
  have hl0 : g.l.length = 0 := by omega
  have hf0 : g.fa = 0 := by have := ok.fa; have := ok.on; omega
  have hk : trimK g.l g.fa n = 0 := trimK_is _ _ _ 0 (Nat.zero_le _) (Nat.zero_le _) (fun i hi => absurd hi (Nat.not_lt_zero _)) (.inl hf0.symm)
  have c2 : w.cell? ⟨gl, 2, none⟩ = some (.slice none 0 0) := by have := h.c2; rwa [hl0] at this
  have c3 : w.cell? ⟨gl, 3, none⟩ = some (.int .i64 0) := by have := h.c3; rwa [hf0] at this
  have HK := hide hk
  clear h ok hlen hcap hl0 hf0 hk
  go_enter Try.func42, Try.ntmps42
  go_wp2_with fail
  go_region
  go_wp2
  go_loopw [19, 6] (fun i v wr => i = .int .i64 0 ∧ v = .int .i64 0 ∧ Hid (wr = w.drew)) (fun _ _ _ => 0)
  case atStart => exact ⟨rfl, rfl, rfl⟩
  case round =>
    obtain ⟨rfl, rfl, HW⟩ := hrel
    obtain rfl := HW.out
    go_wp2
    go_ret2
    refine ⟨?_, below_dn (Below.refl _ _) 1⟩
    rw [HK.out]
    rfl
set_option maxRecDepth 8000 in
set_option maxHeartbeats 1600000 in
theorem below9_some (w : World) (n b off : Nat) (h : LV B w gl gc gt gb (some ⟨b, off, none⟩) cap ms wa wc bs g) (ok : g.ok) :
    Calls Try.prog 42 #[.pointer (some ⟨gl, 0, none⟩), .int .u64 (n : Int)] w (BelowAns g n w) := by
  have hlen := h.len
  have hcap := h.recs.cap
  have hfa := ok.fa
  have hon := ok.on
  have hfew := few_recs g ok
  have hfr : ∀ j, (framesB (g.l.take j)).length ≤ 65536 := fun j => by
    have h1 := g.used_all ok
    have h2 := frames_len g.l j
    have h3 := ok.room
    have h4 := ok.tok.room
    omega
  have HFR := hide hfr
  have c2 := h.c2
  have c3 := h.c3
  have H := hide h
  have HOK := hide ok
  have e1 : (0 : Int) ≤ (g.fa : Int) := by omega
  have e2 : (g.fa : Int) ≤ (cap : Int) := by omega
  clear h ok hfr
  generalize hF : g.fa = F at *
  generalize hN : g.l.length = N at *
  have HF := hide hF
  have HN := hide hN
  clear hF hN
  go_enter Try.func42, Try.ntmps42
  go_wp2_with fail
  go_region
  go_wp2
  go_loopw [19, 6] (fun i v wr => ∃ j : Nat, j ≤ F ∧ i = .int .i64 j ∧ v = .int .i64 ((framesB (g.l.take j)).length : Int) ∧ Hid ((∀ i, i < j → (g.l.getD i Rec.zero).l < n) ∧ LV B wr gl gc gt gb (some ⟨b, off, none⟩) cap ms wa wc bs g ∧ Below w.heap.size w wr)) (fun i _ _ => F - (intOf i).toNat)
  case atStart => exact ⟨0, Nat.zero_le _, rfl, rfl, fun i hi => absurd hi (Nat.not_lt_zero _), H.out.drew, below_dn (Below.refl _ _) 1⟩
  case round =>
    obtain ⟨j, hj, rfl, rfl, HI⟩ := hrel
    by_cases hlt : j < F
    · have ij : (j : Int) < (F : Int) := by omega
      have hjm : j < ms.length := by omega
      obtain ⟨b', off', eb, hbl, hrg, hft, hin⟩ := HI.out.2.1.recs.rs.at hjm
      injection eb with eb
      injection eb with eb1 eb2
      subst eb1 eb2
      obtain ⟨hrt, hgi⟩ := HI.out.2.1.recAt HOK.out hjm
      have hmore := take_frames g.l j (by rw [HN.out]; omega)
      rw [← hgi] at hmore
      have hfj := HFR.out j
      have hfj1 := HFR.out (j + 1)
      rw [hmore, List.length_append] at hfj1
      obtain ⟨m, hm⟩ : ∃ m, m = ms.getD j rcZ := ⟨_, rfl⟩
      rw [← hm] at hrg hft hin hrt hgi hmore hfj1
      have HM := hide (And.intro hgi hmore)
      clear hm hgi hmore
      have HLD := hide (load_mid wr b (off + j * 14) m hrg)
      have hb1 : Below wr.heap.size wr (wr.alloc (.cells zeroA 43)) := (Below.refl _ _).alloc (Nat.le_refl _) _
      have HZ := hide (And.intro (RowAt.new wr 43 zeroA) hb1)
      have HRM := hide (fun y (hy : RcIn y m.1 m.2.1 m.2.2) => froom_any m.1 m.2.1 m.2.2 y hft hy)
      rw [putL_right hrt] at HRM
      have HIN := hide hin
      have hsl := rcF_slices hin
      obtain ⟨⟨a1, c1, h1⟩, a2, c2', h2⟩ := hsl
      clear hrg hin hft hb1
      generalize hS : (framesB (g.l.take j)).length = S at *
      have HS := hide hS
      clear hS
      obtain ⟨M, hM⟩ : ∃ M, M = (frameB m.1).length := ⟨_, rfl⟩
      rw [← hM] at HRM hfj1
      have HMM := hide hM
      clear hM
      obtain ⟨L, hL⟩ : ∃ L, L = m.1.l := ⟨_, rfl⟩
      have HL := hide hL
      clear hL
      by_cases hln : L < n
      · have iln : ¬ (n : Int) ≤ (L : Int) := by omega
        go_wp2_with (first | (refine wpList_load_val rfl 43 (.tmp 22) rfl _ _ rfl HLD.out ?_) | (refine wpList_store_at rfl 43 (.tmp 8) (.tmp 23) rfl wr.heap.size zeroA (rcF m) rfl rfl HZ.out.1 infoRc rfl (rcF_all m ⟨a1, c1, h1⟩ ⟨a2, c2', h2⟩) ?_; intro w2 hr2 hk2 hrow2; refine stop9 ?_))
        have hb2 := hk2 _ _ HZ.out.2 (Nat.le_refl _)
        have hl2 := hr2.cell 1 (.int .u64 (L : Int)) (by rw [HL.out]; rfl)
        have H2 := hide (And.intro hr2 hb2)
        clear hr2 hk2 hrow2 hb2 HLD HZ
        refine unstop9 ?_
        go_wp2_with (refine wpList_load_at rfl 43 (.tmp 8) rfl wr.heap.size rfl (rcF m) H2.out.1 _ Try.underlying43 rfl infoRc ?_)
        refine (HRM.out w2 (HIN.out.below H2.out.2)).mono ?_
        rintro e w3 ⟨rfl, hb3⟩
        have HB3 := hide (H2.out.2.trans (hb3.mono H2.out.2.size))
        clear hb3 H2 HRM hl2
        go_wp2
        go_roundw
        case rel =>
          refine ⟨j + 1, by omega, by go_num, ?_, fun i hi => ?_, HI.out.2.1.later HB3.out, HI.out.2.2.trans (HB3.out.mono HI.out.2.2.size)⟩
          · rw [HM.out.2, List.length_append, ← HMM.out, HS.out]
            go_num
          · by_cases e : i = j
            · rw [e, ← HM.out.1, ← HL.out]
              exact hln
            · exact HI.out.1 i (by omega)
        case measure => simp [intOf]; omega
      · have iln : (n : Int) ≤ (L : Int) := by omega
        go_wp2_with (first | (refine wpList_load_val rfl 43 (.tmp 22) rfl _ _ rfl HLD.out ?_) | (refine wpList_store_at rfl 43 (.tmp 8) (.tmp 23) rfl wr.heap.size zeroA (rcF m) rfl rfl HZ.out.1 infoRc rfl (rcF_all m ⟨a1, c1, h1⟩ ⟨a2, c2', h2⟩) ?_; intro w2 hr2 hk2 hrow2; refine stop9 ?_))
        have hb2 := hk2 _ _ HZ.out.2 (Nat.le_refl _)
        have hl2 := hr2.cell 1 (.int .u64 (L : Int)) (by rw [HL.out]; rfl)
        have H2 := hide (And.intro hr2 hb2)
        clear hr2 hk2 hrow2 hb2 HLD HZ
        refine unstop9 ?_
        go_wp2
        go_ret2
        have hk : trimK g.l g.fa n = j := trimK_is _ _ _ j (by rw [HF.out]; omega) (by rw [HN.out]; omega) HI.out.1 (.inr (.inr (by rw [← HM.out.1, ← HL.out]; omega)))
        refine ⟨?_, HI.out.2.2.trans (H2.out.2.mono HI.out.2.2.size)⟩
        rw [hk, HS.out]
        rfl
    · obtain rfl : j = F := by omega
      have c3 := HI.out.2.1.c3
      rw [HF.out] at c3
      go_wp2
      go_ret2
      have hk : trimK g.l g.fa n = j := trimK_is _ _ _ j (by rw [HF.out]; omega) (by rw [HN.out]; omega) HI.out.1 (.inl HF.out.symm)
      refine ⟨?_, HI.out.2.2⟩
      rw [hk]
      rfl
theorem below9_any (w : World) (n : Nat) (h : LV B w gl gc gt gb a cap ms wa wc bs g) (ok : g.ok) :
    Calls Try.prog 42 #[.pointer (some ⟨gl, 0, none⟩), .int .u64 (n : Int)] w (BelowAns g n w) := by
  rcases h.recs.1 with ⟨rfl, _, rfl⟩ | ⟨b, off, cs, rfl, _⟩
  · exact below9_none w n h ok
  · exact below9_some w n b off h ok
set_option maxRecDepth 8000 in
set_option maxHeartbeats 1600000 in
theorem trim9_any (w : World) (n : Nat) (h : LV B w gl gc gt gb a cap ms wa wc bs g) (ok : g.ok) :
    Calls Try.prog 24 #[.pointer (some ⟨gl, 0, none⟩), .int .u64 (n : Int)] w fun e w' => e = .returned (.tuple #[.int .i64 (trimK g.l g.fa n : Int), .int .i64 0]) ∧ LV B w' gl gc gt gb a cap (ms.drop (trimK g.l g.fa n)) wa wc bs (g.trim n) ∧ Tn (FC gl gc gt gb a wa) w w' := by
  have H := hide h
  have HOK := hide ok
  have hlen := h.len
  have hfew := few_recs g ok
  have c1 := h.c1
  have hk := (g.trim_k ok n).1
  have hfa := ok.fa
  have hon := ok.on
  have HC := hide (show g.t.cut ((framesB (g.l.take (trimK g.l g.fa n))).length : Int) = ((g.trim n).t, 0) from by
    have e := g.trim_cut ok n
    unfold Lg.trim
    rw [e])
  have HBL := hide (below9_any w n h ok)
  unfold BelowAns at HBL
  have HTR := hide (show (g.trim n) = { g with t := (g.trim n).t, l := g.l.drop (trimK g.l g.fa n), on := g.on - trimK g.l g.fa n, fa := g.fa - trimK g.l g.fa n } from rfl)
  rw [HTR.out]
  generalize (g.trim n).t = t2 at *
  generalize (framesB (g.l.take (trimK g.l g.fa n))).length = S at *
  generalize trimK g.l g.fa n = k at *
  clear h ok HTR
  go_enter Try.func24, Try.ntmps24
  go_wp2_with fail
  refine (hastape9 gl gt w c1).mono ?_
  rintro e w0 ⟨rfl, rfl⟩
  go_wp2_with fail
  refine HBL.out.mono ?_
  rintro e w1 ⟨rfl, hb1⟩
  have H1 := hide (And.intro (H.out.later hb1) (Tn.of_below (F := FC gl gc gt gb a wa) hb1))
  clear hb1 HBL H c1
  have c1 := H1.out.1.c1
  go_wp2_with fail
  refine (cut8_any gt gb g.t (S : Int) w1 H1.out.1.tape HOK.out.tok).mono ?_
  rw [HC.out]
  rintro e w2 ⟨rfl, ht2, hT2⟩
  have H2 := hide (And.intro (H1.out.1.turnT hT2 ht2 (.inl rfl)) (H1.out.2.then (hT2.tn.weak (G := FC gl gc gt gb a wa) (fun k hk => by rcases hk with hk | hk; exact .inr (.inr (.inl hk)); exact .inr (.inr (.inr (.inl hk)))))))
  clear ht2 hT2 H1 HC c1
  have c2 : w2.cell? ⟨gl, 2, none⟩ = some (.slice a g.l.length cap) := H2.out.1.c2
  have HDL := hide (del9_any B w2 a cap ms H2.out.1.recs k (by omega) (by omega))
  rw [hlen] at HDL
  have HLN := hide hlen
  have HKL := hide (show k ≤ g.l.length by omega)
  clear hlen
  go_wp2_with fail
  refine HDL.out.mono ?_
  rintro e w3 ⟨rfl, hr3, hT3⟩
  have A := H2.out.1.all
  have hl3 : RowAt w3 gl 66 (lvA gc gt a cap wa bs.length wc { g with t := t2 }) := hT3.row H2.out.1.log A.la
  have H3 := hide (And.intro hr3 (And.intro hT3 (And.intro hl3 A)))
  have c2 : w3.cell? ⟨gl, 2, none⟩ = some (.slice a g.l.length cap) := hl3.cell 2 _ rfl
  have c3 : w3.cell? ⟨gl, 3, none⟩ = some (.int .i64 (g.fa : Int)) := hl3.cell 3 _ rfl
  have c4 : w3.cell? ⟨gl, 4, none⟩ = some (.int .i64 (g.on : Int)) := hl3.cell 4 _ rfl
  have f2 := hl3.free 2
  have f3 := hl3.free 3
  have f4 := hl3.free 4
  have e3 : (g.fa : Int) - (k : Int) = ((g.fa - k : Nat) : Int) := by omega
  have e4 : (g.on : Int) - (k : Int) = ((g.on - k : Nat) : Int) := by omega
  clear hr3 hT3 hl3 A
  go_wp2
  go_ret2
  have hTs : Tn (Is gl) w3 (((w3.setCell ⟨gl, 2, none⟩ (.slice a (g.l.length - k) cap)).setCell ⟨gl, 3, none⟩ (.int .i64 ((g.fa - k : Nat) : Int))).setCell ⟨gl, 4, none⟩ (.int .i64 ((g.on - k : Nat) : Int))) := (((Tn.refl (Is gl) w3).set gl 2 _ rfl).set gl 3 _ rfl).set gl 4 _ rfl
  refine ⟨rfl, ?_, ((H2.out.2.then (H3.out.2.1.weak (fun k hk => .inr (.inr (.inr (.inr (.inl hk))))))).then (hTs.weak (fun k hk => .inl hk)))⟩
  have L := H2.out.1
  have A := H3.out.2.2.2
  have hLo : Loose B w2 (blk a) := L.recs.loose
  refine ⟨L.lowl, L.lowc, L.lowt, L.lowb, ?_, ?_, ?_, ?_, ?_, ?_, L.apart⟩
  · have e := ((H3.out.2.2.1.set 2 (.slice a (g.l.length - k) cap)).set 3 (.int .i64 ((g.fa - k : Nat) : Int))).set 4 (.int .i64 ((g.on - k : Nat) : Int))
    show RowAt _ gl _ #[.pointer (some ⟨gc, 0, none⟩), .pointer (some ⟨gt, 0, none⟩), .slice a (g.l.drop k).length cap, .int .i64 ((g.fa - k : Nat) : Int), .int .i64 ((g.on - k : Nat) : Int), .slice wa bs.length wc, .int .u64 (g.du : Int), .int .i64 (g.hd : Int)]
    rw [List.length_drop]
    exact e
  · exact ⟨L.clock.1, hTs.row (H3.out.2.1.row L.clock.2 A.ca) (fun e => A.lc (show gc = gl from e).symm)⟩
  · have q1 := L.tape.keep (H3.out.2.1.block _ L.tape.lt.1 A.ta) (H3.out.2.1.block _ L.tape.lt.2 A.ba)
    exact q1.keep (hTs.block _ q1.lt.1 (fun e => A.lt (show gt = gl from e).symm)) (hTs.block _ q1.lt.2 (fun e => A.lb (show gb = gl from e).symm))
  · exact H3.out.1.keep (F := Is gl) (fun q hq => ⟨by rw [show q = gl from hq]; exact L.lowl, by rw [show q = gl from hq]; exact H3.out.2.2.1.lt, fun ty cs hrow => by rw [show q = gl from hq] at hrow; rw [row_kind hrow H3.out.2.2.1]; decide⟩) hTs (fun q hq e => A.la (by rw [← show q = gl from e]; exact hq))
  · show msR (ms.drop k) = g.l.drop k
    rw [← show msR ms = g.l from L.same]
    simp [msR, List.map_drop]
  · have q1 : WB B w3 wa wc bs := L.wait.keep (fun q hq => H3.out.2.1.block q (by obtain ⟨_, _, hr⟩ := L.wait.kind q hq; exact hr.lt) (fun ha => A.aw q ha hq))
    exact q1.keep (fun q hq => hTs.block q (by obtain ⟨_, _, hr⟩ := q1.kind q hq; exact hr.lt) (fun e => A.lw (by rw [← show q = gl from e]; exact hq)))
end
end Go.Proofs.Ytfbelaalmdcaaaa
