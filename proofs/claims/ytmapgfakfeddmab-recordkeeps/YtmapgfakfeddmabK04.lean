/-
  Texts that lean on one another, one behind the other: each opens with its own remark.
-/
import Derived.WalkKit
import Derived.OpenShut
import Derived.ShutString
import Derived.SizedLaws
import Derived.ChangeOld
import Derived.Deep.Slices
import Derived.Lib.SmallJoins
import Derived.Test.YtmapgfakfeddmabRows
import Derived.Test.YtmapgfakfeddmabK03
import Derived.Test.YtmapgfakfeddmabK02
import Derived.Test.YtmapgfakfeddmabK00

/-
  The reader of package record: dirty.
-/
namespace Go.Proofs.Ytmapgfakfeddmab
open Go.RowKit
set_option linter.unusedVariables false

set_option maxRecDepth 4000 in
set_option maxHeartbeats 3200000 in
theorem bdirty_any (g : Nat) (a : Option Addr) (len cap : Nat) (bs : List UInt8) (s : St) (r : Rec) (va vb : Value) (w : World) (h : RbAt w g a len cap bs s r va vb) :
    Calls Try.prog 24 #[.pointer (some ⟨g, 0, none⟩)] w fun e w' => ∃ v, e = .returned v ∧ w'.ownsRow w.heap.size 39 2 v (cntN 32 s) (flatD (itL pDi (cntN 32 s) (pIn 0 32 s).2)) ∧ RbAt w' g a len cap bs (itS pDi (cntN 32 s) (pIn 0 32 s).2) r va vb ∧ w.grownBy w' (some g) := by
  have HC := hide (fun x h => bcount_any g a len cap bs s r va vb 32 x (by omega) h)
  have hcn : cntN 32 s ≤ 255 := by
    unfold cntN
    split
    · rw [in_val]
      have := num_lt 1 s
      omega
    · omega
  have HG := hide h.lt
  generalize hcN : cntN 32 s = cn at *
  generalize hs0 : (pIn 0 32 s).2 = s0 at *
  clear hcN hs0
  have hb0 := (Below.refl w.heap.size w).alloc (Nat.le_refl _) (.cells #[] 39)
  have HK0 : Hid (TK w (w.alloc (.cells #[] 39)) g a len cap bs s r va vb 39 2 (.slice (some ⟨w.heap.size, 0, none⟩) 0 0) 0 [] []) :=
    ⟨⟨h.later hb0, of_below hb0, trivial⟩, World.ownsRow_made w #[] 0 (Nat.le_refl _) (by unfold maxLen; omega) rfl, fun e he => (nomatch he), h.lt⟩
  clear hb0 h
  go_enter Try.func24, Try.ntmps24
  go_wp2_with fail
  refine (HC.out _ HK0.out.rb).mono ?_
  rintro e x1 ⟨rfl, hb, hg⟩
  have HK1 := hide (HK0.out.step hb hg (fun e he => nomatch he))
  clear hb hg HK0 HC
  obtain ⟨v0, hv0⟩ : ∃ v0, v0 = Value.slice (some ⟨w.heap.size, 0, none⟩) 0 0 := ⟨_, rfl⟩
  rw [← hv0] at HK1
  go_wp2
  rw [← hv0]
  clear hv0
  go_loopw [8, 3] (fun i v wr => ∃ j : Nat, j ≤ cn ∧ i = .int .i64 j ∧ TK w wr g a len cap bs (itS pDi j s0) r va vb 39 2 v j (flatD (itL pDi j s0)) []) (fun i _ _ => cn - (intOf i).toNat)
  case atStart => exact ⟨0, Nat.zero_le _, rfl, HK1.out⟩
  case round =>
    obtain ⟨j, hj, rfl, hk⟩ := hrel
    have HKJ := hide hk
    clear hk HK1
    by_cases hlt : j < cn
    case neg =>
      obtain rfl : j = cn := by omega
      have HX := HKJ
      clear HKJ HG
      go_wp2
      go_ret
      exact ⟨_, rfl, HX.out.own, HX.out.rb, HX.out.rk.gr⟩
    have jlt : (j : Int) < (cn : Int) := by omega
    obtain ⟨s, hsj⟩ : ∃ s', s' = itS pDi j s0 := ⟨_, rfl⟩
    obtain ⟨xs, hxs⟩ : ∃ xs, xs = flatD (itL pDi j s0) := ⟨_, rfl⟩
    rw [← hsj, ← hxs] at HKJ
    have HSJ := hide hsj
    have HXS := hide hxs
    clear hsj hxs
    obtain ⟨n1, s1, h1⟩ : ∃ n s', pNum 2 s = (n, s') := ⟨_, _, rfl⟩
    have b1 : n1 < 256 ^ 2 := by have := num_lt 2 s; rw [h1] at this; exact this
    have N1 := hide (fun x h => bnum_any g a len cap bs s r va vb 2 x (by omega) h)
    have ew1 := conv_i64 n1 (by omega)
    rw [h1] at N1
    obtain ⟨n2, s2, h2⟩ : ∃ n s', pNum 8 s1 = (n, s') := ⟨_, _, rfl⟩
    have b2 : n2 < 256 ^ 8 := by have := num_lt 8 s1; rw [h2] at this; exact this
    have N2 := hide (fun x h => bnum_any g a len cap bs s1 r va vb 8 x (by omega) h)
    rw [h2] at N2
    have hP : pDi s = (⟨n1, n2⟩, s2) := by
      simp only [pDi, bindP, pureP, h1, h2]
    have HP := hide hP
    clear hP h1 b1 h2 b2
    obtain ⟨gt, hgt⟩ : ∃ gt, gt = wr.heap.size := ⟨_, rfl⟩
    have HK0 : Hid (TK w (wr.alloc (.cells #[.int .i64 0, .int .u64 0] 39)) g a len cap bs s r va vb 39 2 u3 j xs [(wr.heap.size, 39, #[.int .i64 0, .int .u64 0])]) := HKJ.out.more ((Below.refl _ _).alloc (Nat.le_refl _) _) (RowAt.new _ _ _)
    have HGG : Hid (g < gt ∧ w.heap.size ≤ gt) := ⟨by rw [hgt]; exact HKJ.out.rb.lt, by rw [hgt]; exact HKJ.out.rk.gr.size⟩
    have HRS : Hid (∀ e ∈ ([] : List (Nat × TypeId × Array Value)), e.1 ≠ gt) := fun e he => nomatch he
    have HO0 : Hid (∀ cs : Array Value, Off g [(gt, 39, cs)]) := fun cs e he => by
      simp only [List.mem_cons, List.not_mem_nil, or_false] at he
      subst he
      exact Nat.ne_of_gt HGG.out.1
    clear HKJ
    go_wp2_with fail
    rw [← hgt] at HK0
    rw [← hgt]
    refine gen_calls (fun x => Hid (TK w x g a len cap bs s r va vb 39 2 u3 j xs [(gt, 39, #[.int .i64 0, .int .u64 0])])) HK0 ?_
    clear HK0 hgt
    intro y0 HK0
    refine (N1.out _ HK0.out.rb).mono ?_
    rintro e x1 ⟨rfl, hb, hg⟩
    have HL1 := hide (HK0.out.step hb hg (HO0.out _))
    clear hb hg HK0 N1
    have d := HL1.out.has.1.cell 0 (.int .i64 0) rfl
    have f := HL1.out.has.1.free 0
    have HK1 : Hid (TK w (x1.setCell ⟨gt, 0, none⟩ (.int .i64 (n1 : Int))) g a len cap bs s1 r va vb 39 2 u3 j xs [(gt, 39, #[.int .i64 (n1 : Int), .int .u64 0])]) := HL1.out.put HGG.out.1 HGG.out.2 HRS.out 0 (.int .i64 (n1 : Int))
    clear HL1
    go_wp2_with fail
    refine gen_calls (fun x => Hid (TK w x g a len cap bs s1 r va vb 39 2 u3 j xs [(gt, 39, #[.int .i64 (n1 : Int), .int .u64 0])])) HK1 ?_
    clear HK1 d f
    intro y1 HK1
    refine (N2.out _ HK1.out.rb).mono ?_
    rintro e x2 ⟨rfl, hb, hg⟩
    have HL2 := hide (HK1.out.step hb hg (HO0.out _))
    clear hb hg HK1 N2
    have d := HL2.out.has.1.cell 1 (.int .u64 0) rfl
    have f := HL2.out.has.1.free 1
    have HK2 : Hid (TK w (x2.setCell ⟨gt, 1, none⟩ (.int .u64 (n2 : Int))) g a len cap bs s2 r va vb 39 2 u3 j xs [(gt, 39, #[.int .i64 (n1 : Int), .int .u64 (n2 : Int)])]) := HL2.out.put HGG.out.1 HGG.out.2 HRS.out 1 (.int .u64 (n2 : Int))
    clear HL2
    go_wp2_with (first | (refine wpList_load_at rfl 39 (.tmp 4) rfl gt rfl #[.int .i64 (n1 : Int), .int .u64 (n2 : Int)] HK2.out.has.1 _ Try.underlying39 rfl infoDi ?_) | (at_builtin; refine wpList_append_row _ rfl (.tmp 18) (.tmp 20) 26 39 rfl #[.int .i64 0, .int .u64 0] 2 16 Try.underlying26 infoDi3 rfl (by decide) w.heap.size u3 j xs rfl (ownsRow_below HK2.out.own ((Below.refl (x2.setCell ⟨gt, 1, none⟩ (.int .u64 (n2 : Int))).heap.size (x2.setCell ⟨gt, 1, none⟩ (.int .u64 (n2 : Int)))).alloc (Nat.le_refl _) (.cells #[.int .i64 (n1 : Int), .int .u64 (n2 : Int)] 39))) x2.heap.size #[.int .i64 (n1 : Int), .int .u64 (n2 : Int)] rfl (by simp [Value.oneCell']) rfl (row_new2 (x2.setCell ⟨gt, 1, none⟩ (.int .u64 (n2 : Int))) 39 #[.int .i64 (n1 : Int), .int .u64 (n2 : Int)] (by simp)) (by omega) (by omega) (Nat.le_trans HK2.out.rk.gr.size (by simp)) ?_))
    intro v' w9 ho9 hg9
    have HN := hide (HK2.out.push ((Below.refl (x2.setCell ⟨gt, 1, none⟩ (.int .u64 (n2 : Int))).heap.size (x2.setCell ⟨gt, 1, none⟩ (.int .u64 (n2 : Int)))).alloc (Nat.le_refl _) (.cells #[.int .i64 (n1 : Int), .int .u64 (n2 : Int)] 39)) ho9 hg9)
    clear ho9 hg9 HK2 d f HGG HRS HO0
    go_wp2
    go_roundw
    case rel =>
      refine ⟨j + 1, by omega, by go_num, ?_⟩
      have e1 : itS pDi (j + 1) s0 = s2 := by rw [itS_more, ← HSJ.out, HP.out]
      have e2 : flatD (itL pDi (j + 1) s0) = xs ++ (#[.int .i64 (n1 : Int), .int .u64 (n2 : Int)] : Array Value).toList := by
        rw [itL_more, ← HSJ.out, HP.out, HXS.out]
        unfold flatD
        rw [List.flatMap_append]
        simp [diA]
      rw [e1, e2]
      exact HN.out
    case measure => simp [intOf]; omega
end Go.Proofs.Ytmapgfakfeddmab

/-
  The reader of package record: what is written into its own block; what the parser answers.
-/
namespace Go.Proofs.Ytmapgfakfeddmab
open Go.RowKit
set_option linter.unusedVariables false

theorem RbAt.setc {w : World} {g : Nat} {a : Option Addr} {len cap : Nat} {bs : List UInt8} {s : St} {r : Rec} {va vb : Value} (h : RbAt w g a len cap bs s r va vb) (j : Nat) (v : Value) (r' : Rec) (va' vb' : Value)
    (hs : ∀ k, (rdB (.slice a len cap) k s.e r va vb).setIfInBounds j v = rdB (.slice a len cap) k s.e r' va' vb') : RbAt (w.setCell ⟨g, j, none⟩ v) g a len cap bs s r' va' vb' := by
  obtain ⟨k, h1, h2, h3⟩ := h.row
  have hr := h1.set j v
  rw [hs] at hr
  exact ⟨⟨k, hr, h2, h3⟩, isB_grown h.bytes (grown_set v (grown_refl w (some g))) (apart_ne h.apart), h.room, h.apart⟩
theorem RbAt.setch {w : World} {g : Nat} {a : Option Addr} {len cap : Nat} {bs : List UInt8} {s : St} {r : Rec} {va vb : Value} (h : RbAt w g a len cap bs s r va vb) (c : Ch) : RbAt (w.setCells g 7 (chA c).toList) g a len cap bs s ⟨r.k, r.l, r.t, r.p, c, r.n, r.s, r.b, r.ts, r.ds⟩ va vb :=
  ((((h.setc 7 (.int .i64 c.k) ⟨r.k, r.l, r.t, r.p, ⟨c.k, r.c.pg, r.c.sl, r.c.o, r.c.n⟩, r.n, r.s, r.b, r.ts, r.ds⟩ va vb (fun _ => rfl)).setc 8 (.int .i64 c.pg) ⟨r.k, r.l, r.t, r.p, ⟨c.k, c.pg, r.c.sl, r.c.o, r.c.n⟩, r.n, r.s, r.b, r.ts, r.ds⟩ va vb (fun _ => rfl)).setc 9 (.int .i64 c.sl) ⟨r.k, r.l, r.t, r.p, ⟨c.k, c.pg, c.sl, r.c.o, r.c.n⟩, r.n, r.s, r.b, r.ts, r.ds⟩ va vb (fun _ => rfl)).setc 10 (.string c.o) ⟨r.k, r.l, r.t, r.p, ⟨c.k, c.pg, c.sl, c.o, r.c.n⟩, r.n, r.s, r.b, r.ts, r.ds⟩ va vb (fun _ => rfl)).setc 11 (.string c.n) ⟨r.k, r.l, r.t, r.p, c, r.n, r.s, r.b, r.ts, r.ds⟩ va vb (fun _ => rfl)
theorem grown_setch {w x : World} {g : Nat} (h : w.grownBy x (some g)) (c : Ch) : w.grownBy (x.setCells g 7 (chA c).toList) (some g) := grown_set _ (grown_set _ (grown_set _ (grown_set _ (grown_set _ h))))
theorem RbAt.there {w : World} {g : Nat} {a : Option Addr} {len cap : Nat} {bs : List UInt8} {s : St} {r : Rec} {va vb : Value} (h : RbAt w g a len cap bs s r va vb) : w.there g 7 5 := by
  obtain ⟨k, h1, _⟩ := h.row
  exact row_there h1 7 5 (by show 7 + 5 ≤ 17; omega)

theorem own_shape5 {w : World} {base n sz : Nat} {e : TypeId} {v : Value} {xs : List Value} (h : w.ownsRow base e sz v n xs) : ∃ a c, v = .slice a n c := by
  rcases h.2 with ⟨h1, h2⟩ | ⟨g', cap, cur, h2, _⟩
  · exact ⟨none, 0, by rw [h1, h2]⟩
  · exact ⟨_, _, h2⟩

theorem own_mono {w : World} {base base' n sz : Nat} {e : TypeId} {v : Value} {xs : List Value} (h : w.ownsRow base e sz v n xs) (hb : base' ≤ base) : w.ownsRow base' e sz v n xs := by
  refine ⟨h.1, h.2.imp id ?_⟩
  rintro ⟨g', cap, cur, h2, h3, h4⟩
  exact ⟨g', cap, cur, h2, Nat.le_trans hb h3, h4⟩

/-! ### The parser, in the order of the code -/
def recRest (k : Nat) : St → Rec × St := bindP (pNum 8) fun l => bindP (pNum 4) fun t => bindP (pNum 8) fun p => bindP (pMay (k ≤ 2) Ch.zero pCh) fun c => bindP (pMay (k = 2) 0 (pNum 8)) fun n => bindP (pMay (k = 6) 0 (pNum 1)) fun s =>
    bindP (pMay (k = 8) (0, [], []) pCheck) fun x => pureP ⟨k, l, t, p, c, n, s, x.1, x.2.1, x.2.2⟩
theorem rec_rest (s : St) : pRec s = recRest (pIn 1 8 s).1 (pIn 1 8 s).2 := rfl
theorem Good.rest (k : Nat) : Good (recRest k) := (Good.num 8).bind fun _ => (Good.num 4).bind fun _ => (Good.num 8).bind fun _ => (Good.may Good.ch).bind fun _ => (Good.may (Good.num 8)).bind fun _ => (Good.may (Good.num 1)).bind fun _ => (Good.may Good.check).bind fun _ => Good.pure _
theorem kind_bad {s : St} (hs : s.e = 0) (h : (pIn 1 8 s).2.e ≠ 0) : (pIn 1 8 s).1 < 1 ∨ 8 < (pIn 1 8 s).1 := by
  rw [in_val]
  by_cases h1 : (pNum 1 s).2.e = 0
  · by_cases hb : (pNum 1 s).1 < 1 ∨ 8 < (pNum 1 s).1
    · exact hb
    · have e : pIn 1 8 s = pNum 1 s := by unfold pIn; rw [if_neg (fun h => hb h.2)]
      rw [e] at h
      exact absurd h1 h
  · rw [num_zero h1]
    omega
theorem kind_good {s : St} (h : (pIn 1 8 s).2.e = 0) : 1 ≤ (pIn 1 8 s).1 ∧ (pIn 1 8 s).1 ≤ 8 := by
  by_cases hb : (pNum 1 s).2.e = 0 ∧ ((pNum 1 s).1 < 1 ∨ 8 < (pNum 1 s).1)
  · have e : pIn 1 8 s = ((pNum 1 s).1, ⟨(pNum 1 s).2.l, 2⟩) := by unfold pIn; rw [if_pos hb]
    rw [e] at h
    cases h
  · have e : pIn 1 8 s = pNum 1 s := by unfold pIn; rw [if_neg hb]
    rw [e] at h ⊢
    by_cases h2 : (pNum 1 s).1 < 1 ∨ 8 < (pNum 1 s).1
    · exact absurd ⟨h, h2⟩ hb
    · omega
theorem cnt_some {α : Type} {p : St → α × St} (hp : Good p) (m : Nat) (s : St) : (pSome p (pIn 0 m s).1 (pIn 0 m s).2).2 = itS p (cntN m s) (pIn 0 m s).2 ∧ ((pSome p (pIn 0 m s).1 (pIn 0 m s).2).2.e = 0 → (pSome p (pIn 0 m s).1 (pIn 0 m s).2).1 = itL p (cntN m s) (pIn 0 m s).2) := by
  by_cases h : (pIn 0 m s).2.e = 0
  · have e : cntN m s = (pIn 0 m s).1 := by unfold cntN; rw [if_pos h]
    rw [e]
    exact some_it hp _ _
  · have e : cntN m s = 0 := by unfold cntN; rw [if_neg h]
    rw [e, (Good.some hp _).stick _ h]
    exact ⟨rfl, fun h2 => absurd h2 h⟩
/-- What the call 'record' leaves. -/
def RecDone (w w' : World) (g : Nat) (a : Option Addr) (len cap : Nat) (bs : List UInt8) (s : St) : Prop :=
  ∃ r va vb, RbAt w' g a len cap bs (pRec s).2 r va vb ∧ ((pRec s).2.e = 0 → r = (pRec s).1) ∧ w'.ownsRow w.heap.size 37 5 va r.ts.length (flatT r.ts) ∧ w'.ownsRow w.heap.size 39 2 vb r.ds.length (flatD r.ds) ∧ w.grownBy w' (some g)
end Go.Proofs.Ytmapgfakfeddmab

/-
  The reader of package record: record, a kind that is none.
-/
namespace Go.Proofs.Ytmapgfakfeddmab
open Go.RowKit
set_option linter.unusedVariables false

set_option maxRecDepth 4000 in
set_option maxHeartbeats 3200000 in
theorem brec_no (g : Nat) (a : Option Addr) (len cap : Nat) (bs : List UInt8) (s : St) (hs : s.e = 0) (w : World) (hk : (pIn 1 8 s).2.e ≠ 0) (h : RbAt w g a len cap bs s Rec.zero (.slice none 0 0) (.slice none 0 0)) :
    Calls Try.prog 13 #[.pointer (some ⟨g, 0, none⟩)] w fun e w' => e = .returned (.tuple #[]) ∧ RecDone w w' g a len cap bs s := by
  obtain ⟨kd, s0, h0⟩ : ∃ n s', pIn 1 8 s = (n, s') := ⟨_, _, rfl⟩
  obtain ⟨l, s1, h1⟩ : ∃ n s', pNum 8 s0 = (n, s') := ⟨_, _, rfl⟩
  obtain ⟨t, s2, h2⟩ : ∃ n s', pNum 4 s1 = (n, s') := ⟨_, _, rfl⟩
  obtain ⟨p, s3, h3⟩ : ∃ n s', pNum 8 s2 = (n, s') := ⟨_, _, rfl⟩
  have bt : t < 256 ^ 4 := by have := num_lt 4 s1; rw [h2] at this; exact this
  have ewt := conv_i64 t (by omega)
  have C0 := hide (fun r va vb x h => bkind_any g a len cap bs s r va vb x h)
  have C1 := hide (fun r va vb x h => bnum_any g a len cap bs s0 r va vb 8 x (by omega) h)
  have C2 := hide (fun r va vb x h => bnum_any g a len cap bs s1 r va vb 4 x (by omega) h)
  have C3 := hide (fun r va vb x h => bnum_any g a len cap bs s2 r va vb 8 x (by omega) h)
  rw [h0] at C0
  rw [h1] at C1
  rw [h2] at C2
  rw [h3] at C3
  have HGL := hide h.lt
  have hbad := kind_bad hs (by rw [h0] at hk; rw [h0]; exact hk)
  rw [h0] at hbad hk
  simp only at hbad hk
  have hst : (pRec s).2 = s0 := by
    rw [rec_rest, h0]
    exact (Good.rest kd).stick s0 hk
  have e1 : pNum 8 s0 = (0, s0) := by unfold pNum; rw [if_pos hk]
  rw [e1] at h1
  cases h1
  have e2 : pNum 4 s0 = (0, s0) := by unfold pNum; rw [if_pos hk]
  rw [e2] at h2
  cases h2
  have e3 : pNum 8 s0 = (0, s0) := by unfold pNum; rw [if_pos hk]
  rw [e3] at h3
  cases h3
  have hfin : Hid ((pRec s).2 = s0 ∧ s0.e ≠ 0) := ⟨hst, hk⟩
  have m1 : ((kd : Int) == 1) = false := by rw [beq_eq_false_iff_ne]; omega
  have m2 : ((kd : Int) == 2) = false := by rw [beq_eq_false_iff_ne]; omega
  have m6 : ((kd : Int) == 6) = false := by rw [beq_eq_false_iff_ne]; omega
  have m8 : ((kd : Int) == 8) = false := by rw [beq_eq_false_iff_ne]; omega
  clear hk hst e1 e2 e3 hbad hs bt h0
  have HB0 : Hid (RbAt w g a len cap bs s Rec.zero (.slice none 0 0) (.slice none 0 0) ∧ w.grownBy w (some g)) := ⟨h, grown_refl w _⟩
  clear h
  go_enter Try.func13, Try.ntmps13
  go_wp2_with fail
  refine (C0.out _ _ _ _ HB0.out.1).mono ?_
  rintro e x1 ⟨rfl, hb, hg⟩
  have HX : Hid (RbAt x1 g a len cap bs s0 Rec.zero (.slice none 0 0) (.slice none 0 0) ∧ w.grownBy x1 (some g)) := ⟨hb, grown_trans HB0.out.2 hg⟩
  clear hb hg HB0 C0
  obtain ⟨k, q, -, -⟩ := HX.out.1.row
  have c := q.cell 3 (.int .i64 0) rfl
  have f := q.free 3
  clear q
  have HB1 : Hid (RbAt (x1.setCell ⟨g, 3, none⟩ (.int .i64 ((kd : Nat) : Int))) g a len cap bs s0 ⟨kd, 0, 0, 0, Ch.zero, 0, 0, 0, [], []⟩ (.slice none 0 0) (.slice none 0 0) ∧ w.grownBy (x1.setCell ⟨g, 3, none⟩ (.int .i64 ((kd : Nat) : Int))) (some g)) := ⟨HX.out.1.setc 3 (.int .i64 ((kd : Nat) : Int)) ⟨kd, 0, 0, 0, Ch.zero, 0, 0, 0, [], []⟩ _ _ (fun _ => rfl), grown_set _ HX.out.2⟩
  clear HX
  go_wp2_with fail
  refine gen_calls (fun x => Hid (RbAt x g a len cap bs s0 ⟨kd, 0, 0, 0, Ch.zero, 0, 0, 0, [], []⟩ (.slice none 0 0) (.slice none 0 0) ∧ w.grownBy x (some g))) HB1 ?_
  clear HB1 c f
  intro y1 HB1
  refine (C1.out _ _ _ _ HB1.out.1).mono ?_
  rintro e x2 ⟨rfl, hb, hg⟩
  have HX : Hid (RbAt x2 g a len cap bs s0 ⟨kd, 0, 0, 0, Ch.zero, 0, 0, 0, [], []⟩ (.slice none 0 0) (.slice none 0 0) ∧ w.grownBy x2 (some g)) := ⟨hb, grown_trans HB1.out.2 hg⟩
  clear hb hg HB1 C1
  obtain ⟨k, q, -, -⟩ := HX.out.1.row
  have c := q.cell 4 (.int .u64 0) rfl
  have f := q.free 4
  clear q
  have HB2 : Hid (RbAt (x2.setCell ⟨g, 4, none⟩ (.int .u64 0)) g a len cap bs s0 ⟨kd, 0, 0, 0, Ch.zero, 0, 0, 0, [], []⟩ (.slice none 0 0) (.slice none 0 0) ∧ w.grownBy (x2.setCell ⟨g, 4, none⟩ (.int .u64 0)) (some g)) := ⟨HX.out.1.setc 4 (.int .u64 0) ⟨kd, 0, 0, 0, Ch.zero, 0, 0, 0, [], []⟩ _ _ (fun _ => rfl), grown_set _ HX.out.2⟩
  clear HX
  go_wp2_with fail
  refine gen_calls (fun x => Hid (RbAt x g a len cap bs s0 ⟨kd, 0, 0, 0, Ch.zero, 0, 0, 0, [], []⟩ (.slice none 0 0) (.slice none 0 0) ∧ w.grownBy x (some g))) HB2 ?_
  clear HB2 c f
  intro y2 HB2
  refine (C2.out _ _ _ _ HB2.out.1).mono ?_
  rintro e x3 ⟨rfl, hb, hg⟩
  have HX : Hid (RbAt x3 g a len cap bs s0 ⟨kd, 0, 0, 0, Ch.zero, 0, 0, 0, [], []⟩ (.slice none 0 0) (.slice none 0 0) ∧ w.grownBy x3 (some g)) := ⟨hb, grown_trans HB2.out.2 hg⟩
  clear hb hg HB2 C2
  obtain ⟨k, q, -, -⟩ := HX.out.1.row
  have c := q.cell 5 (.int .i64 0) rfl
  have f := q.free 5
  clear q
  have HB3 : Hid (RbAt (x3.setCell ⟨g, 5, none⟩ (.int .i64 0)) g a len cap bs s0 ⟨kd, 0, 0, 0, Ch.zero, 0, 0, 0, [], []⟩ (.slice none 0 0) (.slice none 0 0) ∧ w.grownBy (x3.setCell ⟨g, 5, none⟩ (.int .i64 0)) (some g)) := ⟨HX.out.1.setc 5 (.int .i64 0) ⟨kd, 0, 0, 0, Ch.zero, 0, 0, 0, [], []⟩ _ _ (fun _ => rfl), grown_set _ HX.out.2⟩
  clear HX
  go_wp2_with fail
  refine gen_calls (fun x => Hid (RbAt x g a len cap bs s0 ⟨kd, 0, 0, 0, Ch.zero, 0, 0, 0, [], []⟩ (.slice none 0 0) (.slice none 0 0) ∧ w.grownBy x (some g))) HB3 ?_
  clear HB3 c f
  intro y3 HB3
  refine (C3.out _ _ _ _ HB3.out.1).mono ?_
  rintro e x4 ⟨rfl, hb, hg⟩
  have HX : Hid (RbAt x4 g a len cap bs s0 ⟨kd, 0, 0, 0, Ch.zero, 0, 0, 0, [], []⟩ (.slice none 0 0) (.slice none 0 0) ∧ w.grownBy x4 (some g)) := ⟨hb, grown_trans HB3.out.2 hg⟩
  clear hb hg HB3 C3
  obtain ⟨k, q, -, -⟩ := HX.out.1.row
  have c := q.cell 6 (.int .u64 0) rfl
  have f := q.free 6
  have c3 := q.cell 3 (.int .i64 ((kd : Nat) : Int)) rfl
  clear q
  have HB4 : Hid (RbAt (x4.setCell ⟨g, 6, none⟩ (.int .u64 0)) g a len cap bs s0 ⟨kd, 0, 0, 0, Ch.zero, 0, 0, 0, [], []⟩ (.slice none 0 0) (.slice none 0 0) ∧ w.grownBy (x4.setCell ⟨g, 6, none⟩ (.int .u64 0)) (some g)) := ⟨HX.out.1.setc 6 (.int .u64 0) ⟨kd, 0, 0, 0, Ch.zero, 0, 0, 0, [], []⟩ _ _ (fun _ => rfl), grown_set _ HX.out.2⟩
  clear HX
  go_wp2
  go_end0
  refine ⟨rfl, ⟨kd, 0, 0, 0, Ch.zero, 0, 0, 0, [], []⟩, _, _, by rw [hfin.out.1]; exact HB4.out.1, fun h => absurd h (by rw [hfin.out.1]; exact hfin.out.2), World.ownsRow_nil _ _ _ _, World.ownsRow_nil _ _ _ _, HB4.out.2⟩
end Go.Proofs.Ytmapgfakfeddmab

/-
  The reader of package record: record, kind 1.
-/
namespace Go.Proofs.Ytmapgfakfeddmab
open Go.RowKit
set_option linter.unusedVariables false

set_option maxRecDepth 4000 in
set_option maxHeartbeats 3200000 in
theorem brec_1 (g : Nat) (a : Option Addr) (len cap : Nat) (bs : List UInt8) (s : St) (hs : s.e = 0) (w : World) (hk : (pIn 1 8 s).1 = 1) (h : RbAt w g a len cap bs s Rec.zero (.slice none 0 0) (.slice none 0 0)) :
    Calls Try.prog 13 #[.pointer (some ⟨g, 0, none⟩)] w fun e w' => e = .returned (.tuple #[]) ∧ RecDone w w' g a len cap bs s := by
  obtain ⟨kd, s0, h0⟩ : ∃ n s', pIn 1 8 s = (n, s') := ⟨_, _, rfl⟩
  obtain ⟨l, s1, h1⟩ : ∃ n s', pNum 8 s0 = (n, s') := ⟨_, _, rfl⟩
  obtain ⟨t, s2, h2⟩ : ∃ n s', pNum 4 s1 = (n, s') := ⟨_, _, rfl⟩
  obtain ⟨p, s3, h3⟩ : ∃ n s', pNum 8 s2 = (n, s') := ⟨_, _, rfl⟩
  have bt : t < 256 ^ 4 := by have := num_lt 4 s1; rw [h2] at this; exact this
  have ewt := conv_i64 t (by omega)
  have C0 := hide (fun r va vb x h => bkind_any g a len cap bs s r va vb x h)
  have C1 := hide (fun r va vb x h => bnum_any g a len cap bs s0 r va vb 8 x (by omega) h)
  have C2 := hide (fun r va vb x h => bnum_any g a len cap bs s1 r va vb 4 x (by omega) h)
  have C3 := hide (fun r va vb x h => bnum_any g a len cap bs s2 r va vb 8 x (by omega) h)
  rw [h0] at C0
  rw [h1] at C1
  rw [h2] at C2
  rw [h3] at C3
  have HGL := hide h.lt
  have hkd : kd = 1 := by rw [h0] at hk; exact hk
  subst hkd
  obtain ⟨ch, s4, h4⟩ : ∃ n s', pCh s3 = (n, s') := ⟨_, _, rfl⟩
  have C4 := hide (fun r va vb x h => bchange_any g a len cap bs s3 r va vb x h)
  rw [h4] at C4
  have hfin : Hid (pRec s = (⟨1, l, t, p, ch, 0, 0, 0, [], []⟩, s4)) := by
    show pRec s = _
    rw [rec_rest, h0]
    simp [recRest, bindP, pureP, pMay, h1, h2, h3, h4]
  clear h4
  clear hs hk bt h0 h1 h2 h3
  have HB0 : Hid (RbAt w g a len cap bs s Rec.zero (.slice none 0 0) (.slice none 0 0) ∧ w.grownBy w (some g)) := ⟨h, grown_refl w _⟩
  clear h
  go_enter Try.func13, Try.ntmps13
  go_wp2_with fail
  refine (C0.out _ _ _ _ HB0.out.1).mono ?_
  rintro e x1 ⟨rfl, hb, hg⟩
  have HX : Hid (RbAt x1 g a len cap bs s0 Rec.zero (.slice none 0 0) (.slice none 0 0) ∧ w.grownBy x1 (some g)) := ⟨hb, grown_trans HB0.out.2 hg⟩
  clear hb hg HB0 C0
  obtain ⟨k, q, -, -⟩ := HX.out.1.row
  have c := q.cell 3 (.int .i64 0) rfl
  have f := q.free 3
  clear q
  have HB1 : Hid (RbAt (x1.setCell ⟨g, 3, none⟩ (.int .i64 1)) g a len cap bs s0 ⟨1, 0, 0, 0, Ch.zero, 0, 0, 0, [], []⟩ (.slice none 0 0) (.slice none 0 0) ∧ w.grownBy (x1.setCell ⟨g, 3, none⟩ (.int .i64 1)) (some g)) := ⟨HX.out.1.setc 3 (.int .i64 1) ⟨1, 0, 0, 0, Ch.zero, 0, 0, 0, [], []⟩ _ _ (fun _ => rfl), grown_set _ HX.out.2⟩
  clear HX
  go_wp2_with fail
  refine gen_calls (fun x => Hid (RbAt x g a len cap bs s0 ⟨1, 0, 0, 0, Ch.zero, 0, 0, 0, [], []⟩ (.slice none 0 0) (.slice none 0 0) ∧ w.grownBy x (some g))) HB1 ?_
  clear HB1 c f
  intro y1 HB1
  refine (C1.out _ _ _ _ HB1.out.1).mono ?_
  rintro e x2 ⟨rfl, hb, hg⟩
  have HX : Hid (RbAt x2 g a len cap bs s1 ⟨1, 0, 0, 0, Ch.zero, 0, 0, 0, [], []⟩ (.slice none 0 0) (.slice none 0 0) ∧ w.grownBy x2 (some g)) := ⟨hb, grown_trans HB1.out.2 hg⟩
  clear hb hg HB1 C1
  obtain ⟨k, q, -, -⟩ := HX.out.1.row
  have c := q.cell 4 (.int .u64 0) rfl
  have f := q.free 4
  clear q
  have HB2 : Hid (RbAt (x2.setCell ⟨g, 4, none⟩ (.int .u64 ((l : Nat) : Int))) g a len cap bs s1 ⟨1, l, 0, 0, Ch.zero, 0, 0, 0, [], []⟩ (.slice none 0 0) (.slice none 0 0) ∧ w.grownBy (x2.setCell ⟨g, 4, none⟩ (.int .u64 ((l : Nat) : Int))) (some g)) := ⟨HX.out.1.setc 4 (.int .u64 ((l : Nat) : Int)) ⟨1, l, 0, 0, Ch.zero, 0, 0, 0, [], []⟩ _ _ (fun _ => rfl), grown_set _ HX.out.2⟩
  clear HX
  go_wp2_with fail
  refine gen_calls (fun x => Hid (RbAt x g a len cap bs s1 ⟨1, l, 0, 0, Ch.zero, 0, 0, 0, [], []⟩ (.slice none 0 0) (.slice none 0 0) ∧ w.grownBy x (some g))) HB2 ?_
  clear HB2 c f
  intro y2 HB2
  refine (C2.out _ _ _ _ HB2.out.1).mono ?_
  rintro e x3 ⟨rfl, hb, hg⟩
  have HX : Hid (RbAt x3 g a len cap bs s2 ⟨1, l, 0, 0, Ch.zero, 0, 0, 0, [], []⟩ (.slice none 0 0) (.slice none 0 0) ∧ w.grownBy x3 (some g)) := ⟨hb, grown_trans HB2.out.2 hg⟩
  clear hb hg HB2 C2
  obtain ⟨k, q, -, -⟩ := HX.out.1.row
  have c := q.cell 5 (.int .i64 0) rfl
  have f := q.free 5
  clear q
  have HB3 : Hid (RbAt (x3.setCell ⟨g, 5, none⟩ (.int .i64 (t : Int))) g a len cap bs s2 ⟨1, l, t, 0, Ch.zero, 0, 0, 0, [], []⟩ (.slice none 0 0) (.slice none 0 0) ∧ w.grownBy (x3.setCell ⟨g, 5, none⟩ (.int .i64 (t : Int))) (some g)) := ⟨HX.out.1.setc 5 (.int .i64 (t : Int)) ⟨1, l, t, 0, Ch.zero, 0, 0, 0, [], []⟩ _ _ (fun _ => rfl), grown_set _ HX.out.2⟩
  clear HX
  go_wp2_with fail
  refine gen_calls (fun x => Hid (RbAt x g a len cap bs s2 ⟨1, l, t, 0, Ch.zero, 0, 0, 0, [], []⟩ (.slice none 0 0) (.slice none 0 0) ∧ w.grownBy x (some g))) HB3 ?_
  clear HB3 c f
  intro y3 HB3
  refine (C3.out _ _ _ _ HB3.out.1).mono ?_
  rintro e x4 ⟨rfl, hb, hg⟩
  have HX : Hid (RbAt x4 g a len cap bs s3 ⟨1, l, t, 0, Ch.zero, 0, 0, 0, [], []⟩ (.slice none 0 0) (.slice none 0 0) ∧ w.grownBy x4 (some g)) := ⟨hb, grown_trans HB3.out.2 hg⟩
  clear hb hg HB3 C3
  obtain ⟨k, q, -, -⟩ := HX.out.1.row
  have c := q.cell 6 (.int .u64 0) rfl
  have f := q.free 6
  have c3 := q.cell 3 (.int .i64 1) rfl
  clear q
  have HB4 : Hid (RbAt (x4.setCell ⟨g, 6, none⟩ (.int .u64 ((p : Nat) : Int))) g a len cap bs s3 ⟨1, l, t, p, Ch.zero, 0, 0, 0, [], []⟩ (.slice none 0 0) (.slice none 0 0) ∧ w.grownBy (x4.setCell ⟨g, 6, none⟩ (.int .u64 ((p : Nat) : Int))) (some g)) := ⟨HX.out.1.setc 6 (.int .u64 ((p : Nat) : Int)) ⟨1, l, t, p, Ch.zero, 0, 0, 0, [], []⟩ _ _ (fun _ => rfl), grown_set _ HX.out.2⟩
  clear HX
  go_wp2_with fail
  refine gen_calls (fun x => Hid (RbAt x g a len cap bs s3 ⟨1, l, t, p, Ch.zero, 0, 0, 0, [], []⟩ (.slice none 0 0) (.slice none 0 0) ∧ w.grownBy x (some g))) HB4 ?_
  clear HB4 c f c3
  intro y4 HB4
  refine (C4.out _ _ _ _ HB4.out.1).mono ?_
  rintro e x5 ⟨rfl, hb, hg⟩
  have HX : Hid (RbAt x5 g a len cap bs s4 ⟨1, l, t, p, Ch.zero, 0, 0, 0, [], []⟩ (.slice none 0 0) (.slice none 0 0) ∧ w.grownBy x5 (some g)) := ⟨hb, grown_trans HB4.out.2 hg⟩
  have HTH := hide hb.there
  clear hb hg HB4 C4
  have HB5 : Hid (RbAt (x5.setCells g 7 (chA ch).toList) g a len cap bs s4 ⟨1, l, t, p, ch, 0, 0, 0, [], []⟩ (.slice none 0 0) (.slice none 0 0) ∧ w.grownBy (x5.setCells g 7 (chA ch).toList) (some g)) := ⟨HX.out.1.setch ch, grown_setch HX.out.2 ch⟩
  clear HX
  go_wp2_with (refine wpList_store_mid rfl 24 (.tmp 39) (.tmp 36) rfl g 7 (chA ch) rfl rfl HTH.out infoCh (chA_one _) ?_)
  go_end0
  refine ⟨rfl, ⟨1, l, t, p, ch, 0, 0, 0, [], []⟩, _, _, by rw [hfin.out]; exact HB5.out.1, fun _ => by rw [hfin.out], World.ownsRow_nil _ _ _ _, World.ownsRow_nil _ _ _ _, HB5.out.2⟩
end Go.Proofs.Ytmapgfakfeddmab

/-
  The reader of package record: record, kind 2.
-/
namespace Go.Proofs.Ytmapgfakfeddmab
open Go.RowKit
set_option linter.unusedVariables false

set_option maxRecDepth 4000 in
set_option maxHeartbeats 3200000 in
theorem brec_2 (g : Nat) (a : Option Addr) (len cap : Nat) (bs : List UInt8) (s : St) (hs : s.e = 0) (w : World) (hk : (pIn 1 8 s).1 = 2) (h : RbAt w g a len cap bs s Rec.zero (.slice none 0 0) (.slice none 0 0)) :
    Calls Try.prog 13 #[.pointer (some ⟨g, 0, none⟩)] w fun e w' => e = .returned (.tuple #[]) ∧ RecDone w w' g a len cap bs s := by
  obtain ⟨kd, s0, h0⟩ : ∃ n s', pIn 1 8 s = (n, s') := ⟨_, _, rfl⟩
  obtain ⟨l, s1, h1⟩ : ∃ n s', pNum 8 s0 = (n, s') := ⟨_, _, rfl⟩
  obtain ⟨t, s2, h2⟩ : ∃ n s', pNum 4 s1 = (n, s') := ⟨_, _, rfl⟩
  obtain ⟨p, s3, h3⟩ : ∃ n s', pNum 8 s2 = (n, s') := ⟨_, _, rfl⟩
  have bt : t < 256 ^ 4 := by have := num_lt 4 s1; rw [h2] at this; exact this
  have ewt := conv_i64 t (by omega)
  have C0 := hide (fun r va vb x h => bkind_any g a len cap bs s r va vb x h)
  have C1 := hide (fun r va vb x h => bnum_any g a len cap bs s0 r va vb 8 x (by omega) h)
  have C2 := hide (fun r va vb x h => bnum_any g a len cap bs s1 r va vb 4 x (by omega) h)
  have C3 := hide (fun r va vb x h => bnum_any g a len cap bs s2 r va vb 8 x (by omega) h)
  rw [h0] at C0
  rw [h1] at C1
  rw [h2] at C2
  rw [h3] at C3
  have HGL := hide h.lt
  have hkd : kd = 2 := by rw [h0] at hk; exact hk
  subst hkd
  obtain ⟨ch, s4, h4⟩ : ∃ n s', pCh s3 = (n, s') := ⟨_, _, rfl⟩
  have C4 := hide (fun r va vb x h => bchange_any g a len cap bs s3 r va vb x h)
  rw [h4] at C4
  obtain ⟨n, s5, h5⟩ : ∃ n s', pNum 8 s4 = (n, s') := ⟨_, _, rfl⟩
  have C5 := hide (fun r va vb x h => bnum_any g a len cap bs s4 r va vb 8 x (by omega) h)
  rw [h5] at C5
  have hfin : Hid (pRec s = (⟨2, l, t, p, ch, n, 0, 0, [], []⟩, s5)) := by
    show pRec s = _
    rw [rec_rest, h0]
    simp [recRest, bindP, pureP, pMay, h1, h2, h3, h4, h5]
  clear h4 h5
  clear hs hk bt h0 h1 h2 h3
  have HB0 : Hid (RbAt w g a len cap bs s Rec.zero (.slice none 0 0) (.slice none 0 0) ∧ w.grownBy w (some g)) := ⟨h, grown_refl w _⟩
  clear h
  go_enter Try.func13, Try.ntmps13
  go_wp2_with fail
  refine (C0.out _ _ _ _ HB0.out.1).mono ?_
  rintro e x1 ⟨rfl, hb, hg⟩
  have HX : Hid (RbAt x1 g a len cap bs s0 Rec.zero (.slice none 0 0) (.slice none 0 0) ∧ w.grownBy x1 (some g)) := ⟨hb, grown_trans HB0.out.2 hg⟩
  clear hb hg HB0 C0
  obtain ⟨k, q, -, -⟩ := HX.out.1.row
  have c := q.cell 3 (.int .i64 0) rfl
  have f := q.free 3
  clear q
  have HB1 : Hid (RbAt (x1.setCell ⟨g, 3, none⟩ (.int .i64 2)) g a len cap bs s0 ⟨2, 0, 0, 0, Ch.zero, 0, 0, 0, [], []⟩ (.slice none 0 0) (.slice none 0 0) ∧ w.grownBy (x1.setCell ⟨g, 3, none⟩ (.int .i64 2)) (some g)) := ⟨HX.out.1.setc 3 (.int .i64 2) ⟨2, 0, 0, 0, Ch.zero, 0, 0, 0, [], []⟩ _ _ (fun _ => rfl), grown_set _ HX.out.2⟩
  clear HX
  go_wp2_with fail
  refine gen_calls (fun x => Hid (RbAt x g a len cap bs s0 ⟨2, 0, 0, 0, Ch.zero, 0, 0, 0, [], []⟩ (.slice none 0 0) (.slice none 0 0) ∧ w.grownBy x (some g))) HB1 ?_
  clear HB1 c f
  intro y1 HB1
  refine (C1.out _ _ _ _ HB1.out.1).mono ?_
  rintro e x2 ⟨rfl, hb, hg⟩
  have HX : Hid (RbAt x2 g a len cap bs s1 ⟨2, 0, 0, 0, Ch.zero, 0, 0, 0, [], []⟩ (.slice none 0 0) (.slice none 0 0) ∧ w.grownBy x2 (some g)) := ⟨hb, grown_trans HB1.out.2 hg⟩
  clear hb hg HB1 C1
  obtain ⟨k, q, -, -⟩ := HX.out.1.row
  have c := q.cell 4 (.int .u64 0) rfl
  have f := q.free 4
  clear q
  have HB2 : Hid (RbAt (x2.setCell ⟨g, 4, none⟩ (.int .u64 ((l : Nat) : Int))) g a len cap bs s1 ⟨2, l, 0, 0, Ch.zero, 0, 0, 0, [], []⟩ (.slice none 0 0) (.slice none 0 0) ∧ w.grownBy (x2.setCell ⟨g, 4, none⟩ (.int .u64 ((l : Nat) : Int))) (some g)) := ⟨HX.out.1.setc 4 (.int .u64 ((l : Nat) : Int)) ⟨2, l, 0, 0, Ch.zero, 0, 0, 0, [], []⟩ _ _ (fun _ => rfl), grown_set _ HX.out.2⟩
  clear HX
  go_wp2_with fail
  refine gen_calls (fun x => Hid (RbAt x g a len cap bs s1 ⟨2, l, 0, 0, Ch.zero, 0, 0, 0, [], []⟩ (.slice none 0 0) (.slice none 0 0) ∧ w.grownBy x (some g))) HB2 ?_
  clear HB2 c f
  intro y2 HB2
  refine (C2.out _ _ _ _ HB2.out.1).mono ?_
  rintro e x3 ⟨rfl, hb, hg⟩
  have HX : Hid (RbAt x3 g a len cap bs s2 ⟨2, l, 0, 0, Ch.zero, 0, 0, 0, [], []⟩ (.slice none 0 0) (.slice none 0 0) ∧ w.grownBy x3 (some g)) := ⟨hb, grown_trans HB2.out.2 hg⟩
  clear hb hg HB2 C2
  obtain ⟨k, q, -, -⟩ := HX.out.1.row
  have c := q.cell 5 (.int .i64 0) rfl
  have f := q.free 5
  clear q
  have HB3 : Hid (RbAt (x3.setCell ⟨g, 5, none⟩ (.int .i64 (t : Int))) g a len cap bs s2 ⟨2, l, t, 0, Ch.zero, 0, 0, 0, [], []⟩ (.slice none 0 0) (.slice none 0 0) ∧ w.grownBy (x3.setCell ⟨g, 5, none⟩ (.int .i64 (t : Int))) (some g)) := ⟨HX.out.1.setc 5 (.int .i64 (t : Int)) ⟨2, l, t, 0, Ch.zero, 0, 0, 0, [], []⟩ _ _ (fun _ => rfl), grown_set _ HX.out.2⟩
  clear HX
  go_wp2_with fail
  refine gen_calls (fun x => Hid (RbAt x g a len cap bs s2 ⟨2, l, t, 0, Ch.zero, 0, 0, 0, [], []⟩ (.slice none 0 0) (.slice none 0 0) ∧ w.grownBy x (some g))) HB3 ?_
  clear HB3 c f
  intro y3 HB3
  refine (C3.out _ _ _ _ HB3.out.1).mono ?_
  rintro e x4 ⟨rfl, hb, hg⟩
  have HX : Hid (RbAt x4 g a len cap bs s3 ⟨2, l, t, 0, Ch.zero, 0, 0, 0, [], []⟩ (.slice none 0 0) (.slice none 0 0) ∧ w.grownBy x4 (some g)) := ⟨hb, grown_trans HB3.out.2 hg⟩
  clear hb hg HB3 C3
  obtain ⟨k, q, -, -⟩ := HX.out.1.row
  have c := q.cell 6 (.int .u64 0) rfl
  have f := q.free 6
  have c3 := q.cell 3 (.int .i64 2) rfl
  clear q
  have HB4 : Hid (RbAt (x4.setCell ⟨g, 6, none⟩ (.int .u64 ((p : Nat) : Int))) g a len cap bs s3 ⟨2, l, t, p, Ch.zero, 0, 0, 0, [], []⟩ (.slice none 0 0) (.slice none 0 0) ∧ w.grownBy (x4.setCell ⟨g, 6, none⟩ (.int .u64 ((p : Nat) : Int))) (some g)) := ⟨HX.out.1.setc 6 (.int .u64 ((p : Nat) : Int)) ⟨2, l, t, p, Ch.zero, 0, 0, 0, [], []⟩ _ _ (fun _ => rfl), grown_set _ HX.out.2⟩
  clear HX
  go_wp2_with fail
  refine gen_calls (fun x => Hid (RbAt x g a len cap bs s3 ⟨2, l, t, p, Ch.zero, 0, 0, 0, [], []⟩ (.slice none 0 0) (.slice none 0 0) ∧ w.grownBy x (some g))) HB4 ?_
  clear HB4 c f c3
  intro y4 HB4
  refine (C4.out _ _ _ _ HB4.out.1).mono ?_
  rintro e x5 ⟨rfl, hb, hg⟩
  have HX : Hid (RbAt x5 g a len cap bs s4 ⟨2, l, t, p, Ch.zero, 0, 0, 0, [], []⟩ (.slice none 0 0) (.slice none 0 0) ∧ w.grownBy x5 (some g)) := ⟨hb, grown_trans HB4.out.2 hg⟩
  have HTH := hide hb.there
  clear hb hg HB4 C4
  have HB5 : Hid (RbAt (x5.setCells g 7 (chA ch).toList) g a len cap bs s4 ⟨2, l, t, p, ch, 0, 0, 0, [], []⟩ (.slice none 0 0) (.slice none 0 0) ∧ w.grownBy (x5.setCells g 7 (chA ch).toList) (some g)) := ⟨HX.out.1.setch ch, grown_setch HX.out.2 ch⟩
  clear HX
  go_wp2_with (refine wpList_store_mid rfl 24 (.tmp 47) (.tmp 44) rfl g 7 (chA ch) rfl rfl HTH.out infoCh (chA_one _) ?_; refine gen_w (fun x => Hid (RbAt x g a len cap bs s4 ⟨2, l, t, p, ch, 0, 0, 0, [], []⟩ (.slice none 0 0) (.slice none 0 0) ∧ w.grownBy x (some g))) HB5 ?_; clear HB5 HTH; intro y5 HB5)
  refine (C5.out _ _ _ _ HB5.out.1).mono ?_
  rintro e x6 ⟨rfl, hb, hg⟩
  have HX : Hid (RbAt x6 g a len cap bs s5 ⟨2, l, t, p, ch, 0, 0, 0, [], []⟩ (.slice none 0 0) (.slice none 0 0) ∧ w.grownBy x6 (some g)) := ⟨hb, grown_trans HB5.out.2 hg⟩
  clear hb hg HB5 C5
  obtain ⟨k, q, -, -⟩ := HX.out.1.row
  have c := q.cell 12 (.int .u64 0) rfl
  have f := q.free 12
  clear q
  have HB6 : Hid (RbAt (x6.setCell ⟨g, 12, none⟩ (.int .u64 ((n : Nat) : Int))) g a len cap bs s5 ⟨2, l, t, p, ch, n, 0, 0, [], []⟩ (.slice none 0 0) (.slice none 0 0) ∧ w.grownBy (x6.setCell ⟨g, 12, none⟩ (.int .u64 ((n : Nat) : Int))) (some g)) := ⟨HX.out.1.setc 12 (.int .u64 ((n : Nat) : Int)) ⟨2, l, t, p, ch, n, 0, 0, [], []⟩ _ _ (fun _ => rfl), grown_set _ HX.out.2⟩
  clear HX
  go_wp2
  go_end0
  refine ⟨rfl, ⟨2, l, t, p, ch, n, 0, 0, [], []⟩, _, _, by rw [hfin.out]; exact HB6.out.1, fun _ => by rw [hfin.out], World.ownsRow_nil _ _ _ _, World.ownsRow_nil _ _ _ _, HB6.out.2⟩
end Go.Proofs.Ytmapgfakfeddmab

/-
  The reader of package record: record, kind 3.
-/
namespace Go.Proofs.Ytmapgfakfeddmab
open Go.RowKit
set_option linter.unusedVariables false

set_option maxRecDepth 4000 in
set_option maxHeartbeats 3200000 in
theorem brec_3 (g : Nat) (a : Option Addr) (len cap : Nat) (bs : List UInt8) (s : St) (hs : s.e = 0) (w : World) (hk : (pIn 1 8 s).1 = 3) (h : RbAt w g a len cap bs s Rec.zero (.slice none 0 0) (.slice none 0 0)) :
    Calls Try.prog 13 #[.pointer (some ⟨g, 0, none⟩)] w fun e w' => e = .returned (.tuple #[]) ∧ RecDone w w' g a len cap bs s := by
  obtain ⟨kd, s0, h0⟩ : ∃ n s', pIn 1 8 s = (n, s') := ⟨_, _, rfl⟩
  obtain ⟨l, s1, h1⟩ : ∃ n s', pNum 8 s0 = (n, s') := ⟨_, _, rfl⟩
  obtain ⟨t, s2, h2⟩ : ∃ n s', pNum 4 s1 = (n, s') := ⟨_, _, rfl⟩
  obtain ⟨p, s3, h3⟩ : ∃ n s', pNum 8 s2 = (n, s') := ⟨_, _, rfl⟩
  have bt : t < 256 ^ 4 := by have := num_lt 4 s1; rw [h2] at this; exact this
  have ewt := conv_i64 t (by omega)
  have C0 := hide (fun r va vb x h => bkind_any g a len cap bs s r va vb x h)
  have C1 := hide (fun r va vb x h => bnum_any g a len cap bs s0 r va vb 8 x (by omega) h)
  have C2 := hide (fun r va vb x h => bnum_any g a len cap bs s1 r va vb 4 x (by omega) h)
  have C3 := hide (fun r va vb x h => bnum_any g a len cap bs s2 r va vb 8 x (by omega) h)
  rw [h0] at C0
  rw [h1] at C1
  rw [h2] at C2
  rw [h3] at C3
  have HGL := hide h.lt
  have hkd : kd = 3 := by rw [h0] at hk; exact hk
  subst hkd
  have hfin : Hid (pRec s = (⟨3, l, t, p, Ch.zero, 0, 0, 0, [], []⟩, s3)) := by
    show pRec s = _
    rw [rec_rest, h0]
    simp [recRest, bindP, pureP, pMay, h1, h2, h3]
  clear hs hk bt h0 h1 h2 h3
  have HB0 : Hid (RbAt w g a len cap bs s Rec.zero (.slice none 0 0) (.slice none 0 0) ∧ w.grownBy w (some g)) := ⟨h, grown_refl w _⟩
  clear h
  go_enter Try.func13, Try.ntmps13
  go_wp2_with fail
  refine (C0.out _ _ _ _ HB0.out.1).mono ?_
  rintro e x1 ⟨rfl, hb, hg⟩
  have HX : Hid (RbAt x1 g a len cap bs s0 Rec.zero (.slice none 0 0) (.slice none 0 0) ∧ w.grownBy x1 (some g)) := ⟨hb, grown_trans HB0.out.2 hg⟩
  clear hb hg HB0 C0
  obtain ⟨k, q, -, -⟩ := HX.out.1.row
  have c := q.cell 3 (.int .i64 0) rfl
  have f := q.free 3
  clear q
  have HB1 : Hid (RbAt (x1.setCell ⟨g, 3, none⟩ (.int .i64 3)) g a len cap bs s0 ⟨3, 0, 0, 0, Ch.zero, 0, 0, 0, [], []⟩ (.slice none 0 0) (.slice none 0 0) ∧ w.grownBy (x1.setCell ⟨g, 3, none⟩ (.int .i64 3)) (some g)) := ⟨HX.out.1.setc 3 (.int .i64 3) ⟨3, 0, 0, 0, Ch.zero, 0, 0, 0, [], []⟩ _ _ (fun _ => rfl), grown_set _ HX.out.2⟩
  clear HX
  go_wp2_with fail
  refine gen_calls (fun x => Hid (RbAt x g a len cap bs s0 ⟨3, 0, 0, 0, Ch.zero, 0, 0, 0, [], []⟩ (.slice none 0 0) (.slice none 0 0) ∧ w.grownBy x (some g))) HB1 ?_
  clear HB1 c f
  intro y1 HB1
  refine (C1.out _ _ _ _ HB1.out.1).mono ?_
  rintro e x2 ⟨rfl, hb, hg⟩
  have HX : Hid (RbAt x2 g a len cap bs s1 ⟨3, 0, 0, 0, Ch.zero, 0, 0, 0, [], []⟩ (.slice none 0 0) (.slice none 0 0) ∧ w.grownBy x2 (some g)) := ⟨hb, grown_trans HB1.out.2 hg⟩
  clear hb hg HB1 C1
  obtain ⟨k, q, -, -⟩ := HX.out.1.row
  have c := q.cell 4 (.int .u64 0) rfl
  have f := q.free 4
  clear q
  have HB2 : Hid (RbAt (x2.setCell ⟨g, 4, none⟩ (.int .u64 ((l : Nat) : Int))) g a len cap bs s1 ⟨3, l, 0, 0, Ch.zero, 0, 0, 0, [], []⟩ (.slice none 0 0) (.slice none 0 0) ∧ w.grownBy (x2.setCell ⟨g, 4, none⟩ (.int .u64 ((l : Nat) : Int))) (some g)) := ⟨HX.out.1.setc 4 (.int .u64 ((l : Nat) : Int)) ⟨3, l, 0, 0, Ch.zero, 0, 0, 0, [], []⟩ _ _ (fun _ => rfl), grown_set _ HX.out.2⟩
  clear HX
  go_wp2_with fail
  refine gen_calls (fun x => Hid (RbAt x g a len cap bs s1 ⟨3, l, 0, 0, Ch.zero, 0, 0, 0, [], []⟩ (.slice none 0 0) (.slice none 0 0) ∧ w.grownBy x (some g))) HB2 ?_
  clear HB2 c f
  intro y2 HB2
  refine (C2.out _ _ _ _ HB2.out.1).mono ?_
  rintro e x3 ⟨rfl, hb, hg⟩
  have HX : Hid (RbAt x3 g a len cap bs s2 ⟨3, l, 0, 0, Ch.zero, 0, 0, 0, [], []⟩ (.slice none 0 0) (.slice none 0 0) ∧ w.grownBy x3 (some g)) := ⟨hb, grown_trans HB2.out.2 hg⟩
  clear hb hg HB2 C2
  obtain ⟨k, q, -, -⟩ := HX.out.1.row
  have c := q.cell 5 (.int .i64 0) rfl
  have f := q.free 5
  clear q
  have HB3 : Hid (RbAt (x3.setCell ⟨g, 5, none⟩ (.int .i64 (t : Int))) g a len cap bs s2 ⟨3, l, t, 0, Ch.zero, 0, 0, 0, [], []⟩ (.slice none 0 0) (.slice none 0 0) ∧ w.grownBy (x3.setCell ⟨g, 5, none⟩ (.int .i64 (t : Int))) (some g)) := ⟨HX.out.1.setc 5 (.int .i64 (t : Int)) ⟨3, l, t, 0, Ch.zero, 0, 0, 0, [], []⟩ _ _ (fun _ => rfl), grown_set _ HX.out.2⟩
  clear HX
  go_wp2_with fail
  refine gen_calls (fun x => Hid (RbAt x g a len cap bs s2 ⟨3, l, t, 0, Ch.zero, 0, 0, 0, [], []⟩ (.slice none 0 0) (.slice none 0 0) ∧ w.grownBy x (some g))) HB3 ?_
  clear HB3 c f
  intro y3 HB3
  refine (C3.out _ _ _ _ HB3.out.1).mono ?_
  rintro e x4 ⟨rfl, hb, hg⟩
  have HX : Hid (RbAt x4 g a len cap bs s3 ⟨3, l, t, 0, Ch.zero, 0, 0, 0, [], []⟩ (.slice none 0 0) (.slice none 0 0) ∧ w.grownBy x4 (some g)) := ⟨hb, grown_trans HB3.out.2 hg⟩
  clear hb hg HB3 C3
  obtain ⟨k, q, -, -⟩ := HX.out.1.row
  have c := q.cell 6 (.int .u64 0) rfl
  have f := q.free 6
  have c3 := q.cell 3 (.int .i64 3) rfl
  clear q
  have HB4 : Hid (RbAt (x4.setCell ⟨g, 6, none⟩ (.int .u64 ((p : Nat) : Int))) g a len cap bs s3 ⟨3, l, t, p, Ch.zero, 0, 0, 0, [], []⟩ (.slice none 0 0) (.slice none 0 0) ∧ w.grownBy (x4.setCell ⟨g, 6, none⟩ (.int .u64 ((p : Nat) : Int))) (some g)) := ⟨HX.out.1.setc 6 (.int .u64 ((p : Nat) : Int)) ⟨3, l, t, p, Ch.zero, 0, 0, 0, [], []⟩ _ _ (fun _ => rfl), grown_set _ HX.out.2⟩
  clear HX
  go_wp2
  go_end0
  refine ⟨rfl, ⟨3, l, t, p, Ch.zero, 0, 0, 0, [], []⟩, _, _, by rw [hfin.out]; exact HB4.out.1, fun _ => by rw [hfin.out], World.ownsRow_nil _ _ _ _, World.ownsRow_nil _ _ _ _, HB4.out.2⟩
end Go.Proofs.Ytmapgfakfeddmab

/-
  The reader of package record: record, kind 4.
-/
namespace Go.Proofs.Ytmapgfakfeddmab
open Go.RowKit
set_option linter.unusedVariables false

set_option maxRecDepth 4000 in
set_option maxHeartbeats 3200000 in
theorem brec_4 (g : Nat) (a : Option Addr) (len cap : Nat) (bs : List UInt8) (s : St) (hs : s.e = 0) (w : World) (hk : (pIn 1 8 s).1 = 4) (h : RbAt w g a len cap bs s Rec.zero (.slice none 0 0) (.slice none 0 0)) :
    Calls Try.prog 13 #[.pointer (some ⟨g, 0, none⟩)] w fun e w' => e = .returned (.tuple #[]) ∧ RecDone w w' g a len cap bs s := by
  obtain ⟨kd, s0, h0⟩ : ∃ n s', pIn 1 8 s = (n, s') := ⟨_, _, rfl⟩
  obtain ⟨l, s1, h1⟩ : ∃ n s', pNum 8 s0 = (n, s') := ⟨_, _, rfl⟩
  obtain ⟨t, s2, h2⟩ : ∃ n s', pNum 4 s1 = (n, s') := ⟨_, _, rfl⟩
  obtain ⟨p, s3, h3⟩ : ∃ n s', pNum 8 s2 = (n, s') := ⟨_, _, rfl⟩
  have bt : t < 256 ^ 4 := by have := num_lt 4 s1; rw [h2] at this; exact this
  have ewt := conv_i64 t (by omega)
  have C0 := hide (fun r va vb x h => bkind_any g a len cap bs s r va vb x h)
  have C1 := hide (fun r va vb x h => bnum_any g a len cap bs s0 r va vb 8 x (by omega) h)
  have C2 := hide (fun r va vb x h => bnum_any g a len cap bs s1 r va vb 4 x (by omega) h)
  have C3 := hide (fun r va vb x h => bnum_any g a len cap bs s2 r va vb 8 x (by omega) h)
  rw [h0] at C0
  rw [h1] at C1
  rw [h2] at C2
  rw [h3] at C3
  have HGL := hide h.lt
  have hkd : kd = 4 := by rw [h0] at hk; exact hk
  subst hkd
  have hfin : Hid (pRec s = (⟨4, l, t, p, Ch.zero, 0, 0, 0, [], []⟩, s3)) := by
    show pRec s = _
    rw [rec_rest, h0]
    simp [recRest, bindP, pureP, pMay, h1, h2, h3]
  clear hs hk bt h0 h1 h2 h3
  have HB0 : Hid (RbAt w g a len cap bs s Rec.zero (.slice none 0 0) (.slice none 0 0) ∧ w.grownBy w (some g)) := ⟨h, grown_refl w _⟩
  clear h
  go_enter Try.func13, Try.ntmps13
  go_wp2_with fail
  refine (C0.out _ _ _ _ HB0.out.1).mono ?_
  rintro e x1 ⟨rfl, hb, hg⟩
  have HX : Hid (RbAt x1 g a len cap bs s0 Rec.zero (.slice none 0 0) (.slice none 0 0) ∧ w.grownBy x1 (some g)) := ⟨hb, grown_trans HB0.out.2 hg⟩
  clear hb hg HB0 C0
  obtain ⟨k, q, -, -⟩ := HX.out.1.row
  have c := q.cell 3 (.int .i64 0) rfl
  have f := q.free 3
  clear q
  have HB1 : Hid (RbAt (x1.setCell ⟨g, 3, none⟩ (.int .i64 4)) g a len cap bs s0 ⟨4, 0, 0, 0, Ch.zero, 0, 0, 0, [], []⟩ (.slice none 0 0) (.slice none 0 0) ∧ w.grownBy (x1.setCell ⟨g, 3, none⟩ (.int .i64 4)) (some g)) := ⟨HX.out.1.setc 3 (.int .i64 4) ⟨4, 0, 0, 0, Ch.zero, 0, 0, 0, [], []⟩ _ _ (fun _ => rfl), grown_set _ HX.out.2⟩
  clear HX
  go_wp2_with fail
  refine gen_calls (fun x => Hid (RbAt x g a len cap bs s0 ⟨4, 0, 0, 0, Ch.zero, 0, 0, 0, [], []⟩ (.slice none 0 0) (.slice none 0 0) ∧ w.grownBy x (some g))) HB1 ?_
  clear HB1 c f
  intro y1 HB1
  refine (C1.out _ _ _ _ HB1.out.1).mono ?_
  rintro e x2 ⟨rfl, hb, hg⟩
  have HX : Hid (RbAt x2 g a len cap bs s1 ⟨4, 0, 0, 0, Ch.zero, 0, 0, 0, [], []⟩ (.slice none 0 0) (.slice none 0 0) ∧ w.grownBy x2 (some g)) := ⟨hb, grown_trans HB1.out.2 hg⟩
  clear hb hg HB1 C1
  obtain ⟨k, q, -, -⟩ := HX.out.1.row
  have c := q.cell 4 (.int .u64 0) rfl
  have f := q.free 4
  clear q
  have HB2 : Hid (RbAt (x2.setCell ⟨g, 4, none⟩ (.int .u64 ((l : Nat) : Int))) g a len cap bs s1 ⟨4, l, 0, 0, Ch.zero, 0, 0, 0, [], []⟩ (.slice none 0 0) (.slice none 0 0) ∧ w.grownBy (x2.setCell ⟨g, 4, none⟩ (.int .u64 ((l : Nat) : Int))) (some g)) := ⟨HX.out.1.setc 4 (.int .u64 ((l : Nat) : Int)) ⟨4, l, 0, 0, Ch.zero, 0, 0, 0, [], []⟩ _ _ (fun _ => rfl), grown_set _ HX.out.2⟩
  clear HX
  go_wp2_with fail
  refine gen_calls (fun x => Hid (RbAt x g a len cap bs s1 ⟨4, l, 0, 0, Ch.zero, 0, 0, 0, [], []⟩ (.slice none 0 0) (.slice none 0 0) ∧ w.grownBy x (some g))) HB2 ?_
  clear HB2 c f
  intro y2 HB2
  refine (C2.out _ _ _ _ HB2.out.1).mono ?_
  rintro e x3 ⟨rfl, hb, hg⟩
  have HX : Hid (RbAt x3 g a len cap bs s2 ⟨4, l, 0, 0, Ch.zero, 0, 0, 0, [], []⟩ (.slice none 0 0) (.slice none 0 0) ∧ w.grownBy x3 (some g)) := ⟨hb, grown_trans HB2.out.2 hg⟩
  clear hb hg HB2 C2
  obtain ⟨k, q, -, -⟩ := HX.out.1.row
  have c := q.cell 5 (.int .i64 0) rfl
  have f := q.free 5
  clear q
  have HB3 : Hid (RbAt (x3.setCell ⟨g, 5, none⟩ (.int .i64 (t : Int))) g a len cap bs s2 ⟨4, l, t, 0, Ch.zero, 0, 0, 0, [], []⟩ (.slice none 0 0) (.slice none 0 0) ∧ w.grownBy (x3.setCell ⟨g, 5, none⟩ (.int .i64 (t : Int))) (some g)) := ⟨HX.out.1.setc 5 (.int .i64 (t : Int)) ⟨4, l, t, 0, Ch.zero, 0, 0, 0, [], []⟩ _ _ (fun _ => rfl), grown_set _ HX.out.2⟩
  clear HX
  go_wp2_with fail
  refine gen_calls (fun x => Hid (RbAt x g a len cap bs s2 ⟨4, l, t, 0, Ch.zero, 0, 0, 0, [], []⟩ (.slice none 0 0) (.slice none 0 0) ∧ w.grownBy x (some g))) HB3 ?_
  clear HB3 c f
  intro y3 HB3
  refine (C3.out _ _ _ _ HB3.out.1).mono ?_
  rintro e x4 ⟨rfl, hb, hg⟩
  have HX : Hid (RbAt x4 g a len cap bs s3 ⟨4, l, t, 0, Ch.zero, 0, 0, 0, [], []⟩ (.slice none 0 0) (.slice none 0 0) ∧ w.grownBy x4 (some g)) := ⟨hb, grown_trans HB3.out.2 hg⟩
  clear hb hg HB3 C3
  obtain ⟨k, q, -, -⟩ := HX.out.1.row
  have c := q.cell 6 (.int .u64 0) rfl
  have f := q.free 6
  have c3 := q.cell 3 (.int .i64 4) rfl
  clear q
  have HB4 : Hid (RbAt (x4.setCell ⟨g, 6, none⟩ (.int .u64 ((p : Nat) : Int))) g a len cap bs s3 ⟨4, l, t, p, Ch.zero, 0, 0, 0, [], []⟩ (.slice none 0 0) (.slice none 0 0) ∧ w.grownBy (x4.setCell ⟨g, 6, none⟩ (.int .u64 ((p : Nat) : Int))) (some g)) := ⟨HX.out.1.setc 6 (.int .u64 ((p : Nat) : Int)) ⟨4, l, t, p, Ch.zero, 0, 0, 0, [], []⟩ _ _ (fun _ => rfl), grown_set _ HX.out.2⟩
  clear HX
  go_wp2
  go_end0
  refine ⟨rfl, ⟨4, l, t, p, Ch.zero, 0, 0, 0, [], []⟩, _, _, by rw [hfin.out]; exact HB4.out.1, fun _ => by rw [hfin.out], World.ownsRow_nil _ _ _ _, World.ownsRow_nil _ _ _ _, HB4.out.2⟩
end Go.Proofs.Ytmapgfakfeddmab

/-
  The reader of package record: record, kind 5.
-/
namespace Go.Proofs.Ytmapgfakfeddmab
open Go.RowKit
set_option linter.unusedVariables false

set_option maxRecDepth 4000 in
set_option maxHeartbeats 3200000 in
theorem brec_5 (g : Nat) (a : Option Addr) (len cap : Nat) (bs : List UInt8) (s : St) (hs : s.e = 0) (w : World) (hk : (pIn 1 8 s).1 = 5) (h : RbAt w g a len cap bs s Rec.zero (.slice none 0 0) (.slice none 0 0)) :
    Calls Try.prog 13 #[.pointer (some ⟨g, 0, none⟩)] w fun e w' => e = .returned (.tuple #[]) ∧ RecDone w w' g a len cap bs s := by
  obtain ⟨kd, s0, h0⟩ : ∃ n s', pIn 1 8 s = (n, s') := ⟨_, _, rfl⟩
  obtain ⟨l, s1, h1⟩ : ∃ n s', pNum 8 s0 = (n, s') := ⟨_, _, rfl⟩
  obtain ⟨t, s2, h2⟩ : ∃ n s', pNum 4 s1 = (n, s') := ⟨_, _, rfl⟩
  obtain ⟨p, s3, h3⟩ : ∃ n s', pNum 8 s2 = (n, s') := ⟨_, _, rfl⟩
  have bt : t < 256 ^ 4 := by have := num_lt 4 s1; rw [h2] at this; exact this
  have ewt := conv_i64 t (by omega)
  have C0 := hide (fun r va vb x h => bkind_any g a len cap bs s r va vb x h)
  have C1 := hide (fun r va vb x h => bnum_any g a len cap bs s0 r va vb 8 x (by omega) h)
  have C2 := hide (fun r va vb x h => bnum_any g a len cap bs s1 r va vb 4 x (by omega) h)
  have C3 := hide (fun r va vb x h => bnum_any g a len cap bs s2 r va vb 8 x (by omega) h)
  rw [h0] at C0
  rw [h1] at C1
  rw [h2] at C2
  rw [h3] at C3
  have HGL := hide h.lt
  have hkd : kd = 5 := by rw [h0] at hk; exact hk
  subst hkd
  have hfin : Hid (pRec s = (⟨5, l, t, p, Ch.zero, 0, 0, 0, [], []⟩, s3)) := by
    show pRec s = _
    rw [rec_rest, h0]
    simp [recRest, bindP, pureP, pMay, h1, h2, h3]
  clear hs hk bt h0 h1 h2 h3
  have HB0 : Hid (RbAt w g a len cap bs s Rec.zero (.slice none 0 0) (.slice none 0 0) ∧ w.grownBy w (some g)) := ⟨h, grown_refl w _⟩
  clear h
  go_enter Try.func13, Try.ntmps13
  go_wp2_with fail
  refine (C0.out _ _ _ _ HB0.out.1).mono ?_
  rintro e x1 ⟨rfl, hb, hg⟩
  have HX : Hid (RbAt x1 g a len cap bs s0 Rec.zero (.slice none 0 0) (.slice none 0 0) ∧ w.grownBy x1 (some g)) := ⟨hb, grown_trans HB0.out.2 hg⟩
  clear hb hg HB0 C0
  obtain ⟨k, q, -, -⟩ := HX.out.1.row
  have c := q.cell 3 (.int .i64 0) rfl
  have f := q.free 3
  clear q
  have HB1 : Hid (RbAt (x1.setCell ⟨g, 3, none⟩ (.int .i64 5)) g a len cap bs s0 ⟨5, 0, 0, 0, Ch.zero, 0, 0, 0, [], []⟩ (.slice none 0 0) (.slice none 0 0) ∧ w.grownBy (x1.setCell ⟨g, 3, none⟩ (.int .i64 5)) (some g)) := ⟨HX.out.1.setc 3 (.int .i64 5) ⟨5, 0, 0, 0, Ch.zero, 0, 0, 0, [], []⟩ _ _ (fun _ => rfl), grown_set _ HX.out.2⟩
  clear HX
  go_wp2_with fail
  refine gen_calls (fun x => Hid (RbAt x g a len cap bs s0 ⟨5, 0, 0, 0, Ch.zero, 0, 0, 0, [], []⟩ (.slice none 0 0) (.slice none 0 0) ∧ w.grownBy x (some g))) HB1 ?_
  clear HB1 c f
  intro y1 HB1
  refine (C1.out _ _ _ _ HB1.out.1).mono ?_
  rintro e x2 ⟨rfl, hb, hg⟩
  have HX : Hid (RbAt x2 g a len cap bs s1 ⟨5, 0, 0, 0, Ch.zero, 0, 0, 0, [], []⟩ (.slice none 0 0) (.slice none 0 0) ∧ w.grownBy x2 (some g)) := ⟨hb, grown_trans HB1.out.2 hg⟩
  clear hb hg HB1 C1
  obtain ⟨k, q, -, -⟩ := HX.out.1.row
  have c := q.cell 4 (.int .u64 0) rfl
  have f := q.free 4
  clear q
  have HB2 : Hid (RbAt (x2.setCell ⟨g, 4, none⟩ (.int .u64 ((l : Nat) : Int))) g a len cap bs s1 ⟨5, l, 0, 0, Ch.zero, 0, 0, 0, [], []⟩ (.slice none 0 0) (.slice none 0 0) ∧ w.grownBy (x2.setCell ⟨g, 4, none⟩ (.int .u64 ((l : Nat) : Int))) (some g)) := ⟨HX.out.1.setc 4 (.int .u64 ((l : Nat) : Int)) ⟨5, l, 0, 0, Ch.zero, 0, 0, 0, [], []⟩ _ _ (fun _ => rfl), grown_set _ HX.out.2⟩
  clear HX
  go_wp2_with fail
  refine gen_calls (fun x => Hid (RbAt x g a len cap bs s1 ⟨5, l, 0, 0, Ch.zero, 0, 0, 0, [], []⟩ (.slice none 0 0) (.slice none 0 0) ∧ w.grownBy x (some g))) HB2 ?_
  clear HB2 c f
  intro y2 HB2
  refine (C2.out _ _ _ _ HB2.out.1).mono ?_
  rintro e x3 ⟨rfl, hb, hg⟩
  have HX : Hid (RbAt x3 g a len cap bs s2 ⟨5, l, 0, 0, Ch.zero, 0, 0, 0, [], []⟩ (.slice none 0 0) (.slice none 0 0) ∧ w.grownBy x3 (some g)) := ⟨hb, grown_trans HB2.out.2 hg⟩
  clear hb hg HB2 C2
  obtain ⟨k, q, -, -⟩ := HX.out.1.row
  have c := q.cell 5 (.int .i64 0) rfl
  have f := q.free 5
  clear q
  have HB3 : Hid (RbAt (x3.setCell ⟨g, 5, none⟩ (.int .i64 (t : Int))) g a len cap bs s2 ⟨5, l, t, 0, Ch.zero, 0, 0, 0, [], []⟩ (.slice none 0 0) (.slice none 0 0) ∧ w.grownBy (x3.setCell ⟨g, 5, none⟩ (.int .i64 (t : Int))) (some g)) := ⟨HX.out.1.setc 5 (.int .i64 (t : Int)) ⟨5, l, t, 0, Ch.zero, 0, 0, 0, [], []⟩ _ _ (fun _ => rfl), grown_set _ HX.out.2⟩
  clear HX
  go_wp2_with fail
  refine gen_calls (fun x => Hid (RbAt x g a len cap bs s2 ⟨5, l, t, 0, Ch.zero, 0, 0, 0, [], []⟩ (.slice none 0 0) (.slice none 0 0) ∧ w.grownBy x (some g))) HB3 ?_
  clear HB3 c f
  intro y3 HB3
  refine (C3.out _ _ _ _ HB3.out.1).mono ?_
  rintro e x4 ⟨rfl, hb, hg⟩
  have HX : Hid (RbAt x4 g a len cap bs s3 ⟨5, l, t, 0, Ch.zero, 0, 0, 0, [], []⟩ (.slice none 0 0) (.slice none 0 0) ∧ w.grownBy x4 (some g)) := ⟨hb, grown_trans HB3.out.2 hg⟩
  clear hb hg HB3 C3
  obtain ⟨k, q, -, -⟩ := HX.out.1.row
  have c := q.cell 6 (.int .u64 0) rfl
  have f := q.free 6
  have c3 := q.cell 3 (.int .i64 5) rfl
  clear q
  have HB4 : Hid (RbAt (x4.setCell ⟨g, 6, none⟩ (.int .u64 ((p : Nat) : Int))) g a len cap bs s3 ⟨5, l, t, p, Ch.zero, 0, 0, 0, [], []⟩ (.slice none 0 0) (.slice none 0 0) ∧ w.grownBy (x4.setCell ⟨g, 6, none⟩ (.int .u64 ((p : Nat) : Int))) (some g)) := ⟨HX.out.1.setc 6 (.int .u64 ((p : Nat) : Int)) ⟨5, l, t, p, Ch.zero, 0, 0, 0, [], []⟩ _ _ (fun _ => rfl), grown_set _ HX.out.2⟩
  clear HX
  go_wp2
  go_end0
  refine ⟨rfl, ⟨5, l, t, p, Ch.zero, 0, 0, 0, [], []⟩, _, _, by rw [hfin.out]; exact HB4.out.1, fun _ => by rw [hfin.out], World.ownsRow_nil _ _ _ _, World.ownsRow_nil _ _ _ _, HB4.out.2⟩
end Go.Proofs.Ytmapgfakfeddmab

/-
  The reader of package record: record, kind 6.
-/
namespace Go.Proofs.Ytmapgfakfeddmab
open Go.RowKit
set_option linter.unusedVariables false

set_option maxRecDepth 4000 in
set_option maxHeartbeats 3200000 in
theorem brec_6 (g : Nat) (a : Option Addr) (len cap : Nat) (bs : List UInt8) (s : St) (hs : s.e = 0) (w : World) (hk : (pIn 1 8 s).1 = 6) (h : RbAt w g a len cap bs s Rec.zero (.slice none 0 0) (.slice none 0 0)) :
    Calls Try.prog 13 #[.pointer (some ⟨g, 0, none⟩)] w fun e w' => e = .returned (.tuple #[]) ∧ RecDone w w' g a len cap bs s := by
  obtain ⟨kd, s0, h0⟩ : ∃ n s', pIn 1 8 s = (n, s') := ⟨_, _, rfl⟩
  obtain ⟨l, s1, h1⟩ : ∃ n s', pNum 8 s0 = (n, s') := ⟨_, _, rfl⟩
  obtain ⟨t, s2, h2⟩ : ∃ n s', pNum 4 s1 = (n, s') := ⟨_, _, rfl⟩
  obtain ⟨p, s3, h3⟩ : ∃ n s', pNum 8 s2 = (n, s') := ⟨_, _, rfl⟩
  have bt : t < 256 ^ 4 := by have := num_lt 4 s1; rw [h2] at this; exact this
  have ewt := conv_i64 t (by omega)
  have C0 := hide (fun r va vb x h => bkind_any g a len cap bs s r va vb x h)
  have C1 := hide (fun r va vb x h => bnum_any g a len cap bs s0 r va vb 8 x (by omega) h)
  have C2 := hide (fun r va vb x h => bnum_any g a len cap bs s1 r va vb 4 x (by omega) h)
  have C3 := hide (fun r va vb x h => bnum_any g a len cap bs s2 r va vb 8 x (by omega) h)
  rw [h0] at C0
  rw [h1] at C1
  rw [h2] at C2
  rw [h3] at C3
  have HGL := hide h.lt
  have hkd : kd = 6 := by rw [h0] at hk; exact hk
  subst hkd
  obtain ⟨n, s4, h4⟩ : ∃ n s', pNum 1 s3 = (n, s') := ⟨_, _, rfl⟩
  have bn : n < 256 ^ 1 := by have := num_lt 1 s3; rw [h4] at this; exact this
  have ewn := conv_i64 n (by omega)
  have C4 := hide (fun r va vb x h => bnum_any g a len cap bs s3 r va vb 1 x (by omega) h)
  rw [h4] at C4
  have hfin : Hid (pRec s = (⟨6, l, t, p, Ch.zero, 0, n, 0, [], []⟩, s4)) := by
    show pRec s = _
    rw [rec_rest, h0]
    simp [recRest, bindP, pureP, pMay, h1, h2, h3, h4]
  clear h4 bn
  clear hs hk bt h0 h1 h2 h3
  have HB0 : Hid (RbAt w g a len cap bs s Rec.zero (.slice none 0 0) (.slice none 0 0) ∧ w.grownBy w (some g)) := ⟨h, grown_refl w _⟩
  clear h
  go_enter Try.func13, Try.ntmps13
  go_wp2_with fail
  refine (C0.out _ _ _ _ HB0.out.1).mono ?_
  rintro e x1 ⟨rfl, hb, hg⟩
  have HX : Hid (RbAt x1 g a len cap bs s0 Rec.zero (.slice none 0 0) (.slice none 0 0) ∧ w.grownBy x1 (some g)) := ⟨hb, grown_trans HB0.out.2 hg⟩
  clear hb hg HB0 C0
  obtain ⟨k, q, -, -⟩ := HX.out.1.row
  have c := q.cell 3 (.int .i64 0) rfl
  have f := q.free 3
  clear q
  have HB1 : Hid (RbAt (x1.setCell ⟨g, 3, none⟩ (.int .i64 6)) g a len cap bs s0 ⟨6, 0, 0, 0, Ch.zero, 0, 0, 0, [], []⟩ (.slice none 0 0) (.slice none 0 0) ∧ w.grownBy (x1.setCell ⟨g, 3, none⟩ (.int .i64 6)) (some g)) := ⟨HX.out.1.setc 3 (.int .i64 6) ⟨6, 0, 0, 0, Ch.zero, 0, 0, 0, [], []⟩ _ _ (fun _ => rfl), grown_set _ HX.out.2⟩
  clear HX
  go_wp2_with fail
  refine gen_calls (fun x => Hid (RbAt x g a len cap bs s0 ⟨6, 0, 0, 0, Ch.zero, 0, 0, 0, [], []⟩ (.slice none 0 0) (.slice none 0 0) ∧ w.grownBy x (some g))) HB1 ?_
  clear HB1 c f
  intro y1 HB1
  refine (C1.out _ _ _ _ HB1.out.1).mono ?_
  rintro e x2 ⟨rfl, hb, hg⟩
  have HX : Hid (RbAt x2 g a len cap bs s1 ⟨6, 0, 0, 0, Ch.zero, 0, 0, 0, [], []⟩ (.slice none 0 0) (.slice none 0 0) ∧ w.grownBy x2 (some g)) := ⟨hb, grown_trans HB1.out.2 hg⟩
  clear hb hg HB1 C1
  obtain ⟨k, q, -, -⟩ := HX.out.1.row
  have c := q.cell 4 (.int .u64 0) rfl
  have f := q.free 4
  clear q
  have HB2 : Hid (RbAt (x2.setCell ⟨g, 4, none⟩ (.int .u64 ((l : Nat) : Int))) g a len cap bs s1 ⟨6, l, 0, 0, Ch.zero, 0, 0, 0, [], []⟩ (.slice none 0 0) (.slice none 0 0) ∧ w.grownBy (x2.setCell ⟨g, 4, none⟩ (.int .u64 ((l : Nat) : Int))) (some g)) := ⟨HX.out.1.setc 4 (.int .u64 ((l : Nat) : Int)) ⟨6, l, 0, 0, Ch.zero, 0, 0, 0, [], []⟩ _ _ (fun _ => rfl), grown_set _ HX.out.2⟩
  clear HX
  go_wp2_with fail
  refine gen_calls (fun x => Hid (RbAt x g a len cap bs s1 ⟨6, l, 0, 0, Ch.zero, 0, 0, 0, [], []⟩ (.slice none 0 0) (.slice none 0 0) ∧ w.grownBy x (some g))) HB2 ?_
  clear HB2 c f
  intro y2 HB2
  refine (C2.out _ _ _ _ HB2.out.1).mono ?_
  rintro e x3 ⟨rfl, hb, hg⟩
  have HX : Hid (RbAt x3 g a len cap bs s2 ⟨6, l, 0, 0, Ch.zero, 0, 0, 0, [], []⟩ (.slice none 0 0) (.slice none 0 0) ∧ w.grownBy x3 (some g)) := ⟨hb, grown_trans HB2.out.2 hg⟩
  clear hb hg HB2 C2
  obtain ⟨k, q, -, -⟩ := HX.out.1.row
  have c := q.cell 5 (.int .i64 0) rfl
  have f := q.free 5
  clear q
  have HB3 : Hid (RbAt (x3.setCell ⟨g, 5, none⟩ (.int .i64 (t : Int))) g a len cap bs s2 ⟨6, l, t, 0, Ch.zero, 0, 0, 0, [], []⟩ (.slice none 0 0) (.slice none 0 0) ∧ w.grownBy (x3.setCell ⟨g, 5, none⟩ (.int .i64 (t : Int))) (some g)) := ⟨HX.out.1.setc 5 (.int .i64 (t : Int)) ⟨6, l, t, 0, Ch.zero, 0, 0, 0, [], []⟩ _ _ (fun _ => rfl), grown_set _ HX.out.2⟩
  clear HX
  go_wp2_with fail
  refine gen_calls (fun x => Hid (RbAt x g a len cap bs s2 ⟨6, l, t, 0, Ch.zero, 0, 0, 0, [], []⟩ (.slice none 0 0) (.slice none 0 0) ∧ w.grownBy x (some g))) HB3 ?_
  clear HB3 c f
  intro y3 HB3
  refine (C3.out _ _ _ _ HB3.out.1).mono ?_
  rintro e x4 ⟨rfl, hb, hg⟩
  have HX : Hid (RbAt x4 g a len cap bs s3 ⟨6, l, t, 0, Ch.zero, 0, 0, 0, [], []⟩ (.slice none 0 0) (.slice none 0 0) ∧ w.grownBy x4 (some g)) := ⟨hb, grown_trans HB3.out.2 hg⟩
  clear hb hg HB3 C3
  obtain ⟨k, q, -, -⟩ := HX.out.1.row
  have c := q.cell 6 (.int .u64 0) rfl
  have f := q.free 6
  have c3 := q.cell 3 (.int .i64 6) rfl
  clear q
  have HB4 : Hid (RbAt (x4.setCell ⟨g, 6, none⟩ (.int .u64 ((p : Nat) : Int))) g a len cap bs s3 ⟨6, l, t, p, Ch.zero, 0, 0, 0, [], []⟩ (.slice none 0 0) (.slice none 0 0) ∧ w.grownBy (x4.setCell ⟨g, 6, none⟩ (.int .u64 ((p : Nat) : Int))) (some g)) := ⟨HX.out.1.setc 6 (.int .u64 ((p : Nat) : Int)) ⟨6, l, t, p, Ch.zero, 0, 0, 0, [], []⟩ _ _ (fun _ => rfl), grown_set _ HX.out.2⟩
  clear HX
  go_wp2_with fail
  refine gen_calls (fun x => Hid (RbAt x g a len cap bs s3 ⟨6, l, t, p, Ch.zero, 0, 0, 0, [], []⟩ (.slice none 0 0) (.slice none 0 0) ∧ w.grownBy x (some g))) HB4 ?_
  clear HB4 c f c3
  intro y4 HB4
  refine (C4.out _ _ _ _ HB4.out.1).mono ?_
  rintro e x5 ⟨rfl, hb, hg⟩
  have HX : Hid (RbAt x5 g a len cap bs s4 ⟨6, l, t, p, Ch.zero, 0, 0, 0, [], []⟩ (.slice none 0 0) (.slice none 0 0) ∧ w.grownBy x5 (some g)) := ⟨hb, grown_trans HB4.out.2 hg⟩
  clear hb hg HB4 C4
  obtain ⟨k, q, -, -⟩ := HX.out.1.row
  have c := q.cell 13 (.int .i64 0) rfl
  have f := q.free 13
  clear q
  have HB5 : Hid (RbAt (x5.setCell ⟨g, 13, none⟩ (.int .i64 ((n : Nat) : Int))) g a len cap bs s4 ⟨6, l, t, p, Ch.zero, 0, n, 0, [], []⟩ (.slice none 0 0) (.slice none 0 0) ∧ w.grownBy (x5.setCell ⟨g, 13, none⟩ (.int .i64 ((n : Nat) : Int))) (some g)) := ⟨HX.out.1.setc 13 (.int .i64 ((n : Nat) : Int)) ⟨6, l, t, p, Ch.zero, 0, n, 0, [], []⟩ _ _ (fun _ => rfl), grown_set _ HX.out.2⟩
  clear HX
  go_wp2
  go_end0
  refine ⟨rfl, ⟨6, l, t, p, Ch.zero, 0, n, 0, [], []⟩, _, _, by rw [hfin.out]; exact HB5.out.1, fun _ => by rw [hfin.out], World.ownsRow_nil _ _ _ _, World.ownsRow_nil _ _ _ _, HB5.out.2⟩
end Go.Proofs.Ytmapgfakfeddmab

/-
  The reader of package record: record, kind 7.
-/
namespace Go.Proofs.Ytmapgfakfeddmab
open Go.RowKit
set_option linter.unusedVariables false

set_option maxRecDepth 4000 in
set_option maxHeartbeats 3200000 in
theorem brec_7 (g : Nat) (a : Option Addr) (len cap : Nat) (bs : List UInt8) (s : St) (hs : s.e = 0) (w : World) (hk : (pIn 1 8 s).1 = 7) (h : RbAt w g a len cap bs s Rec.zero (.slice none 0 0) (.slice none 0 0)) :
    Calls Try.prog 13 #[.pointer (some ⟨g, 0, none⟩)] w fun e w' => e = .returned (.tuple #[]) ∧ RecDone w w' g a len cap bs s := by
  obtain ⟨kd, s0, h0⟩ : ∃ n s', pIn 1 8 s = (n, s') := ⟨_, _, rfl⟩
  obtain ⟨l, s1, h1⟩ : ∃ n s', pNum 8 s0 = (n, s') := ⟨_, _, rfl⟩
  obtain ⟨t, s2, h2⟩ : ∃ n s', pNum 4 s1 = (n, s') := ⟨_, _, rfl⟩
  obtain ⟨p, s3, h3⟩ : ∃ n s', pNum 8 s2 = (n, s') := ⟨_, _, rfl⟩
  have bt : t < 256 ^ 4 := by have := num_lt 4 s1; rw [h2] at this; exact this
  have ewt := conv_i64 t (by omega)
  have C0 := hide (fun r va vb x h => bkind_any g a len cap bs s r va vb x h)
  have C1 := hide (fun r va vb x h => bnum_any g a len cap bs s0 r va vb 8 x (by omega) h)
  have C2 := hide (fun r va vb x h => bnum_any g a len cap bs s1 r va vb 4 x (by omega) h)
  have C3 := hide (fun r va vb x h => bnum_any g a len cap bs s2 r va vb 8 x (by omega) h)
  rw [h0] at C0
  rw [h1] at C1
  rw [h2] at C2
  rw [h3] at C3
  have HGL := hide h.lt
  have hkd : kd = 7 := by rw [h0] at hk; exact hk
  subst hkd
  have hfin : Hid (pRec s = (⟨7, l, t, p, Ch.zero, 0, 0, 0, [], []⟩, s3)) := by
    show pRec s = _
    rw [rec_rest, h0]
    simp [recRest, bindP, pureP, pMay, h1, h2, h3]
  clear hs hk bt h0 h1 h2 h3
  have HB0 : Hid (RbAt w g a len cap bs s Rec.zero (.slice none 0 0) (.slice none 0 0) ∧ w.grownBy w (some g)) := ⟨h, grown_refl w _⟩
  clear h
  go_enter Try.func13, Try.ntmps13
  go_wp2_with fail
  refine (C0.out _ _ _ _ HB0.out.1).mono ?_
  rintro e x1 ⟨rfl, hb, hg⟩
  have HX : Hid (RbAt x1 g a len cap bs s0 Rec.zero (.slice none 0 0) (.slice none 0 0) ∧ w.grownBy x1 (some g)) := ⟨hb, grown_trans HB0.out.2 hg⟩
  clear hb hg HB0 C0
  obtain ⟨k, q, -, -⟩ := HX.out.1.row
  have c := q.cell 3 (.int .i64 0) rfl
  have f := q.free 3
  clear q
  have HB1 : Hid (RbAt (x1.setCell ⟨g, 3, none⟩ (.int .i64 7)) g a len cap bs s0 ⟨7, 0, 0, 0, Ch.zero, 0, 0, 0, [], []⟩ (.slice none 0 0) (.slice none 0 0) ∧ w.grownBy (x1.setCell ⟨g, 3, none⟩ (.int .i64 7)) (some g)) := ⟨HX.out.1.setc 3 (.int .i64 7) ⟨7, 0, 0, 0, Ch.zero, 0, 0, 0, [], []⟩ _ _ (fun _ => rfl), grown_set _ HX.out.2⟩
  clear HX
  go_wp2_with fail
  refine gen_calls (fun x => Hid (RbAt x g a len cap bs s0 ⟨7, 0, 0, 0, Ch.zero, 0, 0, 0, [], []⟩ (.slice none 0 0) (.slice none 0 0) ∧ w.grownBy x (some g))) HB1 ?_
  clear HB1 c f
  intro y1 HB1
  refine (C1.out _ _ _ _ HB1.out.1).mono ?_
  rintro e x2 ⟨rfl, hb, hg⟩
  have HX : Hid (RbAt x2 g a len cap bs s1 ⟨7, 0, 0, 0, Ch.zero, 0, 0, 0, [], []⟩ (.slice none 0 0) (.slice none 0 0) ∧ w.grownBy x2 (some g)) := ⟨hb, grown_trans HB1.out.2 hg⟩
  clear hb hg HB1 C1
  obtain ⟨k, q, -, -⟩ := HX.out.1.row
  have c := q.cell 4 (.int .u64 0) rfl
  have f := q.free 4
  clear q
  have HB2 : Hid (RbAt (x2.setCell ⟨g, 4, none⟩ (.int .u64 ((l : Nat) : Int))) g a len cap bs s1 ⟨7, l, 0, 0, Ch.zero, 0, 0, 0, [], []⟩ (.slice none 0 0) (.slice none 0 0) ∧ w.grownBy (x2.setCell ⟨g, 4, none⟩ (.int .u64 ((l : Nat) : Int))) (some g)) := ⟨HX.out.1.setc 4 (.int .u64 ((l : Nat) : Int)) ⟨7, l, 0, 0, Ch.zero, 0, 0, 0, [], []⟩ _ _ (fun _ => rfl), grown_set _ HX.out.2⟩
  clear HX
  go_wp2_with fail
  refine gen_calls (fun x => Hid (RbAt x g a len cap bs s1 ⟨7, l, 0, 0, Ch.zero, 0, 0, 0, [], []⟩ (.slice none 0 0) (.slice none 0 0) ∧ w.grownBy x (some g))) HB2 ?_
  clear HB2 c f
  intro y2 HB2
  refine (C2.out _ _ _ _ HB2.out.1).mono ?_
  rintro e x3 ⟨rfl, hb, hg⟩
  have HX : Hid (RbAt x3 g a len cap bs s2 ⟨7, l, 0, 0, Ch.zero, 0, 0, 0, [], []⟩ (.slice none 0 0) (.slice none 0 0) ∧ w.grownBy x3 (some g)) := ⟨hb, grown_trans HB2.out.2 hg⟩
  clear hb hg HB2 C2
  obtain ⟨k, q, -, -⟩ := HX.out.1.row
  have c := q.cell 5 (.int .i64 0) rfl
  have f := q.free 5
  clear q
  have HB3 : Hid (RbAt (x3.setCell ⟨g, 5, none⟩ (.int .i64 (t : Int))) g a len cap bs s2 ⟨7, l, t, 0, Ch.zero, 0, 0, 0, [], []⟩ (.slice none 0 0) (.slice none 0 0) ∧ w.grownBy (x3.setCell ⟨g, 5, none⟩ (.int .i64 (t : Int))) (some g)) := ⟨HX.out.1.setc 5 (.int .i64 (t : Int)) ⟨7, l, t, 0, Ch.zero, 0, 0, 0, [], []⟩ _ _ (fun _ => rfl), grown_set _ HX.out.2⟩
  clear HX
  go_wp2_with fail
  refine gen_calls (fun x => Hid (RbAt x g a len cap bs s2 ⟨7, l, t, 0, Ch.zero, 0, 0, 0, [], []⟩ (.slice none 0 0) (.slice none 0 0) ∧ w.grownBy x (some g))) HB3 ?_
  clear HB3 c f
  intro y3 HB3
  refine (C3.out _ _ _ _ HB3.out.1).mono ?_
  rintro e x4 ⟨rfl, hb, hg⟩
  have HX : Hid (RbAt x4 g a len cap bs s3 ⟨7, l, t, 0, Ch.zero, 0, 0, 0, [], []⟩ (.slice none 0 0) (.slice none 0 0) ∧ w.grownBy x4 (some g)) := ⟨hb, grown_trans HB3.out.2 hg⟩
  clear hb hg HB3 C3
  obtain ⟨k, q, -, -⟩ := HX.out.1.row
  have c := q.cell 6 (.int .u64 0) rfl
  have f := q.free 6
  have c3 := q.cell 3 (.int .i64 7) rfl
  clear q
  have HB4 : Hid (RbAt (x4.setCell ⟨g, 6, none⟩ (.int .u64 ((p : Nat) : Int))) g a len cap bs s3 ⟨7, l, t, p, Ch.zero, 0, 0, 0, [], []⟩ (.slice none 0 0) (.slice none 0 0) ∧ w.grownBy (x4.setCell ⟨g, 6, none⟩ (.int .u64 ((p : Nat) : Int))) (some g)) := ⟨HX.out.1.setc 6 (.int .u64 ((p : Nat) : Int)) ⟨7, l, t, p, Ch.zero, 0, 0, 0, [], []⟩ _ _ (fun _ => rfl), grown_set _ HX.out.2⟩
  clear HX
  go_wp2
  go_end0
  refine ⟨rfl, ⟨7, l, t, p, Ch.zero, 0, 0, 0, [], []⟩, _, _, by rw [hfin.out]; exact HB4.out.1, fun _ => by rw [hfin.out], World.ownsRow_nil _ _ _ _, World.ownsRow_nil _ _ _ _, HB4.out.2⟩
end Go.Proofs.Ytmapgfakfeddmab

/-
  The reader of package record: record, kind 8.
-/
namespace Go.Proofs.Ytmapgfakfeddmab
open Go.RowKit
set_option linter.unusedVariables false

set_option maxRecDepth 4000 in
set_option maxHeartbeats 3200000 in
theorem brec_8 (g : Nat) (a : Option Addr) (len cap : Nat) (bs : List UInt8) (s : St) (hs : s.e = 0) (w : World) (hk : (pIn 1 8 s).1 = 8) (h : RbAt w g a len cap bs s Rec.zero (.slice none 0 0) (.slice none 0 0)) :
    Calls Try.prog 13 #[.pointer (some ⟨g, 0, none⟩)] w fun e w' => e = .returned (.tuple #[]) ∧ RecDone w w' g a len cap bs s := by
  obtain ⟨kd, s0, h0⟩ : ∃ n s', pIn 1 8 s = (n, s') := ⟨_, _, rfl⟩
  obtain ⟨l, s1, h1⟩ : ∃ n s', pNum 8 s0 = (n, s') := ⟨_, _, rfl⟩
  obtain ⟨t, s2, h2⟩ : ∃ n s', pNum 4 s1 = (n, s') := ⟨_, _, rfl⟩
  obtain ⟨p, s3, h3⟩ : ∃ n s', pNum 8 s2 = (n, s') := ⟨_, _, rfl⟩
  have bt : t < 256 ^ 4 := by have := num_lt 4 s1; rw [h2] at this; exact this
  have ewt := conv_i64 t (by omega)
  have C0 := hide (fun r va vb x h => bkind_any g a len cap bs s r va vb x h)
  have C1 := hide (fun r va vb x h => bnum_any g a len cap bs s0 r va vb 8 x (by omega) h)
  have C2 := hide (fun r va vb x h => bnum_any g a len cap bs s1 r va vb 4 x (by omega) h)
  have C3 := hide (fun r va vb x h => bnum_any g a len cap bs s2 r va vb 8 x (by omega) h)
  rw [h0] at C0
  rw [h1] at C1
  rw [h2] at C2
  rw [h3] at C3
  have HGL := hide h.lt
  have hkd : kd = 8 := by rw [h0] at hk; exact hk
  subst hkd
  obtain ⟨n, s4, h4⟩ : ∃ n s', pNum 8 s3 = (n, s') := ⟨_, _, rfl⟩
  have C4 := hide (fun r va vb x h => bnum_any g a len cap bs s3 r va vb 8 x (by omega) h)
  rw [h4] at C4
  have T1 := cnt_some Good.tx 16 s4
  have D1 := hide (fun r va vb x h => btxns_any g a len cap bs s4 r va vb x h)
  obtain ⟨ts, hts⟩ : ∃ ts, ts = itL pTx (cntN 16 s4) (pIn 0 16 s4).2 := ⟨_, rfl⟩
  obtain ⟨s5, hs5⟩ : ∃ s', s' = itS pTx (cntN 16 s4) (pIn 0 16 s4).2 := ⟨_, rfl⟩
  have hl5 : cntN 16 s4 = ts.length := by rw [hts, itL_length]
  rw [← hts, ← hs5] at T1 D1
  have T2 := cnt_some Good.di 32 s5
  have D2 := hide (fun r va vb x h => bdirty_any g a len cap bs s5 r va vb x h)
  obtain ⟨ds, hds⟩ : ∃ ds, ds = itL pDi (cntN 32 s5) (pIn 0 32 s5).2 := ⟨_, rfl⟩
  obtain ⟨s6, hs6⟩ : ∃ s', s' = itS pDi (cntN 32 s5) (pIn 0 32 s5).2 := ⟨_, rfl⟩
  have hl6 : cntN 32 s5 = ds.length := by rw [hds, itL_length]
  rw [← hds, ← hs6] at T2 D2
  rw [hl5] at D1
  rw [hl6] at D2
  have C5 : Hid (∀ r va vb x, RbAt x g a len cap bs s4 r va vb → Calls Try.prog 23 #[.pointer (some ⟨g, 0, none⟩)] x fun e w' => ∃ v, e = .returned v ∧ w'.ownsRow x.heap.size 37 5 v ts.length (flatT ts) ∧ RbAt w' g a len cap bs s5 r va vb ∧ x.grownBy w' (some g)) := D1.out
  have C6 : Hid (∀ r va vb x, RbAt x g a len cap bs s5 r va vb → Calls Try.prog 24 #[.pointer (some ⟨g, 0, none⟩)] x fun e w' => ∃ v, e = .returned v ∧ w'.ownsRow x.heap.size 39 2 v ds.length (flatD ds) ∧ RbAt w' g a len cap bs s6 r va vb ∧ x.grownBy w' (some g)) := D2.out
  have hfin : Hid ((pRec s).2 = s6 ∧ ((pRec s).2.e = 0 → (pRec s).1 = ⟨8, l, t, p, Ch.zero, 0, 0, n, ts, ds⟩)) := by
    have e1 : pRec s = (⟨8, l, t, p, Ch.zero, 0, 0, n, (pSome pTx (pIn 0 16 s4).1 (pIn 0 16 s4).2).1, (pSome pDi (pIn 0 32 (pSome pTx (pIn 0 16 s4).1 (pIn 0 16 s4).2).2).1 (pIn 0 32 (pSome pTx (pIn 0 16 s4).1 (pIn 0 16 s4).2).2).2).1⟩, (pSome pDi (pIn 0 32 (pSome pTx (pIn 0 16 s4).1 (pIn 0 16 s4).2).2).1 (pIn 0 32 (pSome pTx (pIn 0 16 s4).1 (pIn 0 16 s4).2).2).2).2) := by
      rw [rec_rest, h0]
      simp [recRest, bindP, pureP, pMay, pCheck, h1, h2, h3, h4]
    rw [T1.1] at e1
    rw [e1]
    refine ⟨T2.1, fun h => ?_⟩
    have h6 := T2.2 h
    have h5 : s5.e = 0 := by
      by_cases hh : s5.e = 0
      · exact hh
      · have hst := ((Good.in 0 32).bind fun m => Good.some Good.di m).stick s5 hh
        have : (pSome pDi (pIn 0 32 s5).1 (pIn 0 32 s5).2).2 = s5 := hst
        rw [this] at h
        exact absurd h hh
    have h7 := T1.2 (by rw [T1.1]; exact h5)
    show (⟨8, l, t, p, Ch.zero, 0, 0, n, (pSome pTx (pIn 0 16 s4).1 (pIn 0 16 s4).2).1, (pSome pDi (pIn 0 32 s5).1 (pIn 0 32 s5).2).1⟩ : Rec) = _
    rw [h6, h7]
  clear h4 hts hs5 hds hs6 hl5 hl6 T1 T2 D1 D2
  clear hs hk bt h0 h1 h2 h3
  have HB0 : Hid (RbAt w g a len cap bs s Rec.zero (.slice none 0 0) (.slice none 0 0) ∧ w.grownBy w (some g)) := ⟨h, grown_refl w _⟩
  clear h
  go_enter Try.func13, Try.ntmps13
  go_wp2_with fail
  refine (C0.out _ _ _ _ HB0.out.1).mono ?_
  rintro e x1 ⟨rfl, hb, hg⟩
  have HX : Hid (RbAt x1 g a len cap bs s0 Rec.zero (.slice none 0 0) (.slice none 0 0) ∧ w.grownBy x1 (some g)) := ⟨hb, grown_trans HB0.out.2 hg⟩
  clear hb hg HB0 C0
  obtain ⟨k, q, -, -⟩ := HX.out.1.row
  have c := q.cell 3 (.int .i64 0) rfl
  have f := q.free 3
  clear q
  have HB1 : Hid (RbAt (x1.setCell ⟨g, 3, none⟩ (.int .i64 8)) g a len cap bs s0 ⟨8, 0, 0, 0, Ch.zero, 0, 0, 0, [], []⟩ (.slice none 0 0) (.slice none 0 0) ∧ w.grownBy (x1.setCell ⟨g, 3, none⟩ (.int .i64 8)) (some g)) := ⟨HX.out.1.setc 3 (.int .i64 8) ⟨8, 0, 0, 0, Ch.zero, 0, 0, 0, [], []⟩ _ _ (fun _ => rfl), grown_set _ HX.out.2⟩
  clear HX
  go_wp2_with fail
  refine gen_calls (fun x => Hid (RbAt x g a len cap bs s0 ⟨8, 0, 0, 0, Ch.zero, 0, 0, 0, [], []⟩ (.slice none 0 0) (.slice none 0 0) ∧ w.grownBy x (some g))) HB1 ?_
  clear HB1 c f
  intro y1 HB1
  refine (C1.out _ _ _ _ HB1.out.1).mono ?_
  rintro e x2 ⟨rfl, hb, hg⟩
  have HX : Hid (RbAt x2 g a len cap bs s1 ⟨8, 0, 0, 0, Ch.zero, 0, 0, 0, [], []⟩ (.slice none 0 0) (.slice none 0 0) ∧ w.grownBy x2 (some g)) := ⟨hb, grown_trans HB1.out.2 hg⟩
  clear hb hg HB1 C1
  obtain ⟨k, q, -, -⟩ := HX.out.1.row
  have c := q.cell 4 (.int .u64 0) rfl
  have f := q.free 4
  clear q
  have HB2 : Hid (RbAt (x2.setCell ⟨g, 4, none⟩ (.int .u64 ((l : Nat) : Int))) g a len cap bs s1 ⟨8, l, 0, 0, Ch.zero, 0, 0, 0, [], []⟩ (.slice none 0 0) (.slice none 0 0) ∧ w.grownBy (x2.setCell ⟨g, 4, none⟩ (.int .u64 ((l : Nat) : Int))) (some g)) := ⟨HX.out.1.setc 4 (.int .u64 ((l : Nat) : Int)) ⟨8, l, 0, 0, Ch.zero, 0, 0, 0, [], []⟩ _ _ (fun _ => rfl), grown_set _ HX.out.2⟩
  clear HX
  go_wp2_with fail
  refine gen_calls (fun x => Hid (RbAt x g a len cap bs s1 ⟨8, l, 0, 0, Ch.zero, 0, 0, 0, [], []⟩ (.slice none 0 0) (.slice none 0 0) ∧ w.grownBy x (some g))) HB2 ?_
  clear HB2 c f
  intro y2 HB2
  refine (C2.out _ _ _ _ HB2.out.1).mono ?_
  rintro e x3 ⟨rfl, hb, hg⟩
  have HX : Hid (RbAt x3 g a len cap bs s2 ⟨8, l, 0, 0, Ch.zero, 0, 0, 0, [], []⟩ (.slice none 0 0) (.slice none 0 0) ∧ w.grownBy x3 (some g)) := ⟨hb, grown_trans HB2.out.2 hg⟩
  clear hb hg HB2 C2
  obtain ⟨k, q, -, -⟩ := HX.out.1.row
  have c := q.cell 5 (.int .i64 0) rfl
  have f := q.free 5
  clear q
  have HB3 : Hid (RbAt (x3.setCell ⟨g, 5, none⟩ (.int .i64 (t : Int))) g a len cap bs s2 ⟨8, l, t, 0, Ch.zero, 0, 0, 0, [], []⟩ (.slice none 0 0) (.slice none 0 0) ∧ w.grownBy (x3.setCell ⟨g, 5, none⟩ (.int .i64 (t : Int))) (some g)) := ⟨HX.out.1.setc 5 (.int .i64 (t : Int)) ⟨8, l, t, 0, Ch.zero, 0, 0, 0, [], []⟩ _ _ (fun _ => rfl), grown_set _ HX.out.2⟩
  clear HX
  go_wp2_with fail
  refine gen_calls (fun x => Hid (RbAt x g a len cap bs s2 ⟨8, l, t, 0, Ch.zero, 0, 0, 0, [], []⟩ (.slice none 0 0) (.slice none 0 0) ∧ w.grownBy x (some g))) HB3 ?_
  clear HB3 c f
  intro y3 HB3
  refine (C3.out _ _ _ _ HB3.out.1).mono ?_
  rintro e x4 ⟨rfl, hb, hg⟩
  have HX : Hid (RbAt x4 g a len cap bs s3 ⟨8, l, t, 0, Ch.zero, 0, 0, 0, [], []⟩ (.slice none 0 0) (.slice none 0 0) ∧ w.grownBy x4 (some g)) := ⟨hb, grown_trans HB3.out.2 hg⟩
  clear hb hg HB3 C3
  obtain ⟨k, q, -, -⟩ := HX.out.1.row
  have c := q.cell 6 (.int .u64 0) rfl
  have f := q.free 6
  have c3 := q.cell 3 (.int .i64 8) rfl
  clear q
  have HB4 : Hid (RbAt (x4.setCell ⟨g, 6, none⟩ (.int .u64 ((p : Nat) : Int))) g a len cap bs s3 ⟨8, l, t, p, Ch.zero, 0, 0, 0, [], []⟩ (.slice none 0 0) (.slice none 0 0) ∧ w.grownBy (x4.setCell ⟨g, 6, none⟩ (.int .u64 ((p : Nat) : Int))) (some g)) := ⟨HX.out.1.setc 6 (.int .u64 ((p : Nat) : Int)) ⟨8, l, t, p, Ch.zero, 0, 0, 0, [], []⟩ _ _ (fun _ => rfl), grown_set _ HX.out.2⟩
  clear HX
  go_wp2_with fail
  refine gen_calls (fun x => Hid (RbAt x g a len cap bs s3 ⟨8, l, t, p, Ch.zero, 0, 0, 0, [], []⟩ (.slice none 0 0) (.slice none 0 0) ∧ w.grownBy x (some g))) HB4 ?_
  clear HB4 c f c3
  intro y4 HB4
  refine (C4.out _ _ _ _ HB4.out.1).mono ?_
  rintro e x5 ⟨rfl, hb, hg⟩
  have HX : Hid (RbAt x5 g a len cap bs s4 ⟨8, l, t, p, Ch.zero, 0, 0, 0, [], []⟩ (.slice none 0 0) (.slice none 0 0) ∧ w.grownBy x5 (some g)) := ⟨hb, grown_trans HB4.out.2 hg⟩
  clear hb hg HB4 C4
  obtain ⟨k, q, -, -⟩ := HX.out.1.row
  have c := q.cell 14 (.int .u64 0) rfl
  have f := q.free 14
  clear q
  have HB5 : Hid (RbAt (x5.setCell ⟨g, 14, none⟩ (.int .u64 ((n : Nat) : Int))) g a len cap bs s4 ⟨8, l, t, p, Ch.zero, 0, 0, n, [], []⟩ (.slice none 0 0) (.slice none 0 0) ∧ w.grownBy (x5.setCell ⟨g, 14, none⟩ (.int .u64 ((n : Nat) : Int))) (some g)) := ⟨HX.out.1.setc 14 (.int .u64 ((n : Nat) : Int)) ⟨8, l, t, p, Ch.zero, 0, 0, n, [], []⟩ _ _ (fun _ => rfl), grown_set _ HX.out.2⟩
  clear HX
  go_wp2_with fail
  refine gen_calls (fun x => Hid (RbAt x g a len cap bs s4 ⟨8, l, t, p, Ch.zero, 0, 0, n, [], []⟩ (.slice none 0 0) (.slice none 0 0) ∧ w.grownBy x (some g))) HB5 ?_
  clear HB5 c f
  intro y5 HB5
  refine (C5.out _ _ _ _ HB5.out.1).mono ?_
  rintro e x6 ⟨v, rfl, hown, hb, hg⟩
  have HX : Hid (RbAt x6 g a len cap bs s5 ⟨8, l, t, p, Ch.zero, 0, 0, n, [], []⟩ (.slice none 0 0) (.slice none 0 0) ∧ w.grownBy x6 (some g)) := ⟨hb, grown_trans HB5.out.2 hg⟩
  have HOA := hide (own_mono hown HB5.out.2.size)
  clear hb hg hown HB5 C5
  obtain ⟨k, q, -, -⟩ := HX.out.1.row
  have c := q.cell 15 (.slice none 0 0) rfl
  have f := q.free 15
  clear q
  obtain ⟨av, cv, hv⟩ := own_shape5 HOA.out
  have HB6 : Hid ((RbAt (x6.setCell ⟨g, 15, none⟩ v) g a len cap bs s5 ⟨8, l, t, p, Ch.zero, 0, 0, n, ts, []⟩ v (.slice none 0 0) ∧ w.grownBy (x6.setCell ⟨g, 15, none⟩ v) (some g)) ∧ (x6.setCell ⟨g, 15, none⟩ v).ownsRow w.heap.size 37 5 v ts.length (flatT ts)) := ⟨⟨HX.out.1.setc 15 v ⟨8, l, t, p, Ch.zero, 0, 0, n, ts, []⟩ v _ (fun _ => rfl), grown_set _ HX.out.2⟩, HOA.out.kept (grown_set v (grown_refl x6 (some g))) (.inr (fun e => own_ne HOA.out HGL.out e.symm))⟩
  clear HX HOA
  subst hv
  go_wp2_with fail
  refine gen_calls (fun x => Hid ((RbAt x g a len cap bs s5 ⟨8, l, t, p, Ch.zero, 0, 0, n, ts, []⟩ (.slice av ts.length cv) (.slice none 0 0) ∧ w.grownBy x (some g)) ∧ x.ownsRow w.heap.size 37 5 (.slice av ts.length cv) ts.length (flatT ts))) HB6 ?_
  clear HB6 c f
  intro y6 HB6
  refine (C6.out _ _ _ _ HB6.out.1.1).mono ?_
  rintro e x7 ⟨u, rfl, hown, hb, hg⟩
  have HX : Hid (RbAt x7 g a len cap bs s6 ⟨8, l, t, p, Ch.zero, 0, 0, n, ts, []⟩ (.slice av ts.length cv) (.slice none 0 0) ∧ w.grownBy x7 (some g)) := ⟨hb, grown_trans HB6.out.1.2 hg⟩
  have HOA := hide (HB6.out.2.kept hg (.inr (fun e => own_ne HB6.out.2 HGL.out e.symm)))
  have HOB := hide (own_mono hown HB6.out.1.2.size)
  clear hb hg hown HB6 C6
  obtain ⟨k, q, -, -⟩ := HX.out.1.row
  have c := q.cell 16 (.slice none 0 0) rfl
  have f := q.free 16
  clear q
  obtain ⟨au, cu, hu⟩ := own_shape5 HOB.out
  have HB7 : Hid ((RbAt (x7.setCell ⟨g, 16, none⟩ u) g a len cap bs s6 ⟨8, l, t, p, Ch.zero, 0, 0, n, ts, ds⟩ (.slice av ts.length cv) u ∧ w.grownBy (x7.setCell ⟨g, 16, none⟩ u) (some g)) ∧ (x7.setCell ⟨g, 16, none⟩ u).ownsRow w.heap.size 37 5 (.slice av ts.length cv) ts.length (flatT ts) ∧ (x7.setCell ⟨g, 16, none⟩ u).ownsRow w.heap.size 39 2 u ds.length (flatD ds)) := ⟨⟨HX.out.1.setc 16 u ⟨8, l, t, p, Ch.zero, 0, 0, n, ts, ds⟩ _ u (fun _ => rfl), grown_set _ HX.out.2⟩, HOA.out.kept (grown_set u (grown_refl x7 (some g))) (.inr (fun e => own_ne HOA.out HGL.out e.symm)), HOB.out.kept (grown_set u (grown_refl x7 (some g))) (.inr (fun e => own_ne HOB.out HGL.out e.symm))⟩
  clear HX HOA HOB
  subst hu
  go_wp2
  go_end0
  refine ⟨rfl, ⟨8, l, t, p, Ch.zero, 0, 0, n, ts, ds⟩, _, _, by rw [hfin.out.1]; exact HB7.out.1.1, fun h => (hfin.out.2 h).symm, HB7.out.2.1, HB7.out.2.2, HB7.out.1.2⟩
end Go.Proofs.Ytmapgfakfeddmab

/-
  What Decode's parser answers fits a machine; the lists of a record that was read.
-/
namespace Go.Proofs.Ytmapgfakfeddmab
open Go.RowKit
set_option linter.unusedVariables false

theorem wf_i64n (n : Nat) (h : n < 9223372036854775808) : (Lit.int .i64 (n : Int)).wf = true := by
  rw [← conv_i64 n h]
  exact wf_wrap _ _
theorem wf_u64n (n : Nat) (h : n < 18446744073709551616) : (Lit.int .u64 (n : Int)).wf = true := by
  have e : IntKind.u64.wrap (n : Int) = (n : Int) := by rw [IntKind.wrap_u64]; omega
  rw [← e]
  exact wf_wrap _ _
theorem text_len (s : St) : (pText s).1.size ≤ 255 := by
  unfold pText
  by_cases he : s.e ≠ 0
  · rw [if_pos he]
    exact Nat.zero_le _
  · rw [if_neg he]
    cases hs : s.l with
    | nil => exact Nat.zero_le _
    | cons b l =>
      simp only
      by_cases hk : b.toNat ≤ l.length
      · rw [if_pos hk]
        show (l.take b.toNat).toArray.size ≤ 255
        rw [List.size_toArray, List.length_take]
        have := b.toNat_lt
        omega
      · rw [if_neg hk]
        exact Nat.zero_le _
theorem num_wf (w : Nat) (hw : w ≤ 4) (s : St) : (Lit.int .i64 ((pNum w s).1 : Int)).wf = true := by
  have h := num_lt w s
  have h2 : 256 ^ w ≤ 256 ^ 4 := Nat.pow_le_pow_right (by omega) hw
  exact wf_i64n _ (by omega)
theorem num_wfu (w : Nat) (hw : w ≤ 8) (s : St) : (Lit.int .u64 ((pNum w s).1 : Int)).wf = true := by
  have h := num_lt w s
  have h2 : 256 ^ w ≤ 256 ^ 8 := Nat.pow_le_pow_right (by omega) hw
  exact wf_u64n _ (by omega)
theorem ch_fits (s : St) : (pCh s).1.fits := by
  have hm : (255 : Nat) ≤ maxLen := by unfold maxLen; omega
  exact ⟨num_wf 1 (by omega) _, num_wf 2 (by omega) _, num_wf 1 (by omega) _, Nat.le_trans (text_len _) hm, Nat.le_trans (text_len _) hm⟩
theorem tx_fits (s : St) : (pTx s).1.fits := ⟨num_wf 4 (by omega) _, num_wf 1 (by omega) _, num_wfu 8 (by omega) _, num_wfu 8 (by omega) _, num_wfu 8 (by omega) _⟩
theorem di_fits (s : St) : (pDi s).1.fits := ⟨num_wf 2 (by omega) _, num_wfu 8 (by omega) _⟩
theorem some_all {α : Type} {p : St → α × St} {G : α → Prop} (hp : ∀ s, G (p s).1) : ∀ n s, (∀ x ∈ (pSome p n s).1, G x) ∧ (pSome p n s).1.length ≤ n
  | 0, _ => ⟨fun x hx => (nomatch hx), Nat.le_refl _⟩
  | n + 1, s => by
    by_cases h : s.e ≠ 0
    · have e : pSome p (n + 1) s = ([], s) := by rw [pSome, if_pos h]
      rw [e]
      exact ⟨fun x hx => (nomatch hx), Nat.zero_le _⟩
    · have e : pSome p (n + 1) s = ((p s).1 :: (pSome p n (p s).2).1, (pSome p n (p s).2).2) := by rw [pSome, if_neg h]
      have ih := some_all hp n (p s).2
      rw [e]
      refine ⟨fun x hx => ?_, by show _ + 1 ≤ _; exact Nat.succ_le_succ ih.2⟩
      rcases List.mem_cons.1 hx with rfl | hx
      · exact hp s
      · exact ih.1 x hx
theorem may_ch_fits (q : Prop) [Decidable q] (s : St) : (pMay q Ch.zero pCh s).1.fits := by
  unfold pMay
  split
  · exact ch_fits s
  · exact zero_fits
theorem check_all (q : Prop) [Decidable q] (s : St) : (∀ x ∈ (pMay q (0, [], []) pCheck s).1.2.1, x.fits) ∧ (pMay q (0, [], []) pCheck s).1.2.1.length ≤ 255 ∧ (∀ x ∈ (pMay q (0, [], []) pCheck s).1.2.2, x.fits) ∧ (pMay q (0, [], []) pCheck s).1.2.2.length ≤ 255 := by
  unfold pMay
  split
  · have h1 := some_all (p := pTx) tx_fits (pIn 0 16 (pNum 8 s).2).1 (pIn 0 16 (pNum 8 s).2).2
    have h2 := some_all (p := pDi) di_fits (pIn 0 32 (pSome pTx (pIn 0 16 (pNum 8 s).2).1 (pIn 0 16 (pNum 8 s).2).2).2).1 (pIn 0 32 (pSome pTx (pIn 0 16 (pNum 8 s).2).1 (pIn 0 16 (pNum 8 s).2).2).2).2
    have b1 : (pIn 0 16 (pNum 8 s).2).1 ≤ 255 := by rw [in_val]; have := num_lt 1 (pNum 8 s).2; omega
    have b2 : (pIn 0 32 (pSome pTx (pIn 0 16 (pNum 8 s).2).1 (pIn 0 16 (pNum 8 s).2).2).2).1 ≤ 255 := by rw [in_val]; have := num_lt 1 (pSome pTx (pIn 0 16 (pNum 8 s).2).1 (pIn 0 16 (pNum 8 s).2).2).2; omega
    exact ⟨h1.1, Nat.le_trans h1.2 b1, h2.1, Nat.le_trans h2.2 b2⟩
  · exact ⟨fun x hx => (nomatch hx), Nat.zero_le _, fun x hx => (nomatch hx), Nat.zero_le _⟩
theorem rec_fits (s : St) : (pRec s).1.fits := by
  have hm : (255 : Nat) ≤ maxLen := by unfold maxLen; omega
  obtain ⟨c1, c2, c3, c4⟩ := check_all ((pIn 1 8 s).1 = 8) (pMay ((pIn 1 8 s).1 = 6) 0 (pNum 1) (pMay ((pIn 1 8 s).1 = 2) 0 (pNum 8) (pMay ((pIn 1 8 s).1 ≤ 2) Ch.zero pCh (pNum 8 (pNum 4 (pNum 8 (pIn 1 8 s).2).2).2).2).2).2).2
  exact ⟨may_ch_fits _ _, Nat.le_trans c2 hm, Nat.le_trans c4 hm, c1, c3⟩
theorem zero_rec_fits : Rec.zero.fits := ⟨zero_fits, Nat.zero_le _, Nat.zero_le _, fun x hx => (nomatch hx), fun x hx => (nomatch hx)⟩
theorem dec_fits (b : List UInt8) : (decR b).1.fits := by
  unfold decR
  split
  · exact zero_rec_fits
  · split
    · exact zero_rec_fits
    · exact rec_fits _

/-! ### The lists -/
def GotIn (base : Nat) (w : World) (r : Rec) (va vb : Value) : Prop := w.ownsRow base 37 5 va r.ts.length (flatT r.ts) ∧ w.ownsRow base 39 2 vb r.ds.length (flatD r.ds)
theorem GotIn.below {base : Nat} {w x : World} {r : Rec} {va vb : Value} (h : GotIn base w r va vb) (hb : Below w.heap.size w x) : GotIn base x r va vb := ⟨ownsRow_below h.1 hb, ownsRow_below h.2 hb⟩
theorem flat_get {α : Type} (f : α → Array Value) (n : Nat) (hf : ∀ x, (f x).size = n) (z : α) : ∀ (xs : List α) (i j : Nat), i < xs.length → j < n → (xs.flatMap fun x => (f x).toList)[i * n + j]? = (f (xs.getD i z)).toList[j]?
  | [], i, _, h, _ => absurd h (by simp)
  | x :: xs, 0, j, _, hj => by
    rw [List.flatMap_cons, List.getElem?_append_left (by rw [Array.length_toList, hf]; omega), Nat.zero_mul, Nat.zero_add]
    rfl
  | x :: xs, i + 1, j, h, hj => by
    have e : (i + 1) * n + j = (f x).toList.length + (i * n + j) := by rw [Array.length_toList, hf, Nat.add_mul, Nat.one_mul]; omega
    rw [List.flatMap_cons, e, List.getElem?_append_right (Nat.le_add_right _ _), Nat.add_sub_cancel_left]
    exact flat_get f n hf z xs i j (by simpa using h) hj
theorem own_rows {α : Type} (f : α → Array Value) (z : α) (n : Nat) (hf : ∀ x, (f x).size = n) {w : World} {base : Nat} {e : TypeId} {v : Value} {xs : List α} (h : w.ownsRow base e n v xs.length (xs.flatMap fun x => (f x).toList)) : RowsIn f z n w v xs := by
  rcases h.2 with ⟨h1, h2⟩ | ⟨g, cap, cur, h1, h2, h3, -⟩
  · exact ⟨none, 0, by rw [h1, h2], fun hp => absurd h2 (by omega)⟩
  · subst h1
    refine ⟨_, cap, rfl, fun hp => ⟨g, 0, rfl, (Array.getElem?_eq_some_iff.1 h3).1, fun i hi j u hu => ?_⟩⟩
    have hj : j < n := by
      have := (List.getElem?_eq_some_iff.1 hu).1
      rwa [Array.length_toList, hf] at this
    have hij : i * n + j < xs.length * n := by
      have h5 : (i + 1) * n ≤ xs.length * n := Nat.mul_le_mul_right n (by omega)
      rw [Nat.add_mul, Nat.one_mul] at h5
      omega
    rw [Nat.zero_add, h.cellAt (i * n + j) hij, flat_get f n hf z xs i j hi hj]
    exact hu
theorem GotIn.rc {base : Nat} {w : World} {r : Rec} {va vb : Value} (h : GotIn base w r va vb) : RcIn w r va vb := ⟨own_rows txA Tx.zero 5 (fun _ => rfl) h.1, own_rows diA Di.zero 2 (fun _ => rfl) h.2⟩
theorem RowAt.setSame {w : World} {b : Nat} {t : TypeId} {cs : Array Value} (h : RowAt w b t cs) (j : Nat) (v : Value) (hv : cs[j]? = some v) : RowAt (w.setCell ⟨b, j, none⟩ v) b t cs := by
  have h2 := h.set j v
  have e : cs.setIfInBounds j v = cs := by
    apply Array.ext_getElem?
    intro i
    rw [Array.getElem?_setIfInBounds]
    split
    · rename_i hij
      subst hij
      rw [hv]
      have := (Array.getElem?_eq_some_iff.1 hv).1
      simp [this]
    · rfl
  rwa [e] at h2

/-- THE CONTRACT of the reader's record. -/
theorem brecord_any (g : Nat) (a : Option Addr) (len cap : Nat) (bs : List UInt8) (s : St) (hs : s.e = 0) (w : World) (h : RbAt w g a len cap bs s Rec.zero (.slice none 0 0) (.slice none 0 0)) :
    Calls Try.prog 13 #[.pointer (some ⟨g, 0, none⟩)] w fun e w' => e = .returned (.tuple #[]) ∧ RecDone w w' g a len cap bs s := by
  by_cases hk : (pIn 1 8 s).2.e = 0
  · have hg := kind_good hk
    by_cases k1 : (pIn 1 8 s).1 = 1
    · exact brec_1 g a len cap bs s hs w k1 h
    by_cases k2 : (pIn 1 8 s).1 = 2
    · exact brec_2 g a len cap bs s hs w k2 h
    by_cases k3 : (pIn 1 8 s).1 = 3
    · exact brec_3 g a len cap bs s hs w k3 h
    by_cases k4 : (pIn 1 8 s).1 = 4
    · exact brec_4 g a len cap bs s hs w k4 h
    by_cases k5 : (pIn 1 8 s).1 = 5
    · exact brec_5 g a len cap bs s hs w k5 h
    by_cases k6 : (pIn 1 8 s).1 = 6
    · exact brec_6 g a len cap bs s hs w k6 h
    by_cases k7 : (pIn 1 8 s).1 = 7
    · exact brec_7 g a len cap bs s hs w k7 h
    exact brec_8 g a len cap bs s hs w (by omega) h
  · exact brec_no g a len cap bs s hs w hk h
end Go.Proofs.Ytmapgfakfeddmab

/-
  The contract of record.Decode.
-/
namespace Go.Proofs.Ytmapgfakfeddmab
open Go.RowKit
set_option linter.unusedVariables false

theorem rowat_drew {x : World} {b : Nat} {t : TypeId} {cs : Array Value} (h : RowAt x b t cs) : RowAt x.drew b t cs := h
theorem below_drew {B : Nat} {w x : World} (h : Below B w x) : Below B w x.drew := ⟨h.1, h.2, h.3, h.4, h.5⟩
/-- A row of the call's own, when a struct of another type is written. -/
theorem own_put {w w2 : World} {base n sz b : Nat} {e t : TypeId} {v : Value} {xs : List Value} {c0 : Array Value} (h : w.ownsRow base e sz v n xs) (hr : RowAt w b t c0) (ht : t ≠ e) (ho : ∀ k t' c', k ≠ b → RowAt w k t' c' → RowAt w2 k t' c') : w2.ownsRow base e sz v n xs := by
  refine ⟨h.1, h.2.imp id ?_⟩
  rintro ⟨g, cap, cur, h1, h2, h3, h4⟩
  refine ⟨g, cap, cur, h1, h2, ho g e cur (fun hg => ?_) h3, h4⟩
  subst hg
  have h5 := hr.symm.trans h3
  simp only [Option.some.injEq, Obj.cells.injEq] at h5
  exact ht h5.2.1
theorem rd_range {x : World} {g k : Nat} {v : Value} {e : Int} {r : Rec} {va vb : Value} (h : RowAt x g 49 (rdB v k e r va vb)) : x.rangeAt g 3 (rcA r va vb).toList := by
  intro j u hu
  have hj : j < 14 := (List.getElem?_eq_some_iff.1 hu).1
  refine h.cell (3 + j) u ?_
  rw [← hu, Array.getElem?_toList]
  match j, hj with
  | 0, _ => rfl
  | 1, _ => rfl
  | 2, _ => rfl
  | 3, _ => rfl
  | 4, _ => rfl
  | 5, _ => rfl
  | 6, _ => rfl
  | 7, _ => rfl
  | 8, _ => rfl
  | 9, _ => rfl
  | 10, _ => rfl
  | 11, _ => rfl
  | 12, _ => rfl
  | 13, _ => rfl

set_option maxRecDepth 4000 in
set_option maxHeartbeats 3200000 in
theorem dec_any (a : Option Addr) (len cap : Nat) (bs : List UInt8) (w : World) (hB : IsB w a len bs) (hl : len ≤ 140737488355328) (hc : len ≤ cap) :
    Calls Try.prog 6 #[.slice a len cap] w fun e w' => (∃ va vb, e = .returned (.tuple #[.agg (rcA (decR bs).1 va vb), .int .i64 (decR bs).2]) ∧ GotIn w.heap.size w' (decR bs).1 va vb) ∧ Below w.heap.size w w' := by
  have K2 := Keeps.two w 28 49 #[.int .i64 0, .int .u64 0, .int .i64 0, .int .u64 0, .int .i64 0, .int .i64 0, .int .i64 0, .string ⟨#[]⟩, .string ⟨#[]⟩, .int .u64 0, .int .i64 0, .int .u64 0, .slice none 0 0, .slice none 0 0] #[.slice a len cap, .int .i64 0, .int .i64 0, .int .i64 0, .int .u64 0, .int .i64 0, .int .u64 0, .int .i64 0, .int .i64 0, .int .i64 0, .string ⟨#[]⟩, .string ⟨#[]⟩, .int .u64 0, .int .i64 0, .int .u64 0, .slice none 0 0, .slice none 0 0]
  have HL2 := hide hB.1
  have HRB : Hid (RbAt ((w.alloc (.cells #[.int .i64 0, .int .u64 0, .int .i64 0, .int .u64 0, .int .i64 0, .int .i64 0, .int .i64 0, .string ⟨#[]⟩, .string ⟨#[]⟩, .int .u64 0, .int .i64 0, .int .u64 0, .slice none 0 0, .slice none 0 0] 28)).alloc (.cells #[.slice a len cap, .int .i64 0, .int .i64 0, .int .i64 0, .int .u64 0, .int .i64 0, .int .u64 0, .int .i64 0, .int .i64 0, .int .i64 0, .string ⟨#[]⟩, .string ⟨#[]⟩, .int .u64 0, .int .i64 0, .int .u64 0, .slice none 0 0, .slice none 0 0] 49)) (w.heap.size + 1) a len cap bs ⟨bs, 0⟩ Rec.zero (.slice none 0 0) (.slice none 0 0)) :=
    ⟨⟨0, K2.1.1, Nat.zero_le _, fun _ => rfl⟩, hB.below K2.2, ⟨hl, hc⟩, fun hp x hx => by
      obtain ⟨b, off, ha, hlt, _⟩ := hB.2 hp
      rw [ha] at hx
      cases hx
      show b < w.heap.size + 1
      omega⟩
  have HZR := hide (And.intro K2.1.2.1 K2.2)
  have HGI : Hid (w.heap.size ≤ w.heap.size ∧ w.heap.size ≠ w.heap.size + 1 ∧ w.heap.size ≤ w.heap.size + 1) := ⟨Nat.le_refl _, by omega, by omega⟩
  clear K2 hB hc
  have hml : len ≤ 140737488355328 := hl
  go_enter Try.func6, Try.ntmps6
  go_wp2_with fail
  obtain ⟨g, hg⟩ : ∃ g, g = w.heap.size + 1 := ⟨_, rfl⟩
  rw [← hg] at HRB HGI
  rw [← hg]
  refine gen_calls (fun x => Hid (RbAt x g a len cap bs ⟨bs, 0⟩ Rec.zero (.slice none 0 0) (.slice none 0 0)) ∧ Hid (RowAt x w.heap.size 28 #[.int .i64 0, .int .u64 0, .int .i64 0, .int .u64 0, .int .i64 0, .int .i64 0, .int .i64 0, .string ⟨#[]⟩, .string ⟨#[]⟩, .int .u64 0, .int .i64 0, .int .u64 0, .slice none 0 0, .slice none 0 0] ∧ Below w.heap.size w x)) ⟨HRB, HZR⟩ ?_
  clear HRB HZR hg
  rintro x0 ⟨HRB, HZR⟩
  have HGE := HGI
  refine (brecord_any g a len cap bs ⟨bs, 0⟩ rfl x0 HRB.out).mono ?_
  rintro e x1 ⟨rfl, r, va, vb, hrb, hreq, ho1, ho2, hgr⟩
  have HRB1 := hide hrb
  have HREQ := hide hreq
  have HGOT : Hid (GotIn w.heap.size x1 r va vb) := ⟨own_mono ho1 HZR.out.2.size, own_mono ho2 HZR.out.2.size⟩
  have HD : Hid (RowAt x1 w.heap.size 28 #[.int .i64 0, .int .u64 0, .int .i64 0, .int .u64 0, .int .i64 0, .int .i64 0, .int .i64 0, .string ⟨#[]⟩, .string ⟨#[]⟩, .int .u64 0, .int .i64 0, .int .u64 0, .slice none 0 0, .slice none 0 0] ∧ Below w.heap.size w x1) := ⟨row_grown HZR.out.1 hgr HGE.out.2.1, ⟨hgr.os.trans HZR.out.2.os, hgr.tape.trans HZR.out.2.tape, hgr.output.trans HZR.out.2.output, Nat.le_trans HZR.out.2.size hgr.size, fun k hk => (hgr.block k (Nat.lt_of_lt_of_le hk HZR.out.2.size) (fun e => by cases e; have := HGE.out.2.2; omega)).trans (HZR.out.2.block k hk)⟩⟩
  clear hrb hreq ho1 ho2 hgr HRB HZR HGI
  have HDR : Hid (decR bs = if (pRec ⟨bs, 0⟩).2.e ≠ 0 then (Rec.zero, (pRec ⟨bs, 0⟩).2.e) else if (pRec ⟨bs, 0⟩).2.l ≠ [] ∨ (pRec ⟨bs, 0⟩).1.rightB = false then (Rec.zero, 2) else ((pRec ⟨bs, 0⟩).1, 0)) := rfl
  have HFI := hide (rec_fits ⟨bs, 0⟩)
  generalize pRec ⟨bs, 0⟩ = pr at *
  obtain ⟨pr, s'⟩ := pr
  simp only at HREQ HDR HRB1 HFI
  obtain ⟨k, q, hkl, hd⟩ := HRB1.out.row
  have c2 := q.cell 2 (.int .i64 s'.e) rfl
  have HQ := hide q
  have HKL := hide hkl
  have HDL := hide hd
  clear q hkl hd
  by_cases he : s'.e = 0
  case neg =>
    have hdr : decR bs = (Rec.zero, s'.e) := by rw [HDR.out, if_pos he]
    have HDD := hide hdr
    have k0 : (s'.e == 0) = false := by rw [beq_eq_false_iff_ne]; exact he
    have k1 : (s'.e != 0) = true := by rw [bne, k0]; rfl
    clear hdr HDR he HREQ HQ HKL HDL HFI
    generalize s'.e = es at *
    have z0 := HD.out.1.cell 0 (.int .i64 0) rfl
    have zf0 := HD.out.1.free 0
    have z1 := HD.out.1.cell 1 (.int .u64 0) rfl
    have zf1 := HD.out.1.free 1
    have z2 := HD.out.1.cell 2 (.int .i64 0) rfl
    have zf2 := HD.out.1.free 2
    have z3 := HD.out.1.cell 3 (.int .u64 0) rfl
    have zf3 := HD.out.1.free 3
    have z4 := HD.out.1.cell 4 (.int .i64 0) rfl
    have zf4 := HD.out.1.free 4
    have z5 := HD.out.1.cell 5 (.int .i64 0) rfl
    have zf5 := HD.out.1.free 5
    have z6 := HD.out.1.cell 6 (.int .i64 0) rfl
    have zf6 := HD.out.1.free 6
    have z7 := HD.out.1.cell 7 (.string ⟨#[]⟩) rfl
    have zf7 := HD.out.1.free 7
    have z8 := HD.out.1.cell 8 (.string ⟨#[]⟩) rfl
    have zf8 := HD.out.1.free 8
    have z9 := HD.out.1.cell 9 (.int .u64 0) rfl
    have zf9 := HD.out.1.free 9
    have z10 := HD.out.1.cell 10 (.int .i64 0) rfl
    have zf10 := HD.out.1.free 10
    have z11 := HD.out.1.cell 11 (.int .u64 0) rfl
    have zf11 := HD.out.1.free 11
    have z12 := HD.out.1.cell 12 (.slice none 0 0) rfl
    have zf12 := HD.out.1.free 12
    have z13 := HD.out.1.cell 13 (.slice none 0 0) rfl
    have zf13 := HD.out.1.free 13
    have ne1 := HGE.out.2.1
    go_wp2_with fail
    go_region
    have HRW := hide ((((((((((((((HD.out.1.setSame 0 (.int .i64 0) rfl).setSame 1 (.int .u64 0) rfl).setSame 2 (.int .i64 0) rfl).setSame 3 (.int .u64 0) rfl).setSame 4 (.int .i64 0) rfl).setSame 5 (.int .i64 0) rfl).setSame 6 (.int .i64 0) rfl).setSame 7 (.string ⟨#[]⟩) rfl).setSame 8 (.string ⟨#[]⟩) rfl).setSame 9 (.int .u64 0) rfl).setSame 10 (.int .i64 0) rfl).setSame 11 (.int .u64 0) rfl).setSame 12 (.slice none 0 0) rfl).setSame 13 (.slice none 0 0) rfl)
    have HBW := hide ((((((((((((((HD.out.2.set1 HGE.out.1 0 (.int .i64 0)).set1 HGE.out.1 1 (.int .u64 0)).set1 HGE.out.1 2 (.int .i64 0)).set1 HGE.out.1 3 (.int .u64 0)).set1 HGE.out.1 4 (.int .i64 0)).set1 HGE.out.1 5 (.int .i64 0)).set1 HGE.out.1 6 (.int .i64 0)).set1 HGE.out.1 7 (.string ⟨#[]⟩)).set1 HGE.out.1 8 (.string ⟨#[]⟩)).set1 HGE.out.1 9 (.int .u64 0)).set1 HGE.out.1 10 (.int .i64 0)).set1 HGE.out.1 11 (.int .u64 0)).set1 HGE.out.1 12 (.slice none 0 0)).set1 HGE.out.1 13 (.slice none 0 0))
    refine gen_w (fun x => Hid (RowAt x w.heap.size 28 #[.int .i64 0, .int .u64 0, .int .i64 0, .int .u64 0, .int .i64 0, .int .i64 0, .int .i64 0, .string ⟨#[]⟩, .string ⟨#[]⟩, .int .u64 0, .int .i64 0, .int .u64 0, .slice none 0 0, .slice none 0 0]) ∧ Hid (Below w.heap.size w x)) (x := ((((((((((((((x1.setCell ⟨w.heap.size, 0, none⟩ (.int .i64 0)).setCell ⟨w.heap.size, 1, none⟩ (.int .u64 0)).setCell ⟨w.heap.size, 2, none⟩ (.int .i64 0)).setCell ⟨w.heap.size, 3, none⟩ (.int .u64 0)).setCell ⟨w.heap.size, 4, none⟩ (.int .i64 0)).setCell ⟨w.heap.size, 5, none⟩ (.int .i64 0)).setCell ⟨w.heap.size, 6, none⟩ (.int .i64 0)).setCell ⟨w.heap.size, 7, none⟩ (.string ⟨#[]⟩)).setCell ⟨w.heap.size, 8, none⟩ (.string ⟨#[]⟩)).setCell ⟨w.heap.size, 9, none⟩ (.int .u64 0)).setCell ⟨w.heap.size, 10, none⟩ (.int .i64 0)).setCell ⟨w.heap.size, 11, none⟩ (.int .u64 0)).setCell ⟨w.heap.size, 12, none⟩ (.slice none 0 0)).setCell ⟨w.heap.size, 13, none⟩ (.slice none 0 0)).drew) ⟨hide (rowat_drew HRW.out), hide (below_drew HBW.out)⟩ ?_
    clear HD HRW HBW z0 zf0 z1 zf1 z2 zf2 z3 zf3 z4 zf4 z5 zf5 z6 zf6 z7 zf7 z8 zf8 z9 zf9 z10 zf10 z11 zf11 z12 zf12 z13 zf13 ne1 c2
    rintro y0 ⟨HROW, HBL⟩
    go_wp2
    (try simp only [Exit.inBlock, Exit.then])
    refine bodyPost_ret (res_at rfl _ _ w.heap.size #[.int .i64 0, .int .u64 0, .int .i64 0, .int .u64 0, .int .i64 0, .int .i64 0, .int .i64 0, .string ⟨#[]⟩, .string ⟨#[]⟩, .int .u64 0, .int .i64 0, .int .u64 0, .slice none 0 0, .slice none 0 0] _ rfl HROW.out Try.underlying28 rfl infoRc) rfl ?_
    rw [HDD.out]
    exact ⟨⟨_, _, rfl, World.ownsRow_nil _ _ _ _, World.ownsRow_nil _ _ _ _⟩, HBL.out⟩
  rw [he] at c2 HQ
  obtain rfl := HREQ.out he
  obtain ⟨av, cv, hva⟩ := own_shape5 HGOT.out.1
  obtain ⟨au, cu, hvb⟩ := own_shape5 HGOT.out.2
  subst hva hvb
  have c1 := HQ.out.cell 1 (.int .i64 (k : Int)) rfl
  have HL0 := hide (HDL.out he)
  by_cases hk : k < len
  case pos =>
    have hne : s'.l ≠ [] := fun h => by
      have h2 := HL0.out
      rw [h] at h2
      have h3 := congrArg List.length h2
      rw [List.length_drop, HL2.out] at h3
      have h4 : len - k = 0 := h3
      omega
    have hdr : decR bs = (Rec.zero, 2) := by rw [HDR.out, if_neg (fun h => h he), if_pos (.inl hne)]
    clear hne
    have HDD := hide hdr
    have i1 : (k : Int) < (len : Int) := by omega
    clear hdr HDR he HREQ HQ HKL HDL HFI HL0
    go_wp2_with (refine wpList_store_at rfl 28 (.tmp 2) (.tmp 25) rfl w.heap.size #[.int .i64 0, .int .u64 0, .int .i64 0, .int .u64 0, .int .i64 0, .int .i64 0, .int .i64 0, .string ⟨#[]⟩, .string ⟨#[]⟩, .int .u64 0, .int .i64 0, .int .u64 0, .slice none 0 0, .slice none 0 0] #[.int .i64 0, .int .u64 0, .int .i64 0, .int .u64 0, .int .i64 0, .int .i64 0, .int .i64 0, .string ⟨#[]⟩, .string ⟨#[]⟩, .int .u64 0, .int .i64 0, .int .u64 0, .slice none 0 0, .slice none 0 0] rfl rfl HD.out.1 infoRc rfl (by simp [Value.oneCell']) ?_)
    intro w9 hr9 hk9 _
    have HROW := hide hr9
    have HBL := hide (hk9 _ _ HD.out.2 (Nat.le_refl _))
    clear hr9 hk9 HD c1 c2
    go_wp2
    (try simp only [Exit.inBlock, Exit.then])
    refine bodyPost_ret (res_at rfl _ _ w.heap.size #[.int .i64 0, .int .u64 0, .int .i64 0, .int .u64 0, .int .i64 0, .int .i64 0, .int .i64 0, .string ⟨#[]⟩, .string ⟨#[]⟩, .int .u64 0, .int .i64 0, .int .u64 0, .slice none 0 0, .slice none 0 0] _ rfl HROW.out Try.underlying28 rfl infoRc) rfl ?_
    rw [HDD.out]
    exact ⟨⟨_, _, rfl, World.ownsRow_nil _ _ _ _, World.ownsRow_nil _ _ _ _⟩, HBL.out⟩
  have hln : s'.l = [] := by
    have h2 := HL0.out
    rw [← h2]
    apply List.drop_eq_nil_of_le
    rw [HL2.out]
    omega
  have i1 : ¬ (k : Int) < (len : Int) := by omega
  have r0 := HQ.out.cell 3 (.int .i64 r.k) rfl
  have r1 := HQ.out.cell 4 (.int .u64 (r.l : Int)) rfl
  have r2 := HQ.out.cell 5 (.int .i64 r.t) rfl
  have r3 := HQ.out.cell 6 (.int .u64 (r.p : Int)) rfl
  have r4 := HQ.out.cell 7 (.int .i64 r.c.k) rfl
  have r5 := HQ.out.cell 8 (.int .i64 r.c.pg) rfl
  have r6 := HQ.out.cell 9 (.int .i64 r.c.sl) rfl
  have r7 := HQ.out.cell 10 (.string r.c.o) rfl
  have r8 := HQ.out.cell 11 (.string r.c.n) rfl
  have r9 := HQ.out.cell 12 (.int .u64 (r.n : Int)) rfl
  have r10 := HQ.out.cell 13 (.int .i64 r.s) rfl
  have r11 := HQ.out.cell 14 (.int .u64 (r.b : Int)) rfl
  have r12 := HQ.out.cell 15 (.slice av r.ts.length cv) rfl
  have r13 := HQ.out.cell 16 (.slice au r.ds.length cu) rfl
  by_cases hr : r.right
  case neg =>
    have hdr : decR bs = (Rec.zero, 2) := by rw [HDR.out, if_neg (fun h => h he), if_pos (.inr (rightB_no hr))]
    have HDD := hide hdr
    have HR := hide (right_at r (.slice av r.ts.length cv) (.slice au r.ds.length cu) x1 false (hide ⟨fun h => (nomatch h), fun h => absurd h hr⟩) HFI.out HGOT.out.rc)
    clear hdr HDR he HREQ HQ HKL HDL HFI HL0 hr hln hk
    go_wp2_with fail
    refine HR.out.mono ?_
    rintro e x2 ⟨rfl, hb2⟩
    have HD2 : Hid (RowAt x2 w.heap.size 28 #[.int .i64 0, .int .u64 0, .int .i64 0, .int .u64 0, .int .i64 0, .int .i64 0, .int .i64 0, .string ⟨#[]⟩, .string ⟨#[]⟩, .int .u64 0, .int .i64 0, .int .u64 0, .slice none 0 0, .slice none 0 0] ∧ Below w.heap.size w x2) := ⟨HD.out.1.later hb2, HD.out.2.trans (hb2.mono HD.out.2.size)⟩
    clear hb2 HD HR c1 c2 r0 r1 r2 r3 r4 r5 r6 r7 r8 r9 r10 r11 r12 r13
    go_wp2_with (refine wpList_store_at rfl 28 (.tmp 2) (.tmp 25) rfl w.heap.size #[.int .i64 0, .int .u64 0, .int .i64 0, .int .u64 0, .int .i64 0, .int .i64 0, .int .i64 0, .string ⟨#[]⟩, .string ⟨#[]⟩, .int .u64 0, .int .i64 0, .int .u64 0, .slice none 0 0, .slice none 0 0] #[.int .i64 0, .int .u64 0, .int .i64 0, .int .u64 0, .int .i64 0, .int .i64 0, .int .i64 0, .string ⟨#[]⟩, .string ⟨#[]⟩, .int .u64 0, .int .i64 0, .int .u64 0, .slice none 0 0, .slice none 0 0] rfl rfl HD2.out.1 infoRc rfl (by simp [Value.oneCell']) ?_)
    intro w9 hr9 hk9 _
    have HROW := hide hr9
    have HBL := hide (hk9 _ _ HD2.out.2 (Nat.le_refl _))
    clear hr9 hk9 HD2
    go_wp2
    (try simp only [Exit.inBlock, Exit.then])
    refine bodyPost_ret (res_at rfl _ _ w.heap.size #[.int .i64 0, .int .u64 0, .int .i64 0, .int .u64 0, .int .i64 0, .int .i64 0, .int .i64 0, .string ⟨#[]⟩, .string ⟨#[]⟩, .int .u64 0, .int .i64 0, .int .u64 0, .slice none 0 0, .slice none 0 0] _ rfl HROW.out Try.underlying28 rfl infoRc) rfl ?_
    rw [HDD.out]
    exact ⟨⟨_, _, rfl, World.ownsRow_nil _ _ _ _, World.ownsRow_nil _ _ _ _⟩, HBL.out⟩
  have hdr : decR bs = (r, 0) := by rw [HDR.out, if_neg (fun h => h he), if_neg (fun h => h.elim (fun h => h hln) (fun h => by rw [rightB_yes hr] at h; cases h))]
  have HDD := hide hdr
  have HR := hide (right_at r (.slice av r.ts.length cv) (.slice au r.ds.length cu) x1 true (hide ⟨fun _ => hr, fun _ => rfl⟩) HFI.out HGOT.out.rc)
  clear hdr HDR he HREQ HKL HDL HFI HL0 hr hln hk
  go_wp2_with fail
  refine HR.out.mono ?_
  rintro e x2 ⟨rfl, hb2⟩
  have HD2 : Hid (RowAt x2 w.heap.size 28 #[.int .i64 0, .int .u64 0, .int .i64 0, .int .u64 0, .int .i64 0, .int .i64 0, .int .i64 0, .string ⟨#[]⟩, .string ⟨#[]⟩, .int .u64 0, .int .i64 0, .int .u64 0, .slice none 0 0, .slice none 0 0] ∧ Below w.heap.size w x2) := ⟨HD.out.1.later hb2, HD.out.2.trans (hb2.mono HD.out.2.size)⟩
  have HGOT2 := hide (HGOT.out.below hb2)
  have HRG : Hid (x2.rangeAt g 3 (rcA r (.slice av r.ts.length cv) (.slice au r.ds.length cu)).toList) := rd_range (HQ.out.later hb2)
  clear hb2 HD HR HQ HGOT c1 c2 r0 r1 r2 r3 r4 r5 r6 r7 r8 r9 r10 r11 r12 r13
  go_wp2_with (first | (refine wpList_load_mid rfl 28 (.tmp 26) rfl g 3 (rcA r (.slice av r.ts.length cv) (.slice au r.ds.length cu)) rfl HRG.out _ Try.underlying28 rfl infoRc ?_) | (refine wpList_store_at rfl 28 (.tmp 2) (.tmp 27) rfl w.heap.size #[.int .i64 0, .int .u64 0, .int .i64 0, .int .u64 0, .int .i64 0, .int .i64 0, .int .i64 0, .string ⟨#[]⟩, .string ⟨#[]⟩, .int .u64 0, .int .i64 0, .int .u64 0, .slice none 0 0, .slice none 0 0] (rcA r (.slice av r.ts.length cv) (.slice au r.ds.length cu)) rfl rfl HD2.out.1 infoRc rfl (by simp [rcA, Value.oneCell']) ?_))
  intro w9 hr9 hk9 ho9
  have HROW := hide hr9
  have HBL := hide (hk9 _ _ HD2.out.2 (Nat.le_refl _))
  have HG9 : Hid (GotIn w.heap.size w9 r (.slice av r.ts.length cv) (.slice au r.ds.length cu)) := ⟨own_put HGOT2.out.1 HD2.out.1 (by decide) ho9, own_put HGOT2.out.2 HD2.out.1 (by decide) ho9⟩
  clear hr9 hk9 HD2 HGOT2 HRG ho9
  go_wp2
  (try simp only [Exit.inBlock, Exit.then])
  refine bodyPost_ret (res_at rfl _ _ w.heap.size (rcA r (.slice av r.ts.length cv) (.slice au r.ds.length cu)) _ rfl HROW.out Try.underlying28 rfl infoRc) rfl ?_
  rw [HDD.out]
  exact ⟨⟨_, _, rfl, HG9.out⟩, HBL.out⟩
end Go.Proofs.Ytmapgfakfeddmab

/-
  A slice that came in, by its cells: what a walk is told of it. Of no program.
-/
namespace Go.Proofs.Ytmapgfakfeddmab
open Go.RowKit
set_option linter.unusedVariables false

/-- A slice value of so many elements, each of 'sz' cells: element i's cell k holds 'f i k'. -/
def IsRow (w : World) (a : Option Addr) (len sz : Nat) (f : Nat → Nat → Value) : Prop :=
  0 < len → ∃ b off, a = some ⟨b, off, none⟩ ∧ b < w.heap.size ∧ ∀ i k, i < len → k < sz → w.cell? ⟨b, off + (i * sz + k), none⟩ = some (f i k)

theorem IsRow.below {w w' : World} {a : Option Addr} {len sz B : Nat} {f : Nat → Nat → Value} (h : IsRow w a len sz f) (hB : w.heap.size ≤ B) (hb : Below B w w') : IsRow w' a len sz f := by
  intro hp
  obtain ⟨b, off, ha, hlt, hc⟩ := h hp
  exact ⟨b, off, ha, Nat.lt_of_lt_of_le hlt hb.size, fun i k hi hk => (hb.cell (p := ⟨b, off + (i * sz + k), none⟩) (Nat.lt_of_lt_of_le hlt hB)).trans (hc i k hi hk)⟩
end Go.Proofs.Ytmapgfakfeddmab

/-
  How an argument that is a slice of plain things, or a struct by value, is opened: of no program.
-/
namespace Go.Proofs.Ytmapgfakfeddmab
open Go.ChangeShapes Go.WideShapes Go.ChangeAt Go.RowKit Go.Deep Go.Joins
set_option linter.unusedVariables false

section
variable {H : Type} {enc : TypeId × Value → H} {P : Program} {W : World}

theorem trod_places {t : TypeId} {v : Value} {d : DataW H} {p : List MemPlace} (h : DataW.Trod enc P W 0 (fun _ => true) true t v d p) : ∀ x ∈ p, x.block < W.heap.size := by
  obtain ⟨m, hm⟩ := h
  exact DataW.trod_lt m _ _ _ hm

theorem sized_each {ts : List TypeId} {ds : List (DataW H)} {j : Nat} {t : TypeId} {d : DataW H} (h : (DataW.weightsEach P ts ds).all (· ≤ reachBytes) = true) (ht : ts[j]? = some t) (hd : ds[j]? = some d) : ∀ n ∈ d.weights P t, n ≤ reachBytes := by
  intro n hn
  have := List.all_eq_true.1 h _ (DataW.weights_mem_each ht hd n hn)
  simpa using this

/-- A slice's outer form as data. -/
def SlForm (d : DataW H) (len cap : Nat) : Prop := (d = .nil ∧ len = 0 ∧ cap = 0) ∨ ∃ es sp, d = .slice es sp ∧ es.length = len ∧ es.length + sp.length = cap

theorem SlForm.sized {d : DataW H} {len cap : Nat} {t e : TypeId} (h : SlForm d len cap) (ht : P.underlying t = some (.slice e)) (hb : 1 ≤ P.bytesOf e) (hs : ∀ n ∈ d.weights P t, n ≤ reachBytes) : len ≤ 140737488351232 := by
  rcases h with ⟨_, rfl, _⟩ | ⟨es, sp, rfl, h1, h2⟩
  · omega
  · have h3 := hs ((es.length + sp.length) * P.bytesOf e) (by simp [DataW.weights, ht])
    have h4 : (es.length + sp.length) * 1 ≤ (es.length + sp.length) * P.bytesOf e := Nat.mul_le_mul_left _ hb
    have h5 : reachBytes = 140737488351232 := rfl
    omega

/-- A slice opened: each element's cells by a way to read an element. -/
theorem open_rows {α : Type} [Inhabited α] {t e : TypeId} {sz : Nat} {v : Value} {d : DataW H} {p : List MemPlace} {r : Reach} {b0 : Nat} (F : α → Nat → Value) (G : α → Prop)
    (hel : ∀ n cs y, DataW.trod enc P W 0 (fun _ => true) true n e cs = some y → ∃ x, G x ∧ ∀ k, k < sz → cs[k]? = some (F x k))
    (ht : P.underlying t = some (.slice e)) (hsz : P.cellsOf e = sz) (hpos : 0 < sz) (hv : Value.okWide P W r b0 t v) (h : DataW.Trod enc P W 0 (fun _ => true) true t v d p) :
    ∃ (a : Option Addr) (len cap : Nat) (f : Nat → α), v = .slice a len cap ∧ SlForm d len cap ∧ len ≤ cap ∧ (a = none → cap = 0) ∧ (∀ i, i < cap → G (f i)) ∧ IsRow W a len sz (fun i k => F (f i) k) := by
  obtain ⟨a, len, cap, rfl⟩ := okWide_slice ht hv
  obtain ⟨fuel, hf⟩ := h
  rcases open_slice ht hf with ⟨hcs, hx⟩ | ⟨x, l, c, m, n, D, Pl, hcs, _, hl, hm, hmm, hx, hall⟩
  · simp [Value.cells] at hcs
    obtain ⟨rfl, rfl, rfl⟩ := hcs
    simp only [Prod.mk.injEq] at hx
    exact ⟨none, 0, 0, fun _ => default, rfl, .inl ⟨hx.1, rfl, rfl⟩, Nat.le_refl _, fun _ => rfl, fun i hi => absurd hi (by omega), fun h => absurd h (by omega)⟩
  · simp [Value.cells] at hcs
    obtain ⟨rfl, rfl, rfl⟩ := hcs
    simp only [if_true] at hmm
    subst hmm
    simp only [Prod.mk.injEq] at hx
    obtain ⟨f, hf2⟩ := choose_lt (α := α) (p := fun i y => G y ∧ ∀ k, k < sz → W.cell? (x.add (i * sz + k)) = some (F y k)) (fun i hi => by
      obtain ⟨cs', h1, h2⟩ := hall i hi
      obtain ⟨y, hG, hF⟩ := hel _ _ _ h2
      rw [hsz] at h1
      obtain ⟨_, _, h3⟩ := World.cells?_some h1
      refine ⟨y, hG, fun k hk => ?_⟩
      have h4 := h3 k hk
      rw [hF k hk] at h4
      rw [← h4, Addr.add_add])
    refine ⟨some x, len, m, f, rfl, .inr ⟨_, _, hx.1, by simp, by simp; omega⟩, hl, (fun h => nomatch h), fun i hi => (hf2 i hi).1, fun hp => ?_⟩
    have hc0 := (hf2 0 (by omega)).2 0 hpos
    obtain ⟨b, off, spot⟩ := x
    have hspot : spot = none := by simpa [Addr.add] using World.cell?_spot hc0
    subst hspot
    refine ⟨b, off, rfl, ?_, fun i k hi hk => ?_⟩
    · have := World.block_lt_of_cell? W _ hc0
      simpa [Addr.add] using this
    · have := (hf2 i (by omega)).2 k hk
      rw [Addr.add_lit] at this
      exact this

/-- .. with a property of all places, also of those behind its end. -/
theorem open_rows_all {α : Type} [Inhabited α] {t e : TypeId} {sz : Nat} {v : Value} {d : DataW H} {p : List MemPlace} {r : Reach} {b0 : Nat} (F : α → Nat → Value) (G : α → Prop) (hd : G default)
    (hel : ∀ n cs y, DataW.trod enc P W 0 (fun _ => true) true n e cs = some y → ∃ x, G x ∧ ∀ k, k < sz → cs[k]? = some (F x k))
    (ht : P.underlying t = some (.slice e)) (hsz : P.cellsOf e = sz) (hpos : 0 < sz) (hv : Value.okWide P W r b0 t v) (h : DataW.Trod enc P W 0 (fun _ => true) true t v d p) :
    ∃ (a : Option Addr) (len cap : Nat) (f : Nat → α), v = .slice a len cap ∧ SlForm d len cap ∧ len ≤ cap ∧ (a = none → cap = 0) ∧ (∀ i, G (f i)) ∧ IsRow W a len sz (fun i k => F (f i) k) := by
  obtain ⟨a, len, cap, f, h1, h2, h3, h4, h5, h6⟩ := open_rows F G hel ht hsz hpos hv h
  refine ⟨a, len, cap, fun i => if i < cap then f i else default, h1, h2, h3, h4, fun i => ?_, fun hp => ?_⟩
  · by_cases hi : i < cap
    · simp only [if_pos hi]
      exact h5 i hi
    · simp only [if_neg hi]
      exact hd
  · obtain ⟨b, off, ha, hb, hc⟩ := h6 hp
    refine ⟨b, off, ha, hb, fun i k hi hk => ?_⟩
    have hi2 : i < cap := by omega
    rw [hc i k hi hk]
    simp only [if_pos hi2]

theorem elem_bool {e : TypeId} (he : P.underlying e = some .bool) (n : Nat) (cs : List Value) (y : DataW H × List MemPlace) (h : DataW.trod enc P W 0 (fun _ => true) true n e cs = some y) : ∃ x : Bool, True ∧ ∀ k, k < 1 → cs[k]? = some (Value.bool x) := by
  obtain ⟨b, rfl, _⟩ := DataW.trod_bool he h
  refine ⟨b, trivial, fun k hk => ?_⟩
  obtain rfl : k = 0 := by omega
  rfl

theorem elem_int {e : TypeId} {q : IntKind} (he : P.underlying e = some (.int q)) (n : Nat) (cs : List Value) (y : DataW H × List MemPlace) (h : DataW.trod enc P W 0 (fun _ => true) true n e cs = some y) : ∃ x : Int, (Lit.int q x).wf = true ∧ ∀ k, k < 1 → cs[k]? = some (Value.int q x) := by
  obtain ⟨b, rfl, _, hw⟩ := DataW.trod_int he h
  refine ⟨b, hw, fun k hk => ?_⟩
  obtain rfl : k = 0 := by omega
  rfl
end
end Go.Proofs.Ytmapgfakfeddmab

/-
  A record that comes in by value, opened.
-/
namespace Go.Proofs.Ytmapgfakfeddmab
open Go.ChangeShapes Go.WideShapes Go.ChangeAt Go.RowKit Go.Deep Go.Joins
set_option linter.unusedVariables false

set_option maxRecDepth 40000 in
theorem u64_nat {i : Int} (h : (Lit.int .u64 i).wf = true) : ∃ n : Nat, i = (n : Int) := by
  have := (bounds_u64 h).1
  exact ⟨i.toNat, by omega⟩

section
variable {H : Type} {enc : TypeId × Value → H} {W : World}

set_option maxRecDepth 40000 in
theorem trod_st2 {P : Program} {t : TypeId} {f0 f1 : Field} {fuel : Nat} {cs : List Value} {x : DataW H × List MemPlace} (ht : P.underlying t = some (.struct #[f0, f1])) (h : DataW.trod enc P W 0 (fun _ => true) true fuel t cs = some x) :
    ∃ y0 y1 n, cs.length = P.cellsOf t ∧ DataW.trod enc P W 0 (fun _ => true) true n f0.type ((cs.drop f0.offset).take (P.cellsOf f0.type)) = some y0 ∧ DataW.trod enc P W 0 (fun _ => true) true n f1.type ((cs.drop f1.offset).take (P.cellsOf f1.type)) = some y1 := by
  obtain ⟨xs, n, _, rfl, hl, hlen, hf⟩ := DataW.trod_struct ht h
  match xs, hlen with
  | [y0, y1], _ => exact ⟨y0, y1, n, hl, by simpa using hf 0 f0 rfl, by simpa using hf 1 f1 rfl⟩

set_option maxRecDepth 40000 in
theorem trod_st5 {P : Program} {t : TypeId} {f0 f1 f2 f3 f4 : Field} {fuel : Nat} {cs : List Value} {x : DataW H × List MemPlace} (ht : P.underlying t = some (.struct #[f0, f1, f2, f3, f4])) (h : DataW.trod enc P W 0 (fun _ => true) true fuel t cs = some x) :
    ∃ y0 y1 y2 y3 y4 n, cs.length = P.cellsOf t ∧ DataW.trod enc P W 0 (fun _ => true) true n f0.type ((cs.drop f0.offset).take (P.cellsOf f0.type)) = some y0 ∧ DataW.trod enc P W 0 (fun _ => true) true n f1.type ((cs.drop f1.offset).take (P.cellsOf f1.type)) = some y1 ∧ DataW.trod enc P W 0 (fun _ => true) true n f2.type ((cs.drop f2.offset).take (P.cellsOf f2.type)) = some y2 ∧ DataW.trod enc P W 0 (fun _ => true) true n f3.type ((cs.drop f3.offset).take (P.cellsOf f3.type)) = some y3 ∧ DataW.trod enc P W 0 (fun _ => true) true n f4.type ((cs.drop f4.offset).take (P.cellsOf f4.type)) = some y4 := by
  obtain ⟨xs, n, _, rfl, hl, hlen, hf⟩ := DataW.trod_struct ht h
  match xs, hlen with
  | [y0, y1, y2, y3, y4], _ => exact ⟨y0, y1, y2, y3, y4, n, hl, by simpa using hf 0 f0 rfl, by simpa using hf 1 f1 rfl, by simpa using hf 2 f2 rfl, by simpa using hf 3 f3 rfl, by simpa using hf 4 f4 rfl⟩

set_option maxRecDepth 40000 in
theorem trod_st10 {P : Program} {t : TypeId} {f0 f1 f2 f3 f4 f5 f6 f7 f8 f9 : Field} {fuel : Nat} {cs : List Value} {x : DataW H × List MemPlace} (ht : P.underlying t = some (.struct #[f0, f1, f2, f3, f4, f5, f6, f7, f8, f9])) (h : DataW.trod enc P W 0 (fun _ => true) true fuel t cs = some x) :
    ∃ y0 y1 y2 y3 y4 y5 y6 y7 y8 y9 n, cs.length = P.cellsOf t ∧ DataW.trod enc P W 0 (fun _ => true) true n f0.type ((cs.drop f0.offset).take (P.cellsOf f0.type)) = some y0 ∧ DataW.trod enc P W 0 (fun _ => true) true n f1.type ((cs.drop f1.offset).take (P.cellsOf f1.type)) = some y1 ∧ DataW.trod enc P W 0 (fun _ => true) true n f2.type ((cs.drop f2.offset).take (P.cellsOf f2.type)) = some y2 ∧ DataW.trod enc P W 0 (fun _ => true) true n f3.type ((cs.drop f3.offset).take (P.cellsOf f3.type)) = some y3 ∧ DataW.trod enc P W 0 (fun _ => true) true n f4.type ((cs.drop f4.offset).take (P.cellsOf f4.type)) = some y4 ∧ DataW.trod enc P W 0 (fun _ => true) true n f5.type ((cs.drop f5.offset).take (P.cellsOf f5.type)) = some y5 ∧ DataW.trod enc P W 0 (fun _ => true) true n f6.type ((cs.drop f6.offset).take (P.cellsOf f6.type)) = some y6 ∧ DataW.trod enc P W 0 (fun _ => true) true n f7.type ((cs.drop f7.offset).take (P.cellsOf f7.type)) = some y7 ∧ DataW.trod enc P W 0 (fun _ => true) true n f8.type ((cs.drop f8.offset).take (P.cellsOf f8.type)) = some y8 ∧ DataW.trod enc P W 0 (fun _ => true) true n f9.type ((cs.drop f9.offset).take (P.cellsOf f9.type)) = some y9 := by
  obtain ⟨xs, n, _, rfl, hl, hlen, hf⟩ := DataW.trod_struct ht h
  match xs, hlen with
  | [y0, y1, y2, y3, y4, y5, y6, y7, y8, y9], _ => exact ⟨y0, y1, y2, y3, y4, y5, y6, y7, y8, y9, n, hl, by simpa using hf 0 f0 rfl, by simpa using hf 1 f1 rfl, by simpa using hf 2 f2 rfl, by simpa using hf 3 f3 rfl, by simpa using hf 4 f4 rfl, by simpa using hf 5 f5 rfl, by simpa using hf 6 f6 rfl, by simpa using hf 7 f7 rfl, by simpa using hf 8 f8 rfl, by simpa using hf 9 f9 rfl⟩

set_option maxRecDepth 40000 in
theorem op_rows {α : Type} (f : α → Array Value) (z : α) (G : α → Prop) {P : Program} {t e : TypeId} {sz fuel : Nat} {c : Value} {x : DataW H × List MemPlace} (hel : ∀ n cs y, DataW.trod enc P W 0 (fun _ => true) true n e cs = some y → ∃ x, cs = (f x).toList ∧ G x)
    (ht : P.underlying t = some (.slice e)) (hsz : P.cellsOf e = sz) (hfz : ∀ x, (f x).size = sz) (hpos : 0 < sz) (h : DataW.trod enc P W 0 (fun _ => true) true fuel t [c] = some x) : ∃ xs, RowsIn f z sz W c xs ∧ xs.length ≤ maxLen ∧ ∀ x ∈ xs, G x := by
  rcases open_slice ht h with ⟨hcs, _⟩ | ⟨a, len, cap, m, n, D, Pl, hcs, _, hl, hm, hmm, _, hall⟩
  · simp only [List.cons.injEq, and_true] at hcs
    exact ⟨[], ⟨none, 0, hcs, fun h => absurd h (by simp)⟩, Nat.zero_le _, fun x hx => nomatch hx⟩
  · simp only [List.cons.injEq, and_true] at hcs
    subst hcs
    simp only [if_true] at hmm
    subst hmm
    have : Nonempty α := ⟨z⟩
    obtain ⟨g, hg⟩ := @choose_lt α ⟨z⟩ m (fun i y => G y ∧ ∀ k, k < sz → W.cell? (a.add (i * sz + k)) = (f y).toList[k]?) (fun i hi => by
      obtain ⟨cs', h1, h2⟩ := hall i hi
      obtain ⟨y, rfl, hG⟩ := hel _ _ _ h2
      rw [hsz] at h1
      obtain ⟨_, _, h3⟩ := World.cells?_some h1
      refine ⟨y, hG, fun k hk => ?_⟩
      rw [← h3 k hk, Addr.add_add])
    have hL : ((List.range len).map g).length = len := by simp
    refine ⟨(List.range len).map g, ⟨some a, m, by rw [hL], fun hp => ?_⟩, by rw [hL]; omega, fun x hx => by
      obtain ⟨i, hi, rfl⟩ := List.mem_map.1 hx
      exact (hg i (by have := List.mem_range.1 hi; omega)).1⟩
    rw [hL] at hp
    have hf0 : ∀ y k, k < sz → ∃ v, (f y).toList[k]? = some v := fun y k hk => ⟨_, List.getElem?_eq_getElem (by rw [Array.length_toList, hfz]; exact hk)⟩
    have hc0 := (hg 0 (by omega)).2 0 hpos
    obtain ⟨v0, hv0⟩ := hf0 (g 0) 0 hpos
    rw [hv0] at hc0
    obtain ⟨b, off, spot⟩ := a
    have hspot : spot = none := by simpa [Addr.add] using World.cell?_spot hc0
    subst hspot
    refine ⟨b, off, rfl, ?_, fun i hi j v hv => ?_⟩
    · have := World.block_lt_of_cell? W _ hc0
      simpa [Addr.add] using this
    · rw [hL] at hi
      have hget : ((List.range len).map g).getD i z = g i := by
        rw [List.getD_eq_getElem?_getD, List.getElem?_map, List.getElem?_range hi]
        rfl
      rw [hget] at hv
      have hj : j < sz := by
        have := (List.getElem?_eq_some_iff.1 hv).1
        rw [Array.length_toList, hfz] at this
        exact this
      have := (hg i (by omega)).2 j hj
      rw [Addr.add_lit, hv] at this
      rw [← this, Nat.add_assoc]

set_option maxRecDepth 40000 in
theorem elem_ch (n : Nat) (cs : List Value) (y : DataW H × List MemPlace) (h : DataW.trod enc Try.prog W 0 (fun _ => true) true n 24 cs = some y) : ∃ c : Ch, cs = (chA c).toList ∧ c.fits := by
  obtain ⟨y0, y1, y2, y3, y4, m, hl, h0, h1, h2, h3, h4⟩ := trod_st5 Try.underlying24 h
  have hC : Try.prog.cellsOf 24 = 5 := by kernel_rfl
  rw [hC] at hl
  match cs, hl with
  | [c0, c1, c2, c3, c4], _ =>
    have e0 : Try.prog.cellsOf 3 = 1 := by kernel_rfl
    have e1 : Try.prog.cellsOf 9 = 1 := by kernel_rfl
    simp only [e0, e1, List.drop_zero, List.drop_succ_cons, List.take_succ_cons, List.take_zero] at h0 h1 h2 h3 h4
    obtain ⟨i0, g0, _, w0⟩ := DataW.trod_int Try.underlying3 h0
    obtain ⟨i1, g1, _, w1⟩ := DataW.trod_int Try.underlying3 h1
    obtain ⟨i2, g2, _, w2⟩ := DataW.trod_int Try.underlying3 h2
    obtain ⟨i3, g3, _, w3⟩ := DataW.trod_string Try.underlying9 h3
    obtain ⟨i4, g4, _, w4⟩ := DataW.trod_string Try.underlying9 h4
    simp only [List.cons.injEq, and_true] at g0 g1 g2 g3 g4
    subst g0 g1 g2 g3 g4
    exact ⟨⟨i0, i1, i2, i3, i4⟩, rfl, w0, w1, w2, w3, w4⟩

set_option maxRecDepth 40000 in
theorem elem_tx (n : Nat) (cs : List Value) (y : DataW H × List MemPlace) (h : DataW.trod enc Try.prog W 0 (fun _ => true) true n 37 cs = some y) : ∃ c : Tx, cs = (txA c).toList ∧ c.fits := by
  obtain ⟨y0, y1, y2, y3, y4, m, hl, h0, h1, h2, h3, h4⟩ := trod_st5 Try.underlying37 h
  have hC : Try.prog.cellsOf 37 = 5 := by kernel_rfl
  rw [hC] at hl
  match cs, hl with
  | [c0, c1, c2, c3, c4], _ =>
    have e0 : Try.prog.cellsOf 3 = 1 := by kernel_rfl
    have e1 : Try.prog.cellsOf 22 = 1 := by kernel_rfl
    simp only [e0, e1, List.drop_zero, List.drop_succ_cons, List.take_succ_cons, List.take_zero] at h0 h1 h2 h3 h4
    obtain ⟨i0, g0, _, w0⟩ := DataW.trod_int Try.underlying3 h0
    obtain ⟨i1, g1, _, w1⟩ := DataW.trod_int Try.underlying3 h1
    obtain ⟨i2, g2, _, w2⟩ := DataW.trod_int Try.underlying22 h2
    obtain ⟨i3, g3, _, w3⟩ := DataW.trod_int Try.underlying22 h3
    obtain ⟨i4, g4, _, w4⟩ := DataW.trod_int Try.underlying22 h4
    simp only [List.cons.injEq, and_true] at g0 g1 g2 g3 g4
    subst g0 g1 g2 g3 g4
    obtain ⟨j2, rfl⟩ := u64_nat w2
    obtain ⟨j3, rfl⟩ := u64_nat w3
    obtain ⟨j4, rfl⟩ := u64_nat w4
    exact ⟨⟨i0, i1, j2, j3, j4⟩, rfl, w0, w1, w2, w3, w4⟩

set_option maxRecDepth 40000 in
theorem elem_di (n : Nat) (cs : List Value) (y : DataW H × List MemPlace) (h : DataW.trod enc Try.prog W 0 (fun _ => true) true n 39 cs = some y) : ∃ c : Di, cs = (diA c).toList ∧ c.fits := by
  obtain ⟨y0, y1, m, hl, h0, h1⟩ := trod_st2 Try.underlying39 h
  have hC : Try.prog.cellsOf 39 = 2 := by kernel_rfl
  rw [hC] at hl
  match cs, hl with
  | [c0, c1], _ =>
    have e0 : Try.prog.cellsOf 3 = 1 := by kernel_rfl
    have e1 : Try.prog.cellsOf 22 = 1 := by kernel_rfl
    simp only [e0, e1, List.drop_zero, List.drop_succ_cons, List.take_succ_cons, List.take_zero] at h0 h1
    obtain ⟨i0, g0, _, w0⟩ := DataW.trod_int Try.underlying3 h0
    obtain ⟨i1, g1, _, w1⟩ := DataW.trod_int Try.underlying22 h1
    simp only [List.cons.injEq, and_true] at g0 g1
    subst g0 g1
    obtain ⟨j1, rfl⟩ := u64_nat w1
    exact ⟨⟨i0, j1⟩, rfl, w0, w1⟩

set_option maxRecDepth 40000 in
theorem op_record {v : Value} {d : DataW H} {p : List MemPlace} {r : Reach} {b0 : Nat} (hv : Value.okWide Try.prog W r b0 28 v) (h : DataW.Trod enc Try.prog W 0 (fun _ => true) true 28 v d p) :
    ∃ m : Rec × Value × Value, v = .agg (rcA m.1 m.2.1 m.2.2) ∧ m.1.fits ∧ RcIn W m.1 m.2.1 m.2.2 := by
  obtain ⟨cs, rfl, hsz⟩ := okWide_struct Try.underlying28 hv
  have hC : Try.prog.cellsOf 28 = 14 := by kernel_rfl
  rw [hC] at hsz
  obtain ⟨fuel, hf⟩ := h
  obtain ⟨l⟩ := cs
  have hl : l.length = 14 := hsz
  match l, hl with
  | [c0, c1, c2, c3, c4, c5, c6, c7, c8, c9, c10, c11, c12, c13], _ =>
    have ec : (Value.agg ⟨[c0, c1, c2, c3, c4, c5, c6, c7, c8, c9, c10, c11, c12, c13]⟩).cells.toList = [c0, c1, c2, c3, c4, c5, c6, c7, c8, c9, c10, c11, c12, c13] := rfl
    obtain ⟨y0, y1, y2, y3, y4, y5, y6, y7, y8, y9, m, _, h0, h1, h2, h3, h4, h5, h6, h7, h8, h9⟩ := trod_st10 Try.underlying28 hf
    have e0 : Try.prog.cellsOf 3 = 1 := by kernel_rfl
    have e1 : Try.prog.cellsOf 22 = 1 := by kernel_rfl
    have e2 : Try.prog.cellsOf 24 = 5 := by kernel_rfl
    have e3 : Try.prog.cellsOf 25 = 1 := by kernel_rfl
    have e4 : Try.prog.cellsOf 26 = 1 := by kernel_rfl
    simp only [ec, e0, e1, e2, e3, e4, List.drop_zero, List.drop_succ_cons, List.take_succ_cons, List.take_zero] at h0 h1 h2 h3 h4 h5 h6 h7 h8 h9
    obtain ⟨i0, g0, _, w0⟩ := DataW.trod_int Try.underlying3 h0
    obtain ⟨i1, g1, _, w1⟩ := DataW.trod_int Try.underlying22 h1
    obtain ⟨i2, g2, _, w2⟩ := DataW.trod_int Try.underlying3 h2
    obtain ⟨i3, g3, _, w3⟩ := DataW.trod_int Try.underlying22 h3
    obtain ⟨ch, g4, w4⟩ := elem_ch _ _ _ h4
    obtain ⟨i5, g5, _, w5⟩ := DataW.trod_int Try.underlying22 h5
    obtain ⟨i6, g6, _, w6⟩ := DataW.trod_int Try.underlying3 h6
    obtain ⟨i7, g7, _, w7⟩ := DataW.trod_int Try.underlying22 h7
    obtain ⟨ts, g8, w8, u8⟩ := op_rows (sz := 5) txA Tx.zero Tx.fits elem_tx Try.underlying25 (by kernel_rfl) (fun _ => rfl) (by decide) h8
    obtain ⟨ds, g9, w9, u9⟩ := op_rows (sz := 2) diA Di.zero Di.fits elem_di Try.underlying26 (by kernel_rfl) (fun _ => rfl) (by decide) h9
    simp only [chA, List.cons.injEq, and_true] at g0 g1 g2 g3 g4 g5 g6 g7
    obtain ⟨g40, g41, g42, g43, g44⟩ := g4
    subst g0 g1 g2 g3 g40 g41 g42 g43 g44 g5 g6 g7
    obtain ⟨j1, rfl⟩ := u64_nat w1
    obtain ⟨j3, rfl⟩ := u64_nat w3
    obtain ⟨j5, rfl⟩ := u64_nat w5
    obtain ⟨j7, rfl⟩ := u64_nat w7
    exact ⟨(⟨i0, j1, i2, j3, ch, j5, i6, j7, ts, ds⟩, c12, c13), rfl, ⟨w4, w8, w9, u8, u9⟩, g8, g9⟩
end
end Go.Proofs.Ytmapgfakfeddmab
