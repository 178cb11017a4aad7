/-
  Texts that lean on one another, one behind the other: each opens with its own remark.
-/
import Derived.Test.YtohdmmfmjadipaaProg
import Derived.WalkSpells
import Derived.Deep.QuietTactic
import Derived.BigQuiet
import Derived.Maps.AppendAt
import Derived.DeepKeys
import Derived.Laws.StructEq
import Derived.Test.YtohdmmfmjadipaaK14
import Derived.Test.YtohdmmfmjadipaaK15
import Derived.Test.YtohdmmfmjadipaaK16
import Derived.Test.YtohdmmfmjadipaaK00
import Derived.Test.YtohdmmfmjadipaaK06
import Derived.Test.YtohdmmfmjadipaaK03
import Derived.Test.YtohdmmfmjadipaaK10
import Derived.Test.YtohdmmfmjadipaaK09

/-
  The document's Decode: no kind at all.
-/
namespace Go.Proofs.Ytohdmmfmjadipaa
open Go.RowKit
set_option linter.unusedVariables false

end Go.Proofs.Ytohdmmfmjadipaa

/-
  The contract of quaysideref06.Decode.
-/
namespace Go.Proofs.Ytohdmmfmjadipaa
open Go.RowKit
set_option linter.unusedVariables false

end Go.Proofs.Ytohdmmfmjadipaa

/-
  The contracts of quaysideref02's run, Of and Seal.
-/
namespace Go.Proofs.Ytohdmmfmjadipaa
open Go.RowKit
set_option linter.unusedVariables false

theorem bit_form (s : ByteArray) (j : Nat) (h : j / 8 < s.size) : (IntKind.u64.wrap (s[j / 8].toNat : Int) / 2 ^ (j % 8)).tmod 2 = ((bitAt s.data.toList j).toNat : Int) := by
  have hb : s[j / 8].toNat < 256 := s[j / 8].toNat_lt
  have e : IntKind.u64.wrap (s[j / 8].toNat : Int) = (s[j / 8].toNat : Int) := by rw [IntKind.wrap_u64]; omega
  rw [e, bitAt, getD_str s (j / 8) h, bit_mod]
  have e2 : (s[j / 8].toNat : Int) / 2 ^ (j % 8) = ((s[j / 8].toNat / 2 ^ (j % 8) : Nat) : Int) := by simp
  rw [e2]
  generalize s[j / 8].toNat / 2 ^ (j % 8) = q
  rw [Int.tmod_eq_emod_of_nonneg (by omega)]
  omega

theorem rr_yes (s : ByteArray) (q j : Nat) (hq : q < 2 ^ 32) (h : j / 8 < s.size) (ht : ((q : Int) % 2 != (IntKind.u64.wrap (s[j / 8].toNat : Int) / 2 ^ (j % 8)).tmod 2) = true) :
    bits .xor .u64 ((q : Int) / 2) 3988292384 = ((bst q (bitAt s.data.toList j) : Nat) : Int) := by
  rw [bit_form s j h, bne_iff_ne] at ht
  have e : ((q : Int) / 2) = ((q / 2 : Nat) : Int) := by omega
  have e2 : (3988292384 : Int) = ((3988292384 : Nat) : Int) := rfl
  rw [e, e2, u64_xor_nat (q / 2) 3988292384 (by omega) (by omega), bst_if, if_neg (by omega)]
  rfl

theorem rr_no (s : ByteArray) (q j : Nat) (h : j / 8 < s.size) (ht : ((q : Int) % 2 != (IntKind.u64.wrap (s[j / 8].toNat : Int) / 2 ^ (j % 8)).tmod 2) = false) :
    (q : Int) / 2 = ((bst q (bitAt s.data.toList j) : Nat) : Int) := by
  rw [bit_form s j h, bne_eq_false_iff_eq] at ht
  rw [bst_if, if_pos (by omega)]
  omega

end Go.Proofs.Ytohdmmfmjadipaa

/-
  The contracts of quaysideref02's functions: the document's answer, by definition.
-/
namespace Go.Proofs.Ytohdmmfmjadipaa
open Go.RowKit
set_option linter.unusedVariables false

theorem mk_list (s : ByteArray) (l : List UInt8) (h : l = s.data.toList) : (⟨l.toArray⟩ : ByteArray) = s := by
  subst h
  exact mk_self s

theorem ne_list (s : ByteArray) (l : List UInt8) (h : l ≠ s.data.toList) : ((⟨l.toArray⟩ : ByteArray).toList == s.toList) = false := by
  rw [beq_eq_false_iff_ne]
  intro e
  apply h
  have e1 : ∀ b : ByteArray, b.toList = b.data.toList := fun b => ByteArray.toList_eq b
  rw [e1, e1] at e
  exact e

end Go.Proofs.Ytohdmmfmjadipaa

/-
  The contract of quaysideref07.Take.
-/
namespace Go.Proofs.Ytohdmmfmjadipaa
open Go.RowKit
set_option linter.unusedVariables false

end Go.Proofs.Ytohdmmfmjadipaa

/-
  The contract of quaysideref07.Scan.
-/
namespace Go.Proofs.Ytohdmmfmjadipaa
open Go.RowKit
set_option linter.unusedVariables false

theorem snoc_cases {α : Type} (xs : List α) : xs = [] ∨ ∃ ys y, xs = ys ++ [y] := by
  rcases List.eq_nil_or_concat xs with h | ⟨ys, y, h⟩
  · exact .inl h
  · exact .inr ⟨ys, y, by rw [h, List.concat_eq_append]⟩
theorem head_at {bs pre y : List UInt8} (h : bs = pre ++ y) : takF bs (pre.length : Int) = ((headF y).1, if (headF y).2.2 = 0 then (pre.length : Int) + ((headF y).2.1 : Int) else 0, (headF y).2.2) := by
  unfold takF
  have e : bs.drop (pre.length : Int).toNat = y := by
    rw [Int.toNat_natCast, h]
    exact List.drop_left' rfl
  rw [if_neg (by rw [h, List.length_append]; omega), e]
theorem head_more {bs pre y : List UInt8} (h : bs = pre ++ y) (he : (headF y).2.2 = 0) : (headF y).1.right ∧ bs = (pre ++ frameB (headF y).1) ++ y.drop (headF y).2.1 ∧ (frameB (headF y).1).length = (headF y).2.1 ∧ 6 ≤ (headF y).2.1 ∧ pre.length + (headF y).2.1 ≤ bs.length := by
  obtain ⟨h1, h2, h3, h4⟩ := head_ok y he
  refine ⟨h1, ?_, h3.symm, ?_, ?_⟩
  · rw [← h2, List.append_assoc, List.take_append_drop]
    exact h
  · rw [h3, frameB_length]
    omega
  · rw [h, List.length_append]
    omega

/-- What is kept between two rounds. -/
structure RsI (w : World) (bs : List UInt8) (v : Value) (ms : List (Rec × Value × Value)) (W : World) : Prop where
  own : W.ownsRow w.heap.size 30 14 v ms.length (flatR ms)
  rise : Rise 0 (msR ms)
  got : ∀ m ∈ ms, m.1.fits ∧ GotIn w.heap.size W m.1 m.2.1 m.2.2
  bel : Below w.heap.size w W
theorem RsI.below {w : World} {bs : List UInt8} {v : Value} {ms : List (Rec × Value × Value)} {A B : World} (h : RsI w bs v ms A) (hb : Below A.heap.size A B) : RsI w bs v ms B :=
  ⟨ownsRow_below h.own hb, h.rise, fun m hm => ⟨(h.got m hm).1, (h.got m hm).2.below hb⟩, h.bel.trans (hb.mono h.bel.size)⟩
/-- One more. -/
theorem RsI.push {w : World} {bs : List UInt8} {v v' : Value} {ms : List (Rec × Value × Value)} {m : Rec × Value × Value} {A B C : World} (h : RsI w bs v ms A) (hb : Below A.heap.size A B) (hg : B.grownBy C v.ownBlock) (ho : C.ownsRow w.heap.size 30 14 v' (ms.length + 1) (flatR ms ++ (rcF m).toList))
    (hm : m.1.right ∧ m.1.fits ∧ GotIn w.heap.size A m.1 m.2.1 m.2.2) (hl : lastL 0 (msR ms) < m.1.l) : RsI w bs v' (ms ++ [m]) C := by
  have h2 := h.below hb
  have key : ∀ k t cs, t ≠ 30 → RowAt B k t cs → RowAt C k t cs := fun k t cs ht hr => (hg.block k hr.lt (fun e => own_kind h2.own hr ht e.symm)).trans hr
  have kg : ∀ z : Rec × Value × Value, GotIn w.heap.size B z.1 z.2.1 z.2.2 → GotIn w.heap.size C z.1 z.2.1 z.2.2 := fun z hz => ⟨own_kept hz.1 (fun k cs => key k _ cs (by decide)), own_kept hz.2 (fun k cs => key k _ cs (by decide))⟩
  refine ⟨?_, ?_, fun z hz => ?_, h2.bel.grown hg h2.bel.size (fun k hk => (h2.own.lt k hk).1)⟩
  · rw [List.length_append, flatR_append]
    have e : flatR [m] = (rcF m).toList := by simp [flatR]
    rw [e]
    exact ho
  · rw [msR_snoc, rise_snoc]
    exact ⟨h.rise, hm.1, hl⟩
  · rcases List.mem_append.1 hz with hz | hz
    · exact ⟨(h2.got z hz).1, kg z (h2.got z hz).2⟩
    · obtain rfl := List.mem_singleton.1 hz
      exact ⟨hm.2.1, kg z (hm.2.2.below hb)⟩
theorem RsI.fin {w : World} {bs : List UInt8} {v : Value} {ms : List (Rec × Value × Value)} {W : World} {mm len : Nat} (h : RsI w bs v ms W) (he : scanL bs = (msR ms, mm)) (q : Bool) (hq : q = decide (mm = len)) :
    ScanAns w bs len (.returned (.tuple #[v, .int .i64 (mm : Int), .bool q])) W := by
  refine ⟨v, ms, ?_, ?_, h.own, h.got, h.bel⟩
  · rw [he, hq]
  · rw [he]

/-- The LSN of the last record. -/
theorem own_last {W : World} {base : Nat} {ms : List (Rec × Value × Value)} {m : Rec × Value × Value} {g cap : Nat} (h : W.ownsRow base 30 14 (.slice (some ⟨g, 0, none⟩) (ms.length + 1) cap) (ms.length + 1) (flatR (ms ++ [m]))) : W.cell? ⟨g, ms.length * 14 + 1, none⟩ = some (.int .u64 (m.1.l : Int)) := by
  have h1 := h.cellAt (ms.length * 14 + 1) (by omega)
  rw [h1]
  have h2 := flat_get rcF 14 (fun _ => rfl) rcZ (ms ++ [m]) ms.length 1 (by simp) (by decide)
  unfold flatR
  rw [h2]
  have e : (ms ++ [m]).getD ms.length rcZ = m := by simp
  rw [e]
  rfl

end Go.Proofs.Ytohdmmfmjadipaa

/-
  The contract of behind: a log with the first records of a plan behind it.
-/
namespace Go.Proofs.Ytohdmmfmjadipaa
open Go.RowKit
set_option linter.unusedVariables false

def reC (r : Rec) (l p : Nat) : Array Value := #[.int .i64 r.k, .int .u64 (l : Int), .int .i64 r.t, .int .u64 (p : Int), .int .i64 r.c.k, .int .i64 r.c.pg, .int .i64 r.c.sl, .string r.c.o, .string r.c.n, .int .u64 (r.n : Int), .int .i64 r.s, .int .u64 (r.b : Int), .slice none 0 0, .slice none 0 0]
theorem reC_is (r : Rec) : rcF (bareM r) = reC r r.l r.p := rfl
theorem reC_one (r : Rec) (l p : Nat) : (reC r l p).all (·.oneCell') = true := by simp [reC, Value.oneCell']
/-- The last record's number, where it lies. -/
theorem own_lsn15 {w : World} {B n : Nat} {a : Option Addr} {c : Nat} {l : List Rec} (h : OwnL w B (.slice a n c) l) (hn : n = l.length) (hp : 0 < n) : ∃ b, a = some ⟨b, 0, none⟩ ∧ w.cell? ⟨b, (n - 1) * 14 + 1, none⟩ = some (.int .u64 (lastL 0 l : Int)) := by
  subst hn
  have h1 := h.1
  rcases h1.2 with ⟨e, _⟩ | ⟨g, cap, cur, e, _, _, _⟩
  · injection e with _ e2 _
    omega
  · injection e with e1 e2 e3
    subst e1
    subst e3
    refine ⟨g, rfl, ?_⟩
    rcases List.eq_nil_or_concat l with rfl | ⟨ms, m, rfl⟩
    · exact absurd hp (by simp)
    · rw [List.concat_eq_append] at h1 ⊢
      rw [lastL_snoc15]
      rw [List.length_append, List.length_singleton, bareMs_snoc] at h1
      rw [List.length_append, List.length_singleton, Nat.add_sub_cancel]
      rw [← bareMs_len ms] at h1 ⊢
      exact own_last h1
set_option maxRecDepth 8000 in
set_option maxHeartbeats 800000 in
theorem behind15 (v vp : Value) (l p : List Rec) (k B B2 : Nat) (w : World) (h : OwnL w B v l) (h2 : OwnL w B2 vp p) (hk : k ≤ p.length) (hp : p.length ≤ 400) (hl : l.length ≤ 400) (hb : ∀ j, j < p.length → (bhR (behR l p j) (p.getD j Rec.zero)).bare) (hm : ∀ j, j < p.length → lastL 0 (behR l p j) ≤ 100000) :
    Calls Try.prog 25 #[v, vp, .int .i64 (k : Int)] w fun e w' => (∃ vo, e = .returned vo ∧ OwnL w' w.heap.size vo (behR l p k)) ∧ Below w.heap.size w w' := by
  obtain ⟨a, c, rfl⟩ := own_slot15 h.1
  obtain ⟨ap, cp, rfl⟩ := own_slot15 h2.1
  have b5 : Below w.heap.size w (w.alloc (.cells #[] 30)) := (Below.refl w.heap.size w).alloc (Nat.le_refl _) _
  have ho : OwnL (w.alloc (.cells #[] 30)) w.heap.size (.slice (some ⟨w.heap.size, 0, none⟩) 0 0) [] := ⟨⟨rfl, .inr ⟨w.heap.size, 0, #[], rfl, Nat.le_refl _, RowAt.new w _ _, Nat.le_refl _, Nat.zero_le _, rfl, rfl⟩⟩, fun r hr => (nomatch hr)⟩
  obtain ⟨v1, y1, r1, o1, t1⟩ := ho.join (h.later b5) b5.size (by simp; omega) 22
  have HE := hide (show OwnL y1 w.heap.size v1 l ∧ Below w.heap.size w y1 from ⟨o1, b5.trans (t1.below (fun k hk => (own_in15 ho.1 hk).1) b5.size)⟩)
  have HP := hide (h2.log (by omega))
  have HBB := hide hb
  have HMM := hide hm
  have hpl := hp
  obtain ⟨lp, hlp⟩ : ∃ q, q = p.length := ⟨_, rfl⟩
  obtain ⟨ln, hln⟩ : ∃ q, q = l.length := ⟨_, rfl⟩
  have HLL := hide (And.intro hlp hln)
  rw [← hlp] at HP hk hp ⊢
  rw [← hln] at r1 hl ⊢
  clear h h2 hb hm b5 ho o1 t1 hlp hln hpl
  go_enter Try.func25, Try.ntmps25
  go_wp2_with (with_reducible refine stop_at 12 rfl ?_)
  refine unstop10 ?_
  refine Lib.wpList_append_run _ rfl _ _ _ _ rfl _ _ rfl rfl _ _ r1 ?_
  clear r1
  go_wp2
  go_loopw [8, 7] (fun i vo wr => ∃ (j : Nat) (v' : Value), j ≤ k ∧ i = .int .i64 (j : Int) ∧ v' = vo ∧ Hid (OwnL wr w.heap.size v' (behR l p j) ∧ Below w.heap.size w wr)) (fun i _ _ => k - (intOf i).toNat)
  case atStart => exact ⟨0, v1, Nat.zero_le _, rfl, rfl, HE.out⟩
  case round =>
    clear HE
    obtain ⟨j, v', hj, rfl, rfl, HO⟩ := hrel
    by_cases hlt : j < k
    · have i5 : (j : Int) < (k : Int) := by omega
      have i6 : (0 : Int) ≤ (j : Int) := by omega
      have j9 : j < 400 := by omega
      have hjl : j < p.length := by rw [← HLL.out.1]; omega
      have ijp : (j : Int) < (lp : Int) := by omega
      obtain ⟨b, off, rfl, hf, he, hx⟩ := HP.out.mid (show j < (bareMs p).length by rw [bareMs_len]; exact hjl)
      have hg : (bareMs p).getD j rcZ = bareM (p.getD j Rec.zero) := by
        rw [List.getD_eq_getElem?_getD, List.getD_eq_getElem?_getD]
        unfold bareMs
        rw [List.getElem?_map, List.getElem?_eq_getElem hjl]
        rfl
      have HRG := hide (hx wr HO.out.2).1
      rw [hg, reC_is] at HRG
      have HNX := hide (behR_next l p j hjl)
      have HLO := hide (behR_len l p j (by omega))
      have HBJ := hide (HBB.out j hjl)
      have HMJ := hide (HMM.out j hjl)
      obtain ⟨r, hr⟩ : ∃ r, r = p.getD j Rec.zero := ⟨_, rfl⟩
      rw [← hr] at HRG HNX HBJ
      clear hf he hx hg hr hjl
      obtain ⟨out, hout⟩ : ∃ o, o = behR l p j := ⟨_, rfl⟩
      rw [← hout] at HO HNX HLO HBJ HMJ
      clear hout
      obtain ⟨ao, co, rfl⟩ := own_slot15 HO.out.1.1
      go_wp2_with (first | (refine wpList_load_mid rfl 30 (.tmp 20) rfl b (off + j * 14) (reC r r.l r.p) rfl HRG.out _ Try.underlying30 rfl infoRc ?_) | (with_reducible refine stop_at 9 rfl ?_))
      refine unstop10 ?_
      obtain ⟨g9, hg9⟩ : ∃ g, g = wr.heap.size := ⟨_, rfl⟩
      have b9 : Below wr.heap.size wr (wr.alloc (.cells zeroA 30)) := (Below.refl _ _).alloc (Nat.le_refl _) _
      have HZ9 : Hid (RowAt (wr.alloc (.cells zeroA 30)) g9 30 zeroA ∧ Below wr.heap.size wr (wr.alloc (.cells zeroA 30))) := ⟨by rw [hg9]; exact RowAt.new wr _ _, b9⟩
      have HG9 := hide hg9
      clear b9 hg9
      go_wp2_with (refine wpList_store_at rfl 30 (.tmp 9) (.tmp 21) rfl g9 zeroA (reC r r.l r.p) (by rw [HG9.out]; rfl) rfl HZ9.out.1 infoRc rfl (reC_one _ _ _) ?_; intro w6 hr6 hk6 hrow6; refine stop10 ?_)
      have b6 := hk6 _ _ HZ9.out.2 (by rw [HG9.out]; exact Nat.le_refl _)
      have H6 : Hid (OwnL w6 w.heap.size (.slice ao out.length co) out ∧ Below w.heap.size w w6 ∧ RowAt w6 g9 30 (reC r r.l r.p) ∧ ∀ k, Value.ownBlock (.slice ao out.length co) = some k → k ≠ g9) := by
        refine ⟨HO.out.1.later b6, HO.out.2.trans (b6.mono HO.out.2.size), hr6, fun k hk => ?_⟩
        have := own_lt15 HO.out.1.1 hk
        rw [HG9.out]
        omega
      rw [← HG9.out]
      have HWS : Hid (w.heap.size ≤ wr.heap.size) := HO.out.2.size
      clear hr6 hk6 hrow6 b6 HZ9 HO HRG
      refine unstop10 ?_
      have c2 := H6.out.2.2.1.cell 2 (.int .i64 r.t) rfl
      have HRL := hide (rlast15 _ (bareMs out) r.t w6 (H6.out.1.log (by rw [HLO.out, ← HLL.out.2]; omega)))
      rw [bareMs_R] at HRL
      obtain ⟨q, hq⟩ : ∃ q, q = lastT out r.t := ⟨_, rfl⟩
      rw [← hq] at HRL
      have HQ := hide hq
      obtain ⟨no, hno⟩ : ∃ n, n = out.length := ⟨_, rfl⟩
      have HNO := hide hno
      rw [← hno] at HRL H6 ⊢
      have hno9 : no ≤ 800 := by rw [hno, HLO.out, ← HLL.out.2]; omega
      clear hq hno
      go_wp2_with fail
      refine HRL.out.mono ?_
      rintro e w7 ⟨rfl, hb7⟩
      have H7 : Hid (OwnL w7 w.heap.size (.slice ao no co) out ∧ Below w.heap.size w w7 ∧ RowAt w7 g9 30 (reC r r.l r.p) ∧ (∀ k, Value.ownBlock (.slice ao no co) = some k → k ≠ g9) ∧ w.heap.size ≤ g9) := ⟨H6.out.1.later hb7, H6.out.2.1.trans (hb7.mono H6.out.2.1.size), H6.out.2.2.1.later hb7, H6.out.2.2.2, by rw [HG9.out]; exact HWS.out⟩
      clear hb7 c2 H6 HRL
      have c1 := H7.out.2.2.1.cell 1 (.int .u64 (r.l : Int)) rfl
      have c3 := H7.out.2.2.1.cell 3 (.int .u64 (r.p : Int)) rfl
      have f1 := H7.out.2.2.1.free 1
      have f3 := H7.out.2.2.1.free 3
      have HMJ9 := HMJ.out
      obtain ⟨L, hL⟩ : ∃ L, L = lastL 0 out := ⟨_, rfl⟩
      rw [← hL] at HMJ9
      have HL9 := hide hL
      have key : no = 0 ∨ ∃ n1 bo, no = n1 + 1 ∧ ao = some ⟨bo, 0, none⟩ ∧ bo ≠ g9 ∧ w7.cell? ⟨bo, n1 * 14 + 1, none⟩ = some (.int .u64 (L : Int)) := by
        by_cases hz : no = 0
        · exact .inl hz
        · obtain ⟨bo, e1, e2⟩ := own_lsn15 H7.out.1 HNO.out (by omega)
          refine .inr ⟨no - 1, bo, by omega, e1, H7.out.2.2.2.1 bo (by rw [e1]; rfl), by rw [hL]; exact e2⟩
      clear hL
      rcases key with rfl | ⟨n1, bo, rfl, rfl, hbo, cc⟩
      · have L0 : L = 0 := by
          have e0 : out = [] := List.eq_nil_of_length_eq_zero HNO.out.symm
          rw [HL9.out, e0]
          rfl
        go_wp2_with (with_reducible refine stop_at 41 rfl ?_)
        have HZ0 : OwnL ((w7.setCell ⟨g9, 3, none⟩ (.int .u64 (q : Int))).setCell ⟨g9, 1, none⟩ (.int .u64 1)) w.heap.size (.slice ao (0) co) out ∧ Below w.heap.size w ((w7.setCell ⟨g9, 3, none⟩ (.int .u64 (q : Int))).setCell ⟨g9, 1, none⟩ (.int .u64 1)) ∧ RowAt ((w7.setCell ⟨g9, 3, none⟩ (.int .u64 (q : Int))).setCell ⟨g9, 1, none⟩ (.int .u64 1)) g9 30 (reC r (L + 1) q) := by
          refine ⟨⟨own_same15 H7.out.1.1 (fun k cs hk hr => (hr.other ⟨g9, 3, none⟩ _ (fun e => H7.out.2.2.2.1 k hk e)).other ⟨g9, 1, none⟩ _ (fun e => H7.out.2.2.2.1 k hk e)), H7.out.1.2⟩, (H7.out.2.1.setCell H7.out.2.2.2.2 _).setCell H7.out.2.2.2.2 _, by rw [L0]; exact (H7.out.2.2.1.set 3 (.int .u64 (q : Int))).set 1 (.int .u64 1)⟩
        obtain ⟨z, hz⟩ : ∃ z, z = (w7.setCell ⟨g9, 3, none⟩ (.int .u64 (q : Int))).setCell ⟨g9, 1, none⟩ (.int .u64 1) := ⟨_, rfl⟩
        rw [← hz] at HZ0 ⊢
        clear hz
        have HZ := hide HZ0
        clear HZ0 c1 c3 f1 f3 H7
        have hno1 : (0) ≤ 1000 := by omega
        have HOW : Hid (z.ownsRow w.heap.size 30 14 (.slice ao (0) co) (0) (flatR (bareMs out))) := by
          have h9 := HZ.out.1.1
          rw [← HNO.out] at h9
          exact h9
        refine unstop10 ?_
        obtain ⟨l1, hl1⟩ : ∃ l1 : Int, l1 = ((L + 1 : Nat) : Int) := ⟨_, rfl⟩
        have HR1 : Hid (RowAt z g9 30 #[.int .i64 r.k, .int .u64 l1, .int .i64 r.t, .int .u64 (q : Int), .int .i64 r.c.k, .int .i64 r.c.pg, .int .i64 r.c.sl, .string r.c.o, .string r.c.n, .int .u64 (r.n : Int), .int .i64 r.s, .int .u64 (r.b : Int), .slice none 0 0, .slice none 0 0]) := by rw [hl1]; exact HZ.out.2.2
        have HL1 := hide hl1
        clear hl1
        go_wp2_with (first | (refine wpList_load_at rfl 30 (.tmp 9) rfl g9 rfl #[.int .i64 r.k, .int .u64 l1, .int .i64 r.t, .int .u64 (q : Int), .int .i64 r.c.k, .int .i64 r.c.pg, .int .i64 r.c.sl, .string r.c.o, .string r.c.n, .int .u64 (r.n : Int), .int .i64 r.s, .int .u64 (r.b : Int), .slice none 0 0, .slice none 0 0] HR1.out _ Try.underlying30 rfl infoRc ?_) | (refine wpList_append_one _ 22 30 14 160 (.agg zeroA) Try.underlying22 infoRc3 rfl (by decide) (by decide) rfl (.tmp 40) (.tmp 42) rfl w.heap.size (.slice ao (0) co) (0) (flatR (bareMs out)) rfl (ow_later HOW.out ((Below.refl z.heap.size z).alloc (Nat.le_refl _) _)) z.heap.size #[.int .i64 r.k, .int .u64 l1, .int .i64 r.t, .int .u64 (q : Int), .int .i64 r.c.k, .int .i64 r.c.pg, .int .i64 r.c.sl, .string r.c.o, .string r.c.n, .int .u64 (r.n : Int), .int .i64 r.s, .int .u64 (r.b : Int), .slice none 0 0, .slice none 0 0] rfl (RowAt.new z _ _) rfl (by simp [Value.oneCell']) hno1 (Nat.le_trans HZ.out.2.1.size ((Below.refl z.heap.size z).alloc (Nat.le_refl _) _).size) ?_; intro v' w9 ho9 hg9; refine stop10 ?_))
        have hba : Below z.heap.size z (z.alloc (.cells #[.int .i64 r.k, .int .u64 l1, .int .i64 r.t, .int .u64 (q : Int), .int .i64 r.c.k, .int .i64 r.c.pg, .int .i64 r.c.sl, .string r.c.o, .string r.c.n, .int .u64 (r.n : Int), .int .i64 r.s, .int .u64 (r.b : Int), .slice none 0 0, .slice none 0 0] 30)) := (Below.refl _ _).alloc (Nat.le_refl _) _
        have H9 : Hid (OwnL w9 w.heap.size v' (behR l p (j + 1)) ∧ Below w.heap.size w w9) := by
          refine ⟨?_, ow_below (ow_later HOW.out hba) (Nat.le_refl _) (HZ.out.2.1.trans (hba.mono HZ.out.2.1.size)) (Nat.le_trans HZ.out.2.1.size hba.size) hg9⟩
          rw [HNX.out]
          refine OwnL.push ?_ HZ.out.1.2 HBJ.out
          rw [← HNO.out]
          show w9.ownsRow _ _ _ _ _ (_ ++ (reC r (lastL 0 out + 1) (lastT out r.t)).toList)
          rw [← HL9.out, ← HQ.out]
          rw [HL1.out] at ho9
          exact ho9
        clear ho9 hg9 hba
        refine unstop10 ?_
        go_wp2
        go_roundw
        case rel => exact ⟨j + 1, v', by omega, by go_num, rfl, H9.out⟩
        case measure => simp [intOf] <;> omega
      · have hbo' : ¬ bo = g9 := hbo
        go_wp2_with (with_reducible refine stop_at 41 rfl ?_)
        clear cc hbo hbo'
        have HZ0 : OwnL (((w7.setCell ⟨g9, 3, none⟩ (.int .u64 (q : Int))).setCell ⟨g9, 1, none⟩ (.int .u64 1)).setCell ⟨g9, 1, none⟩ (.int .u64 ((L : Int) + 1))) w.heap.size (.slice (some ⟨bo, 0, none⟩) (n1 + 1) co) out ∧ Below w.heap.size w (((w7.setCell ⟨g9, 3, none⟩ (.int .u64 (q : Int))).setCell ⟨g9, 1, none⟩ (.int .u64 1)).setCell ⟨g9, 1, none⟩ (.int .u64 ((L : Int) + 1))) ∧ RowAt (((w7.setCell ⟨g9, 3, none⟩ (.int .u64 (q : Int))).setCell ⟨g9, 1, none⟩ (.int .u64 1)).setCell ⟨g9, 1, none⟩ (.int .u64 ((L : Int) + 1))) g9 30 (reC r (L + 1) q) := by
          refine ⟨⟨own_same15 H7.out.1.1 (fun k cs hk hr => ((hr.other ⟨g9, 3, none⟩ _ (fun e => H7.out.2.2.2.1 k hk e)).other ⟨g9, 1, none⟩ _ (fun e => H7.out.2.2.2.1 k hk e)).other ⟨g9, 1, none⟩ _ (fun e => H7.out.2.2.2.1 k hk e)), H7.out.1.2⟩, ((H7.out.2.1.setCell H7.out.2.2.2.2 _).setCell H7.out.2.2.2.2 _).setCell H7.out.2.2.2.2 _, ((H7.out.2.2.1.set 3 (.int .u64 (q : Int))).set 1 (.int .u64 1)).set 1 (.int .u64 ((L : Int) + 1))⟩
        obtain ⟨z, hz⟩ : ∃ z, z = ((w7.setCell ⟨g9, 3, none⟩ (.int .u64 (q : Int))).setCell ⟨g9, 1, none⟩ (.int .u64 1)).setCell ⟨g9, 1, none⟩ (.int .u64 ((L : Int) + 1)) := ⟨_, rfl⟩
        rw [← hz] at HZ0 ⊢
        clear hz
        have HZ := hide HZ0
        clear HZ0 c1 c3 f1 f3 H7
        have hno1 : (n1 + 1) ≤ 1000 := by omega
        have HOW : Hid (z.ownsRow w.heap.size 30 14 (.slice (some ⟨bo, 0, none⟩) (n1 + 1) co) (n1 + 1) (flatR (bareMs out))) := by
          have h9 := HZ.out.1.1
          rw [← HNO.out] at h9
          exact h9
        refine unstop10 ?_
        obtain ⟨l1, hl1⟩ : ∃ l1 : Int, l1 = ((L + 1 : Nat) : Int) := ⟨_, rfl⟩
        have HR1 : Hid (RowAt z g9 30 #[.int .i64 r.k, .int .u64 l1, .int .i64 r.t, .int .u64 (q : Int), .int .i64 r.c.k, .int .i64 r.c.pg, .int .i64 r.c.sl, .string r.c.o, .string r.c.n, .int .u64 (r.n : Int), .int .i64 r.s, .int .u64 (r.b : Int), .slice none 0 0, .slice none 0 0]) := by rw [hl1]; exact HZ.out.2.2
        have HL1 := hide hl1
        clear hl1
        go_wp2_with (first | (refine wpList_load_at rfl 30 (.tmp 9) rfl g9 rfl #[.int .i64 r.k, .int .u64 l1, .int .i64 r.t, .int .u64 (q : Int), .int .i64 r.c.k, .int .i64 r.c.pg, .int .i64 r.c.sl, .string r.c.o, .string r.c.n, .int .u64 (r.n : Int), .int .i64 r.s, .int .u64 (r.b : Int), .slice none 0 0, .slice none 0 0] HR1.out _ Try.underlying30 rfl infoRc ?_) | (refine wpList_append_one _ 22 30 14 160 (.agg zeroA) Try.underlying22 infoRc3 rfl (by decide) (by decide) rfl (.tmp 40) (.tmp 42) rfl w.heap.size (.slice (some ⟨bo, 0, none⟩) (n1 + 1) co) (n1 + 1) (flatR (bareMs out)) rfl (ow_later HOW.out ((Below.refl z.heap.size z).alloc (Nat.le_refl _) _)) z.heap.size #[.int .i64 r.k, .int .u64 l1, .int .i64 r.t, .int .u64 (q : Int), .int .i64 r.c.k, .int .i64 r.c.pg, .int .i64 r.c.sl, .string r.c.o, .string r.c.n, .int .u64 (r.n : Int), .int .i64 r.s, .int .u64 (r.b : Int), .slice none 0 0, .slice none 0 0] rfl (RowAt.new z _ _) rfl (by simp [Value.oneCell']) hno1 (Nat.le_trans HZ.out.2.1.size ((Below.refl z.heap.size z).alloc (Nat.le_refl _) _).size) ?_; intro v' w9 ho9 hg9; refine stop10 ?_))
        have hba : Below z.heap.size z (z.alloc (.cells #[.int .i64 r.k, .int .u64 l1, .int .i64 r.t, .int .u64 (q : Int), .int .i64 r.c.k, .int .i64 r.c.pg, .int .i64 r.c.sl, .string r.c.o, .string r.c.n, .int .u64 (r.n : Int), .int .i64 r.s, .int .u64 (r.b : Int), .slice none 0 0, .slice none 0 0] 30)) := (Below.refl _ _).alloc (Nat.le_refl _) _
        have H9 : Hid (OwnL w9 w.heap.size v' (behR l p (j + 1)) ∧ Below w.heap.size w w9) := by
          refine ⟨?_, ow_below (ow_later HOW.out hba) (Nat.le_refl _) (HZ.out.2.1.trans (hba.mono HZ.out.2.1.size)) (Nat.le_trans HZ.out.2.1.size hba.size) hg9⟩
          rw [HNX.out]
          refine OwnL.push ?_ HZ.out.1.2 HBJ.out
          rw [← HNO.out]
          show w9.ownsRow _ _ _ _ _ (_ ++ (reC r (lastL 0 out + 1) (lastT out r.t)).toList)
          rw [← HL9.out, ← HQ.out]
          rw [HL1.out] at ho9
          exact ho9
        clear ho9 hg9 hba
        refine unstop10 ?_
        go_wp2
        go_roundw
        case rel => exact ⟨j + 1, v', by omega, by go_num, rfl, H9.out⟩
        case measure => simp [intOf] <;> omega
    · have i5 : ¬ (j : Int) < (k : Int) := by omega
      obtain rfl : j = k := by omega
      go_wp2
      go_ret
      exact ⟨⟨_, rfl, HO.out.1⟩, HO.out.2⟩
end Go.Proofs.Ytohdmmfmjadipaa

/-
  What the contract of behind wants of a plan.
-/
namespace Go.Proofs.Ytohdmmfmjadipaa
open Go.RowKit
set_option linter.unusedVariables false

theorem bare_of15 {r : Rec} (hc : r.c.right) (h1 : r.ts = []) (h2 : r.ds = []) : r.bare := by
  refine ⟨h1, h2, ch_fits15 hc, by rw [h1]; exact Nat.zero_le _, by rw [h2]; exact Nat.zero_le _, fun x hx => ?_, fun x hx => ?_⟩
  · rw [h1] at hx
    cases hx
  · rw [h2] at hx
    cases hx
theorem beh_wants {l : List Rec} (hl : Rise 0 l) (ch : ∀ r ∈ l, Linked l r.t r.p ∧ Linked l r.t r.n) (hm : lastL 0 l ≤ 90000) (t : Int) (ht : 1 ≤ t) (hlen : (planT l t 0).length ≤ 10000) (j : Nat) (hj : j < (planT l t 0).length) : (bhR (behR l (planT l t 0) j) ((planT l t 0).getD j Rec.zero)).bare ∧ lastL 0 (behR l (planT l t 0) j) ≤ 100000 := by
  obtain ⟨n, B⟩ := beh15 hl ch (by omega) t ht j (by omega) (by omega)
  have hto := B.to
  have hrest := B.rest
  refine ⟨?_, by omega⟩
  obtain ⟨p, hp⟩ : ∃ p, p = planT l t 0 := ⟨_, rfl⟩
  rw [← hp] at hrest hj ⊢
  have hd : p.drop j = p.getD j Rec.zero :: p.drop (j + 1) := by
    rw [List.drop_eq_getElem_cons hj, List.getD_eq_getElem?_getD, List.getElem?_eq_getElem hj]
    rfl
  rcases planL_next hl n 0 B.still with ⟨_, e⟩ | ⟨r, hr, h2, h3, h4, e⟩
  · rw [e, hd] at hrest
    exact absurd hrest (by simp)
  · rw [e, hd] at hrest
    injection hrest with q1 q2
    rw [← q1]
    exact bare_of15 (inv_right r.c ((rise_right _ 0 hl r hr).ch (by omega))).1 rfl rfl
end Go.Proofs.Ytohdmmfmjadipaa

/-
  Each act logs one record at most. Of no program.
-/
namespace Go.Proofs.Ytohdmmfmjadipaa
open Go.RowKit
set_option linter.unusedVariables false

theorem log_lens (h : Hs) (n i : Nat) (r : Rec) (f m : Nat) : ((h.log n i r f).lg m).length ≤ (h.lg m).length + 1 := by
  show (upd h.lg n (h.lg n ++ [h.entry n i r f]) m).length ≤ _
  by_cases e : m = n
  · rw [e, upd_same, List.length_append, List.length_singleton]
    exact Nat.le_refl _
  · rw [upd_other _ _ _ _ e]
    omega
theorem does_lens (h : Hs) (o : Ac) (m : Nat) : ((h.does o).lg m).length ≤ (h.lg m).length + 1 := by
  unfold Hs.does
  split
  · unfold Hs.change
    obtain ⟨g, hg⟩ : ∃ g, g = h.begun (pick15 o.n 3) (pick15 o.n 3 * 3 + pick15 o.t 3) := ⟨_, rfl⟩
    have e : g.lg = h.lg := by
      rw [hg]
      unfold Hs.begun
      split <;> rfl
    rw [← hg, ← e]
    unfold Hs.change1
    split
    · omega
    · split
      · omega
      · have b : (g.lockedUp (pick15 o.n 3) (pick15 o.n 3 * 3 + pick15 o.t 3) (pick15 o.pg 4) (pick15 o.sl 8)).lg = g.lg := by
          unfold Hs.lockedUp Hs.locked
          split <;> rfl
        rw [← b]
        exact log_lens (g.lockedUp (pick15 o.n 3) (pick15 o.n 3 * 3 + pick15 o.t 3) (pick15 o.pg 4) (pick15 o.sl 8)) _ _ _ _ m
  · split
    · show (h.lg m).length ≤ _
      omega
    · split
      · omega
      · unfold Hs.does2
        split
        · exact log_lens h _ _ _ _ m
        · split
          · exact log_lens h _ _ _ _ m
          · split
            · exact log_lens h _ _ _ _ m
            · split
              · unfold Hs.back
                split
                · omega
                · exact log_lens h _ _ _ _ m
              · split
                · exact log_lens h _ _ _ _ m
                · omega
/-- A node's log is no longer than what is played. -/
theorem play_lens (l : List Ac) (m : Nat) : ((Hs.play l).lg m).length ≤ l.length := by
  induction l using snoc_ind with
  | h0 => exact Nat.le_refl _
  | h1 l o ih =>
    rw [Hs.play_snoc, List.length_append, List.length_singleton]
    have := does_lens (Hs.play l) o m
    omega
end Go.Proofs.Ytohdmmfmjadipaa

/-
  A node's log as a row of the history's own; the rest of a list of records.
-/
namespace Go.Proofs.Ytohdmmfmjadipaa
open Go.RowKit
set_option linter.unusedVariables false

theorem HB.logOwn {w : World} {B g n : Nat} {F : Nat → Prop} {h : Hs} (H : HB w B g F h) (hn : n < 3) : ∃ gl a c, w.cell? ⟨g, 0, none⟩ = some (.slice (some ⟨gl, 0, none⟩) 3 3) ∧ w.cell? ⟨gl, n, none⟩ = some (.slice a (h.lg n).length c) ∧ OwnL w B (.slice a (h.lg n).length c) (h.lg n) := by
  obtain ⟨x, HX, _⟩ := H
  obtain ⟨a, c, hv⟩ := own_slot15 (HX.lown n hn).1
  refine ⟨x.gl, a, c, HX.blk.cell _ _ HX.cells.c0, by rw [← hv]; exact HX.lrow.cell _ _ (HX.lat n hn), ?_⟩
  rw [← hv]
  exact HX.lown n hn
theorem rs_rest {w : World} {b off len c : Nat} {ms : List (Rec × Value × Value)} (h : RsIn w (.slice (some ⟨b, off, none⟩) len c) ms) {k : Nat} (hk : k ≤ ms.length) (c' : Nat) : RsIn w (.slice (some ⟨b, off + k * 14, none⟩) (ms.length - k) c') (ms.drop k) := by
  obtain ⟨⟨a', cap', h1, h2⟩, h3⟩ := h
  injection h1 with e1 e2 e3
  subst e1
  have hl : (ms.drop k).length = ms.length - k := by rw [List.length_drop]
  refine ⟨⟨_, c', by rw [hl], fun hp => ?_⟩, fun m hm => h3 m (List.mem_of_mem_drop hm)⟩
  rw [hl] at hp ⊢
  obtain ⟨b', off', e, hb, hr⟩ := h2 (by omega)
  injection e with e
  injection e with e4 e5 e6
  subst e4
  subst e5
  refine ⟨b, off + k * 14, rfl, hb, fun i hi => ?_⟩
  rw [List.getD_eq_getElem?_getD, List.getElem?_drop, ← List.getD_eq_getElem?_getD]
  have h9 := hr (k + i) (by omega)
  rw [show off + (k + i) * 14 = off + k * 14 + i * 14 by omega] at h9
  exact h9
end Go.Proofs.Ytohdmmfmjadipaa

/-
  What takes a transaction back can be applied, in its order, and leaves its cells as they were. Of no program.
-/
namespace Go.Proofs.Ytohdmmfmjadipaa
open Go.RowKit
set_option linter.unusedVariables false

/-- The cells of some pages. -/
def cellsP (P : Nat → Pg) (x : Nat) : Cel := ((P (x / 8)).u (x % 8), (P (x / 8)).s (x % 8))
def stepP (P : Nat → Pg) (c : Ch) : Nat → Pg := upd P c.pg.toNat ((P c.pg.toNat).put ((P c.pg.toNat).l + 1) c.at c.makeU c.makeV)
def runP : (Nat → Pg) → List Ch → Nat → Pg
  | P, [] => P
  | P, c :: cs => runP (stepP P c) cs
theorem cellX_div {c : Ch} (h : c.right) : cellX c / 8 = c.pg.toNat ∧ cellX c % 8 = c.at := by
  have := h.at_lt
  unfold cellX
  omega
theorem cells_step (P : Nat → Pg) {c : Ch} (h : c.right) (x : Nat) : cellsP (stepP P c) x = doC (cellsP P) c x := by
  obtain ⟨h1, h2⟩ := cellX_div h
  by_cases e : x = cellX c
  · subst e
    rw [doC_at]
    unfold cellsP stepP
    rw [h1, upd_same, h2]
    obtain ⟨a, b⟩ := put_at (P c.pg.toNat) ((P c.pg.toNat).l + 1) c.at c.makeU c.makeV
    rw [a, b]
  · rw [doC_out _ _ _ e]
    unfold cellsP stepP
    by_cases e2 : x / 8 = c.pg.toNat
    · rw [e2, upd_same]
      obtain ⟨a, b⟩ := put_other (P c.pg.toNat) ((P c.pg.toNat).l + 1) c.at (x % 8) c.makeU c.makeV (fun q => e (by have := cellX_div h; have h3 := h.at_lt; unfold cellX; omega))
      rw [a, b]
    · rw [upd_other _ _ _ _ e2]
/-- Pages that some changes fit, one behind the other. -/
structure FitP (P : Nat → Pg) (cs : List Ch) (M : Nat) : Prop where
  right : ∀ p, p < 4 → (P p).right ∧ (P p).l ≤ M
  ch : ∀ c ∈ cs, c.right ∧ c.pg < 4
  fit : fitsC (cellsP P) cs
theorem FitP.step {P : Nat → Pg} {c : Ch} {cs : List Ch} {M : Nat} (h : FitP P (c :: cs) M) (hM : M + 1 ≤ 1000000) :
    c.pg.toNat < 4 ∧ (c.pg.toNat : Int) = c.pg ∧ appE (P c.pg.toNat) c ((P c.pg.toNat).l + 1) = 0 ∧ upd P c.pg.toNat (appP (P c.pg.toNat) c ((P c.pg.toNat).l + 1)) = stepP P c ∧ FitP (stepP P c) cs (M + 1) := by
  obtain ⟨hc, h4⟩ := h.ch c (by simp)
  have hp0 := hc.1.1
  have hp : c.pg.toNat < 4 := by omega
  obtain ⟨hr, hl⟩ := h.right _ hp
  have hat := h.fit.1
  obtain ⟨d1, d2⟩ := cellX_div hc
  unfold cellsP at hat
  rw [d1, d2] at hat
  injection hat with hu hv
  have hE : appE (P c.pg.toNat) c ((P c.pg.toNat).l + 1) = 0 := (app_yes _ _ _).2 ⟨hr, hc, by unfold maxP; omega, by omega, hu, hv⟩
  refine ⟨hp, by omega, hE, ?_, ?_, fun d hd => h.ch d (List.mem_cons_of_mem _ hd), ?_⟩
  · unfold stepP appP
    rw [if_pos hE]
  · intro p hp4
    unfold stepP
    by_cases e : p = c.pg.toNat
    · rw [e, upd_same]
      refine ⟨put_right _ _ _ hr hc (by unfold maxP; omega), ?_⟩
      show (P c.pg.toNat).l + 1 ≤ M + 1
      omega
    · rw [upd_other _ _ _ _ e]
      have := h.right p hp4
      exact ⟨this.1, by omega⟩
  · refine fitsC_like (M := fun _ => True) cs _ _ (fun _ _ => trivial) (fun x _ => (cells_step P hc x).symm) h.fit.2
theorem cells_run : ∀ (cs : List Ch) (P : Nat → Pg), (∀ c ∈ cs, c.right) → ∀ x, cellsP (runP P cs) x = runC (cellsP P) cs x
  | [], _, _, _ => rfl
  | c :: cs, P, h, x => by
    show cellsP (runP (stepP P c) cs) x = runC (doC (cellsP P) c) cs x
    rw [cells_run cs _ (fun d hd => h d (List.mem_cons_of_mem _ hd))]
    exact runC_like (M := fun _ => True) cs _ _ (fun x _ => cells_step P (h c (by simp)) x) x trivial
theorem run_right : ∀ (cs : List Ch) (P : Nat → Pg) (M : Nat), FitP P cs M → M + cs.length ≤ 1000000 → ∀ p, p < 4 → (runP P cs p).right ∧ (runP P cs p).l ≤ M + cs.length
  | [], _, _, h, _, p, hp => h.right p hp
  | c :: cs, P, M, h, hM, p, hp => by
    rw [List.length_cons] at hM ⊢
    have := run_right cs (stepP P c) (M + 1) (h.step (by omega)).2.2.2.2 (by omega) p hp
    rw [show M + (cs.length + 1) = M + 1 + cs.length by omega]
    exact this
theorem runP_append : ∀ (cs ds : List Ch) (P : Nat → Pg), runP P (cs ++ ds) = runP (runP P cs) ds
  | [], _, _ => rfl
  | c :: cs, ds, P => runP_append cs ds (stepP P c)
theorem run_next (P : Nat → Pg) (cs : List Ch) (j : Nat) (hj : j < cs.length) (d : Ch) : runP P (cs.take (j + 1)) = stepP (runP P (cs.take j)) (cs.getD j d) := by
  rw [List.take_add_one, List.getElem?_eq_getElem hj, List.getD_eq_getElem?_getD, List.getElem?_eq_getElem hj, runP_append]
  rfl
theorem drop_next {α : Type} (cs : List α) (j : Nat) (hj : j < cs.length) (d : α) : cs.drop j = cs.getD j d :: cs.drop (j + 1) := by
  rw [List.drop_eq_getElem_cons hj, List.getD_eq_getElem?_getD, List.getElem?_eq_getElem hj]
  rfl
theorem FitP.go {P : Nat → Pg} {cs : List Ch} {M : Nat} (h : FitP P cs M) (hM : M + cs.length ≤ 1000000) : ∀ j, j ≤ cs.length → FitP (runP P (cs.take j)) (cs.drop j) (M + j)
  | 0, _ => h
  | j + 1, hj => by
    have ih := FitP.go h hM j (by omega)
    rw [drop_next cs j (by omega) Ch.zero] at ih
    rw [run_next P cs j (by omega) Ch.zero]
    exact (ih.step (by omega)).2.2.2.2
/-- One change more. -/
structure Fits1 (P : Nat → Pg) (cs : List Ch) (M j pp : Nat) (c : Ch) : Prop where
  lt : pp < 4
  pg : c.pg = (pp : Int)
  right : c.right
  err : appE (runP P (cs.take j) pp) c ((runP P (cs.take j) pp).l + 1) = 0
  upd : upd (runP P (cs.take j)) pp (appP (runP P (cs.take j) pp) c ((runP P (cs.take j) pp).l + 1)) = runP P (cs.take (j + 1))
  low : (runP P (cs.take j) pp).l ≤ M + j
theorem FitP.at {P : Nat → Pg} {cs : List Ch} {M : Nat} (h : FitP P cs M) (hM : M + cs.length ≤ 1000000) (j : Nat) (hj : j < cs.length) : ∃ pp, Fits1 P cs M j pp (cs.getD j Ch.zero) := by
  have ih := FitP.go h hM j (by omega)
  rw [drop_next cs j hj Ch.zero] at ih
  obtain ⟨a, b, c, d, e⟩ := ih.step (by omega)
  exact ⟨_, a, b.symm, (ih.ch _ (by simp)).1, c, by rw [d, run_next P cs j hj Ch.zero], (ih.right _ a).2⟩
theorem chs_get (p : List Rec) (j : Nat) (hj : j < p.length) : (chs p).getD j Ch.zero = (p.getD j Rec.zero).c := by
  unfold chs
  rw [List.getD_eq_getElem?_getD, List.getD_eq_getElem?_getD, List.getElem?_map, List.getElem?_eq_getElem hj]
  rfl
theorem chs_len (p : List Rec) : (chs p).length = p.length := by unfold chs; rw [List.length_map]
/-! ### Which cells a transaction changed first -/
def firstS (l : List Rec) (t : Int) (x : Nat) : Bool := l.any fun q => decide (q.t = t ∧ q.k = 1 ∧ cellX q.c = x)
theorem firstS_yes {l : List Rec} {t : Int} {x : Nat} (h : firstS l t x = false) : ∀ q ∈ l, q.t = t → q.k = 1 → cellX q.c ≠ x := fun q hq h1 h2 h3 => by
  unfold firstS at h
  rw [List.any_eq_false] at h
  exact h q hq (by simp [h1, h2, h3])
theorem firstS_skip {l : List Rec} {t : Int} {r : Rec} (h : ¬ (r.t = t ∧ r.k = 1)) : firstS (l ++ [r]) t = firstS l t := by
  funext x
  unfold firstS
  rw [List.any_append]
  have e : [r].any (fun q => decide (q.t = t ∧ q.k = 1 ∧ cellX q.c = x)) = false := by
    show (decide (r.t = t ∧ r.k = 1 ∧ cellX r.c = x) || false) = false
    rw [decide_eq_false (fun q => h ⟨q.1, q.2.1⟩)]
    rfl
  rw [e, Bool.or_false]
theorem firstS_set {l : List Rec} {t : Int} {r : Rec} (h : r.t = t ∧ r.k = 1) : firstS (l ++ [r]) t = upd (firstS l t) (cellX r.c) true := by
  funext x
  unfold firstS upd
  rw [List.any_append]
  by_cases e : x = cellX r.c
  · rw [if_pos e]
    simp [h.1, h.2, e]
  · rw [if_neg e]
    have e2 : [r].any (fun q => decide (q.t = t ∧ q.k = 1 ∧ cellX q.c = x)) = false := by
      show (decide (r.t = t ∧ r.k = 1 ∧ cellX r.c = x) || false) = false
      rw [decide_eq_false (fun q => e q.2.2.symm)]
      rfl
    rw [e2, Bool.or_false]
theorem firstS_still {l : List Rec} {t : Int} {r : Rec} (h : r.t = t ∧ r.k = 1) (hf : firstS l t (cellX r.c) = true) : firstS (l ++ [r]) t = firstS l t := by
  rw [firstS_set h]
  funext x
  unfold upd
  split
  · rename_i e
    rw [e, hf]
  · rfl
def fA (f : Nat → Bool) : Array Value := ((List.range 32).map fun x => Value.bool (f x)).toArray
theorem fA_get (f : Nat → Bool) (x : Nat) (hx : x < 32) : (fA f)[x]? = some (.bool (f x)) := by
  unfold fA
  rw [List.getElem?_toArray, List.getElem?_map, List.getElem?_range hx]
  rfl
theorem fA_size (f : Nat → Bool) : (fA f).size = 32 := by unfold fA; simp
theorem fA_set (f : Nat → Bool) (x : Nat) (hx : x < 32) (b : Bool) : (fA f).setIfInBounds x (.bool b) = fA (upd f x b) := by
  apply Array.ext_getElem?
  intro y
  by_cases hy : y < 32
  · rw [fA_get _ y hy]
    by_cases e : y = x
    · subst e
      rw [Array.getElem?_setIfInBounds_self_of_lt (by rw [fA_size]; exact hy), upd_same]
    · rw [Array.getElem?_setIfInBounds_ne (fun q => e q.symm), fA_get _ y hy, upd_other _ _ _ _ e]
  · rw [Array.getElem?_eq_none (by rw [Array.size_setIfInBounds, fA_size]; omega), Array.getElem?_eq_none (by rw [fA_size]; omega)]
theorem take_next15 (l : List Rec) (j : Nat) (hj : j < l.length) : l.take (j + 1) = l.take j ++ [l.getD j Rec.zero] := by
  rw [List.take_add_one, List.getElem?_eq_getElem hj, List.getD_eq_getElem?_getD, List.getElem?_eq_getElem hj]
  rfl

/-- No commit and no end of a transaction in a log. -/
def Open15 (l : List Rec) (t : Int) : Prop := ∀ r ∈ l, r.t = t → r.k ≠ 3 ∧ r.k ≠ 5
/-- Whose records a log has and that isn't over is under way; without records there is no plan. -/
theorem Hs.ok.who {h : Hs} {N : Nat} (ok : h.ok N) {n : Nat} (hn : n < 3) {t : Int} (ho : Open15 (h.lg n) t) :
    ((∀ r ∈ h.lg n, r.t ≠ t) ∧ planT (h.lg n) t 0 = []) ∨ ∃ i, i < 9 ∧ i / 3 = n ∧ (h.tx i).nr = t ∧ h.live i ∧ planT (h.lg n) t 0 = h.plan i := by
  by_cases hex : ∃ r ∈ h.lg n, r.t = t
  · obtain ⟨r, hr, hrt⟩ := hex
    rcases ok.over n hn r hr with ⟨i, h1, h2, h3⟩ | ⟨e, h1, h2, h3⟩
    · rw [hrt] at h3
      have hpos := (ok.recs n hn r hr).2.1
      have h0 : (h.tx i).nr ≠ 0 := by omega
      have T := ok.txn i h1
      have hst : (h.tx i).st ≠ 3 := fun q => by
        obtain ⟨e, e1, e2, e3⟩ := T.com h0 q
        rw [h2] at e1
        exact (ho e e1 (by rw [e2, h3])).1 e3
      refine .inr ⟨i, h1, h2, h3, ⟨h0, hst⟩, ?_⟩
      unfold planT Hs.plan
      rw [T.next h0, T.last h0, h2, h3]
    · exact absurd h3 (ho e h1 (by rw [h2, hrt])).2
  · have hno : ∀ r ∈ h.lg n, r.t ≠ t := fun r hr q => hex ⟨r, hr, q⟩
    refine .inl ⟨hno, ?_⟩
    unfold planT
    rw [lastT_none _ _ (fun r hr x => hno r hr x.2), nextT_zero (ok.rise n hn)]
    exact planL_zero (ok.rise n hn) 0
/-- What TxnUndoes asks. -/
structure Undone (h : Hs) (l p : List Rec) (t : Int) (N : Nat) : Prop where
  fit : FitP h.pg (chs p) N
  was : ∀ pre r post, l = pre ++ r :: post → r.t = t → r.k = 1 → (∀ q ∈ pre, q.t = t → q.k = 1 → cellX q.c ≠ cellX r.c) → cellsP (runP h.pg (chs p)) (cellX r.c) = (r.c.wantU, r.c.wantV)
theorem Hs.ok.undone {h : Hs} {N : Nat} (ok : h.ok N) {n : Nat} (hn : n < 3) {t : Int} (ho : Open15 (h.lg n) t) : Undone h (h.lg n) (planT (h.lg n) t 0) t N := by
  rcases ok.who hn ho with ⟨hno, e⟩ | ⟨i, hi, hin, hnr, hl, e⟩
  · rw [e]
    refine ⟨⟨fun p hp => ⟨ok.pr p hp, ok.pl p hp⟩, fun c hc => (nomatch hc), trivial⟩, fun pre r post he hrt _ _ => ?_⟩
    exact absurd hrt (hno r (by rw [he]; simp))
  · rw [e]
    have U := ok.undo i hi hl
    have D := ok.did i hi hl
    have hm : ∀ c ∈ chs (h.plan i), c.right ∧ c.pg < 4 := fun c hc => (U.mine c hc).2
    refine ⟨⟨fun p hp => ⟨ok.pr p hp, ok.pl p hp⟩, hm, U.fit⟩, fun pre r post he hrt hk hpre => ?_⟩
    have hr : r ∈ h.lg n := by rw [he]; simp
    have hR := rise_right _ 0 (ok.rise n hn) r hr
    have h3 := (ok.recs n hn r hr).2.2.2 (by omega)
    have hx := cell_lt (hR.ch (by omega)) h3
    have hhas : h.has i (cellX r.c) := D.locked r (by rw [hin]; exact hr) (by rw [hnr]; exact hrt) hk
    rw [cells_run _ _ (fun c hc => (hm c hc).1)]
    show runC h.cell (chs (h.plan i)) (cellX r.c) = _
    rw [U.was _ hx hhas]
    exact D.first pre r post (by rw [hin]; exact he) (by rw [hnr]; exact hrt) hk (fun q hq h1 h2 => hpre q hq (by rw [← hnr]; exact h1) h2)
/-- What TxnTwo asks. -/
structure Both15 (h : Hs) (p q : List Rec) (N : Nat) : Prop where
  one : FitP h.pg (chs (p ++ q)) N
  two : FitP h.pg (chs (q ++ p)) N
  same : ∀ x, cellsP (runP h.pg (chs (p ++ q))) x = cellsP (runP h.pg (chs (q ++ p))) x
theorem chs_append (p q : List Rec) : chs (p ++ q) = chs p ++ chs q := by unfold chs; rw [List.map_append]
theorem Hs.ok.both {h : Hs} {N : Nat} (ok : h.ok N) {n m : Nat} (hn : n < 3) (hm : m < 3) {x y : Int} (hx : Open15 (h.lg n) x) (hy : Open15 (h.lg m) y) (hne : ¬ (n = m ∧ x = y)) :
    Both15 h (planT (h.lg n) x 0) (planT (h.lg m) y 0) N := by
  have hpg : ∀ p, p < 4 → (h.pg p).right ∧ (h.pg p).l ≤ N := fun p hp => ⟨ok.pr p hp, ok.pl p hp⟩
  have A := ok.undone hn hx
  have B := ok.undone hm hy
  rcases ok.who hn hx with ⟨hno, e⟩ | ⟨i, hi, hin, hnr, hl, e⟩
  · rw [e] at A ⊢
    exact ⟨by rw [List.nil_append]; exact B.fit, by rw [List.append_nil]; exact B.fit, fun _ => by rw [List.append_nil, List.nil_append]⟩
  · rcases ok.who hm hy with ⟨hno2, e2⟩ | ⟨j, hj, hjm, hnr2, hl2, e2⟩
    · rw [e2] at B ⊢
      exact ⟨by rw [List.append_nil]; exact A.fit, by rw [List.nil_append]; exact A.fit, fun _ => by rw [List.append_nil, List.nil_append]⟩
    · have U := ok.undo i hi hl
      have V := ok.undo j hj hl2
      have hij : i ≠ j := fun q => hne ⟨by rw [← hin, ← hjm, q], by rw [← hnr, ← hnr2, q]⟩
      rw [e, e2] at *
      have hc : ∀ c ∈ chs (h.plan i), h.has i (cellX c) := fun c hc => (U.mine c hc).1
      have hd : ∀ d ∈ chs (h.plan j), ¬ h.has i (cellX d) := fun d hd h1 => ok.alone hi hj hij hl.1 h1 (V.mine d hd).1
      obtain ⟨f1, f2, f3⟩ := both_ways (chs (h.plan i)) (chs (h.plan j)) h.cell (fun x => h.has i x) hc hd U.fit V.fit
      have r1 : ∀ c ∈ chs (h.plan i ++ h.plan j), c.right ∧ c.pg < 4 := fun c hc => by
        rw [chs_append] at hc
        rcases List.mem_append.1 hc with hc | hc
        · exact (U.mine c hc).2
        · exact (V.mine c hc).2
      have r2 : ∀ c ∈ chs (h.plan j ++ h.plan i), c.right ∧ c.pg < 4 := fun c hc => by
        rw [chs_append] at hc
        rcases List.mem_append.1 hc with hc | hc
        · exact (V.mine c hc).2
        · exact (U.mine c hc).2
      refine ⟨⟨hpg, r1, by rw [chs_append]; exact f1⟩, ⟨hpg, r2, by rw [chs_append]; exact f2⟩, fun x => ?_⟩
      rw [cells_run _ _ (fun c hc => (r1 c hc).1), cells_run _ _ (fun c hc => (r2 c hc).1), chs_append, chs_append]
      exact f3 x
end Go.Proofs.Ytohdmmfmjadipaa

/-
  Four pages in a row of one's own: loaded, stored, copied.
-/
namespace Go.Proofs.Ytohdmmfmjadipaa
open Go.RowKit
set_option linter.unusedVariables false

def P4 (x : World) (g : Nat) (W : Nat → Pg) : Prop := ∃ cs, RowAt x g 77 cs ∧ 68 ≤ cs.size ∧ ∀ p, p < 4 → Lies cs (p * 17) (pgA (W p)).toList
theorem infoP4 : (Try.prog.info? 77).map (·.size) = some 17 := by kernel_rfl
theorem infoP4z : (Try.prog.info? 77).map (fun i => (i.zero, i.size, i.bytes)) = some (some (.agg (pgA Pg.zero)), 17, 200) := by kernel_rfl
theorem infoCe4 : (Try.prog.info? 63).map (·.size) = some 2 := by kernel_rfl
theorem pgA_one4 (p : Pg) : (pgA p).all (·.oneCell') = true := by simp [pgA, Value.oneCell']
theorem pgA_lsn4 (p : Pg) : (pgA p).toList[0]? = some (.int .u64 (p.l : Int)) := rfl
theorem pgA_cell4 (p : Pg) (s j : Nat) (hs : s < 8) (hj : j < 2) : (pgA p).toList[1 + s * 2 + j]? = (ceA (p.u s) (p.s s)).toList[j]? := by
  have hd : s = 0 ∨ s = 1 ∨ s = 2 ∨ s = 3 ∨ s = 4 ∨ s = 5 ∨ s = 6 ∨ s = 7 := by omega
  have he : j = 0 ∨ j = 1 := by omega
  rcases hd with rfl | rfl | rfl | rfl | rfl | rfl | rfl | rfl <;> rcases he with rfl | rfl <;> rfl
section
variable {x y : World} {g : Nat} {W : Nat → Pg}
theorem P4.lt (h : P4 x g W) : g < x.heap.size := by
  obtain ⟨cs, h1, _⟩ := h
  exact h1.lt
theorem P4.later (h : P4 x g W) (hb : Below x.heap.size x y) : P4 y g W := by
  obtain ⟨cs, h1, h2⟩ := h
  exact ⟨cs, h1.later hb, h2⟩
theorem P4.only {k : Nat} (h : P4 x g W) (ho : Only k x y) (hk : g ≠ k) : P4 y g W := by
  obtain ⟨cs, h1, h2⟩ := h
  exact ⟨cs, ho.row h1 hk, h2⟩
theorem P4.keep (h : P4 x g W) (hk : ∀ cs, RowAt x g 77 cs → RowAt y g 77 cs) : P4 y g W := by
  obtain ⟨cs, h1, h2⟩ := h
  exact ⟨cs, hk cs h1, h2⟩
theorem P4.free (h : P4 x g W) (j : Nat) : x.frozen? ⟨g, j, none⟩ = false := by
  obtain ⟨cs, h1, _⟩ := h
  exact h1.free j
theorem P4.page (h : P4 x g W) (i : Nat) (hi : i < 4) : (Instr.loadAt 77 (.pointer (some ⟨g, i * 17, none⟩))).run Try.prog x = .ok (.agg (pgA (W i))) x := by
  obtain ⟨cs, h1, h2, h3⟩ := h
  have h4 := load_part (P := Try.prog) x 77 77 g (i * 17) 17 cs h1 _ Try.underlying77 rfl infoP4 (by omega)
  rw [(h3 i hi).ext 17 rfl (by omega), Array.toArray_toList] at h4
  exact h4
theorem P4.cell (h : P4 x g W) (i s : Nat) (hi : i < 4) (hs : s < 8) : (Instr.loadAt 63 (.pointer (some ⟨g, i * 17 + 1 + s * 2, none⟩))).run Try.prog x = .ok (.agg (ceA ((W i).u s) ((W i).s s))) x := by
  obtain ⟨cs, h1, h2, h3⟩ := h
  have h4 := load_part (P := Try.prog) x 77 63 g (i * 17 + 1 + s * 2) 2 cs h1 _ Try.underlying63 rfl infoCe4 (by omega)
  have h5 : Lies cs (i * 17 + 1 + s * 2) (ceA ((W i).u s) ((W i).s s)).toList := fun j hj => by
    have hj2 : j < 2 := hj
    have h6 := h3 i hi (1 + s * 2 + j) (by show 1 + s * 2 + j < 17; omega)
    rw [show i * 17 + (1 + s * 2 + j) = i * 17 + 1 + s * 2 + j by omega] at h6
    rw [h6]
    exact pgA_cell4 (W i) s j hs hj2
  rw [h5.ext 2 rfl (by omega), Array.toArray_toList] at h4
  exact h4
theorem P4.lsn (h : P4 x g W) (i : Nat) (hi : i < 4) : x.cell? ⟨g, i * 17, none⟩ = some (.int .u64 ((W i).l : Int)) := by
  obtain ⟨cs, h1, h2, h3⟩ := h
  refine h1.cell (i * 17) _ ?_
  have h4 := h3 i hi 0 (by show 0 < 17; omega)
  rw [Nat.add_zero] at h4
  rw [h4]
  rfl
theorem P4.put (h : P4 x g W) (i : Nat) (hi : i < 4) (p : Pg) : ∃ cs, RowAt x g 77 cs ∧ i * 17 + (pgA p).size ≤ cs.size ∧ ∀ z, RowAt z g 77 (partA cs (i * 17) (pgA p).toList) → P4 z g (upd W i p) := by
  obtain ⟨cs, h1, h2, h3⟩ := h
  have hf : i * 17 + (pgA p).toList.length ≤ cs.size := by show i * 17 + 17 ≤ _; omega
  refine ⟨cs, h1, hf, fun z hz => ⟨_, hz, by rw [partA_size _ _ _ hf]; exact h2, fun m hm => ?_⟩⟩
  by_cases e : m = i
  · subst e
    rw [upd_same]
    exact Lies.same _ _ _ hf
  · rw [upd_other _ _ _ _ e]
    exact (h3 m hm).apart _ _ hf (by show m * 17 + 17 ≤ i * 17 ∨ i * 17 + 17 ≤ m * 17; omega)
end
section
variable {ops : Array Oper} {rest : List Oper} {o : Oper} {a : Act} {w : World} {Q : Exit → Act → World → Prop}
/-- A page is stored among the four. -/
theorem wpList_store_p4 (hgd : o.guard = none) (x y : Operand) (ho : o.op = .store 77 x y) (g i : Nat) (W : Nat → Pg) (p : Pg) (hx : a.eval x = .pointer (some ⟨g, i * 17, none⟩)) (hy : a.eval y = .agg (pgA p)) (H : P4 w g W) (hi : i < 4)
    (h : ∀ w2, P4 w2 g (upd W i p) → Only g w w2 → wpList Try.prog ops Q rest (a.put o.dst undef) w2) : wpList Try.prog ops Q (o :: rest) a w := by
  obtain ⟨cs, h1, h2, h3⟩ := H.put i hi p
  exact wpList_store_part hgd 77 x y ho g (i * 17) 77 cs (pgA p) hx hy h1 infoP4 h2 (pgA_one4 p) (fun w2 a b => h w2 (h3 w2 a) b)
end
/-! ### The four pages copied into a new row -/
def four (W : Nat → Pg) : List Value := flatP [W 0, W 1, W 2, W 3]
theorem four_is (W : Nat → Pg) : four W = (pgA (W 0)).toList ++ ((pgA (W 1)).toList ++ ((pgA (W 2)).toList ++ (pgA (W 3)).toList)) := by
  unfold four flatP
  simp only [List.flatMap_cons, List.flatMap_nil, List.append_nil]
theorem four_len (W : Nat → Pg) : (four W).length = 4 * 17 := by
  rw [four_is]
  rfl
theorem four_get (W : Nat → Pg) (i k : Nat) (hi : i < 4) (hk : k < 17) : (four W)[i * 17 + k]? = (pgA (W i)).toList[k]? := by
  have z : ∀ p : Pg, (pgA p).toList.length = 17 := fun _ => rfl
  rw [four_is]
  have hc : i = 0 ∨ i = 1 ∨ i = 2 ∨ i = 3 := by omega
  rcases hc with rfl | rfl | rfl | rfl
  · rw [List.getElem?_append_left (by rw [z]; omega), Nat.zero_mul, Nat.zero_add]
  · rw [List.getElem?_append_right (by rw [z]; omega), z, List.getElem?_append_left (by rw [z]; omega), show 1 * 17 + k - 17 = k by omega]
  · rw [List.getElem?_append_right (by rw [z]; omega), z, List.getElem?_append_right (by rw [z]; omega), z, List.getElem?_append_left (by rw [z]; omega), show 2 * 17 + k - 17 - 17 = k by omega]
  · rw [List.getElem?_append_right (by rw [z]; omega), z, List.getElem?_append_right (by rw [z]; omega), z, List.getElem?_append_right (by rw [z]; omega), z, show 3 * 17 + k - 17 - 17 - 17 = k by omega]
theorem four_one (W : Nat → Pg) : ∀ u ∈ four W, u.oneCell' = true := by
  intro u hu
  have h : ∀ p : Pg, u ∈ (pgA p).toList → u.oneCell' = true := fun p hp => by
    have h1 := pgA_one4 p
    rw [Array.all_eq_true'] at h1
    exact h1 u (by simpa using hp)
  rw [four_is] at hu
  rcases List.mem_append.1 hu with hu | hu
  · exact h _ hu
  rcases List.mem_append.1 hu with hu | hu
  · exact h _ hu
  rcases List.mem_append.1 hu with hu | hu
  · exact h _ hu
  · exact h _ hu
set_option maxRecDepth 8000 in
theorem P4.copy {w : World} {gp : Nat} {W : Nat → Pg} (h : P4 w gp W) (ty : TypeId) :
    ∃ g c y, (Builtin.append_ #[54, 54] ty #[.slice (some ⟨w.heap.size, 0, none⟩) 0 0, .slice (some ⟨gp, 0, none⟩) 4 4]).run Try.prog (w.alloc (.cells #[] 77)) = .ok (.slice (some ⟨g, 0, none⟩) 4 c) y ∧ w.heap.size ≤ g ∧ 4 ≤ c ∧ P4 y g W ∧ Below w.heap.size w y := by
  obtain ⟨i, hi0, hi1⟩ := Option.map_eq_some_iff.1 infoP4z
  simp only [Prod.mk.injEq] at hi1
  have hb : Below w.heap.size w (w.alloc (.cells #[] 77)) := (Below.refl w.heap.size w).alloc (Nat.le_refl _) _
  have ho : (w.alloc (.cells #[] 77)).ownsRow w.heap.size 77 17 (.slice (some ⟨w.heap.size, 0, none⟩) 0 0) 0 [] := ⟨rfl, .inr ⟨w.heap.size, 0, #[], rfl, Nat.le_refl _, RowAt.new w _ _, Nat.le_refl _, Nat.zero_le _, rfl, rfl⟩⟩
  obtain ⟨cs, h1, h2, h3⟩ := h.later hb
  obtain ⟨v', y', r1, r2, r3, _⟩ := run_append_own_at (P := Try.prog) (w := w.alloc (.cells #[] 77)) w.heap.size 54 ty 77 i (.agg (pgA Pg.zero)) 17 200 Try.underlying54 hi0 hi1.1 hi1.2.1 hi1.2.2 rfl (by omega) (.slice (some ⟨w.heap.size, 0, none⟩) 0 0) 0 [] ho ⟨gp, 0, none⟩ 4 4 (four W) (four_len W) (fun j u hu => by
    rw [Addr.add_lit, Nat.zero_add]
    refine h1.cell j u ?_
    have hj : j < 4 * 17 := by rw [← four_len W]; exact (List.getElem?_eq_some_iff.1 hu).1
    have h4 := h3 (j / 17) (by omega) (j % 17) (by show j % 17 < 17; omega)
    rw [← four_get W (j / 17) (j % 17) (by omega) (by omega), show j / 17 * 17 + j % 17 = j by omega] at h4
    rw [h4]
    exact hu) (four_one W) (by unfold maxLen; omega) (by omega) hb.size
  rw [List.nil_append, Nat.zero_add] at r2
  have hb2 : Below w.heap.size w y' := hb.trans ((Tn.of_grown (F := fun k => k = w.heap.size) r3 (fun k hk => by injection hk with hk; exact hk.symm)).below (fun k hk => by rw [hk]; exact Nat.le_refl _) hb.size)
  rcases r2.2 with ⟨_, e⟩ | ⟨g, cap, cur, rfl, a1, a2, a3, a4, a5, a6⟩
  · exact absurd e (by decide)
  · have a7 : 4 * 17 ≤ cap * 17 := Nat.mul_le_mul a3 (Nat.le_refl 17)
    refine ⟨g, cap, y', r1, a1, a3, ⟨cur, a2, by rw [a5]; exact a7, fun p hp j hj => ?_⟩, hb2⟩
    have hj2 : j < 17 := hj
    rw [← four_get W p j hp hj2, ← a6, List.getElem?_take_of_lt (by omega), Array.getElem?_toList]
/-- A history's pages. -/
theorem HB.four {w : World} {B g : Nat} {F : Nat → Prop} {h : Hs} (H : HB w B g F h) : ∃ gp, w.cell? ⟨g, 1, none⟩ = some (.slice (some ⟨gp, 0, none⟩) 4 4) ∧ P4 w gp h.pg := by
  obtain ⟨x, HX, _⟩ := H
  exact ⟨x.gp, HX.blk.cell _ _ HX.cells.c1, x.cp, HX.prow, by rw [HX.psz]; omega, HX.pat⟩
end Go.Proofs.Ytohdmmfmjadipaa

/-
  The contract of package change's Apply, whole.
-/
namespace Go.Proofs.Ytohdmmfmjadipaa
open Go.RowKit
set_option linter.unusedVariables false

set_option maxRecDepth 4000 in
set_option maxHeartbeats 1600000 in
theorem appl_p (p : Pg) (c : Ch) (l : Nat) (w : World) (hp : ¬ p.right) :
    Calls Try.prog 26 #[.agg (pgA p), .agg (chA c), .int .u64 l] w fun e w' => e = .returned (.tuple #[.agg (pgA Pg.zero), .int .i64 1]) ∧ Below w.heap.size w w' := by
  have H0 := hide (app_in w p c)
  have HR1 := hide (fun w => right_any p w)
  have HR2 := hide (fun w => cright_any c w)
  rw [decide_eq_false hp] at HR1
  go_enter Try.func26, Try.ntmps26
  obtain ⟨gc, h1⟩ : ∃ g, g = w.heap.size + 1 := ⟨_, rfl⟩
  obtain ⟨gr, h2⟩ : ∃ g, g = w.heap.size + 1 + 1 := ⟨_, rfl⟩
  rw [← h2, ← h1] at H0
  go_wp2_with (refine wpList_load_page rfl _ rfl w.heap.size rfl p H0.out.1 ?_)
  rw [← h2, ← h1]
  refine gen_calls (fun x => Hid (AppIn w gc gr p c x)) H0 ?_
  clear H0 h1 h2
  intro w0 H0
  refine (HR1.out _).mono ?_
  rintro e w1 ⟨rfl, hb1⟩
  have H1 := hide (H0.out.later hb1)
  clear H0 hb1 HR1
  clear HR2
  go_wp2_with (refine wpList_store_page rfl _ _ rfl gr Pg.zero Pg.zero rfl rfl H1.out.2.2.1 ?_)
  intro w7 hP7 hk
  have HP7 := hide hP7
  have d7 := hk _ _ H1.out.2.2.2.1 (by have := H1.out.2.2.2.2; omega)
  clear hP7 hk H1
  go_wp2
  exact bodyPost_ret (res_page rfl _ _ gr Pg.zero rfl HP7.out) rfl ⟨rfl, d7⟩

set_option maxRecDepth 4000 in
set_option maxHeartbeats 1600000 in
theorem app_c (p : Pg) (c : Ch) (l : Nat) (w : World) (hp : p.right) (hc : ¬ c.right) :
    Calls Try.prog 26 #[.agg (pgA p), .agg (chA c), .int .u64 l] w fun e w' => e = .returned (.tuple #[.agg (pgA Pg.zero), .int .i64 1]) ∧ Below w.heap.size w w' := by
  have H0 := hide (app_in w p c)
  have HR1 := hide (fun w => right_any p w)
  have HR2 := hide (fun w => cright_any c w)
  rw [decide_eq_true hp] at HR1
  rw [decide_eq_false hc] at HR2
  go_enter Try.func26, Try.ntmps26
  obtain ⟨gc, h1⟩ : ∃ g, g = w.heap.size + 1 := ⟨_, rfl⟩
  obtain ⟨gr, h2⟩ : ∃ g, g = w.heap.size + 1 + 1 := ⟨_, rfl⟩
  rw [← h2, ← h1] at H0
  go_wp2_with (refine wpList_load_page rfl _ rfl w.heap.size rfl p H0.out.1 ?_)
  rw [← h2, ← h1]
  refine gen_calls (fun x => Hid (AppIn w gc gr p c x)) H0 ?_
  clear H0 h1 h2
  intro w0 H0
  refine (HR1.out _).mono ?_
  rintro e w1 ⟨rfl, hb1⟩
  have H1 := hide (H0.out.later hb1)
  clear H0 hb1 HR1
  go_wp2_with (refine wpList_load_at rfl 26 _ rfl gc rfl (chA c) H1.out.2.1 _ Try.underlying26 rfl infoCh ?_)
  refine (HR2.out _).mono ?_
  rintro e w2 ⟨rfl, hb2⟩
  have H2 := hide (H1.out.later hb2)
  clear H1 hb2 HR2
  go_wp2_with (refine wpList_store_page rfl _ _ rfl gr Pg.zero Pg.zero rfl rfl H2.out.2.2.1 ?_)
  intro w7 hP7 hk
  have HP7 := hide hP7
  have d7 := hk _ _ H2.out.2.2.2.1 (by have := H2.out.2.2.2.2; omega)
  clear hP7 hk H2
  go_wp2
  exact bodyPost_ret (res_page rfl _ _ gr Pg.zero rfl HP7.out) rfl ⟨rfl, d7⟩

set_option maxRecDepth 4000 in
set_option maxHeartbeats 1600000 in
theorem app_l (p : Pg) (c : Ch) (l : Nat) (w : World) (hp : p.right) (hc : c.right) (hl : ¬ l ≤ maxP) :
    Calls Try.prog 26 #[.agg (pgA p), .agg (chA c), .int .u64 l] w fun e w' => e = .returned (.tuple #[.agg (pgA Pg.zero), .int .i64 1]) ∧ Below w.heap.size w w' := by
  have H0 := hide (app_in w p c)
  have HR1 := hide (fun w => right_any p w)
  have HR2 := hide (fun w => cright_any c w)
  rw [decide_eq_true hp] at HR1
  rw [decide_eq_true hc] at HR2
  have i1 : (4611686018427387904 : Int) < (l : Int) := by unfold maxP at hl; omega
  clear hl
  go_enter Try.func26, Try.ntmps26
  obtain ⟨gc, h1⟩ : ∃ g, g = w.heap.size + 1 := ⟨_, rfl⟩
  obtain ⟨gr, h2⟩ : ∃ g, g = w.heap.size + 1 + 1 := ⟨_, rfl⟩
  rw [← h2, ← h1] at H0
  go_wp2_with (refine wpList_load_page rfl _ rfl w.heap.size rfl p H0.out.1 ?_)
  rw [← h2, ← h1]
  refine gen_calls (fun x => Hid (AppIn w gc gr p c x)) H0 ?_
  clear H0 h1 h2
  intro w0 H0
  refine (HR1.out _).mono ?_
  rintro e w1 ⟨rfl, hb1⟩
  have H1 := hide (H0.out.later hb1)
  clear H0 hb1 HR1
  go_wp2_with (refine wpList_load_at rfl 26 _ rfl gc rfl (chA c) H1.out.2.1 _ Try.underlying26 rfl infoCh ?_)
  refine (HR2.out _).mono ?_
  rintro e w2 ⟨rfl, hb2⟩
  have H2 := hide (H1.out.later hb2)
  clear H1 hb2 HR2
  go_wp2_with (refine wpList_store_page rfl _ _ rfl gr Pg.zero Pg.zero rfl rfl H2.out.2.2.1 ?_)
  intro w7 hP7 hk
  have HP7 := hide hP7
  have d7 := hk _ _ H2.out.2.2.2.1 (by have := H2.out.2.2.2.2; omega)
  clear hP7 hk H2
  go_wp2
  exact bodyPost_ret (res_page rfl _ _ gr Pg.zero rfl HP7.out) rfl ⟨rfl, d7⟩

set_option maxRecDepth 4000 in
set_option maxHeartbeats 1600000 in
theorem app_s (p : Pg) (c : Ch) (l : Nat) (w : World) (hp : p.right) (hc : c.right) (hl : l ≤ maxP) (hs : l ≤ p.l) :
    Calls Try.prog 26 #[.agg (pgA p), .agg (chA c), .int .u64 l] w fun e w' => e = .returned (.tuple #[.agg (pgA Pg.zero), .int .i64 13]) ∧ Below w.heap.size w w' := by
  have H0 := hide (app_in w p c)
  have HR1 := hide (fun w => right_any p w)
  have HR2 := hide (fun w => cright_any c w)
  rw [decide_eq_true hp] at HR1
  rw [decide_eq_true hc] at HR2
  have i1 : ((4611686018427387904 : Int) < (l : Int)) = False := eq_false (by unfold maxP at hl; omega)
  have i2 : (l : Int) ≤ (p.l : Int) := by omega
  clear hl hs
  go_enter Try.func26, Try.ntmps26
  obtain ⟨gc, h1⟩ : ∃ g, g = w.heap.size + 1 := ⟨_, rfl⟩
  obtain ⟨gr, h2⟩ : ∃ g, g = w.heap.size + 1 + 1 := ⟨_, rfl⟩
  rw [← h2, ← h1] at H0
  go_wp2_with (refine wpList_load_page rfl _ rfl w.heap.size rfl p H0.out.1 ?_)
  rw [← h2, ← h1]
  refine gen_calls (fun x => Hid (AppIn w gc gr p c x)) H0 ?_
  clear H0 h1 h2
  intro w0 H0
  refine (HR1.out _).mono ?_
  rintro e w1 ⟨rfl, hb1⟩
  have H1 := hide (H0.out.later hb1)
  clear H0 hb1 HR1
  go_wp2_with (refine wpList_load_at rfl 26 _ rfl gc rfl (chA c) H1.out.2.1 _ Try.underlying26 rfl infoCh ?_)
  refine (HR2.out _).mono ?_
  rintro e w2 ⟨rfl, hb2⟩
  have H2 := hide (H1.out.later hb2)
  clear H1 hb2 HR2
  have a0 := H2.out.1.lsn
  go_wp2_with (refine wpList_store_page rfl _ _ rfl gr Pg.zero Pg.zero rfl rfl H2.out.2.2.1 ?_)
  intro w7 hP7 hk
  have HP7 := hide hP7
  have d7 := hk _ _ H2.out.2.2.2.1 (by have := H2.out.2.2.2.2; omega)
  clear hP7 hk H2
  go_wp2
  exact bodyPost_ret (res_page rfl _ _ gr Pg.zero rfl HP7.out) rfl ⟨rfl, d7⟩

/-- THE CONTRACT. -/
theorem apply_any (p : Pg) (c : Ch) (l : Nat) (w : World) (hl : l < 18446744073709551616) :
    Calls Try.prog 26 #[.agg (pgA p), .agg (chA c), .int .u64 l] w fun e w' => e = .returned (.tuple #[.agg (pgA (appP p c l)), .int .i64 (appE p c l)]) ∧ Below w.heap.size w w' := by
  by_cases hp : p.right
  · by_cases hc : c.right
    · by_cases hl : l ≤ maxP
      · by_cases hs : l ≤ p.l
        · have e : appE p c l = 13 := by unfold appE; rw [if_neg (fun h => h ⟨hp, hc, hl⟩), if_pos hs]
          rw [app_no p c l (by rw [e]; decide), e]
          exact app_s p c l w hp hc hl hs
        · exact app_go p c l w hp hc hl (by omega)
      · have e : appE p c l = 1 := by unfold appE; rw [if_pos (fun h => hl h.2.2)]
        rw [app_no p c l (by rw [e]; decide), e]
        exact app_l p c l w hp hc hl
    · have e : appE p c l = 1 := by unfold appE; rw [if_pos (fun h => hc h.2.1)]
      rw [app_no p c l (by rw [e]; decide), e]
      exact app_c p c l w hp hc
  · have e : appE p c l = 1 := by unfold appE; rw [if_pos (fun h => hp h.1)]
    rw [app_no p c l (by rw [e]; decide), e]
    exact appl_p p c l w hp
end Go.Proofs.Ytohdmmfmjadipaa

/-
  Two pages held against each other by == or !=.
-/
namespace Go.Proofs.Ytohdmmfmjadipaa
open Go.RowKit
set_option linter.unusedVariables false


/-- A page's cells as plain data. -/
def litsP (p : Pg) : List Lit := [.int .u64 p.l, .bool (p.u 0), .string (p.s 0).data.toList, .bool (p.u 1), .string (p.s 1).data.toList, .bool (p.u 2), .string (p.s 2).data.toList, .bool (p.u 3), .string (p.s 3).data.toList, .bool (p.u 4), .string (p.s 4).data.toList, .bool (p.u 5), .string (p.s 5).data.toList, .bool (p.u 6), .string (p.s 6).data.toList, .bool (p.u 7), .string (p.s 7).data.toList]

theorem litsP_iff (p q : Pg) : litsP p = litsP q ↔ p.same q := by
  unfold litsP
  simp only [List.cons.injEq, and_true, Lit.int.injEq, Lit.bool.injEq, Lit.string.injEq, data_inj, true_and]
  constructor
  · rintro ⟨h, a0, b0, a1, b1, a2, b2, a3, b3, a4, b4, a5, b5, a6, b6, a7, b7⟩
    refine ⟨by omega, fun i hi => ?_⟩
    rcases lt8 hi with rfl | rfl | rfl | rfl | rfl | rfl | rfl | rfl
    · exact ⟨a0, b0⟩
    · exact ⟨a1, b1⟩
    · exact ⟨a2, b2⟩
    · exact ⟨a3, b3⟩
    · exact ⟨a4, b4⟩
    · exact ⟨a5, b5⟩
    · exact ⟨a6, b6⟩
    · exact ⟨a7, b7⟩
  · rintro ⟨h, g⟩
    exact ⟨by omega, (g 0 (by omega)).1, (g 0 (by omega)).2, (g 1 (by omega)).1, (g 1 (by omega)).2, (g 2 (by omega)).1, (g 2 (by omega)).2, (g 3 (by omega)).1, (g 3 (by omega)).2, (g 4 (by omega)).1, (g 4 (by omega)).2, (g 5 (by omega)).1, (g 5 (by omega)).2, (g 6 (by omega)).1, (g 6 (by omega)).2, (g 7 (by omega)).1, (g 7 (by omega)).2⟩

theorem cell_lits (u : Bool) (s : ByteArray) (hs : s.size ≤ maxLen) : Try.prog.keyLits 2 63 [.bool u, .string s] = some [.bool u, .string s.data.toList] := by
  have e0 : Try.prog.cellsOf 4 = 1 := by kernel_rfl
  have e1 : Try.prog.cellsOf 9 = 1 := by kernel_rfl
  have e2 : Try.prog.cellsOf 63 = 2 := by kernel_rfl
  simp [Program.keyLits, Try.underlying63, Try.underlying4, Try.underlying9, e0, e1, e2, hs]

theorem lits_page (p : Pg) (h : p.fits) : Try.prog.keyLits 4 77 (pgA p).toList = some (litsP p) := by
  have e0 : Try.prog.cellsOf 23 = 1 := by kernel_rfl
  have e1 : Try.prog.cellsOf 75 = 16 := by kernel_rfl
  have e2 : Try.prog.cellsOf 63 = 2 := by kernel_rfl
  have e3 : Try.prog.cellsOf 77 = 17 := by kernel_rfl
  have hw : (Lit.int .u64 (p.l : Int)).wf = true := by
    have h1 := h.1
    have m1 : IntKind.u64.min = 0 := rfl
    have m2 : IntKind.u64.max = 18446744073709551615 := by decide
    simp only [Lit.wf, m1, m2, Bool.and_eq_true, decide_eq_true_eq]
    omega
  have r8 : List.range 8 = [0, 1, 2, 3, 4, 5, 6, 7] := rfl
  have c0 := cell_lits (p.u 0) (p.s 0) (h.2 0 (by omega))
  have c1 := cell_lits (p.u 1) (p.s 1) (h.2 1 (by omega))
  have c2 := cell_lits (p.u 2) (p.s 2) (h.2 2 (by omega))
  have c3 := cell_lits (p.u 3) (p.s 3) (h.2 3 (by omega))
  have c4 := cell_lits (p.u 4) (p.s 4) (h.2 4 (by omega))
  have c5 := cell_lits (p.u 5) (p.s 5) (h.2 5 (by omega))
  have c6 := cell_lits (p.u 6) (p.s 6) (h.2 6 (by omega))
  have c7 := cell_lits (p.u 7) (p.s 7) (h.2 7 (by omega))
  have hu : Try.prog.keyLits 3 23 [.int .u64 (p.l : Int)] = some [.int .u64 (p.l : Int)] := by
    simp [Program.keyLits, Try.underlying23, hw]
  have ha : Try.prog.keyLits 3 75 [.bool (p.u 0), .string (p.s 0), .bool (p.u 1), .string (p.s 1), .bool (p.u 2), .string (p.s 2), .bool (p.u 3), .string (p.s 3), .bool (p.u 4), .string (p.s 4), .bool (p.u 5), .string (p.s 5), .bool (p.u 6), .string (p.s 6), .bool (p.u 7), .string (p.s 7)] = some (litsP p).tail := by
    unfold Program.keyLits
    simp [Try.underlying75, e1, e2, r8, c0, c1, c2, c3, c4, c5, c6, c7, litsP]
  unfold Program.keyLits
  simp [Try.underlying77, e0, e1, e3, pgA, hu, ha]
  simp [litsP]

theorem run_page_eql (p q : Pg) (hp : p.fits) (hq : q.fits) (w : World) : (binOp .eql 77 (.agg (pgA p)) (.agg (pgA q))).run Try.prog w = .ok (.bool (decide (p.same q))) w := by
  obtain ⟨r, hr, hiff⟩ := run_equalIn_deep (P := Try.prog) 9996 4 77 (by kernel_rfl) w 4 4 (.agg (pgA p)) (.agg (pgA q)) (litsP p) (litsP q) (by kernel_rfl) (by kernel_rfl) (lits_page p hp) (lits_page q hq)
  have e : r = decide (p.same q) := by
    rw [Bool.eq_iff_iff, hiff, litsP_iff, decide_eq_true_iff]
  rw [e] at hr
  have hr2 : (Op.equal 77 (.agg (pgA p)) (.agg (pgA q))).run Try.prog w = .ok (decide (p.same q)) w := hr
  simp [binOp, hr2]
theorem run_page_neq (p q : Pg) (hp : p.fits) (hq : q.fits) (w : World) : (binOp .neq 77 (.agg (pgA p)) (.agg (pgA q))).run Try.prog w = .ok (.bool (!decide (p.same q))) w := by
  obtain ⟨r, hr, hiff⟩ := run_equalIn_deep (P := Try.prog) 9996 4 77 (by kernel_rfl) w 4 4 (.agg (pgA p)) (.agg (pgA q)) (litsP p) (litsP q) (by kernel_rfl) (by kernel_rfl) (lits_page p hp) (lits_page q hq)
  have e : r = decide (p.same q) := by
    rw [Bool.eq_iff_iff, hiff, litsP_iff, decide_eq_true_iff]
  rw [e] at hr
  have hr2 : (Op.equal 77 (.agg (pgA p)) (.agg (pgA q))).run Try.prog w = .ok (decide (p.same q)) w := hr
  simp [binOp, hr2]
theorem page_guard (op : BinOp) (x y : Operand) (p q : Pg) (w : World) : (eqGuard op 77 x y (.agg (pgA p)) (.agg (pgA q))).run Try.prog w = .ok () w := run_eqGuard_agg (P := Try.prog) w op 77 x y (pgA p) (pgA q) (by kernel_rfl)
end Go.Proofs.Ytohdmmfmjadipaa

/-
  Two cells held against each other by == or !=.
-/
namespace Go.Proofs.Ytohdmmfmjadipaa
open Go.RowKit
set_option linter.unusedVariables false

/-- Cells. -/
def litsE (u : Bool) (s : ByteArray) : List Lit := [.bool u, .string s.data.toList]
theorem litsE_iff (u v : Bool) (s t : ByteArray) : litsE u s = litsE v t ↔ u = v ∧ s = t := by
  unfold litsE
  simp only [List.cons.injEq, and_true, Lit.bool.injEq, Lit.string.injEq, data_inj]
theorem run_cell_eql (u v : Bool) (s t : ByteArray) (hs : s.size ≤ maxLen) (ht : t.size ≤ maxLen) (w : World) : (binOp .eql 63 (.agg (ceA u s)) (.agg (ceA v t))).run Try.prog w = .ok (.bool (decide (u = v ∧ s = t))) w := by
  obtain ⟨r, hr, hiff⟩ := run_equalIn_deep (P := Try.prog) 9998 2 63 (by kernel_rfl) w 2 2 (.agg (ceA u s)) (.agg (ceA v t)) (litsE u s) (litsE v t) (by kernel_rfl) (by kernel_rfl) (cell_lits u s hs) (cell_lits v t ht)
  have e : r = decide (u = v ∧ s = t) := by
    rw [Bool.eq_iff_iff, hiff, litsE_iff, decide_eq_true_iff]
  rw [e] at hr
  have hr2 : (Op.equal 63 (.agg (ceA u s)) (.agg (ceA v t))).run Try.prog w = .ok (decide (u = v ∧ s = t)) w := hr
  simp [binOp, hr2]
theorem run_cell_neq (u v : Bool) (s t : ByteArray) (hs : s.size ≤ maxLen) (ht : t.size ≤ maxLen) (w : World) : (binOp .neq 63 (.agg (ceA u s)) (.agg (ceA v t))).run Try.prog w = .ok (.bool (!decide (u = v ∧ s = t))) w := by
  obtain ⟨r, hr, hiff⟩ := run_equalIn_deep (P := Try.prog) 9998 2 63 (by kernel_rfl) w 2 2 (.agg (ceA u s)) (.agg (ceA v t)) (litsE u s) (litsE v t) (by kernel_rfl) (by kernel_rfl) (cell_lits u s hs) (cell_lits v t ht)
  have e : r = decide (u = v ∧ s = t) := by
    rw [Bool.eq_iff_iff, hiff, litsE_iff, decide_eq_true_iff]
  rw [e] at hr
  have hr2 : (Op.equal 63 (.agg (ceA u s)) (.agg (ceA v t))).run Try.prog w = .ok (decide (u = v ∧ s = t)) w := hr
  simp [binOp, hr2]
theorem cell_guard (op : BinOp) (x y : Operand) (u v : Bool) (s t : ByteArray) (w : World) : (eqGuard op 63 x y (.agg (ceA u s)) (.agg (ceA v t))).run Try.prog w = .ok () w := run_eqGuard_agg (P := Try.prog) w op 63 x y (ceA u s) (ceA v t) (by kernel_rfl)
end Go.Proofs.Ytohdmmfmjadipaa
