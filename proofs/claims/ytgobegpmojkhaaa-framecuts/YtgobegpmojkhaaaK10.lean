/-
  Texts that lean on one another, one behind the other: each opens with its own remark.
-/
import Derived.Deep.QuietTactic
import Derived.BigQuiet
import Derived.Maps.AppendAt
import Derived.Test.YtgobegpmojkhaaaRows
import Derived.OwnWalkIn
import Derived.Laws.OwnMore
import Derived.ArgAppend
import Derived.Test.YtgobegpmojkhaaaK05
import Derived.Test.YtgobegpmojkhaaaK08
import Derived.Test.YtgobegpmojkhaaaK09
import Derived.Test.YtgobegpmojkhaaaK03

/-
  The contract of quaysideref07.Scan.
-/
namespace Go.Proofs.Ytgobegpmojkhaaa
open Go.RowKit
set_option linter.unusedVariables false

theorem snoc_cases {α : Type} (xs : List α) : xs = [] ∨ ∃ ys y, xs = ys ++ [y] := by
  rcases List.eq_nil_or_concat xs with h | ⟨ys, y, h⟩
  · exact .inl h
  · exact .inr ⟨ys, y, by rw [h, List.concat_eq_append]⟩
theorem head_at {bs pre y : List UInt8} (h : bs = pre ++ y) : takF bs (pre.length : Int) = ((headF y).1, if (headF y).2.2 = 0 then (pre.length : Int) + ((headF y).2.1 : Int) else 0, (headF y).2.2) := by
  unfold takF
  have e : bs.drop (pre.length : Int).toNat = y := by
    rw [Int.toNat_natCast, h]
    exact List.drop_left' rfl
  rw [if_neg (by rw [h, List.length_append]; omega), e]
theorem head_more {bs pre y : List UInt8} (h : bs = pre ++ y) (he : (headF y).2.2 = 0) : (headF y).1.right ∧ bs = (pre ++ frameB (headF y).1) ++ y.drop (headF y).2.1 ∧ (frameB (headF y).1).length = (headF y).2.1 ∧ 6 ≤ (headF y).2.1 ∧ pre.length + (headF y).2.1 ≤ bs.length := by
  obtain ⟨h1, h2, h3, h4⟩ := head_ok y he
  refine ⟨h1, ?_, h3.symm, ?_, ?_⟩
  · rw [← h2, List.append_assoc, List.take_append_drop]
    exact h
  · rw [h3, frameB_length]
    omega
  · rw [h, List.length_append]
    omega

/-- What is kept between two rounds. -/
structure RsI (w : World) (bs : List UInt8) (v : Value) (ms : List (Rec × Value × Value)) (W : World) : Prop where
  own : W.ownsRow w.heap.size 28 14 v ms.length (flatR ms)
  rise : Rise 0 (msR ms)
  got : ∀ m ∈ ms, m.1.fits ∧ GotIn w.heap.size W m.1 m.2.1 m.2.2
  bel : Below w.heap.size w W
theorem RsI.below {w : World} {bs : List UInt8} {v : Value} {ms : List (Rec × Value × Value)} {A B : World} (h : RsI w bs v ms A) (hb : Below A.heap.size A B) : RsI w bs v ms B :=
  ⟨ownsRow_below h.own hb, h.rise, fun m hm => ⟨(h.got m hm).1, (h.got m hm).2.below hb⟩, h.bel.trans (hb.mono h.bel.size)⟩
/-- One more. -/
theorem RsI.push {w : World} {bs : List UInt8} {v v' : Value} {ms : List (Rec × Value × Value)} {m : Rec × Value × Value} {A B C : World} (h : RsI w bs v ms A) (hb : Below A.heap.size A B) (hg : B.grownBy C v.ownBlock) (ho : C.ownsRow w.heap.size 28 14 v' (ms.length + 1) (flatR ms ++ (rcF m).toList))
    (hm : m.1.right ∧ m.1.fits ∧ GotIn w.heap.size A m.1 m.2.1 m.2.2) (hl : lastL 0 (msR ms) < m.1.l) : RsI w bs v' (ms ++ [m]) C := by
  have h2 := h.below hb
  have key : ∀ k t cs, t ≠ 28 → RowAt B k t cs → RowAt C k t cs := fun k t cs ht hr => (hg.block k hr.lt (fun e => own_kind h2.own hr ht e.symm)).trans hr
  have kg : ∀ z : Rec × Value × Value, GotIn w.heap.size B z.1 z.2.1 z.2.2 → GotIn w.heap.size C z.1 z.2.1 z.2.2 := fun z hz => ⟨own_kept hz.1 (fun k cs => key k _ cs (by decide)), own_kept hz.2 (fun k cs => key k _ cs (by decide))⟩
  refine ⟨?_, ?_, fun z hz => ?_, h2.bel.grown hg h2.bel.size (fun k hk => (h2.own.lt k hk).1)⟩
  · rw [List.length_append, flatR_append]
    have e : flatR [m] = (rcF m).toList := by simp [flatR]
    rw [e]
    exact ho
  · rw [msR_snoc, rise_snoc]
    exact ⟨h.rise, hm.1, hl⟩
  · rcases List.mem_append.1 hz with hz | hz
    · exact ⟨(h2.got z hz).1, kg z (h2.got z hz).2⟩
    · obtain rfl := List.mem_singleton.1 hz
      exact ⟨hm.2.1, kg z (hm.2.2.below hb)⟩
theorem RsI.fin {w : World} {bs : List UInt8} {v : Value} {ms : List (Rec × Value × Value)} {W : World} {mm len : Nat} (h : RsI w bs v ms W) (he : scanL bs = (msR ms, mm)) (q : Bool) (hq : q = decide (mm = len)) :
    ScanAns w bs len (.returned (.tuple #[v, .int .i64 (mm : Int), .bool q])) W := by
  refine ⟨v, ms, ?_, ?_, h.own, h.got, h.bel⟩
  · rw [he, hq]
  · rw [he]

/-- The LSN of the last record. -/
theorem own_last {W : World} {base : Nat} {ms : List (Rec × Value × Value)} {m : Rec × Value × Value} {g cap : Nat} (h : W.ownsRow base 28 14 (.slice (some ⟨g, 0, none⟩) (ms.length + 1) cap) (ms.length + 1) (flatR (ms ++ [m]))) : W.cell? ⟨g, ms.length * 14 + 1, none⟩ = some (.int .u64 (m.1.l : Int)) := by
  have h1 := h.cellAt (ms.length * 14 + 1) (by omega)
  rw [h1]
  have h2 := flat_get rcF 14 (fun _ => rfl) rcZ (ms ++ [m]) ms.length 1 (by simp) (by decide)
  unfold flatR
  rw [h2]
  have e : (ms ++ [m]).getD ms.length rcZ = m := by simp
  rw [e]
  rfl

set_option maxRecDepth 100000 in
set_option maxHeartbeats 6400000 in
theorem rscan7_any (b : ByteArray) (w : World) (hz : b.size ≤ 140737488355) :
    Calls Try.prog 17 #[.string b] w (ScanAns w b.data.toList b.size) := by
  have hbl := data_length b
  generalize hbs : b.data.toList = bs at *
  have HBS := hide hbs
  have HLN := hide hbl
  clear hbs hbl
  go_enter Try.func17, Try.ntmps17
  go_wp2
  go_loopw [5, 6] (fun v p wr => ∃ (ms : List (Rec × Value × Value)) (y : List UInt8) (k : Nat), p = .int .i64 (k : Int) ∧ k ≤ b.size ∧ Hid (k = (framesB (msR ms)).length) ∧ Hid (bs = framesB (msR ms) ++ y) ∧ Hid (RsI w bs v ms wr)) (fun _ p _ => b.size - (intOf p).toNat)
  case atStart => exact ⟨[], bs, 0, rfl, Nat.zero_le _, rfl, rfl, World.ownsRow_nil _ _ _ _, trivial, fun m hm => (nomatch hm), Below.refl _ _⟩
  case round =>
    obtain ⟨ms, y, k, rfl, hk, HKE, HBY, HI⟩ := hrel
    obtain ⟨i0, hi, hz0, hz1, hz2⟩ := info_parts infoRc3
    obtain ⟨a9, c9, hv9⟩ := own_shape5 HI.out.own
    subst hv9
    by_cases hlt : k < b.size
    · have HT := hide (fun w => rtake7_any b (k : Int) w (by omega))
      rw [HBS.out] at HT
      have hka := head_at HBY.out
      rw [← HKE.out] at hka
      rw [hka] at HT
      unfold TakAns at HT
      have HMO := hide (fun he => head_more HBY.out he)
      have HEN : Hid (((headF y).2.2 ≠ 0 ∨ (headF y).1.l ≤ lastL 0 (msR ms)) → scanL bs = (msR ms, k)) := fun h => by
        rw [HKE.out]
        exact scan_end HBY.out HI.out.rise h
      have HFI := hide (head_fits y)
      clear hka
      generalize headF y = hy9 at *
      obtain ⟨r, n, er⟩ := hy9
      simp only at HT HMO HEN HFI
      go_wp2_with fail
      refine (HT.out wr).mono ?_
      rintro e w1 ⟨⟨va, vb, rfl, hgot⟩, hb1⟩
      obtain ⟨av, cv, rfl⟩ := own_shape5 hgot.1
      obtain ⟨au, cu, rfl⟩ := own_shape5 hgot.2
      have HG1 : Hid (GotIn w.heap.size w1 r (.slice av r.ts.length cv) (.slice au r.ds.length cu)) := ⟨own_mono hgot.1 HI.out.bel.size, own_mono hgot.2 HI.out.bel.size⟩
      have HI1 := hide (HI.out.below hb1)
      clear hgot hb1 HI HT
      by_cases he : er = 0
      · subst he
        rw [if_pos rfl]
        obtain ⟨hr, hbs2, hfl, hn6, hkn⟩ := HMO.out rfl
        rw [← HKE.out, HLN.out] at hkn
        obtain ⟨p9, hp9⟩ : ∃ p9 : Nat, p9 = k + n := ⟨_, rfl⟩
        have e9 : (k : Int) + (n : Int) = (p9 : Int) := by omega
        rw [e9]
        have hgt : k < p9 := by omega
        have hle : p9 ≤ b.size := by omega
        have HR := hide hr
        have HB2 := hide hbs2
        have HP9 : Hid (p9 = (framesB (msR ms) ++ frameB r).length) := by
          rw [hp9, List.length_append, hfl, ← HKE.out]
          exact rfl
        have hrl : r.l < 18446744073709551616 := by have := hr.lm; unfold maxP at this; omega
        have hrp : 0 < r.l := hr.l1
        clear hr hbs2 hfl hn6 hkn hp9 e9 HMO
        go_wp2_with (refine wpList_store_at rfl 28 (.tmp 7) (.tmp 18) rfl w1.heap.size zeroA (rcA r (.slice av r.ts.length cv) (.slice au r.ds.length cu)) rfl rfl (RowAt.new w1 28 zeroA) infoRc rfl (by simp [rcA, Value.oneCell']) ?_)
        intro w2 hr2 hk2 _
        have hb2 := hk2 _ _ ((Below.refl w1.heap.size w1).alloc (Nat.le_refl _) _) (Nat.le_refl _)
        have HG2 := hide (HG1.out.below hb2)
        have HI2 := hide (HI1.out.below hb2)
        have HRR := hide hr2
        have HNG : Hid ((Value.slice a9 ms.length c9).ownBlock ≠ some w1.heap.size) := fun e => by
          have := (HI1.out.own.lt _ e).2
          omega
        clear hr2 hk2 hb2 HG1 HI1
        generalize w1.heap.size = g1 at *
        rcases snoc_cases ms with rfl | ⟨ms', m, rfl⟩
        · have HLL : Hid (lastL 0 (msR ([] : List (Rec × Value × Value))) < r.l) := hrp
          clear HEN
          go_wp2
          go_quiet (fail)
          refine gen_w (fun x => Hid (RsI w bs (.slice a9 ([] : List (Rec × Value × Value)).length c9) [] x) ∧ Hid (GotIn w.heap.size x r (.slice av r.ts.length cv) (.slice au r.ds.length cu)) ∧ Hid (RowAt x g1 28 (rcF (r, .slice av r.ts.length cv, .slice au r.ds.length cu)))) ⟨hide (HI2.out.below (below_dn (Below.refl _ _) _)), hide (HG2.out.below (below_dn (Below.refl _ _) _)), HRR⟩ ?_
          clear HI2 HG2 HRR
          rintro x3 ⟨HI3, HG3, HRR⟩
          have HPL : Hid (([] : List (Rec × Value × Value)).length * 6 ≤ b.size) := by
            have h1 := framesB_long (msR ([] : List (Rec × Value × Value)))
            have h3 : (msR ([] : List (Rec × Value × Value))).length = ([] : List (Rec × Value × Value)).length := by simp [msR]
            have h2 := HKE.out
            unfold Hid
            omega
          go_wp2_with (first | (refine wpList_load_at rfl 28 (.tmp 7) rfl g1 rfl #[.int .i64 r.k, .int .u64 (r.l : Int), .int .i64 r.t, .int .u64 (r.p : Int), .int .i64 r.c.k, .int .i64 r.c.pg, .int .i64 r.c.sl, .string r.c.o, .string r.c.n, .int .u64 (r.n : Int), .int .i64 r.s, .int .u64 (r.b : Int), .slice av r.ts.length cv, .slice au r.ds.length cu] HRR.out _ Try.underlying28 rfl infoRc ?_) | (at_builtin; refine wpList_append_own _ rfl (.tmp 40) (.tmp 42) 44 rfl w.heap.size 28 i0 (.agg zeroA) 14 160 Try.underlying44 hi hz0 hz1 hz2 rfl (by decide) _ ([] : List (Rec × Value × Value)).length _ rfl (HI3.out.own.alloc _) ⟨x3.heap.size, 0, none⟩ 1 1 (rcF (r, .slice av r.ts.length cv, .slice au r.ds.length cu)).toList rfl rfl (cells_new x3 28 (rcF (r, .slice av r.ts.length cv, .slice au r.ds.length cu))) (by simp [rcF, rcA, Value.oneCell']) (by have := HPL.out; unfold maxLen; omega) (by have := HPL.out; omega) (by have := HI3.out.bel.size; simp; omega) ?_))
          intro v' w4 hown' hgrow _
          have HI4 := hide (HI3.out.push (m := (r, .slice av r.ts.length cv, .slice au r.ds.length cu)) ((Below.refl _ x3).alloc (Nat.le_refl _) _) hgrow hown' ⟨HR.out, HFI.out, HG3.out⟩ HLL.out)
          clear hown' hgrow HI3 HG3 HRR HLL
          go_wp2
          go_roundw
          case rel => exact ⟨([] : List (Rec × Value × Value)) ++ [(r, .slice av r.ts.length cv, .slice au r.ds.length cu)], _, p9, rfl, hle, by rw [msR_snoc, framesB_snoc]; exact HP9, by rw [msR_snoc, framesB_snoc]; exact HB2, HI4⟩
          case measure => simp [intOf]; omega
        · have hlen : (ms' ++ [m]).length = ms'.length + 1 := by simp
          rw [hlen] at HI2 HNG ⊢
          have hown := HI2.out.own
          rw [hlen] at hown
          obtain ⟨g', c', hv'⟩ := ownsRow_succ hown
          injection hv' with hv1 hv2 hv3
          subst hv1 hv3
          have hcl := own_last hown
          have hll := last_lt (msR (ms' ++ [m])) 0 HI2.out.rise (by decide)
          have HLS : Hid (lastL 0 (msR (ms' ++ [m])) = m.1.l) := by rw [msR_snoc, last_snoc]; exact rfl
          rw [HLS.out] at hll HEN
          have HOW := hide hown
          obtain ⟨n1, hn1⟩ : ∃ n1, n1 = ms'.length := ⟨_, rfl⟩
          rw [← hn1] at hcl hlen HI2 HNG HOW ⊢
          have HN1 := hide hlen
          have hnb : n1 ≤ 140737488355 := by
            have h1 := framesB_long (msR (ms' ++ [m]))
            have h3 : (msR (ms' ++ [m])).length = n1 + 1 := by rw [← HN1.out]; simp [msR]
            have h2 := HKE.out
            omega
          clear hown hlen hn1 hv2
          generalize hml : m.1.l = ml at *
          have HML := hide hml
          clear hml
          have hrc := HRR.out.cell 1 (.int .u64 (r.l : Int)) rfl
          by_cases hge : r.l ≤ ml
          · have HE := hide (HEN.out (.inr hge))
            clear HEN
            go_wp2
            go_quiet (fail)
            go_wp2
            go_ret3
            exact (HI2.out.below (below_dn (Below.refl _ _) _)).fin (len := b.size) HE.out _ (eq_dec _ _)
          · have HLL : Hid (lastL 0 (msR (ms' ++ [m])) < r.l) := by rw [HLS.out]; show ml < r.l; omega
            clear HEN
            go_wp2
            go_quiet (fail)
            refine gen_w (fun x => Hid (RsI w bs (.slice (some ⟨g', 0, none⟩) (n1 + 1) c9) (ms' ++ [m]) x) ∧ Hid (GotIn w.heap.size x r (.slice av r.ts.length cv) (.slice au r.ds.length cu)) ∧ Hid (RowAt x g1 28 (rcF (r, .slice av r.ts.length cv, .slice au r.ds.length cu)))) ⟨hide (HI2.out.below (below_dn (Below.refl _ _) _)), hide (HG2.out.below (below_dn (Below.refl _ _) _)), HRR⟩ ?_
            clear HI2 HG2 HRR
            rintro x3 ⟨HI3, HG3, HRR⟩
            have HPL : Hid ((ms' ++ [m]).length * 6 ≤ b.size) := by
              have h1 := framesB_long (msR (ms' ++ [m]))
              have h3 : (msR (ms' ++ [m])).length = (ms' ++ [m]).length := by simp [msR]
              have h2 := HKE.out
              unfold Hid
              omega
            rw [HN1.out] at HPL
            have HO3 := hide HI3.out.own
            rw [HN1.out] at HO3
            clear hcl hrc
            go_wp2_with (first | (refine wpList_load_at rfl 28 (.tmp 7) rfl g1 rfl #[.int .i64 r.k, .int .u64 (r.l : Int), .int .i64 r.t, .int .u64 (r.p : Int), .int .i64 r.c.k, .int .i64 r.c.pg, .int .i64 r.c.sl, .string r.c.o, .string r.c.n, .int .u64 (r.n : Int), .int .i64 r.s, .int .u64 (r.b : Int), .slice av r.ts.length cv, .slice au r.ds.length cu] HRR.out _ Try.underlying28 rfl infoRc ?_) | (at_builtin; refine wpList_append_own _ rfl (.tmp 40) (.tmp 42) 44 rfl w.heap.size 28 i0 (.agg zeroA) 14 160 Try.underlying44 hi hz0 hz1 hz2 rfl (by decide) _ (n1 + 1) _ rfl (HO3.out.alloc _) ⟨x3.heap.size, 0, none⟩ 1 1 (rcF (r, .slice av r.ts.length cv, .slice au r.ds.length cu)).toList rfl rfl (cells_new x3 28 (rcF (r, .slice av r.ts.length cv, .slice au r.ds.length cu))) (by simp [rcF, rcA, Value.oneCell']) (by have := HPL.out; unfold maxLen; omega) (by have := HPL.out; omega) (by have := HI3.out.bel.size; simp; omega) ?_))
            intro v' w4 hown' hgrow _
            have HI4 := hide (HI3.out.push (m := (r, .slice av r.ts.length cv, .slice au r.ds.length cu)) ((Below.refl _ x3).alloc (Nat.le_refl _) _) hgrow (by rw [HN1.out]; exact hown') ⟨HR.out, HFI.out, HG3.out⟩ HLL.out)
            clear hown' hgrow HI3 HG3 HRR HLL HO3
            go_wp2
            go_roundw
            case rel => exact ⟨(ms' ++ [m]) ++ [(r, .slice av r.ts.length cv, .slice au r.ds.length cu)], _, p9, rfl, hle, by rw [msR_snoc, framesB_snoc]; exact HP9, by rw [msR_snoc, framesB_snoc]; exact HB2, HI4⟩
            case measure => simp [intOf]; omega
      · rw [if_neg he]
        have k0 : (er == 0) = false := by rw [beq_eq_false_iff_ne]; exact he
        have k1 : (er != 0) = true := by rw [bne, k0]; rfl
        have HE := hide (HEN.out (.inl he))
        clear he HEN HMO
        go_wp2_with (refine wpList_store_at rfl 28 (.tmp 7) (.tmp 18) rfl w1.heap.size zeroA (rcA r (.slice av r.ts.length cv) (.slice au r.ds.length cu)) rfl rfl (RowAt.new w1 28 zeroA) infoRc rfl (by simp [rcA, Value.oneCell']) ?_)
        intro w2 hr2 hk2 _
        have hb2 := hk2 _ _ ((Below.refl w1.heap.size w1).alloc (Nat.le_refl _) _) (Nat.le_refl _)
        have HI2 := hide (HI1.out.below hb2)
        clear hr2 hk2 hb2 HG1 HI1
        generalize w1.heap.size = g1 at *
        go_wp2
        go_quiet (fail)
        go_wp2
        go_ret3
        exact (HI2.out.below (below_dn (Below.refl _ _) _)).fin (len := b.size) HE.out _ (eq_dec _ _)
    · obtain rfl : k = b.size := by omega
      have hy : y = [] := by
        have h1 := congrArg List.length HBY.out
        rw [HLN.out, List.length_append, ← HKE.out] at h1
        exact List.eq_nil_of_length_eq_zero (by omega)
      have HE := hide (scan_end HBY.out HI.out.rise (.inl (by rw [hy]; unfold headF; rw [if_pos (.inl (by decide))]; decide)))
      rw [← HKE.out] at HE
      clear hy
      go_wp2
      go_ret3
      exact HI.out.fin HE.out true (by simp)
end Go.Proofs.Ytgobegpmojkhaaa

/-
  The contract of quaysidelaw07.right.
-/
namespace Go.Proofs.Ytgobegpmojkhaaa
open Go.RowKit
set_option linter.unusedVariables false

theorem take_snoc7 {α : Type} (xs : List α) (i : Nat) (z : α) (h : i < xs.length) : xs.take (i + 1) = xs.take i ++ [xs.getD i z] := by
  rw [List.take_add_one, List.getElem?_eq_getElem h, List.getD_eq_getElem?_getD, List.getElem?_eq_getElem h]
  rfl
theorem RsIn.mid {w : World} {a : Option Addr} {len cap : Nat} {ms : List (Rec × Value × Value)} (h : RsIn w (.slice a len cap) ms) {i : Nat} (hi : i < ms.length) : ∃ b off r e1 k1 e2 k2, a = some ⟨b, off, none⟩ ∧ ms.getD i rcZ = (r, .slice e1 r.ts.length k1, .slice e2 r.ds.length k2) ∧ r.fits ∧ (∀ x, Below w.heap.size w x → x.rangeAt b (off + i * 14) (rcA r (.slice e1 r.ts.length k1) (.slice e2 r.ds.length k2)).toList ∧ RcIn x r (.slice e1 r.ts.length k1) (.slice e2 r.ds.length k2)) := by
  obtain ⟨b, off, h1, h2, h3, h4, h5⟩ := h.at hi
  generalize ms.getD i rcZ = m at h3 h4 h5 ⊢
  obtain ⟨r, va, vb⟩ := m
  have h6 := h5
  obtain ⟨⟨e1, k1, h7, -⟩, ⟨e2, k2, h8, -⟩⟩ := h5
  simp only at h7 h8
  subst h7 h8
  exact ⟨b, off, r, e1, k1, e2, k2, h1, rfl, h4, fun x hx => ⟨rangeAt_below h3 hx h2, h6.below hx⟩⟩

set_option maxRecDepth 8000 in
set_option maxHeartbeats 3200000 in
theorem lright_any (v : Value) (ms : List (Rec × Value × Value)) (w : World) (ha : RsIn w v ms) (hl : ms.length ≤ maxLen) :
    Calls Try.prog 19 #[v] w fun e w' => ∃ q, e = .returned (.bool q) ∧ (q = true → Rise 0 (msR ms) ∧ ms.length ≤ 100) ∧ Below w.heap.size w w' := by
  have HA := hide ha
  obtain ⟨⟨aa, ca, rfl, -⟩, -⟩ := ha
  obtain ⟨ln, hln⟩ : ∃ ln, ln = ms.length := ⟨_, rfl⟩
  unfold maxLen at hl
  rw [← hln] at HA hl ⊢
  have HN := hide hln
  clear hln
  go_enter Try.func19, Try.ntmps19
  go_wp2
  go_loopw [3, 7] (fun v i wr => ∃ (j ll : Nat), j ≤ ln ∧ i = .int .i64 (j : Int) ∧ v = .int .u64 (ll : Int) ∧ j ≤ 100 ∧ ll < 18446744073709551616 ∧ Hid (ll = lastL 0 (msR (ms.take j))) ∧ Hid (Rise 0 (msR (ms.take j))) ∧ Hid (Below w.heap.size w wr)) (fun _ i _ => ln - (intOf i).toNat)
  case atStart => exact ⟨0, 0, Nat.zero_le _, rfl, rfl, Nat.zero_le _, by decide, by rw [List.take_zero]; rfl, by rw [List.take_zero]; trivial, Below.refl _ _⟩
  case round =>
    obtain ⟨j, ll, hj, rfl, rfl, hj1, hll, HLL, HRI, HBR⟩ := hrel
    by_cases hlt : j < ln
    · by_cases hbig : 100 ≤ j
      · have i1 : (100 : Int) ≤ (j : Int) := by omega
        go_wp2
        go_ret
        exact ⟨false, rfl, fun h => (nomatch h), HBR.out⟩
      · obtain ⟨b1, o1, r, e1, k1, e2, k2, rfl, hm, hf, hx⟩ := HA.out.mid (i := j) (by rw [← HN.out]; exact hlt)
        obtain ⟨h3, h5⟩ := hx wr HBR.out
        have HX := hide hx
        have HM := hide hm
        have c0 : wr.cell? ⟨b1, o1 + j * 14, none⟩ = some (.int .i64 r.k) := h3 0 _ rfl
        have c1 : wr.cell? ⟨b1, o1 + j * 14 + 1, none⟩ = some (.int .u64 (r.l : Int)) := h3 1 _ rfl
        have c2 : wr.cell? ⟨b1, o1 + j * 14 + 2, none⟩ = some (.int .i64 r.t) := h3 2 _ rfl
        have c3 : wr.cell? ⟨b1, o1 + j * 14 + 3, none⟩ = some (.int .u64 (r.p : Int)) := h3 3 _ rfl
        have c4 : wr.cell? ⟨b1, o1 + j * 14 + 4, none⟩ = some (.int .i64 r.c.k) := h3 4 _ rfl
        have c5 : wr.cell? ⟨b1, o1 + j * 14 + 5, none⟩ = some (.int .i64 r.c.pg) := h3 5 _ rfl
        have c6 : wr.cell? ⟨b1, o1 + j * 14 + 6, none⟩ = some (.int .i64 r.c.sl) := h3 6 _ rfl
        have c7 : wr.cell? ⟨b1, o1 + j * 14 + 7, none⟩ = some (.string r.c.o) := h3 7 _ rfl
        have c8 : wr.cell? ⟨b1, o1 + j * 14 + 8, none⟩ = some (.string r.c.n) := h3 8 _ rfl
        have c9 : wr.cell? ⟨b1, o1 + j * 14 + 9, none⟩ = some (.int .u64 (r.n : Int)) := h3 9 _ rfl
        have c10 : wr.cell? ⟨b1, o1 + j * 14 + 10, none⟩ = some (.int .i64 r.s) := h3 10 _ rfl
        have c11 : wr.cell? ⟨b1, o1 + j * 14 + 11, none⟩ = some (.int .u64 (r.b : Int)) := h3 11 _ rfl
        have c12 : wr.cell? ⟨b1, o1 + j * 14 + 12, none⟩ = some (.slice e1 r.ts.length k1) := h3 12 _ rfl
        have c13 : wr.cell? ⟨b1, o1 + j * 14 + 13, none⟩ = some (.slice e2 r.ds.length k2) := h3 13 _ rfl
        have i1 : ¬ (100 : Int) ≤ (j : Int) := by omega
        by_cases hr : r.right
        · have HR := hide (rright6_any r _ _ wr hf.c h5)
          rw [rightB_yes hr] at HR
          have hrl : r.l < 18446744073709551616 := by have := hr.lm; unfold maxP at this; omega
          have HRR := hide hr
          clear hr hx h3 h5 hm hf
          by_cases hle : r.l ≤ ll
          · go_wp2_with fail
            refine HR.out.mono ?_
            rintro e w1 ⟨rfl, hb1⟩
            have HB1 := hide (HBR.out.trans (hb1.mono HBR.out.size))
            have k1' := (HX.out w1 HB1.out).1 1 (.int .u64 (r.l : Int)) rfl
            clear c0 c1 c2 c3 c4 c5 c6 c7 c8 c9 c10 c11 c12 c13 hb1 HBR HR
            go_wp2
            go_ret
            exact ⟨false, rfl, fun h => (nomatch h), HB1.out⟩
          · go_wp2_with fail
            refine HR.out.mono ?_
            rintro e w1 ⟨rfl, hb1⟩
            have HB1 := hide (HBR.out.trans (hb1.mono HBR.out.size))
            have k1' := (HX.out w1 HB1.out).1 1 (.int .u64 (r.l : Int)) rfl
            clear c0 c1 c2 c3 c4 c5 c6 c7 c8 c9 c10 c11 c12 c13 hb1 HBR HR
            go_wp2
            go_roundw
            case rel =>
              have ht : msR (ms.take (j + 1)) = msR (ms.take j) ++ [r] := by
                rw [take_snoc7 ms j rcZ (by rw [← HN.out]; exact hlt), HM.out, msR_snoc]
              exact ⟨j + 1, r.l, by omega, by go_num, rfl, by omega, hrl, by rw [ht, last_snoc]; exact rfl, by rw [ht, rise_snoc, ← HLL.out]; exact ⟨HRI.out, HRR.out, by omega⟩, HB1⟩
            case measure => simp [intOf]; omega
        · have HR := hide (rright6_any r _ _ wr hf.c h5)
          rw [rightB_no hr] at HR
          clear hr hx h3 h5 hm hf
          go_wp2_with fail
          refine HR.out.mono ?_
          rintro e w1 ⟨rfl, hb1⟩
          have d1 := HBR.out.trans (hb1.mono HBR.out.size)
          clear c0 c1 c2 c3 c4 c5 c6 c7 c8 c9 c10 c11 c12 c13 hb1 HBR HR
          go_wp2
          go_ret
          exact ⟨false, rfl, fun h => (nomatch h), d1⟩
    · obtain rfl : j = ln := by omega
      go_wp2
      go_ret
      refine ⟨true, rfl, fun _ => ?_, HBR.out⟩
      have ht := HRI.out
      rw [HN.out, List.take_length] at ht
      exact ⟨ht, hj1⟩
end Go.Proofs.Ytgobegpmojkhaaa

/-
  The contract of quaysidelaw07.laid.
-/
namespace Go.Proofs.Ytgobegpmojkhaaa
open Go.RowKit
set_option linter.unusedVariables false

/-- The places behind each frame. -/
def endsV (rs : List Rec) : List Value := (List.range rs.length).map fun i => .int .i64 ((framesB (rs.take (i + 1))).length : Int)
theorem endsV_snoc (rs : List Rec) (r : Rec) : endsV (rs ++ [r]) = endsV rs ++ [.int .i64 ((framesB (rs ++ [r])).length : Int)] := by
  unfold endsV
  rw [List.length_append, List.length_singleton, List.range_succ, List.map_append]
  congr 1
  · apply List.map_congr_left
    intro i hi
    rw [List.take_append_of_le_length (by have := List.mem_range.1 hi; omega)]
  · have e : (rs ++ [r]).take (rs.length + 1) = rs ++ [r] := List.take_of_length_le (by simp)
    simp only [List.map_cons, List.map_nil, e]
theorem infoInt : (Try.prog.info? 3).map (fun i => (i.zero, i.size, i.bytes)) = some (some (.int .i64 0), 1, 8) := by kernel_rfl
/-- What is kept between two rounds. -/
structure LdI (w : World) (vo ve : Value) (rs : List Rec) (W : World) : Prop where
  out : W.ownsRow w.heap.size 5 1 vo (framesB rs).length (toV (framesB rs))
  ends : W.ownsRow w.heap.size 3 1 ve rs.length (endsV rs)
  bel : Below w.heap.size w W
  nil : rs = [] → vo = .slice none 0 0
theorem LdI.below {w : World} {vo ve : Value} {rs : List Rec} {A B : World} (h : LdI w vo ve rs A) (hb : Below A.heap.size A B) : LdI w vo ve rs B := ⟨ownsRow_below h.out hb, ownsRow_below h.ends hb, h.bel.trans (hb.mono h.bel.size), h.nil⟩
theorem own_grown {A B : World} {base n sz : Nat} {e t : TypeId} {v u : Value} {xs : List Value} {base' n' sz' : Nat} {ys : List Value} (h : A.ownsRow base e sz v n xs) (hu : A.ownsRow base' t sz' u n' ys) (ht : e ≠ t) (hg : A.grownBy B u.ownBlock) : B.ownsRow base e sz v n xs :=
  own_kept h (fun k cs hr => (hg.block k hr.lt (fun e => own_kind hu hr ht e.symm)).trans hr)
theorem frames_few : ∀ rs : List Rec, (∀ r ∈ rs, r.right) → (framesB rs).length ≤ rs.length * 1006
  | [], _ => Nat.le_refl _
  | r :: rs, h => by
    have h1 := frames_few rs (fun x hx => h x (List.mem_cons_of_mem _ hx))
    have h2 := rec_few r (h r (List.mem_cons_self ..))
    have e : framesB (r :: rs) = frameB r ++ framesB rs := by simp [framesB]
    rw [e, List.length_append, frameB_length, List.length_cons]
    omega
theorem rise_take : ∀ (rs : List Rec) (a i : Nat), Rise a rs → Rise a (rs.take i)
  | _, _, 0, _ => by rw [List.take_zero]; trivial
  | [], _, _ + 1, _ => trivial
  | r :: rs, a, i + 1, h => ⟨h.1, h.2.1, rise_take rs r.l i h.2.2⟩
theorem rise_at : ∀ (rs : List Rec) (a i : Nat), Rise a rs → i < rs.length → lastL a (rs.take i) < (rs.getD i Rec.zero).l
  | [], _, _, _, h => absurd h (by simp)
  | r :: rs, a, 0, h, _ => h.2.1
  | r :: rs, a, i + 1, h, hi => rise_at rs r.l i h.2.2 (by simpa using hi)
theorem msR_take (ms : List (Rec × Value × Value)) (i : Nat) : msR (ms.take i) = (msR ms).take i := by simp [msR, List.map_take]

set_option maxRecDepth 8000 in
set_option maxHeartbeats 6400000 in
theorem laid_any (v : Value) (ms : List (Rec × Value × Value)) (w : World) (ha : RsIn w v ms) (hr : Rise 0 (msR ms)) (hl : ms.length ≤ 100000) :
    Calls Try.prog 20 #[v] w fun e w' => ∃ vo ve, e = .returned (.tuple #[vo, ve, .bool true]) ∧ LdI w vo ve (msR ms) w' := by
  have HA := hide ha
  have HRS := hide hr
  obtain ⟨⟨aa, ca, rfl, -⟩, -⟩ := ha
  obtain ⟨ln, hln⟩ : ∃ ln, ln = ms.length := ⟨_, rfl⟩
  rw [← hln] at HA hl ⊢
  have HN := hide hln
  clear hln hr
  go_enter Try.func20, Try.ntmps20
  go_wp2
  go_loopw [5, 6, 7, 13] (fun vo ve u i wr => ∃ (j ll : Nat), j ≤ ln ∧ i = .int .i64 (j : Int) ∧ u = .int .u64 (ll : Int) ∧ ll < 18446744073709551616 ∧ Hid (ll = lastL 0 ((msR ms).take j)) ∧ Hid (LdI w vo ve ((msR ms).take j) wr)) (fun _ _ _ i _ => ln - (intOf i).toNat)
  case atStart => exact ⟨0, 0, Nat.zero_le _, rfl, rfl, by decide, by rw [List.take_zero]; rfl, by rw [List.take_zero]; exact ⟨World.ownsRow_nil _ _ _ _, World.ownsRow_nil _ _ _ _, Below.refl _ _, fun _ => rfl⟩⟩
  case round =>
    obtain ⟨j, ll, hj, rfl, rfl, hll, HLL, HI⟩ := hrel
    by_cases hlt : j < ln
    · obtain ⟨b1, o1, r, e1, k1, e2, k2, rfl, hm, hf, hx⟩ := HA.out.mid (i := j) (by rw [← HN.out]; exact hlt)
      obtain ⟨h3, h5⟩ := hx wr HI.out.bel
      have HX := hide hx
      have hgr : (msR ms).getD j Rec.zero = r := by rw [msR_get, hm]
      have hjl : j < (msR ms).length := by simp only [msR, List.length_map]; rw [← HN.out]; exact hlt
      have hat := rise_at (msR ms) 0 j HRS.out hjl
      rw [hgr, ← HLL.out] at hat
      have hr : r.right := rise_right _ 0 HRS.out r (by rw [← hgr]; exact getD_mem _ _ _ hjl)
      have HT : Hid ((msR ms).take (j + 1) = (msR ms).take j ++ [r]) := by rw [take_snoc7 (msR ms) j Rec.zero hjl, hgr]; exact rfl
      have HFEW : Hid ((framesB ((msR ms).take j)).length ≤ j * 1006) := by
        have h1 := frames_few ((msR ms).take j) (rise_right _ 0 (rise_take _ 0 j HRS.out))
        rw [List.length_take, Nat.min_eq_left (Nat.le_of_lt hjl)] at h1
        exact h1
      have HJL : Hid (((msR ms).take j).length = j) := by rw [List.length_take, Nat.min_eq_left (Nat.le_of_lt hjl)]; exact rfl
      have c0 : wr.cell? ⟨b1, o1 + j * 14, none⟩ = some (.int .i64 r.k) := h3 0 _ rfl
      have c1 : wr.cell? ⟨b1, o1 + j * 14 + 1, none⟩ = some (.int .u64 (r.l : Int)) := h3 1 _ rfl
      have c2 : wr.cell? ⟨b1, o1 + j * 14 + 2, none⟩ = some (.int .i64 r.t) := h3 2 _ rfl
      have c3 : wr.cell? ⟨b1, o1 + j * 14 + 3, none⟩ = some (.int .u64 (r.p : Int)) := h3 3 _ rfl
      have c4 : wr.cell? ⟨b1, o1 + j * 14 + 4, none⟩ = some (.int .i64 r.c.k) := h3 4 _ rfl
      have c5 : wr.cell? ⟨b1, o1 + j * 14 + 5, none⟩ = some (.int .i64 r.c.pg) := h3 5 _ rfl
      have c6 : wr.cell? ⟨b1, o1 + j * 14 + 6, none⟩ = some (.int .i64 r.c.sl) := h3 6 _ rfl
      have c7 : wr.cell? ⟨b1, o1 + j * 14 + 7, none⟩ = some (.string r.c.o) := h3 7 _ rfl
      have c8 : wr.cell? ⟨b1, o1 + j * 14 + 8, none⟩ = some (.string r.c.n) := h3 8 _ rfl
      have c9 : wr.cell? ⟨b1, o1 + j * 14 + 9, none⟩ = some (.int .u64 (r.n : Int)) := h3 9 _ rfl
      have c10 : wr.cell? ⟨b1, o1 + j * 14 + 10, none⟩ = some (.int .i64 r.s) := h3 10 _ rfl
      have c11 : wr.cell? ⟨b1, o1 + j * 14 + 11, none⟩ = some (.int .u64 (r.b : Int)) := h3 11 _ rfl
      have c12 : wr.cell? ⟨b1, o1 + j * 14 + 12, none⟩ = some (.slice e1 r.ts.length k1) := h3 12 _ rfl
      have c13 : wr.cell? ⟨b1, o1 + j * 14 + 13, none⟩ = some (.slice e2 r.ds.length k2) := h3 13 _ rfl
      have HR := hide (rright6_any r _ _ wr hf.c h5)
      rw [rightB_yes hr] at HR
      have hrl : r.l < 18446744073709551616 := by have := hr.lm; unfold maxP at this; omega
      have HP := hide (fun x (hb : Below w.heap.size w x) => fput_ok r _ _ x hr hf (HX.out x hb).2)
      have hfl := frameB_length r
      have hfw := rec_few r hr
      generalize hrs : (msR ms).take j = rs at *
      have HRJ := hide hrs
      have hle : ¬ r.l ≤ ll := by omega
      obtain ⟨ao, co, hvo⟩ := own_shape5 HI.out.out
      obtain ⟨ae, ce, hve⟩ := own_shape5 HI.out.ends
      subst hvo hve
      obtain ⟨i0, hi, hz0, hz1, hz2⟩ := info_parts infoInt
      have HSN := hide (framesB_snoc rs r)
      generalize hFB : frameB r = FB at *
      have HFB := hide hFB
      clear hr hx h3 h5 hm hf hgr hjl hat hrs hFB
      generalize hLO : (framesB rs).length = lo at *
      have HLO := hide hLO
      generalize hLF : FB.length = lf at *
      have HLF := hide hLF
      have hlf1 : lf ≤ 1006 := by omega
      have hlf0 : 0 < lf := by omega
      clear hLO hLF hfl hfw
      go_wp2_with fail
      refine HR.out.mono ?_
      rintro e w1 ⟨rfl, hb1⟩
      have HI1 := hide (HI.out.below hb1)
      clear c0 c1 c2 c3 c4 c5 c6 c7 c8 c9 c10 c11 c12 c13 hb1 HR HI
      have h3 := (HX.out w1 HI1.out.bel).1
      have c0 : w1.cell? ⟨b1, o1 + j * 14, none⟩ = some (.int .i64 r.k) := h3 0 _ rfl
      have c1 : w1.cell? ⟨b1, o1 + j * 14 + 1, none⟩ = some (.int .u64 (r.l : Int)) := h3 1 _ rfl
      have c2 : w1.cell? ⟨b1, o1 + j * 14 + 2, none⟩ = some (.int .i64 r.t) := h3 2 _ rfl
      have c3 : w1.cell? ⟨b1, o1 + j * 14 + 3, none⟩ = some (.int .u64 (r.p : Int)) := h3 3 _ rfl
      have c4 : w1.cell? ⟨b1, o1 + j * 14 + 4, none⟩ = some (.int .i64 r.c.k) := h3 4 _ rfl
      have c5 : w1.cell? ⟨b1, o1 + j * 14 + 5, none⟩ = some (.int .i64 r.c.pg) := h3 5 _ rfl
      have c6 : w1.cell? ⟨b1, o1 + j * 14 + 6, none⟩ = some (.int .i64 r.c.sl) := h3 6 _ rfl
      have c7 : w1.cell? ⟨b1, o1 + j * 14 + 7, none⟩ = some (.string r.c.o) := h3 7 _ rfl
      have c8 : w1.cell? ⟨b1, o1 + j * 14 + 8, none⟩ = some (.string r.c.n) := h3 8 _ rfl
      have c9 : w1.cell? ⟨b1, o1 + j * 14 + 9, none⟩ = some (.int .u64 (r.n : Int)) := h3 9 _ rfl
      have c10 : w1.cell? ⟨b1, o1 + j * 14 + 10, none⟩ = some (.int .i64 r.s) := h3 10 _ rfl
      have c11 : w1.cell? ⟨b1, o1 + j * 14 + 11, none⟩ = some (.int .u64 (r.b : Int)) := h3 11 _ rfl
      have c12 : w1.cell? ⟨b1, o1 + j * 14 + 12, none⟩ = some (.slice e1 r.ts.length k1) := h3 12 _ rfl
      have c13 : w1.cell? ⟨b1, o1 + j * 14 + 13, none⟩ = some (.slice e2 r.ds.length k2) := h3 13 _ rfl
      clear h3
      go_wp2_with fail
      refine (HP.out w1 HI1.out.bel).mono ?_
      rintro e w2 ⟨v2, rfl, hown2, hb2⟩
      obtain ⟨a2, cap2, rfl, -, hB2⟩ := shape_isB hown2
      have HI2 := hide (HI1.out.below hb2)
      have HB2 := hide hB2
      have HNL : Hid (a2 = none → cap2 = 0) := by
        obtain ⟨g2, c2, h2, _⟩ := own_slice hown2 (by omega)
        injection h2 with h2 _ _
        rw [h2]
        exact fun h => (nomatch h)
      clear c0 c1 c2 c3 c4 c5 c6 c7 c8 c9 c10 c11 c12 c13 hown2 hb2 hB2 HP HI1
      have HO2 := hide HI2.out.out
      rw [HLO.out] at HO2
      have HE2 := hide HI2.out.ends
      have HD2 := hide HI2.out.bel
      have hrb : rs.length ≤ 100000 := by
        have := HJL.out
        omega
      have hob : lo ≤ 100600000 := by
        have := HFEW.out
        omega
      clear HI2 HFEW
      go_wp2_with (at_builtin; refine wpList_append_ob _ rfl (.tmp 46) (.tmp 47) 30 rfl 5 Try.underlying30 info8 w.heap.size _ lo (framesB rs) rfl HO2.out a2 lf cap2 FB rfl HB2.out HNL.out (by omega) HD2.out.size ?_)
      intro v3 w3 hown3 hg3
      have HE3 := hide (own_grown HE2.out HO2.out (show (3 : TypeId) ≠ 5 by decide) hg3)
      have HD3 := hide (HD2.out.grown hg3 HD2.out.size (fun k hk => (HO2.out.lt k hk).1))
      obtain ⟨l9, hl9⟩ : ∃ l9, l9 = lo + lf := ⟨_, rfl⟩
      rw [← hl9] at hown3
      have hb9 : l9 ≤ 100700000 := by omega
      have HL9 : Hid (l9 = (framesB (rs ++ [r])).length) := by
        rw [HSN.out, List.length_append, HLO.out, HLF.out]
        exact hl9
      have HO3 := hide hown3
      obtain ⟨a3, c3, rfl⟩ := own_shape5 hown3
      clear hown3 hg3 HE2 HO2 HD2 hl9 HB2 HNL
      go_wp2_with (at_builtin; refine wpList_append_own _ rfl (.tmp 49) (.tmp 52) 52 rfl w.heap.size 3 i0 (.int .i64 0) 1 8 Try.underlying52 hi hz0 hz1 hz2 rfl (by decide) _ rs.length _ rfl (HE3.out.alloc _) ⟨w3.heap.size, 0, none⟩ 1 1 [.int .i64 (l9 : Int)] rfl rfl (cell_one_new _ _ _) (by simp [Value.oneCell']) (by unfold maxLen; omega) (by omega) (by have := HD3.out.size; simp; omega) ?_)
      intro v4 w4 hown4 hg4 _
      have HI4 : Hid (LdI w (.slice a3 l9 c3) v4 (rs ++ [r]) w4) := by
        have h1 := own_grown (HO3.out.alloc (.cells #[.int .i64 (l9 : Int)] 3)) (HE3.out.alloc (.cells #[.int .i64 (l9 : Int)] 3)) (show (5 : TypeId) ≠ 3 by decide) hg4
        refine ⟨?_, ?_, ?_, fun h => absurd h (by simp)⟩
        · rw [← HL9.out, HSN.out]
          exact h1
        · rw [endsV_snoc, List.length_append, ← HL9.out]
          exact hown4
        · exact (HD3.out.alloc HD3.out.size _).grown hg4 (by have := HD3.out.size; simp; omega) (fun k hk => ((HE3.out.alloc (.cells #[.int .i64 (l9 : Int)] 3)).lt k hk).1)
      obtain ⟨a4, c4, rfl⟩ := own_shape5 hown4
      clear hown4 hg4 HE3 HO3 HD3
      go_wp2
      go_roundw
      case rel => exact ⟨j + 1, r.l, by omega, by go_num, rfl, hrl, by rw [HT.out, last_snoc]; exact rfl, by rw [HT.out]; exact HI4⟩
      case measure => simp [intOf]; omega
    · obtain rfl : j = ln := by omega
      have ht : (msR ms).take j = msR ms := by
        rw [HN.out]
        exact List.take_of_length_le (by simp [msR])
      rw [ht] at HI
      clear ht HLL
      obtain ⟨ao, co, hvo⟩ := own_shape5 HI.out.out
      obtain ⟨ae, ce, hve⟩ := own_shape5 HI.out.ends
      subst hvo hve
      go_wp2
      go_ret3
      exact ⟨_, _, rfl, HI.out⟩
end Go.Proofs.Ytgobegpmojkhaaa

/-
  Frames cut off anywhere: what is scanned of them. Plain facts, of no program.
-/
namespace Go.Proofs.Ytgobegpmojkhaaa
open Go.RowKit
set_option linter.unusedVariables false

theorem framesB_append (a b : List Rec) : framesB (a ++ b) = framesB a ++ framesB b := by simp [framesB]
theorem framesB_cons (r : Rec) (rs : List Rec) : framesB (r :: rs) = frameB r ++ framesB rs := by simp [framesB]
theorem rise_first : ∀ (rs : List Rec) (a i : Nat), Rise a rs → Rise a (rs.take i)
  | _, _, 0, _ => by rw [List.take_zero]; trivial
  | [], _, _ + 1, _ => trivial
  | r :: rs, a, i + 1, h => ⟨h.1, h.2.1, rise_first rs r.l i h.2.2⟩
theorem head_nil : (headF []).2.2 ≠ 0 := by
  unfold headF
  rw [if_pos (.inl (by decide))]
  decide
theorem cut_scan (rs : List Rec) (k i : Nat) (hr : Rise 0 rs) (hi : i ≤ rs.length) (h1 : (framesB (rs.take i)).length ≤ k) (h2 : i < rs.length → k < (framesB (rs.take (i + 1))).length) : scanL ((framesB rs).take k) = (rs.take i, (framesB (rs.take i)).length) := by
  have e1 : framesB rs = framesB (rs.take i) ++ framesB (rs.drop i) := by rw [← framesB_append, List.take_append_drop]
  have e2 : (framesB rs).take k = framesB (rs.take i) ++ (framesB (rs.drop i)).take (k - (framesB (rs.take i)).length) := by
    rw [e1, List.take_append, List.take_of_length_le h1]
  refine scan_end e2 (rise_first rs 0 i hr) (.inl ?_)
  by_cases hlt : i < rs.length
  · have e3 : rs.drop i = rs[i] :: rs.drop (i + 1) := List.drop_eq_getElem_cons hlt
    have e4 : framesB (rs.drop i) = frameB rs[i] ++ framesB (rs.drop (i + 1)) := by rw [e3, framesB_cons]
    have e5 : rs.take (i + 1) = rs.take i ++ [rs[i]] := by rw [List.take_add_one, List.getElem?_eq_getElem hlt]; rfl
    have h3 := h2 hlt
    rw [e5, framesB_append, List.length_append] at h3
    have e6 : framesB [rs[i]] = frameB rs[i] := by simp [framesB]
    rw [e6] at h3
    have hrr : rs[i].right := rise_right rs 0 hr _ (List.getElem_mem hlt)
    rw [e4, List.take_append_of_le_length (by omega)]
    rw [head_cut rs[i] hrr _ _ (List.take_append_drop (k - (framesB (rs.take i)).length) _).symm (fun h => by
      have h5 := congrArg List.length h
      rw [List.length_drop] at h5
      have h6 : (frameB rs[i]).length - (k - (framesB (rs.take i)).length) = 0 := h5
      omega)]
    decide
  · have e3 : rs.drop i = [] := List.drop_eq_nil_of_le (by omega)
    rw [e3]
    have e4 : (framesB []).take (k - (framesB (rs.take i)).length) = [] := by simp [framesB]
    rw [e4]
    exact head_nil
end Go.Proofs.Ytgobegpmojkhaaa

/-
  The beginning and the rest of a list of records.
-/
namespace Go.Proofs.Ytgobegpmojkhaaa
open Go.RowKit
set_option linter.unusedVariables false

theorem RsIn.first {w : World} {a : Option Addr} {len cap i : Nat} {ms : List (Rec × Value × Value)} (h : RsIn w (.slice a len cap) ms) (hi : i ≤ ms.length) : RsIn w (.slice a i cap) (ms.take i) := by
  have hl : (ms.take i).length = i := by rw [List.length_take, Nat.min_eq_left hi]
  obtain ⟨⟨a', cap', h1, h2⟩, h3⟩ := h
  injection h1 with e1 e2 e3
  subst e1 e3
  refine ⟨⟨a, cap, by rw [hl], fun hp => ?_⟩, fun m hm => h3 m (List.mem_of_mem_take hm)⟩
  rw [hl] at hp
  obtain ⟨b, off, h4, h5, h6⟩ := h2 (by omega)
  refine ⟨b, off, h4, h5, fun j hj => ?_⟩
  rw [hl] at hj
  have e : (ms.take i).getD j rcZ = ms.getD j rcZ := by
    rw [List.getD_eq_getElem?_getD, List.getD_eq_getElem?_getD, List.getElem?_take, if_pos hj]
  rw [e]
  exact h6 j (by omega)
theorem RsIn.empty (w : World) (a : Option Addr) (cap : Nat) : RsIn w (.slice a 0 cap) [] := ⟨⟨a, cap, rfl, fun h => absurd h (by simp)⟩, fun m hm => (nomatch hm)⟩
theorem RsIn.rest {w : World} {b off len cap i : Nat} {ms : List (Rec × Value × Value)} (h : RsIn w (.slice (some ⟨b, off, none⟩) len cap) ms) (hi : i ≤ ms.length) (k c : Nat) (hk : k = len - i) : RsIn w (.slice (some ⟨b, off + i * 14, none⟩) k c) (ms.drop i) := by
  obtain ⟨⟨a', cap', h1, h2⟩, h3⟩ := h
  injection h1 with e1 e2 e3
  subst e1
  have hl : (ms.drop i).length = k := by rw [List.length_drop, hk, e2]
  refine ⟨⟨_, c, by rw [hl], fun hp => ?_⟩, fun m hm => h3 m (List.mem_of_mem_drop hm)⟩
  rw [List.length_drop] at hp
  obtain ⟨b', off', h4, h5, h6⟩ := h2 (by omega)
  injection h4 with h7
  injection h7 with h8 h9
  subst h8 h9
  refine ⟨b, off + i * 14, rfl, h5, fun j hj => ?_⟩
  rw [List.length_drop] at hj
  have e : (ms.drop i).getD j rcZ = ms.getD (i + j) rcZ := by
    rw [List.getD_eq_getElem?_getD, List.getD_eq_getElem?_getD, List.getElem?_drop]
  have e4 : off + i * 14 + j * 14 = off + (i + j) * 14 := by omega
  rw [e, e4]
  exact h6 (i + j) (by omega)
end Go.Proofs.Ytgobegpmojkhaaa

/-
  How long a slice of a bounded bulk is.
-/
namespace Go.Proofs.Ytgobegpmojkhaaa
open Go.ChangeShapes Go.WideShapes Go.ChangeAt Go.RowKit Go.Deep Go.Joins
set_option linter.unusedVariables false

section
variable {H : Type}
theorem bulk_pos (d : DataW H) : 1 ≤ Rows.uptoBulk d := by
  cases d with
  | lit l => cases l <;> simp [Rows.uptoBulk]
  | _ => simp [Rows.uptoBulk]
theorem bulk_all : ∀ (l : List (DataW H)), l.length ≤ Rows.uptoBulkAll l
  | [] => by simp
  | d :: l => by
    have h1 := bulk_pos d
    have h2 := bulk_all l
    simp only [Rows.uptoBulkAll, List.length_cons]
    omega
theorem SlForm.small {d : DataW H} {len cap : Nat} (h : SlForm d len cap) : len ≤ Rows.uptoBulk d := by
  rcases h with ⟨_, rfl, _⟩ | ⟨es, sp, rfl, h1, h2⟩
  · omega
  · have := bulk_all es
    simp only [Rows.uptoBulk]
    omega
end
end Go.Proofs.Ytgobegpmojkhaaa

/-
  A list of records as an argument, opened.
-/
namespace Go.Proofs.Ytgobegpmojkhaaa
open Go.ChangeShapes Go.WideShapes Go.ChangeAt Go.RowKit Go.Deep Go.Joins
set_option linter.unusedVariables false

section
variable {H : Type} {enc : TypeId × Value → H} {W : World}

set_option maxRecDepth 40000 in
theorem recs_form {v : Value} {d : DataW H} {p : List MemPlace} {r : Reach} {b0 : Nat} (hv : Value.okWide Try.prog W r b0 44 v) (h : DataW.Trod enc Try.prog W 0 (fun _ => true) true 44 v d p) : ∃ a len cap, v = .slice a len cap ∧ SlForm d len cap ∧ len ≤ cap ∧ (a = none → cap = 0) := by
  obtain ⟨a, len, cap, f, h1, h2, h3, h4, _, _⟩ := @open_rows H enc Try.prog W (Rec × Value × Value) ⟨rcZ⟩ 44 28 14 v d p r b0 (fun m k => (rcF m).toList.getD k (.bool false)) (fun _ => True) (fun n cs y hy => by
    obtain ⟨m, rfl, _⟩ := elem_rec n cs y hy
    refine ⟨m, trivial, fun k hk => ?_⟩
    rw [List.getD_eq_getElem?_getD, List.getElem?_eq_getElem (by rw [Array.length_toList]; exact hk)]
    rfl) Try.underlying44 (by kernel_rfl) (by decide) hv h
  exact ⟨a, len, cap, h1, h2, h3, h4⟩
set_option maxRecDepth 40000 in
theorem op_recs_arg {v : Value} {d : DataW H} {p : List MemPlace} {r : Reach} {b0 : Nat} (hv : Value.okWide Try.prog W r b0 44 v) (h : DataW.Trod enc Try.prog W 0 (fun _ => true) true 44 v d p) :
    ∃ ms : List (Rec × Value × Value), RsIn W v ms ∧ ms.length ≤ maxLen ∧ ∀ a len cap, v = .slice a len cap → len ≤ cap := by
  obtain ⟨a, len, cap, rfl, _, hc, _⟩ := recs_form hv h
  obtain ⟨fuel, hf⟩ := h
  have hf2 : DataW.trod enc Try.prog W 0 (fun _ => true) true fuel 44 [.slice a len cap] = some (d, p) := hf
  obtain ⟨ms, h1, h2, h3⟩ := op_recs Try.underlying44 hf2
  refine ⟨ms, ⟨h1, h3⟩, h2, fun a' l' c' e => ?_⟩
  injection e with e1 e2 e3
  omega
set_option maxRecDepth 40000 in
/-- With a bound by the list's bulk. -/
theorem op_recs_few {v : Value} {d : DataW H} {p : List MemPlace} {r : Reach} {b0 N : Nat} (hv : Value.okWide Try.prog W r b0 44 v) (h : DataW.Trod enc Try.prog W 0 (fun _ => true) true 44 v d p) (hs : ∀ len cap, SlForm d len cap → len ≤ N) :
    ∃ ms : List (Rec × Value × Value), RsIn W v ms ∧ ms.length ≤ N ∧ ∀ a len cap, v = .slice a len cap → len ≤ cap ∧ (a = none → cap = 0) := by
  obtain ⟨a, len, cap, rfl, hsl, hc, hnl⟩ := recs_form hv h
  obtain ⟨fuel, hf⟩ := h
  have hf2 : DataW.trod enc Try.prog W 0 (fun _ => true) true fuel 44 [.slice a len cap] = some (d, p) := hf
  obtain ⟨ms, h1, h2, h3⟩ := op_recs Try.underlying44 hf2
  have hl : ms.length = len := by
    obtain ⟨a', c', e, _⟩ := h1
    injection e with e1 e2 e3
    exact e2.symm
  refine ⟨ms, ⟨h1, h3⟩, by rw [hl]; exact hs _ _ hsl, fun a' l' c' e => ?_⟩
  injection e with e1 e2 e3
  subst e1 e2 e3
  exact ⟨hc, hnl⟩
end
end Go.Proofs.Ytgobegpmojkhaaa

/-
  Lists put behind lists, by what the operation answers, inside a fence. Of no program.
-/
namespace Go.Proofs.Ytgobegpmojkhaaa
open Go.RowKit
set_option linter.unusedVariables false

theorem wpListIn_append_run {F : Fence} {n : Nat} {P : Program} {ops : Array Oper} {rest : List Oper} {o : Oper} {a : Act} {w w' : World} {Q : Exit → Act → World → Prop} (hw : Region.wanted o (yielded ops a.tmps) = true) (s x : Operand) (t : TypeId) (hop : o.op = Op.call { callee := Callee.builtin Builtin.append, args := #[s, x], argTypes := #[t, t] })
    (vs vx v' : Value) (hs : a.eval s = vs) (hx : a.eval x = vx) (hrun : (Builtin.append_ #[t, t] o.type #[vs, vx]).run P w = .ok v' w') (h : wpListIn F n P ops Q rest (a.put o.dst v') w') : wpListIn F n P ops Q (o :: rest) a w :=
  wpListIn_step fun K hK => by
    simp only [hw, if_true]
    unfold Oper.wpIn
    refine ⟨?_, ?_⟩
    · simp [Oper.about, hop, resolve, Target.leads, Sem.run_pure]
    · rw [Oper.semAt_plain F _ _ (by rw [hop]; intro c hc; cases hc)]
      simp [execOp, hop, resolve, invoke, builtin, hs, hx, hrun, Result.andThen]
      exact hK _ _ h

/-- A list that lies there, put behind the call's own one. -/
theorem run_append_rows {α : Type} (f : α → Array Value) (zz : α) (sz : Nat) (hf : ∀ x, (f x).size = sz) (hsz : 0 < sz) {P : Program} (w : World) (base : Nat) (t ty e : TypeId) (z : Array Value) (by' : Nat) (ht : P.underlying t = some (.slice e))
    (hi : (P.info? e).map (fun i => (i.zero, i.size, i.bytes)) = some (some (.agg z), sz, by')) (hzs : z.size = sz) (v : Value) (n : Nat) (xs : List Value) (hown : w.ownsRow base e sz v n xs)
    (vx : Value) (ms : List α) (hr : RowsIn f zz sz w vx ms) (hnil : ∀ a len cap, vx = .slice a len cap → a = none → cap = 0) (h1 : ∀ m ∈ ms, ∀ u ∈ (f m).toList, u.oneCell' = true) (hl : n + ms.length ≤ maxLen) (hb : (n + ms.length) * by' ≤ 140737488355328) (hbase : base ≤ w.heap.size) :
    ∃ v' w', (Builtin.append_ #[t, t] ty #[v, vx]).run P w = .ok v' w' ∧ w'.ownsRow base e sz v' (n + ms.length) (xs ++ ms.flatMap fun m => (f m).toList) ∧ w.grownBy w' v.ownBlock := by
  obtain ⟨i, hi0, hi1⟩ := Option.map_eq_some_iff.1 hi
  simp only [Prod.mk.injEq] at hi1
  obtain ⟨a, cap, rfl, hc⟩ := hr
  have hlen : (ms.flatMap fun m => (f m).toList).length = ms.length * sz := by
    clear hc h1 hl hb hnil
    induction ms with
    | nil => simp
    | cons m ms ih => rw [List.flatMap_cons, List.length_append, ih, Array.length_toList, hf, List.length_cons, Nat.add_mul, Nat.one_mul, Nat.add_comm]
  cases a with
  | none =>
    obtain rfl := hnil _ _ _ rfl rfl
    have hm : ms = [] := by
      rcases ms with _ | ⟨m, ms⟩
      · rfl
      · obtain ⟨b, off, h, _⟩ := hc (by simp)
        cases h
    subst hm
    exact ⟨v, w, run_append_owned_none (P := P) w base t ty e i sz ht hi0 v n xs hown, by simpa using hown, ⟨rfl, rfl, rfl, Nat.le_refl _, fun _ _ _ => rfl⟩⟩
  | some ad =>
    obtain ⟨v', w', q1, q2, q3, _⟩ := run_append_own (P := P) w base t ty e i (.agg z) sz by' ht hi0 hi1.1 hi1.2.1 hi1.2.2 hzs hsz v n xs hown ad ms.length cap (ms.flatMap fun m => (f m).toList) hlen (fun j u hu => by
      have hj : j < ms.length * sz := by
        have := (List.getElem?_eq_some_iff.1 hu).1
        rwa [hlen] at this
      have hp : 0 < ms.length := by
        rcases Nat.eq_zero_or_pos ms.length with h | h
        · rw [h] at hj; omega
        · exact h
      obtain ⟨b, off, h2, _, h3⟩ := hc hp
      cases h2
      have hq : j / sz < ms.length := Nat.div_lt_of_lt_mul (by rw [Nat.mul_comm]; exact hj)
      have hr2 : j % sz < sz := Nat.mod_lt _ hsz
      have hjj : j / sz * sz + j % sz = j := by rw [Nat.mul_comm]; exact Nat.div_add_mod j sz
      have h4 := flat_get f sz hf zz ms (j / sz) (j % sz) hq hr2
      rw [hjj, hu] at h4
      have h5 := h3 (j / sz) hq (j % sz) u h4.symm
      rw [Addr.add_lit]
      rw [Nat.add_assoc, hjj] at h5
      exact h5) (fun u hu => by
      obtain ⟨m, hm, hu2⟩ := List.mem_flatMap.1 hu
      exact h1 m hm u hu2) hl hb hbase
    exact ⟨v', w', q1, q2, q3⟩

/-- Bytes put behind bytes whose row is full. -/
theorem run_append_full {P : Program} (w : World) (t ty e : TypeId) (ht : P.underlying t = some (.slice e)) (hi : (P.info? e).map (fun i => (i.zero, i.size, i.bytes)) = some (some (.int .u8 0), 1, 1))
    (ao : Option Addr) (lo : Nat) (xs : List UInt8) (hB : IsB w ao lo xs) (ay : Option Addr) (m c : Nat) (ys : List UInt8) (hY : IsB w ay m ys) (hn : m = 0 → ay = none ∧ c = 0) (hz : lo + m ≤ 140737488355328) :
    ∃ a' c' w', (Builtin.append_ #[t, t] ty #[.slice ao lo lo, .slice ay m c]).run P w = .ok (.slice a' (lo + m) c') w' ∧ IsB w' a' (lo + m) (xs ++ ys) ∧ lo + m ≤ c' ∧ Below w.heap.size w w' := by
  obtain ⟨i, hi0, hi1⟩ := Option.map_eq_some_iff.1 hi
  simp only [Prod.mk.injEq] at hi1
  rcases Nat.eq_zero_or_pos m with rfl | hm
  · obtain ⟨rfl, rfl⟩ := hn rfl
    obtain rfl : ys = [] := List.eq_nil_of_length_eq_zero hY.1
    refine ⟨ao, lo, w, ?_, by simpa using hB, Nat.le_refl _, Below.refl _ _⟩
    cases ao with
    | none =>
      have h0 : lo = 0 := by
        rcases Nat.eq_zero_or_pos lo with h | h
        · exact h
        · obtain ⟨b, off, hb, _⟩ := hB.2 h
          cases hb
      subst h0
      simp [Builtin.append_, run_underlying ht, sizeOf, typeInfo, hi0, Builtin.lenOf, Builtin.firstCells]
    | some b => simp [Builtin.append_, run_underlying ht, sizeOf, typeInfo, hi0, Builtin.lenOf, Builtin.firstCells, storeCells]
  · obtain ⟨b2, off2, rfl, _, _⟩ := hY.2 hm
    have fin : ∀ v' w', w'.ownsRow w.heap.size e 1 v' (lo + m) (toV xs ++ toV ys) → w.grownBy w' none → ∃ a' c', v' = .slice a' (lo + m) c' ∧ IsB w' a' (lo + m) (xs ++ ys) ∧ lo + m ≤ c' ∧ Below w.heap.size w w' := fun v' w' h1 h2 => by
      rw [← toV_append] at h1
      obtain ⟨a', c', rfl, hc, hB'⟩ := shape_isB h1
      exact ⟨a', c', rfl, hB', hc, ⟨h2.os, h2.tape, h2.output, h2.size, fun k hk => h2.block k hk (by simp)⟩⟩
    cases ao with
    | some b =>
      obtain ⟨b', off', hb', _, _⟩ | h0 : (∃ b' off', b = (⟨b', off', none⟩ : Addr) ∧ True ∧ True) ∨ lo = 0 := by
        rcases Nat.eq_zero_or_pos lo with h | h
        · exact .inr h
        · obtain ⟨b', off', hb', _⟩ := hB.2 h
          exact .inl ⟨b', off', by injection hb', trivial, trivial⟩
      · subst hb'
        obtain ⟨v', w', hrun, r1, r2⟩ := run_append_arg_grows (P := P) w t ty e i (.int .u8 0) 1 1 ht hi0 hi1.1 hi1.2.1 hi1.2.2 rfl (by omega) ⟨b', off', none⟩ lo lo (toV xs) (by rw [toV_length, hB.1, Nat.mul_one]) (isB_cells hB) ⟨b2, off2, none⟩ m c (toV ys) (by rw [toV_length, hY.1, Nat.mul_one]) (isB_cells hY) (by omega) (by unfold maxLen; omega) (by omega)
        obtain ⟨a', c', rfl, h3⟩ := fin v' w' r1 r2
        exact ⟨a', c', w', hrun, h3⟩
      · subst h0
        obtain rfl : xs = [] := List.eq_nil_of_length_eq_zero hB.1
        obtain ⟨v', w', hrun, r1, r2⟩ := run_append_arg_grows (P := P) w t ty e i (.int .u8 0) 1 1 ht hi0 hi1.1 hi1.2.1 hi1.2.2 rfl (by omega) b 0 0 (toV []) (by simp [toV]) (fun j u hu => by simp [toV] at hu) ⟨b2, off2, none⟩ m c (toV ys) (by rw [toV_length, hY.1, Nat.mul_one]) (isB_cells hY) (by omega) (by unfold maxLen; omega) (by omega)
        obtain ⟨a', c', rfl, h3⟩ := fin v' w' r1 r2
        exact ⟨a', c', w', hrun, h3⟩
    | none =>
      have h0 : lo = 0 := by
        rcases Nat.eq_zero_or_pos lo with h | h
        · exact h
        · obtain ⟨b, off, hb, _⟩ := hB.2 h
          cases hb
      subst h0
      obtain rfl : xs = [] := List.eq_nil_of_length_eq_zero hB.1
      obtain ⟨v', w', hrun, r1, r2, _⟩ := run_append_own (P := P) w w.heap.size t ty e i (.int .u8 0) 1 1 ht hi0 hi1.1 hi1.2.1 hi1.2.2 rfl (by omega) (.slice none 0 0) 0 [] (World.ownsRow_nil _ _ _ _) ⟨b2, off2, none⟩ m c (toV ys) (by rw [toV_length, hY.1, Nat.mul_one]) (isB_cells hY) (toV_one ys) (by unfold maxLen; omega) (by omega) (Nat.le_refl _)
      obtain ⟨a', c', rfl, h3⟩ := fin v' w' (by simpa [toV] using r1) r2
      exact ⟨a', c', w', hrun, h3⟩
end Go.Proofs.Ytgobegpmojkhaaa
