/-
  The walk of OwnerOne: it returns true, and turns nothing that was there.
-/
import Derived.Test.YtpbdachbefafiaaOwFacts2
import Derived.Test.YtpbdachbefafiaaOwScr
import Derived.Test.YtpbdachbefafiaaListHand
import Derived.Test.YtpbdachbefafiaaQuietIn
namespace Go.Proofs.Ytpbdachbefafiaa.ownerOne
open Go.RowKit
set_option linter.unusedVariables false

def z32 : Array Value := #[.int .i64 0, .int .i64 0, .int .i64 0, .int .i64 0, .int .i64 0, .int .i64 0, .int .i64 0, .int .i64 0, .int .i64 0, .int .i64 0, .int .i64 0, .int .i64 0, .int .i64 0, .int .i64 0, .int .i64 0, .int .i64 0, .int .i64 0, .int .i64 0, .int .i64 0, .int .i64 0, .int .i64 0, .int .i64 0, .int .i64 0, .int .i64 0, .int .i64 0, .int .i64 0, .int .i64 0, .int .i64 0, .int .i64 0, .int .i64 0, .int .i64 0, .int .i64 0]
theorem cnt_new (w : World) (t : TypeId) : Cnt (w.alloc (.cells z32 t)) w.heap.size t (fun _ => False) := ⟨z32, RowAt.new w t z32, rfl, fun j hj => ⟨fun q => q.elim, fun _ => by
  rw [show z32 = Array.replicate 32 (.int .i64 0) from rfl, Array.getElem?_replicate, if_pos hj]⟩⟩
theorem load_num {y : World} {b o : Nat} {m : Int} (h : y.cell? ⟨b, o, none⟩ = some (.int .i64 m)) : (Instr.loadAt 3 (.pointer (some ⟨b, o, none⟩))).run Try.prog y = .ok (.int .i64 m) y := by go_simp
/-- What the walk keeps: the directory, and the row of counts. -/
structure O14 (w0 w : World) (g gr gc : Nat) (d : Dr) (P : Nat → Prop) : Prop where
  dir : K14 w0 w g gr d
  cnt : Cnt w gc 33 P
  new : w0.heap.size ≤ gc
section
variable {w0 w x : World} {g gr gc : Nat} {d : Dr} {P Q : Nat → Prop} {B : Nat} {v : Value} {l : List Int}
theorem O14.later (h : O14 w0 w g gr gc d P) (q : Below w.heap.size w x) : O14 w0 x g gr gc d P := ⟨h.dir.later q, h.cnt.later q, h.new⟩
theorem O14.same (h : O14 w0 w g gr gc d P) (e : ∀ j, P j ↔ Q j) : O14 w0 w g gr gc d Q := ⟨h.dir, h.cnt.same e, h.new⟩
theorem O14.put (h : O14 w0 w g gr gc d P) {p : Nat} (hp : p < 32) (h1 : Q p) (h2 : ∀ q, q ≠ p → (Q q ↔ P q)) : O14 w0 (w.setCell ⟨gc, p, none⟩ (.int .i64 1)) g gr gc d Q := by
  obtain ⟨_, _, r1, r2⟩ := h.dir.at_.kinds
  obtain ⟨_, r3⟩ := h.cnt.row
  have n1 : g ≠ gc := fun e => by subst e; exact absurd (row_kind r1 r3) (by decide)
  have n3 : gr ≠ gc := fun e => by subst e; exact absurd (row_kind r2 r3) (by decide)
  have t1 : Tn (Is gc) w (w.setCell ⟨gc, p, none⟩ (.int .i64 1)) := (Tn.refl _ _).set gc _ _ rfl
  exact ⟨⟨h.dir.at_.turn t1 n1 n3, h.dir.new, h.dir.bel.setCell h.new _, h.dir.ok⟩, h.cnt.put hp h1 h2, h.new⟩
/-- The same, with a list. -/
structure V14 (w0 w : World) (g gr gc : Nat) (d : Dr) (P : Nat → Prop) (B : Nat) (v : Value) (l : List Int) : Prop where
  o : O14 w0 w g gr gc d P
  own : OwnI B w v l
  low : gc < B
theorem V14.later (h : V14 w0 w g gr gc d P B v l) (q : Below w.heap.size w x) : V14 w0 x g gr gc d P B v l := ⟨h.o.later q, h.own.later q, h.low⟩
theorem V14.put (h : V14 w0 w g gr gc d P B v l) {p : Nat} (hp : p < 32) (h1 : Q p) (h2 : ∀ q, q ≠ p → (Q q ↔ P q)) : V14 w0 (w.setCell ⟨gc, p, none⟩ (.int .i64 1)) g gr gc d Q B v l :=
  ⟨h.o.put hp h1 h2, h.own.turn ((Tn.refl (Is gc) w).set gc _ _ rfl) (fun k hk => by rw [show k = gc from hk]; exact h.low), h.low⟩
end
set_option maxRecDepth 8000 in
set_option maxHeartbeats 12800000 in
theorem walk (pg : Int) (v : Value) (cs : List Od) (w : World) (hpg : (Lit.int .i64 pg).wf = true) (h1 : RowsIn odA Od.zero 4 w v cs) (h2 : cs.length ≤ maxLen) (h3 : ∀ c ∈ cs, c.fits) (h4 : ∀ a len cap, v = .slice a len cap → len ≤ cap) :
    Calls Try.prog 4 #[.int .i64 pg, v] w fun e w' => e = .returned (.bool true) ∧ Below w.heap.size w w' := by
  have h' := h1
  obtain ⟨a, cap, rfl, -⟩ := h'
  have hs : Scr14 w (.slice a cs.length cap) cs := ⟨h1, h3, h4⟩
  have hcap := h4 _ _ _ rfl
  obtain ⟨ln, hln⟩ : ∃ ln, cs.length = ln := ⟨_, rfl⟩
  rw [hln] at hs h2 hcap ⊢
  have HS := hide hs
  have HLN := hide hln
  clear h1 h3 h4 hs hln hpg
  go_enter Try.func4, Try.ntmps4
  go_wp2_with fail
  refine (awake14 _).mono ?_
  rintro e w1 ⟨rfl, hb1⟩
  by_cases hl : 1000 < ln
  · have hl2 : (1000 : Int) < (ln : Int) := by omega
    go_wp2_with fail
    refine (awake14 _).mono ?_
    rintro e w2 ⟨rfl, hb2⟩
    go_wp2
    go_ret
    exact ⟨rfl, hb1.trans (hb2.mono hb1.size)⟩
  have hl2 : ¬ (1000 : Int) < (ln : Int) := by omega
  have HB1 := hide hb1
  clear hb1
  go_wp2_with fail
  refine (knew14 HB1.out pg).mono ?_
  rintro e w2 ⟨g, gr, rfl, hK⟩
  have HK := hide (show K14 w w2 g gr (playD pg (cs.take 0)) from hK)
  clear hK HB1
  go_wp2
  go_loopw [31] (fun q wr => ∃ j : Nat, j ≤ ln ∧ q = .int .i64 j ∧ Hid (K14 w wr g gr (playD pg (cs.take j)))) (fun q _ => ln - (intOf q).toNat)
  case atStart => exact ⟨0, Nat.zero_le _, rfl, HK⟩
  case round =>
    obtain ⟨j, hj, rfl, HR⟩ := hrel
    by_cases hlt : j < ln
    · have i1 : (j : Int) < (ln : Int) := by omega
      obtain ⟨b, off, rfl, -, c, hc, hld, -, hfit⟩ := HS.out.at HR.out.bel (j := j) (by rw [HLN.out]; exact hlt)
      have HST := hide (playD_snoc pg cs j c hc)
      have HLD := hide hld
      clear hld hc hfit
      go_wp2_with (with_reducible refine stop_at 38 rfl ?_)
      refine unstop10 ?_
      refine lst_load (some 38) (.agg (odA c)) rfl rfl 30 (.tmp 37) rfl _ rfl HLD.out ?_
      simp only [Act.put, Array.setIfInBounds, List.size_toArray, List.length_cons, List.length_nil, Nat.reduceAdd, Nat.reduceLT, ↓reduceDIte, List.set_toArray, List.set_cons_succ, List.set_cons_zero]
      clear HLD
      go_wp2_with fail
      refine (play14 HR.out c).mono ?_
      rintro e w4 ⟨rfl, hq⟩
      rw [← HST.out] at hq
      have HQ := hide hq
      clear hq HR HST
      go_wp2
      go_roundw
      case rel => exact ⟨j + 1, by omega, by go_num, HQ⟩
      case measure => simp [intOf]; omega
    · have i1 : ¬ (j : Int) < (ln : Int) := by omega
      generalize playD pg (cs.take j) = D at *
      clear HS HLN HK
      go_wp2_with (with_reducible refine stop_at 7 rfl ?_)
      refine unstop10 ?_
      refine lst_run (some 7) rfl rfl (.pointer (some ⟨wr.heap.size, 0, none⟩)) (wr.alloc (.cells z32 33)) (by go_simp; rfl) ?_
      simp only [Act.put, Array.setIfInBounds, List.size_toArray, List.length_cons, List.length_nil, Nat.reduceAdd, Nat.reduceLT, ↓reduceDIte, List.set_toArray, List.set_cons_succ, List.set_cons_zero]
      have hb2 : Below wr.heap.size wr (wr.alloc (.cells z32 33)) := (Below.refl _ _).alloc (Nat.le_refl _) _
      have HOK := hide HR.out.ok
      have h32 := HR.out.ok.few
      have HF := hide (show O14 w (wr.alloc (.cells z32 33)) g gr wr.heap.size D (D.lst ((0 : Nat) : Int) 1 0) from O14.same ⟨HR.out.later hb2, cnt_new wr _, HR.out.bel.size⟩ (fun j => ⟨fun q => q.elim, fun q => D.lst_start HOK.out j q⟩))
      clear hb2 HR
      generalize wr.alloc (.cells z32 33) = w4 at *
      generalize wr.heap.size = gc at *
      go_wp2
      go_loopw [8] (fun q wr => ∃ n : Nat, n ≤ 8 ∧ q = .int .i64 n ∧ Hid (O14 w wr g gr gc D (D.lst (n : Int) 1 0))) (fun q _ => 8 - (intOf q).toNat)
      case atStart => exact ⟨0, Nat.zero_le _, rfl, HF⟩
      case round =>
        obtain ⟨n, hn, rfl, HR⟩ := hrel
        by_cases hlt2 : n < 8
        · have i2 : (n : Int) < 8 := by omega
          go_wp2
          go_loopw [9] (fun q wr => ∃ k : Nat, 1 ≤ k ∧ k ≤ 4 ∧ q = .int .i64 k ∧ Hid (O14 w wr g gr gc D (D.lst (n : Int) (k : Int) 0))) (fun q _ => 4 - (intOf q).toNat)
          case atStart => exact ⟨1, by omega, by omega, rfl, HR⟩
          case round =>
            obtain ⟨k, hk1, hk4, rfl, HI⟩ := hrel
            by_cases hlt3 : k < 4
            · have i3 : (k : Int) ≤ 3 := by omega
              have hk0 : ¬ (k : Int) = 0 := by omega
              have T := kof14 HI.out.dir (n : Int) (k : Int)
              have hof : D.of (n : Int) (k : Int) = D.ofTo (n : Int) (k : Int) D.n := by unfold Dr.of; rw [if_neg hk0]
              rw [hof] at T
              have HT := hide T
              clear T hof
              go_wp2_with fail
              refine HT.out.mono ?_
              rintro e w5 ⟨v5, rfl, hO, -, hb5⟩
              obtain ⟨_, r3⟩ := HI.out.cnt.row
              have HLL := hide (show V14 w w5 g gr gc D (D.lst (n : Int) (k : Int) 0) wr.heap.size v5 (D.ofTo (n : Int) (k : Int) D.n) from ⟨HI.out.later hb5, hO, r3.lt⟩)
              obtain ⟨a5, c5, rfl, hc5, ha5⟩ := hO.shape
              have HA5 := hide ha5
              have hl32 : (D.ofTo (n : Int) (k : Int) D.n).length ≤ 32 := by
                have := D.ofTo_len (n : Int) (k : Int) D.n
                omega
              clear hO hb5 ha5 HT HI r3
              generalize wr.heap.size = Bz at *
              obtain ⟨lo, hlo⟩ : ∃ lo, D.ofTo (n : Int) (k : Int) D.n = lo := ⟨_, rfl⟩
              have HLO := hide hlo
              rw [hlo] at HLL hc5 hl32 HA5 ⊢
              clear hlo
              obtain ⟨lz, hlz⟩ : ∃ lz, lo.length = lz := ⟨_, rfl⟩
              have HLZ := hide hlz
              rw [hlz] at HLL hc5 hl32 HA5 ⊢
              clear hlz
              go_wp2
              go_loopw [55] (fun q wr => ∃ i : Nat, i ≤ lz ∧ q = .int .i64 i ∧ Hid (V14 w wr g gr gc D (D.lst (n : Int) (k : Int) i) Bz (.slice a5 lz c5) lo)) (fun q _ => lz - (intOf q).toNat)
              case atStart => exact ⟨0, Nat.zero_le _, rfl, HLL⟩
              case round =>
                obtain ⟨i, hi, rfl, HV⟩ := hrel
                by_cases hlt4 : i < lz
                · have i4 : (i : Int) < lz := by omega
                  obtain ⟨p, hp, hg, hpi⟩ := D.ofTo_get (n : Int) (k : Int) D.n i (by rw [HLO.out, HLZ.out]; exact hlt4)
                  have hp32 : p < 32 := by omega
                  obtain ⟨x1, x2, x3⟩ := D.lst_one (n : Int) (k : Int) hk0 hp hg hpi
                  obtain ⟨b5, rfl, -⟩ := HA5.out (by omega)
                  have HCL := hide (show ∀ (y : World) (P : Nat → Prop) (q j : Nat), q < D.n → D.is q (k : Int) (n : Int) → (D.ofTo (n : Int) (k : Int) q).length = j → V14 w y g gr gc D P Bz (.slice (some ⟨b5, 0, none⟩) lz c5) lo → y.cell? ⟨b5, j, none⟩ = some (.int .i64 (q : Int)) from fun y P q j hq hgq hqj hy => by
                    have z := hy.own
                    rw [← HLZ.out] at z
                    have z2 := z.cell (j := j) (by rw [← HLO.out, ← hqj]; exact D.ofTo_lt (n : Int) (k : Int) hq hgq)
                    rw [z2, ← HLO.out, ← hqj, D.ofTo_at (n : Int) (k : Int) D.n hq hgq])
                  have HP := hide (And.intro hp (And.intro hg hpi))
                  have HX := hide (And.intro x1 (And.intro x2 x3))
                  have c0 := HCL.out wr _ p i hp hg hpi HV.out
                  have e1 : decide ((p : Int) < 0) = false := by simp
                  have e2 : decide ((32 : Int) ≤ (p : Int)) = false := by simp; omega
                  have e3 : ¬ (p : Int) < 0 := by omega
                  have e4 : ¬ (32 : Int) ≤ (p : Int) := by omega
                  have i5 : (p : Int) < 32 := by omega
                  clear x1 x2 x3 hg hpi
                  go_wp2_with fail
                  by_cases hi0 : i = 0
                  · have i6 : ¬ (0 : Int) < (i : Int) := by omega
                    have i7 : decide ((0 : Int) < (i : Int)) = false := by simpa using i6
                    have i8 : ¬ 0 < i := by omega
                    clear hi0
                    refine wp_region_in (fun y => V14 w y g gr gc D (D.lst (n : Int) (k : Int) i) Bz (.slice (some ⟨b5, 0, none⟩) lz c5) lo) (by kernel_rfl) (by kernel_rfl) (HV.out.later ((Below.refl _ _).drew)) ?_
                    refine wpQuiet_plain rfl (fun K hK => ?_); go_simp; refine hK _ ?_; clear hK K
                    refine wpQuiet_plain rfl (fun K hK => ?_); go_simp; refine hK _ ?_; clear hK K
                    refine wpQuiet_plain rfl (fun K hK => ?_); go_simp; refine hK _ ?_; clear hK K
                    refine wpQuiet_load rfl 3 (.tmp 60) rfl _ (.int .i64 (p : Int)) rfl (fun y hy => load_num (HCL.out y _ p i HP.out.1 HP.out.2.1 HP.out.2.2 hy)) ?_; simp only [Act.put, Array.setIfInBounds, List.size_toArray, List.length_cons, List.length_nil, Nat.reduceAdd, Nat.reduceLT, ↓reduceDIte, List.set_toArray, List.set_cons_succ, List.set_cons_zero]
                    refine wpQuiet_plain rfl (fun K hK => ?_); go_simp; refine hK _ ?_; clear hK K
                    refine wpQuiet_plain rfl (fun K hK => ?_); go_simp; refine hK _ ?_; clear hK K
                    refine wpQuiet_plain rfl (fun K hK => ?_); go_simp; refine hK _ ?_; clear hK K
                    refine wpQuiet_plain rfl (fun K hK => ?_); go_simp; refine hK _ ?_; clear hK K
                    refine wpQuiet_plain rfl (fun K hK => ?_); go_simp; refine hK _ ?_; clear hK K
                    refine wpQuiet_load rfl 3 (.tmp 66) rfl _ (.int .i64 (p : Int)) rfl (fun y hy => load_num (HCL.out y _ p i HP.out.1 HP.out.2.1 HP.out.2.2 hy)) ?_; simp only [Act.put, Array.setIfInBounds, List.size_toArray, List.length_cons, List.length_nil, Nat.reduceAdd, Nat.reduceLT, ↓reduceDIte, List.set_toArray, List.set_cons_succ, List.set_cons_zero]
                    refine wpQuiet_plain rfl (fun K hK => ?_); go_simp; refine hK _ ?_; clear hK K
                    refine wpQuiet_plain rfl (fun K hK => ?_); go_simp; refine hK _ ?_; clear hK K
                    refine wpQuiet_plain rfl (fun K hK => ?_); go_simp; refine hK _ ?_; clear hK K
                    refine wpQuiet_plain rfl (fun K hK => ?_); go_simp; refine hK _ ?_; clear hK K
                    refine wpQuiet_plain rfl (fun K hK => ?_); go_simp; refine hK _ ?_; clear hK K
                    refine wpQuiet_plain rfl (fun K hK => ?_); go_simp; refine hK _ ?_; clear hK K
                    go_big_quiet_skip
                    go_big_quiet_skip
                    go_big_quiet_skip
                    go_big_quiet_skip
                    go_big_quiet_skip
                    go_big_quiet_skip
                    go_big_quiet_skip
                    go_big_quiet_skip
                    go_big_quiet_skip
                    go_big_quiet_skip
                    refine wpQuiet_plain rfl (fun K hK => ?_); go_simp; refine hK _ ?_; clear hK K
                    refine wpQuiet_plain rfl (fun K hK => ?_); go_simp; refine hK _ ?_; clear hK K
                    refine wpQuiet_nil ?_
                    intro y hy
                    have HV2 := hide hy
                    have c1 := HV2.out.o.cnt.cell0 hp32 HX.out.1
                    have c0 := HCL.out _ _ p i HP.out.1 HP.out.2.1 HP.out.2.2 HV2.out
                    obtain ⟨_, r3⟩ := HV2.out.o.cnt.row
                    have f1 := r3.free p
                    have HV3 := hide (HV2.out.put hp32 HX.out.2.1 HX.out.2.2)
                    have c3 := HCL.out _ _ p i HP.out.1 HP.out.2.1 HP.out.2.2 HV3.out
                    have T := kwhere14 HV3.out.o.dir (p : Int)
                    rw [D.wh_at HP.out.1, HP.out.2.1.1, HP.out.2.1.2] at T
                    have HT := hide T
                    clear T hy HV r3
                    go_wp2_with fail
                    refine HT.out.mono ?_
                    rintro e w6 ⟨rfl, -, hb6⟩
                    have HV6 := hide (HV3.out.later hb6)
                    have s1 : ((k : Int) != (k : Int)) = false := by simp
                    have s2 : ((n : Int) != (n : Int)) = false := by simp
                    clear hb6 HT HV3 HV2 c0 c1 c3 f1
                    go_wp2
                    go_roundw
                    case rel => exact ⟨i + 1, by omega, by go_num, HV6⟩
                    case measure => simp [intOf]; omega
                  · have i6 : (0 : Int) < (i : Int) := by omega
                    have i7 : decide ((0 : Int) < (i : Int)) = true := by simpa using i6
                    have i8 : 0 < i := by omega
                    obtain ⟨i2, hi2⟩ : ∃ i2, i = i2 + 1 := ⟨i - 1, by omega⟩
                    obtain ⟨p2, hp2, hg2, hpi2⟩ := D.ofTo_get (n : Int) (k : Int) D.n i2 (by rw [HLO.out, HLZ.out]; omega)
                    have HP2 := hide (And.intro hp2 (And.intro hg2 hpi2))
                    have hpp : p2 < p := by
                      refine Classical.byContradiction fun q => ?_
                      have := D.ofTo_mono (n : Int) (k : Int) (show p ≤ p2 by omega)
                      have e := HP.out.2.2
                      omega
                    have s3 : decide ((p : Int) ≤ (p2 : Int)) = false := by simp; omega
                    have s4 : ¬ (p : Int) ≤ (p2 : Int) := by omega
                    have hw1 : IntKind.i64.wrap ((i : Int) - 1) = (i2 : Int) := by rw [IntKind.wrap_i64]; omega
                    have hw2 : wrap64 ((i : Int) - 1) = (i2 : Int) := by unfold wrap64; omega
                    have j4 : (i2 : Int) < lz := by omega
                    clear hi2 hg2 hpi2 hp2
                    refine wp_region_in (fun y => V14 w y g gr gc D (D.lst (n : Int) (k : Int) i) Bz (.slice (some ⟨b5, 0, none⟩) lz c5) lo) (by kernel_rfl) (by kernel_rfl) (HV.out.later ((Below.refl _ _).drew)) ?_
                    refine wpQuiet_plain rfl (fun K hK => ?_); go_simp; refine hK _ ?_; clear hK K
                    refine wpQuiet_plain rfl (fun K hK => ?_); go_simp; refine hK _ ?_; clear hK K
                    refine wpQuiet_plain rfl (fun K hK => ?_); go_simp; refine hK _ ?_; clear hK K
                    refine wpQuiet_load rfl 3 (.tmp 60) rfl _ (.int .i64 (p : Int)) rfl (fun y hy => load_num (HCL.out y _ p i HP.out.1 HP.out.2.1 HP.out.2.2 hy)) ?_; simp only [Act.put, Array.setIfInBounds, List.size_toArray, List.length_cons, List.length_nil, Nat.reduceAdd, Nat.reduceLT, ↓reduceDIte, List.set_toArray, List.set_cons_succ, List.set_cons_zero]
                    refine wpQuiet_plain rfl (fun K hK => ?_); go_simp; refine hK _ ?_; clear hK K
                    refine wpQuiet_plain rfl (fun K hK => ?_); go_simp; refine hK _ ?_; clear hK K
                    refine wpQuiet_plain rfl (fun K hK => ?_); go_simp; refine hK _ ?_; clear hK K
                    refine wpQuiet_plain rfl (fun K hK => ?_); go_simp; refine hK _ ?_; clear hK K
                    refine wpQuiet_plain rfl (fun K hK => ?_); go_simp; refine hK _ ?_; clear hK K
                    refine wpQuiet_load rfl 3 (.tmp 66) rfl _ (.int .i64 (p : Int)) rfl (fun y hy => load_num (HCL.out y _ p i HP.out.1 HP.out.2.1 HP.out.2.2 hy)) ?_; simp only [Act.put, Array.setIfInBounds, List.size_toArray, List.length_cons, List.length_nil, Nat.reduceAdd, Nat.reduceLT, ↓reduceDIte, List.set_toArray, List.set_cons_succ, List.set_cons_zero]
                    refine wpQuiet_plain rfl (fun K hK => ?_); go_simp; refine hK _ ?_; clear hK K
                    refine wpQuiet_plain rfl (fun K hK => ?_); go_simp; refine hK _ ?_; clear hK K
                    refine wpQuiet_plain rfl (fun K hK => ?_); go_simp; refine hK _ ?_; clear hK K
                    refine wpQuiet_plain rfl (fun K hK => ?_); go_simp; refine hK _ ?_; clear hK K
                    refine wpQuiet_plain rfl (fun K hK => ?_); go_simp; refine hK _ ?_; clear hK K
                    refine wpQuiet_plain rfl (fun K hK => ?_); go_simp; refine hK _ ?_; clear hK K
                    refine wpQuiet_plain rfl (fun K hK => ?_); go_simp; refine hK _ ?_; clear hK K
                    refine wpQuiet_plain rfl (fun K hK => ?_); go_simp; refine hK _ ?_; clear hK K
                    refine wpQuiet_plain rfl (fun K hK => ?_); go_simp; refine hK _ ?_; clear hK K
                    refine wpQuiet_load rfl 3 (.tmp 76) rfl _ (.int .i64 (p : Int)) rfl (fun y hy => load_num (HCL.out y _ p i HP.out.1 HP.out.2.1 HP.out.2.2 hy)) ?_; simp only [Act.put, Array.setIfInBounds, List.size_toArray, List.length_cons, List.length_nil, Nat.reduceAdd, Nat.reduceLT, ↓reduceDIte, List.set_toArray, List.set_cons_succ, List.set_cons_zero]
                    refine wpQuiet_plain rfl (fun K hK => ?_); go_simp; refine hK _ ?_; clear hK K
                    refine wpQuiet_plain rfl (fun K hK => ?_); go_simp; refine hK _ ?_; clear hK K
                    refine wpQuiet_plain rfl (fun K hK => ?_); go_simp; refine hK _ ?_; clear hK K; (try simp only [hw1, hw2])
                    refine wpQuiet_plain rfl (fun K hK => ?_); go_simp; refine hK _ ?_; clear hK K
                    refine wpQuiet_load rfl 3 (.tmp 81) rfl _ (.int .i64 (p2 : Int)) rfl (fun y hy => load_num (HCL.out y _ p2 i2 HP2.out.1 HP2.out.2.1 HP2.out.2.2 hy)) ?_; simp only [Act.put, Array.setIfInBounds, List.size_toArray, List.length_cons, List.length_nil, Nat.reduceAdd, Nat.reduceLT, ↓reduceDIte, List.set_toArray, List.set_cons_succ, List.set_cons_zero]
                    refine wpQuiet_plain rfl (fun K hK => ?_); go_simp; refine hK _ ?_; clear hK K
                    refine wpQuiet_plain rfl (fun K hK => ?_); go_simp; refine hK _ ?_; clear hK K
                    refine wpQuiet_plain rfl (fun K hK => ?_); go_simp; refine hK _ ?_; clear hK K
                    refine wpQuiet_nil ?_
                    intro y hy
                    have HV2 := hide hy
                    have c1 := HV2.out.o.cnt.cell0 hp32 HX.out.1
                    have c0 := HCL.out _ _ p i HP.out.1 HP.out.2.1 HP.out.2.2 HV2.out
                    obtain ⟨_, r3⟩ := HV2.out.o.cnt.row
                    have f1 := r3.free p
                    have HV3 := hide (HV2.out.put hp32 HX.out.2.1 HX.out.2.2)
                    have c3 := HCL.out _ _ p i HP.out.1 HP.out.2.1 HP.out.2.2 HV3.out
                    have T := kwhere14 HV3.out.o.dir (p : Int)
                    rw [D.wh_at HP.out.1, HP.out.2.1.1, HP.out.2.1.2] at T
                    have HT := hide T
                    clear T hy HV r3
                    go_wp2_with fail
                    refine HT.out.mono ?_
                    rintro e w6 ⟨rfl, -, hb6⟩
                    have HV6 := hide (HV3.out.later hb6)
                    have s1 : ((k : Int) != (k : Int)) = false := by simp
                    have s2 : ((n : Int) != (n : Int)) = false := by simp
                    clear hb6 HT HV3 HV2 c0 c1 c3 f1
                    go_wp2
                    go_roundw
                    case rel => exact ⟨i + 1, by omega, by go_num, HV6⟩
                    case measure => simp [intOf]; omega
                · have i4 : ¬ (i : Int) < lz := by omega
                  have HE := hide (show O14 w wr g gr gc D (D.lst (n : Int) ((k + 1 : Nat) : Int) 0) from by
                    have e : i = (D.ofTo (n : Int) (k : Int) D.n).length := by rw [HLO.out, HLZ.out]; omega
                    have h := HV.out.o
                    rw [e] at h
                    exact h.same (fun j => D.lst_kind (n : Int) (k : Int) j))
                  clear HV HLL
                  go_wp2
                  go_roundw
                  case rel => exact ⟨k + 1, by omega, by omega, by go_num, HE⟩
                  case measure => simp [intOf]; omega
            · have i3 : ¬ (k : Int) ≤ 3 := by omega
              have HE := hide (show O14 w wr g gr gc D (D.lst ((n + 1 : Nat) : Int) 1 0) from by
                have e : (k : Int) = 4 := by omega
                have h := HI.out
                rw [e] at h
                exact h.same (fun j => D.lst_node (n : Int) HOK.out j))
              clear HI
              go_wp2
              go_roundw
              case rel => exact ⟨n + 1, by omega, by go_num, HE⟩
              case measure => simp [intOf]; omega
        · have i2 : ¬ (n : Int) < 8 := by omega
          have HE := hide (show O14 w wr g gr gc D (fun j => j < D.n ∧ ¬ (D.sp j).k = 0) from by
            have e : (n : Int) = 8 := by omega
            have h := HR.out
            rw [e] at h
            exact h.same (fun j => D.lst_end HOK.out j))
          clear HR HF
          go_wp2
          go_loopw [112] (fun q wr => ∃ i : Nat, i ≤ 32 ∧ q = .int .i64 i ∧ Hid (O14 w wr g gr gc D (fun j => j < D.n ∧ ¬ (D.sp j).k = 0))) (fun q _ => 32 - (intOf q).toNat)
          case atStart => exact ⟨0, Nat.zero_le _, rfl, HE⟩
          case round =>
            obtain ⟨i, hi, rfl, HI⟩ := hrel
            by_cases hlt3 : i < 32
            · have i3 : (i : Int) < 32 := by omega
              have T := kwhere14 HI.out.dir (i : Int)
              by_cases hz : i < D.n ∧ ¬ (D.sp i).k = 0
              · rw [D.wh_at hz.1] at T
                have HT := hide T
                have e1 : ((D.sp i).k == 0) = false := by rw [beq_eq_false_iff_ne]; exact hz.2
                have HZ := hide hz
                clear T
                go_wp2_with fail
                refine HT.out.mono ?_
                rintro e w6 ⟨rfl, -, hb6⟩
                have HL6 := hide (HI.out.later hb6)
                have d1 := HL6.out.cnt.cell1 hlt3 HZ.out
                clear hb6 HT HI hz
                generalize (D.sp i).k = k1 at *
                generalize (D.sp i).m = m1 at *
                go_wp2
                go_roundw
                case rel => exact ⟨i + 1, by omega, by go_num, HL6⟩
                case measure => simp [intOf]; omega
              · have hh : D.wh (i : Int) = Sp.home := by
                  by_cases q : i < D.n
                  · have k0 : (D.sp i).k = 0 := Classical.byContradiction fun e => hz ⟨q, e⟩
                    have m0 := HOK.out.home i k0
                    rw [D.wh_at q]
                    have q2 : D.sp i = ⟨(D.sp i).k, (D.sp i).m⟩ := rfl
                    rw [q2, k0, m0]
                    rfl
                  · exact D.wh_out q
                rw [hh] at T
                have HT := hide (show Calls Try.prog 14 #[.pointer (some ⟨g, 0, none⟩), .int .i64 (i : Int)] wr fun e w' => e = .returned (.tuple #[.int .i64 0, .int .i64 0]) ∧ K14 w w' g gr D ∧ Below wr.heap.size wr w' from T)
                have HZ := hide hz
                clear T hh
                go_wp2_with fail
                refine HT.out.mono ?_
                rintro e w6 ⟨rfl, -, hb6⟩
                have HL6 := hide (HI.out.later hb6)
                have d1 := HL6.out.cnt.cell0 hlt3 HZ.out
                clear hb6 HT HI hz
                go_wp2
                go_roundw
                case rel => exact ⟨i + 1, by omega, by go_num, HL6⟩
                case measure => simp [intOf]; omega
            · have i3 : ¬ (i : Int) < 32 := by omega
              have HX := hide HI.out.dir.bel
              clear HI
              go_wp2
              go_ret
              exact ⟨rfl, HX.out⟩
end Go.Proofs.Ytpbdachbefafiaa.ownerOne
