/-
  The walk of OwnerFails: it returns true, and turns nothing that was there.
-/
import Derived.Test.YtpbdachbefafiaaOwFacts
import Derived.Test.YtpbdachbefafiaaOwScr
import Derived.Test.YtpbdachbefafiaaListHand
namespace Go.Proofs.Ytpbdachbefafiaa.ownerFails
open Go.RowKit
set_option linter.unusedVariables false

theorem rem_in (z m : Int) (h0 : 0 ≤ z) (h1 : z ≤ 255) (h2 : 0 < m) (h3 : m ≤ 255) : ∃ i : Nat, wrap64 (z.tmod m) = (i : Int) ∧ (i : Int) < m := by
  have e : z.tmod m = z % m := Int.tmod_eq_emod_of_nonneg h0
  have b0 := Int.emod_nonneg z (by omega : m ≠ 0)
  have b1 := Int.emod_lt_of_pos z h2
  rw [e]
  generalize z % m = r at *
  refine ⟨r.toNat, ?_, by omega⟩
  unfold wrap64
  omega
def z32 : Array Value := #[.int .i64 0, .int .i64 0, .int .i64 0, .int .i64 0, .int .i64 0, .int .i64 0, .int .i64 0, .int .i64 0, .int .i64 0, .int .i64 0, .int .i64 0, .int .i64 0, .int .i64 0, .int .i64 0, .int .i64 0, .int .i64 0, .int .i64 0, .int .i64 0, .int .i64 0, .int .i64 0, .int .i64 0, .int .i64 0, .int .i64 0, .int .i64 0, .int .i64 0, .int .i64 0, .int .i64 0, .int .i64 0, .int .i64 0, .int .i64 0, .int .i64 0, .int .i64 0]
/-- A row of 32 numbers, the first i of them known. -/
def Row32 (w : World) (g : Nat) (t : TypeId) (f : Nat → Int) (i : Nat) : Prop := ∃ cs, RowAt w g t cs ∧ cs.size = 32 ∧ ∀ j, j < i → cs[j]? = some (.int .i64 (f j))
theorem Row32.new (w : World) (t : TypeId) (f : Nat → Int) : Row32 (w.alloc (.cells z32 t)) w.heap.size t f 0 := ⟨z32, RowAt.new w t z32, rfl, fun j hj => absurd hj (Nat.not_lt_zero _)⟩
theorem Row32.later {w x : World} {g : Nat} {t : TypeId} {f : Nat → Int} {i : Nat} (h : Row32 w g t f i) (q : Below w.heap.size w x) : Row32 x g t f i := by
  obtain ⟨cs, a, b⟩ := h
  exact ⟨cs, a.later q, b⟩
theorem Row32.kind {w : World} {g : Nat} {t : TypeId} {f : Nat → Int} {i : Nat} (h : Row32 w g t f i) : ∃ cs, RowAt w g t cs := by
  obtain ⟨cs, a, b⟩ := h
  exact ⟨cs, a⟩
theorem Row32.turn {F : Nat → Prop} {w x : World} {g : Nat} {t : TypeId} {f : Nat → Int} {i : Nat} (h : Row32 w g t f i) (q : Tn F w x) (hF : ¬ F g) : Row32 x g t f i := by
  obtain ⟨cs, a, b⟩ := h
  exact ⟨cs, q.row a hF, b⟩
theorem Row32.put {w : World} {g : Nat} {t : TypeId} {f : Nat → Int} {i : Nat} (h : Row32 w g t f i) (hi : i < 32) : Row32 (w.setCell ⟨g, i, none⟩ (.int .i64 (f i))) g t f (i + 1) := by
  obtain ⟨cs, a, b, c⟩ := h
  refine ⟨_, a.set i _, by rw [Array.size_setIfInBounds]; exact b, fun j hj => ?_⟩
  by_cases e : j = i
  · rw [e, Array.getElem?_setIfInBounds_self_of_lt (by omega)]
  · rw [Array.getElem?_setIfInBounds_ne (by omega)]
    exact c j (by omega)
theorem Row32.old {w : World} {g : Nat} {t : TypeId} {f : Nat → Int} {i : Nat} (h : Row32 w g t f i) {j : Nat} (hj : j < 32) : (∃ v, w.cell? ⟨g, j, none⟩ = some v) ∧ w.frozen? ⟨g, j, none⟩ = false := by
  obtain ⟨cs, a, b, c⟩ := h
  exact ⟨⟨cs[j]'(by omega), a.cell j _ (Array.getElem?_eq_getElem (by omega))⟩, a.free j⟩
theorem Row32.cell {w : World} {g : Nat} {t : TypeId} {f : Nat → Int} {i : Nat} (h : Row32 w g t f i) {j : Nat} (hj : j < i) : w.cell? ⟨g, j, none⟩ = some (.int .i64 (f j)) := by
  obtain ⟨cs, a, b, c⟩ := h
  exact a.cell j _ (c j hj)
/-- What the walk keeps: the directory, and both rows. -/
structure F14 (w0 w : World) (g gr gw ga : Nat) (d D : Dr) (i : Nat) : Prop where
  dir : K14 w0 w g gr d
  was : Row32 w gw 39 (fun j => (D.sp j).k) i
  at_ : Row32 w ga 33 (fun j => (D.sp j).m) i
  new : w0.heap.size ≤ gw ∧ w0.heap.size ≤ ga
section
variable {w0 w x : World} {g gr gw ga : Nat} {d d' D : Dr} {i : Nat}
theorem F14.later (h : F14 w0 w g gr gw ga d D i) (q : Below w.heap.size w x) : F14 w0 x g gr gw ga d D i := ⟨h.dir.later q, h.was.later q, h.at_.later q, h.new⟩
theorem F14.turn (h : F14 w0 w g gr gw ga d D i) (k : K14 w0 x g gr d') (q : Tn (Is gr) w x) : F14 w0 x g gr gw ga d' D i := by
  obtain ⟨_, _, r1, r2⟩ := h.dir.at_.kinds
  obtain ⟨_, r3⟩ := h.was.kind
  obtain ⟨_, r4⟩ := h.at_.kind
  refine ⟨k, h.was.turn q (fun e => ?_), h.at_.turn q (fun e => ?_), h.new⟩
  · have e' : gw = gr := e
    subst e'
    exact absurd (row_kind r3 r2) (by decide)
  · have e' : ga = gr := e
    subst e'
    exact absurd (row_kind r4 r2) (by decide)
theorem F14.put (h : F14 w0 w g gr gw ga d D i) (hi : i < 32) : F14 w0 ((w.setCell ⟨gw, i, none⟩ (.int .i64 (D.sp i).k)).setCell ⟨ga, i, none⟩ (.int .i64 (D.sp i).m)) g gr gw ga d D (i + 1) := by
  obtain ⟨_, _, r1, r2⟩ := h.dir.at_.kinds
  obtain ⟨_, r3⟩ := h.was.kind
  obtain ⟨_, r4⟩ := h.at_.kind
  have n1 : g ≠ gw := fun e => by subst e; exact absurd (row_kind r1 r3) (by decide)
  have n2 : g ≠ ga := fun e => by subst e; exact absurd (row_kind r1 r4) (by decide)
  have n3 : gr ≠ gw := fun e => by subst e; exact absurd (row_kind r2 r3) (by decide)
  have n4 : gr ≠ ga := fun e => by subst e; exact absurd (row_kind r2 r4) (by decide)
  have n5 : gw ≠ ga := fun e => by subst e; exact absurd (row_kind r3 r4) (by decide)
  have t1 : Tn (Is gw) w (w.setCell ⟨gw, i, none⟩ (.int .i64 (D.sp i).k)) := (Tn.refl _ _).set gw _ _ rfl
  have t2 : Tn (Is ga) (w.setCell ⟨gw, i, none⟩ (.int .i64 (D.sp i).k)) ((w.setCell ⟨gw, i, none⟩ (.int .i64 (D.sp i).k)).setCell ⟨ga, i, none⟩ (.int .i64 (D.sp i).m)) := (Tn.refl _ _).set ga _ _ rfl
  refine ⟨⟨(h.dir.at_.turn t1 n1 n3).turn t2 n2 n4, h.dir.new, ?_, h.dir.ok⟩, (h.was.put hi).turn t2 n5, (h.at_.turn t1 (fun e => n5 e.symm)).put hi, h.new⟩
  exact (h.dir.bel.setCell h.new.1 _).setCell h.new.2 _
end
/-- The same, with the list of what was lost. -/
structure L14 (w0 w : World) (g gr gw ga : Nat) (d D : Dr) (B : Nat) (v : Value) (l : List Int) : Prop where
  f : F14 w0 w g gr gw ga d D 32
  own : OwnI B w v l
  low : gr < B
section
variable {w0 w x : World} {g gr gw ga : Nat} {d d' D : Dr} {B : Nat} {v : Value} {l : List Int}
theorem L14.later (h : L14 w0 w g gr gw ga d D B v l) (q : Below w.heap.size w x) : L14 w0 x g gr gw ga d D B v l := ⟨h.f.later q, h.own.later q, h.low⟩
theorem L14.turn (h : L14 w0 w g gr gw ga d D B v l) (k : K14 w0 x g gr d') (q : Tn (Is gr) w x) : L14 w0 x g gr gw ga d' D B v l := ⟨h.f.turn k q, h.own.turn q (fun k hk => by rw [show k = gr from hk]; exact h.low), h.low⟩
end
set_option maxRecDepth 8000 in
set_option maxHeartbeats 12800000 in
theorem walk (v : Value) (cs : List Od) (nd : Int) (w : World) (h1 : RowsIn odA Od.zero 4 w v cs) (h2 : cs.length ≤ maxLen) (h3 : ∀ c ∈ cs, c.fits) (h4 : ∀ a len cap, v = .slice a len cap → len ≤ cap) (hn : (Lit.int .u8 nd).wf = true) :
    Calls Try.prog 5 #[v, .int .u8 nd] w fun e w' => e = .returned (.bool true) ∧ Below w.heap.size w w' := by
  have r1 : ∃ i : Nat, wrap64 (nd.tmod 8) = (i : Int) ∧ (i : Int) < 8 := by
    have b2 : 0 ≤ nd ∧ nd ≤ 255 := by simpa [Lit.wf, IntKind.min, IntKind.max, IntKind.signed, IntKind.bits] using hn
    exact rem_in nd 8 (by omega) (by omega) (by omega) (by omega)
  obtain ⟨mn, em, hm8⟩ := r1
  obtain ⟨m, hmn⟩ : ∃ m : Int, m = (mn : Int) := ⟨_, rfl⟩
  rw [← hmn] at em hm8
  have h' := h1
  obtain ⟨a, cap, rfl, -⟩ := h'
  have hs : Scr14 w (.slice a cs.length cap) cs := ⟨h1, h3, h4⟩
  have hcap := h4 _ _ _ rfl
  obtain ⟨ln, hln⟩ : ∃ ln, cs.length = ln := ⟨_, rfl⟩
  rw [hln] at hs h2 hcap ⊢
  have HS := hide hs
  have HLN := hide hln
  have HM := hide em
  clear h1 h3 h4 hs hln hn hmn em
  go_enter Try.func5, Try.ntmps5
  go_wp2_with fail
  refine (awake14 _).mono ?_
  rintro e w1 ⟨rfl, hb1⟩
  by_cases hl : 1000 < ln
  · have hl2 : (1000 : Int) < (ln : Int) := by omega
    go_wp2_with fail
    refine (awake14 _).mono ?_
    rintro e w2 ⟨rfl, hb2⟩
    go_wp2
    go_ret
    exact ⟨rfl, hb1.trans (hb2.mono hb1.size)⟩
  have hl2 : ¬ (1000 : Int) < (ln : Int) := by omega
  have HB1 := hide hb1
  clear hb1
  go_wp2_with fail
  refine (knew14 HB1.out 32).mono ?_
  rintro e w2 ⟨g, gr, rfl, hK⟩
  have HK := hide (show K14 w w2 g gr (playD 32 (cs.take 0)) from hK)
  clear hK HB1
  go_wp2
  go_loopw [31] (fun q wr => ∃ j : Nat, j ≤ ln ∧ q = .int .i64 j ∧ Hid (K14 w wr g gr (playD 32 (cs.take j)))) (fun q _ => ln - (intOf q).toNat)
  case atStart => exact ⟨0, Nat.zero_le _, rfl, HK⟩
  case round =>
    obtain ⟨j, hj, rfl, HR⟩ := hrel
    by_cases hlt : j < ln
    · have i1 : (j : Int) < (ln : Int) := by omega
      obtain ⟨b, off, rfl, -, c, hc, hld, -, hfit⟩ := HS.out.at HR.out.bel (j := j) (by rw [HLN.out]; exact hlt)
      have HST := hide (playD_snoc 32 cs j c hc)
      have HLD := hide hld
      clear hld hc hfit
      go_wp2_with (with_reducible refine stop_at 38 rfl ?_)
      refine unstop10 ?_
      refine lst_load (some 38) (.agg (odA c)) rfl rfl 30 (.tmp 37) rfl _ rfl HLD.out ?_
      simp only [Act.put, Array.setIfInBounds, List.size_toArray, List.length_cons, List.length_nil, Nat.reduceAdd, Nat.reduceLT, ↓reduceDIte, List.set_toArray, List.set_cons_succ, List.set_cons_zero]
      clear HLD
      go_wp2_with fail
      refine (play14 HR.out c).mono ?_
      rintro e w4 ⟨rfl, hq⟩
      rw [← HST.out] at hq
      have HQ := hide hq
      clear hq HR HST
      go_wp2
      go_roundw
      case rel => exact ⟨j + 1, by omega, by go_num, HQ⟩
      case measure => simp [intOf]; omega
    · have i1 : ¬ (j : Int) < (ln : Int) := by omega
      have HDN := hide (show (playD 32 (cs.take j)).n = 32 from playD_n 32 _)
      generalize playD 32 (cs.take j) = D at *
      clear HS HLN HK
      go_wp2_with (with_reducible refine stop_at 8 rfl ?_)
      simp only [HM.out]
      refine unstop10 ?_
      refine lst_run (some 8) rfl rfl (.pointer (some ⟨wr.heap.size, 0, none⟩)) (wr.alloc (.cells z32 39)) (by go_simp; rfl) ?_
      simp only [Act.put, Array.setIfInBounds, List.size_toArray, List.length_cons, List.length_nil, Nat.reduceAdd, Nat.reduceLT, ↓reduceDIte, List.set_toArray, List.set_cons_succ, List.set_cons_zero]
      have hb2 : Below wr.heap.size wr (wr.alloc (.cells z32 39)) := (Below.refl _ _).alloc (Nat.le_refl _) _
      have HK2 := hide (HR.out.later hb2)
      have HW2 := hide (Row32.new wr 39 (fun j => (D.sp j).k))
      have HGW := hide (show w.heap.size ≤ wr.heap.size from HR.out.bel.size)
      clear hb2 HR
      generalize wr.alloc (.cells z32 39) = w3 at *
      generalize wr.heap.size = gw at *
      go_wp2_with (with_reducible refine stop_at 9 rfl ?_)
      refine unstop10 ?_
      refine lst_run (some 9) rfl rfl (.pointer (some ⟨w3.heap.size, 0, none⟩)) (w3.alloc (.cells z32 33)) (by go_simp; rfl) ?_
      simp only [Act.put, Array.setIfInBounds, List.size_toArray, List.length_cons, List.length_nil, Nat.reduceAdd, Nat.reduceLT, ↓reduceDIte, List.set_toArray, List.set_cons_succ, List.set_cons_zero]
      have hb2 : Below w3.heap.size w3 (w3.alloc (.cells z32 33)) := (Below.refl _ _).alloc (Nat.le_refl _) _
      have HF := hide (show F14 w (w3.alloc (.cells z32 33)) g gr gw w3.heap.size D D 0 from ⟨HK2.out.later hb2, HW2.out.later hb2, Row32.new w3 _ _, HGW.out, HK2.out.bel.size⟩)
      clear hb2 HK2 HW2 HGW
      generalize w3.alloc (.cells z32 33) = w4 at *
      generalize w3.heap.size = ga at *
      go_wp2
      go_loopw [44] (fun q wr => ∃ i : Nat, i ≤ 32 ∧ q = .int .i64 i ∧ Hid (F14 w wr g gr gw ga D D i)) (fun q _ => 32 - (intOf q).toNat)
      case atStart => exact ⟨0, Nat.zero_le _, rfl, HF⟩
      case round =>
        obtain ⟨i, hi, rfl, HR⟩ := hrel
        by_cases hlt2 : i < 32
        · have i2 : (i : Int) < 32 := by omega
          have T := kwhere14 HR.out.dir (i : Int)
          rw [D.wh_at (by rw [HDN.out]; exact hlt2)] at T
          have HT := hide T
          clear T
          go_wp2_with fail
          refine HT.out.mono ?_
          rintro e w5 ⟨rfl, -, hb5⟩
          have HF5 := hide (HR.out.later hb5)
          obtain ⟨⟨o1, c1⟩, f1⟩ := HF5.out.was.old hlt2
          obtain ⟨⟨o2, c2⟩, f2⟩ := HF5.out.at_.old hlt2
          have hne : ¬ gw = ga := fun e => by
            obtain ⟨_, r3⟩ := HF5.out.was.kind
            obtain ⟨_, r4⟩ := HF5.out.at_.kind
            subst e
            exact absurd (row_kind r3 r4) (by decide)
          have hne2 : ¬ ga = gw := fun e => hne e.symm
          have HF6 := hide (HF5.out.put hlt2)
          clear hb5 HT HR
          generalize (D.sp i).k = k1 at *
          generalize (D.sp i).m = k2 at *
          go_wp2
          go_roundw
          case rel => exact ⟨i + 1, by omega, by go_num, HF6⟩
          case measure => simp [intOf]; omega
        · have i2 : ¬ (i : Int) < 32 := by omega
          have HF2 := hide (show F14 w wr g gr gw ga D D 32 from by
            have e : i = 32 := by omega
            rw [← e]
            exact HR.out)
          clear HF HR
          have HT := hide (kfail14 HF2.out.dir m)
          go_wp2_with fail
          refine HT.out.mono ?_
          rintro e w5 ⟨v5, rfl, hO, hK5, ht5⟩
          have HLL := hide (show L14 w w5 g gr gw ga (D.fa m) D wr.heap.size v5 (D.faL m) from ⟨HF2.out.turn hK5 ht5, hO, HF2.out.dir.at_.lt.2⟩)
          obtain ⟨a5, c5, rfl, hc5, ha5⟩ := hO.shape
          have HA5 := hide ha5
          have hl32 : (D.faL m).length ≤ 32 := by
            have := D.faTo_len m D.n
            rw [HDN.out] at this
            unfold Dr.faL
            rw [HDN.out]
            exact this
          clear hO hK5 ht5 ha5 HT HF2
          generalize wr.heap.size = Bz at *
          obtain ⟨lo, hlo⟩ : ∃ lo, D.faL m = lo := ⟨_, rfl⟩
          have HLO := hide hlo
          rw [hlo] at HLL hc5 hl32 HA5 ⊢
          clear hlo
          obtain ⟨lz, hlz⟩ : ∃ lz, lo.length = lz := ⟨_, rfl⟩
          have HLZ := hide hlz
          rw [hlz] at HLL hc5 hl32 HA5 ⊢
          clear hlz
          go_wp2
          go_loopw [12, 61] (fun k q wr => ∃ i : Nat, i ≤ 32 ∧ q = .int .i64 i ∧ ∃ kn : Nat, kn ≤ 32 ∧ k = .int .i64 kn ∧ Hid (kn = (D.faTo m i).length ∧ L14 w wr g gr gw ga (D.fa m) D Bz (.slice a5 lz c5) lo)) (fun _ q _ => 32 - (intOf q).toNat)
          case atStart => exact ⟨0, Nat.zero_le _, rfl, 0, Nat.zero_le _, rfl, rfl, HLL.out⟩
          case round =>
            obtain ⟨i, hi, rfl, kn, hkn, rfl, HR⟩ := hrel
            by_cases hlt3 : i < 32
            · have i3 : (i : Int) < 32 := by omega
              have hin : i < D.n := by rw [HDN.out]; exact hlt3
              have T := kwhere14 HR.out.2.f.dir (i : Int)
              rw [(D.fa m).wh_at hin] at T
              by_cases hg : D.goes i m
              · rw [D.fa_yes m hin hg] at T
                have HT := hide T
                have hx : kn < lz := by rw [HR.out.1, ← HLZ.out, ← HLO.out]; exact D.faTo_lt m hin hg
                have HG := hide (show kn + 1 = (D.faTo m (i + 1)).length from by rw [D.faTo_yes m i hg, List.length_append, HR.out.1]; rfl)
                obtain ⟨b5, rfl, -⟩ := HA5.out (by omega)
                have HCL := hide (show ∀ y, L14 w y g gr gw ga (D.fa m) D Bz (.slice (some ⟨b5, 0, none⟩) lz c5) lo → y.cell? ⟨b5, kn, none⟩ = some (.int .i64 (i : Int)) from fun y hy => by
                  have q := hy.own
                  rw [← HLZ.out] at q
                  have q2 := q.cell (j := kn) (by rw [HLZ.out]; exact hx)
                  rw [q2, ← HLO.out, HR.out.1]
                  unfold Dr.faL
                  rw [D.faTo_at m D.n hin hg])
                obtain ⟨hg1, hg2⟩ := hg
                have hx1 : (kn : Int) < lz := by omega
                have hx2 : ¬ (lz : Int) ≤ kn := by omega
                clear T
                go_wp2_with fail
                refine HT.out.mono ?_
                rintro e w6 ⟨rfl, -, hb6⟩
                have HL6 := hide (HR.out.2.later hb6)
                have d1 := HL6.out.f.was.cell hlt3
                have d2 := HL6.out.f.at_.cell hlt3
                have d3 := HCL.out w6 HL6.out
                rw [hg1] at d2
                clear hb6 HT HR hg1
                rcases hg2 with hg2 | hg2
                · rw [hg2] at d1
                  clear hg2
                  go_wp2
                  go_roundw
                  case rel => exact ⟨i + 1, by omega, by go_num, kn + 1, by omega, by go_num, HG.out, HL6.out⟩
                  case measure => simp [intOf]; omega
                · rw [hg2] at d1
                  clear hg2
                  go_wp2
                  go_roundw
                  case rel => exact ⟨i + 1, by omega, by go_num, kn + 1, by omega, by go_num, HG.out, HL6.out⟩
                  case measure => simp [intOf]; omega
              · rw [D.fa_no m hg] at T
                have HT := hide T
                have HG := hide (show kn = (D.faTo m (i + 1)).length from by rw [D.faTo_no m i hg]; exact HR.out.1)
                clear T
                have hgo : ((D.sp i).m == m) = false ∨ (((D.sp i).m == m) = true ∧ ((D.sp i).k == 1) = false ∧ ((D.sp i).k == 2) = false) := by
                  by_cases e : (D.sp i).m = m
                  · right
                    refine ⟨by rw [beq_iff_eq]; exact e, ?_, ?_⟩
                    · rw [beq_eq_false_iff_ne]
                      exact fun q => hg ⟨e, .inl q⟩
                    · rw [beq_eq_false_iff_ne]
                      exact fun q => hg ⟨e, .inr q⟩
                  · left
                    rw [beq_eq_false_iff_ne]
                    exact e
                clear hg
                go_wp2_with fail
                refine HT.out.mono ?_
                rintro e w6 ⟨rfl, -, hb6⟩
                have HL6 := hide (HR.out.2.later hb6)
                have d1 := HL6.out.f.was.cell hlt3
                have d2 := HL6.out.f.at_.cell hlt3
                clear hb6 HT HR
                have s1 : ((D.sp i).k != (D.sp i).k) = false := by simp
                have s2 : ((D.sp i).m != (D.sp i).m) = false := by simp
                generalize (D.sp i).k = k1 at *
                generalize (D.sp i).m = m1 at *
                rcases hgo with hg | ⟨hg, hg1, hg2⟩
                · go_wp2
                  go_roundw
                  case rel => exact ⟨i + 1, by omega, by go_num, kn, by omega, rfl, HG.out, HL6.out⟩
                  case measure => simp [intOf]; omega
                · go_wp2
                  go_roundw
                  case rel => exact ⟨i + 1, by omega, by go_num, kn, by omega, rfl, HG.out, HL6.out⟩
                  case measure => simp [intOf]; omega
            · have i3 : ¬ (i : Int) < 32 := by omega
              have HX := hide (show kn = lz ∧ L14 w wr g gr gw ga (D.fa m) D Bz (.slice a5 lz c5) lo from by
                have e : i = D.n := by rw [HDN.out]; omega
                have h := HR.out
                rw [e] at h
                refine ⟨?_, h.2⟩
                rw [h.1, ← HLZ.out, ← HLO.out]
                rfl)
              clear HR HLL
              have ekn : kn = lz := HX.out.1
              subst ekn
              have T := kfail14 HX.out.2.f.dir m
              rw [D.fa_none m, D.fa_fa m] at T
              have HT := hide T
              clear T
              go_wp2_with fail
              refine HT.out.mono ?_
              rintro e w7 ⟨v7, rfl, hO7, hK7, ht7⟩
              have HL7 := hide (HX.out.2.turn hK7 ht7)
              rw [← D.hl_zero m] at HL7
              obtain ⟨a7, c7, rfl, -, -⟩ := hO7.shape
              have el : ([] : List Int).length = 0 := rfl
              rw [el]
              clear hO7 hK7 ht7 HT HX el
              go_wp2
              go_loopw [137] (fun q wr => ∃ i : Nat, i ≤ kn ∧ q = .int .i64 i ∧ Hid (L14 w wr g gr gw ga (D.hl m i) D Bz (.slice a5 kn c5) lo)) (fun q _ => kn - (intOf q).toNat)
              case atStart => exact ⟨0, Nat.zero_le _, rfl, HL7⟩
              case round =>
                obtain ⟨i, hi, rfl, HR⟩ := hrel
                by_cases hlt4 : i < kn
                · have i4 : (i : Int) < kn := by omega
                  obtain ⟨p, hp, hg, hpi⟩ := D.faTo_get m D.n i (by
                    have h := HLZ.out
                    rw [← HLO.out] at h
                    unfold Dr.faL at h
                    rw [h]
                    exact hlt4)
                  obtain ⟨x1, x2, x3, x4⟩ := D.hl_he m hp hg hpi
                  have HPL := hide (show p < 32 from by rw [← HDN.out]; exact hp)
                  obtain ⟨b5, rfl, -⟩ := HA5.out (by omega)
                  have HCL := hide (show ∀ (y : World) (d' : Dr), L14 w y g gr gw ga d' D Bz (.slice (some ⟨b5, 0, none⟩) kn c5) lo → y.cell? ⟨b5, i, none⟩ = some (.int .i64 (p : Int)) from fun y d' hy => by
                    have q := hy.own
                    rw [← HLZ.out] at q
                    have q2 := q.cell (j := i) (by rw [HLZ.out]; exact hlt4)
                    rw [q2, ← HLO.out, ← hpi]
                    unfold Dr.faL
                    rw [D.faTo_at m D.n hp hg])
                  have T := kheal14 HR.out.f.dir (p : Int)
                  rw [x1, x2] at T
                  have HT := hide T
                  have HX34 := hide (And.intro x3 x4)
                  have d3 := HCL.out wr _ HR.out
                  clear T x1 x2 x3 x4 hp hg hpi
                  go_wp2_with fail
                  refine HT.out.mono ?_
                  rintro e w8 ⟨rfl, hK8, ht8⟩
                  have HL8 := hide (HR.out.turn hK8 ht8)
                  have T := kheal14 HL8.out.f.dir (p : Int)
                  rw [HX34.out.1, HX34.out.2] at T
                  clear HT d3
                  have HT := hide T
                  have d3 := HCL.out w8 _ HL8.out
                  clear T hK8 ht8 HR
                  go_wp2_with fail
                  refine HT.out.mono ?_
                  rintro e w9 ⟨rfl, hK9, ht9⟩
                  have HL9 := hide (HL8.out.turn hK9 ht9)
                  clear hK9 ht9 HT HL8 d3
                  go_wp2
                  go_roundw
                  case rel => exact ⟨i + 1, by omega, by go_num, HL9⟩
                  case measure => simp [intOf]; omega
                · have i4 : ¬ (i : Int) < kn := by omega
                  have HK := hide (show K14 w wr g gr (D.hl m (D.faL m).length) from by
                    have e : (D.faL m).length = i := by rw [HLO.out, HLZ.out]; omega
                    rw [e]
                    exact HR.out.f.dir)
                  clear HR HL7
                  have T := kof14 HK.out m 1
                  rw [D.hl_of m 1 (.inl rfl)] at T
                  have HT := hide T
                  clear T
                  go_wp2_with fail
                  refine HT.out.mono ?_
                  rintro e w8 ⟨v8, rfl, hO8, hK8, -⟩
                  obtain ⟨a8, c8, rfl, -, -⟩ := hO8.shape
                  have T := kof14 hK8 m 2
                  rw [D.hl_of m 2 (.inr rfl)] at T
                  clear HT
                  have HT := hide T
                  have el : ([] : List Int).length = 0 := rfl
                  rw [el]
                  clear T hO8 hK8 HK
                  go_wp2_with fail
                  refine HT.out.mono ?_
                  rintro e w9 ⟨v9, rfl, hO9, hK9, -⟩
                  obtain ⟨a9, c9, rfl, -, -⟩ := hO9.shape
                  rw [el]
                  have HE := hide hK9.bel
                  clear hO9 hK9 HT el
                  go_wp2
                  go_ret
                  exact ⟨by first | rfl | simp, HE.out⟩
end Go.Proofs.Ytpbdachbefafiaa.ownerFails
