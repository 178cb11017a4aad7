/-
  Changes of cells, written onto the store, cut off and mended: in the end each page is just what its changes make of it, up to the last one whose write was done, or of which a sector of its place was written. TopPages returns true for every input, and its arguments read as before.
  Condition: none but those that the form of every such statement bears by itself (each string within the reach).
-/
import Derived.Test.YtfeghhgniahfkaaRows
import Derived.ProofKit
import Derived.OpenShut
import Derived.ShutString
import Derived.SizedLaws
import Derived.JoinedCond
import Derived.Test.YtfeghhgniahfkaaK03
import Derived.Test.YtfeghhgniahfkaaK04
import Derived.Test.YtfeghhgniahfkaaK05

/-
  The walk of TopPages: it returns true, and turns nothing that was there.
-/
namespace Go.Proofs.Ytfeghhgniahfkaa.topPages
open Go.RowKit
set_option linter.unusedVariables false

/-- Four pages one behind the other. -/
def w4A (W : Nat → Pg) : Array Value := pgA (W 0) ++ pgA (W 1) ++ pgA (W 2) ++ pgA (W 3)
theorem w4_zero : madeCells (pgA Pg.zero) (4 * 17) = w4A (fun _ => Pg.zero) := by kernel_rfl
theorem infoP4 : (Try.prog.info? 35).map (fun i => (i.zero, i.size, i.bytes)) = some (some (.agg (pgA Pg.zero)), 17, 200) := by kernel_rfl
theorem run_mk4 (w : World) : (Instr.makeSlice 41 (.int .i64 4) (.int .i64 4)).run Try.prog w = .ok (.slice (some ⟨w.heap.size, 0, none⟩) 4 4) (w.alloc (.cells (w4A (fun _ => Pg.zero)) 35)) := by
  obtain ⟨z, hz0⟩ : ∃ z : Value, z = .agg (pgA Pg.zero) := ⟨_, rfl⟩
  have hI := infoP4
  rw [← hz0] at hI
  obtain ⟨i, hi, hz, hs, hb⟩ := info_parts hI
  have hr := run_make (P := Try.prog) w 41 35 i z Try.underlying41 hi hz .i64 .i64 4 4 (by omega) (by omega) (by rw [hb]; omega) (by omega)
  rw [hs, hz0] at hr
  rw [← w4_zero]
  exact hr
structure TS (w0 x : World) (gs gw : Nat) (s : Sc) (old : Nat → Pg) (tr : Nat → Option (Pg × Bool)) (W : Nat → Pg) (l : Nat) : Prop where
  k : K10 w0 x gs s old tr
  t : TP s old tr W l
  r : RowAt x gw 35 (w4A W)
  lo : w0.heap.size ≤ gw
section
variable {w0 x y : World} {gs gw l : Nat} {s : Sc} {old : Nat → Pg} {tr : Nat → Option (Pg × Bool)} {W : Nat → Pg}
theorem TS.later (h : TS w0 x gs gw s old tr W l) (hb : Below x.heap.size x y) : TS w0 y gs gw s old tr W l := ⟨h.k.later hb, h.t, h.r.later hb, h.lo⟩
theorem TS.mend (h : TS w0 x gs gw s old tr W l) (M : Int) : Calls Try.prog 14 #[.pointer (some ⟨gs, 0, none⟩), .int .i64 0, .int .i64 M] x fun e y => e = .returned (.int .i64 (s.mE 0 M)) ∧ (∃ old' tr', TS w0 y gs gw (s.mS 0 M) old' tr' W l) ∧ Side10 x y := by
  refine (h.k.mend 0 M).mono ?_
  rintro e y ⟨rfl, ⟨old', tr', hk, hc⟩, hsd⟩
  exact ⟨rfl, ⟨old', tr', hk, h.t.mend M hk.ok hc, hsd.row h.r (by decide) (by decide), h.lo⟩, hsd⟩
theorem TS.more (h : TS w0 x gs gw s old tr W l) : TS w0 x gs gw s old tr W (l + 1) := ⟨h.k, h.t.more, h.r, h.lo⟩
end
theorem wpQuiet_binop {P : Program} {ops : Array Oper} {C : World → Prop} {Q : Act → Prop} {rest : List Oper} {o : Oper} {a : Act} (hw : Region.wanted o (yielded ops a.tmps) = true) (op : BinOp) (t r : TypeId) (x y : Operand) (ho : o.op = .binOp op t x y r) (u v z : Value) (hu : a.eval x = u) (hv : a.eval y = v) (hg : ∀ w, C w → (eqGuard op t x y u v).run P w = .ok () w) (hz : ∀ w, C w → (binOp op t u v).run P w = .ok z w) (h : wpQuiet P ops C Q rest (a.put o.dst z)) : wpQuiet P ops C Q (o :: rest) a :=
  wpQuiet_val hw z (fun w hC => by unfold execOp; simp only [ho, hu, hv, Sem.run_bind, hg w hC, hz w hC, Result.andThen_ok, Sem.run_pure]) h
theorem load10_s {b j : Nat} (x : World) (v : ByteArray) (h : x.cell? ⟨b, j, none⟩ = some (.string v)) : (Instr.loadAt 9 (.pointer (some ⟨b, j, none⟩))).run Try.prog x = .ok (.string v) x := by
  go_simp
/-- Two ways that go on alike. -/
theorem share2 {F G : Nat → World → Prop} {R : Prop} (h : (∀ g z, F g z → G g z) → R) (k : ∀ g z, F g z → G g z) : R := h k
theorem infoCe : (Try.prog.info? 32).map (·.size) = some 2 := by kernel_rfl
theorem infoChS : (Try.prog.info? 57).map (·.size) = some 5 := by kernel_rfl
theorem chA_one (c : Ch) : (chA c).all (·.oneCell') = true := by simp [chA, Value.oneCell']
theorem w4_size (W : Nat → Pg) : (w4A W).size = 68 := by
  unfold w4A
  rw [Array.size_append, Array.size_append, Array.size_append]
  rfl
theorem w4_get (W : Nat → Pg) (i k : Nat) (hi : i < 4) (hk : k < 17) : (w4A W)[i * 17 + k]? = (pgA (W i))[k]? := by
  have z : ∀ p : Pg, (pgA p).size = 17 := fun _ => rfl
  have hc : i = 0 ∨ i = 1 ∨ i = 2 ∨ i = 3 := by omega
  unfold w4A
  rcases hc with rfl | rfl | rfl | rfl
  · rw [Array.getElem?_append_left (by rw [Array.size_append, Array.size_append, z, z, z]; omega), Array.getElem?_append_left (by rw [Array.size_append, z, z]; omega), Array.getElem?_append_left (by rw [z]; omega), Nat.zero_mul, Nat.zero_add]
  · rw [Array.getElem?_append_left (by rw [Array.size_append, Array.size_append, z, z, z]; omega), Array.getElem?_append_left (by rw [Array.size_append, z, z]; omega), Array.getElem?_append_right (by rw [z]; omega), z, show 1 * 17 + k - 17 = k by omega]
  · rw [Array.getElem?_append_left (by rw [Array.size_append, Array.size_append, z, z, z]; omega), Array.getElem?_append_right (by rw [Array.size_append, z, z]; omega), Array.size_append, z, z, show 2 * 17 + k - (17 + 17) = k by omega]
  · rw [Array.getElem?_append_right (by rw [Array.size_append, Array.size_append, z, z, z]; omega), Array.size_append, Array.size_append, z, z, z, show 3 * 17 + k - (17 + 17 + 17) = k by omega]
theorem w4_cell (W : Nat → Pg) (i jj : Nat) (hi : i < 4) (hj : jj < 8) : (w4A W).extract (i * 17 + 1 + jj * 2) (i * 17 + 1 + jj * 2 + 2) = ceA ((W i).u jj) ((W i).s jj) := by
  have hl : Lies (w4A W) (i * 17 + 1 + jj * 2) (ceA ((W i).u jj) ((W i).s jj)).toList := by
    intro m hm
    have hm2 : m < 2 := hm
    rw [show i * 17 + 1 + jj * 2 + m = i * 17 + (1 + jj * 2 + m) by omega, w4_get W i _ hi (by omega)]
    have hd : jj = 0 ∨ jj = 1 ∨ jj = 2 ∨ jj = 3 ∨ jj = 4 ∨ jj = 5 ∨ jj = 6 ∨ jj = 7 := by omega
    have he : m = 0 ∨ m = 1 := by omega
    rcases hd with rfl | rfl | rfl | rfl | rfl | rfl | rfl | rfl <;> rcases he with rfl | rfl <;> rfl
  have := hl.ext 2 rfl (by rw [w4_size]; omega)
  rwa [Array.toArray_toList] at this
theorem load_cell4 (x : World) (gw : Nat) (W : Nat → Pg) (i jj : Nat) (hi : i < 4) (hj : jj < 8) (h : RowAt x gw 35 (w4A W)) : (Instr.loadAt 32 (.pointer (some ⟨gw, i * 17 + 1 + jj * 2, none⟩))).run Try.prog x = .ok (.agg (ceA ((W i).u jj) ((W i).s jj))) x := by
  have h1 := load_part (P := Try.prog) x 35 32 gw (i * 17 + 1 + jj * 2) 2 (w4A W) h _ Try.underlying32 rfl infoCe (by rw [w4_size]; omega)
  rw [w4_cell W i jj hi hj] at h1
  exact h1
theorem w4_page (W : Nat → Pg) (i : Nat) (hi : i < 4) : (w4A W).extract (i * 17) (i * 17 + 17) = pgA (W i) := by
  have hl : Lies (w4A W) (i * 17) (pgA (W i)).toList := fun m hm => by
    have hm2 : m < 17 := hm
    rw [w4_get W i m hi hm2, Array.getElem?_toList]
  have := hl.ext 17 rfl (by rw [w4_size]; omega)
  rwa [Array.toArray_toList] at this
theorem w4_put (W : Nat → Pg) (i : Nat) (hi : i < 4) (p : Pg) : partA (w4A W) (i * 17) (pgA p).toList = w4A (put1 W i p) := by
  have hf : i * 17 + (pgA p).toList.length ≤ (w4A W).size := by
    rw [w4_size]
    show i * 17 + 17 ≤ 68
    omega
  apply Array.ext_getElem?
  intro m
  by_cases hm : m < 68
  · have h1 : m / 17 < 4 := by omega
    have h2 : m % 17 < 17 := by omega
    have h3 : m = m / 17 * 17 + m % 17 := by omega
    by_cases e : m / 17 = i
    · have hs := Lies.same (w4A W) (i * 17) (pgA p).toList hf (m % 17) h2
      rw [show i * 17 + m % 17 = m by omega] at hs
      rw [hs]
      have hg := w4_get (put1 W i p) i (m % 17) hi h2
      rw [put1_same, show i * 17 + m % 17 = m by omega] at hg
      rw [hg, Array.getElem?_toList]
    · rw [partA_out _ _ _ hf m (by show m < i * 17 ∨ i * 17 + 17 ≤ m; omega)]
      have g1 := w4_get W (m / 17) (m % 17) h1 h2
      have g2 := w4_get (put1 W i p) (m / 17) (m % 17) h1 h2
      rw [put1_other _ _ _ _ e] at g2
      rw [← h3] at g1 g2
      rw [g1, g2]
  · rw [Array.getElem?_eq_none (by rw [partA_size _ _ _ hf, w4_size]; omega), Array.getElem?_eq_none (by rw [w4_size]; omega)]
theorem load_page4 (x : World) (gw : Nat) (W : Nat → Pg) (i : Nat) (hi : i < 4) (h : RowAt x gw 35 (w4A W)) : (Instr.loadAt 35 (.pointer (some ⟨gw, i * 17, none⟩))).run Try.prog x = .ok (.agg (pgA (W i))) x := by
  have h1 := load_part (P := Try.prog) x 35 35 gw (i * 17) 17 (w4A W) h _ Try.underlying35 rfl infoPg10 (by rw [w4_size]; omega)
  rw [w4_page W i hi] at h1
  exact h1
theorem TS.write {w0 x : World} {gs gw l : Nat} {s : Sc} {old : Nat → Pg} {tr : Nat → Option (Pg × Bool)} {W : Nat → Pg} (h : TS w0 x gs gw s old tr W l) (i : Nat) (hi : i < 4) (p : Pg) (mask : Int) (hp : p.right) (hl : p.l = l + 1) : Calls Try.prog 15 #[.pointer (some ⟨gs, 0, none⟩), .int .i64 0, .int .i64 (i : Int), .agg (pgA p), .int .i64 mask] x fun e y => e = .returned (.int .i64 (s.wE 0 i p mask)) ∧ (∃ s' old' tr', K10 w0 y gs s' old' tr' ∧ TP s' old' tr' (if s.wE 0 i p mask = 0 ∨ (s.wE 0 i p mask = 9 ∧ 3 < mask) then put1 W i p else W) (l + 1)) ∧ RowAt y gw 35 (w4A W) ∧ Side10 x y := by
  refine (h.k.write 0 i p mask).mono ?_
  rintro e y ⟨rfl, hk, hsd⟩
  exact ⟨rfl, ⟨_, _, _, hk, h.t.write i hi p mask hp hl⟩, hsd.row h.r (by decide) (by decide), hsd⟩
theorem TS.only {w0 x y : World} {gs gw l : Nat} {s : Sc} {old : Nat → Pg} {tr : Nat → Option (Pg × Bool)} {W : Nat → Pg} (h : TS w0 x gs gw s old tr W l) {k : Nat} {t : TypeId} {cs : Array Value} (hr : RowAt x k t cs) (h1 : t ≠ 75) (h2 : t ≠ 70) (h3 : t ≠ 35) (hk : w0.heap.size ≤ k) (p : Only k x y) : TS w0 y gs gw s old tr W l :=
  ⟨h.k.only hr h1 h2 hk p, h.t, p.row h.r (fun e => h3 (row_kind hr (e ▸ h.r))), h.lo⟩
set_option maxRecDepth 8000 in
set_option maxHeartbeats 25600000 in
theorem walk (v : Value) (cs : List Sk) (w : World) (h1 : RowsIn skA Sk.zero 6 w v cs) (h2 : cs.length ≤ maxLen) (h3 : ∀ c ∈ cs, c.fits) (h4 : ∀ a len cap, v = .slice a len cap → len ≤ cap) :
    Calls Try.prog 7 #[v] w fun e w' => e = .returned (.bool true) ∧ Below w.heap.size w w' := by
  have h' := h1
  obtain ⟨a, cap, rfl, -⟩ := h'
  have hs : ScrT w (.slice a cs.length cap) cs := ⟨h1, h3, h4⟩
  have hcap := h4 _ _ _ rfl
  obtain ⟨ln, hln⟩ : ∃ ln, cs.length = ln := ⟨_, rfl⟩
  rw [hln] at hs h2 hcap ⊢
  have HS := hide hs
  have HL := hide hln
  clear h1 h3 h4 hs hln
  go_enter Try.func7, Try.ntmps7
  go_wp2_with fail
  refine (knew10 4 w w (Below.refl _ _)).mono ?_
  rintro e w2 ⟨gs, rfl, h, -⟩
  have H2 := hide (show K10 w w2 gs (Sc.new 4) (fun _ => Pg.zero) (fun _ => none) from h)
  clear h
  go_wp2_with fail
  refine (H2.out.pages).mono ?_
  rintro e w3 ⟨rfl, rfl⟩
  by_cases hl : 200 < ln
  · have hl2 : (200 : Int) < (ln : Int) := by omega
    have hn4 : ((Sc.new 4).n : Int) = 4 := rfl
    rw [hn4]
    go_wp2_with fail
    refine (H2.out.pages).mono ?_
    rintro e w4 ⟨rfl, rfl⟩
    rw [hn4]
    go_wp2
    go_ret
    exact ⟨rfl, H2.out.bel⟩
  have hl2 : ¬ (200 : Int) < (ln : Int) := by omega
  have hn4 : ((Sc.new 4).n : Int) = 4 := rfl
  rw [hn4]
  clear hn4
  have hmk := fun w => run_mk4 w
  have HT0 := hide (show TS w (w2.alloc (.cells (w4A (fun _ => Pg.zero)) 35)) gs w2.heap.size (Sc.new 4) (fun _ => Pg.zero) (fun _ => none) (fun _ => Pg.zero) 0 from ⟨H2.out.alloc _, TP.new, RowAt.new w2 _ _, H2.out.bel.size⟩)
  clear H2
  go_wp2
  clear hmk
  obtain ⟨gw, hgw⟩ : ∃ gw, w2.heap.size = gw := ⟨_, rfl⟩
  rw [hgw] at HT0 ⊢
  clear hgw
  refine gen_wp (fun y => Hid (TS w y gs gw (Sc.new 4) (fun _ => Pg.zero) (fun _ => none) (fun _ => Pg.zero) 0)) HT0 ?_
  clear HT0
  intro y0 HT0
  go_loopw [44, 5] (fun v44 v5 wr => ∃ (j l : Nat), j ≤ ln ∧ l ≤ j ∧ v44 = .int .i64 j ∧ v5 = .int .u64 l ∧ Hid (∃ s old tr W, TS w wr gs gw s old tr W l)) (fun v44 _ _ => ln - (intOf v44).toNat)
  case atStart => exact ⟨0, 0, Nat.zero_le _, Nat.le_refl _, rfl, rfl, ⟨_, _, _, _, HT0.out⟩⟩
  case round =>
    obtain ⟨j, l, hj, hlj, rfl, rfl, HR⟩ := hrel
    clear HT0
    obtain ⟨s, old, tr, W, hT⟩ := HR.out
    have HT := hide hT
    clear hT HR
    by_cases hlt : j < ln
    · have i1 : (j : Int) < ln := by omega
      obtain ⟨b, off, rfl, ⟨pg, sl, ma, de, v, me⟩, hf, hld⟩ := HS.out.at HT.out.k.bel (j := j) (by rw [HL.out]; exact hlt)
      have HLD : Hid ((Instr.loadAt 55 (.pointer (some ⟨b, off + j * 6, none⟩))).run Try.prog wr = .ok (.agg #[.int .i64 pg, .int .i64 sl, .int .i64 ma, .bool de, .string v, .bool me]) wr) := hide hld
      have hfv : v.size ≤ maxLen := hf.2.2.2
      clear hld HS hf
      have hbA : Below wr.heap.size wr (wr.alloc (.cells #[.int .i64 pg, .int .i64 sl, .int .i64 ma, .bool de, .string v, .bool me] 55)) := (Below.refl _ _).alloc (Nat.le_refl _) _
      have HA := hide (And.intro (HT.out.later hbA) (RowAt.new wr 55 #[.int .i64 pg, .int .i64 sl, .int .i64 ma, .bool de, .string v, .bool me]))
      have c5 := HA.out.2.cell 5 _ rfl
      have c2 := HA.out.2.cell 2 _ rfl
      have c0 := HA.out.2.cell 0 _ rfl
      have c1 := HA.out.2.cell 1 _ rfl
      have c3 := HA.out.2.cell 3 _ rfl
      have c4 := HA.out.2.cell 4 _ rfl
      clear hbA HT
      cases me with
      | true =>
        go_wp2_with (refine wpList_load_run rfl 55 _ rfl _ _ rfl HLD.out ?_)
        refine (HA.out.1.mend _).mono ?_
        rintro e w4 ⟨rfl, ⟨old', tr', h4⟩, -⟩
        have HM := hide (s.mend_in (bits .and .i64 ma 3))
        generalize hM : bits .and .i64 ma 3 = M at *
        have H4 := hide h4
        clear h4 HA c0 c1 c2 c3 c4 c5 HLD hM
        by_cases z : s.mE 0 M = 0
        · have z1 : (s.mE 0 M == 0) = true := by simpa using z
          rw [z]
          have HO := hide (HM.out z)
          clear z z1
          go_wp2_with fail
          refine (H4.out.k.out 0).mono ?_
          rintro e w5 ⟨rfl, rfl⟩
          have eo : (s.mS 0 M).outB 0 = false := by
            unfold Sc.outB
            rw [show ((0 : Int)).toNat = 0 from rfl, HO.out]
            simp
          rw [eo]
          clear eo
          go_wp2
          go_roundw
          case rel => exact ⟨j + 1, l, by omega, by omega, by go_num, rfl, ⟨_, _, _, _, H4.out⟩⟩
          case measure => simp [intOf]; omega
        · have z1 : (s.mE 0 M == 0) = false := by simpa using z
          go_wp2
          go_roundw
          case rel => exact ⟨j + 1, l, by omega, by omega, by go_num, rfl, ⟨_, _, _, _, H4.out⟩⟩
          case measure => simp [intOf]; omega
      | false =>
        by_cases p0 : pg < 0
        · go_wp2_with (refine wpList_load_run rfl 55 _ rfl _ _ rfl HLD.out ?_)
          go_roundw
          case rel => exact ⟨j + 1, l, by omega, by omega, by go_num, rfl, ⟨_, _, _, _, HA.out.1⟩⟩
          case measure => simp [intOf]; omega
        by_cases p1 : 3 < pg
        · go_wp2_with (refine wpList_load_run rfl 55 _ rfl _ _ rfl HLD.out ?_)
          go_roundw
          case rel => exact ⟨j + 1, l, by omega, by omega, by go_num, rfl, ⟨_, _, _, _, HA.out.1⟩⟩
          case measure => simp [intOf]; omega
        by_cases s0 : sl < 0
        · go_wp2_with (refine wpList_load_run rfl 55 _ rfl _ _ rfl HLD.out ?_)
          go_roundw
          case rel => exact ⟨j + 1, l, by omega, by omega, by go_num, rfl, ⟨_, _, _, _, HA.out.1⟩⟩
          case measure => simp [intOf]; omega
        by_cases s1 : 7 < sl
        · go_wp2_with (refine wpList_load_run rfl 55 _ rfl _ _ rfl HLD.out ?_)
          go_roundw
          case rel => exact ⟨j + 1, l, by omega, by omega, by go_num, rfl, ⟨_, _, _, _, HA.out.1⟩⟩
          case measure => simp [intOf]; omega
        obtain ⟨i, rfl⟩ := Int.eq_ofNat_of_zero_le (show 0 ≤ pg by omega)
        obtain ⟨jj, rfl⟩ := Int.eq_ofNat_of_zero_le (show 0 ≤ sl by omega)
        have hi4 : i < 4 := by omega
        have hj8 : jj < 8 := by omega
        --REST
        cases de with
        | true =>
          go_wp2_with (refine wpList_load_run rfl 55 _ rfl _ _ rfl HLD.out ?_)
          have hbB : Below (wr.alloc (.cells #[.int .i64 (i : Int), .int .i64 (jj : Int), .int .i64 ma, .bool true, .string v, .bool false] 55)).heap.size (wr.alloc (.cells #[.int .i64 (i : Int), .int .i64 (jj : Int), .int .i64 ma, .bool true, .string v, .bool false] 55)) ((wr.alloc (.cells #[.int .i64 (i : Int), .int .i64 (jj : Int), .int .i64 ma, .bool true, .string v, .bool false] 55)).alloc (.cells #[.bool false, .string ⟨#[]⟩] 32)) := (Below.refl _ _).alloc (Nat.le_refl _) _
          have HY : Hid (TS w ((wr.alloc (.cells #[.int .i64 (i : Int), .int .i64 (jj : Int), .int .i64 ma, .bool true, .string v, .bool false] 55)).alloc (.cells #[.bool false, .string ⟨#[]⟩] 32)) gs gw s old tr W l ∧ RowAt ((wr.alloc (.cells #[.int .i64 (i : Int), .int .i64 (jj : Int), .int .i64 ma, .bool true, .string v, .bool false] 55)).alloc (.cells #[.bool false, .string ⟨#[]⟩] 32)) wr.heap.size 55 #[.int .i64 (i : Int), .int .i64 (jj : Int), .int .i64 ma, .bool true, .string v, .bool false] ∧ RowAt ((wr.alloc (.cells #[.int .i64 (i : Int), .int .i64 (jj : Int), .int .i64 ma, .bool true, .string v, .bool false] 55)).alloc (.cells #[.bool false, .string ⟨#[]⟩] 32)) (wr.heap.size + 1) 32 (ceA false ⟨#[]⟩)) := hide ⟨HA.out.1.later hbB, HA.out.2.later hbB, by have h := RowAt.new (wr.alloc (.cells #[.int .i64 (i : Int), .int .i64 (jj : Int), .int .i64 ma, .bool true, .string v, .bool false] 55)) 32 #[.bool false, .string ⟨#[]⟩]; rw [World.size_alloc] at h; exact h⟩
          clear hbB HA c0 c1 c2 c3 c4 c5 HLD
          obtain ⟨gt, hgt⟩ : ∃ gt, wr.heap.size + 1 = gt := ⟨_, rfl⟩
          rw [hgt] at HY ⊢
          clear hgt
          obtain ⟨gx, hgx⟩ : ∃ gx, wr.heap.size = gx := ⟨_, rfl⟩
          have HGX := hide hgx
          clear hgx
          rw [HGX.out] at HY ⊢
          refine gen_wp (fun z => Hid (TS w z gs gw s old tr W l ∧ RowAt z gx 55 #[.int .i64 (i : Int), .int .i64 (jj : Int), .int .i64 ma, .bool true, .string v, .bool false] ∧ RowAt z gt 32 (ceA false ⟨#[]⟩))) HY ?_
          clear HY HGX
          intro y H
          have HD : Hid (TS w y.drew gs gw s old tr W l ∧ RowAt y.drew gx 55 #[.int .i64 (i : Int), .int .i64 (jj : Int), .int .i64 ma, .bool true, .string v, .bool false] ∧ RowAt y.drew gt 32 (ceA false ⟨#[]⟩)) := hide ⟨H.out.1.later (below_dn (Below.refl _ _) 1), H.out.2.1, H.out.2.2⟩
          obtain ⟨C, hC⟩ : ∃ C, ofC (i : Int) (jj : Int) ((W i).u jj) ((W i).s jj) false ⟨#[]⟩ = C := ⟨_, rfl⟩
          obtain ⟨E, hE⟩ : ∃ E, ofE (i : Int) (jj : Int) ((W i).u jj) ((W i).s jj) false ⟨#[]⟩ = E := ⟨_, rfl⟩
          have HC := hide (And.intro hC hE)
          clear hC hE H
          have n4 : ¬ (4 : Int) ≤ (i : Int) := by omega
          have n8 : ¬ (8 : Int) ≤ (jj : Int) := by omega
          apply share2 (F := fun g z => Hid (TS w z gs gw s old tr W l ∧ RowAt z gx 55 #[.int .i64 (i : Int), .int .i64 (jj : Int), .int .i64 ma, .bool true, .string v, .bool false] ∧ RowAt z g 57 (chA C)))
          (case h =>
            intro REST
            refine wp_region_noPanic ?_
            refine wp_region_held_drew (S := fun z => RowAt z gx 55 #[.int .i64 (i : Int), .int .i64 (jj : Int), .int .i64 ma, .bool true, .string v, .bool false] ∧ RowAt z gw 35 (w4A W) ∧ RowAt z gt 32 (ceA false ⟨#[]⟩)) (by kernel_rfl) ⟨HD.out.2.1, HD.out.1.r, HD.out.2.2⟩ (fun hHeld => ?_)
            refine hand_take 0 (some 92) (.pointer (some ⟨gx, 0, none⟩)) rfl rfl (by kernel_rfl) (by kernel_rfl) (by kernel_rfl) (fun _ _ _ h => h) (Or.inl ⟨by kernel_rfl, fun x hSx => by go_simp⟩) hHeld ?_
            try simp only [Act.put, List.setIfInBounds_toArray, List.set_cons_zero, List.set_cons_succ]
            refine hand_take 1 (some 93) (.int .i64 (i : Int)) rfl rfl (by kernel_rfl) (by kernel_rfl) (by kernel_rfl) (fun _ _ _ h => h) (Or.inl ⟨by kernel_rfl, fun x hSx => by have h : World.cell? x ⟨gx, 0, none⟩ = some (.int .i64 (i : Int)) := hSx.1.cell 0 _ rfl; go_simp⟩) hHeld ?_
            try simp only [Act.put, List.setIfInBounds_toArray, List.set_cons_zero, List.set_cons_succ]
            refine hand_take 2 (some 94) (.pointer (some ⟨gx, 1, none⟩)) rfl rfl (by kernel_rfl) (by kernel_rfl) (by kernel_rfl) (fun _ _ _ h => h) (Or.inl ⟨by kernel_rfl, fun x hSx => by go_simp⟩) hHeld ?_
            try simp only [Act.put, List.setIfInBounds_toArray, List.set_cons_zero, List.set_cons_succ]
            refine hand_take 3 (some 95) (.int .i64 (jj : Int)) rfl rfl (by kernel_rfl) (by kernel_rfl) (by kernel_rfl) (fun _ _ _ h => h) (Or.inl ⟨by kernel_rfl, fun x hSx => by have h : World.cell? x ⟨gx, 1, none⟩ = some (.int .i64 (jj : Int)) := hSx.1.cell 1 _ rfl; go_simp⟩) hHeld ?_
            try simp only [Act.put, List.setIfInBounds_toArray, List.set_cons_zero, List.set_cons_succ]
            refine hand_take 4 (some 96) (.slice (some ⟨gw, 0, none⟩) 4 4) rfl rfl (by kernel_rfl) (by kernel_rfl) (by kernel_rfl) (fun _ _ _ h => h) (Or.inl ⟨by kernel_rfl, fun x hSx => by go_simp⟩) hHeld ?_
            try simp only [Act.put, List.setIfInBounds_toArray, List.set_cons_zero, List.set_cons_succ]
            refine hand_take 5 (some 97) (.pointer (some ⟨gx, 0, none⟩)) rfl rfl (by kernel_rfl) (by kernel_rfl) (by kernel_rfl) (fun _ _ _ h => h) (Or.inl ⟨by kernel_rfl, fun x hSx => by go_simp⟩) hHeld ?_
            try simp only [Act.put, List.setIfInBounds_toArray, List.set_cons_zero, List.set_cons_succ]
            refine hand_take 6 (some 98) (.int .i64 (i : Int)) rfl rfl (by kernel_rfl) (by kernel_rfl) (by kernel_rfl) (fun _ _ _ h => h) (Or.inl ⟨by kernel_rfl, fun x hSx => by have h : World.cell? x ⟨gx, 0, none⟩ = some (.int .i64 (i : Int)) := hSx.1.cell 0 _ rfl; go_simp⟩) hHeld ?_
            try simp only [Act.put, List.setIfInBounds_toArray, List.set_cons_zero, List.set_cons_succ]
            refine hand_take 7 (some 99) (.pointer (some ⟨gx, 1, none⟩)) rfl rfl (by kernel_rfl) (by kernel_rfl) (by kernel_rfl) (fun _ _ _ h => h) (Or.inl ⟨by kernel_rfl, fun x hSx => by go_simp⟩) hHeld ?_
            try simp only [Act.put, List.setIfInBounds_toArray, List.set_cons_zero, List.set_cons_succ]
            refine hand_take 8 (some 100) (.int .i64 (jj : Int)) rfl rfl (by kernel_rfl) (by kernel_rfl) (by kernel_rfl) (fun _ _ _ h => h) (Or.inl ⟨by kernel_rfl, fun x hSx => by have h : World.cell? x ⟨gx, 1, none⟩ = some (.int .i64 (jj : Int)) := hSx.1.cell 1 _ rfl; go_simp⟩) hHeld ?_
            try simp only [Act.put, List.setIfInBounds_toArray, List.set_cons_zero, List.set_cons_succ]
            refine hand_take 9 (some 101) (.pointer (some ⟨gw, i * 17, none⟩)) rfl rfl (by kernel_rfl) (by kernel_rfl) (by kernel_rfl) (fun _ _ _ h => h) (Or.inl ⟨by kernel_rfl, fun x hSx => by go_simp⟩) hHeld ?_
            try simp only [Act.put, List.setIfInBounds_toArray, List.set_cons_zero, List.set_cons_succ]
            refine hand_take 10 (some 102) (.pointer (some ⟨gw, i * 17 + 1, none⟩)) rfl rfl (by kernel_rfl) (by kernel_rfl) (by kernel_rfl) (fun _ _ _ h => h) (Or.inl ⟨by kernel_rfl, fun x hSx => by go_simp⟩) hHeld ?_
            try simp only [Act.put, List.setIfInBounds_toArray, List.set_cons_zero, List.set_cons_succ]
            refine hand_take 11 (some 103) (.pointer (some ⟨gw, i * 17 + 1 + jj * 2, none⟩)) rfl rfl (by kernel_rfl) (by kernel_rfl) (by kernel_rfl) (fun _ _ _ h => h) (Or.inl ⟨by kernel_rfl, fun x hSx => by go_simp⟩) hHeld ?_
            try simp only [Act.put, List.setIfInBounds_toArray, List.set_cons_zero, List.set_cons_succ]
            refine hand_take 12 (some 104) (.agg (ceA ((W i).u jj) ((W i).s jj))) rfl rfl (by kernel_rfl) (by kernel_rfl) (by kernel_rfl) (fun _ _ _ h => h) (yieldsIf_load_run (by kernel_rfl) 32 _ rfl (.pointer (some ⟨gw, i * 17 + 1 + jj * 2, none⟩)) rfl _ (fun x hSx => load_cell4 x gw W i jj hi4 hj8 hSx.2.1)) hHeld ?_
            try simp only [Act.put, List.setIfInBounds_toArray, List.set_cons_zero, List.set_cons_succ]
            refine hand_take 13 (some 105) (.agg (ceA false ⟨#[]⟩)) rfl rfl (by kernel_rfl) (by kernel_rfl) (by kernel_rfl) (fun _ _ _ h => h) (yieldsIf_load_run (by kernel_rfl) 32 _ rfl (.pointer (some ⟨gt, 0, none⟩)) rfl _ (fun x hSx => load_row x hSx.2.2 Try.underlying32 rfl infoCe)) hHeld ?_
            try simp only [Act.put, List.setIfInBounds_toArray, List.set_cons_zero, List.set_cons_succ]
            refine hand_two 14 18 (by kernel_rfl) ?_ ?_
            · refine hand_call (some 106) rfl rfl rfl 20 #[.int .i64 (i : Int), .int .i64 (jj : Int), .agg (ceA ((W i).u jj) ((W i).s jj)), .agg (ceA false ⟨#[]⟩)] ?he ((cof_any (i : Int) (jj : Int) ((W i).u jj) ((W i).s jj) false ⟨#[]⟩ _).mono ?_)
              (case he => go_simp)
              rintro e w5 ⟨rfl, hb5⟩
              rw [HC.out.1, HC.out.2]
              have H5 := hide (And.intro (HD.out.1.later hb5) (And.intro (HD.out.2.1.later hb5) (HD.out.2.2.later hb5)))
              have hHeld5 := And.intro H5.out.2.1 (And.intro H5.out.1.r H5.out.2.2)
              clear hb5
              refine ⟨_, rfl, hHeld5, ?_⟩
              try simp only [Act.put, List.setIfInBounds_toArray, List.set_cons_zero, List.set_cons_succ]
              refine hand_take 15 (some 91) (.tuple #[.agg (chA C), .int .i64 E]) rfl rfl (by kernel_rfl) (by kernel_rfl) (by kernel_rfl) (fun _ _ _ h => h) (Or.inl ⟨by kernel_rfl, fun x hSx => by go_simp⟩) hHeld5 ?_
              try simp only [Act.put, List.setIfInBounds_toArray, List.set_cons_zero, List.set_cons_succ]
              refine hand_take 16 (some 107) (.agg (chA C)) rfl rfl (by kernel_rfl) (by kernel_rfl) (by kernel_rfl) (fun _ _ _ h => h) (Or.inl ⟨by kernel_rfl, fun x hSx => by go_simp⟩) hHeld5 ?_
              try simp only [Act.put, List.setIfInBounds_toArray, List.set_cons_zero, List.set_cons_succ]
              refine hand_take 17 (some 108) (.int .i64 E) rfl rfl (by kernel_rfl) (by kernel_rfl) (by kernel_rfl) (fun _ _ _ h => h) (Or.inl ⟨by kernel_rfl, fun x hSx => by go_simp⟩) hHeld5 ?_
              try simp only [Act.put, List.setIfInBounds_toArray, List.set_cons_zero, List.set_cons_succ]
              refine hand_one 18 (by kernel_rfl) ?_
              refine hand_run (some 9) rfl rfl rfl (.pointer (some ⟨w5.heap.size, 0, none⟩)) (w5.alloc (.cells (chA Ch.zero) 57)) ?hz ?_
              (case hz => go_simp; rfl)
              have hbA : Below w5.heap.size w5 (w5.alloc (.cells (chA Ch.zero) 57)) := (Below.refl _ _).alloc (Nat.le_refl _) _
              have H6 := hide (And.intro (H5.out.1.later hbA) (And.intro (H5.out.2.1.later hbA) (H5.out.2.2.later hbA)))
              have hZ6 := RowAt.new w5 57 (chA Ch.zero)
              have hlow6 : w.heap.size ≤ w5.heap.size := H5.out.1.k.bel.size
              clear hbA H5 hHeld5
              refine ⟨⟨H6.out.2.1, H6.out.1.r, H6.out.2.2⟩, ?_⟩
              try simp only [Act.put, List.setIfInBounds_toArray, List.set_cons_zero, List.set_cons_succ]
              refine hand_one 19 (by kernel_rfl) ?_
              refine hand_store rfl rfl rfl 57 (.tmp 9) (.tmp 107) rfl w5.heap.size 0 57 (chA Ch.zero) (chA C) rfl rfl hZ6 infoChS (by show 0 + 5 ≤ 5; omega) (chA_one C) ?_
              intro w7 hr7 ho7
              rw [partA_all (chA Ch.zero) (chA C) rfl] at hr7
              have H7 : Hid (TS w w7 gs gw s old tr W l ∧ RowAt w7 gx 55 #[.int .i64 (i : Int), .int .i64 (jj : Int), .int .i64 ma, .bool true, .string v, .bool false] ∧ RowAt w7 w5.heap.size 57 (chA C)) := hide ⟨H6.out.1.only hZ6 (by decide) (by decide) (by decide) hlow6 ho7, ho7.row H6.out.2.1 (fun e => by have := row_kind (e ▸ H6.out.2.1) hZ6; exact absurd this (by decide)), hr7⟩
              have hHeld7 := And.intro H7.out.2.1 (And.intro H7.out.1.r (ho7.row H6.out.2.2 (fun e => by have := row_kind (e ▸ H6.out.2.2) hZ6; exact absurd this (by decide))))
              refine ⟨hHeld7, ?_⟩
              try simp only [Act.put, List.setIfInBounds_toArray, List.set_cons_zero, List.set_cons_succ]
              refine hand_one 20 (by kernel_rfl) ?_
              refine hand_run (some 10) rfl rfl rfl (.int .i64 E) w7 ?hz ?_
              (case hz => go_simp)
              refine ⟨hHeld7, ?_⟩
              try simp only [Act.put, List.setIfInBounds_toArray, List.set_cons_zero, List.set_cons_succ]
              refine wpAnyH_done (by kernel_rfl) ?_ _
              refine NoPanic.normal ?_
              clear hHeld7 hr7 ho7 hZ6 hlow6 H6
              obtain ⟨g9, hg9⟩ : ∃ g9, w5.heap.size = g9 := ⟨_, rfl⟩
              rw [hg9] at H7 ⊢
              exact REST g9 w7 H7
            · refine hand_run (some 9) rfl rfl rfl (.pointer (some ⟨y.drew.heap.size, 0, none⟩)) (y.drew.alloc (.cells (chA Ch.zero) 57)) ?hz ?_
              (case hz => go_simp; rfl)
              have hbA : Below y.drew.heap.size y.drew (y.drew.alloc (.cells (chA Ch.zero) 57)) := (Below.refl _ _).alloc (Nat.le_refl _) _
              have H5a := hide (And.intro (HD.out.1.later hbA) (And.intro (HD.out.2.1.later hbA) (HD.out.2.2.later hbA)))
              have hZ5 := RowAt.new y.drew 57 (chA Ch.zero)
              clear hbA
              refine ⟨⟨H5a.out.2.1, H5a.out.1.r, H5a.out.2.2⟩, ?_⟩
              try simp only [Act.put, List.setIfInBounds_toArray, List.set_cons_zero, List.set_cons_succ]
              refine hand_one 14 (by kernel_rfl) ?_
              refine hand_call (some 106) rfl rfl rfl 20 #[.int .i64 (i : Int), .int .i64 (jj : Int), .agg (ceA ((W i).u jj) ((W i).s jj)), .agg (ceA false ⟨#[]⟩)] ?he ((cof_any (i : Int) (jj : Int) ((W i).u jj) ((W i).s jj) false ⟨#[]⟩ _).mono ?_)
              (case he => go_simp)
              rintro e w5 ⟨rfl, hb5⟩
              rw [HC.out.1, HC.out.2]
              have H6 := hide (And.intro (H5a.out.1.later hb5) (And.intro (H5a.out.2.1.later hb5) (H5a.out.2.2.later hb5)))
              have hZ6 := hZ5.later hb5
              have hlow6 : w.heap.size ≤ y.drew.heap.size := HD.out.1.k.bel.size
              have hHeld5 := And.intro H6.out.2.1 (And.intro H6.out.1.r H6.out.2.2)
              clear hb5 hZ5 H5a
              refine ⟨_, rfl, hHeld5, ?_⟩
              try simp only [Act.put, List.setIfInBounds_toArray, List.set_cons_zero, List.set_cons_succ]
              refine hand_take 15 (some 91) (.tuple #[.agg (chA C), .int .i64 E]) rfl rfl (by kernel_rfl) (by kernel_rfl) (by kernel_rfl) (fun _ _ _ h => h) (Or.inl ⟨by kernel_rfl, fun x hSx => by go_simp⟩) hHeld5 ?_
              try simp only [Act.put, List.setIfInBounds_toArray, List.set_cons_zero, List.set_cons_succ]
              refine hand_take 16 (some 107) (.agg (chA C)) rfl rfl (by kernel_rfl) (by kernel_rfl) (by kernel_rfl) (fun _ _ _ h => h) (Or.inl ⟨by kernel_rfl, fun x hSx => by go_simp⟩) hHeld5 ?_
              try simp only [Act.put, List.setIfInBounds_toArray, List.set_cons_zero, List.set_cons_succ]
              refine hand_take 17 (some 108) (.int .i64 E) rfl rfl (by kernel_rfl) (by kernel_rfl) (by kernel_rfl) (fun _ _ _ h => h) (Or.inl ⟨by kernel_rfl, fun x hSx => by go_simp⟩) hHeld5 ?_
              try simp only [Act.put, List.setIfInBounds_toArray, List.set_cons_zero, List.set_cons_succ]
              refine hand_one 19 (by kernel_rfl) ?_
              refine hand_store rfl rfl rfl 57 (.tmp 9) (.tmp 107) rfl y.drew.heap.size 0 57 (chA Ch.zero) (chA C) rfl rfl hZ6 infoChS (by show 0 + 5 ≤ 5; omega) (chA_one C) ?_
              intro w7 hr7 ho7
              rw [partA_all (chA Ch.zero) (chA C) rfl] at hr7
              have H7 : Hid (TS w w7 gs gw s old tr W l ∧ RowAt w7 gx 55 #[.int .i64 (i : Int), .int .i64 (jj : Int), .int .i64 ma, .bool true, .string v, .bool false] ∧ RowAt w7 y.drew.heap.size 57 (chA C)) := hide ⟨H6.out.1.only hZ6 (by decide) (by decide) (by decide) hlow6 ho7, ho7.row H6.out.2.1 (fun e => by have := row_kind (e ▸ H6.out.2.1) hZ6; exact absurd this (by decide)), hr7⟩
              have hHeld7 := And.intro H7.out.2.1 (And.intro H7.out.1.r (ho7.row H6.out.2.2 (fun e => by have := row_kind (e ▸ H6.out.2.2) hZ6; exact absurd this (by decide))))
              refine ⟨hHeld7, ?_⟩
              try simp only [Act.put, List.setIfInBounds_toArray, List.set_cons_zero, List.set_cons_succ]
              refine hand_one 20 (by kernel_rfl) ?_
              refine hand_run (some 10) rfl rfl rfl (.int .i64 E) w7 ?hz ?_
              (case hz => go_simp)
              refine ⟨hHeld7, ?_⟩
              try simp only [Act.put, List.setIfInBounds_toArray, List.set_cons_zero, List.set_cons_succ]
              refine wpAnyH_done (by kernel_rfl) ?_ _
              refine NoPanic.normal ?_
              clear hHeld7 hr7 ho7 hZ6 hlow6 H6
              obtain ⟨g9, hg9⟩ : ∃ g9, y.drew.heap.size = g9 := ⟨_, rfl⟩
              rw [hg9] at H7 ⊢
              exact REST g9 w7 H7)
          clear HD
          intro g9 z H9
          have HRT := hide (H9.out.1.t.rt i hi4)
          have hcW : World.cell? z ⟨gw, i * 17 + 1 + jj * 2, none⟩ = some (.bool ((W i).u jj)) := by
            have h := H9.out.1.r.cell (i * 17 + 1 + jj * 2) (.bool ((W i).u jj)) (by
              rw [show i * 17 + 1 + jj * 2 = i * 17 + (1 + jj * 2) by omega, w4_get W i _ hi4 (by omega)]
              have hd : jj = 0 ∨ jj = 1 ∨ jj = 2 ∨ jj = 3 ∨ jj = 4 ∨ jj = 5 ∨ jj = 6 ∨ jj = 7 := by omega
              rcases hd with rfl | rfl | rfl | rfl | rfl | rfl | rfl | rfl <;> rfl)
            exact h
          have d0 : World.cell? z ⟨gx, 0, none⟩ = some (.int .i64 (i : Int)) := H9.out.2.1.cell 0 _ rfl
          have d1 : World.cell? z ⟨gx, 1, none⟩ = some (.int .i64 (jj : Int)) := H9.out.2.1.cell 1 _ rfl
          have d2 : World.cell? z ⟨gx, 2, none⟩ = some (.int .i64 ma) := H9.out.2.1.cell 2 _ rfl
          have d3 : World.cell? z ⟨gx, 3, none⟩ = some (.bool true) := H9.out.2.1.cell 3 _ rfl
          have d4 : World.cell? z ⟨gx, 4, none⟩ = some (.string v) := H9.out.2.1.cell 4 _ rfl
          by_cases hE : E = 0
          · subst hE
            have HF := hide (of_fits (W i) i jj l hi4 hj8 HRT.out.1 HRT.out.2 (by unfold maxP; omega) false ⟨#[]⟩ HC.out.2)
            rw [HC.out.1] at HF
            obtain ⟨P, hP⟩ : ∃ P, appP (W i) C (l + 1) = P := ⟨_, rfl⟩
            rw [hP] at HF
            have HP := hide hP
            clear hP hcW d1 d2 d3 d4 n8
            have ew : IntKind.u64.wrap ((l : Int) + 1) = (l : Int) + 1 := by rw [IntKind.wrap_u64]; omega
            go_wp2_with fail
            refine gen_wp (fun x => Hid (TS w x gs gw s old tr W l ∧ RowAt x gx 55 #[.int .i64 (i : Int), .int .i64 (jj : Int), .int .i64 ma, .bool true, .string v, .bool false] ∧ RowAt x g9 57 (chA C))) H9 ?_
            clear H9 d0 z
            intro y H
            have HD : Hid (TS w y.drew gs gw s old tr W l ∧ RowAt y.drew gx 55 #[.int .i64 (i : Int), .int .i64 (jj : Int), .int .i64 ma, .bool true, .string v, .bool false] ∧ RowAt y.drew g9 57 (chA C)) := hide ⟨H.out.1.later (below_dn (Below.refl _ _) 1), H.out.2.1, H.out.2.2⟩
            clear H
            have n4 : ¬ (4 : Int) ≤ (i : Int) := by omega
            have A : ∀ x, Calls Try.prog 21 #[.agg (pgA (W i)), .agg (chA C), .int .u64 ((l + 1 : Nat) : Int)] x fun e w' => e = .returned (.tuple #[.agg (pgA P), .int .i64 0]) ∧ Below x.heap.size x w' := fun x => by
              have h := apply_any (W i) C (l + 1) x (by omega)
              rw [HP.out, HF.out.1] at h
              exact h
            have HAP := hide A
            clear A
            apply share2 (F := fun g z => Hid (TS w z gs gw s old tr W l ∧ RowAt z gx 55 #[.int .i64 (i : Int), .int .i64 (jj : Int), .int .i64 ma, .bool true, .string v, .bool false] ∧ PgAt z g P ∧ w.heap.size ≤ g))
            (case h =>
              intro REST
              refine wp_region_noPanic ?_
              refine wp_region_held_drew (S := fun z => RowAt z gx 55 #[.int .i64 (i : Int), .int .i64 (jj : Int), .int .i64 ma, .bool true, .string v, .bool false] ∧ RowAt z gw 35 (w4A W) ∧ RowAt z g9 57 (chA C)) (by kernel_rfl) ⟨HD.out.2.1, HD.out.1.r, HD.out.2.2⟩ (fun hHeld => ?_)
              refine hand_take 0 (some 139) (.slice (some ⟨gw, 0, none⟩) 4 4) rfl rfl (by kernel_rfl) (by kernel_rfl) (by kernel_rfl) (fun _ _ _ h => h) (Or.inl ⟨by kernel_rfl, fun x hSx => by go_simp⟩) hHeld ?_
              try simp only [Act.put, List.setIfInBounds_toArray, List.set_cons_zero, List.set_cons_succ]
              refine hand_take 1 (some 140) (.pointer (some ⟨gx, 0, none⟩)) rfl rfl (by kernel_rfl) (by kernel_rfl) (by kernel_rfl) (fun _ _ _ h => h) (Or.inl ⟨by kernel_rfl, fun x hSx => by go_simp⟩) hHeld ?_
              try simp only [Act.put, List.setIfInBounds_toArray, List.set_cons_zero, List.set_cons_succ]
              refine hand_take 2 (some 141) (.int .i64 (i : Int)) rfl rfl (by kernel_rfl) (by kernel_rfl) (by kernel_rfl) (fun _ _ _ h => h) (Or.inl ⟨by kernel_rfl, fun x hSx => by have h : World.cell? x ⟨gx, 0, none⟩ = some (.int .i64 (i : Int)) := hSx.1.cell 0 _ rfl; go_simp⟩) hHeld ?_
              try simp only [Act.put, List.setIfInBounds_toArray, List.set_cons_zero, List.set_cons_succ]
              refine hand_take 3 (some 142) (.pointer (some ⟨gw, i * 17, none⟩)) rfl rfl (by kernel_rfl) (by kernel_rfl) (by kernel_rfl) (fun _ _ _ h => h) (Or.inl ⟨by kernel_rfl, fun x hSx => by go_simp⟩) hHeld ?_
              try simp only [Act.put, List.setIfInBounds_toArray, List.set_cons_zero, List.set_cons_succ]
              refine hand_take 4 (some 143) (.agg (pgA (W i))) rfl rfl (by kernel_rfl) (by kernel_rfl) (by kernel_rfl) (fun _ _ _ h => h) (yieldsIf_load_run (by kernel_rfl) 35 _ rfl (.pointer (some ⟨gw, i * 17, none⟩)) rfl _ (fun x hSx => load_page4 x gw W i hi4 hSx.2.1)) hHeld ?_
              try simp only [Act.put, List.setIfInBounds_toArray, List.set_cons_zero, List.set_cons_succ]
              refine hand_take 5 (some 144) (.agg (chA C)) rfl rfl (by kernel_rfl) (by kernel_rfl) (by kernel_rfl) (fun _ _ _ h => h) (yieldsIf_load_run (by kernel_rfl) 57 _ rfl (.pointer (some ⟨g9, 0, none⟩)) rfl _ (fun x hSx => load_row x hSx.2.2 Try.underlying57 rfl infoChS)) hHeld ?_
              try simp only [Act.put, List.setIfInBounds_toArray, List.set_cons_zero, List.set_cons_succ]
              refine hand_take 6 (some 145) (.int .u64 ((l + 1 : Nat) : Int)) rfl rfl (by kernel_rfl) (by kernel_rfl) (by kernel_rfl) (fun _ _ _ h => h) (Or.inl ⟨by kernel_rfl, fun x hSx => by go_simp⟩) hHeld ?_
              try simp only [Act.put, List.setIfInBounds_toArray, List.set_cons_zero, List.set_cons_succ]
              refine hand_two 7 11 (by kernel_rfl) ?_ ?_
              · refine hand_call (some 146) rfl rfl rfl 21 #[.agg (pgA (W i)), .agg (chA C), .int .u64 ((l + 1 : Nat) : Int)] ?he ((HAP.out _).mono ?_)
                (case he => go_simp)
                rintro e w5 ⟨rfl, hb5⟩
                have H5 := hide (And.intro (HD.out.1.later hb5) (And.intro (HD.out.2.1.later hb5) (HD.out.2.2.later hb5)))
                have hHeld5 := And.intro H5.out.2.1 (And.intro H5.out.1.r H5.out.2.2)
                clear hb5
                refine ⟨_, rfl, hHeld5, ?_⟩
                try simp only [Act.put, List.setIfInBounds_toArray, List.set_cons_zero, List.set_cons_succ]
                refine hand_take 8 (some 138) (.tuple #[.agg (pgA P), .int .i64 0]) rfl rfl (by kernel_rfl) (by kernel_rfl) (by kernel_rfl) (fun _ _ _ h => h) (Or.inl ⟨by kernel_rfl, fun x hSx => by go_simp⟩) hHeld5 ?_
                try simp only [Act.put, List.setIfInBounds_toArray, List.set_cons_zero, List.set_cons_succ]
                refine hand_take 9 (some 147) (.agg (pgA P)) rfl rfl (by kernel_rfl) (by kernel_rfl) (by kernel_rfl) (fun _ _ _ h => h) (Or.inl ⟨by kernel_rfl, fun x hSx => by go_simp⟩) hHeld5 ?_
                try simp only [Act.put, List.setIfInBounds_toArray, List.set_cons_zero, List.set_cons_succ]
                refine hand_take 10 (some 148) (.int .i64 0) rfl rfl (by kernel_rfl) (by kernel_rfl) (by kernel_rfl) (fun _ _ _ h => h) (Or.inl ⟨by kernel_rfl, fun x hSx => by go_simp⟩) hHeld5 ?_
                try simp only [Act.put, List.setIfInBounds_toArray, List.set_cons_zero, List.set_cons_succ]
                refine hand_one 11 (by kernel_rfl) ?_
                refine hand_run (some 11) rfl rfl rfl (.pointer (some ⟨w5.heap.size, 0, none⟩)) (w5.alloc (.cells (pgA Pg.zero) 35)) ?hz ?_
                (case hz => go_simp; rfl)
                have hbA : Below w5.heap.size w5 (w5.alloc (.cells (pgA Pg.zero) 35)) := (Below.refl _ _).alloc (Nat.le_refl _) _
                have H6 := hide (And.intro (H5.out.1.later hbA) (And.intro (H5.out.2.1.later hbA) (And.intro (H5.out.2.2.later hbA) (show gw < w5.heap.size from H5.out.1.r.lt))))
                have hZ6 := RowAt.new w5 35 (pgA Pg.zero)
                have hlow6 : w.heap.size ≤ w5.heap.size := H5.out.1.k.bel.size
                clear hbA H5 hHeld5
                refine ⟨⟨H6.out.2.1, H6.out.1.r, H6.out.2.2.1⟩, ?_⟩
                try simp only [Act.put, List.setIfInBounds_toArray, List.set_cons_zero, List.set_cons_succ]
                refine hand_one 12 (by kernel_rfl) ?_
                refine hand_store rfl rfl rfl 35 (.tmp 11) (.tmp 147) rfl w5.heap.size 0 35 (pgA Pg.zero) (pgA P) rfl rfl hZ6 infoPg10 (by show 0 + 17 ≤ 17; omega) (pgA_one P) ?_
                intro w7 hr7 ho7
                rw [partA_all (pgA Pg.zero) (pgA P) rfl] at hr7
                have hne7 : gw ≠ w5.heap.size := fun e => by
                  have h := H6.out.2.2.2
                  omega
                have H7 : Hid (TS w w7 gs gw s old tr W l ∧ RowAt w7 gx 55 #[.int .i64 (i : Int), .int .i64 (jj : Int), .int .i64 ma, .bool true, .string v, .bool false] ∧ PgAt w7 w5.heap.size P ∧ w.heap.size ≤ w5.heap.size) := hide ⟨⟨H6.out.1.k.only hZ6 (by decide) (by decide) hlow6 ho7, H6.out.1.t, ho7.row H6.out.1.r hne7, H6.out.1.lo⟩, ho7.row H6.out.2.1 (fun e => by have := row_kind (e ▸ H6.out.2.1) hZ6; exact absurd this (by decide)), hr7, hlow6⟩
                have hHeld7 := And.intro H7.out.2.1 (And.intro H7.out.1.r (ho7.row H6.out.2.2.1 (fun e => by have := row_kind (e ▸ H6.out.2.2.1) hZ6; exact absurd this (by decide))))
                refine ⟨hHeld7, ?_⟩
                try simp only [Act.put, List.setIfInBounds_toArray, List.set_cons_zero, List.set_cons_succ]
                refine hand_one 13 (by kernel_rfl) ?_
                refine hand_run (some 12) rfl rfl rfl (.int .i64 0) w7 ?hz ?_
                (case hz => go_simp)
                refine ⟨hHeld7, ?_⟩
                try simp only [Act.put, List.setIfInBounds_toArray, List.set_cons_zero, List.set_cons_succ]
                refine wpAnyH_done (by kernel_rfl) ?_ _
                refine NoPanic.normal ?_
                clear hHeld7 hr7 ho7 hZ6 hlow6 H6 hne7
                obtain ⟨g11, hg11⟩ : ∃ g11, w5.heap.size = g11 := ⟨_, rfl⟩
                rw [hg11] at H7 ⊢
                exact REST g11 w7 H7
              · refine hand_run (some 11) rfl rfl rfl (.pointer (some ⟨y.drew.heap.size, 0, none⟩)) (y.drew.alloc (.cells (pgA Pg.zero) 35)) ?hz ?_
                (case hz => go_simp; rfl)
                have hbA : Below y.drew.heap.size y.drew (y.drew.alloc (.cells (pgA Pg.zero) 35)) := (Below.refl _ _).alloc (Nat.le_refl _) _
                have H5a := hide (And.intro (HD.out.1.later hbA) (And.intro (HD.out.2.1.later hbA) (HD.out.2.2.later hbA)))
                have hZ5 := RowAt.new y.drew 35 (pgA Pg.zero)
                clear hbA
                refine ⟨⟨H5a.out.2.1, H5a.out.1.r, H5a.out.2.2⟩, ?_⟩
                try simp only [Act.put, List.setIfInBounds_toArray, List.set_cons_zero, List.set_cons_succ]
                refine hand_one 7 (by kernel_rfl) ?_
                refine hand_call (some 146) rfl rfl rfl 21 #[.agg (pgA (W i)), .agg (chA C), .int .u64 ((l + 1 : Nat) : Int)] ?he ((HAP.out _).mono ?_)
                (case he => go_simp)
                rintro e w5 ⟨rfl, hb5⟩
                have H6 := hide (And.intro (H5a.out.1.later hb5) (And.intro (H5a.out.2.1.later hb5) (And.intro (H5a.out.2.2.later hb5) (show gw < y.drew.heap.size from HD.out.1.r.lt))))
                have hZ6 := hZ5.later hb5
                have hlow6 : w.heap.size ≤ y.drew.heap.size := HD.out.1.k.bel.size
                have hHeld5 := And.intro H6.out.2.1 (And.intro H6.out.1.r H6.out.2.2.1)
                clear hb5 hZ5 H5a
                refine ⟨_, rfl, hHeld5, ?_⟩
                try simp only [Act.put, List.setIfInBounds_toArray, List.set_cons_zero, List.set_cons_succ]
                refine hand_take 8 (some 138) (.tuple #[.agg (pgA P), .int .i64 0]) rfl rfl (by kernel_rfl) (by kernel_rfl) (by kernel_rfl) (fun _ _ _ h => h) (Or.inl ⟨by kernel_rfl, fun x hSx => by go_simp⟩) hHeld5 ?_
                try simp only [Act.put, List.setIfInBounds_toArray, List.set_cons_zero, List.set_cons_succ]
                refine hand_take 9 (some 147) (.agg (pgA P)) rfl rfl (by kernel_rfl) (by kernel_rfl) (by kernel_rfl) (fun _ _ _ h => h) (Or.inl ⟨by kernel_rfl, fun x hSx => by go_simp⟩) hHeld5 ?_
                try simp only [Act.put, List.setIfInBounds_toArray, List.set_cons_zero, List.set_cons_succ]
                refine hand_take 10 (some 148) (.int .i64 0) rfl rfl (by kernel_rfl) (by kernel_rfl) (by kernel_rfl) (fun _ _ _ h => h) (Or.inl ⟨by kernel_rfl, fun x hSx => by go_simp⟩) hHeld5 ?_
                try simp only [Act.put, List.setIfInBounds_toArray, List.set_cons_zero, List.set_cons_succ]
                refine hand_one 12 (by kernel_rfl) ?_
                refine hand_store rfl rfl rfl 35 (.tmp 11) (.tmp 147) rfl y.drew.heap.size 0 35 (pgA Pg.zero) (pgA P) rfl rfl hZ6 infoPg10 (by show 0 + 17 ≤ 17; omega) (pgA_one P) ?_
                intro w7 hr7 ho7
                rw [partA_all (pgA Pg.zero) (pgA P) rfl] at hr7
                have hne7 : gw ≠ y.drew.heap.size := fun e => by
                  have h := H6.out.2.2.2
                  omega
                have H7 : Hid (TS w w7 gs gw s old tr W l ∧ RowAt w7 gx 55 #[.int .i64 (i : Int), .int .i64 (jj : Int), .int .i64 ma, .bool true, .string v, .bool false] ∧ PgAt w7 y.drew.heap.size P ∧ w.heap.size ≤ y.drew.heap.size) := hide ⟨⟨H6.out.1.k.only hZ6 (by decide) (by decide) hlow6 ho7, H6.out.1.t, ho7.row H6.out.1.r hne7, H6.out.1.lo⟩, ho7.row H6.out.2.1 (fun e => by have := row_kind (e ▸ H6.out.2.1) hZ6; exact absurd this (by decide)), hr7, hlow6⟩
                have hHeld7 := And.intro H7.out.2.1 (And.intro H7.out.1.r (ho7.row H6.out.2.2.1 (fun e => by have := row_kind (e ▸ H6.out.2.2.1) hZ6; exact absurd this (by decide))))
                refine ⟨hHeld7, ?_⟩
                try simp only [Act.put, List.setIfInBounds_toArray, List.set_cons_zero, List.set_cons_succ]
                refine hand_one 13 (by kernel_rfl) ?_
                refine hand_run (some 12) rfl rfl rfl (.int .i64 0) w7 ?hz ?_
                (case hz => go_simp)
                refine ⟨hHeld7, ?_⟩
                try simp only [Act.put, List.setIfInBounds_toArray, List.set_cons_zero, List.set_cons_succ]
                refine wpAnyH_done (by kernel_rfl) ?_ _
                refine NoPanic.normal ?_
                clear hHeld7 hr7 ho7 hZ6 hlow6 H6 hne7
                obtain ⟨g11, hg11⟩ : ∃ g11, y.drew.heap.size = g11 := ⟨_, rfl⟩
                rw [hg11] at H7 ⊢
                exact REST g11 w7 H7)
            clear HD HAP
            intro g11 z H11
            go_wp2_with (refine wpList_load_page rfl _ rfl g11 rfl P H11.out.2.2.1 ?_)
            refine (right_any P _).mono ?_
            rintro e w6 ⟨rfl, hb6⟩
            rw [decide_eq_true HF.out.2.1]
            have H12 : Hid (TS w w6 gs gw s old tr W l ∧ RowAt w6 gx 55 #[.int .i64 (i : Int), .int .i64 (jj : Int), .int .i64 ma, .bool true, .string v, .bool false] ∧ PgAt w6 g11 P ∧ w.heap.size ≤ g11) := hide ⟨H11.out.1.later hb6, H11.out.2.1.later hb6, H11.out.2.2.1.below hb6 H11.out.2.2.1.lt, H11.out.2.2.2⟩
            clear hb6 H11
            have d0 : World.cell? w6 ⟨gx, 0, none⟩ = some (.int .i64 (i : Int)) := H12.out.2.1.cell 0 _ rfl
            have d2 : World.cell? w6 ⟨gx, 2, none⟩ = some (.int .i64 ma) := H12.out.2.1.cell 2 _ rfl
            go_wp2_with (refine wpList_load_page rfl _ rfl g11 rfl P H12.out.2.2.1 ?_)
            refine (H12.out.1.write i hi4 P ma HF.out.2.1 HF.out.2.2).mono ?_
            rintro e w7 ⟨rfl, ⟨s', old', tr', hk7, ht7⟩, hr7, hsd⟩
            have H13 : Hid (K10 w w7 gs s' old' tr' ∧ RowAt w7 gw 35 (w4A W) ∧ RowAt w7 gx 55 #[.int .i64 (i : Int), .int .i64 (jj : Int), .int .i64 ma, .bool true, .string v, .bool false] ∧ PgAt w7 g11 P) := hide ⟨hk7, hr7, hsd.row H12.out.2.1 (by decide) (by decide), hsd.page H12.out.2.2.1⟩
            have HLO := hide H12.out.1.lo
            have d0' : World.cell? w7 ⟨gx, 0, none⟩ = some (.int .i64 (i : Int)) := H13.out.2.2.1.cell 0 _ rfl
            have d2' : World.cell? w7 ⟨gx, 2, none⟩ = some (.int .i64 ma) := H13.out.2.2.1.cell 2 _ rfl
            have HT7 := hide ht7
            clear hk7 ht7 hr7 hsd H12 d0 d2
            generalize s.wE 0 i P ma = E7 at *
            by_cases q : E7 = 0 ∨ (E7 = 9 ∧ 3 < ma)
            · rw [if_pos q] at HT7
              have store : Hid (∀ w8, RowAt w8 gw 35 (partA (w4A W) (i * 17) (pgA P).toList) → Only gw w7 w8 → ∃ s old tr W', TS w w8 gs gw s old tr W' (l + 1)) := hide fun w8 h1 h2 => ⟨s', old', tr', put1 W i P, H13.out.1.only H13.out.2.1 (by decide) (by decide) HLO.out h2, HT7.out, by rw [← w4_put W i hi4 P]; exact h1, HLO.out⟩
              have HR7 := hide H13.out.2.1
              have HG7 := hide H13.out.2.2.2
              clear H13 HT7 HLO
              by_cases q0 : E7 = 0
              · subst q0
                clear q
                go_wp2_with (first | (refine wpList_load_page rfl _ rfl g11 rfl P HG7.out ?_) | (refine wpList_store_part rfl 35 _ _ rfl gw (i * 17) 35 (w4A W) (pgA P) rfl rfl HR7.out infoPg10 (by rw [w4_size]; show i * 17 + 17 ≤ 68; omega) (pgA_one P) ?_; intro w8 hr8 ho8; have H8 := hide (store.out w8 hr8 ho8); clear hr8 ho8 d0' d2' HR7 HG7 store; refine stop10 ?_))
                refine unstop10 ?_
                go_wp2
                go_roundw
                case rel => exact ⟨j + 1, l + 1, by omega, by omega, by go_num, by go_num, H8⟩
                case measure => simp [intOf]; omega
              · obtain ⟨q1, q2⟩ := q.resolve_left q0
                subst q1
                clear q q0
                go_wp2_with (first | (refine wpList_load_page rfl _ rfl g11 rfl P HG7.out ?_) | (refine wpList_store_part rfl 35 _ _ rfl gw (i * 17) 35 (w4A W) (pgA P) rfl rfl HR7.out infoPg10 (by rw [w4_size]; show i * 17 + 17 ≤ 68; omega) (pgA_one P) ?_; intro w8 hr8 ho8; have H8 := hide (store.out w8 hr8 ho8); clear hr8 ho8 d0' d2' HR7 HG7 store; refine stop10 ?_))
                refine unstop10 ?_
                go_wp2
                go_roundw
                case rel => exact ⟨j + 1, l + 1, by omega, by omega, by go_num, by go_num, H8⟩
                case measure => simp [intOf]; omega
            · rw [if_neg q] at HT7
              have H8 : Hid (∃ s old tr W', TS w w7 gs gw s old tr W' (l + 1)) := hide ⟨s', old', tr', W, H13.out.1, HT7.out, H13.out.2.1, HLO.out⟩
              have q0 : ¬ E7 = 0 := fun c => q (.inl c)
              have q0b : (E7 == 0) = false := by simpa using q0
              by_cases q9 : E7 = 9
              · subst q9
                have q3 : ¬ 3 < ma := fun c => q (.inr ⟨rfl, c⟩)
                clear q H13 HT7 HLO
                go_wp2
                go_roundw
                case rel => exact ⟨j + 1, l + 1, by omega, by omega, by go_num, by go_num, H8⟩
                case measure => simp [intOf]; omega
              · have q9b : (E7 == 9) = false := by simpa using q9
                clear q H13 HT7 HLO
                go_wp2
                go_roundw
                case rel => exact ⟨j + 1, l + 1, by omega, by omega, by go_num, by go_num, H8⟩
                case measure => simp [intOf]; omega
          · have hE2 : (E == 0) = false := by simpa using hE
            have hE3 : (E != 0) = true := by simpa using hE
            have HN := hide (of_not (W i) i jj hi4 hj8 HRT.out.1 true v (by
              have h := HC.out.2
              intro c
              exact hE (h.symm.trans c)))
            have i4 : (i : Int) < 4 := by omega
            have j8 : (jj : Int) < 8 := by omega
            have hu := HN.out.2 rfl
            rw [hu] at hcW
            clear hE HN hu
            go_wp2_with fail
            go_quiet (fail)
            go_wp2
            go_roundw
            case rel => exact ⟨j + 1, l, by omega, by omega, by go_num, rfl, ⟨_, _, _, _, H9.out.1.later (below_dn (Below.refl _ _) nq)⟩⟩
            case measure => simp [intOf]; omega
        | false =>
          go_wp2_with (refine wpList_load_run rfl 55 _ rfl _ _ rfl HLD.out ?_)
          have hbB : Below (wr.alloc (.cells #[.int .i64 (i : Int), .int .i64 (jj : Int), .int .i64 ma, .bool false, .string v, .bool false] 55)).heap.size (wr.alloc (.cells #[.int .i64 (i : Int), .int .i64 (jj : Int), .int .i64 ma, .bool false, .string v, .bool false] 55)) ((wr.alloc (.cells #[.int .i64 (i : Int), .int .i64 (jj : Int), .int .i64 ma, .bool false, .string v, .bool false] 55)).alloc (.cells #[.bool true, .string v] 32)) := (Below.refl _ _).alloc (Nat.le_refl _) _
          have HY : Hid (TS w ((wr.alloc (.cells #[.int .i64 (i : Int), .int .i64 (jj : Int), .int .i64 ma, .bool false, .string v, .bool false] 55)).alloc (.cells #[.bool true, .string v] 32)) gs gw s old tr W l ∧ RowAt ((wr.alloc (.cells #[.int .i64 (i : Int), .int .i64 (jj : Int), .int .i64 ma, .bool false, .string v, .bool false] 55)).alloc (.cells #[.bool true, .string v] 32)) wr.heap.size 55 #[.int .i64 (i : Int), .int .i64 (jj : Int), .int .i64 ma, .bool false, .string v, .bool false] ∧ RowAt ((wr.alloc (.cells #[.int .i64 (i : Int), .int .i64 (jj : Int), .int .i64 ma, .bool false, .string v, .bool false] 55)).alloc (.cells #[.bool true, .string v] 32)) (wr.heap.size + 1) 32 (ceA true v)) := hide ⟨HA.out.1.later hbB, HA.out.2.later hbB, by have h := RowAt.new (wr.alloc (.cells #[.int .i64 (i : Int), .int .i64 (jj : Int), .int .i64 ma, .bool false, .string v, .bool false] 55)) 32 #[.bool true, .string v]; rw [World.size_alloc] at h; exact h⟩
          clear hbB HA c0 c1 c2 c3 c4 c5 HLD
          obtain ⟨gt, hgt⟩ : ∃ gt, wr.heap.size + 1 = gt := ⟨_, rfl⟩
          rw [hgt] at HY ⊢
          clear hgt
          obtain ⟨gx, hgx⟩ : ∃ gx, wr.heap.size = gx := ⟨_, rfl⟩
          have HGX := hide hgx
          clear hgx
          rw [HGX.out] at HY ⊢
          refine gen_wp (fun z => Hid (TS w z gs gw s old tr W l ∧ RowAt z gx 55 #[.int .i64 (i : Int), .int .i64 (jj : Int), .int .i64 ma, .bool false, .string v, .bool false] ∧ RowAt z gt 32 (ceA true v))) HY ?_
          clear HY HGX
          intro y H
          have HD : Hid (TS w y.drew gs gw s old tr W l ∧ RowAt y.drew gx 55 #[.int .i64 (i : Int), .int .i64 (jj : Int), .int .i64 ma, .bool false, .string v, .bool false] ∧ RowAt y.drew gt 32 (ceA true v)) := hide ⟨H.out.1.later (below_dn (Below.refl _ _) 1), H.out.2.1, H.out.2.2⟩
          obtain ⟨C, hC⟩ : ∃ C, ofC (i : Int) (jj : Int) ((W i).u jj) ((W i).s jj) true v = C := ⟨_, rfl⟩
          obtain ⟨E, hE⟩ : ∃ E, ofE (i : Int) (jj : Int) ((W i).u jj) ((W i).s jj) true v = E := ⟨_, rfl⟩
          have HC := hide (And.intro hC hE)
          clear hC hE H
          have n4 : ¬ (4 : Int) ≤ (i : Int) := by omega
          have n8 : ¬ (8 : Int) ≤ (jj : Int) := by omega
          apply share2 (F := fun g z => Hid (TS w z gs gw s old tr W l ∧ RowAt z gx 55 #[.int .i64 (i : Int), .int .i64 (jj : Int), .int .i64 ma, .bool false, .string v, .bool false] ∧ RowAt z g 57 (chA C)))
          (case h =>
            intro REST
            refine wp_region_noPanic ?_
            refine wp_region_held_drew (S := fun z => RowAt z gx 55 #[.int .i64 (i : Int), .int .i64 (jj : Int), .int .i64 ma, .bool false, .string v, .bool false] ∧ RowAt z gw 35 (w4A W) ∧ RowAt z gt 32 (ceA true v)) (by kernel_rfl) ⟨HD.out.2.1, HD.out.1.r, HD.out.2.2⟩ (fun hHeld => ?_)
            refine hand_take 0 (some 92) (.pointer (some ⟨gx, 0, none⟩)) rfl rfl (by kernel_rfl) (by kernel_rfl) (by kernel_rfl) (fun _ _ _ h => h) (Or.inl ⟨by kernel_rfl, fun x hSx => by go_simp⟩) hHeld ?_
            try simp only [Act.put, List.setIfInBounds_toArray, List.set_cons_zero, List.set_cons_succ]
            refine hand_take 1 (some 93) (.int .i64 (i : Int)) rfl rfl (by kernel_rfl) (by kernel_rfl) (by kernel_rfl) (fun _ _ _ h => h) (Or.inl ⟨by kernel_rfl, fun x hSx => by have h : World.cell? x ⟨gx, 0, none⟩ = some (.int .i64 (i : Int)) := hSx.1.cell 0 _ rfl; go_simp⟩) hHeld ?_
            try simp only [Act.put, List.setIfInBounds_toArray, List.set_cons_zero, List.set_cons_succ]
            refine hand_take 2 (some 94) (.pointer (some ⟨gx, 1, none⟩)) rfl rfl (by kernel_rfl) (by kernel_rfl) (by kernel_rfl) (fun _ _ _ h => h) (Or.inl ⟨by kernel_rfl, fun x hSx => by go_simp⟩) hHeld ?_
            try simp only [Act.put, List.setIfInBounds_toArray, List.set_cons_zero, List.set_cons_succ]
            refine hand_take 3 (some 95) (.int .i64 (jj : Int)) rfl rfl (by kernel_rfl) (by kernel_rfl) (by kernel_rfl) (fun _ _ _ h => h) (Or.inl ⟨by kernel_rfl, fun x hSx => by have h : World.cell? x ⟨gx, 1, none⟩ = some (.int .i64 (jj : Int)) := hSx.1.cell 1 _ rfl; go_simp⟩) hHeld ?_
            try simp only [Act.put, List.setIfInBounds_toArray, List.set_cons_zero, List.set_cons_succ]
            refine hand_take 4 (some 96) (.slice (some ⟨gw, 0, none⟩) 4 4) rfl rfl (by kernel_rfl) (by kernel_rfl) (by kernel_rfl) (fun _ _ _ h => h) (Or.inl ⟨by kernel_rfl, fun x hSx => by go_simp⟩) hHeld ?_
            try simp only [Act.put, List.setIfInBounds_toArray, List.set_cons_zero, List.set_cons_succ]
            refine hand_take 5 (some 97) (.pointer (some ⟨gx, 0, none⟩)) rfl rfl (by kernel_rfl) (by kernel_rfl) (by kernel_rfl) (fun _ _ _ h => h) (Or.inl ⟨by kernel_rfl, fun x hSx => by go_simp⟩) hHeld ?_
            try simp only [Act.put, List.setIfInBounds_toArray, List.set_cons_zero, List.set_cons_succ]
            refine hand_take 6 (some 98) (.int .i64 (i : Int)) rfl rfl (by kernel_rfl) (by kernel_rfl) (by kernel_rfl) (fun _ _ _ h => h) (Or.inl ⟨by kernel_rfl, fun x hSx => by have h : World.cell? x ⟨gx, 0, none⟩ = some (.int .i64 (i : Int)) := hSx.1.cell 0 _ rfl; go_simp⟩) hHeld ?_
            try simp only [Act.put, List.setIfInBounds_toArray, List.set_cons_zero, List.set_cons_succ]
            refine hand_take 7 (some 99) (.pointer (some ⟨gx, 1, none⟩)) rfl rfl (by kernel_rfl) (by kernel_rfl) (by kernel_rfl) (fun _ _ _ h => h) (Or.inl ⟨by kernel_rfl, fun x hSx => by go_simp⟩) hHeld ?_
            try simp only [Act.put, List.setIfInBounds_toArray, List.set_cons_zero, List.set_cons_succ]
            refine hand_take 8 (some 100) (.int .i64 (jj : Int)) rfl rfl (by kernel_rfl) (by kernel_rfl) (by kernel_rfl) (fun _ _ _ h => h) (Or.inl ⟨by kernel_rfl, fun x hSx => by have h : World.cell? x ⟨gx, 1, none⟩ = some (.int .i64 (jj : Int)) := hSx.1.cell 1 _ rfl; go_simp⟩) hHeld ?_
            try simp only [Act.put, List.setIfInBounds_toArray, List.set_cons_zero, List.set_cons_succ]
            refine hand_take 9 (some 101) (.pointer (some ⟨gw, i * 17, none⟩)) rfl rfl (by kernel_rfl) (by kernel_rfl) (by kernel_rfl) (fun _ _ _ h => h) (Or.inl ⟨by kernel_rfl, fun x hSx => by go_simp⟩) hHeld ?_
            try simp only [Act.put, List.setIfInBounds_toArray, List.set_cons_zero, List.set_cons_succ]
            refine hand_take 10 (some 102) (.pointer (some ⟨gw, i * 17 + 1, none⟩)) rfl rfl (by kernel_rfl) (by kernel_rfl) (by kernel_rfl) (fun _ _ _ h => h) (Or.inl ⟨by kernel_rfl, fun x hSx => by go_simp⟩) hHeld ?_
            try simp only [Act.put, List.setIfInBounds_toArray, List.set_cons_zero, List.set_cons_succ]
            refine hand_take 11 (some 103) (.pointer (some ⟨gw, i * 17 + 1 + jj * 2, none⟩)) rfl rfl (by kernel_rfl) (by kernel_rfl) (by kernel_rfl) (fun _ _ _ h => h) (Or.inl ⟨by kernel_rfl, fun x hSx => by go_simp⟩) hHeld ?_
            try simp only [Act.put, List.setIfInBounds_toArray, List.set_cons_zero, List.set_cons_succ]
            refine hand_take 12 (some 104) (.agg (ceA ((W i).u jj) ((W i).s jj))) rfl rfl (by kernel_rfl) (by kernel_rfl) (by kernel_rfl) (fun _ _ _ h => h) (yieldsIf_load_run (by kernel_rfl) 32 _ rfl (.pointer (some ⟨gw, i * 17 + 1 + jj * 2, none⟩)) rfl _ (fun x hSx => load_cell4 x gw W i jj hi4 hj8 hSx.2.1)) hHeld ?_
            try simp only [Act.put, List.setIfInBounds_toArray, List.set_cons_zero, List.set_cons_succ]
            refine hand_take 13 (some 105) (.agg (ceA true v)) rfl rfl (by kernel_rfl) (by kernel_rfl) (by kernel_rfl) (fun _ _ _ h => h) (yieldsIf_load_run (by kernel_rfl) 32 _ rfl (.pointer (some ⟨gt, 0, none⟩)) rfl _ (fun x hSx => load_row x hSx.2.2 Try.underlying32 rfl infoCe)) hHeld ?_
            try simp only [Act.put, List.setIfInBounds_toArray, List.set_cons_zero, List.set_cons_succ]
            refine hand_two 14 18 (by kernel_rfl) ?_ ?_
            · refine hand_call (some 106) rfl rfl rfl 20 #[.int .i64 (i : Int), .int .i64 (jj : Int), .agg (ceA ((W i).u jj) ((W i).s jj)), .agg (ceA true v)] ?he ((cof_any (i : Int) (jj : Int) ((W i).u jj) ((W i).s jj) true v _).mono ?_)
              (case he => go_simp)
              rintro e w5 ⟨rfl, hb5⟩
              rw [HC.out.1, HC.out.2]
              have H5 := hide (And.intro (HD.out.1.later hb5) (And.intro (HD.out.2.1.later hb5) (HD.out.2.2.later hb5)))
              have hHeld5 := And.intro H5.out.2.1 (And.intro H5.out.1.r H5.out.2.2)
              clear hb5
              refine ⟨_, rfl, hHeld5, ?_⟩
              try simp only [Act.put, List.setIfInBounds_toArray, List.set_cons_zero, List.set_cons_succ]
              refine hand_take 15 (some 91) (.tuple #[.agg (chA C), .int .i64 E]) rfl rfl (by kernel_rfl) (by kernel_rfl) (by kernel_rfl) (fun _ _ _ h => h) (Or.inl ⟨by kernel_rfl, fun x hSx => by go_simp⟩) hHeld5 ?_
              try simp only [Act.put, List.setIfInBounds_toArray, List.set_cons_zero, List.set_cons_succ]
              refine hand_take 16 (some 107) (.agg (chA C)) rfl rfl (by kernel_rfl) (by kernel_rfl) (by kernel_rfl) (fun _ _ _ h => h) (Or.inl ⟨by kernel_rfl, fun x hSx => by go_simp⟩) hHeld5 ?_
              try simp only [Act.put, List.setIfInBounds_toArray, List.set_cons_zero, List.set_cons_succ]
              refine hand_take 17 (some 108) (.int .i64 E) rfl rfl (by kernel_rfl) (by kernel_rfl) (by kernel_rfl) (fun _ _ _ h => h) (Or.inl ⟨by kernel_rfl, fun x hSx => by go_simp⟩) hHeld5 ?_
              try simp only [Act.put, List.setIfInBounds_toArray, List.set_cons_zero, List.set_cons_succ]
              refine hand_one 18 (by kernel_rfl) ?_
              refine hand_run (some 9) rfl rfl rfl (.pointer (some ⟨w5.heap.size, 0, none⟩)) (w5.alloc (.cells (chA Ch.zero) 57)) ?hz ?_
              (case hz => go_simp; rfl)
              have hbA : Below w5.heap.size w5 (w5.alloc (.cells (chA Ch.zero) 57)) := (Below.refl _ _).alloc (Nat.le_refl _) _
              have H6 := hide (And.intro (H5.out.1.later hbA) (And.intro (H5.out.2.1.later hbA) (H5.out.2.2.later hbA)))
              have hZ6 := RowAt.new w5 57 (chA Ch.zero)
              have hlow6 : w.heap.size ≤ w5.heap.size := H5.out.1.k.bel.size
              clear hbA H5 hHeld5
              refine ⟨⟨H6.out.2.1, H6.out.1.r, H6.out.2.2⟩, ?_⟩
              try simp only [Act.put, List.setIfInBounds_toArray, List.set_cons_zero, List.set_cons_succ]
              refine hand_one 19 (by kernel_rfl) ?_
              refine hand_store rfl rfl rfl 57 (.tmp 9) (.tmp 107) rfl w5.heap.size 0 57 (chA Ch.zero) (chA C) rfl rfl hZ6 infoChS (by show 0 + 5 ≤ 5; omega) (chA_one C) ?_
              intro w7 hr7 ho7
              rw [partA_all (chA Ch.zero) (chA C) rfl] at hr7
              have H7 : Hid (TS w w7 gs gw s old tr W l ∧ RowAt w7 gx 55 #[.int .i64 (i : Int), .int .i64 (jj : Int), .int .i64 ma, .bool false, .string v, .bool false] ∧ RowAt w7 w5.heap.size 57 (chA C)) := hide ⟨H6.out.1.only hZ6 (by decide) (by decide) (by decide) hlow6 ho7, ho7.row H6.out.2.1 (fun e => by have := row_kind (e ▸ H6.out.2.1) hZ6; exact absurd this (by decide)), hr7⟩
              have hHeld7 := And.intro H7.out.2.1 (And.intro H7.out.1.r (ho7.row H6.out.2.2 (fun e => by have := row_kind (e ▸ H6.out.2.2) hZ6; exact absurd this (by decide))))
              refine ⟨hHeld7, ?_⟩
              try simp only [Act.put, List.setIfInBounds_toArray, List.set_cons_zero, List.set_cons_succ]
              refine hand_one 20 (by kernel_rfl) ?_
              refine hand_run (some 10) rfl rfl rfl (.int .i64 E) w7 ?hz ?_
              (case hz => go_simp)
              refine ⟨hHeld7, ?_⟩
              try simp only [Act.put, List.setIfInBounds_toArray, List.set_cons_zero, List.set_cons_succ]
              refine wpAnyH_done (by kernel_rfl) ?_ _
              refine NoPanic.normal ?_
              clear hHeld7 hr7 ho7 hZ6 hlow6 H6
              obtain ⟨g9, hg9⟩ : ∃ g9, w5.heap.size = g9 := ⟨_, rfl⟩
              rw [hg9] at H7 ⊢
              exact REST g9 w7 H7
            · refine hand_run (some 9) rfl rfl rfl (.pointer (some ⟨y.drew.heap.size, 0, none⟩)) (y.drew.alloc (.cells (chA Ch.zero) 57)) ?hz ?_
              (case hz => go_simp; rfl)
              have hbA : Below y.drew.heap.size y.drew (y.drew.alloc (.cells (chA Ch.zero) 57)) := (Below.refl _ _).alloc (Nat.le_refl _) _
              have H5a := hide (And.intro (HD.out.1.later hbA) (And.intro (HD.out.2.1.later hbA) (HD.out.2.2.later hbA)))
              have hZ5 := RowAt.new y.drew 57 (chA Ch.zero)
              clear hbA
              refine ⟨⟨H5a.out.2.1, H5a.out.1.r, H5a.out.2.2⟩, ?_⟩
              try simp only [Act.put, List.setIfInBounds_toArray, List.set_cons_zero, List.set_cons_succ]
              refine hand_one 14 (by kernel_rfl) ?_
              refine hand_call (some 106) rfl rfl rfl 20 #[.int .i64 (i : Int), .int .i64 (jj : Int), .agg (ceA ((W i).u jj) ((W i).s jj)), .agg (ceA true v)] ?he ((cof_any (i : Int) (jj : Int) ((W i).u jj) ((W i).s jj) true v _).mono ?_)
              (case he => go_simp)
              rintro e w5 ⟨rfl, hb5⟩
              rw [HC.out.1, HC.out.2]
              have H6 := hide (And.intro (H5a.out.1.later hb5) (And.intro (H5a.out.2.1.later hb5) (H5a.out.2.2.later hb5)))
              have hZ6 := hZ5.later hb5
              have hlow6 : w.heap.size ≤ y.drew.heap.size := HD.out.1.k.bel.size
              have hHeld5 := And.intro H6.out.2.1 (And.intro H6.out.1.r H6.out.2.2)
              clear hb5 hZ5 H5a
              refine ⟨_, rfl, hHeld5, ?_⟩
              try simp only [Act.put, List.setIfInBounds_toArray, List.set_cons_zero, List.set_cons_succ]
              refine hand_take 15 (some 91) (.tuple #[.agg (chA C), .int .i64 E]) rfl rfl (by kernel_rfl) (by kernel_rfl) (by kernel_rfl) (fun _ _ _ h => h) (Or.inl ⟨by kernel_rfl, fun x hSx => by go_simp⟩) hHeld5 ?_
              try simp only [Act.put, List.setIfInBounds_toArray, List.set_cons_zero, List.set_cons_succ]
              refine hand_take 16 (some 107) (.agg (chA C)) rfl rfl (by kernel_rfl) (by kernel_rfl) (by kernel_rfl) (fun _ _ _ h => h) (Or.inl ⟨by kernel_rfl, fun x hSx => by go_simp⟩) hHeld5 ?_
              try simp only [Act.put, List.setIfInBounds_toArray, List.set_cons_zero, List.set_cons_succ]
              refine hand_take 17 (some 108) (.int .i64 E) rfl rfl (by kernel_rfl) (by kernel_rfl) (by kernel_rfl) (fun _ _ _ h => h) (Or.inl ⟨by kernel_rfl, fun x hSx => by go_simp⟩) hHeld5 ?_
              try simp only [Act.put, List.setIfInBounds_toArray, List.set_cons_zero, List.set_cons_succ]
              refine hand_one 19 (by kernel_rfl) ?_
              refine hand_store rfl rfl rfl 57 (.tmp 9) (.tmp 107) rfl y.drew.heap.size 0 57 (chA Ch.zero) (chA C) rfl rfl hZ6 infoChS (by show 0 + 5 ≤ 5; omega) (chA_one C) ?_
              intro w7 hr7 ho7
              rw [partA_all (chA Ch.zero) (chA C) rfl] at hr7
              have H7 : Hid (TS w w7 gs gw s old tr W l ∧ RowAt w7 gx 55 #[.int .i64 (i : Int), .int .i64 (jj : Int), .int .i64 ma, .bool false, .string v, .bool false] ∧ RowAt w7 y.drew.heap.size 57 (chA C)) := hide ⟨H6.out.1.only hZ6 (by decide) (by decide) (by decide) hlow6 ho7, ho7.row H6.out.2.1 (fun e => by have := row_kind (e ▸ H6.out.2.1) hZ6; exact absurd this (by decide)), hr7⟩
              have hHeld7 := And.intro H7.out.2.1 (And.intro H7.out.1.r (ho7.row H6.out.2.2 (fun e => by have := row_kind (e ▸ H6.out.2.2) hZ6; exact absurd this (by decide))))
              refine ⟨hHeld7, ?_⟩
              try simp only [Act.put, List.setIfInBounds_toArray, List.set_cons_zero, List.set_cons_succ]
              refine hand_one 20 (by kernel_rfl) ?_
              refine hand_run (some 10) rfl rfl rfl (.int .i64 E) w7 ?hz ?_
              (case hz => go_simp)
              refine ⟨hHeld7, ?_⟩
              try simp only [Act.put, List.setIfInBounds_toArray, List.set_cons_zero, List.set_cons_succ]
              refine wpAnyH_done (by kernel_rfl) ?_ _
              refine NoPanic.normal ?_
              clear hHeld7 hr7 ho7 hZ6 hlow6 H6
              obtain ⟨g9, hg9⟩ : ∃ g9, y.drew.heap.size = g9 := ⟨_, rfl⟩
              rw [hg9] at H7 ⊢
              exact REST g9 w7 H7)
          clear HD
          intro g9 z H9
          have HRT := hide (H9.out.1.t.rt i hi4)
          have hcW : World.cell? z ⟨gw, i * 17 + 1 + jj * 2, none⟩ = some (.bool ((W i).u jj)) := by
            have h := H9.out.1.r.cell (i * 17 + 1 + jj * 2) (.bool ((W i).u jj)) (by
              rw [show i * 17 + 1 + jj * 2 = i * 17 + (1 + jj * 2) by omega, w4_get W i _ hi4 (by omega)]
              have hd : jj = 0 ∨ jj = 1 ∨ jj = 2 ∨ jj = 3 ∨ jj = 4 ∨ jj = 5 ∨ jj = 6 ∨ jj = 7 := by omega
              rcases hd with rfl | rfl | rfl | rfl | rfl | rfl | rfl | rfl <;> rfl)
            exact h
          have d0 : World.cell? z ⟨gx, 0, none⟩ = some (.int .i64 (i : Int)) := H9.out.2.1.cell 0 _ rfl
          have d1 : World.cell? z ⟨gx, 1, none⟩ = some (.int .i64 (jj : Int)) := H9.out.2.1.cell 1 _ rfl
          have d2 : World.cell? z ⟨gx, 2, none⟩ = some (.int .i64 ma) := H9.out.2.1.cell 2 _ rfl
          have d3 : World.cell? z ⟨gx, 3, none⟩ = some (.bool false) := H9.out.2.1.cell 3 _ rfl
          have d4 : World.cell? z ⟨gx, 4, none⟩ = some (.string v) := H9.out.2.1.cell 4 _ rfl
          by_cases hE : E = 0
          · subst hE
            have HF := hide (of_fits (W i) i jj l hi4 hj8 HRT.out.1 HRT.out.2 (by unfold maxP; omega) true v HC.out.2)
            rw [HC.out.1] at HF
            obtain ⟨P, hP⟩ : ∃ P, appP (W i) C (l + 1) = P := ⟨_, rfl⟩
            rw [hP] at HF
            have HP := hide hP
            clear hP hcW d1 d2 d3 d4 n8
            have ew : IntKind.u64.wrap ((l : Int) + 1) = (l : Int) + 1 := by rw [IntKind.wrap_u64]; omega
            go_wp2_with fail
            refine gen_wp (fun x => Hid (TS w x gs gw s old tr W l ∧ RowAt x gx 55 #[.int .i64 (i : Int), .int .i64 (jj : Int), .int .i64 ma, .bool false, .string v, .bool false] ∧ RowAt x g9 57 (chA C))) H9 ?_
            clear H9 d0 z
            intro y H
            have HD : Hid (TS w y.drew gs gw s old tr W l ∧ RowAt y.drew gx 55 #[.int .i64 (i : Int), .int .i64 (jj : Int), .int .i64 ma, .bool false, .string v, .bool false] ∧ RowAt y.drew g9 57 (chA C)) := hide ⟨H.out.1.later (below_dn (Below.refl _ _) 1), H.out.2.1, H.out.2.2⟩
            clear H
            have n4 : ¬ (4 : Int) ≤ (i : Int) := by omega
            have A : ∀ x, Calls Try.prog 21 #[.agg (pgA (W i)), .agg (chA C), .int .u64 ((l + 1 : Nat) : Int)] x fun e w' => e = .returned (.tuple #[.agg (pgA P), .int .i64 0]) ∧ Below x.heap.size x w' := fun x => by
              have h := apply_any (W i) C (l + 1) x (by omega)
              rw [HP.out, HF.out.1] at h
              exact h
            have HAP := hide A
            clear A
            apply share2 (F := fun g z => Hid (TS w z gs gw s old tr W l ∧ RowAt z gx 55 #[.int .i64 (i : Int), .int .i64 (jj : Int), .int .i64 ma, .bool false, .string v, .bool false] ∧ PgAt z g P ∧ w.heap.size ≤ g))
            (case h =>
              intro REST
              refine wp_region_noPanic ?_
              refine wp_region_held_drew (S := fun z => RowAt z gx 55 #[.int .i64 (i : Int), .int .i64 (jj : Int), .int .i64 ma, .bool false, .string v, .bool false] ∧ RowAt z gw 35 (w4A W) ∧ RowAt z g9 57 (chA C)) (by kernel_rfl) ⟨HD.out.2.1, HD.out.1.r, HD.out.2.2⟩ (fun hHeld => ?_)
              refine hand_take 0 (some 139) (.slice (some ⟨gw, 0, none⟩) 4 4) rfl rfl (by kernel_rfl) (by kernel_rfl) (by kernel_rfl) (fun _ _ _ h => h) (Or.inl ⟨by kernel_rfl, fun x hSx => by go_simp⟩) hHeld ?_
              try simp only [Act.put, List.setIfInBounds_toArray, List.set_cons_zero, List.set_cons_succ]
              refine hand_take 1 (some 140) (.pointer (some ⟨gx, 0, none⟩)) rfl rfl (by kernel_rfl) (by kernel_rfl) (by kernel_rfl) (fun _ _ _ h => h) (Or.inl ⟨by kernel_rfl, fun x hSx => by go_simp⟩) hHeld ?_
              try simp only [Act.put, List.setIfInBounds_toArray, List.set_cons_zero, List.set_cons_succ]
              refine hand_take 2 (some 141) (.int .i64 (i : Int)) rfl rfl (by kernel_rfl) (by kernel_rfl) (by kernel_rfl) (fun _ _ _ h => h) (Or.inl ⟨by kernel_rfl, fun x hSx => by have h : World.cell? x ⟨gx, 0, none⟩ = some (.int .i64 (i : Int)) := hSx.1.cell 0 _ rfl; go_simp⟩) hHeld ?_
              try simp only [Act.put, List.setIfInBounds_toArray, List.set_cons_zero, List.set_cons_succ]
              refine hand_take 3 (some 142) (.pointer (some ⟨gw, i * 17, none⟩)) rfl rfl (by kernel_rfl) (by kernel_rfl) (by kernel_rfl) (fun _ _ _ h => h) (Or.inl ⟨by kernel_rfl, fun x hSx => by go_simp⟩) hHeld ?_
              try simp only [Act.put, List.setIfInBounds_toArray, List.set_cons_zero, List.set_cons_succ]
              refine hand_take 4 (some 143) (.agg (pgA (W i))) rfl rfl (by kernel_rfl) (by kernel_rfl) (by kernel_rfl) (fun _ _ _ h => h) (yieldsIf_load_run (by kernel_rfl) 35 _ rfl (.pointer (some ⟨gw, i * 17, none⟩)) rfl _ (fun x hSx => load_page4 x gw W i hi4 hSx.2.1)) hHeld ?_
              try simp only [Act.put, List.setIfInBounds_toArray, List.set_cons_zero, List.set_cons_succ]
              refine hand_take 5 (some 144) (.agg (chA C)) rfl rfl (by kernel_rfl) (by kernel_rfl) (by kernel_rfl) (fun _ _ _ h => h) (yieldsIf_load_run (by kernel_rfl) 57 _ rfl (.pointer (some ⟨g9, 0, none⟩)) rfl _ (fun x hSx => load_row x hSx.2.2 Try.underlying57 rfl infoChS)) hHeld ?_
              try simp only [Act.put, List.setIfInBounds_toArray, List.set_cons_zero, List.set_cons_succ]
              refine hand_take 6 (some 145) (.int .u64 ((l + 1 : Nat) : Int)) rfl rfl (by kernel_rfl) (by kernel_rfl) (by kernel_rfl) (fun _ _ _ h => h) (Or.inl ⟨by kernel_rfl, fun x hSx => by go_simp⟩) hHeld ?_
              try simp only [Act.put, List.setIfInBounds_toArray, List.set_cons_zero, List.set_cons_succ]
              refine hand_two 7 11 (by kernel_rfl) ?_ ?_
              · refine hand_call (some 146) rfl rfl rfl 21 #[.agg (pgA (W i)), .agg (chA C), .int .u64 ((l + 1 : Nat) : Int)] ?he ((HAP.out _).mono ?_)
                (case he => go_simp)
                rintro e w5 ⟨rfl, hb5⟩
                have H5 := hide (And.intro (HD.out.1.later hb5) (And.intro (HD.out.2.1.later hb5) (HD.out.2.2.later hb5)))
                have hHeld5 := And.intro H5.out.2.1 (And.intro H5.out.1.r H5.out.2.2)
                clear hb5
                refine ⟨_, rfl, hHeld5, ?_⟩
                try simp only [Act.put, List.setIfInBounds_toArray, List.set_cons_zero, List.set_cons_succ]
                refine hand_take 8 (some 138) (.tuple #[.agg (pgA P), .int .i64 0]) rfl rfl (by kernel_rfl) (by kernel_rfl) (by kernel_rfl) (fun _ _ _ h => h) (Or.inl ⟨by kernel_rfl, fun x hSx => by go_simp⟩) hHeld5 ?_
                try simp only [Act.put, List.setIfInBounds_toArray, List.set_cons_zero, List.set_cons_succ]
                refine hand_take 9 (some 147) (.agg (pgA P)) rfl rfl (by kernel_rfl) (by kernel_rfl) (by kernel_rfl) (fun _ _ _ h => h) (Or.inl ⟨by kernel_rfl, fun x hSx => by go_simp⟩) hHeld5 ?_
                try simp only [Act.put, List.setIfInBounds_toArray, List.set_cons_zero, List.set_cons_succ]
                refine hand_take 10 (some 148) (.int .i64 0) rfl rfl (by kernel_rfl) (by kernel_rfl) (by kernel_rfl) (fun _ _ _ h => h) (Or.inl ⟨by kernel_rfl, fun x hSx => by go_simp⟩) hHeld5 ?_
                try simp only [Act.put, List.setIfInBounds_toArray, List.set_cons_zero, List.set_cons_succ]
                refine hand_one 11 (by kernel_rfl) ?_
                refine hand_run (some 11) rfl rfl rfl (.pointer (some ⟨w5.heap.size, 0, none⟩)) (w5.alloc (.cells (pgA Pg.zero) 35)) ?hz ?_
                (case hz => go_simp; rfl)
                have hbA : Below w5.heap.size w5 (w5.alloc (.cells (pgA Pg.zero) 35)) := (Below.refl _ _).alloc (Nat.le_refl _) _
                have H6 := hide (And.intro (H5.out.1.later hbA) (And.intro (H5.out.2.1.later hbA) (And.intro (H5.out.2.2.later hbA) (show gw < w5.heap.size from H5.out.1.r.lt))))
                have hZ6 := RowAt.new w5 35 (pgA Pg.zero)
                have hlow6 : w.heap.size ≤ w5.heap.size := H5.out.1.k.bel.size
                clear hbA H5 hHeld5
                refine ⟨⟨H6.out.2.1, H6.out.1.r, H6.out.2.2.1⟩, ?_⟩
                try simp only [Act.put, List.setIfInBounds_toArray, List.set_cons_zero, List.set_cons_succ]
                refine hand_one 12 (by kernel_rfl) ?_
                refine hand_store rfl rfl rfl 35 (.tmp 11) (.tmp 147) rfl w5.heap.size 0 35 (pgA Pg.zero) (pgA P) rfl rfl hZ6 infoPg10 (by show 0 + 17 ≤ 17; omega) (pgA_one P) ?_
                intro w7 hr7 ho7
                rw [partA_all (pgA Pg.zero) (pgA P) rfl] at hr7
                have hne7 : gw ≠ w5.heap.size := fun e => by
                  have h := H6.out.2.2.2
                  omega
                have H7 : Hid (TS w w7 gs gw s old tr W l ∧ RowAt w7 gx 55 #[.int .i64 (i : Int), .int .i64 (jj : Int), .int .i64 ma, .bool false, .string v, .bool false] ∧ PgAt w7 w5.heap.size P ∧ w.heap.size ≤ w5.heap.size) := hide ⟨⟨H6.out.1.k.only hZ6 (by decide) (by decide) hlow6 ho7, H6.out.1.t, ho7.row H6.out.1.r hne7, H6.out.1.lo⟩, ho7.row H6.out.2.1 (fun e => by have := row_kind (e ▸ H6.out.2.1) hZ6; exact absurd this (by decide)), hr7, hlow6⟩
                have hHeld7 := And.intro H7.out.2.1 (And.intro H7.out.1.r (ho7.row H6.out.2.2.1 (fun e => by have := row_kind (e ▸ H6.out.2.2.1) hZ6; exact absurd this (by decide))))
                refine ⟨hHeld7, ?_⟩
                try simp only [Act.put, List.setIfInBounds_toArray, List.set_cons_zero, List.set_cons_succ]
                refine hand_one 13 (by kernel_rfl) ?_
                refine hand_run (some 12) rfl rfl rfl (.int .i64 0) w7 ?hz ?_
                (case hz => go_simp)
                refine ⟨hHeld7, ?_⟩
                try simp only [Act.put, List.setIfInBounds_toArray, List.set_cons_zero, List.set_cons_succ]
                refine wpAnyH_done (by kernel_rfl) ?_ _
                refine NoPanic.normal ?_
                clear hHeld7 hr7 ho7 hZ6 hlow6 H6 hne7
                obtain ⟨g11, hg11⟩ : ∃ g11, w5.heap.size = g11 := ⟨_, rfl⟩
                rw [hg11] at H7 ⊢
                exact REST g11 w7 H7
              · refine hand_run (some 11) rfl rfl rfl (.pointer (some ⟨y.drew.heap.size, 0, none⟩)) (y.drew.alloc (.cells (pgA Pg.zero) 35)) ?hz ?_
                (case hz => go_simp; rfl)
                have hbA : Below y.drew.heap.size y.drew (y.drew.alloc (.cells (pgA Pg.zero) 35)) := (Below.refl _ _).alloc (Nat.le_refl _) _
                have H5a := hide (And.intro (HD.out.1.later hbA) (And.intro (HD.out.2.1.later hbA) (HD.out.2.2.later hbA)))
                have hZ5 := RowAt.new y.drew 35 (pgA Pg.zero)
                clear hbA
                refine ⟨⟨H5a.out.2.1, H5a.out.1.r, H5a.out.2.2⟩, ?_⟩
                try simp only [Act.put, List.setIfInBounds_toArray, List.set_cons_zero, List.set_cons_succ]
                refine hand_one 7 (by kernel_rfl) ?_
                refine hand_call (some 146) rfl rfl rfl 21 #[.agg (pgA (W i)), .agg (chA C), .int .u64 ((l + 1 : Nat) : Int)] ?he ((HAP.out _).mono ?_)
                (case he => go_simp)
                rintro e w5 ⟨rfl, hb5⟩
                have H6 := hide (And.intro (H5a.out.1.later hb5) (And.intro (H5a.out.2.1.later hb5) (And.intro (H5a.out.2.2.later hb5) (show gw < y.drew.heap.size from HD.out.1.r.lt))))
                have hZ6 := hZ5.later hb5
                have hlow6 : w.heap.size ≤ y.drew.heap.size := HD.out.1.k.bel.size
                have hHeld5 := And.intro H6.out.2.1 (And.intro H6.out.1.r H6.out.2.2.1)
                clear hb5 hZ5 H5a
                refine ⟨_, rfl, hHeld5, ?_⟩
                try simp only [Act.put, List.setIfInBounds_toArray, List.set_cons_zero, List.set_cons_succ]
                refine hand_take 8 (some 138) (.tuple #[.agg (pgA P), .int .i64 0]) rfl rfl (by kernel_rfl) (by kernel_rfl) (by kernel_rfl) (fun _ _ _ h => h) (Or.inl ⟨by kernel_rfl, fun x hSx => by go_simp⟩) hHeld5 ?_
                try simp only [Act.put, List.setIfInBounds_toArray, List.set_cons_zero, List.set_cons_succ]
                refine hand_take 9 (some 147) (.agg (pgA P)) rfl rfl (by kernel_rfl) (by kernel_rfl) (by kernel_rfl) (fun _ _ _ h => h) (Or.inl ⟨by kernel_rfl, fun x hSx => by go_simp⟩) hHeld5 ?_
                try simp only [Act.put, List.setIfInBounds_toArray, List.set_cons_zero, List.set_cons_succ]
                refine hand_take 10 (some 148) (.int .i64 0) rfl rfl (by kernel_rfl) (by kernel_rfl) (by kernel_rfl) (fun _ _ _ h => h) (Or.inl ⟨by kernel_rfl, fun x hSx => by go_simp⟩) hHeld5 ?_
                try simp only [Act.put, List.setIfInBounds_toArray, List.set_cons_zero, List.set_cons_succ]
                refine hand_one 12 (by kernel_rfl) ?_
                refine hand_store rfl rfl rfl 35 (.tmp 11) (.tmp 147) rfl y.drew.heap.size 0 35 (pgA Pg.zero) (pgA P) rfl rfl hZ6 infoPg10 (by show 0 + 17 ≤ 17; omega) (pgA_one P) ?_
                intro w7 hr7 ho7
                rw [partA_all (pgA Pg.zero) (pgA P) rfl] at hr7
                have hne7 : gw ≠ y.drew.heap.size := fun e => by
                  have h := H6.out.2.2.2
                  omega
                have H7 : Hid (TS w w7 gs gw s old tr W l ∧ RowAt w7 gx 55 #[.int .i64 (i : Int), .int .i64 (jj : Int), .int .i64 ma, .bool false, .string v, .bool false] ∧ PgAt w7 y.drew.heap.size P ∧ w.heap.size ≤ y.drew.heap.size) := hide ⟨⟨H6.out.1.k.only hZ6 (by decide) (by decide) hlow6 ho7, H6.out.1.t, ho7.row H6.out.1.r hne7, H6.out.1.lo⟩, ho7.row H6.out.2.1 (fun e => by have := row_kind (e ▸ H6.out.2.1) hZ6; exact absurd this (by decide)), hr7, hlow6⟩
                have hHeld7 := And.intro H7.out.2.1 (And.intro H7.out.1.r (ho7.row H6.out.2.2.1 (fun e => by have := row_kind (e ▸ H6.out.2.2.1) hZ6; exact absurd this (by decide))))
                refine ⟨hHeld7, ?_⟩
                try simp only [Act.put, List.setIfInBounds_toArray, List.set_cons_zero, List.set_cons_succ]
                refine hand_one 13 (by kernel_rfl) ?_
                refine hand_run (some 12) rfl rfl rfl (.int .i64 0) w7 ?hz ?_
                (case hz => go_simp)
                refine ⟨hHeld7, ?_⟩
                try simp only [Act.put, List.setIfInBounds_toArray, List.set_cons_zero, List.set_cons_succ]
                refine wpAnyH_done (by kernel_rfl) ?_ _
                refine NoPanic.normal ?_
                clear hHeld7 hr7 ho7 hZ6 hlow6 H6 hne7
                obtain ⟨g11, hg11⟩ : ∃ g11, y.drew.heap.size = g11 := ⟨_, rfl⟩
                rw [hg11] at H7 ⊢
                exact REST g11 w7 H7)
            clear HD HAP
            intro g11 z H11
            go_wp2_with (refine wpList_load_page rfl _ rfl g11 rfl P H11.out.2.2.1 ?_)
            refine (right_any P _).mono ?_
            rintro e w6 ⟨rfl, hb6⟩
            rw [decide_eq_true HF.out.2.1]
            have H12 : Hid (TS w w6 gs gw s old tr W l ∧ RowAt w6 gx 55 #[.int .i64 (i : Int), .int .i64 (jj : Int), .int .i64 ma, .bool false, .string v, .bool false] ∧ PgAt w6 g11 P ∧ w.heap.size ≤ g11) := hide ⟨H11.out.1.later hb6, H11.out.2.1.later hb6, H11.out.2.2.1.below hb6 H11.out.2.2.1.lt, H11.out.2.2.2⟩
            clear hb6 H11
            have d0 : World.cell? w6 ⟨gx, 0, none⟩ = some (.int .i64 (i : Int)) := H12.out.2.1.cell 0 _ rfl
            have d2 : World.cell? w6 ⟨gx, 2, none⟩ = some (.int .i64 ma) := H12.out.2.1.cell 2 _ rfl
            go_wp2_with (refine wpList_load_page rfl _ rfl g11 rfl P H12.out.2.2.1 ?_)
            refine (H12.out.1.write i hi4 P ma HF.out.2.1 HF.out.2.2).mono ?_
            rintro e w7 ⟨rfl, ⟨s', old', tr', hk7, ht7⟩, hr7, hsd⟩
            have H13 : Hid (K10 w w7 gs s' old' tr' ∧ RowAt w7 gw 35 (w4A W) ∧ RowAt w7 gx 55 #[.int .i64 (i : Int), .int .i64 (jj : Int), .int .i64 ma, .bool false, .string v, .bool false] ∧ PgAt w7 g11 P) := hide ⟨hk7, hr7, hsd.row H12.out.2.1 (by decide) (by decide), hsd.page H12.out.2.2.1⟩
            have HLO := hide H12.out.1.lo
            have d0' : World.cell? w7 ⟨gx, 0, none⟩ = some (.int .i64 (i : Int)) := H13.out.2.2.1.cell 0 _ rfl
            have d2' : World.cell? w7 ⟨gx, 2, none⟩ = some (.int .i64 ma) := H13.out.2.2.1.cell 2 _ rfl
            have HT7 := hide ht7
            clear hk7 ht7 hr7 hsd H12 d0 d2
            generalize s.wE 0 i P ma = E7 at *
            by_cases q : E7 = 0 ∨ (E7 = 9 ∧ 3 < ma)
            · rw [if_pos q] at HT7
              have store : Hid (∀ w8, RowAt w8 gw 35 (partA (w4A W) (i * 17) (pgA P).toList) → Only gw w7 w8 → ∃ s old tr W', TS w w8 gs gw s old tr W' (l + 1)) := hide fun w8 h1 h2 => ⟨s', old', tr', put1 W i P, H13.out.1.only H13.out.2.1 (by decide) (by decide) HLO.out h2, HT7.out, by rw [← w4_put W i hi4 P]; exact h1, HLO.out⟩
              have HR7 := hide H13.out.2.1
              have HG7 := hide H13.out.2.2.2
              clear H13 HT7 HLO
              by_cases q0 : E7 = 0
              · subst q0
                clear q
                go_wp2_with (first | (refine wpList_load_page rfl _ rfl g11 rfl P HG7.out ?_) | (refine wpList_store_part rfl 35 _ _ rfl gw (i * 17) 35 (w4A W) (pgA P) rfl rfl HR7.out infoPg10 (by rw [w4_size]; show i * 17 + 17 ≤ 68; omega) (pgA_one P) ?_; intro w8 hr8 ho8; have H8 := hide (store.out w8 hr8 ho8); clear hr8 ho8 d0' d2' HR7 HG7 store; refine stop10 ?_))
                refine unstop10 ?_
                go_wp2
                go_roundw
                case rel => exact ⟨j + 1, l + 1, by omega, by omega, by go_num, by go_num, H8⟩
                case measure => simp [intOf]; omega
              · obtain ⟨q1, q2⟩ := q.resolve_left q0
                subst q1
                clear q q0
                go_wp2_with (first | (refine wpList_load_page rfl _ rfl g11 rfl P HG7.out ?_) | (refine wpList_store_part rfl 35 _ _ rfl gw (i * 17) 35 (w4A W) (pgA P) rfl rfl HR7.out infoPg10 (by rw [w4_size]; show i * 17 + 17 ≤ 68; omega) (pgA_one P) ?_; intro w8 hr8 ho8; have H8 := hide (store.out w8 hr8 ho8); clear hr8 ho8 d0' d2' HR7 HG7 store; refine stop10 ?_))
                refine unstop10 ?_
                go_wp2
                go_roundw
                case rel => exact ⟨j + 1, l + 1, by omega, by omega, by go_num, by go_num, H8⟩
                case measure => simp [intOf]; omega
            · rw [if_neg q] at HT7
              have H8 : Hid (∃ s old tr W', TS w w7 gs gw s old tr W' (l + 1)) := hide ⟨s', old', tr', W, H13.out.1, HT7.out, H13.out.2.1, HLO.out⟩
              have q0 : ¬ E7 = 0 := fun c => q (.inl c)
              have q0b : (E7 == 0) = false := by simpa using q0
              by_cases q9 : E7 = 9
              · subst q9
                have q3 : ¬ 3 < ma := fun c => q (.inr ⟨rfl, c⟩)
                clear q H13 HT7 HLO
                go_wp2
                go_roundw
                case rel => exact ⟨j + 1, l + 1, by omega, by omega, by go_num, by go_num, H8⟩
                case measure => simp [intOf]; omega
              · have q9b : (E7 == 9) = false := by simpa using q9
                clear q H13 HT7 HLO
                go_wp2
                go_roundw
                case rel => exact ⟨j + 1, l + 1, by omega, by omega, by go_num, by go_num, H8⟩
                case measure => simp [intOf]; omega
          · have hE2 : (E == 0) = false := by simpa using hE
            have hE3 : (E != 0) = true := by simpa using hE
            have HN := hide (of_not (W i) i jj hi4 hj8 HRT.out.1 false v (by
              have h := HC.out.2
              intro c
              exact hE (h.symm.trans c)))
            have i4 : (i : Int) < 4 := by omega
            have j8 : (jj : Int) < 8 := by omega
            have hu := HN.out.1 rfl
            have hu2 : ¬ (v.size : Int) ≤ 20 := by omega
            have hu3 : ¬ v.size ≤ 20 := by omega
            have HLE := hide (show ∀ y : World, (binOp .leq 3 (.int .i64 (v.size : Int)) (.int .i64 20)).run Try.prog y = .ok (.bool false) y from fun y => by go_simp)
            have HLG := hide (show ∀ (y : World) (x x' : Operand), (eqGuard .leq 3 x x' (.int .i64 (v.size : Int)) (.int .i64 20)).run Try.prog y = .ok () y from fun y x x' => by go_simp)
            clear hE HN hcW d0 d1 d2 d3 d4
            go_wp2_with fail
            refine wp_region_in (fun y => TS w y gs gw s old tr W l ∧ RowAt y gx 55 #[.int .i64 (i : Int), .int .i64 (jj : Int), .int .i64 ma, .bool false, .string v, .bool false]) (by kernel_rfl) (by kernel_rfl) ⟨H9.out.1.later (below_dn (Below.refl _ _) 1), H9.out.2.1⟩ ?_
            clear H9
            repeat (first
              | go_big_quiet_skip
              | (refine wpQuiet_load rfl 4 (.tmp 111) rfl _ (.bool false) rfl (fun y hy => load10_b y false (hy.2.cell 3 _ rfl)) ?_; simp only [Act.put, Array.setIfInBounds, List.size_toArray, List.length_cons, List.length_nil, Nat.reduceAdd, Nat.reduceLT, ↓reduceDIte, List.set_toArray, List.set_cons_succ, List.set_cons_zero])
              | (refine wpQuiet_load rfl 4 (.tmp 121) rfl _ (.bool false) rfl (fun y hy => load10_b y false (hy.2.cell 3 _ rfl)) ?_; simp only [Act.put, Array.setIfInBounds, List.size_toArray, List.length_cons, List.length_nil, Nat.reduceAdd, Nat.reduceLT, ↓reduceDIte, List.set_toArray, List.set_cons_succ, List.set_cons_zero])
              | (refine wpQuiet_load rfl 9 (.tmp 115) rfl _ (.string v) rfl (fun y hy => load10_s y v (hy.2.cell 4 _ rfl)) ?_; simp only [Act.put, Array.setIfInBounds, List.size_toArray, List.length_cons, List.length_nil, Nat.reduceAdd, Nat.reduceLT, ↓reduceDIte, List.set_toArray, List.set_cons_succ, List.set_cons_zero])
              | (refine wpQuiet_binop rfl .leq 3 _ _ _ rfl (.int .i64 (v.size : Int)) (.int .i64 20) (.bool false) rfl rfl (fun y _ => HLG.out y _ _) (fun y _ => HLE.out y) ?_; simp only [Act.put, Array.setIfInBounds, List.size_toArray, List.length_cons, List.length_nil, Nat.reduceAdd, Nat.reduceLT, ↓reduceDIte, List.set_toArray, List.set_cons_succ, List.set_cons_zero])
              | (refine wpQuiet_plain rfl (fun K hK => ?_); go_simp; refine hK _ ?_; clear hK K))
            refine wpQuiet_nil ?_
            intro y hy
            have HY := hide hy.1
            clear hy HLE HLG
            go_wp2
            go_roundw
            case rel => exact ⟨j + 1, l, by omega, by omega, by go_num, rfl, ⟨_, _, _, _, HY.out⟩⟩
            case measure => simp [intOf]; omega
    · have i1 : ¬ (j : Int) < ln := by omega
      clear HS
      go_wp2_with fail
      have T := HT.out.mend 3
      rw [HT.out.t.last] at T
      refine T.mono ?_
      rintro e w4 ⟨rfl, ⟨old', tr', h4⟩, -⟩
      have HDN := hide (fun k hk => h4.t.done (s.mend_in 3 HT.out.t.last) k hk)
      have H4 := hide h4
      clear h4 T HT i1 hlt hj hlj
      generalize s.mS 0 3 = s1 at *
      go_wp2
      go_loopw [185] (fun v wz => ∃ m : Nat, m ≤ 4 ∧ v = .int .i64 m ∧ Hid (TS w wz gs gw s1 old' tr' W l)) (fun v _ => 4 - (intOf v).toNat)
      case atStart => exact ⟨0, Nat.zero_le _, rfl, H4⟩
      case round =>
        obtain ⟨m, hm, rfl, HM⟩ := hrel
        clear H4
        by_cases hlt : m < 4
        · have i1 : (m : Int) < 4 := by omega
          have n4 : ¬ (4 : Int) ≤ (m : Int) := by omega
          have hmn : m < s1.n := by rw [HM.out.t.n]; exact hlt
          obtain ⟨Q, hQ⟩ : ∃ Q, old' m = Q := ⟨_, rfl⟩
          have HQ := hide hQ
          have hq := HDN.out m hlt
          have HW := hide (show W m = Q from hq.2.trans hQ)
          have hrQ : Q.right := by rw [← hQ]; exact HM.out.t.ok.rt m hmn
          have hl := HM.out.t.ok.lie m hmn hq.1
          rw [hQ] at hl
          have hdi := dec_image (m : Int) Q (by omega) hrQ
          rw [Int.toNat_natCast, ← hl] at hdi
          have HDI := hide hdi
          have HRQ := hide hrQ
          have HTN := hide hq.1
          clear hQ hq hl hdi hrQ
          go_wp2_with fail
          refine (HM.out.k.image m hmn).mono ?_
          rintro e w5 ⟨v5, rfl, ho5, hb5⟩
          obtain ⟨a5, c5, rfl, hc5, hB5⟩ := shape_isB ho5
          have H5 := hide (HM.out.later hb5)
          have HB5 := hide hB5
          clear ho5 hb5 hB5 HM
          go_wp2_with fail
          have T := dec_any (m : Int) a5 256 c5 (s1.pl m) w5 HB5.out (by omega) hc5
          rw [HDI.out.1, HDI.out.2] at T
          refine T.mono ?_
          rintro e w6 ⟨rfl, hb6⟩
          have H6 := hide (H5.out.later hb6)
          clear hb6 T H5 HB5
          go_wp2_with (refine wpList_store_page rfl _ _ rfl w6.heap.size Pg.zero Q rfl rfl (heap_alloc_new w6 _) ?_; intro w7 hP7 hk7; refine stop10 ?_)
          have hb7 := hk7 _ _ ((Below.refl _ _).alloc (Nat.le_refl _) _) (Nat.le_refl _)
          obtain ⟨g7, hg7⟩ : ∃ g7, w6.heap.size = g7 := ⟨_, rfl⟩
          have H7 := hide (And.intro (H6.out.later hb7) hP7)
          rw [hg7] at H7 ⊢
          clear hP7 hk7 hb7 hg7 H6
          refine unstop10 ?_
          go_wp2_with fail
          have T := H7.out.1.k.read m hmn HTN.out
          rw [HQ.out] at T
          refine T.mono ?_
          rintro e w8 ⟨rfl, hb8⟩
          have H8 := hide (And.intro (H7.out.1.later hb8) (H7.out.2.below hb8 H7.out.2.lt))
          clear hb8 T H7
          go_wp2_with (refine wpList_store_page rfl _ _ rfl w8.heap.size Pg.zero Q rfl rfl (heap_alloc_new w8 _) ?_; intro w9 hP9 hk9; refine stop10 ?_)
          have hb9 := hk9 _ _ ((Below.refl _ _).alloc (Nat.le_refl _) _) (Nat.le_refl _)
          obtain ⟨g9, hg9⟩ : ∃ g9, w8.heap.size = g9 := ⟨_, rfl⟩
          have H9 := hide (And.intro (H8.out.1.later hb9) (And.intro (H8.out.2.below hb9 H8.out.2.lt) hP9))
          rw [hg9] at H9 ⊢
          clear hP9 hk9 hb9 hg9 H8
          refine unstop10 ?_
          have neq : ∀ y : World, (binOp .neq 35 (.agg (pgA Q)) (.agg (pgA Q))).run Try.prog y = .ok (.bool false) y := fun y => by
            have h := run_page_neq Q Q HRQ.out.fits HRQ.out.fits y
            rw [decide_eq_true (Pg.same.refl Q)] at h
            exact h
          have HNQ := hide neq
          have HLW := hide (fun (y : World) (h : RowAt y gw 35 (w4A W)) => show (Instr.loadAt 35 (.pointer (some ⟨gw, m * 17, none⟩))).run Try.prog y = .ok (.agg (pgA Q)) y from by
            have h := load_page4 y gw W m hlt h
            rw [HW.out] at h
            exact h)
          clear neq
          go_wp2_with fail
          refine wp_region_in (fun y => TS w y gs gw s1 old' tr' W l ∧ PgAt y g7 Q ∧ PgAt y g9 Q) (by kernel_rfl) (by kernel_rfl) ⟨H9.out.1.later (below_dn (Below.refl _ _) 1), H9.out.2.1, H9.out.2.2⟩ ?_
          clear H9
          repeat (first
            | go_big_quiet_skip
            | (refine wpQuiet_load rfl 35 (.tmp 17) rfl _ (.agg (pgA Q)) rfl (fun y hy => load_page y hy.2.1) ?_; simp only [Act.put, Array.setIfInBounds, List.size_toArray, List.length_cons, List.length_nil, Nat.reduceAdd, Nat.reduceLT, ↓reduceDIte, List.set_toArray, List.set_cons_succ, List.set_cons_zero])
            | (refine wpQuiet_load rfl 35 (.tmp 19) rfl _ (.agg (pgA Q)) rfl (fun y hy => load_page y hy.2.2) ?_; simp only [Act.put, Array.setIfInBounds, List.size_toArray, List.length_cons, List.length_nil, Nat.reduceAdd, Nat.reduceLT, ↓reduceDIte, List.set_toArray, List.set_cons_succ, List.set_cons_zero])
            | (refine wpQuiet_load rfl 35 (.tmp 220) rfl _ (.agg (pgA Q)) rfl (fun y hy => HLW.out y hy.1.r) ?_; simp only [Act.put, Array.setIfInBounds, List.size_toArray, List.length_cons, List.length_nil, Nat.reduceAdd, Nat.reduceLT, ↓reduceDIte, List.set_toArray, List.set_cons_succ, List.set_cons_zero])
            | (refine wpQuiet_binop rfl .neq 35 _ _ _ rfl (.agg (pgA Q)) (.agg (pgA Q)) _ rfl rfl (fun y _ => page_guard _ _ _ Q Q y) (fun y _ => HNQ.out y) ?_; simp only [Act.put, Array.setIfInBounds, List.size_toArray, List.length_cons, List.length_nil, Nat.reduceAdd, Nat.reduceLT, ↓reduceDIte, List.set_toArray, List.set_cons_succ, List.set_cons_zero])
            | (refine wpQuiet_plain rfl (fun K hK => ?_); go_simp; refine hK _ ?_; clear hK K))
          refine wpQuiet_nil ?_
          intro y hy
          have HY := hide hy.1
          clear hy HNQ HLW
          go_wp2
          go_roundw
          case rel => exact ⟨m + 1, by omega, by go_num, HY⟩
          case measure => simp [intOf]; omega
        · have i1 : ¬ (m : Int) < 4 := by omega
          go_wp2
          go_ret
          exact ⟨rfl, HM.out.k.bel⟩
end Go.Proofs.Ytfeghhgniahfkaa.topPages

namespace Go.Proofs.Ytfeghhgniahfkaa.topPages
open Go.ChangeShapes Go.WideShapes Go.ChangeAt Go.RowKit
open Go.ChangeMaps (open_string shut_string)
set_option linter.unusedVariables false

theorem laidOut : laidOutB Try.prog = true := by kernel_rfl
theorem own : ownKnob Try.prog.godebug = none := by kernel_rfl

set_option maxRecDepth 100000 in
theorem lifted (os : Os) (started : os.Started) (H : Type) (enc : TypeId × Value → H) :
    ReturnsInHanded {} Try.checked os 7 .any (Rows.topPagesSpec.pre6 enc Try.prog Try.f7 Rows.topPagesRow.domain false) (Rows.topPagesSpec.post enc Try.prog Try.f7 false true false false) := by
  refine returnsInHanded_of_change_sized (C := Try.checked) own started (by kernel_rfl) Try.func7
    (ChangeSpec.witness6 (enc := enc) (C := Try.checked) false ⟨#[], #[.slice none 0 0], []⟩ 8 (by kernel_rfl) (by kernel_rfl) (by kernel_rfl) (by kernel_rfl)) ?_
  intro W base args ds gs before hval0 hW hcnd hsz0 _
  have hval : ∀ (j : Nat) t v, Try.f7.params[j]? = some t → args[j]? = some v → Value.okWide Try.prog W .any base t v := hval0
  have hsz : (DataW.weightsEach Try.prog (Try.f7.params.toList ++ Rows.topPagesSpec.plain.varTypes Try.prog) (ds ++ gs)).all (· ≤ reachBytes) = true := hsz0
  have hW' := hW
  obtain ⟨p, q, hA0, hV, rfl, hfz, hnd⟩ := hW
  have hA : DataW.TrodAll enc Try.prog W 0 (fun _ => true) true Try.f7.params.toList args.toList ds p := hA0
  rw [Try.params7] at hA hval hsz
  obtain ⟨v0, vs0, d0, ds0, p0, q0, hargs, rfl, rfl, h0, r0⟩ := trodAll_cons hA
  obtain ⟨rfl, rfl, rfl⟩ := trodAll_nil r0
  obtain rfl : args = #[v0] := by cases args; simp_all
  obtain ⟨rfl, rfl⟩ := trodVars_none hV
  have k0 := h0
  have lt0 := trod_places h0
  obtain ⟨m0, w0a, w0b, w0c, w0d⟩ := op_sks (hval 0 53 v0 rfl rfl) h0
  clear hA0 hval0 hsz0 hsz
  refine (walk v0 m0 W w0a w0b w0c w0d).mono fun e W' ⟨he, bel⟩ => ?_
  subst he
  exact ⟨_, rfl, _, _, _, [], _, [], hW', trodAll_mk1 (shut_bool Try.underlying4 _), (trodAll_cons_mk (Below.trod laidOut (by kernel_rfl) (of_decide_eq_true (by kernel_rfl)) k0 bel lt0) trodAll_mk0), rfl, bel.frame _, fun h => by cases h⟩

theorem over : Rows.topPagesRow.holds Try.pinned (OpenSpec.ofChange Rows.topPagesSpec) :=
  OpenClaim.holds_of_wide 7 Try.f7 rfl rfl rfl rfl rfl rfl rfl ⟨rfl, rfl, rfl, rfl, rfl⟩ rfl rfl rfl rfl rfl (by kernel_rfl) Try.func7 (by kernel_rfl)
    (of_decide_eq_true (by kernel_rfl)) (by unfold Func.isWrapper; first | (rw [if_pos (by decide +kernel)]; kernel_rfl) | (rw [if_neg (by decide +kernel)]; exact ⟨rfl, rfl⟩))
    (fun os started H enc _ => lifted os started H enc)

/-- THE STATEMENT. -/
theorem proved : Rows.TopPagesSaid := over
end Go.Proofs.Ytfeghhgniahfkaa.topPages
namespace Go.Proofs.Ytfeghhgniahfkaa
theorem topPages_proved : Rows.TopPagesSaid := topPages.proved
end Go.Proofs.Ytfeghhgniahfkaa
