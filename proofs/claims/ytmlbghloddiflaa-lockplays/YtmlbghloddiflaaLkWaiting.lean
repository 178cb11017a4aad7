/-
  The contract of waiting: what each one who waits waits for, as a map.
-/
import Derived.Test.YtmlbghloddiflaaLkMap
namespace Go.Proofs.Ytmlbghloddiflaa
open Go.RowKit Go.Maps
set_option linter.unusedVariables false

/-- What the map tells behind x things and j of the next one's row. -/
structure Told (p : Pt) (x j : Nat) (M : Int → Option Hd) : Prop where
  from' : ∀ a h, M a = some h → ∃ y, y < 288 ∧ h ∈ p.row y ∧ h.w = a
  all : ∀ y h, y < x → h ∈ p.row y → M h.w = some h
  part : ∀ i h, i < j → (p.row x)[i]? = some h → M h.w = some h
def OneRow (p : Pt) : Prop := ∀ x y h k, x < 288 → y < 288 → h ∈ p.row x → k ∈ p.row y → h.w = k.w → h = k
theorem Told.next {p : Pt} {x j : Nat} {M : Int → Option Hd} (h : Told p x j M) (ho : OneRow p) (hx : x < 288) {m : Hd} (hm : (p.row x)[j]? = some m) : Told p x (j + 1) (putM M m.w m) := by
  have hmm := List.mem_of_getElem? hm
  refine ⟨fun a k e => ?_, fun y k hy hk => ?_, fun i k hi hk => ?_⟩
  · unfold putM at e
    by_cases ea : a = m.w
    · rw [if_pos ea] at e
      have e2 := Option.some.inj e
      rw [← e2]
      exact ⟨x, hx, hmm, ea.symm⟩
    · rw [if_neg ea] at e
      exact h.from' a k e
  · unfold putM
    by_cases ea : k.w = m.w
    · rw [if_pos ea, ho y x k m (by omega) hx hk hmm ea]
    · rw [if_neg ea]
      exact h.all y k hy hk
  · unfold putM
    by_cases ea : k.w = m.w
    · rw [if_pos ea, ho x x k m hx hx (List.mem_of_getElem? hk) hmm ea]
    · rw [if_neg ea]
      by_cases eij : i = j
      · rw [eij, hm] at hk
        have e2 := Option.some.inj hk
        exact absurd (by rw [e2]) ea
      · exact h.part i k (by omega) hk
theorem Told.row {p : Pt} {x j : Nat} {M : Int → Option Hd} (h : Told p x j M) (hj : (p.row x).length ≤ j) : Told p (x + 1) 0 M :=
  ⟨h.from', fun y k hy hk => by
    by_cases e : y = x
    · subst e
      obtain ⟨i, hi, e2⟩ := List.getElem_of_mem hk
      exact h.part i k (by omega) (by rw [List.getElem?_eq_getElem hi, e2])
    · exact h.all y k (by omega) hk, fun i k hi => absurd hi (Nat.not_lt_zero _)⟩
/-- What waiting tells. -/
def WaitingAns (p : Pt) (N : Nat) (w : World) (e : Ending) (w' : World) : Prop := ∃ n M, e = .returned (.map (some w.heap.size)) ∧ MapAt w' w.heap.size n M ∧ n ≤ 288 * N ∧ Told p 288 0 M ∧ Below w.heap.size w w'
theorem wpList_mapUp {P : Program} {w w' : World} {ops : Array Oper} {rest : List Oper} {o : Oper} {a : Act} {Q : Exit → Act → World → Prop} (hg : o.guard = none) (t : TypeId) (m x v : Operand) (hop : o.op = Op.mapUpdate t m x v) (vm vx vv : Value) (hm : a.eval m = vm) (hx : a.eval x = vx) (hv : a.eval v = vv)
    (hrun : (Instr.mapUpdate t vm vx vv).run P w = .ok () w') (h : wpList P ops Q rest (a.put o.dst undef) w') : wpList P ops Q (o :: rest) a w := by
  refine wpList_plain hg fun K' hK' => ?_
  unfold Oper.wp
  simp [execOp, hop, hm, hx, hv, hrun, Result.andThen]
  exact hK' _ _ h
section
variable {w : World} {g : Nat} {p : Pt} {S : Nat → Sl}
set_option maxRecDepth 8000 in
set_option maxHeartbeats 6400000 in
theorem waiting13 (h : TAt w g p S) {N : Nat} (hl : ∀ x, x < 288 → (p.row x).length ≤ N) (hN : N ≤ 100000) (ho : OneRow p) (hwf : ∀ x k, x < 288 → k ∈ p.row x → wfI k.w) : Calls Try.prog 75 #[.pointer (some ⟨g, 0, none⟩)] w (WaitingAns p N w) := by
  have H := hide h
  have HL := hide hl
  have HO := hide (And.intro ho hwf)
  have HS := hide (fun y => size13 ⟨g, 0, none⟩ y)
  have b0 : Below w.heap.size w (w.alloc (.map #[] 0)) := (Below.refl w.heap.size w).alloc (Nat.le_refl _) _
  have H0 := hide (And.intro (MapAt.made w) b0)
  have hmm := @run_makeMap Try.prog
  clear h hl b0 ho hwf
  obtain ⟨bm, hbm⟩ : ∃ bm, bm = w.heap.size := ⟨_, rfl⟩
  have HBM := hide hbm
  go_enter Try.func75, Try.ntmps75
  go_wp2_with fail
  refine (HS.out _).mono ?_
  rintro e w0 ⟨rfl, rfl⟩
  rw [← hbm] at H0 ⊢
  clear hbm
  go_wp2
  go_loopw [10] (fun v wr => ∃ x : Nat, x ≤ 288 ∧ v = .int .i64 x ∧ Hid (∃ n M, MapAt wr bm n M ∧ n ≤ x * N ∧ Told p x 0 M ∧ Below bm w wr)) (fun v _ => 288 - (intOf v).toNat)
  case atStart =>
    have h0 : Told p 0 0 (fun _ => none) := ⟨fun a h e => (nomatch e), fun y h hy => absurd hy (Nat.not_lt_zero _), fun i h hi => absurd hi (Nat.not_lt_zero _)⟩
    exact ⟨0, Nat.zero_le _, rfl, show ∃ n M, MapAt _ bm n M ∧ n ≤ 0 * N ∧ Told p 0 0 M ∧ Below bm w _ from ⟨0, _, H0.out.1, Nat.zero_le _, h0, H0.out.2⟩⟩
  case round =>
    obtain ⟨x, hx, rfl, HR⟩ := hrel
    by_cases hlt : x < 288
    · have i1 : (x : Int) < 288 := by omega
      have hTw : TAt wr g p S := by
        obtain ⟨n, M, _, _, _, hb⟩ := HR.out
        rw [HBM.out] at hb
        exact H.out.later hb
      have c0 := hTw.rows hlt
      have hcap := (H.out.rowB hlt).cap
      have hlx := HL.out x hlt
      unfold slV at c0
      obtain ⟨n, hn⟩ : ∃ n, n = (p.row x).length := ⟨_, rfl⟩
      have HNN := hide hn
      rw [← hn] at c0 hcap hlx
      clear hn hTw
      obtain ⟨ad, had⟩ : ∃ ad, ad = adr (S (x * 2 + 1)).b := ⟨_, rfl⟩
      have HAD := hide had
      rw [← had] at c0
      clear had
      generalize (S (x * 2 + 1)).c = c at *
      have hn6 : n ≤ 1000000 := by omega
      go_wp2
      clear c0
      go_loopw [21] (fun v wr => ∃ j : Nat, j ≤ n ∧ v = .int .i64 j ∧ Hid (∃ n M, MapAt wr bm n M ∧ n ≤ x * N + j ∧ Told p x j M ∧ Below bm w wr)) (fun v _ => n - (intOf v).toNat)
      case atStart => exact ⟨0, Nat.zero_le _, rfl, HR.out⟩
      case round =>
        obtain ⟨j, hj, rfl, HI⟩ := hrel
        by_cases hjn : j < n
        · have i2 : (j : Int) < n := by omega
          obtain ⟨m, hmr⟩ : ∃ m, (p.row x)[j]? = some m := ⟨_, List.getElem?_eq_getElem (by have := HNN.out; omega)⟩
          obtain ⟨n1, M, hM, hn1, hTo, hb⟩ := HI.out
          have hb' : Below w.heap.size w wr := by rw [← HBM.out]; exact hb
          obtain ⟨b, hb0, hbl, c0, c1, c2⟩ := ((H.out.later hb').rowB hlt).at hmr
          have hmeq := HAD.out
          rw [hb0] at hmeq
          have hmeq2 : ad = some ⟨b, 0, none⟩ := hmeq
          subst hmeq2
          have HLD := hide (load_hold c0 c1 c2)
          have HMM := hide hmr
          have HI2 := hide (And.intro hM (And.intro hn1 (And.intro hTo hb)))
          clear hmr hmeq hb0 c0 c1 c2 hbl hM hn1 hTo hb hb' HI
          go_wp2_with (with_reducible refine stop_at 24 rfl ?_)
          refine unstop10 ?_
          refine lst_load (some 24) (.agg (hdA m)) rfl rfl 46 (.tmp 23) rfl _ rfl (HLD.out) ?_
          simp only [Act.put, Array.setIfInBounds, List.size_toArray, List.length_cons, List.length_nil, Nat.reduceAdd, Nat.reduceLT, ↓reduceDIte, List.set_toArray, List.set_cons_succ, List.set_cons_zero]
          refine lst_run (some 6) rfl rfl (.pointer (some ⟨wr.heap.size, 0, none⟩)) (wr.alloc (.cells zeroH 46)) (by go_simp; rfl) ?_
          simp only [Act.put, Array.setIfInBounds, List.size_toArray, List.length_cons, List.length_nil, Nat.reduceAdd, Nat.reduceLT, ↓reduceDIte, List.set_toArray, List.set_cons_succ, List.set_cons_zero]
          refine wpList_store_part rfl 46 (.tmp 6) (.tmp 24) rfl wr.heap.size 0 46 zeroH (hdA m) rfl rfl (RowAt.new wr _ _) infoHs (by show 0 + 3 ≤ 3; omega) (hdA_one m) ?_
          intro w2 h21 h22
          rw [partA_all zeroH (hdA m) rfl] at h21
          have b2 : Below wr.heap.size wr w2 := h22.below ((Below.refl wr.heap.size wr).alloc (Nat.le_refl _) (.cells zeroH 46)) (Nat.le_refl _)
          simp only [Act.put]
          have hM2 := HI2.out.1.later b2
          have hb2 := HI2.out.2.2.2.trans (b2.mono (by rw [HBM.out]; exact HI2.out.2.2.2.size))
          have hNx : x * N ≤ 288 * 100000 := Nat.mul_le_mul (by omega) hN
          obtain ⟨w5, hrun, hM5, hT5⟩ := hM2.put (HO.out.2 x m hlt (List.mem_of_getElem? HMM.out)) m (by have := HI2.out.2.1; unfold maxLen; omega)
          have d0 := h21.cell 0 (.int .i64 m.w) rfl
          have HE := hide (show ∃ n M, MapAt w5 bm n M ∧ n ≤ x * N + (j + 1) ∧ Told p x (j + 1) M ∧ Below bm w w5 from ⟨n1 + 1, putM M m.w m, hM5, by have := HI2.out.2.1; omega, HI2.out.2.2.1.next HO.out.1 hlt HMM.out, hb2.trans (hT5.below (fun k hk => by rw [hk]; exact Nat.le_refl _) (by rw [HBM.out]; exact hb2.size))⟩)
          have hbox := h21
          clear h21 h22 b2 hM2 hb2 hM5 hT5 HLD HI2
          go_wp2_with (with_reducible refine stop_at 28 rfl ?_)
          refine unstop10 ?_
          refine lst_load (some 28) (.agg (hdA m)) rfl rfl 46 (.tmp 6) rfl _ rfl (load_box hbox) ?_
          simp only [Act.put, Array.setIfInBounds, List.size_toArray, List.length_cons, List.length_nil, Nat.reduceAdd, Nat.reduceLT, ↓reduceDIte, List.set_toArray, List.set_cons_succ, List.set_cons_zero]
          refine wpList_mapUp rfl 98 (.tmp 25) (.tmp 27) (.tmp 28) rfl _ _ _ rfl rfl rfl hrun ?_
          simp only [Act.put]
          clear hrun d0 hbox
          go_wp2
          go_roundw
          case rel => exact ⟨j + 1, by omega, by go_num, HE⟩
          case measure => simp [intOf]; omega
        · have i2 : ¬ (j : Int) < n := by omega
          have HR2 := hide (show ∃ n M, MapAt wr bm n M ∧ n ≤ (x + 1) * N ∧ Told p (x + 1) 0 M ∧ Below bm w wr from by
            obtain ⟨n1, M, hM, hn1, hTo, hb⟩ := HI.out
            refine ⟨n1, M, hM, ?_, hTo.row (by have := HNN.out; omega), hb⟩
            rw [Nat.add_mul]
            have := HL.out x hlt
            have := HNN.out
            omega)
          go_wp2
          go_roundw
          case rel => exact ⟨x + 1, by omega, by go_num, HR2⟩
          case measure => simp [intOf]; omega
    · have i1 : ¬ (x : Int) < 288 := by omega
      have ex : x = 288 := by omega
      have HE := hide (show ∃ n M, MapAt wr bm n M ∧ n ≤ 288 * N ∧ Told p 288 0 M ∧ Below bm w wr from by have h := HR.out; rw [ex] at h; exact h)
      clear HR
      go_wp2
      go_ret
      obtain ⟨n, M, a1, a2, a3, a4⟩ := HE.out
      refine ⟨n, M, by rw [← HBM.out]; rfl, ?_, a2, a3, ?_⟩
      · rw [← HBM.out]; exact a1
      · rw [← HBM.out]; exact a4
end
end Go.Proofs.Ytmlbghloddiflaa
