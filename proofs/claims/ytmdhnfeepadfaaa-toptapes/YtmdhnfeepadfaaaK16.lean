/-
  Texts that lean on one another, one behind the other: each opens with its own remark.
-/
import Derived.Maps.AppendAt
import Derived.Test.YtmdhnfeepadfaaaK15
import Derived.Test.YtmdhnfeepadfaaaK14
import Derived.Test.YtmdhnfeepadfaaaK07

/-
  The contract of quaysidelaw07.laid.
-/
namespace Go.Proofs.Ytmdhnfeepadfaaa
open Go.RowKit
set_option linter.unusedVariables false

/-- The places behind each frame. -/
def endsV (rs : List Rec) : List Value := (List.range rs.length).map fun i => .int .i64 ((framesB (rs.take (i + 1))).length : Int)
theorem endsV_snoc (rs : List Rec) (r : Rec) : endsV (rs ++ [r]) = endsV rs ++ [.int .i64 ((framesB (rs ++ [r])).length : Int)] := by
  unfold endsV
  rw [List.length_append, List.length_singleton, List.range_succ, List.map_append]
  congr 1
  · apply List.map_congr_left
    intro i hi
    rw [List.take_append_of_le_length (by have := List.mem_range.1 hi; omega)]
  · have e : (rs ++ [r]).take (rs.length + 1) = rs ++ [r] := List.take_of_length_le (by simp)
    simp only [List.map_cons, List.map_nil, e]
theorem infoInt : (Try.prog.info? 3).map (fun i => (i.zero, i.size, i.bytes)) = some (some (.int .i64 0), 1, 8) := by kernel_rfl
/-- What is kept between two rounds. -/
structure LdI (w : World) (vo ve : Value) (rs : List Rec) (W : World) : Prop where
  out : W.ownsRow w.heap.size 5 1 vo (framesB rs).length (toV (framesB rs))
  ends : W.ownsRow w.heap.size 3 1 ve rs.length (endsV rs)
  bel : Below w.heap.size w W
  nil : rs = [] → vo = .slice none 0 0
theorem LdI.below {w : World} {vo ve : Value} {rs : List Rec} {A B : World} (h : LdI w vo ve rs A) (hb : Below A.heap.size A B) : LdI w vo ve rs B := ⟨ownsRow_below h.out hb, ownsRow_below h.ends hb, h.bel.trans (hb.mono h.bel.size), h.nil⟩
theorem own_grown {A B : World} {base n sz : Nat} {e t : TypeId} {v u : Value} {xs : List Value} {base' n' sz' : Nat} {ys : List Value} (h : A.ownsRow base e sz v n xs) (hu : A.ownsRow base' t sz' u n' ys) (ht : e ≠ t) (hg : A.grownBy B u.ownBlock) : B.ownsRow base e sz v n xs :=
  own_kept h (fun k cs hr => (hg.block k hr.lt (fun e => own_kind hu hr ht e.symm)).trans hr)
theorem frames_few : ∀ rs : List Rec, (∀ r ∈ rs, r.right) → (framesB rs).length ≤ rs.length * 1006
  | [], _ => Nat.le_refl _
  | r :: rs, h => by
    have h1 := frames_few rs (fun x hx => h x (List.mem_cons_of_mem _ hx))
    have h2 := rec_few r (h r (List.mem_cons_self ..))
    have e : framesB (r :: rs) = frameB r ++ framesB rs := by simp [framesB]
    rw [e, List.length_append, frameB_length, List.length_cons]
    omega
theorem rise_take : ∀ (rs : List Rec) (a i : Nat), Rise a rs → Rise a (rs.take i)
  | _, _, 0, _ => by rw [List.take_zero]; trivial
  | [], _, _ + 1, _ => trivial
  | r :: rs, a, i + 1, h => ⟨h.1, h.2.1, rise_take rs r.l i h.2.2⟩
theorem rise_at : ∀ (rs : List Rec) (a i : Nat), Rise a rs → i < rs.length → lastL a (rs.take i) < (rs.getD i Rec.zero).l
  | [], _, _, _, h => absurd h (by simp)
  | r :: rs, a, 0, h, _ => h.2.1
  | r :: rs, a, i + 1, h, hi => rise_at rs r.l i h.2.2 (by simpa using hi)
theorem msR_take (ms : List (Rec × Value × Value)) (i : Nat) : msR (ms.take i) = (msR ms).take i := by simp [msR, List.map_take]

end Go.Proofs.Ytmdhnfeepadfaaa

/-
  The contract of quaysidetop.bytes: a tape's bytes, opened once more, are just the frames of the records. (gen12/tbytes.py)
-/
namespace Go.Proofs.Ytmdhnfeepadfaaa
open Go.RowKit
set_option linter.unusedVariables false

theorem infoU64 : (Try.prog.info? 22).map (fun i => (i.zero, i.size, i.bytes)) = some (some (.int .u64 0), 1, 8) := by kernel_rfl
theorem exec_appendT {P : Program} {o : Oper} {a : Act} {w w' : World} {v' : Value} (d x : Operand) (t u : TypeId) (hop : o.op = Op.call { callee := Callee.builtin Builtin.append, args := #[d, x], argTypes := #[t, u] }) (vd vx : Value) (hs : a.eval d = vd) (hx : a.eval x = vx) (hrun : (Builtin.append_ #[t, u] o.type #[vd, vx]).run P w = .ok v' w') : (execOp a.eval o).run P w = .ok (.value v') w' := by
  simp [execOp, hop, resolve, invoke, builtin, hs, hx, hrun, Result.andThen]
theorem exec_convT {P : Program} {o : Oper} {a : Act} {w : World} {v : Value} (s t : TypeId) (x : Operand) (ho : o.op = .convert s t x) (u : Value) (hu : a.eval x = u) (hv : (convert s t u).run P w = .ok v w) : (execOp a.eval o).run P w = .ok (.value v) w := by
  unfold execOp
  simp only [ho, hu, Sem.run_bind, hv, Result.andThen_ok, Sem.run_pure]
theorem run_strT (x : World) (a : Option Addr) (n c : Nat) (bs : List UInt8) (h : IsB x a n bs) : (convert 61 9 (.slice a n c)).run Try.prog x = .ok (.string ⟨bs.toArray⟩) x := run_toString (P := Try.prog) x 61 9 5 Try.underlying61 Try.underlying5 Try.underlying9 a n c bs h
/-- One more number behind a row of one's own. -/
theorem run_app_u64 (ty : TypeId) (w : World) (B k : Nat) (v : Value) (xs : List Value) (hown : w.ownsRow B 22 1 v k xs) (b : Nat) (u : Int) (hB : RowAt w b 22 #[.int .u64 u]) (hz : k ≤ 100000) (hbase : B ≤ w.heap.size) :
    ∃ v' w', (Builtin.append_ #[94, 94] ty #[v, .slice (some ⟨b, 0, none⟩) 1 1]).run Try.prog w = .ok v' w' ∧ w'.ownsRow B 22 1 v' (k + 1) (xs ++ [.int .u64 u]) ∧ w.grownBy w' v.ownBlock := by
  obtain ⟨i, hi0, hi1⟩ := Option.map_eq_some_iff.1 infoU64
  simp only [Prod.mk.injEq] at hi1
  obtain ⟨v', w', r1, r2, r3, _⟩ := run_append_own (P := Try.prog) w B 94 ty 22 i (.int .u64 0) 1 8 Try.underlying94 hi0 hi1.1 hi1.2.1 hi1.2.2 rfl (by omega) v k xs hown ⟨b, 0, none⟩ 1 1 [.int .u64 u] rfl (fun j u' hu => by
    rw [Addr.add_lit, Nat.zero_add]
    exact hB.cell j u' (by simpa using hu)) (fun u' hu => by
    rw [List.mem_singleton] at hu
    rw [hu]
    rfl) (by unfold maxLen; omega) (by omega) hbase
  exact ⟨v', w', r1, r2, r3⟩
/-- What the loop keeps: the numbers, and the frames. -/
structure BI (w wr : World) (vn vw : Value) (rs : List Rec) : Prop where
  num : wr.ownsRow w.heap.size 22 1 vn rs.length (rs.map fun r => .int .u64 (r.l : Int))
  out : wr.ownsRow w.heap.size 5 1 vw (framesB rs).length (toV (framesB rs))
  bel : Below w.heap.size w wr
theorem BI.below {w wr x : World} {vn vw : Value} {rs : List Rec} (h : BI w wr vn vw rs) (hb : Below wr.heap.size wr x) : BI w x vn vw rs := ⟨ownsRow_below h.num hb, ownsRow_below h.out hb, h.bel.trans (hb.mono h.bel.size)⟩
theorem rise_rises : ∀ (rs : List Rec) (a : Nat), Rise a rs → rises (rs.map (·.l)) = true
  | [], _, _ => rfl
  | [_], _, _ => rfl
  | r :: s :: rs, a, h => by
    have h1 := rise_rises (s :: rs) r.l h.2.2
    have h2 : r.l < s.l := h.2.2.2.1
    show (decide (r.l < s.l) && rises ((s :: rs).map (·.l))) = true
    rw [h1, decide_eq_true h2]
    rfl
theorem nums_isU {w x : World} {v : Value} {rs : List Rec} (h : x.ownsRow w.heap.size 22 1 v rs.length (rs.map fun r => .int .u64 (r.l : Int))) (hb : ∀ r ∈ rs, r.l < 18446744073709551616) : ∃ a c, v = .slice a rs.length c ∧ IsU x a rs.length (rs.map (·.l)) := by
  rcases h.2 with ⟨h1, h2⟩ | ⟨g, cap, cur, h1, h2, h3, h4, h5, h6, h7⟩
  · exact ⟨none, 0, by rw [h1, h2], by simp, fun z hz => by
      obtain ⟨r, hr, rfl⟩ := List.mem_map.1 hz
      exact hb r hr, fun hp => by omega⟩
  · refine ⟨_, cap, h1, by simp, fun z hz => ?_, fun hp => ⟨g, 0, rfl, (show RowAt x g 22 cur from h3).lt, fun j hj => ?_⟩⟩
    · obtain ⟨r, hr, rfl⟩ := List.mem_map.1 hz
      exact hb r hr
    · have e := (show RowAt x g 22 cur from h3).cell (0 + j) (.int .u64 ((rs.map (·.l)).getD j 0 : Nat)) (by
        have e2 : (cur.toList.take (rs.length * 1))[j]? = (rs.map fun r => Value.int .u64 (r.l : Int))[j]? := by rw [h7]
        rw [List.getElem?_take, if_pos (by omega), Array.getElem?_toList] at e2
        rw [Nat.zero_add, e2, List.getElem?_map, List.getElem?_eq_getElem hj, List.getD_eq_getElem?_getD, List.getElem?_map, List.getElem?_eq_getElem hj]
        rfl)
      exact e

set_option maxRecDepth 8000 in
set_option maxHeartbeats 12800000 in
theorem tb_any (w0 w : World) (gt : Nat) (t : Tp) (a : Option Addr) (cap : Nat) (ms : List Rm) (h : TU w0 w gt t a cap ms) (same : msR ms = (Lg.open t 0).l) :
    Calls Try.prog 30 #[.pointer (some ⟨gt, 0, none⟩), .slice a ms.length cap] w fun e w' => e = .returned (.bool true) ∧ Below w0.heap.size w0 w' := by
  have HT := hide h
  have HSA := hide same
  clear h same
  obtain ⟨ln, hln⟩ : ∃ ln, ln = ms.length := ⟨_, rfl⟩
  rw [← hln]
  have HLN := hide hln
  clear hln
  go_enter Try.func30, Try.ntmps30
  go_wp2_with fail
  refine (topen HT.out).mono ?_
  rintro e w1 ⟨gl, rfl, h1⟩
  obtain ⟨g, hg⟩ : ∃ g, g = Lg.open t 0 := ⟨_, rfl⟩
  have hon : g.on = g.l.length := by rw [hg]; rfl
  rw [← hg] at h1 HSA
  have H1 := hide h1
  have HB0 : Hid (g.t.b.data.toList = framesB g.l) := by
    have e := h1.ok.bytes
    rw [hon, List.take_length] at e
    exact e
  have HRS := hide h1.ok.rise
  have HLF : Hid (ln = g.l.length ∧ ln ≤ 20000 ∧ (framesB g.l).length ≤ 65536) := by
    have e1 := few_recs g h1.ok
    have e2 : ms.length = g.l.length := by rw [← HSA.out]; simp [msR]
    have e3 := h1.ok.tok
    have e4 := congrArg List.length HB0.out
    rw [data_length] at e4
    have e5 := e3.few
    have e6 := e3.room
    exact ⟨by rw [HLN.out, e2], by have := HLN.out; omega, by omega⟩
  have HRS2 := hide h1.all.rs
  have hcap := h1.all.cap
  clear h1 hg hon HT
  go_wp2
  go_loopw [7, 8, 25] (fun vn vw i wr => ∃ j : Nat, j ≤ ln ∧ i = .int .i64 (j : Int) ∧ Hid (BI w1 wr vn vw (g.l.take j))) (fun _ _ i _ => ln - (intOf i).toNat)
  case atStart => exact ⟨0, Nat.zero_le _, rfl, by rw [List.take_zero]; exact ⟨World.ownsRow_nil _ _ _ _, World.ownsRow_nil _ _ _ _, Below.refl _ _⟩⟩
  case round =>
    obtain ⟨j, hj, rfl, HI⟩ := hrel
    by_cases hlt : j < ln
    · have ij : (j : Int) < (ln : Int) := by omega
      obtain ⟨b1, o1, r, e1, k1, e2, k2, rfl, hm, hf, hx⟩ := HRS2.out.mid (i := j) (by rw [← HLN.out]; exact hlt)
      have hgr : g.l.getD j Rec.zero = r := by rw [← HSA.out, msR_get, hm]
      have hjl : j < g.l.length := by rw [← HLF.out.1]; exact hlt
      have hr : r.right := rise_right _ 0 HRS.out r (by rw [← hgr]; exact getD_mem _ _ _ hjl)
      have HTK : Hid (g.l.take (j + 1) = g.l.take j ++ [r]) := by rw [take_snoc7 g.l j Rec.zero hjl, hgr]; exact rfl
      have HFL : Hid ((g.l.take j).length = j ∧ (framesB (g.l.take j)).length ≤ 65536) := by
        refine ⟨by rw [List.length_take, Nat.min_eq_left (Nat.le_of_lt hjl)], ?_⟩
        have h1 := frames_len g.l j
        have h2 := HLF.out.2.2
        omega
      have HX := hide (show ∀ x, Below w1.heap.size w1 x → x.rangeAt b1 (o1 + j * 14) (rcF (r, .slice e1 r.ts.length k1, .slice e2 r.ds.length k2)).toList ∧ RcIn x r (.slice e1 r.ts.length k1) (.slice e2 r.ds.length k2) from hx)
      have HR := hide (And.intro hr hf)
      have hfl := frameB_length r
      have hfw := rec_few r hr
      have hrl : r.l < 18446744073709551616 := by have := hr.lm; unfold maxP at this; omega
      clear hx hm hgr hjl hr hf
      generalize hrs : g.l.take j = rs at *
      obtain ⟨an, cn, hvn⟩ := own_shape5 HI.out.num
      obtain ⟨ao, co, hvo⟩ := own_shape5 HI.out.out
      subst hvn hvo
      have HRJ := hide hrs
      clear hrs
      obtain ⟨lr, hlr⟩ : ∃ lr, lr = rs.length := ⟨_, rfl⟩
      obtain ⟨lo, hlo⟩ : ∃ lo, lo = (framesB rs).length := ⟨_, rfl⟩
      rw [← hlr, ← hlo] at HFL
      rw [← hlr, ← hlo]
      have HLL := hide (And.intro hlr hlo)
      clear hlr hlo
      have c1 : wr.cell? ⟨b1, o1 + j * 14 + 1, none⟩ = some (.int .u64 (r.l : Int)) := (HX.out wr HI.out.bel).1 1 _ rfl
      have hbA : Below wr.heap.size wr (wr.alloc (.cells #[.int .u64 (r.l : Int)] 22)) := (Below.refl _ _).alloc (Nat.le_refl _) _
      have HIA := hide (HI.out.below hbA)
      obtain ⟨v2, w2, q1, q2, q3⟩ := run_app_u64 94 (wr.alloc (.cells #[.int .u64 (r.l : Int)] 22)) w1.heap.size rs.length _ _ HIA.out.num wr.heap.size (r.l : Int) (RowAt.new wr _ _) (by have := HFL.out.1; have := HLL.out.1; have := HLF.out.2.1; omega) HIA.out.bel.size
      have HI2 := hide (show w2.ownsRow w1.heap.size 5 1 (.slice ao (framesB rs).length co) (framesB rs).length (toV (framesB rs)) ∧ Below w1.heap.size w1 w2 ∧ w2.ownsRow w1.heap.size 22 1 v2 (rs.length + 1) ((rs.map fun r => Value.int .u64 (r.l : Int)) ++ [.int .u64 (r.l : Int)]) from
        ⟨own_grown HIA.out.out HIA.out.num (by decide) q3, HIA.out.bel.grown q3 HIA.out.bel.size (fun k hk => (HIA.out.num.lt k hk).1), q2⟩)
      rw [← HLL.out.1] at q1
      clear q2 q3 hbA HIA HI
      go_wp2_with (with_reducible refine stop_at 35 rfl ?_)
      refine unstop10 ?_
      refine lst_run (some 35) rfl rfl v2 w2 (exec_appendT _ _ _ _ rfl _ _ rfl rfl q1) ?_
      try simp only [Act.put, List.setIfInBounds_toArray, List.set_cons_zero, List.set_cons_succ]
      clear q1 c1
      have HLD := hide (load_mid w2 b1 (o1 + j * 14) (r, .slice e1 r.ts.length k1, .slice e2 r.ds.length k2) (HX.out w2 HI2.out.2.1).1)
      obtain ⟨a2, c2, rfl⟩ := own_shape5 HI2.out.2.2
      go_wp2_with (refine wpList_load_val rfl 28 (.tmp 39) rfl _ _ rfl HLD.out ?_)
      refine (fput_ok r (.slice e1 r.ts.length k1) (.slice e2 r.ds.length k2) w2 HR.out.1 HR.out.2 (HX.out w2 HI2.out.2.1).2).mono ?_
      rintro e w3 ⟨v3, rfl, hown3, hb3⟩
      obtain ⟨a3, cap3, rfl, -, hB3⟩ := shape_isB hown3
      have HNL : Hid (a3 = none → cap3 = 0) := by
        obtain ⟨g2, c2, h2, _⟩ := own_slice hown3 (by omega)
        injection h2 with h2 _ _
        rw [h2]
        exact fun h => absurd h (by simp)
      have HB3 := hide hB3
      have HI3 := hide (show w3.ownsRow w1.heap.size 5 1 (.slice ao (framesB rs).length co) (framesB rs).length (toV (framesB rs)) ∧ Below w1.heap.size w1 w3 ∧ w3.ownsRow w1.heap.size 22 1 (.slice a2 (rs.length + 1) c2) (rs.length + 1) ((rs.map fun r => Value.int .u64 (r.l : Int)) ++ [.int .u64 (r.l : Int)]) from ⟨ownsRow_below HI2.out.1 hb3, HI2.out.2.1.trans (hb3.mono HI2.out.2.1.size), ownsRow_below HI2.out.2.2 hb3⟩)
      clear hown3 hB3 hb3 HI2 HLD
      have HLR := hide hfl
      have hfb : 0 < (frameB r).length ∧ (frameB r).length ≤ 1006 := by omega
      clear hfl hfw
      generalize hLF : (frameB r).length = lf at *
      have HLFr := hide hLF
      clear hLF
      go_wp2_with (with_reducible refine stop_at 52 rfl ?_)
      refine unstop10 ?_
      refine lst_load (some 52) (.agg (rcF (r, .slice e1 r.ts.length k1, .slice e2 r.ds.length k2))) rfl rfl 28 _ rfl (.pointer (some ⟨b1, o1 + j * 14, none⟩)) rfl (load_mid w3 b1 (o1 + j * 14) (r, .slice e1 r.ts.length k1, .slice e2 r.ds.length k2) (HX.out w3 HI3.out.2.1).1) ?_
      try simp only [Act.put, List.setIfInBounds_toArray, List.set_cons_zero, List.set_cons_succ]
      refine lst_call (some 53) rfl rfl 49 #[.agg (rcF (r, .slice e1 r.ts.length k1, .slice e2 r.ds.length k2))] ?he ((size_any r (.slice e1 r.ts.length k1) (.slice e2 r.ds.length k2) w3 HR.out.2 (HX.out w3 HI3.out.2.1).2).mono ?_)
      (case he => go_simp)
      rintro e w4 ⟨rfl, hb4⟩
      have HI4 := hide (show w4.ownsRow w1.heap.size 5 1 (.slice ao lo co) lo (toV (framesB rs)) ∧ Below w1.heap.size w1 w4 ∧ w4.ownsRow w1.heap.size 22 1 (.slice a2 (rs.length + 1) c2) (rs.length + 1) ((rs.map fun r => Value.int .u64 (r.l : Int)) ++ [.int .u64 (r.l : Int)]) from ⟨by rw [HLL.out.2]; exact ownsRow_below HI3.out.1 hb4, HI3.out.2.1.trans (hb4.mono HI3.out.2.1.size), ownsRow_below HI3.out.2.2 hb4⟩)
      have HB4 := hide (HB3.out.below hb4)
      have hsz : ((encL r).length : Int) = (lf : Int) - 6 := by
        have e : encL r = recB r := by unfold encL; rw [if_pos (rightB_yes HR.out.1)]
        rw [e]
        have := HLR.out
        omega
      refine ⟨_, rfl, ?_⟩
      rw [hsz]
      try simp only [Act.put, List.setIfInBounds_toArray, List.set_cons_zero, List.set_cons_succ]
      have ew : IntKind.i64.wrap ((lf : Int) - 6 + 6) = (lf : Int) := by rw [IntKind.wrap_i64]; omega
      have ew2 : IntKind.i64.wrap (lf : Int) = (lf : Int) := by rw [IntKind.wrap_i64]; omega
      clear hb4 HI3 HB3 hsz
      have hob : lo ≤ 65536 := HFL.out.2
      have hlf1 : lf ≤ 1006 := hfb.2
      have hlf0 : 0 < lf := hfb.1
      clear hfb
      go_wp2_with (at_builtin; refine wpList_append_ob _ rfl (.tmp 57) (.tmp 58) 61 rfl 5 Try.underlying61 info8 w1.heap.size _ lo (framesB rs) rfl HI4.out.1 a3 lf cap3 (frameB r) rfl HB4.out HNL.out (by omega) HI4.out.2.1.size ?_)
      intro v5 w5 hown5 hg5
      have HN5 := hide (own_grown HI4.out.2.2 HI4.out.1 (show (22 : TypeId) ≠ 5 by decide) hg5)
      have HD5 := hide (HI4.out.2.1.grown hg5 HI4.out.2.1.size (fun k hk => (HI4.out.1.lt k hk).1))
      have H5 : Hid (BI w1 w5 (.slice a2 (rs.length + 1) c2) v5 (g.l.take (j + 1))) := by
        rw [HTK.out]
        refine ⟨?_, ?_, HD5.out⟩
        · have e := HN5.out
          rw [List.length_append, List.length_singleton, List.map_append]
          exact e
        · rw [framesB_snoc, List.length_append, ← HLL.out.2, HLFr.out]
          exact hown5
      obtain ⟨a5, c5, rfl⟩ := own_shape5 hown5
      clear hown5 hg5 HN5 HD5 HI4 HB4
      have hln2 : ln ≤ 20000 := HLF.out.2.1
      go_wp2
      go_roundw
      case rel => exact ⟨j + 1, by omega, by go_num, H5⟩
      case measure => simp [intOf]; omega
    · have ij : ¬ (j : Int) < (ln : Int) := by omega
      obtain rfl : j = ln := by omega
      have hall : g.l.take j = g.l := by rw [HLF.out.1, List.take_length]
      rw [hall] at HI
      have hbd : ∀ r ∈ g.l, r.l < 18446744073709551616 := fun r hr => by have := (rise_right _ 0 HRS.out r hr).lm; unfold maxP at this; omega
      obtain ⟨an, cn, rfl, hU⟩ := nums_isU HI.out.num hbd
      obtain ⟨ao, co, rfl, -, hO⟩ := shape_isB HI.out.out
      have HRI := hide (rise_rises g.l 0 HRS.out)
      have HWS : Hid (∀ x c, IsB x ao (framesB g.l).length (framesB g.l) → (convert 61 9 (.slice ao (framesB g.l).length c)).run Try.prog x = .ok (.string g.t.b) x) := hide (fun x c hx => by
        rw [run_strT x ao _ c _ hx, ← HB0.out, Array.toArray_toList])
      have HRC := hide (fun x (hx : IsU x an g.l.length (g.l.map (·.l))) => rises_any an g.l.length cn (g.l.map (·.l)) x hx (by have := HLF.out; omega))
      rw [HRI.out] at HRC
      have HS0 := hide (show TT w0 wr.drew gt gl g a cap ms ∧ IsB wr.drew ao (framesB g.l).length (framesB g.l) ∧ IsU wr.drew an g.l.length (g.l.map (·.l)) from ⟨(H1.out.later HI.out.bel).later (below_dn (Below.refl _ _) 1), hO.below (below_dn (Below.refl _ _) 1), hU.below (below_dn (Below.refl _ _) 1)⟩)
      clear hall hbd hU hO HI
      go_wp2_with fail
      refine wp_region_noPanic ?_
      refine wp_region_held_drew (S := (fun x => TT w0 x gt gl g a cap ms ∧ IsB x ao (framesB g.l).length (framesB g.l) ∧ IsU x an g.l.length (g.l.map (·.l)))) (by kernel_rfl) (HS0.out) (fun hHeld => ?_)
      clear HS0
      refine hand_take 0 (some 61) (.slice an g.l.length cn) rfl rfl (by kernel_rfl) (by kernel_rfl) (by kernel_rfl) (fun _ _ _ h => h) (Or.inl ⟨by kernel_rfl, fun x hSx => by go_simp⟩) hHeld ?_
      try simp only [Act.put, List.setIfInBounds_toArray, List.set_cons_zero, List.set_cons_succ]
      refine hand_one 1 (by kernel_rfl) ?_
      refine hand_callw (some 62) rfl rfl (by kernel_rfl) 50 #[(.slice an g.l.length cn)] ?he ((HRC.out _ hHeld.2.2).mono ?_)
      (case he => go_simp)
      rintro e yr ⟨rfl, hbr⟩
      have hHeld0 := hHeld
      clear hHeld
      have hHeld := And.intro (hHeld0.1.later hbr) (And.intro (hHeld0.2.1.below hbr) (hHeld0.2.2.below hbr))
      clear hHeld0
      refine ⟨_, rfl, hHeld, ?_⟩
      try simp only [Act.put, List.setIfInBounds_toArray, List.set_cons_zero, List.set_cons_succ]
      refine hand_take 2 (some 63) (.bool true) rfl rfl (by kernel_rfl) (by kernel_rfl) (by kernel_rfl) (fun _ _ _ h => h) (Or.inl ⟨by kernel_rfl, fun x hSx => by go_simp⟩) hHeld ?_
      try simp only [Act.put, List.setIfInBounds_toArray, List.set_cons_zero, List.set_cons_succ]
      refine hand_take 3 (some 64) (.pointer (some ⟨gt, 0, none⟩)) rfl rfl (by kernel_rfl) (by kernel_rfl) (by kernel_rfl) (fun _ _ _ h => h) (Or.inl ⟨by kernel_rfl, fun x hSx => by go_simp⟩) hHeld ?_
      try simp only [Act.put, List.setIfInBounds_toArray, List.set_cons_zero, List.set_cons_succ]
      refine hand_take 6 (some 67) (.slice ao (framesB g.l).length co) rfl rfl (by kernel_rfl) (by kernel_rfl) (by kernel_rfl) (fun _ _ _ h => h) (Or.inl ⟨by kernel_rfl, fun x hSx => by go_simp⟩) hHeld ?_
      try simp only [Act.put, List.setIfInBounds_toArray, List.set_cons_zero, List.set_cons_succ]
      refine hand_take 7 (some 68) (.string g.t.b) rfl rfl (by kernel_rfl) (by kernel_rfl) (by kernel_rfl) (fun _ _ _ h => h) (Or.inl ⟨by kernel_rfl, fun x hSx => exec_convT 61 9 _ rfl (.slice ao (framesB g.l).length co) rfl (HWS.out x co hSx.2.1)⟩) hHeld ?_
      try simp only [Act.put, List.setIfInBounds_toArray, List.set_cons_zero, List.set_cons_succ]
      refine hand_one 4 (by kernel_rfl) ?_
      refine hand_callw (some 65) rfl rfl (by kernel_rfl) 25 #[(.pointer (some ⟨gt, 0, none⟩))] ?he ((tbytes hHeld.1.tape).mono ?_)
      (case he => go_simp)
      rintro e yb ⟨ab, cb, rfl, -, hib, hbb⟩
      have hHeld0 := hHeld
      clear hHeld
      have hHeld := And.intro (hHeld0.1.later hbb) (And.intro (hHeld0.2.1.below hbb) (hHeld0.2.2.below hbb))
      clear hHeld0
      refine ⟨_, rfl, hHeld, ?_⟩
      try simp only [Act.put, List.setIfInBounds_toArray, List.set_cons_zero, List.set_cons_succ]
      refine hand_one 5 (by kernel_rfl) ?_
      refine hand_runw (some 66) rfl rfl (by kernel_rfl) (.string g.t.b) _ (exec_convT 61 9 _ rfl (.slice ab g.t.b.size cb) rfl (by rw [run_strT _ ab _ cb _ hib, Array.toArray_toList])) ?_
      refine ⟨hHeld, ?_⟩
      try simp only [Act.put, List.setIfInBounds_toArray, List.set_cons_zero, List.set_cons_succ]
      refine hand_take 8 (some 69) (.bool true) rfl rfl (by kernel_rfl) (by kernel_rfl) (by kernel_rfl) (fun _ _ _ h => h) (Or.inl ⟨by kernel_rfl, fun x hSx => by go_simp⟩) hHeld ?_
      try simp only [Act.put, List.setIfInBounds_toArray, List.set_cons_zero, List.set_cons_succ]
      refine hand_take 9 (some 70) (.bool true) rfl rfl (by kernel_rfl) (by kernel_rfl) (by kernel_rfl) (fun _ _ _ h => h) (Or.inl ⟨by kernel_rfl, fun x hSx => by go_simp⟩) hHeld ?_
      try simp only [Act.put, List.setIfInBounds_toArray, List.set_cons_zero, List.set_cons_succ]
      refine hand_take 10 (some 71) (.bool true) rfl rfl (by kernel_rfl) (by kernel_rfl) (by kernel_rfl) (fun _ _ _ h => h) (Or.inl ⟨by kernel_rfl, fun x hSx => by go_simp⟩) hHeld ?_
      try simp only [Act.put, List.setIfInBounds_toArray, List.set_cons_zero, List.set_cons_succ]
      refine hand_take 11 (some 72) (.pointer (some ⟨gl, 0, none⟩)) rfl rfl (by kernel_rfl) (by kernel_rfl) (by kernel_rfl) (fun _ _ _ h => h) (Or.inl ⟨by kernel_rfl, fun x hSx => by go_simp⟩) hHeld ?_
      try simp only [Act.put, List.setIfInBounds_toArray, List.set_cons_zero, List.set_cons_succ]
      refine hand_take 13 (some 74) (.slice a j cap) rfl rfl (by kernel_rfl) (by kernel_rfl) (by kernel_rfl) (fun _ _ _ h => h) (Or.inl ⟨by kernel_rfl, fun x hSx => by go_simp⟩) hHeld ?_
      try simp only [Act.put, List.setIfInBounds_toArray, List.set_cons_zero, List.set_cons_succ]
      refine hand_one 12 (by kernel_rfl) ?_
      refine hand_callw (some 73) rfl rfl (by kernel_rfl) 11 #[(.pointer (some ⟨gl, 0, none⟩))] ?he ((trecs hHeld.1).mono ?_)
      (case he => go_simp)
      rintro e yc ⟨⟨ar, cr, ns, rfl, hr1, hr2, hr3⟩, hbc⟩
      have hHeld0 := hHeld
      clear hHeld
      have HR1 := hide hr1
      clear hr1
      have hHeld := And.intro (hHeld0.1.later hbc) (And.intro (hHeld0.2.1.below hbc) (hHeld0.2.2.below hbc))
      clear hHeld0
      refine ⟨_, rfl, hHeld, ?_⟩
      try simp only [Act.put, List.setIfInBounds_toArray, List.set_cons_zero, List.set_cons_succ]
      refine hand_one 14 (by kernel_rfl) ?_
      refine hand_callw (some 75) rfl rfl (by kernel_rfl) 24 #[(.slice ar ns.length cr), (.slice a j cap)] ?he ((rlist_any _ _ ns ms yc HR1.out (by have e := hHeld.1.all.rs; rw [← HLN.out] at e; exact e) (hr2.trans HSA.out.symm) hr3).mono ?_)
      (case he => go_simp)
      rintro e yl ⟨rfl, hbl⟩
      have hHeld0 := hHeld
      clear hHeld
      have hHeld := And.intro (hHeld0.1.later hbl) (And.intro (hHeld0.2.1.below hbl) (hHeld0.2.2.below hbl))
      clear hHeld0
      refine ⟨_, rfl, hHeld, ?_⟩
      try simp only [Act.put, List.setIfInBounds_toArray, List.set_cons_zero, List.set_cons_succ]
      refine hand_take 15 (some 76) (.bool true) rfl rfl (by kernel_rfl) (by kernel_rfl) (by kernel_rfl) (fun _ _ _ h => h) (Or.inl ⟨by kernel_rfl, fun x hSx => by go_simp⟩) hHeld ?_
      try simp only [Act.put, List.setIfInBounds_toArray, List.set_cons_zero, List.set_cons_succ]
      refine hand_take 16 (some 4) (.bool true) rfl rfl (by kernel_rfl) (by kernel_rfl) (by kernel_rfl) (fun _ _ _ h => h) (Or.inl ⟨by kernel_rfl, fun x hSx => by go_simp⟩) hHeld ?_
      try simp only [Act.put, List.setIfInBounds_toArray, List.set_cons_zero, List.set_cons_succ]
      refine wpAnyH_done (by kernel_rfl) ?_ _
      refine NoPanic.normal ?_
      have HL := hide hHeld.1.bel
      clear hHeld
      go_wp2
      go_ret
      exact ⟨rfl, HL.out⟩
end Go.Proofs.Ytmdhnfeepadfaaa
