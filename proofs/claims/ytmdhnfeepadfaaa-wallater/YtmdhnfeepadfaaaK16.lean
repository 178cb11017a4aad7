/-
  Texts that lean on one another, one behind the other: each opens with its own remark.
-/
import Derived.Maps.AppendAt
import Derived.Test.YtmdhnfeepadfaaaProg
import Derived.Test.YtmdhnfeepadfaaaRows
import Derived.Test.YtmdhnfeepadfaaaK15
import Derived.Test.YtmdhnfeepadfaaaK14
import Derived.Test.YtmdhnfeepadfaaaK07
import Derived.Test.YtmdhnfeepadfaaaK00
import Derived.Test.YtmdhnfeepadfaaaK04

/-
  The contract of quaysidelaw07.laid.
-/
namespace Go.Proofs.Ytmdhnfeepadfaaa
open Go.RowKit
set_option linter.unusedVariables false

/-- The places behind each frame. -/
def endsV (rs : List Rec) : List Value := (List.range rs.length).map fun i => .int .i64 ((framesB (rs.take (i + 1))).length : Int)
theorem endsV_snoc (rs : List Rec) (r : Rec) : endsV (rs ++ [r]) = endsV rs ++ [.int .i64 ((framesB (rs ++ [r])).length : Int)] := by
  unfold endsV
  rw [List.length_append, List.length_singleton, List.range_succ, List.map_append]
  congr 1
  · apply List.map_congr_left
    intro i hi
    rw [List.take_append_of_le_length (by have := List.mem_range.1 hi; omega)]
  · have e : (rs ++ [r]).take (rs.length + 1) = rs ++ [r] := List.take_of_length_le (by simp)
    simp only [List.map_cons, List.map_nil, e]
theorem infoInt : (Try.prog.info? 3).map (fun i => (i.zero, i.size, i.bytes)) = some (some (.int .i64 0), 1, 8) := by kernel_rfl
/-- What is kept between two rounds. -/
structure LdI (w : World) (vo ve : Value) (rs : List Rec) (W : World) : Prop where
  out : W.ownsRow w.heap.size 5 1 vo (framesB rs).length (toV (framesB rs))
  ends : W.ownsRow w.heap.size 3 1 ve rs.length (endsV rs)
  bel : Below w.heap.size w W
  nil : rs = [] → vo = .slice none 0 0
theorem LdI.below {w : World} {vo ve : Value} {rs : List Rec} {A B : World} (h : LdI w vo ve rs A) (hb : Below A.heap.size A B) : LdI w vo ve rs B := ⟨ownsRow_below h.out hb, ownsRow_below h.ends hb, h.bel.trans (hb.mono h.bel.size), h.nil⟩
theorem own_grown {A B : World} {base n sz : Nat} {e t : TypeId} {v u : Value} {xs : List Value} {base' n' sz' : Nat} {ys : List Value} (h : A.ownsRow base e sz v n xs) (hu : A.ownsRow base' t sz' u n' ys) (ht : e ≠ t) (hg : A.grownBy B u.ownBlock) : B.ownsRow base e sz v n xs :=
  own_kept h (fun k cs hr => (hg.block k hr.lt (fun e => own_kind hu hr ht e.symm)).trans hr)
theorem frames_few : ∀ rs : List Rec, (∀ r ∈ rs, r.right) → (framesB rs).length ≤ rs.length * 1006
  | [], _ => Nat.le_refl _
  | r :: rs, h => by
    have h1 := frames_few rs (fun x hx => h x (List.mem_cons_of_mem _ hx))
    have h2 := rec_few r (h r (List.mem_cons_self ..))
    have e : framesB (r :: rs) = frameB r ++ framesB rs := by simp [framesB]
    rw [e, List.length_append, frameB_length, List.length_cons]
    omega
theorem rise_take : ∀ (rs : List Rec) (a i : Nat), Rise a rs → Rise a (rs.take i)
  | _, _, 0, _ => by rw [List.take_zero]; trivial
  | [], _, _ + 1, _ => trivial
  | r :: rs, a, i + 1, h => ⟨h.1, h.2.1, rise_take rs r.l i h.2.2⟩
theorem rise_at : ∀ (rs : List Rec) (a i : Nat), Rise a rs → i < rs.length → lastL a (rs.take i) < (rs.getD i Rec.zero).l
  | [], _, _, _, h => absurd h (by simp)
  | r :: rs, a, 0, h, _ => h.2.1
  | r :: rs, a, i + 1, h, hi => rise_at rs r.l i h.2.2 (by simpa using hi)
theorem msR_take (ms : List (Rec × Value × Value)) (i : Nat) : msR (ms.take i) = (msR ms).take i := by simp [msR, List.map_take]

end Go.Proofs.Ytmdhnfeepadfaaa

/-
  The contract of quaysidetop.bytes: a tape's bytes, opened once more, are just the frames of the records. (gen12/tbytes.py)
-/
namespace Go.Proofs.Ytmdhnfeepadfaaa
open Go.RowKit
set_option linter.unusedVariables false

theorem infoU64 : (Try.prog.info? 22).map (fun i => (i.zero, i.size, i.bytes)) = some (some (.int .u64 0), 1, 8) := by kernel_rfl
theorem exec_appendT {P : Program} {o : Oper} {a : Act} {w w' : World} {v' : Value} (d x : Operand) (t u : TypeId) (hop : o.op = Op.call { callee := Callee.builtin Builtin.append, args := #[d, x], argTypes := #[t, u] }) (vd vx : Value) (hs : a.eval d = vd) (hx : a.eval x = vx) (hrun : (Builtin.append_ #[t, u] o.type #[vd, vx]).run P w = .ok v' w') : (execOp a.eval o).run P w = .ok (.value v') w' := by
  simp [execOp, hop, resolve, invoke, builtin, hs, hx, hrun, Result.andThen]
theorem exec_convT {P : Program} {o : Oper} {a : Act} {w : World} {v : Value} (s t : TypeId) (x : Operand) (ho : o.op = .convert s t x) (u : Value) (hu : a.eval x = u) (hv : (convert s t u).run P w = .ok v w) : (execOp a.eval o).run P w = .ok (.value v) w := by
  unfold execOp
  simp only [ho, hu, Sem.run_bind, hv, Result.andThen_ok, Sem.run_pure]
theorem run_strT (x : World) (a : Option Addr) (n c : Nat) (bs : List UInt8) (h : IsB x a n bs) : (convert 61 9 (.slice a n c)).run Try.prog x = .ok (.string ⟨bs.toArray⟩) x := run_toString (P := Try.prog) x 61 9 5 Try.underlying61 Try.underlying5 Try.underlying9 a n c bs h
/-- One more number behind a row of one's own. -/
theorem run_app_u64 (ty : TypeId) (w : World) (B k : Nat) (v : Value) (xs : List Value) (hown : w.ownsRow B 22 1 v k xs) (b : Nat) (u : Int) (hB : RowAt w b 22 #[.int .u64 u]) (hz : k ≤ 100000) (hbase : B ≤ w.heap.size) :
    ∃ v' w', (Builtin.append_ #[94, 94] ty #[v, .slice (some ⟨b, 0, none⟩) 1 1]).run Try.prog w = .ok v' w' ∧ w'.ownsRow B 22 1 v' (k + 1) (xs ++ [.int .u64 u]) ∧ w.grownBy w' v.ownBlock := by
  obtain ⟨i, hi0, hi1⟩ := Option.map_eq_some_iff.1 infoU64
  simp only [Prod.mk.injEq] at hi1
  obtain ⟨v', w', r1, r2, r3, _⟩ := run_append_own (P := Try.prog) w B 94 ty 22 i (.int .u64 0) 1 8 Try.underlying94 hi0 hi1.1 hi1.2.1 hi1.2.2 rfl (by omega) v k xs hown ⟨b, 0, none⟩ 1 1 [.int .u64 u] rfl (fun j u' hu => by
    rw [Addr.add_lit, Nat.zero_add]
    exact hB.cell j u' (by simpa using hu)) (fun u' hu => by
    rw [List.mem_singleton] at hu
    rw [hu]
    rfl) (by unfold maxLen; omega) (by omega) hbase
  exact ⟨v', w', r1, r2, r3⟩
/-- What the loop keeps: the numbers, and the frames. -/
structure BI (w wr : World) (vn vw : Value) (rs : List Rec) : Prop where
  num : wr.ownsRow w.heap.size 22 1 vn rs.length (rs.map fun r => .int .u64 (r.l : Int))
  out : wr.ownsRow w.heap.size 5 1 vw (framesB rs).length (toV (framesB rs))
  bel : Below w.heap.size w wr
theorem BI.below {w wr x : World} {vn vw : Value} {rs : List Rec} (h : BI w wr vn vw rs) (hb : Below wr.heap.size wr x) : BI w x vn vw rs := ⟨ownsRow_below h.num hb, ownsRow_below h.out hb, h.bel.trans (hb.mono h.bel.size)⟩
theorem rise_rises : ∀ (rs : List Rec) (a : Nat), Rise a rs → rises (rs.map (·.l)) = true
  | [], _, _ => rfl
  | [_], _, _ => rfl
  | r :: s :: rs, a, h => by
    have h1 := rise_rises (s :: rs) r.l h.2.2
    have h2 : r.l < s.l := h.2.2.2.1
    show (decide (r.l < s.l) && rises ((s :: rs).map (·.l))) = true
    rw [h1, decide_eq_true h2]
    rfl
theorem nums_isU {w x : World} {v : Value} {rs : List Rec} (h : x.ownsRow w.heap.size 22 1 v rs.length (rs.map fun r => .int .u64 (r.l : Int))) (hb : ∀ r ∈ rs, r.l < 18446744073709551616) : ∃ a c, v = .slice a rs.length c ∧ IsU x a rs.length (rs.map (·.l)) := by
  rcases h.2 with ⟨h1, h2⟩ | ⟨g, cap, cur, h1, h2, h3, h4, h5, h6, h7⟩
  · exact ⟨none, 0, by rw [h1, h2], by simp, fun z hz => by
      obtain ⟨r, hr, rfl⟩ := List.mem_map.1 hz
      exact hb r hr, fun hp => by omega⟩
  · refine ⟨_, cap, h1, by simp, fun z hz => ?_, fun hp => ⟨g, 0, rfl, (show RowAt x g 22 cur from h3).lt, fun j hj => ?_⟩⟩
    · obtain ⟨r, hr, rfl⟩ := List.mem_map.1 hz
      exact hb r hr
    · have e := (show RowAt x g 22 cur from h3).cell (0 + j) (.int .u64 ((rs.map (·.l)).getD j 0 : Nat)) (by
        have e2 : (cur.toList.take (rs.length * 1))[j]? = (rs.map fun r => Value.int .u64 (r.l : Int))[j]? := by rw [h7]
        rw [List.getElem?_take, if_pos (by omega), Array.getElem?_toList] at e2
        rw [Nat.zero_add, e2, List.getElem?_map, List.getElem?_eq_getElem hj, List.getD_eq_getElem?_getD, List.getElem?_map, List.getElem?_eq_getElem hj]
        rfl)
      exact e

set_option maxRecDepth 8000 in
set_option maxHeartbeats 12800000 in
theorem tb_any (w0 w : World) (gt : Nat) (t : Tp) (a : Option Addr) (cap : Nat) (ms : List Rm) (h : TU w0 w gt t a cap ms) (same : msR ms = (Lg.open t 0).l) :
    Calls Try.prog 30 #[.pointer (some ⟨gt, 0, none⟩), .slice a ms.length cap] w fun e w' => e = .returned (.bool true) ∧ Below w0.heap.size w0 w' := by
  have HT := hide h
  have HSA := hide same
  clear h same
  obtain ⟨ln, hln⟩ : ∃ ln, ln = ms.length := ⟨_, rfl⟩
  rw [← hln]
  have HLN := hide hln
  clear hln
  go_enter Try.func30, Try.ntmps30
  go_wp2_with fail
  refine (topen HT.out).mono ?_
  rintro e w1 ⟨gl, rfl, h1⟩
  obtain ⟨g, hg⟩ : ∃ g, g = Lg.open t 0 := ⟨_, rfl⟩
  have hon : g.on = g.l.length := by rw [hg]; rfl
  rw [← hg] at h1 HSA
  have H1 := hide h1
  have HB0 : Hid (g.t.b.data.toList = framesB g.l) := by
    have e := h1.ok.bytes
    rw [hon, List.take_length] at e
    exact e
  have HRS := hide h1.ok.rise
  have HLF : Hid (ln = g.l.length ∧ ln ≤ 20000 ∧ (framesB g.l).length ≤ 65536) := by
    have e1 := few_recs g h1.ok
    have e2 : ms.length = g.l.length := by rw [← HSA.out]; simp [msR]
    have e3 := h1.ok.tok
    have e4 := congrArg List.length HB0.out
    rw [data_length] at e4
    have e5 := e3.few
    have e6 := e3.room
    exact ⟨by rw [HLN.out, e2], by have := HLN.out; omega, by omega⟩
  have HRS2 := hide h1.all.rs
  have hcap := h1.all.cap
  clear h1 hg hon HT
  go_wp2
  go_loopw [7, 8, 25] (fun vn vw i wr => ∃ j : Nat, j ≤ ln ∧ i = .int .i64 (j : Int) ∧ Hid (BI w1 wr vn vw (g.l.take j))) (fun _ _ i _ => ln - (intOf i).toNat)
  case atStart => exact ⟨0, Nat.zero_le _, rfl, by rw [List.take_zero]; exact ⟨World.ownsRow_nil _ _ _ _, World.ownsRow_nil _ _ _ _, Below.refl _ _⟩⟩
  case round =>
    obtain ⟨j, hj, rfl, HI⟩ := hrel
    by_cases hlt : j < ln
    · have ij : (j : Int) < (ln : Int) := by omega
      obtain ⟨b1, o1, r, e1, k1, e2, k2, rfl, hm, hf, hx⟩ := HRS2.out.mid (i := j) (by rw [← HLN.out]; exact hlt)
      have hgr : g.l.getD j Rec.zero = r := by rw [← HSA.out, msR_get, hm]
      have hjl : j < g.l.length := by rw [← HLF.out.1]; exact hlt
      have hr : r.right := rise_right _ 0 HRS.out r (by rw [← hgr]; exact getD_mem _ _ _ hjl)
      have HTK : Hid (g.l.take (j + 1) = g.l.take j ++ [r]) := by rw [take_snoc7 g.l j Rec.zero hjl, hgr]; exact rfl
      have HFL : Hid ((g.l.take j).length = j ∧ (framesB (g.l.take j)).length ≤ 65536) := by
        refine ⟨by rw [List.length_take, Nat.min_eq_left (Nat.le_of_lt hjl)], ?_⟩
        have h1 := frames_len g.l j
        have h2 := HLF.out.2.2
        omega
      have HX := hide (show ∀ x, Below w1.heap.size w1 x → x.rangeAt b1 (o1 + j * 14) (rcF (r, .slice e1 r.ts.length k1, .slice e2 r.ds.length k2)).toList ∧ RcIn x r (.slice e1 r.ts.length k1) (.slice e2 r.ds.length k2) from hx)
      have HR := hide (And.intro hr hf)
      have hfl := frameB_length r
      have hfw := rec_few r hr
      have hrl : r.l < 18446744073709551616 := by have := hr.lm; unfold maxP at this; omega
      clear hx hm hgr hjl hr hf
      generalize hrs : g.l.take j = rs at *
      obtain ⟨an, cn, hvn⟩ := own_shape5 HI.out.num
      obtain ⟨ao, co, hvo⟩ := own_shape5 HI.out.out
      subst hvn hvo
      have HRJ := hide hrs
      clear hrs
      obtain ⟨lr, hlr⟩ : ∃ lr, lr = rs.length := ⟨_, rfl⟩
      obtain ⟨lo, hlo⟩ : ∃ lo, lo = (framesB rs).length := ⟨_, rfl⟩
      rw [← hlr, ← hlo] at HFL
      rw [← hlr, ← hlo]
      have HLL := hide (And.intro hlr hlo)
      clear hlr hlo
      have c1 : wr.cell? ⟨b1, o1 + j * 14 + 1, none⟩ = some (.int .u64 (r.l : Int)) := (HX.out wr HI.out.bel).1 1 _ rfl
      have hbA : Below wr.heap.size wr (wr.alloc (.cells #[.int .u64 (r.l : Int)] 22)) := (Below.refl _ _).alloc (Nat.le_refl _) _
      have HIA := hide (HI.out.below hbA)
      obtain ⟨v2, w2, q1, q2, q3⟩ := run_app_u64 94 (wr.alloc (.cells #[.int .u64 (r.l : Int)] 22)) w1.heap.size rs.length _ _ HIA.out.num wr.heap.size (r.l : Int) (RowAt.new wr _ _) (by have := HFL.out.1; have := HLL.out.1; have := HLF.out.2.1; omega) HIA.out.bel.size
      have HI2 := hide (show w2.ownsRow w1.heap.size 5 1 (.slice ao (framesB rs).length co) (framesB rs).length (toV (framesB rs)) ∧ Below w1.heap.size w1 w2 ∧ w2.ownsRow w1.heap.size 22 1 v2 (rs.length + 1) ((rs.map fun r => Value.int .u64 (r.l : Int)) ++ [.int .u64 (r.l : Int)]) from
        ⟨own_grown HIA.out.out HIA.out.num (by decide) q3, HIA.out.bel.grown q3 HIA.out.bel.size (fun k hk => (HIA.out.num.lt k hk).1), q2⟩)
      rw [← HLL.out.1] at q1
      clear q2 q3 hbA HIA HI
      go_wp2_with (with_reducible refine stop_at 35 rfl ?_)
      refine unstop10 ?_
      refine lst_run (some 35) rfl rfl v2 w2 (exec_appendT _ _ _ _ rfl _ _ rfl rfl q1) ?_
      try simp only [Act.put, List.setIfInBounds_toArray, List.set_cons_zero, List.set_cons_succ]
      clear q1 c1
      have HLD := hide (load_mid w2 b1 (o1 + j * 14) (r, .slice e1 r.ts.length k1, .slice e2 r.ds.length k2) (HX.out w2 HI2.out.2.1).1)
      obtain ⟨a2, c2, rfl⟩ := own_shape5 HI2.out.2.2
      go_wp2_with (refine wpList_load_val rfl 28 (.tmp 39) rfl _ _ rfl HLD.out ?_)
      refine (fput_ok r (.slice e1 r.ts.length k1) (.slice e2 r.ds.length k2) w2 HR.out.1 HR.out.2 (HX.out w2 HI2.out.2.1).2).mono ?_
      rintro e w3 ⟨v3, rfl, hown3, hb3⟩
      obtain ⟨a3, cap3, rfl, -, hB3⟩ := shape_isB hown3
      have HNL : Hid (a3 = none → cap3 = 0) := by
        obtain ⟨g2, c2, h2, _⟩ := own_slice hown3 (by omega)
        injection h2 with h2 _ _
        rw [h2]
        exact fun h => absurd h (by simp)
      have HB3 := hide hB3
      have HI3 := hide (show w3.ownsRow w1.heap.size 5 1 (.slice ao (framesB rs).length co) (framesB rs).length (toV (framesB rs)) ∧ Below w1.heap.size w1 w3 ∧ w3.ownsRow w1.heap.size 22 1 (.slice a2 (rs.length + 1) c2) (rs.length + 1) ((rs.map fun r => Value.int .u64 (r.l : Int)) ++ [.int .u64 (r.l : Int)]) from ⟨ownsRow_below HI2.out.1 hb3, HI2.out.2.1.trans (hb3.mono HI2.out.2.1.size), ownsRow_below HI2.out.2.2 hb3⟩)
      clear hown3 hB3 hb3 HI2 HLD
      have HLR := hide hfl
      have hfb : 0 < (frameB r).length ∧ (frameB r).length ≤ 1006 := by omega
      clear hfl hfw
      generalize hLF : (frameB r).length = lf at *
      have HLFr := hide hLF
      clear hLF
      go_wp2_with (with_reducible refine stop_at 52 rfl ?_)
      refine unstop10 ?_
      refine lst_load (some 52) (.agg (rcF (r, .slice e1 r.ts.length k1, .slice e2 r.ds.length k2))) rfl rfl 28 _ rfl (.pointer (some ⟨b1, o1 + j * 14, none⟩)) rfl (load_mid w3 b1 (o1 + j * 14) (r, .slice e1 r.ts.length k1, .slice e2 r.ds.length k2) (HX.out w3 HI3.out.2.1).1) ?_
      try simp only [Act.put, List.setIfInBounds_toArray, List.set_cons_zero, List.set_cons_succ]
      refine lst_call (some 53) rfl rfl 49 #[.agg (rcF (r, .slice e1 r.ts.length k1, .slice e2 r.ds.length k2))] ?he ((size_any r (.slice e1 r.ts.length k1) (.slice e2 r.ds.length k2) w3 HR.out.2 (HX.out w3 HI3.out.2.1).2).mono ?_)
      (case he => go_simp)
      rintro e w4 ⟨rfl, hb4⟩
      have HI4 := hide (show w4.ownsRow w1.heap.size 5 1 (.slice ao lo co) lo (toV (framesB rs)) ∧ Below w1.heap.size w1 w4 ∧ w4.ownsRow w1.heap.size 22 1 (.slice a2 (rs.length + 1) c2) (rs.length + 1) ((rs.map fun r => Value.int .u64 (r.l : Int)) ++ [.int .u64 (r.l : Int)]) from ⟨by rw [HLL.out.2]; exact ownsRow_below HI3.out.1 hb4, HI3.out.2.1.trans (hb4.mono HI3.out.2.1.size), ownsRow_below HI3.out.2.2 hb4⟩)
      have HB4 := hide (HB3.out.below hb4)
      have hsz : ((encL r).length : Int) = (lf : Int) - 6 := by
        have e : encL r = recB r := by unfold encL; rw [if_pos (rightB_yes HR.out.1)]
        rw [e]
        have := HLR.out
        omega
      refine ⟨_, rfl, ?_⟩
      rw [hsz]
      try simp only [Act.put, List.setIfInBounds_toArray, List.set_cons_zero, List.set_cons_succ]
      have ew : IntKind.i64.wrap ((lf : Int) - 6 + 6) = (lf : Int) := by rw [IntKind.wrap_i64]; omega
      have ew2 : IntKind.i64.wrap (lf : Int) = (lf : Int) := by rw [IntKind.wrap_i64]; omega
      clear hb4 HI3 HB3 hsz
      have hob : lo ≤ 65536 := HFL.out.2
      have hlf1 : lf ≤ 1006 := hfb.2
      have hlf0 : 0 < lf := hfb.1
      clear hfb
      go_wp2_with (at_builtin; refine wpList_append_ob _ rfl (.tmp 57) (.tmp 58) 61 rfl 5 Try.underlying61 info8 w1.heap.size _ lo (framesB rs) rfl HI4.out.1 a3 lf cap3 (frameB r) rfl HB4.out HNL.out (by omega) HI4.out.2.1.size ?_)
      intro v5 w5 hown5 hg5
      have HN5 := hide (own_grown HI4.out.2.2 HI4.out.1 (show (22 : TypeId) ≠ 5 by decide) hg5)
      have HD5 := hide (HI4.out.2.1.grown hg5 HI4.out.2.1.size (fun k hk => (HI4.out.1.lt k hk).1))
      have H5 : Hid (BI w1 w5 (.slice a2 (rs.length + 1) c2) v5 (g.l.take (j + 1))) := by
        rw [HTK.out]
        refine ⟨?_, ?_, HD5.out⟩
        · have e := HN5.out
          rw [List.length_append, List.length_singleton, List.map_append]
          exact e
        · rw [framesB_snoc, List.length_append, ← HLL.out.2, HLFr.out]
          exact hown5
      obtain ⟨a5, c5, rfl⟩ := own_shape5 hown5
      clear hown5 hg5 HN5 HD5 HI4 HB4
      have hln2 : ln ≤ 20000 := HLF.out.2.1
      go_wp2
      go_roundw
      case rel => exact ⟨j + 1, by omega, by go_num, H5⟩
      case measure => simp [intOf]; omega
    · have ij : ¬ (j : Int) < (ln : Int) := by omega
      obtain rfl : j = ln := by omega
      have hall : g.l.take j = g.l := by rw [HLF.out.1, List.take_length]
      rw [hall] at HI
      have hbd : ∀ r ∈ g.l, r.l < 18446744073709551616 := fun r hr => by have := (rise_right _ 0 HRS.out r hr).lm; unfold maxP at this; omega
      obtain ⟨an, cn, rfl, hU⟩ := nums_isU HI.out.num hbd
      obtain ⟨ao, co, rfl, -, hO⟩ := shape_isB HI.out.out
      have HRI := hide (rise_rises g.l 0 HRS.out)
      have HWS : Hid (∀ x c, IsB x ao (framesB g.l).length (framesB g.l) → (convert 61 9 (.slice ao (framesB g.l).length c)).run Try.prog x = .ok (.string g.t.b) x) := hide (fun x c hx => by
        rw [run_strT x ao _ c _ hx, ← HB0.out, Array.toArray_toList])
      have HRC := hide (fun x (hx : IsU x an g.l.length (g.l.map (·.l))) => rises_any an g.l.length cn (g.l.map (·.l)) x hx (by have := HLF.out; omega))
      rw [HRI.out] at HRC
      have HS0 := hide (show TT w0 wr.drew gt gl g a cap ms ∧ IsB wr.drew ao (framesB g.l).length (framesB g.l) ∧ IsU wr.drew an g.l.length (g.l.map (·.l)) from ⟨(H1.out.later HI.out.bel).later (below_dn (Below.refl _ _) 1), hO.below (below_dn (Below.refl _ _) 1), hU.below (below_dn (Below.refl _ _) 1)⟩)
      clear hall hbd hU hO HI
      go_wp2_with fail
      refine wp_region_noPanic ?_
      refine wp_region_held_drew (S := (fun x => TT w0 x gt gl g a cap ms ∧ IsB x ao (framesB g.l).length (framesB g.l) ∧ IsU x an g.l.length (g.l.map (·.l)))) (by kernel_rfl) (HS0.out) (fun hHeld => ?_)
      clear HS0
      refine hand_take 0 (some 61) (.slice an g.l.length cn) rfl rfl (by kernel_rfl) (by kernel_rfl) (by kernel_rfl) (fun _ _ _ h => h) (Or.inl ⟨by kernel_rfl, fun x hSx => by go_simp⟩) hHeld ?_
      try simp only [Act.put, List.setIfInBounds_toArray, List.set_cons_zero, List.set_cons_succ]
      refine hand_one 1 (by kernel_rfl) ?_
      refine hand_callw (some 62) rfl rfl (by kernel_rfl) 50 #[(.slice an g.l.length cn)] ?he ((HRC.out _ hHeld.2.2).mono ?_)
      (case he => go_simp)
      rintro e yr ⟨rfl, hbr⟩
      have hHeld0 := hHeld
      clear hHeld
      have hHeld := And.intro (hHeld0.1.later hbr) (And.intro (hHeld0.2.1.below hbr) (hHeld0.2.2.below hbr))
      clear hHeld0
      refine ⟨_, rfl, hHeld, ?_⟩
      try simp only [Act.put, List.setIfInBounds_toArray, List.set_cons_zero, List.set_cons_succ]
      refine hand_take 2 (some 63) (.bool true) rfl rfl (by kernel_rfl) (by kernel_rfl) (by kernel_rfl) (fun _ _ _ h => h) (Or.inl ⟨by kernel_rfl, fun x hSx => by go_simp⟩) hHeld ?_
      try simp only [Act.put, List.setIfInBounds_toArray, List.set_cons_zero, List.set_cons_succ]
      refine hand_take 3 (some 64) (.pointer (some ⟨gt, 0, none⟩)) rfl rfl (by kernel_rfl) (by kernel_rfl) (by kernel_rfl) (fun _ _ _ h => h) (Or.inl ⟨by kernel_rfl, fun x hSx => by go_simp⟩) hHeld ?_
      try simp only [Act.put, List.setIfInBounds_toArray, List.set_cons_zero, List.set_cons_succ]
      refine hand_take 6 (some 67) (.slice ao (framesB g.l).length co) rfl rfl (by kernel_rfl) (by kernel_rfl) (by kernel_rfl) (fun _ _ _ h => h) (Or.inl ⟨by kernel_rfl, fun x hSx => by go_simp⟩) hHeld ?_
      try simp only [Act.put, List.setIfInBounds_toArray, List.set_cons_zero, List.set_cons_succ]
      refine hand_take 7 (some 68) (.string g.t.b) rfl rfl (by kernel_rfl) (by kernel_rfl) (by kernel_rfl) (fun _ _ _ h => h) (Or.inl ⟨by kernel_rfl, fun x hSx => exec_convT 61 9 _ rfl (.slice ao (framesB g.l).length co) rfl (HWS.out x co hSx.2.1)⟩) hHeld ?_
      try simp only [Act.put, List.setIfInBounds_toArray, List.set_cons_zero, List.set_cons_succ]
      refine hand_one 4 (by kernel_rfl) ?_
      refine hand_callw (some 65) rfl rfl (by kernel_rfl) 25 #[(.pointer (some ⟨gt, 0, none⟩))] ?he ((tbytes hHeld.1.tape).mono ?_)
      (case he => go_simp)
      rintro e yb ⟨ab, cb, rfl, -, hib, hbb⟩
      have hHeld0 := hHeld
      clear hHeld
      have hHeld := And.intro (hHeld0.1.later hbb) (And.intro (hHeld0.2.1.below hbb) (hHeld0.2.2.below hbb))
      clear hHeld0
      refine ⟨_, rfl, hHeld, ?_⟩
      try simp only [Act.put, List.setIfInBounds_toArray, List.set_cons_zero, List.set_cons_succ]
      refine hand_one 5 (by kernel_rfl) ?_
      refine hand_runw (some 66) rfl rfl (by kernel_rfl) (.string g.t.b) _ (exec_convT 61 9 _ rfl (.slice ab g.t.b.size cb) rfl (by rw [run_strT _ ab _ cb _ hib, Array.toArray_toList])) ?_
      refine ⟨hHeld, ?_⟩
      try simp only [Act.put, List.setIfInBounds_toArray, List.set_cons_zero, List.set_cons_succ]
      refine hand_take 8 (some 69) (.bool true) rfl rfl (by kernel_rfl) (by kernel_rfl) (by kernel_rfl) (fun _ _ _ h => h) (Or.inl ⟨by kernel_rfl, fun x hSx => by go_simp⟩) hHeld ?_
      try simp only [Act.put, List.setIfInBounds_toArray, List.set_cons_zero, List.set_cons_succ]
      refine hand_take 9 (some 70) (.bool true) rfl rfl (by kernel_rfl) (by kernel_rfl) (by kernel_rfl) (fun _ _ _ h => h) (Or.inl ⟨by kernel_rfl, fun x hSx => by go_simp⟩) hHeld ?_
      try simp only [Act.put, List.setIfInBounds_toArray, List.set_cons_zero, List.set_cons_succ]
      refine hand_take 10 (some 71) (.bool true) rfl rfl (by kernel_rfl) (by kernel_rfl) (by kernel_rfl) (fun _ _ _ h => h) (Or.inl ⟨by kernel_rfl, fun x hSx => by go_simp⟩) hHeld ?_
      try simp only [Act.put, List.setIfInBounds_toArray, List.set_cons_zero, List.set_cons_succ]
      refine hand_take 11 (some 72) (.pointer (some ⟨gl, 0, none⟩)) rfl rfl (by kernel_rfl) (by kernel_rfl) (by kernel_rfl) (fun _ _ _ h => h) (Or.inl ⟨by kernel_rfl, fun x hSx => by go_simp⟩) hHeld ?_
      try simp only [Act.put, List.setIfInBounds_toArray, List.set_cons_zero, List.set_cons_succ]
      refine hand_take 13 (some 74) (.slice a j cap) rfl rfl (by kernel_rfl) (by kernel_rfl) (by kernel_rfl) (fun _ _ _ h => h) (Or.inl ⟨by kernel_rfl, fun x hSx => by go_simp⟩) hHeld ?_
      try simp only [Act.put, List.setIfInBounds_toArray, List.set_cons_zero, List.set_cons_succ]
      refine hand_one 12 (by kernel_rfl) ?_
      refine hand_callw (some 73) rfl rfl (by kernel_rfl) 11 #[(.pointer (some ⟨gl, 0, none⟩))] ?he ((trecs hHeld.1).mono ?_)
      (case he => go_simp)
      rintro e yc ⟨⟨ar, cr, ns, rfl, hr1, hr2, hr3⟩, hbc⟩
      have hHeld0 := hHeld
      clear hHeld
      have HR1 := hide hr1
      clear hr1
      have hHeld := And.intro (hHeld0.1.later hbc) (And.intro (hHeld0.2.1.below hbc) (hHeld0.2.2.below hbc))
      clear hHeld0
      refine ⟨_, rfl, hHeld, ?_⟩
      try simp only [Act.put, List.setIfInBounds_toArray, List.set_cons_zero, List.set_cons_succ]
      refine hand_one 14 (by kernel_rfl) ?_
      refine hand_callw (some 75) rfl rfl (by kernel_rfl) 24 #[(.slice ar ns.length cr), (.slice a j cap)] ?he ((rlist_any _ _ ns ms yc HR1.out (by have e := hHeld.1.all.rs; rw [← HLN.out] at e; exact e) (hr2.trans HSA.out.symm) hr3).mono ?_)
      (case he => go_simp)
      rintro e yl ⟨rfl, hbl⟩
      have hHeld0 := hHeld
      clear hHeld
      have hHeld := And.intro (hHeld0.1.later hbl) (And.intro (hHeld0.2.1.below hbl) (hHeld0.2.2.below hbl))
      clear hHeld0
      refine ⟨_, rfl, hHeld, ?_⟩
      try simp only [Act.put, List.setIfInBounds_toArray, List.set_cons_zero, List.set_cons_succ]
      refine hand_take 15 (some 76) (.bool true) rfl rfl (by kernel_rfl) (by kernel_rfl) (by kernel_rfl) (fun _ _ _ h => h) (Or.inl ⟨by kernel_rfl, fun x hSx => by go_simp⟩) hHeld ?_
      try simp only [Act.put, List.setIfInBounds_toArray, List.set_cons_zero, List.set_cons_succ]
      refine hand_take 16 (some 4) (.bool true) rfl rfl (by kernel_rfl) (by kernel_rfl) (by kernel_rfl) (fun _ _ _ h => h) (Or.inl ⟨by kernel_rfl, fun x hSx => by go_simp⟩) hHeld ?_
      try simp only [Act.put, List.setIfInBounds_toArray, List.set_cons_zero, List.set_cons_succ]
      refine wpAnyH_done (by kernel_rfl) ?_ _
      refine NoPanic.normal ?_
      have HL := hide hHeld.1.bel
      clear hHeld
      go_wp2
      go_ret
      exact ⟨rfl, HL.out⟩
end Go.Proofs.Ytmdhnfeepadfaaa

/-
  The contract of quaysidelaw09.few.
-/
namespace Go.Proofs.Ytmdhnfeepadfaaa
open Go.RowKit
set_option linter.unusedVariables false

/-- A call of a script that lies there. -/
theorem wcs_cell {w : World} {a : Option Addr} {cap : Nat} {cs : List Wc} (h : RowsIn wcA Wc.zero 17 w (.slice a cs.length cap) cs) (hp : 0 < cs.length) :
    ∃ b off, a = some ⟨b, off, none⟩ ∧ b < w.heap.size ∧ ∀ i, i < cs.length → w.rangeAt b (off + i * 17) (wcA (cs.getD i Wc.zero)).toList := by
  obtain ⟨a', cap', e, h2⟩ := h
  injection e with e1 e2 e3
  subst e1
  exact h2 hp
/-- A record's lists are slices of their lengths. -/
theorem rc_slices {w : World} {r : Rec} {va vb : Value} (h : RcIn w r va vb) : ∃ a c b d, va = .slice a r.ts.length c ∧ vb = .slice b r.ds.length d := by
  obtain ⟨⟨a, c, e1, _⟩, ⟨b, d, e2, _⟩⟩ := h
  exact ⟨a, c, b, d, e1, e2⟩

set_option maxRecDepth 4000 in
set_option maxHeartbeats 400000 in
theorem few9_long (a : Option Addr) (len cap : Nat) (w : World) (h : 100 < len) :
    Calls Try.prog 23 #[.slice a len cap] w fun e w' => e = .returned (.bool false) ∧ w = w' := by
  have h1 : (100 : Int) < (len : Int) := by omega
  go_enter Try.func23, Try.ntmps23
  go_wp2
  go_ret
  exact ⟨rfl, rfl⟩

/-- What few tells. -/
def Few9 (cs : List Wc) (w : World) (e : Ending) (w' : World) : Prop := ∃ q, e = .returned (.bool q) ∧ ((q = true → cs.length ≤ 100 ∧ ∀ i, i < cs.length → (cs.getD i Wc.zero).m.1.ts.length ≤ 100 ∧ (cs.getD i Wc.zero).m.1.ds.length ≤ 100) ∧ ((cs.length ≤ 100 ∧ ∀ i, i < cs.length → (cs.getD i Wc.zero).m.1.ts.length ≤ 100 ∧ (cs.getD i Wc.zero).m.1.ds.length ≤ 100) → q = true)) ∧ w = w'
set_option maxRecDepth 4000 in
set_option maxHeartbeats 800000 in
theorem few9_any (v : Value) (cs : List Wc) (w : World) (h : RowsIn wcA Wc.zero 17 w v cs) (hr : ∀ c ∈ cs, RcIn w c.m.1 c.m.2.1 c.m.2.2) (hc : ∀ a len cap, v = .slice a len cap → len ≤ cap) :
    Calls Try.prog 23 #[v] w (Few9 cs w) := by
  have h' := h
  obtain ⟨a, cap, rfl, -⟩ := h'
  have hcap := hc _ _ _ rfl
  by_cases hl : 100 < cs.length
  · exact (few9_long a cs.length cap w hl).mono fun e w' he => ⟨false, he.1, ⟨fun h => (nomatch h), fun hq => absurd hq.1 (by omega)⟩, he.2⟩
  have h1 : ¬ (100 : Int) < (cs.length : Int) := by omega
  have HC := hide (wcs_cell h)
  have HRR := hide (fun i (hi : i < cs.length) => rc_slices (hr (cs.getD i Wc.zero) (by
    rw [List.getD_eq_getElem?_getD, List.getElem?_eq_getElem hi]
    exact List.getElem_mem hi)))
  obtain ⟨ln, hln⟩ : ∃ ln, cs.length = ln := ⟨_, rfl⟩
  rw [hln] at HC HRR h1 hl hcap ⊢
  have HLN := hide hln
  clear h hc hln hr
  go_enter Try.func23, Try.ntmps23
  go_wp2
  go_loopw [9] (fun i wr => ∃ j : Nat, j ≤ ln ∧ i = .int .i64 j ∧ w = wr ∧ ∀ i, i < j → (cs.getD i Wc.zero).m.1.ts.length ≤ 100 ∧ (cs.getD i Wc.zero).m.1.ds.length ≤ 100) (fun i _ => ln - (intOf i).toNat)
  case atStart => exact ⟨0, Nat.zero_le _, rfl, rfl, fun i hi => absurd hi (Nat.not_lt_zero _)⟩
  case round =>
    obtain ⟨j, hj, rfl, rfl, hall⟩ := hrel
    by_cases hlt : j < ln
    · obtain ⟨b, off, rfl, -, hcell⟩ := HC.out (by omega)
      obtain ⟨a1, c1, a2, c2, ht, hd⟩ := HRR.out j hlt
      have d1 := hcell j hlt 13 _ rfl
      have d2 := hcell j hlt 14 _ rfl
      rw [ht] at d1
      rw [hd] at d2
      have hjc : (j : Int) < (ln : Int) := by omega
      have HA := hide hall
      clear hcell HC hall HRR ht hd
      obtain ⟨T, hT⟩ : ∃ T, T = (cs.getD j Wc.zero).m.1.ts.length := ⟨_, rfl⟩
      obtain ⟨D, hD⟩ : ∃ D, D = (cs.getD j Wc.zero).m.1.ds.length := ⟨_, rfl⟩
      rw [← hT] at d1
      rw [← hD] at d2
      have HT := hide (And.intro hT hD)
      clear hT hD
      by_cases hs : T ≤ 100 ∧ D ≤ 100
      · have hs1 : ¬ (100 : Int) < (T : Int) := by omega
        have hs2 : ¬ (100 : Int) < (D : Int) := by omega
        clear hs
        go_wp2
        go_roundw
        case rel =>
          refine ⟨j + 1, by omega, by go_num, by first | rfl | trivial, fun i hi => ?_⟩
          by_cases e : i = j
          · rw [e, ← HT.out.1, ← HT.out.2]
            omega
          · exact HA.out i (by omega)
        case measure => simp [intOf]; omega
      · by_cases hs1 : (100 : Int) < (T : Int)
        · clear hs
          go_wp2
          go_ret
          exact ⟨false, rfl, ⟨fun h => (nomatch h), fun hq => absurd (hq.2 j (by have := HLN.out; omega)) (by rw [← HT.out.1, ← HT.out.2]; omega)⟩, rfl⟩
        · have hs2 : (100 : Int) < (D : Int) := by omega
          clear hs
          go_wp2
          go_ret
          exact ⟨false, rfl, ⟨fun h => (nomatch h), fun hq => absurd (hq.2 j (by have := HLN.out; omega)) (by rw [← HT.out.1, ← HT.out.2]; omega)⟩, rfl⟩
    · obtain rfl : j = ln := by omega
      go_wp2
      go_ret
      exact ⟨true, rfl, ⟨fun _ => ⟨by have := HLN.out; omega, fun i hi => hall i (by have := HLN.out; omega)⟩, fun _ => rfl⟩, rfl⟩
theorem few9_yes (v : Value) (cs : List Wc) (w : World) (h : RowsIn wcA Wc.zero 17 w v cs) (hr : ∀ c ∈ cs, RcIn w c.m.1 c.m.2.1 c.m.2.2) (hc : ∀ a len cap, v = .slice a len cap → len ≤ cap) (hq : cs.length ≤ 100 ∧ ∀ i, i < cs.length → (cs.getD i Wc.zero).m.1.ts.length ≤ 100 ∧ (cs.getD i Wc.zero).m.1.ds.length ≤ 100) :
    Calls Try.prog 23 #[v] w fun e w' => e = .returned (.bool true) ∧ w = w' := (few9_any v cs w h hr hc).mono fun e w' ⟨q, h1, h2, h3⟩ => by
  rw [h2.2 hq] at h1
  exact ⟨h1, h3⟩
end Go.Proofs.Ytmdhnfeepadfaaa

/-
  The contract of quaysidelaw09.played.
-/
namespace Go.Proofs.Ytmdhnfeepadfaaa
open Go.RowKit
set_option linter.unusedVariables false

theorem infoWc : (Try.prog.info? 49).map (·.size) = some 17 := by kernel_rfl
def wcZ : Array Value := #[.int .i64 0, .int .i64 0, .int .u64 0, .int .i64 0, .int .u64 0, .int .i64 0, .int .i64 0, .int .i64 0, .string ⟨#[]⟩, .string ⟨#[]⟩, .int .u64 0, .int .i64 0, .int .u64 0, .slice none 0 0, .slice none 0 0, .int .u64 0, .int .i64 0]
/-- A script's call, loaded. -/
theorem load_wc (y : World) (b k : Nat) (c : Wc) (h : y.rangeAt b k (wcA c).toList) : (Instr.loadAt 49 (.pointer (some ⟨b, k, none⟩))).run Try.prog y = .ok (.agg (wcA c)) y := by
  have h1 := run_loadAt_mid (P := Try.prog) y b k 49 (wcA c).toList _ h Try.underlying49 rfl (by rw [infoWc]; rfl)
  rwa [Array.toArray_toList] at h1
/-- Its record. -/
theorem load_wr (y : World) (b : Nat) (c : Wc) (h : RowAt y b 49 (wcA c)) : (Instr.loadAt 28 (.pointer (some ⟨b, 1, none⟩))).run Try.prog y = .ok (.agg (rcA c.m.1 c.m.2.1 c.m.2.2)) y := by
  refine load_mid y b 1 c.m (fun j u hu => ?_)
  have hj : j < 14 := (List.getElem?_eq_some_iff.1 hu).1
  have e : (wcA c)[1 + j]? = some u := by
    rw [← hu]
    have h3 : j = 0 ∨ j = 1 ∨ j = 2 ∨ j = 3 ∨ j = 4 ∨ j = 5 ∨ j = 6 ∨ j = 7 ∨ j = 8 ∨ j = 9 ∨ j = 10 ∨ j = 11 ∨ j = 12 ∨ j = 13 := by omega
    rcases h3 with rfl | rfl | rfl | rfl | rfl | rfl | rfl | rfl | rfl | rfl | rfl | rfl | rfl | rfl <;> rfl
  exact h.cell (1 + j) u e
theorem wcA_all (c : Wc) (h1 : ∃ a n d, c.m.2.1 = .slice a n d) (h2 : ∃ a n d, c.m.2.2 = .slice a n d) : (wcA c).all (·.oneCell') = true := by
  obtain ⟨a, n, d, h1⟩ := h1
  obtain ⟨b, m, e, h2⟩ := h2
  simp [wcA, h1, h2, Value.oneCell']
/-- A script that came in. -/
structure Scr (w0 : World) (v : Value) (cs : List Wc) : Prop where
  rows : RowsIn wcA Wc.zero 17 w0 v cs
  fits : ∀ c ∈ cs, c.fits ∧ RcIn w0 c.m.1 c.m.2.1 c.m.2.2
  cap : ∀ a len cap, v = .slice a len cap → len ≤ cap
theorem Scr.at {w0 x : World} {a : Option Addr} {len cap : Nat} {cs : List Wc} (h : Scr w0 (.slice a len cap) cs) (p : Below w0.heap.size w0 x) {j : Nat} (hj : j < cs.length) : ∃ b off, a = some ⟨b, off, none⟩ ∧ (Instr.loadAt 49 (.pointer (some ⟨b, off + j * 17, none⟩))).run Try.prog x = .ok (.agg (wcA (cs.getD j Wc.zero))) x ∧ (cs.getD j Wc.zero).fits ∧ RcIn w0 (cs.getD j Wc.zero).m.1 (cs.getD j Wc.zero).m.2.1 (cs.getD j Wc.zero).m.2.2 := by
  obtain ⟨a', cap', e, h2⟩ := h.rows
  injection e with e1 e2 e3
  subst e1
  obtain ⟨b, off, h3, h4, h5⟩ := h2 (by omega)
  have hm : cs.getD j Wc.zero ∈ cs := by
    rw [List.getD_eq_getElem?_getD, List.getElem?_eq_getElem hj]
    exact List.getElem_mem hj
  exact ⟨b, off, h3, load_wc x b _ _ (rangeAt_below (h5 j hj) p h4), h.fits _ hm⟩
theorem Scr.len {w0 : World} {a : Option Addr} {len cap : Nat} {cs : List Wc} (h : Scr w0 (.slice a len cap) cs) : len = cs.length := by
  obtain ⟨a', cap', e, h2⟩ := h.rows
  injection e
theorem wf_u64 {n : Nat} (h : (Lit.int .u64 (n : Int)).wf = true) : n < 18446744073709551616 := by
  have := (bounds_u64 h).2
  omega
/-- .. behind what was made since the beginning. -/
theorem Scr.later {w0 x : World} {v : Value} {cs : List Wc} (h : Scr w0 v cs) (p : Below w0.heap.size w0 x) : Scr x v cs :=
  ⟨h.rows.below p, fun c hc => ⟨(h.fits c hc).1, (h.fits c hc).2.below p⟩, h.cap⟩
theorem K9.from {P : Nat → Prop} {wp w0 w1 w : World} {gt gl : Nat} {g : Lg} (h : K9 P wp w1 w gt gl g) (p : Below w0.heap.size w0 w1) : Below w0.heap.size w0 w := p.trans (h.bel.mono p.size)
/-- few answers yes or no, in every world behind the beginning. -/
theorem few9_two (v : Value) (cs : List Wc) (w : World) (hs : Scr w v cs) :
    (cs.length ≤ 100 ∧ ∀ x, Below w.heap.size w x → Calls Try.prog 23 #[v] x (fun e w' => e = .returned (.bool true) ∧ x = w')) ∨ (∀ x, Below w.heap.size w x → Calls Try.prog 23 #[v] x (fun e w' => e = .returned (.bool false) ∧ x = w')) := by
  by_cases hq : cs.length ≤ 100 ∧ ∀ i, i < cs.length → (cs.getD i Wc.zero).m.1.ts.length ≤ 100 ∧ (cs.getD i Wc.zero).m.1.ds.length ≤ 100
  · exact .inl ⟨hq.1, fun x p => few9_yes v cs x (hs.later p).rows (fun c hc => ((hs.later p).fits c hc).2) hs.cap hq⟩
  · exact .inr fun x p => (few9_any v cs x (hs.later p).rows (fun c hc => ((hs.later p).fits c hc).2) hs.cap).mono fun e w' ⟨q, h1, h2, h3⟩ => by
      cases q with
      | false => exact ⟨h1, h3⟩
      | true => exact absurd (h2.1 rfl) hq
end Go.Proofs.Ytmdhnfeepadfaaa

/-
  Two logs of the code's, side by side.
-/
namespace Go.Proofs.Ytmdhnfeepadfaaa
open Go.RowKit
set_option linter.unusedVariables false

structure K92 (w0 w : World) (gs ga gt gb : Nat) (g1 g2 : Lg) : Prop where
  ok1 : g1.ok
  ok2 : g2.ok
  la : ∃ F1 F2, LAc w0.heap.size gs ga w F1 g1 ∧ LAc w0.heap.size gt gb w F2 g2 ∧ ∀ k, F1 k → ¬ F2 k
  bel : Below w0.heap.size w0 w
section
variable {w0 w x : World} {gs ga gt gb : Nat} {g1 g2 g' : Lg}
theorem K92.swap (h : K92 w0 w gs ga gt gb g1 g2) : K92 w0 w gt gb gs ga g2 g1 := by
  obtain ⟨F1, F2, h1, h2, h3⟩ := h.la
  exact ⟨h.ok2, h.ok1, ⟨F2, F1, h2, h1, fun k hk hk2 => h3 k hk2 hk⟩, h.bel⟩
theorem K92.later (h : K92 w0 w gs ga gt gb g1 g2) (p : Below w.heap.size w x) : K92 w0 x gs ga gt gb g1 g2 := by
  obtain ⟨F1, F2, h1, h2, h3⟩ := h.la
  exact ⟨h.ok1, h.ok2, ⟨F1, F2, (base9 _).keep _ _ _ _ _ _ _ h1 (loose_none _ w) (Tn.of_below p) (fun _ _ h => h), (base9 _).keep _ _ _ _ _ _ _ h2 (loose_none _ w) (Tn.of_below p) (fun _ _ h => h), h3⟩, h.bel.trans (p.mono h.bel.size)⟩
theorem K92.drew (h : K92 w0 w gs ga gt gb g1 g2) : K92 w0 w.drew gs ga gt gb g1 g2 := h.later ⟨rfl, rfl, rfl, Nat.le_refl _, fun _ _ => rfl⟩
/-- A call of the first one. -/
theorem K92.call (h : K92 w0 w gs ga gt gb g1 g2) (hok : g'.ok) {Pe : Ending → Prop} {f : FuncId} {args : Array Value} (hc : ∀ F, LAc w0.heap.size gs ga w F g1 → Calls Try.prog f args w fun e x' => Pe e ∧ Aft (LAc w0.heap.size) gs ga w F g' x') : Calls Try.prog f args w fun e x' => Pe e ∧ K92 w0 x' gs ga gt gb g' g2 := by
  obtain ⟨F1, F2, h1, h2, h3⟩ := h.la
  have l1 := (base9 _).loose _ _ _ _ _ h1
  have l2 := (base9 _).loose _ _ _ _ _ h2
  refine (hc F1 h1).mono ?_
  rintro e x' ⟨hp, F', q1, q2, q3⟩
  refine ⟨hp, hok, h.ok2, ⟨F', F2, q1, (base9 _).keep _ _ _ _ _ _ _ h2 l1 q2 (fun k hk hk1 => h3 k hk1 hk), fun k hk hk2 => ?_⟩, h.bel.trans (q2.below (fun k hk => (l1 k hk).1) h.bel.size)⟩
  rcases q3 k hk with h6 | h6
  · exact h3 k h6 hk2
  · have := (l2 k hk2).2.1
    omega
theorem K92.look (h : K92 w0 w gs ga gt gb g1 g2) {Pe : Ending → World → Prop} {f : FuncId} {args : Array Value} (hc : ∀ F, LAc w0.heap.size gs ga w F g1 → Calls Try.prog f args w fun e x' => Pe e x' ∧ Below w.heap.size w x') : Calls Try.prog f args w fun e x' => Pe e x' ∧ Below w.heap.size w x' ∧ K92 w0 x' gs ga gt gb g1 g2 := by
  obtain ⟨F1, F2, h1, h2, h3⟩ := h.la
  exact (hc F1 h1).mono fun e x' hh => ⟨hh.1, hh.2, h.later hh.2⟩
theorem K92.one (h : K92 w0 w gs ga gt gb g1 g2) : K9 NoP w0 w0 w gs ga g1 := by
  obtain ⟨F1, F2, h1, h2, h3⟩ := h.la
  exact ⟨h.ok1, ⟨F1, h1, fun k _ h => h⟩, fun k hk => hk.elim, h.bel⟩
theorem k2app (h : K92 w0 w gs ga gt gb g1 g2) (r : Rec) (va vb : Value) (f : Nat) (hd : Int) (hft : r.fits) (hin : RcK w0.heap.size w r va vb) (hf : f < 18446744073709551616) (hh : (Lit.int .i64 hd).wf = true) :
    Calls Try.prog 10 #[.pointer (some ⟨ga, 0, none⟩), .agg (rcA r va vb), .int .u64 (f : Int), .int .i64 hd] w fun e w' => e = .returned (.tuple #[.int .u64 (g1.appN r f hd : Int), .int .i64 (g1.appE r f hd)]) ∧ K92 w0 w' gs ga gt gb (g1.app r f hd) g2 :=
  h.call (g1.app_ok h.ok1 r f hd) (fun F hF => append9 _ gs ga w F g1 r va vb f hd hF h.ok1 hft hin hf hh)
theorem k2write (h : K92 w0 w gs ga gt gb g1 g2) :
    Calls Try.prog 16 #[.pointer (some ⟨ga, 0, none⟩)] w fun e w' => e = .returned (.int .i64 0) ∧ K92 w0 w' gs ga gt gb g1.write g2 :=
  h.call (g1.write_ok h.ok1) (fun F hF => write9 _ gs ga w F g1 hF h.ok1)
theorem k2left (h : K92 w0 w gs ga gt gb g1 g2) :
    Calls Try.prog 22 #[.pointer (some ⟨ga, 0, none⟩)] w fun e w' => e = .returned (.int .i64 ((g1.t.m : Int) - (g1.used : Int) - (g1.hd : Int))) ∧ Below w.heap.size w w' ∧ K92 w0 w' gs ga gt gb g1 g2 :=
  h.look (Pe := fun e _ => e = .returned (.int .i64 ((g1.t.m : Int) - (g1.used : Int) - (g1.hd : Int)))) (fun F hF => left9 _ gs ga w F g1 hF h.ok1)
theorem k2recs (h : K92 w0 w gs ga gt gb g1 g2) :
    Calls Try.prog 11 #[.pointer (some ⟨ga, 0, none⟩)] w fun e w' => ∃ gr ns, e = .returned (.slice (some ⟨gr, 0, none⟩) g1.l.length g1.l.length) ∧ RI w w' gr g1.l.length g1 g1.l.length ns ∧ Below w.heap.size w w' ∧ K92 w0 w' gs ga gt gb g1 g2 := by
  obtain ⟨F, ⟨gc, gb', a, cap, ms, wa, wc, hL, hF⟩, _⟩ := h.one.la
  refine (recs9_any w hL h.ok1).mono ?_
  rintro e w' ⟨gr, ns, rfl, hr⟩
  exact ⟨gr, ns, rfl, hr, hr.bel, h.later hr.bel⟩
theorem k2bytes (h : K92 w0 w gs ga gt gb g1 g2) :
    Calls Try.prog 25 #[.pointer (some ⟨gs, 0, none⟩)] w fun e w' => ∃ a c, e = .returned (.slice a g1.t.b.size c) ∧ IsB w' a g1.t.b.size g1.t.b.data.toList ∧ Below w.heap.size w w' ∧ K92 w0 w' gs ga gt gb g1 g2 := by
  obtain ⟨gtb, ht, _⟩ := h.one.tape
  refine (bytes8_any gs gtb g1.t w ht h.ok1.tok).mono ?_
  rintro e w' ⟨v, rfl, ho, hb⟩
  obtain ⟨a, c, rfl, _, hB⟩ := shape_isB ho
  exact ⟨a, c, rfl, hB, hb, h.later hb⟩
end
/-- Two new tapes, opened one behind the other. -/
theorem two_open {w0 w2 w3 : World} {gs gt : Nat} {t1 t2 : Tp} (ht : K8 w0 w3 gt t2) (hs : K8 w0 w3 gs t1) (hne : gs ≠ gt) (hgt : gt = w2.heap.size) (hs2 : K8 w0 w2 gs t1) (htb : TpAt w3 gt gt t2) (hsb : ∃ gsb, w0.heap.size ≤ gsb ∧ TpAt w3 gs gsb t1 ∧ gsb ≠ gt) :
    Calls Try.prog 8 #[.pointer (some ⟨gs, 0, none⟩), .int .u64 0] w3 fun e w4 => ∃ ga, e = .returned (.tuple #[.pointer (some ⟨ga, 0, none⟩), .int .i64 0]) ∧
      Calls Try.prog 8 #[.pointer (some ⟨gt, 0, none⟩), .int .u64 0] w4 fun e w5 => ∃ gb, e = .returned (.tuple #[.pointer (some ⟨gb, 0, none⟩), .int .i64 0]) ∧ K92 w0 w5 gs ga gt gb (Lg.open t1 0) (Lg.open t2 0) := by
  obtain ⟨gsb, h1, h2, h3⟩ := hsb
  refine (kopen9 (Is gt) w3 w0 w3 gs gsb t1 0 h2 hs.ok hs.low h1 ⟨fun e => hne e, fun e => h3 e⟩ (fun k hk => ⟨by rw [show k = gt from hk]; exact htb.lt.1, rfl⟩) hs.bel (by decide)).mono ?_
  rintro e w4 ⟨ga, rfl, h4⟩
  refine ⟨ga, rfl, ?_⟩
  have ht4 : TpAt w4 gt gt t2 := htb.keep (h4.stay gt rfl).2 (h4.stay gt rfl).2
  refine (open9_any w0.heap.size gt gt w4 t2 0 ht4 ht.ok ht.low ht.low (by decide)).mono ?_
  rintro e w5 ⟨gb, F2, rfl, q1, q2, q3, q4⟩
  obtain ⟨F1, p1, p2⟩ := h4.la
  have l1 := (base9 _).loose _ _ _ _ _ p1
  have hlo : Loose w0.heap.size w4 (fun k => k = gt ∨ k = gt) := fun k hk => by
    have hk' : k = gt := by rcases hk with h | h <;> exact h
    obtain ⟨⟨c1, t1'⟩, _⟩ := ht4.kind
    rw [hk']
    exact ⟨ht.low, t1'.lt, fun ty cs hrow => by rw [row_kind hrow t1']; decide⟩
  refine ⟨gb, rfl, h4.ok, Lg.open_ok t2 ht.ok 0, ⟨F1, F2, (base9 _).keep _ _ _ _ _ _ _ p1 hlo q2 (fun k hk e => p2 k hk (by rcases e with e | e <;> exact e)), q1, fun k hk hk2 => ?_⟩, h4.bel.trans (q2.below (fun k hk => by rcases hk with h | h <;> (rw [h]; exact ht.low)) h4.bel.size)⟩
  rcases q3 k hk2 with h | h | h
  · exact p2 k hk h
  · exact p2 k hk h
  · have := (l1 k hk).2.1
    omega
/-- Two logs that differ in what is on the tape alone. -/
structure Sim (g1 g2 : Lg) : Prop where
  c : g1.c = g2.c
  l : g1.l = g2.l
  hd : g1.hd = g2.hd
  m : g1.t.m = g2.t.m
theorem Sim.used {g1 g2 : Lg} (h : Sim g1 g2) (h1 : g1.ok) (h2 : g2.ok) : g1.used = g2.used := by rw [g1.used_all h1, g2.used_all h2, h.l]
theorem Sim.appE {g1 g2 : Lg} (h : Sim g1 g2) (h1 : g1.ok) (h2 : g2.ok) (r : Rec) (f : Nat) (hd : Int) : g1.appE r f hd = g2.appE r f hd := by
  unfold Lg.appE Lg.num Lg.hold
  rw [h.c, h.hd, h.m, h.used h1 h2]
theorem Sim.app {g1 g2 : Lg} (h : Sim g1 g2) (h1 : g1.ok) (h2 : g2.ok) (r : Rec) (f : Nat) (hd : Int) : g1.appN r f hd = g2.appN r f hd ∧ Sim (g1.app r f hd) (g2.app r f hd) := by
  have e := h.appE h1 h2 r f hd
  have hn : g1.num f = g2.num f := by unfold Lg.num; rw [h.c]
  have hh : g1.hold hd = g2.hold hd := by unfold Lg.hold; rw [h.hd]
  by_cases h0 : g1.appE r f hd = 0
  · have h0' := e ▸ h0
    obtain ⟨a1, a2⟩ := g1.app_yes r f hd h0
    obtain ⟨b1, b2⟩ := g2.app_yes r f hd h0'
    rw [a1, a2, b1, b2, hn]
    exact ⟨rfl, ⟨rfl, by show g1.l ++ _ = g2.l ++ _; rw [h.l], hh, h.m⟩⟩
  · have h0' : ¬ g2.appE r f hd = 0 := e ▸ h0
    obtain ⟨a1, a2⟩ := g1.app_no r f hd h0
    obtain ⟨b1, b2⟩ := g2.app_no r f hd h0'
    rw [a1, a2, b1, b2]
    exact ⟨rfl, h⟩
theorem write_m (g : Lg) (ok : g.ok) : g.write.t.m = g.t.m := by
  unfold Lg.write
  rw [g.write_app ok]
theorem Sim.write {g1 g2 : Lg} (h : Sim g1 g2) (h1 : g1.ok) : Sim g1.write g2 := ⟨h.c, h.l, h.hd, (write_m g1 h1).trans h.m⟩
theorem Sim.swap {g1 g2 : Lg} (h : Sim g1 g2) : Sim g2 g1 := ⟨h.c.symm, h.l.symm, h.hd.symm, h.m.symm⟩
theorem write_bytes (g : Lg) (ok : g.ok) : g.write.t.b.data.toList = framesB g.l := by
  have h := (g.write_ok ok).bytes
  have e : g.write.on = g.l.length := rfl
  have e2 : g.write.l = g.l := rfl
  rw [e, e2, List.take_length] at h
  exact h
end Go.Proofs.Ytmdhnfeepadfaaa

/-
  The arguments of layer 3's statements, opened.
-/
namespace Go.Proofs.Ytmdhnfeepadfaaa
open Go.ChangeShapes Go.WideShapes Go.ChangeAt Go.RowKit Go.Deep Go.Joins
set_option linter.unusedVariables false

set_option maxRecDepth 40000 in
/-- A script's cells. -/
def opV (x : Int × Int × Bool) (c : Nat) : Value := if c = 0 then .int .i64 x.1 else if c = 1 then .int .u64 x.2.1 else .bool x.2.2

section
variable {H : Type} {enc : TypeId × Value → H} {W : World}

set_option maxRecDepth 40000 in
theorem op_bools {v : Value} {d : DataW H} {p : List MemPlace} {r : Reach} {b0 : Nat} (hv : Value.okWide Try.prog W r b0 58 v) (h : DataW.Trod enc Try.prog W 0 (fun _ => true) true 58 v d p)
    (hs : ∀ n ∈ d.weights Try.prog 58, n ≤ reachBytes) : ∃ m : Option Addr × Nat × Nat × (Nat → Bool), v = .slice m.1 m.2.1 m.2.2.1 ∧ m.2.1 ≤ 140737488355328 ∧ IsRow W m.1 m.2.1 1 (fun i _ => .bool (m.2.2.2 i)) := by
  obtain ⟨a, len, cap, f, rfl, fm, _, _, _, hr⟩ := open_rows_all (fun (x : Bool) _ => Value.bool x) (fun _ => True) trivial (elem_bool Try.underlying4) Try.underlying58 (by kernel_rfl) (by decide) hv h
  have z := fm.sized Try.underlying58 (of_decide_eq_true (by kernel_rfl)) hs
  exact ⟨(a, len, cap, f), rfl, by show len ≤ _; omega, hr⟩

set_option maxRecDepth 40000 in
theorem bulk_pos (d : DataW H) : 1 ≤ Rows.uptoBulk d := by
  cases d with
  | lit l => cases l <;> simp [Rows.uptoBulk]
  | _ => simp [Rows.uptoBulk]
set_option maxRecDepth 40000 in
theorem bulk_all : ∀ (l : List (DataW H)), l.length ≤ Rows.uptoBulkAll l
  | [] => by simp
  | d :: l => by
    have h1 := bulk_pos d
    have h2 := bulk_all l
    simp only [Rows.uptoBulkAll, List.length_cons]
    omega
set_option maxRecDepth 40000 in
theorem SlForm.small {d : DataW H} {len cap : Nat} (h : SlForm d len cap) : len ≤ Rows.uptoBulk d := by
  rcases h with ⟨_, rfl, _⟩ | ⟨es, sp, rfl, h1, h2⟩
  · omega
  · have := bulk_all es
    simp only [Rows.uptoBulk]
    omega

set_option maxRecDepth 40000 in
theorem op_u64s {v : Value} {d : DataW H} {p : List MemPlace} {r : Reach} {b0 : Nat} (hv : Value.okWide Try.prog W r b0 94 v) (h : DataW.Trod enc Try.prog W 0 (fun _ => true) true 94 v d p)
    (hs : Rows.uptoBulk d ≤ 1048576) : ∃ m : Option Addr × Nat × Nat × List Nat, v = .slice m.1 m.2.1 m.2.2.1 ∧ m.2.1 ≤ 1048576 ∧ (m.1 = none → m.2.2.1 = 0) ∧ IsU W m.1 m.2.1 m.2.2.2 := by
  obtain ⟨a, len, cap, f, rfl, fm, _, hn, hG, hr⟩ := open_rows_all (fun (x : Int) _ => Value.int .u64 x) (fun x => (Lit.int .u64 x).wf = true) (by decide) (elem_int Try.underlying22) Try.underlying94 (by kernel_rfl) (by decide) hv h
  have z := fm.small
  refine ⟨(a, len, cap, (List.range len).map fun i => (f i).toNat), rfl, by show len ≤ _; omega, hn, by simp, fun z hz => ?_, fun hp => ?_⟩
  · obtain ⟨i, _, rfl⟩ := List.mem_map.1 hz
    have := bounds_u64 (hG i)
    omega
  · obtain ⟨b, off, ha, hb, hc⟩ := hr hp
    refine ⟨b, off, ha, hb, fun j hj => ?_⟩
    have h1 := hc j 0 hj (by omega)
    rw [Nat.mul_one, Nat.add_zero] at h1
    rw [h1]
    have h2 := bounds_u64 (hG j)
    have h3 : (List.map (fun i => (f i).toNat) (List.range len)).getD j 0 = (f j).toNat := by simp [List.getD, hj]
    rw [h3]
    have h4 : (((f j).toNat : Nat) : Int) = f j := Int.toNat_of_nonneg h2.1
    rw [h4]
end
end Go.Proofs.Ytmdhnfeepadfaaa
