/-
  The contract of New: a table without locks; and the zero table.
-/
import Derived.Test.YtmlbghloddiflaaLkReq
namespace Go.Proofs.Ytmlbghloddiflaa
open Go.RowKit
set_option linter.unusedVariables false
def zTab : Array Value := Array.replicate 576 (.slice none 0 0)
theorem build13 (o : Oper) (ho : o.op = Op.build 35 #[]) (a : Act) (w : World) : (execOp a.eval o).run Try.prog w = .ok (.value (.agg zTab)) w := by
  unfold execOp
  rw [ho]
  kernel_rfl
theorem zTab_eq : zTab = tabA Pt.zero.sl (fun _ => Sl.nil) := by
  apply Array.ext_getElem?
  intro s
  by_cases hs : s < 576
  · rw [tabA_get _ _ hs]
    unfold zTab
    rw [Array.getElem?_replicate, if_pos hs]
    have : Pt.zero.sl s = [] := by unfold Pt.sl Pt.zero; split <;> rfl
    rw [this]
    rfl
  · rw [Array.getElem?_eq_none (by unfold zTab; simp; omega), Array.getElem?_eq_none (by unfold tabA; simp; omega)]
theorem TAt.zero {w : World} {g : Nat} (h : RowAt w g 35 zTab) : TAt w g Pt.zero (fun _ => Sl.nil) := by
  refine ⟨by rw [← zTab_eq]; exact h, fun s _ => ?_, fun s t b _ _ e => nomatch e⟩
  have : Pt.zero.sl s = [] := by unfold Pt.sl Pt.zero; split <;> rfl
  rw [this]
  exact HB.nil w
set_option maxRecDepth 8000 in
theorem new13 (w : World) : Calls Try.prog 10 #[] w fun e w' => e = .returned (.pointer (some ⟨w.heap.size, 0, none⟩)) ∧ w' = w.alloc (.cells zTab 35) := by
  have hb := build13
  generalize zTab = Z at *
  go_enter Try.func10, Try.ntmps10
  go_wp2_with (with_reducible refine stop_at 1 rfl ?_)
  refine unstop10 ?_
  refine lst_run (some 1) rfl rfl (.agg Z) w (hb _ rfl _ w) ?_
  simp only [Act.put, Array.setIfInBounds, List.size_toArray, List.length_cons, List.length_nil, Nat.reduceAdd, Nat.reduceLT, ↓reduceDIte, List.set_toArray, List.set_cons_succ, List.set_cons_zero]
  clear hb
  go_wp2
  go_ret
  simp
/-- A table kept by a walk: its block, which table it stands for, its blocks. -/
def Kt (w : World) (g : Nat) (t : Tb) (N : Nat) (F : Nat → Prop) : Prop := ∃ p S, TAt w g p S ∧ PtOk t p N ∧ t.good ∧ F = FT g S
theorem Kt.lt {w : World} {g : Nat} {t : Tb} {N : Nat} {F : Nat → Prop} (h : Kt w g t N F) {k : Nat} (hk : F k) : k < w.heap.size := by
  obtain ⟨p, S, h1, _, _, rfl⟩ := h
  exact h1.lt hk
theorem Kt.later {w x : World} {g : Nat} {t : Tb} {N : Nat} {F : Nat → Prop} (h : Kt w g t N F) (q : Below w.heap.size w x) : Kt x g t N F := by
  obtain ⟨p, S, h1, h2, h3, h4⟩ := h
  exact ⟨p, S, h1.later q, h2, h3, h4⟩
theorem Kt.turn {w x : World} {g : Nat} {t : Tb} {N : Nat} {F G : Nat → Prop} (h : Kt w g t N F) (q : Tn G w x) (hn : ∀ k, F k → ¬ G k) : Kt x g t N F := by
  obtain ⟨p, S, h1, h2, h3, rfl⟩ := h
  exact ⟨p, S, h1.turn q hn, h2, h3, rfl⟩
theorem Kt.good {w : World} {g : Nat} {t : Tb} {N : Nat} {F : Nat → Prop} (h : Kt w g t N F) : t.good := by
  obtain ⟨p, S, h1, h2, h3, h4⟩ := h
  exact h3
theorem Kt.weak {w : World} {g : Nat} {t : Tb} {N M : Nat} {F : Nat → Prop} (h : Kt w g t N F) (hM : N ≤ M) : Kt w g t M F := by
  obtain ⟨p, S, h1, h2, h3, h4⟩ := h
  exact ⟨p, S, h1, h2.weak hM, h3, h4⟩
/-- Behind a call. -/
def Kaft (w : World) (g : Nat) (F : Nat → Prop) (t' : Tb) (N : Nat) (w' : World) : Prop := ∃ F', Kt w' g t' N F' ∧ Tn F w w' ∧ ∀ k, F' k → F k ∨ w.heap.size ≤ k
theorem Kaft.of {w w' : World} {g : Nat} {S : Nat → Sl} {p' : Pt} {t' : Tb} {N : Nat} (h : Aft w g S p' w') (hp : PtOk t' p' N) (hg : t'.good) : Kaft w g (FT g S) t' N w' := by
  obtain ⟨S', a, b, c⟩ := h
  exact ⟨FT g S', ⟨p', S', a, hp, hg, rfl⟩, b, c⟩
section
variable {w : World} {g : Nat} {t : Tb} {N : Nat} {F : Nat → Prop}
theorem kreq (h : Kt w g t N F) (hN : N + 1 ≤ 3000) (who x m : Int) : Calls Try.prog 22 #[.pointer (some ⟨g, 0, none⟩), .int .i64 who, .int .i64 x, .int .i64 m] w fun e w' => e = .returned (.int .i64 (t.request who x m).2) ∧ Kaft w g F (t.request who x m).1 (N + 1) w' := by
  obtain ⟨p, S, h1, h2, h3, rfl⟩ := h
  have key : Calls Try.prog 22 #[.pointer (some ⟨g, 0, none⟩), .int .i64 who, .int .i64 x, .int .i64 m] w (ReqAns w g S t N who x m) := by
    by_cases hb : (1 ≤ who ∧ who ≤ 8388607) ∧ (0 ≤ x ∧ x < 288) ∧ rgt m = true
    · obtain ⟨y, rfl⟩ : ∃ y : Nat, x = (y : Int) := ⟨x.toNat, by omega⟩
      exact request13_go h1 h2 hN who m y hb.1 (by omega) hb.2.2
    · exact request13_arg h1 h2 who x m hb
  refine key.mono ?_
  rintro e w' ⟨rfl, p', hA, hP⟩
  exact ⟨rfl, Kaft.of hA hP (h3.request who x m)⟩
theorem kstop (h : Kt w g t N F) (hN : N ≤ 3000) (who : Int) : Calls Try.prog 29 #[.pointer (some ⟨g, 0, none⟩), .int .i64 who] w fun e w' => ∃ v, e = .returned v ∧ OwnI w.heap.size w' v (t.stop who).2 ∧ Kaft w g F (t.stop who).1 N w' := by
  obtain ⟨p, S, h1, h2, h3, rfl⟩ := h
  refine (stop13 h1 h2.ok (by omega) h2.fx (fun x hx => h2.dist hx) who).mono ?_
  rintro e w' ⟨v, p1, hs, rfl, hO, hA⟩
  have hl := (h2.stopped hs).look
  exact ⟨v, rfl, by show OwnI _ _ _ (t.away who).look.2; rw [hl.2]; exact hO, Kaft.of hA hl.1 (h3.stop who)⟩
theorem kfree (h : Kt w g t N F) (hN : N ≤ 3000) (who : Int) : Calls Try.prog 23 #[.pointer (some ⟨g, 0, none⟩), .int .i64 who] w fun e w' => ∃ v, e = .returned v ∧ OwnI w.heap.size w' v (t.free who).2 ∧ Kaft w g F (t.free who).1 N w' := by
  obtain ⟨p, S, h1, h2, h3, rfl⟩ := h
  refine (free13 h1 h2.ok (by omega) h2.fx (fun x hx => h2.dist hx) who).mono ?_
  rintro e w' ⟨v, p1, hs, rfl, hO, hA⟩
  have hl := ((h2.dropped who).stopped hs).look
  exact ⟨v, rfl, by show OwnI _ _ _ ((t.drop who).away who).look.2; rw [hl.2]; exact hO, Kaft.of hA hl.1 (h3.free who)⟩
theorem kholds (h : Kt w g t N F) (hN : N ≤ 3000) (who x : Int) : Calls Try.prog 17 #[.pointer (some ⟨g, 0, none⟩), .int .i64 who, .int .i64 x] w fun e w' => e = .returned (.int .i64 (t.at who x)) ∧ Below w.heap.size w w' := by
  obtain ⟨p, S, h1, h2, h3, rfl⟩ := h
  refine (tholds13 h1 h2.rep.srt (fun y hy => by have := h2.len y hy; omega) who x).mono ?_
  rintro e w' ⟨rfl, hb⟩
  refine ⟨?_, hb⟩
  by_cases hx : 0 ≤ x ∧ x < 288
  · rw [if_pos hx, h2.rep.at h2.tok (by omega), show ((x.toNat : Nat) : Int) = x by omega]
  · rw [if_neg hx]
    by_cases h0 : t.at who x = 0
    · rw [h0]
    · obtain ⟨k, hk, _, hkx, _⟩ := at_mem h0
      have := (h2.tok.hk k hk).2.1
      unfold thingOk at this
      rw [Bool.and_eq_true, decide_eq_true_iff, decide_eq_true_iff, hkx] at this
      exact absurd this hx
theorem kwaits (h : Kt w g t N F) (hN : N ≤ 3000) (who : Int) : Calls Try.prog 25 #[.pointer (some ⟨g, 0, none⟩), .int .i64 who] w fun e w' => e = .returned (.tuple #[.agg (hdA ((t.wt who).getD hdZ)), .bool (t.wt who).isSome]) ∧ Below w.heap.size w w' := by
  obtain ⟨p, S, h1, h2, h3, rfl⟩ := h
  refine (waits13 h1 (fun y hy => by have := h2.len y hy; omega) who).mono ?_
  rintro e w' ⟨hb, hc⟩
  rcases hc with ⟨k, x, hx, hk, rfl, rfl⟩ | ⟨hno, rfl⟩
  · rw [show t.wt k.w = some k from wt_of h2.tok.rone (h2.mem hx hk).1]
    exact ⟨rfl, hb⟩
  · have : t.wt who = none := by
      cases e : t.wt who with
      | none => rfl
      | some q =>
        obtain ⟨hq, hqw⟩ := wt_some e
        obtain ⟨h4, h5⟩ := thing_nat (h2.tok.rk q hq).2.1
        exact absurd hqw (hno q.x.toNat q h4 (by rw [h2.rep.row _ h4]; exact mem_que.2 ⟨hq, h5⟩))
    rw [this]
    exact ⟨rfl, hb⟩
theorem Kt.new {w : World} {g : Nat} (h : RowAt w g 35 zTab) : Kt w g ⟨[], []⟩ 0 (Is g) := ⟨Pt.zero, _, TAt.zero h, PtOk.zero, good_nil, by
  funext k
  apply propext
  constructor
  · intro e
    exact .inl e
  · rintro (e | ⟨s, _, e⟩)
    · exact e
    · cases e⟩
end
end Go.Proofs.Ytmlbghloddiflaa
