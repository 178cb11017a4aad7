/-
  A directory kept by a walk, all its blocks new since its beginning.
-/
import Derived.Test.YtpbdachbefafiaaOwAsk
import Derived.Test.YtpbdachbefafiaaOwNew
import Derived.Test.YtpbdachbefafiaaOwLists
namespace Go.Proofs.Ytpbdachbefafiaa
open Go.RowKit
set_option linter.unusedVariables false

structure K14 (w0 w : World) (g gr : Nat) (d : Dr) : Prop where
  at_ : DC w g gr d
  new : w0.heap.size ≤ g ∧ w0.heap.size ≤ gr
  bel : Below w0.heap.size w0 w
  ok : d.ok
section
variable {w0 w : World} {g gr : Nat} {d : Dr}
theorem K14.later {x : World} (h : K14 w0 w g gr d) (q : Below w.heap.size w x) : K14 w0 x g gr d := ⟨h.at_.later q, h.new, h.bel.trans (q.mono h.bel.size), h.ok⟩
theorem K14.aft {x : World} {d' : Dr} (h : K14 w0 w g gr d) (a : DC x g gr d') (q : Tn (Is gr) w x) (o : d'.ok) : K14 w0 x g gr d' := ⟨a, h.new, h.bel.trans (q.below (fun k hk => by rw [show k = gr from hk]; exact h.new.2) h.bel.size), o⟩
theorem knew14 {w0 w : World} (hb : Below w0.heap.size w0 w) (p : Int) : Calls Try.prog 9 #[.int .i64 p] w fun e w' => ∃ g gr, e = .returned (.pointer (some ⟨g, 0, none⟩)) ∧ K14 w0 w' g gr (Dr.new p) := by
  refine (new14 p w).mono ?_
  rintro e w' ⟨g, gr, rfl, h1, h2, h3, h4⟩
  exact ⟨g, gr, rfl, h1, ⟨Nat.le_trans hb.size h2, Nat.le_trans hb.size h3⟩, hb.trans (h4.mono hb.size), Dr.new_ok p⟩
theorem kwhere14 (h : K14 w0 w g gr d) (p : Int) : Calls Try.prog 14 #[.pointer (some ⟨g, 0, none⟩), .int .i64 p] w fun e w' => e = .returned (.tuple #[.int .i64 (d.wh p).k, .int .i64 (d.wh p).m]) ∧ K14 w0 w' g gr d ∧ Below w.heap.size w w' := by
  refine (where14 p h.at_).mono ?_
  rintro e w' ⟨rfl, hb⟩
  exact ⟨rfl, h.later hb, hb⟩
theorem kask14 (h : K14 w0 w g gr d) (p m : Int) : Calls Try.prog 17 #[.pointer (some ⟨g, 0, none⟩), .int .i64 p, .int .i64 m] w fun e w' => e = .returned (.tuple #[.int .i64 (d.askN p m), .int .i64 (d.askE p m)]) ∧ K14 w0 w' g gr (d.ask p m) ∧ Tn (Is gr) w w' := by
  refine (ask14 p m h.at_).mono ?_
  rintro e w' ⟨rfl, a, b⟩
  exact ⟨rfl, h.aft a b (h.ok.ask p m), b⟩
theorem kship14 (h : K14 w0 w g gr d) (p a b : Int) : Calls Try.prog 19 #[.pointer (some ⟨g, 0, none⟩), .int .i64 p, .int .i64 a, .int .i64 b] w fun e w' => e = .returned (.int .i64 (d.shE p a b)) ∧ K14 w0 w' g gr (d.sh p a b) ∧ Tn (Is gr) w w' := by
  refine (ship14 p a b h.at_).mono ?_
  rintro e w' ⟨rfl, x, y⟩
  exact ⟨rfl, h.aft x y (h.ok.sh p a b), y⟩
theorem kland14 (h : K14 w0 w g gr d) (p a : Int) : Calls Try.prog 18 #[.pointer (some ⟨g, 0, none⟩), .int .i64 p, .int .i64 a] w fun e w' => e = .returned (.int .i64 (d.laE p a)) ∧ K14 w0 w' g gr (d.la p a) ∧ Tn (Is gr) w w' := by
  refine (land14 p a h.at_).mono ?_
  rintro e w' ⟨rfl, x, y⟩
  exact ⟨rfl, h.aft x y (h.ok.la p a), y⟩
theorem kleave14 (h : K14 w0 w g gr d) (p a : Int) : Calls Try.prog 20 #[.pointer (some ⟨g, 0, none⟩), .int .i64 p, .int .i64 a] w fun e w' => e = .returned (.int .i64 (d.leE p a)) ∧ K14 w0 w' g gr (d.le p a) ∧ Tn (Is gr) w w' := by
  refine (leave14 p a h.at_).mono ?_
  rintro e w' ⟨rfl, x, y⟩
  exact ⟨rfl, h.aft x y (h.ok.le p a), y⟩
theorem kheal14 (h : K14 w0 w g gr d) (p : Int) : Calls Try.prog 16 #[.pointer (some ⟨g, 0, none⟩), .int .i64 p] w fun e w' => e = .returned (.int .i64 (d.heE p)) ∧ K14 w0 w' g gr (d.he p) ∧ Tn (Is gr) w w' := by
  refine (heal14 p h.at_).mono ?_
  rintro e w' ⟨rfl, x, y⟩
  exact ⟨rfl, h.aft x y (h.ok.he p), y⟩
/-- A list of numbers in memory of one's own. -/
def OwnI (B : Nat) (y : World) (v : Value) (l : List Int) : Prop := y.ownsRow B 3 1 v l.length (intsV l)
theorem kfail14 (h : K14 w0 w g gr d) (m : Int) : Calls Try.prog 15 #[.pointer (some ⟨g, 0, none⟩), .int .i64 m] w fun e w' => ∃ v, e = .returned v ∧ OwnI w.heap.size w' v (d.faL m) ∧ K14 w0 w' g gr (d.fa m) ∧ Tn (Is gr) w w' := by
  refine (fail14 m h.at_).mono ?_
  rintro e w' ⟨v, rfl, q, x, y⟩
  exact ⟨v, rfl, q, h.aft x y (h.ok.fa m), y⟩
theorem kof14 (h : K14 w0 w g gr d) (m k : Int) : Calls Try.prog 13 #[.pointer (some ⟨g, 0, none⟩), .int .i64 m, .int .i64 k] w fun e w' => ∃ v, e = .returned v ∧ OwnI w.heap.size w' v (d.of m k) ∧ K14 w0 w' g gr d ∧ Below w.heap.size w w' := by
  refine (of14 m k h.at_).mono ?_
  rintro e w' ⟨v, rfl, q, y⟩
  exact ⟨v, rfl, q, h.later y, y⟩
end
theorem OwnI.shape {B : Nat} {y : World} {v : Value} {l : List Int} (h : OwnI B y v l) : ∃ a c, v = .slice a l.length c ∧ l.length ≤ c ∧ (0 < l.length → ∃ b, a = some ⟨b, 0, none⟩ ∧ B ≤ b) := ow_shape h
theorem OwnI.later {B : Nat} {y z : World} {v : Value} {l : List Int} (h : OwnI B y v l) (q : Below y.heap.size y z) : OwnI B z v l := ow_later h q
theorem OwnI.turn {F : Nat → Prop} {B : Nat} {y z : World} {v : Value} {l : List Int} (h : OwnI B y v l) (q : Tn F y z) (hF : ∀ k, F k → k < B) : OwnI B z v l := ow_turn h q hF
theorem OwnI.cell {B : Nat} {y : World} {b c : Nat} {l : List Int} (h : OwnI B y (.slice (some ⟨b, 0, none⟩) l.length c) l) {j : Nat} (hj : j < l.length) : y.cell? ⟨b, j, none⟩ = some (.int .i64 (l.getD j 0)) := by
  have c0 := World.ownsRow.cellAt h j (by omega)
  rw [intsV_get _ _ hj] at c0
  exact c0
theorem aw14a : (Dr.new 4).askN 3 1 = -1 ∧ (Dr.new 4).askE 3 1 = 0 ∧ (((Dr.new 4).ask 3 1).wh 3).k = 1 ∧ (((Dr.new 4).ask 3 1).wh 3).m = 1 := by refine ⟨?_, ?_, ?_, ?_⟩ <;> kernel_rfl
theorem aw14 : ∃ d d1 : Dr, d = Dr.new 4 ∧ d.askN 3 1 = -1 ∧ d.askE 3 1 = 0 ∧ d.ask 3 1 = d1 ∧ (d1.wh 3).k = 1 ∧ (d1.wh 3).m = 1 := ⟨_, _, rfl, aw14a.1, aw14a.2.1, rfl, aw14a.2.2.1, aw14a.2.2.2⟩
set_option maxRecDepth 4000 in
set_option maxHeartbeats 800000 in
theorem awake14 (w : World) : Calls Try.prog 8 #[] w fun e w' => e = .returned (.bool true) ∧ Below w.heap.size w w' := by
  obtain ⟨d, d1, q0, q1, q2, q3, q4, q5⟩ := aw14
  have HN := hide (knew14 (Below.refl w.heap.size w) 4)
  rw [← q0] at HN
  have HQ := hide (And.intro q1 (And.intro q2 (And.intro q3 (And.intro q4 q5))))
  clear q0 q1 q2 q3 q4 q5
  go_enter Try.func8, Try.ntmps8
  go_wp2_with fail
  refine HN.out.mono ?_
  rintro e w1 ⟨g, gr, rfl, hK⟩
  have hq := kask14 hK 3 1
  rw [HQ.out.1, HQ.out.2.1, HQ.out.2.2.1] at hq
  have HK := hide hq
  clear hK hq HN
  go_wp2_with fail
  refine HK.out.mono ?_
  rintro e w2 ⟨rfl, hK2, -⟩
  have hq := kwhere14 hK2 3
  rw [HQ.out.2.2.2.1, HQ.out.2.2.2.2] at hq
  have HK2 := hide hq
  clear hK2 hq HK
  go_wp2_with fail
  refine HK2.out.mono ?_
  rintro e w3 ⟨rfl, hK3, -⟩
  have HE := hide hK3.bel
  clear hK3 HK2
  go_wp2
  go_ret
  exact ⟨rfl, HE.out⟩
end Go.Proofs.Ytpbdachbefafiaa
