/-
  Texts that lean on one another, one behind the other: each opens with its own remark.
-/
import Derived.WalkSpells
import Derived.Laws.CopyOwn
import Derived.Deep.QuietTactic
import Derived.BigQuiet
import Derived.RangeFuncNested
import Derived.RangeFuncLeaves
import Derived.OwnWalkIn
import Derived.RangeFuncBox
import Derived.RangeFuncCalls
import Derived.Shelf.Abstract
import Derived.Shelf.RegionOpen
import Derived.WalkKit
import Derived.TacticsInMore
import Derived.LoopNIn
import Derived.LoopIn
import Derived.Maps.AppendAt
import Derived.Lib.ConvBytes
import Derived.Lib.AppendStr
import Derived.ArgAppend
import Derived.Test.YtkgniegdefaieaaProg
import Derived.Laws.OwnMore
import Derived.Laws.ResultCell
import Derived.Laws.Tables
import Derived.Deep.Draws
import Derived.Deep.MidRow
import Derived.Deep.RegionHeld3
import Derived.Test.YtkgniegdefaieaaK03
import Derived.Test.YtkgniegdefaieaaK00
import Derived.Test.YtkgniegdefaieaaK04
import Derived.Test.YtkgniegdefaieaaK05
import Derived.Test.YtkgniegdefaieaaK02

namespace Go.Proofs.Ytkgniegdefaieaa
open Go.RowKit
set_option linter.unusedVariables false
set_option maxRecDepth 8000
set_option maxHeartbeats 25600000
theorem rowat_drew {x : World} {b : Nat} {t : TypeId} {cs : Array Value} (h : Qa x b t cs) : Qa x.drew b t cs := h
theorem Qph {B : Nat} {w x : World} (h : Below B w x) : Below B w x.drew := ⟨h.1, h.2, h.3, h.4, h.5⟩
theorem own_put {w w2 : World} {base n sz b : Nat} {e t : TypeId} {v : Value} {xs : List Value} {c0 : Array Value} (h : w.ownsRow base e sz v n xs) (hr : Qa w b t c0) (ht : t ≠ e) (ho : ∀ k t' c', k ≠ b -> Qa w k t' c' -> Qa w2 k t' c') : w2.ownsRow base e sz v n xs := by
  refine ⟨h.1, h.2.imp id ?_⟩; rintro ⟨g, cap, cur, h1, h2, h3, h4⟩; refine ⟨g, cap, cur, h1, h2, ho g e cur (fun hg => ?_) h3, h4⟩; subst hg; have h5 := hr.symm.trans h3; simp only [Option.some.injEq, Obj.cells.injEq] at h5; exact ht h5.2.1
theorem sx_yes (q : Nat) (hq : q < 2 ^ 32) (ht : q % 2 = 1) : bits .xor .u32 ((q : Int) / 2) 3988292384 = ((stp q : Nat) : Int) := by
  have e : ((q : Int) / 2) = ((q / 2 : Nat) : Int) := by omega
  have e2 : (3988292384 : Int) = ((3988292384 : Nat) : Int) := rfl; rw [e, e2, u32_xor_nat (q / 2) 3988292384 (by omega) (by omega), stp, if_pos ht]; rfl
theorem sx_no (q : Nat) (ht : ¬ q % 2 = 1) : (q : Int) / 2 = ((stp q : Nat) : Int) := by
  rw [stp, if_neg ht]; omega
theorem sx_and (q : Nat) (hq : q < 2 ^ 32) : bits .and .u32 (q : Int) 1 = ((q % 2 : Nat) : Int) := by
  have e := u32_and_nat q 1 (by omega) (by omega); rw [Nat.and_one_is_mod] at e; exact e
theorem sx_t (q : Nat) (hq : q < 2 ^ 32) (ht : q % 2 = 1) : (bits .and .u32 (q : Int) 1 == 1) = true := by
  rw [sx_and q hq, ht]; rfl
theorem sx_f (q : Nat) (hq : q < 2 ^ 32) (ht : ¬ q % 2 = 1) : (bits .and .u32 (q : Int) 1 == 1) = false := by
  have h0 : q % 2 = 0 := by omega
  rw [sx_and q hq, h0]; rfl
theorem told_step (q m j x : Nat) (hj : j < 4) (hm : m < 256) (hq : q < 256 ^ j) (hx : x = q + m * 256 ^ j) : bits .or .u32 (q : Int) ((m : Int) * 2 ^ (8 * j) % 4294967296) = ((x : Nat) : Int) := by
  subst hx
  have hp : 256 ^ j * 256 <= 4294967296 := by
    have h2 : 256 ^ (j + 1) <= 256 ^ 4 := Nat.pow_le_pow_right (by omega) (by omega); rw [Nat.pow_succ] at h2; exact h2
  have e1 : (2 : Int) ^ (8 * j) = ((256 ^ j : Nat) : Int) := by
    rw [Int.pow_mul]; simp
  have hmx : m * 256 ^ j + 256 ^ j <= 4294967296 := by
    have h3 : (m + 1) * 256 ^ j <= 256 * 256 ^ j := Nat.mul_le_mul_right _ (by omega); rw [Nat.add_mul, Nat.one_mul] at h3; omega
  have e2 : (m : Int) * 2 ^ (8 * j) % 4294967296 = ((m * 256 ^ j : Nat) : Int) := by
    have e3 : (m : Int) * ((256 ^ j : Nat) : Int) = ((m * 256 ^ j : Nat) : Int) := by rw [Int.natCast_mul]
    rw [e1, e3]; omega
  have hpw : 256 ^ j = 2 ^ (8 * j) := by rw [Nat.pow_mul]
  rw [e2, u32_or_nat q (m * 256 ^ j) (by omega) (by omega)]
  have e4 : q ||| m * 256 ^ j = q + m * 256 ^ j := by
    rw [Nat.or_comm, hpw, Nat.mul_comm m, <- Nat.two_pow_add_eq_or_of_lt (by rw [<- hpw]; exact hq), Nat.add_comm]
  rw [e4]
theorem um_xor (m : Nat) (hm : m < 2 ^ 32) : bits .xor .u32 IntKind.u32.max (m : Int) = ((Qye ^^^ m : Nat) : Int) := u32_xor_nat Qye m (by decide) (by omega)
theorem below_drw {B : Nat} {w w' : World} (h : Below B w w') (k : Nat) : Below B w (w'.drewN k) := ⟨h.1, h.2, h.3, h.4, h.5⟩
theorem isB_drewN {w : World} {a : Option Addr} {len k : Nat} {bs : List UInt8} (h : IsB w a len bs) : IsB (w.drewN k) a len bs := h
theorem own_cap {w : World} {base n cap size : Nat} {e : TypeId} {a : Option Addr} {xs : List Value} (h : w.ownsRow base e size (.slice a n cap) n xs) : n <= cap := by
  rcases h.2 with ⟨hv, h0⟩ | ⟨g, cap', cur, hv, _, _, hn, _⟩
  · omega
  · injection hv with _ _ h3; omega
section
section
variable {P : Program}
theorem Qir {fn : Func} {p u v : Tmp} {t : TypeId} (h : fn.results = #[.cell p t, .tmp u, .tmp v]) (tmps : Array Value) (P : Program) (w : World) :
    (results fn tmps).run P w = ((asAddr (tmps.getD p undef)).run P w).andThen fun a w₁ => ((loadVar t a).run P w₁).andThen fun x w₂ => .ok (.tuple #[x, tmps.getD u undef, tmps.getD v undef]) w₂ := by
  simp only [results, h]; simp [Sem.run_bind, Result.andThen]
theorem res_at3 {fn : Func} {p u v : Tmp} {t : TypeId} (h : fn.results = #[.cell p t, .tmp u, .tmp v]) (tmps : Array Value) (w : World) (g : Nat) (cs : Array Value) (d : TypeDesc) (hp : tmps.getD p undef = .pointer (some ⟨g, 0, none⟩)) (hg : Qa w g t cs)
    (hu : P.underlying t = some d) (hd : (match d with | .struct _ | .array _ _ => true | _ => false) = true) (hi : (P.info? t).map (·.size) = some cs.size) :
    (results fn tmps).run P w = .ok (.tuple #[.agg cs, tmps.getD u undef, tmps.getD v undef]) w := by
  have h1 := run_loadVar_row (P := P) w g t t cs (0, 0) d hg hu hd hi; rw [Qir h, hp]; simp only [asAddr, Sem.run_pure, Result.andThen_ok, h1]
end
theorem two_lt {l : List UInt8} {n : Nat} (hn : be (l.take 2) = n) : n < 65536 := by
  rw [<- hn]; have h3 := Qlu (l.take 2); have h4 : (l.take 2).length <= 2 := by rw [List.length_take]; omega
  have h5 : 256 ^ (l.take 2).length <= 256 ^ 2 := Nat.pow_le_pow_right (by omega) h4; omega
def takF (bs : List UInt8) (p : Int) : Rec × Int × Int :=
  if p < 0 ∨ (bs.length : Int) < p then (Rec.zero, 0, 1)
  else ((Qla (bs.drop p.toNat)).1, if (Qla (bs.drop p.toNat)).2.2 = 0 then p + ((Qla (bs.drop p.toNat)).2.1 : Int) else 0, (Qla (bs.drop p.toNat)).2.2)
def TakAns (w : World) (t : Rec × Int × Int) (e : Ending) (w' : World) : Prop := (∃ va vb, e = .returned (.tuple #[.agg (rcA t.1 va vb), .int .i64 t.2.1, .int .i64 t.2.2]) /\ Qyg w.heap.size w' t.1 va vb) /\ Below w.heap.size w w'
def Qvc : Array Value := #[.int .i64 0, .int .u64 0, .int .i64 0, .int .u64 0, .int .i64 0, .int .i64 0, .int .i64 0, .string ⟨#[]⟩, .string ⟨#[]⟩, .int .u64 0, .int .i64 0, .int .u64 0, .slice none 0 0, .slice none 0 0]
theorem zeroA_rc : rcA Rec.zero (.slice none 0 0) (.slice none 0 0) = Qvc := rfl
theorem zero_got (base : Nat) (w : World) : Qyg base w Rec.zero (.slice none 0 0) (.slice none 0 0) := ⟨World.ownsRow_nil _ _ _ _, World.ownsRow_nil _ _ _ _⟩
theorem isB_two {w : World} {base n cap : Nat} {a : Option Addr} {q : List UInt8} (h : w.ownsRow base 5 1 (.slice a (n + 2) cap) (n + 2) (toV q)) (hq : q.length = n + 2) : ∃ g, a = some ⟨g, 0, none⟩ /\ IsB w (some ⟨g, 2, none⟩) n (q.drop 2) /\ n + 2 <= cap := by
  obtain ⟨g, c, h1, _⟩ := own_slice h (by omega); injection h1 with h2 h3 h4; subst h2 h4; refine ⟨g, rfl, ?_, own_cap h⟩; have hB := h.isB hq; obtain ⟨b, off, hb, hlt, hc⟩ := hB.2 (by omega); cases hb; have h5 := IsB.cut hq hlt hc 2 n (by omega); rwa [List.take_of_length_le (by rw [List.length_drop]; omega)] at h5
end
section
structure Hush (n : Nat) (A B : World) : Prop where
  os : B.os = A.os
  tape : B.tape = A.tape
  output : B.output = A.output
  size : A.heap.size <= B.heap.size
  low : ∀ k, k < n -> B.heap[k]? = A.heap[k]?
  cells : ∀ (k : Nat) (cs : Array Value) (t : TypeId) (f : Nat × Nat), A.heap[k]? = some (Obj.cells cs t f) -> B.heap[k]? = some (Obj.cells cs t f)
theorem Hush.refl (n : Nat) (A : World) : Hush n A A := ⟨rfl, rfl, rfl, Nat.le_refl _, fun _ _ => rfl, fun _ _ _ _ h => h⟩
theorem Hush.trans {n : Nat} {A B C : World} (h : Hush n A B) (k : Hush n B C) : Hush n A C :=
  ⟨k.os.trans h.os, k.tape.trans h.tape, k.output.trans h.output, Nat.le_trans h.size k.size, fun i hi => (k.low i hi).trans (h.low i hi), fun i cs t f hi => k.cells i cs t f (h.cells i cs t f hi)⟩
theorem Hush.of_below {n : Nat} {A B : World} (h : Below A.heap.size A B) (hn : n <= A.heap.size) : Hush n A B :=
  ⟨h.os, h.tape, h.output, h.size, fun k hk => h.block k (Nat.lt_of_lt_of_le hk hn), fun k cs t f hk => (h.block k (Array.getElem?_eq_some_iff.1 hk).1).trans hk⟩
theorem Hush.put {n l : Nat} {A : World} {o : Obj} (o' : Obj) (hl : n <= l) (h : A.heap[l]? = some o) (ho : o.isCells = false) : Hush n A (A.putObj l o') := by
  refine ⟨rfl, rfl, rfl, by simp, fun k hk => World.putObj_heap_other (by omega), fun k cs t f hk => ?_⟩
  have hne : k ≠ l := fun e => by
    subst e; rw [hk] at h; cases h; cases ho
  exact (World.putObj_heap_other hne).trans hk
def toldPost {α : Type} (n id : Nat) (Kp : World -> World -> Prop) (I Ix : List α -> World -> Prop) (pre : List α) (x : α) (W : World) : Exit -> Act -> World -> Prop
  | .normal, _, W' => KeepsFrom n W W' /\ Kp W W' /\ I (pre ++ [x]) W'
  | .exit i, _, W' => i = id /\ KeepsFrom n W W' /\ Ix pre W'
  | _, _, _ => False
variable {F : Fence} {n : Nat} {P : Program}
theorem wpIn_range_told {α : Type} {g : Operand} {ps : Array Tmp} {assign body : Code} {Q : Exit -> Act -> World -> Prop} {a : Act} {w : World} (hro : F.round = none) (h1 : 1 <= n)
    {gf : Nat} {lb : Array Value} (hg : a.eval g = .func (.func gf) #[] lb) (hFg : F.fn gf) (eg : ∀ args w, (callFunc gf args).run P w = .ok (.enter gf args) w)
    (encs : α -> Array Value) (hps : ∀ x, (encs x).size = ps.size) (id : Nat)
    (G : List α -> α -> World -> Prop) (E : List α -> World -> Prop) (Kp : World -> World -> Prop) (I Ix : List α -> World -> Prop) (Ac : List α -> α -> Act -> World -> Prop)
    (kr : ∀ A B C, Kp A B -> Hush w.heap.size B C -> Kp A C) (kk : ∀ A B C, Kp A B -> Kp B C -> Kp A C)
    (ci : ∀ s A B, Hush w.heap.size A B -> I s A -> I s B) (cx : ∀ s A B, Hush w.heap.size A B -> Ix s A -> Ix s B) (ca : ∀ s x c A B, Hush w.heap.size A B -> Ac s x c A -> Ac s x c B)
    (hseq : ∀ (l : Nat) (J Jx : List α -> World -> Prop) (W : World), Below w.heap.size w W -> (∀ s A B, Below A.heap.size A B -> J s A -> J s B) ->
      (∀ pre x A, J pre A -> G pre x A -> YieldAt F (n - 1 - 1) P l (encs x) A fun e B => (e = .returned (.bool true) /\ J (pre ++ [x]) B /\ Kp A B) ∨ (e = .returned (.bool false) /\ Jx pre B)) -> J [] W ->
      CallsIn F (n - 1) P gf (#[.func (.yield l) #[] #[]] ++ lb) W fun e B => (∃ v, e = .returned v) /\ ((∃ xs, E xs B /\ J xs B) ∨ (∃ pre, Jx pre B)))
    (h0 : I [] w)
    (ce : ∀ s A B, Hush w.heap.size A B -> E s A -> E s B)
    (hassign : ∀ (l : Nat) (pre : List α) (x : α) (W : World) (K : Act -> World -> Prop), I pre W -> G pre x W -> (∀ c W', KeepsFrom w.heap.size W W' -> Kp W W' -> Ac pre x c W' -> K c W') ->
      assign.wpIn (F.inRound l) (n - 1 - 1) P (Exit.then K (fun _ _ _ => False)) { tmps := (ps.zip (encs x)).foldl (fun t (p, v) => t.setIfInBounds p v) a.tmps, defers := [] } W)
    (hbody : ∀ (l : Nat) (pre : List α) (x : α) (c : Act) (W : World), Ac pre x c W -> body.wpIn (F.inRound l) (n - 1 - 1) P (toldPost w.heap.size id Kp I Ix pre x W) c W)
    (hdone : ∀ (D : Nat) (xs : List α) (W : World), w.heap.size <= D -> E xs W -> I xs W -> W.heap[D]? = some (.deferred (some [])) -> Q .normal { a with defers := { target := .collected D, args := #[] } :: a.defers } W)
    (hstop : ∀ (D : Nat) (pre : List α) (W : World), w.heap.size <= D -> Ix pre W -> W.heap[D]? = some (.deferred (some [])) -> (Code.exit id).wpIn F n P Q { a with defers := { target := .collected D, args := #[] } :: a.defers } W) :
    (Code.rangeFunc g ps assign body).wpIn F n P Q a w := by
  refine wpIn_rangeFunc fun fn hfn => ?_
  rw [hro]; generalize hd : w.heap.size = d at *; let R : LoopState -> Option Code -> Obj := fun s p => .loop { state := s, pending := p, fn := fn, tmps := a.tmps, params := ps, assign := assign, body := body, defers := d }
  let Z : Obj := .deferred (some []); have sz1 : (w.alloc Z).heap.size = d + 1 := by rw [World.size_alloc, hd]
  have bel : Below d w ((w.alloc Z).alloc (R .ready none)) := by
    have h := ((Below.refl w.heap.size w).alloc (Nat.le_refl _) Z).alloc (by rw [sz1]; omega) (R .ready none); rwa [hd] at h
  have atL : ((w.alloc Z).alloc (R .ready none)).heap[d + 1]? = some (R .ready none) := by
    have h := World.alloc_heap_new (w.alloc Z) (R .ready none); rwa [sz1] at h
  have atD : ((w.alloc Z).alloc (R .ready none)).heap[d]? = some Z := by
    have h := World.alloc_heap_new w Z; rw [hd] at h; exact (Below.heap_alloc _ _ _ (by rw [sz1]; omega)).trans h
  have ent : (Instr.enterLoop fn a.tmps ps assign body none).run P w = .ok (d + 1, [{ target := .collected d, args := #[] }]) ((w.alloc Z).alloc (R .ready none)) := by
    have h := run_enterLoop_outer (P := P) (w := w) fn a.tmps ps assign body; rw [hd] at h; exact h
  have calm : Hush d w ((w.alloc Z).alloc (R .ready none)) := Hush.of_below (by rw [hd]; exact bel) (by omega)
  refine ⟨d + 1, _, (w.alloc Z).alloc (R .ready none), { target := .fn (.func gf) lb, args := #[.func (.yield (d + 1)) #[] #[]] }, (w.alloc Z).alloc (R .ready none), gf, #[.func (.yield (d + 1)) #[] #[]] ++ lb, (w.alloc Z).alloc (R .ready none), ent, ?_, ?_, ?_, fun _ => h1, ?_⟩
  · simp only [resolve, hg]; simp [go_sem]
  · intro f' hf'; simp [Target.leads] at hf'; subst hf'; exact hFg
  · simp [invoke, go_sem, eg]
  generalize (w.alloc Z).alloc (R .ready none) = W1 at *
  refine (hseq (d + 1) (fun s A => I s A /\ A.heap[d + 1]? = some (R .ready none) /\ A.heap[d]? = some Z) (fun s A => Ix s A /\ A.heap[d + 1]? = some (R .done (some (.exit id))) /\ A.heap[d]? = some Z) W1 bel ?_ ?_ ⟨ci _ _ _ calm h0, atL, atD⟩).mono ?_
  · rintro s A B hb ⟨hi, hl, hz⟩; have lt1 := (Array.getElem?_eq_some_iff.1 hl).1; exact ⟨ci _ _ _ (Hush.of_below hb (by omega)) hi, (hb.block _ lt1).trans hl, (hb.block _ (by omega)).trans hz⟩
  · rintro pre x A ⟨hi, hl, hz⟩ hgx; refine ⟨fn, _, assign, body, run_yield (P := P) (args := encs x) hl (hps x), roundIn_of_wpIn hfn (hassign _ pre x A _ hi hgx fun c A1 k1 q1 ha1 => ?_)⟩; have hl1 := k1.same _ _ (by omega) hl rfl; have hz1 := k1.same _ _ (Nat.le_refl _) hz rfl; refine ⟨_, run_beginRound hl1 rfl, ?_⟩; have c1 : Hush d A1 (A1.putObj (d + 1) (R .busy none)) := Hush.put _ (by omega) hl1 rfl; have hl2 : (A1.putObj (d + 1) (R .busy none)).heap[d + 1]? = some (R .busy none) := World.putObj_heap_same (Array.getElem?_eq_some_iff.1 hl1).1; have hz2 : (A1.putObj (d + 1) (R .busy none)).heap[d]? = some Z := (World.putObj_heap_other (by omega)).trans hz1; refine wpIn_mono (hbody (d + 1) pre x c _ (ca _ _ _ _ _ c1 ha1)) ?_; rintro e c3 A3 hp
    cases e with
    | normal =>
      obtain ⟨k3, q3, i3⟩ := hp; have hl3 := k3.same _ _ (by omega) hl2 rfl; have c3' : Hush d A3 (A3.putObj (d + 1) (R .ready none)) := Hush.put _ (by omega) hl3 rfl; refine ⟨_, _, run_endRound (P := P) none hl3, .inl ⟨rfl, ⟨ci _ _ _ c3' i3, World.putObj_heap_same (Array.getElem?_eq_some_iff.1 hl3).1, (World.putObj_heap_other (by omega)).trans (k3.same _ _ (Nat.le_refl _) hz2 rfl)⟩, ?_⟩⟩; exact kr _ _ _ (kk _ _ _ (kr _ _ _ q1 c1) q3) c3'
    | exit i =>
      obtain ⟨rfl, k3, i3⟩ := hp; have hl3 := k3.same _ _ (by omega) hl2 rfl; have c3' : Hush d A3 (A3.putObj (d + 1) (R .done (some (.exit i)))) := Hush.put _ (by omega) hl3 rfl; exact ⟨_, _, run_endRound (P := P) (some (.exit i)) hl3, .inr ⟨rfl, cx _ _ _ c3' i3, World.putObj_heap_same (Array.getElem?_eq_some_iff.1 hl3).1, (World.putObj_heap_other (by omega)).trans (k3.same _ _ (Nat.le_refl _) hz2 rfl)⟩⟩
    | ret => exact hp.elim
    | goto t => exact hp.elim
    | panic ch => exact hp.elim
    | outgrown => exact hp.elim
  · rintro e A ⟨⟨v, rfl⟩, (⟨xs, hE, hi, hl, hz⟩ | ⟨pre, hi, hl, hz⟩)⟩
    · have c3 : Hush d A (A.putObj (d + 1) (R .exhausted none)) := Hush.put _ (by omega) hl rfl; exact ⟨none, _, run_endLoop (P := P) hl (by simp), hdone d xs _ (Nat.le_refl _) (ce _ _ _ c3 hE) (ci _ _ _ c3 hi) ((World.putObj_heap_other (by omega)).trans hz)⟩
    · have c3 : Hush d A (A.putObj (d + 1) (R .exhausted (some (.exit id)))) := Hush.put _ (by omega) hl rfl; exact ⟨some (.exit id), _, run_endLoop (P := P) hl (by simp), hstop d pre _ (Nat.le_refl _) (cx _ _ _ c3 hi) ((World.putObj_heap_other (by omega)).trans hz)⟩
end
section
section
variable {F : Fence} {n : Nat} {P : Program} {ops : Array Oper} {rest : List Oper} {o : Oper} {a : Act} {w : World} {Q : Exit -> Act -> World -> Prop}
theorem Qdv (hw : Region.wanted o (yielded ops a.tmps) = true) (t : TypeId) (x : Operand) (ho : o.op = .load t x) (g : Nat) (hx : a.eval x = .pointer (some ⟨g, 0, none⟩)) (cs : Array Value) (hg : Qa w g t cs) (d : TypeDesc)
    (hu : P.underlying t = some d) (hd : (match d with | .struct _ | .array _ _ => true | _ => false) = true) (hi : (P.info? t).map (·.size) = some cs.size) (h : wpListIn F n P ops Q rest (a.put o.dst (.agg cs)) w) : wpListIn F n P ops Q (o :: rest) a w :=
  wpListIn_step fun K hK => by
    simp only [hw, if_true]; unfold Oper.wpIn
    refine ⟨?_, ?_⟩
    · simp [Oper.about, ho]
    · rw [Oper.semAt_plain F _ _ (by rw [ho]; intro c hc; cases hc)]; unfold execOp; simp only [ho, hx, Instr.loadAt, Instr.sureAddr, Sem.run_bind, Sem.run_pure, Result.andThen_ok, run_loadVar_row w g t t cs (0, 0) d hg hu hd hi]; exact hK _ _ h
theorem Qwh (hgd : o.guard = none) (t : TypeId) (x y : Operand) (ho : o.op = .store t x y) (g : Nat) (c0 cs : Array Value) (hx : a.eval x = .pointer (some ⟨g, 0, none⟩)) (hy : a.eval y = .agg cs) (hg : Qa w g t c0)
    (hi : (P.info? t).map (·.size) = some cs.size) (hz : c0.size = cs.size) (h1 : cs.all (·.oneCell') = true)
    (h : ∀ w2, Qa w2 g t cs -> w.grownBy w2 (some g) -> wpListIn F n P ops Q rest (a.put o.dst undef) w2) : wpListIn F n P ops Q (o :: rest) a w := by
  have h2 := h (w.setRow g cs) (setRow_heap w g c0 cs t (0, 0) hg) ⟨rfl, rfl, rfl, by simp [World.setRow], fun k hk hne => setRow_other w g k _ (fun e => hne (by rw [e]))⟩; refine wpListIn_plain hgd fun K hK => ?_
  unfold Oper.wpIn
  refine ⟨?_, ?_⟩
  · simp [Oper.about, ho]
  · rw [Oper.semAt_plain F _ _ (by rw [ho]; intro c hc; cases hc)]; unfold execOp; simp only [ho, hx, hy, Instr.storeAt, Instr.sureAddr, Sem.run_bind, Sem.run_pure, Result.andThen_ok, run_storeVar_row w g t t c0 cs hg hi hz h1]; exact hK _ _ h2
end
end
section
open Go.RowKit Go.Shelf
attribute [local go_sem] Oper.semAt_some
abbrev Hd := (Rec × Value × Value) × Nat
def Qnk (xs : List Hd) : List Rec := xs.map (·.1.1)
theorem Qxn (xs : List Hd) (x : Hd) : Qnk (xs ++ [x]) = Qnk xs ++ [x.1.1] := by simp [Qnk]
theorem Qai (rs : List Rec) (r : Rec) : Qc (rs ++ [r]) = Qc rs ++ Qoa r := by simp [Qc]
def encH (x : Hd) : Array Value := #[.agg (rcF x.1), .int .i64 (x.2 : Int)]
def Told (base : Nat) (bs : List UInt8) (pre : List Hd) (x : Hd) (W : World) : Prop :=
  x.1.1.right /\ x.1.1.fits /\ Qyg base W x.1.1 x.1.2.1 x.1.2.2 /\ x.2 = (Qc (Qnk (pre ++ [x]))).length /\ ∃ y, bs = Qc (Qnk (pre ++ [x])) ++ y
def Over (bs : List UInt8) (xs : List Hd) : Prop := ∃ y, bs = Qc (Qnk xs) ++ y /\ (Qla y).2.2 ≠ 0
theorem head_fits (y : List UInt8) : (Qla y).1.fits := by
  unfold Qla
  split
  · exact Qec
  · split
    · exact Qec
    · split
      · exact Qec
      · exact dec_fits _
theorem head_over {bs y : List UInt8} {xs : List Hd} (h : bs = Qc (Qnk xs) ++ y) : takF bs ((Qc (Qnk xs)).length : Int) = ((Qla y).1, if (Qla y).2.2 = 0 then ((Qc (Qnk xs)).length : Int) + ((Qla y).2.1 : Int) else 0, (Qla y).2.2) := by
  unfold takF
  have e : bs.drop ((Qc (Qnk xs)).length : Int).toNat = y := by
    rw [Int.toNat_natCast, h]; exact List.drop_left' rfl
  rw [if_neg (by rw [h, List.length_append]; omega), e]
theorem frames_step {bs y : List UInt8} {xs : List Hd} (h : bs = Qc (Qnk xs) ++ y) (he : (Qla y).2.2 = 0) (va vb : Value) :
    (Qla y).1.right /\ ∃ y', bs = Qc (Qnk (xs ++ [(((Qla y).1, va, vb), (Qc (Qnk xs)).length + (Qla y).2.1)])) ++ y' /\ (Qc (Qnk (xs ++ [(((Qla y).1, va, vb), (Qc (Qnk xs)).length + (Qla y).2.1)]))).length = (Qc (Qnk xs)).length + (Qla y).2.1 /\ 6 <= (Qla y).2.1 := by
  obtain ⟨h1, h2, h3, h4⟩ := head_ok y he
  refine ⟨h1, y.drop (Qla y).2.1, ?_, ?_, ?_⟩
  · rw [Qxn, Qai, <- h2, List.append_assoc, List.take_append_drop]; exact h
  · rw [Qxn, Qai, List.length_append, <- h3]
  · rw [h3, Qed]; omega
end
section
open Go.RowKit Go.Shelf
attribute [local go_sem] Oper.semAt_some
def Qjd (ms : List (Rec × Value × Value)) : List Value := ms.flatMap fun m => (rcF m).toList
theorem Qip (a b : List (Rec × Value × Value)) : Qjd (a ++ b) = Qjd a ++ Qjd b := by simp [Qjd]
theorem Qjx : (Try.prog.info? 46).map (fun i => (i.zero, i.size, i.bytes)) = some (some (.agg Qvc), 14, 160) := by kernel_rfl
theorem own_kind {y : World} {base n sz k : Nat} {e t : TypeId} {v : Value} {xs : List Value} {cs : Array Value} (h : y.ownsRow base e sz v n xs) (hr : Qa y k t cs) (ht : t ≠ e) : v.ownBlock ≠ some k := fun hk => by
  rcases h.2 with ⟨rfl, _⟩ | ⟨g, cap, cur, rfl, _, hg, _⟩
  · cases hk
  · obtain rfl : g = k := by simpa [Value.ownBlock] using hk
    have h5 := (show y.heap[g]? = _ from hr).symm.trans hg; simp only [Option.some.injEq, Obj.cells.injEq] at h5; exact ht h5.2.1
theorem Qah {A B : World} {base n sz : Nat} {e : TypeId} {v : Value} {xs : List Value} (h : A.ownsRow base e sz v n xs) (hk : ∀ k cs, Qa A k e cs -> Qa B k e cs) : B.ownsRow base e sz v n xs := by
  refine ⟨h.1, h.2.imp id ?_⟩; rintro ⟨g, cap, cur, h1, h2, h3, h4⟩; exact ⟨g, cap, cur, h1, h2, hk g cur h3, h4⟩
theorem cells_new (W : World) (t : TypeId) (cs : Array Value) : ∀ j u, cs.toList[j]? = some u -> (W.alloc (.cells cs t)).cell? ((⟨W.heap.size, 0, none⟩ : Addr).add j) = some u := fun j u hu => by
  rw [Addr.add_lit, Nat.zero_add]; refine (Qa.new W t cs).cell j u ?_; rw [<- hu, Array.getElem?_toList]
theorem Qqd {n : Nat} {A B : World} (h : Hush n A B) {k : Nat} {t : TypeId} {cs : Array Value} (hr : Qa A k t cs) : Qa B k t cs := h.cells k cs t (0, 0) hr
theorem hush_below {n : Nat} {w A B : World} (h : Hush n A B) (hb : Below n w A) : Below n w B := ⟨h.os.trans hb.os, h.tape.trans hb.tape, h.output.trans hb.output, Nat.le_trans hb.size h.size, fun k hk => (h.low k hk).trans (hb.block k hk)⟩
structure ScI (n0 : Nat) (w : World) (bs : List UInt8) (v : Value) (pre : List Hd) (W : World) : Prop where
  box : Qa W n0 22 #[v]
  own : W.ownsRow n0 46 14 v pre.length (Qjd (pre.map (·.1)))
  size : Qa W (n0 + 1) 3 #[.int .i64 ((Qc (Qnk pre)).length : Int)]
  last : Qa W (n0 + 1 + 1) 37 #[.int .u64 ((Qya 0 (Qnk pre) : Nat) : Int)]
  rise : Qcb 0 (Qnk pre)
  part : ∃ y, bs = Qc (Qnk pre) ++ y
  got : ∀ x ∈ pre, x.1.1.fits /\ Qyg n0 W x.1.1 x.1.2.1 x.1.2.2
  bel : Below n0 w W
theorem ScI.hush {n0 : Nat} {w : World} {bs : List UInt8} {v : Value} {pre : List Hd} {A B : World} {n : Nat} (h : ScI n0 w bs v pre A) (hn : n0 <= n) (hc : Hush n A B) : ScI n0 w bs v pre B :=
  ⟨Qqd hc h.box, Qah h.own (fun _ _ => Qqd hc), Qqd hc h.size, Qqd hc h.last, h.rise, h.part, fun x hx => ⟨(h.got x hx).1, Qah (h.got x hx).2.1 (fun _ _ => Qqd hc), Qah (h.got x hx).2.2 (fun _ _ => Qqd hc)⟩,
    ⟨hc.os.trans h.bel.os, hc.tape.trans h.bel.tape, hc.output.trans h.bel.output, Nat.le_trans h.bel.size hc.size, fun k hk => (hc.low k (by omega)).trans (h.bel.block k hk)⟩⟩
theorem told_hush {base n : Nat} {bs : List UInt8} {pre : List Hd} {x : Hd} {A B : World} (h : Told base bs pre x A) (hc : Hush n A B) : Told base bs pre x B :=
  ⟨h.1, h.2.1, ⟨Qah h.2.2.1.1 (fun _ _ => Qqd hc), Qah h.2.2.1.2 (fun _ _ => Qqd hc)⟩, h.2.2.2⟩
theorem ScI.drew {n0 : Nat} {w : World} {bs : List UInt8} {v : Value} {pre : List Hd} {A : World} (h : ScI n0 w bs v pre A) : ScI n0 w bs v pre A.drew :=
  ⟨h.box, h.own, h.size, h.last, h.rise, h.part, h.got, Qph h.bel⟩
theorem scan_fin {n0 : Nat} {w W X : World} {bs : List UInt8} {v : Value} {xs : List Hd} {mm len : Nat} (hn : n0 = w.heap.size) (h : ScI n0 w bs v xs W) (he : Qua bs = (Qnk xs, mm)) (hc : Hush n0 W.drew X) :
    ∃ u ms, Ending.returned (.tuple #[v, .int .i64 (mm : Int), .bool ((mm : Int) == (len : Int))]) = .returned (.tuple #[u, .int .i64 ((Qua bs).2 : Int), .bool (decide ((Qua bs).2 = len))]) /\ ms.map (·.1) = (Qua bs).1 /\
      X.ownsRow w.heap.size 46 14 u ms.length (Qjd ms) /\ (∀ m ∈ ms, m.1.fits /\ Qyg w.heap.size X m.1 m.2.1 m.2.2) /\ Below w.heap.size w X := by
  subst hn; have h2 := h.drew.hush (Nat.le_refl _) hc
  refine ⟨v, xs.map (·.1), ?_, ?_, ?_, fun m hm => ?_, h2.bel⟩
  · rw [he]
    have e : ((mm : Int) == (len : Int)) = decide (mm = len) := by
      rw [Bool.eq_iff_iff]; simp; omega
    rw [e]
  · rw [he]; simp [Qnk]
  · rw [List.length_map]; exact h2.own
  · obtain ⟨x, hx, rfl⟩ := List.mem_map.1 hm; exact h2.got x hx
def msR (ms : List (Rec × Value × Value)) : List Rec := ms.map (·.1)
theorem msR_snoc (ms : List (Rec × Value × Value)) (m : Rec × Value × Value) : msR (ms ++ [m]) = msR ms ++ [m.1] := by simp [msR]
def ScanAns (w : World) (bs : List UInt8) (len : Nat) (e : Ending) (w' : World) : Prop :=
  ∃ v ms, e = .returned (.tuple #[v, .int .i64 ((Qua bs).2 : Int), .bool (decide ((Qua bs).2 = len))]) /\ msR ms = (Qua bs).1 /\
    w'.ownsRow w.heap.size 46 14 v ms.length (Qjd ms) /\ (∀ m ∈ ms, m.1.fits /\ Qyg w.heap.size w' m.1 m.2.1 m.2.2) /\ Below w.heap.size w w'
end
def Qmi (w : World) (v : Value) (ms : List (Rec × Value × Value)) : Prop := Qbd rcF rcZ 14 w v ms /\ ∀ m ∈ ms, m.1.fits /\ Qwb w m.1 m.2.1 m.2.2
theorem Qmi.below {w x : World} {v : Value} {ms : List (Rec × Value × Value)} (h : Qmi w v ms) (hb : Below w.heap.size w x) : Qmi x v ms := ⟨h.1.below hb, fun m hm => ⟨(h.2 m hm).1, (h.2 m hm).2.below hb⟩⟩
theorem Qmi.own {w : World} {base : Nat} {v : Value} {ms : List (Rec × Value × Value)} (ho : w.ownsRow base 46 14 v ms.length (Qjd ms)) (hg : ∀ m ∈ ms, m.1.fits /\ Qyg base w m.1 m.2.1 m.2.2) : Qmi w v ms :=
  ⟨Qse rcF rcZ 14 (fun _ => rfl) ho, fun m hm => ⟨(hg m hm).1, (hg m hm).2.rc⟩⟩
theorem Qmf (y : World) (b k : Nat) (m : Rec × Value × Value) (h : y.rangeAt b k (rcF m).toList) : (Instr.loadAt 46 (.pointer (some ⟨b, k, none⟩))).run Try.prog y = .ok (.agg (rcF m)) y := by
  have h1 := run_loadAt_mid (P := Try.prog) y b k 46 (rcF m).toList _ h Try.underlying46 rfl (by rw [Qaa]; rfl); rwa [Array.toArray_toList] at h1
theorem Qmi.at {w : World} {a : Option Addr} {len cap : Nat} {ms : List (Rec × Value × Value)} (h : Qmi w (.slice a len cap) ms) {i : Nat} (hi : i < ms.length) : ∃ b off, a = some ⟨b, off, none⟩ /\ b < w.heap.size /\ w.rangeAt b (off + i * 14) (rcF (ms.getD i rcZ)).toList /\ (ms.getD i rcZ).1.fits /\ Qwb w (ms.getD i rcZ).1 (ms.getD i rcZ).2.1 (ms.getD i rcZ).2.2 := by
  obtain ⟨⟨a', cap', h1, h2⟩, h3⟩ := h; injection h1 with e1 e2 e3; subst e1; obtain ⟨b, off, h4, h5, h6⟩ := h2 (by omega); have h7 := h3 _ (Qja ms i rcZ hi); exact ⟨b, off, h4, h5, h6 i hi, h7.1, h7.2⟩
theorem Qgg (ms : List (Rec × Value × Value)) (i : Nat) : (msR ms).getD i Rec.zero = (ms.getD i rcZ).1 := by
  unfold msR; simp only [List.getD_eq_getElem?_getD, List.getElem?_map]; cases ms[i]? <;> rfl
theorem wpList_append_run {P : Program} {ops : Array Oper} {rest : List Oper} {o : Oper} {a : Act} {w w' : World} {Q : Exit -> Act -> World -> Prop} (hgd : o.guard = none) (s x : Operand) (t u : TypeId) (hop : o.op = Op.call { callee := Callee.builtin Builtin.append, args := #[s, x], argTypes := #[t, u] })
    (vs vx v' : Value) (hs : a.eval s = vs) (hx : a.eval x = vx) (hrun : (Builtin.append_ #[t, u] o.type #[vs, vx]).run P w = .ok v' w') (h : wpList P ops Q rest (a.put o.dst v') w') : wpList P ops Q (o :: rest) a w := by
  refine wpList_plain hgd fun K hK => ?_
  unfold Oper.wp; simp [execOp, hop, resolve, invoke, builtin, hs, hx, hrun, Result.andThen]; exact hK _ _ h
structure BufC (w : World) (base g n cap : Nat) (bs : List UInt8) : Prop where
  low : base <= g
  lt : g < w.heap.size
  room : n <= cap
  len : bs.length = n
  cell : ∀ j, j < n -> w.cell? ⟨g, j, none⟩ = some (.int .u8 ((bs.getD j 0).toNat : Int))
  free : ∀ j, j < cap -> (w.cell? ⟨g, j, none⟩).isSome = true /\ w.frozen? ⟨g, j, none⟩ = false
theorem BufC.isB {w : World} {base g n cap : Nat} {bs : List UInt8} (h : BufC w base g n cap bs) : IsB w (some ⟨g, 0, none⟩) n bs :=
  ⟨h.len, fun _ => ⟨g, 0, rfl, h.lt, fun j hj => by rw [Nat.zero_add]; exact h.cell j hj⟩⟩
theorem BufC.below {w x : World} {base g n cap : Nat} {bs : List UInt8} (h : BufC w base g n cap bs) (hb : Below w.heap.size w x) : BufC x base g n cap bs := by
  have hc : ∀ j, x.cell? ⟨g, j, none⟩ = w.cell? ⟨g, j, none⟩ := fun j => hb.cell (p := ⟨g, j, none⟩) h.lt
  have hf : ∀ j, x.frozen? ⟨g, j, none⟩ = w.frozen? ⟨g, j, none⟩ := fun j => World.frozen?_of_block (a := ⟨g, j, none⟩) (hb.block g h.lt)
  exact ⟨h.low, Nat.lt_of_lt_of_le h.lt hb.size, h.room, h.len, fun j hj => (hc j).trans (h.cell j hj), fun j hj => by rw [hc, hf]; exact h.free j hj⟩
theorem bufC_conv (w : World) (e : TypeId) (s : ByteArray) : BufC (Lib.bytesWorld w e s) w.heap.size w.heap.size s.size (grownCap w s.size 0 e) s.data.toList := by
  have hge := grownCap_ge w s.size 0 e
  have hsz : (Lib.bytesCells w e s).size = grownCap w s.size 0 e := by
    have h1 : s.data.size = s.size := rfl; simp only [Lib.bytesCells, Array.size_append, Array.size_map, Array.size_replicate, h1]; omega
  have hat := Lib.bytesWorld_at_new w e s; rw [hsz] at hat
  refine ⟨Nat.le_refl _, by rw [Lib.bytesWorld_size]; omega, hge, Qeb s, fun j hj => Lib.bytesWorld_cell w e s j hj, fun j hj => ⟨?_, ?_⟩⟩
  · rw [cell_of_row _ _ _ _ _ _ hat, Array.getElem?_eq_getElem (by rw [hsz]; exact hj)]; rfl
  · simp only [World.frozen?, hat, Bool.and_eq_false_iff, decide_eq_false_iff_not]; left; omega
theorem Qus {w : World} {base n : Nat} {e : TypeId} {v : Value} {bs : List UInt8} (h : w.ownsRow base e 1 v n (toV bs)) (hn : 0 < n) : ∃ g cap, v = .slice (some ⟨g, 0, none⟩) n cap /\ BufC w base g n cap bs := by
  have hl : bs.length = n := by
    have := h.1; rw [Qi] at this; omega
  rcases h.2 with ⟨_, h0⟩ | ⟨g, cap, cur, rfl, hb, hg, hnc, _, hcs, _⟩
  · omega
  · refine ⟨g, cap, rfl, hb, (h.lt g rfl).2, hnc, hl, fun j hj => (h.cellAt j (by omega)).trans (Qfg bs j (by omega)), fun j hj => ⟨?_, h.frozenAt j⟩⟩; rw [cell_of_row _ _ _ _ _ _ hg, Array.getElem?_eq_getElem (by omega)]; rfl
theorem Qrc {B b : Nat} : ∀ (vs : List Value) (o : Nat) (w : World), B <= b -> Below B w (w.setCells b o vs)
  | [], _, w, _ => Below.refl _ _
  | v :: vs, o, w, h => ((Below.refl B w).setCell (p := ⟨b, o, none⟩) h v).trans (Qrc vs (o + 1) _ h)
theorem BufC.put {w : World} {base g n cap : Nat} {bs ys : List UInt8} (h : BufC w base g n cap bs) (hr : n + ys.length <= cap) : BufC (w.setCells g n (toV ys)) base g (n + ys.length) cap (bs ++ ys) := by
  have hb := Qrc (B := 0) (b := g) (toV ys) n w (Nat.zero_le _); have hin := World.cell?_setCells_in g (toV ys) n w (fun j hj => (h.free (n + j) (by rw [Qi] at hj; omega)).1)
  refine ⟨h.low, Nat.lt_of_lt_of_le h.lt hb.size, hr, by rw [List.length_append, h.len], fun j hj => ?_, fun j hj => ⟨?_, by rw [World.frozen?_setCells]; exact (h.free j hj).2⟩⟩
  · by_cases hjn : j < n
    · rw [World.cell?_setCells_out g (toV ys) n w _ (fun _ _ => .inl hjn), h.cell j hjn]; rw [List.getD_eq_getElem?_getD, List.getD_eq_getElem?_getD, List.getElem?_append_left (by rw [h.len]; exact hjn)]
    · obtain ⟨k, rfl⟩ : ∃ k, j = n + k := ⟨j - n, by omega⟩; have hk : k < ys.length := by omega
      rw [hin k (by rw [Qi]; exact hk)]
      have e : (bs ++ ys).getD (n + k) 0 = ys.getD k 0 := by
        rw [List.getD_eq_getElem?_getD, List.getD_eq_getElem?_getD, List.getElem?_append_right (by rw [h.len]; omega), h.len]; congr 2; omega
      rw [e]; have h2 := Qfg ys k hk; rw [List.getElem?_eq_getElem (by rw [Qi]; exact hk)] at h2; exact h2
  · by_cases hjn : n <= j /\ j < n + ys.length
    · obtain ⟨k, rfl⟩ : ∃ k, j = n + k := ⟨j - n, by omega⟩; rw [hin k (by rw [Qi]; omega)]; rfl
    · rw [World.cell?_setCells_out g (toV ys) n w _ (fun _ _ => by rw [Qi]; show j < n ∨ n + ys.length <= j; omega)]; exact (h.free j hj).1
section
theorem run_append_c {P : Program} (w : World) (t e : TypeId) (ht : P.underlying t = some (.slice e)) (hi : (P.info? e).map (fun i => (i.zero, i.size, i.bytes)) = some (some (.int .u8 0), 1, 1)) (ty : TypeId) {base g n cap : Nat} {bs : List UInt8} (h : BufC w base g n cap bs) (b2 off2 m c : Nat) (ys : List UInt8) (hY : IsB w (some ⟨b2, off2, none⟩) m ys) (hm : 0 < n + m) (hz : n + m <= 140737488355328) (hb : base <= w.heap.size) :
    ∃ g' cap' w', (Builtin.append_ #[t, t] ty #[.slice (some ⟨g, 0, none⟩) n cap, .slice (some ⟨b2, off2, none⟩) m c]).run P w = .ok (.slice (some ⟨g', 0, none⟩) (n + m) cap') w' /\ BufC w' base g' (n + m) cap' (bs ++ ys) /\ Below base w w' := by
  obtain ⟨i, hi0, hi1⟩ := Option.map_eq_some_iff.1 hi; simp only [Prod.mk.injEq] at hi1; have hyl := hY.1
  by_cases hr : n + m <= cap
  · have hrun := run_append_room_cells (P := P) w t ty e i ht hi0 g 0 n cap ⟨b2, off2, none⟩ m c (toV ys) (by rw [Qi, hyl, hi1.2.1, Nat.mul_one]) (Qfb hY) (toV_one ys) hr
      (fun j hj => by rw [Qi] at hj; rw [hi1.2.1, Nat.mul_one, Nat.zero_add]; exact (h.free (n + j) (by omega)).1) (fun j hj => by rw [Qi] at hj; rw [hi1.2.1, Nat.mul_one, Nat.zero_add]; exact (h.free (n + j) (by omega)).2)
    rw [hi1.2.1, Nat.mul_one, Nat.zero_add] at hrun; have hp := h.put (ys := ys) (by omega); rw [hyl] at hp; exact ⟨g, cap, _, hrun, hp, Qrc _ _ _ h.low⟩
  · obtain ⟨v', w', hrun, r1, r2⟩ := run_append_arg_grows (P := P) w t ty e i (.int .u8 0) 1 1 ht hi0 hi1.1 hi1.2.1 hi1.2.2 rfl (by omega) ⟨g, 0, none⟩ n cap (toV bs) (by rw [Qi, h.len, Nat.mul_one]) (Qfb h.isB) ⟨b2, off2, none⟩ m c (toV ys) (by rw [Qi, hyl, Nat.mul_one]) (Qfb hY) (by omega) (by unfold maxLen; omega) (by omega); rw [<- Qmc] at r1; obtain ⟨g', cap', rfl, hB⟩ := Qus r1 hm; exact ⟨g', cap', w', hrun, ⟨Nat.le_trans hb hB.low, hB.lt, hB.room, hB.len, hB.cell, hB.free⟩, ⟨r2.os, r2.tape, r2.output, r2.size, fun k hk => r2.block k (Nat.lt_of_lt_of_le hk hb) (by simp)⟩⟩
theorem run_append_cs {P : Program} (w : World) (t e : TypeId) (ht : P.underlying t = some (.slice e)) (hi : (P.info? e).map (fun i => (i.zero, i.size, i.bytes)) = some (some (.int .u8 0), 1, 1)) (u ty : TypeId) (hu : P.underlying u = some .string) {base g n cap : Nat} {bs : List UInt8} (h : BufC w base g n cap bs) (s : ByteArray) (hm : 0 < n + s.size) (hz : n + s.size <= 140737488355328) (hb : base <= w.heap.size) :
    ∃ g' cap' w', (Builtin.append_ #[t, u] ty #[.slice (some ⟨g, 0, none⟩) n cap, .string s]).run P w = .ok (.slice (some ⟨g', 0, none⟩) (n + s.size) cap') w' /\ BufC w' base g' (n + s.size) cap' (bs ++ s.data.toList) /\ Below base w w' := by
  obtain ⟨i, hi0, hi1⟩ := Option.map_eq_some_iff.1 hi; simp only [Prod.mk.injEq] at hi1; have hsl := Qeb s
  have hst0 : Lib.strCells s = toV s.data.toList := by
    have := toV_str [] s; simpa [toV] using this
  by_cases hr : n + s.size <= cap
  · have hf := Lib.run_firstCells_string (P := P) w 1 s; have hst := run_storeCells_cells (P := P) g n (Lib.strCells s) 0 w (fun j hj => by rw [Lib.strCells_length] at hj; exact (h.free (n + 0 + j) (by omega)).1) (fun j hj => by rw [Lib.strCells_length] at hj; exact (h.free (n + 0 + j) (by omega)).2) (Lib.strCells_oneCell s); simp only [Nat.add_zero] at hst
    have hrun : (Builtin.append_ #[t, u] ty #[.slice (some ⟨g, 0, none⟩) n cap, .string s]).run P w = .ok (.slice (some ⟨g, 0, none⟩) (n + s.size) cap) (w.setCells g n (Lib.strCells s)) := by
      simp [Builtin.append_, run_underlying ht, run_underlying hu, sizeOf, typeInfo, hi0, hi1.2.1, Builtin.lenOf, hr, hf, Addr.add_lit, hst]
    rw [hst0] at hrun; have hp := h.put (ys := s.data.toList) (by omega); rw [hsl] at hp; exact ⟨g, cap, _, hrun, hp, Qrc _ _ _ h.low⟩
  · have hr2 := Lib.run_append_grow_string (P := P) w t u ty e i (.int .u8 0) ht hu hi0 hi1.1 ⟨g, 0, none⟩ n cap (toV bs) (by rw [Qi, h.len, hi1.2.1, Nat.mul_one]) (Qfb h.isB) s (by omega) (by omega) (by rw [hi1.2.2]; exact growslice_fits (by omega) (by omega)); have hge := grownCap_ge w (n + s.size) cap e; have hcm : grownCap w (n + s.size) cap e <= maxLen := grownCap_le_maxLen w (n + s.size) cap e (by unfold maxLen; omega)
    refine ⟨w.heap.size, _, _, hr2, ?_, ?_⟩
    · have hown : (w.drew.alloc (.cells ((toV bs).toArray ++ (Lib.strCells s).toArray ++ Builtin.zeroCells (Value.int .u8 0).cells (grownCap w (n + s.size) cap e - (n + s.size))) e)).ownsRow w.heap.size e 1 (.slice (some ⟨w.heap.size, 0, none⟩) (n + s.size) (grownCap w (n + s.size) cap e)) (n + s.size) (toV (bs ++ s.data.toList)) := by
        have hlen : (toV (bs ++ s.data.toList)).length = n + s.size := by rw [Qi, List.length_append, h.len, hsl]
        refine ⟨by rw [hlen, Nat.mul_one], .inr ⟨w.heap.size, _, _, rfl, Nat.le_refl _, heap_alloc_new w.drew _, hge, hcm, ?_, ?_⟩⟩
        · have hz1 : (Value.int IntKind.u8 0).cells.size = 1 := rfl; simp only [Array.size_append, List.size_toArray, size_zeroCells, hz1, Qi, h.len, Lib.strCells_length]; omega
        · simp only [Array.toList_append, List.append_assoc]; rw [<- List.append_assoc, hst0, <- Qmc, Nat.mul_one, <- hlen]; exact List.take_left
      obtain ⟨g', cap', hv, hB⟩ := Qus hown hm; injection hv with h1 h2 h3; injection h1 with h4; injection h4 with h5; subst h5 h3; exact ⟨Nat.le_trans hb hB.low, hB.lt, hB.room, hB.len, hB.cell, hB.free⟩
    · exact ⟨rfl, rfl, rfl, by simp, fun k hk => heap_alloc_old w.drew _ (show k < w.drew.heap.size from Nat.lt_of_lt_of_le hk hb)⟩
end
def Qwe (w : World) (b : Nat) (p : Pg) : Prop := w.heap[b]? = some (.cells (pgA p) 93 (0, 0))
theorem Qwe.lsn {w : World} {b : Nat} {p : Pg} (h : Qwe w b p) : w.cell? ⟨b, 0, none⟩ = some (.int .u64 p.l) := by
  rw [cell_of_row w b 0 _ _ (0, 0) h]; rfl
theorem Qwe.used {w : World} {b : Nat} {p : Pg} (h : Qwe w b p) (i : Nat) (hi : i < 8) : w.cell? ⟨b, 1 + i * 2, none⟩ = some (.bool (p.u i)) := by
  rw [cell_of_row w b (1 + i * 2) _ _ (0, 0) h]; exact Qqm p i hi
theorem Qwe.val {w : World} {b : Nat} {p : Pg} (h : Qwe w b p) (i : Nat) (hi : i < 8) : w.cell? ⟨b, 1 + i * 2 + 1, none⟩ = some (.string (p.s i)) := by
  rw [cell_of_row w b (1 + i * 2 + 1) _ _ (0, 0) h]; exact Qfq p i hi
theorem Qwe.below {w w' : World} {b B : Nat} {p : Pg} (h : Qwe w b p) (hb : Below B w w') (hB : b < B) : Qwe w' b p := (hb.block b hB).trans h
theorem Qwe.alloc {w : World} {b : Nat} {p : Pg} (h : Qwe w b p) (hb : b < w.heap.size) (o : Obj) : Qwe (w.alloc o) b p := h.below ((Below.refl w.heap.size w).alloc (Nat.le_refl _) o) hb
theorem load_page {b : Nat} {p : Pg} (x : World) (h : Qwe x b p) : (Instr.loadAt 93 (.pointer (some ⟨b, 0, none⟩))).run Try.prog x = .ok (.agg (pgA p)) x := by
  have h1 := run_loadVar_row (P := Try.prog) x b 93 93 (pgA p) (0, 0) _ h Try.underlying93 rfl (by show _ = some 17; kernel_rfl); simp only [Instr.loadAt, Instr.sureAddr, Sem.run_bind, Sem.run_pure, Result.andThen_ok, h1]
theorem Qwe.all {x : World} {b : Nat} {p : Pg} (h : Qwe x b p) : x.cell? ⟨b, 0, none⟩ = some (.int .u64 p.l) /\ x.cell? ⟨b, 1, none⟩ = some (.bool (p.u 0)) /\ x.cell? ⟨b, 2, none⟩ = some (.string (p.s 0)) /\ x.cell? ⟨b, 3, none⟩ = some (.bool (p.u 1)) /\ x.cell? ⟨b, 4, none⟩ = some (.string (p.s 1)) /\ x.cell? ⟨b, 5, none⟩ = some (.bool (p.u 2)) /\ x.cell? ⟨b, 6, none⟩ = some (.string (p.s 2)) /\ x.cell? ⟨b, 7, none⟩ = some (.bool (p.u 3)) /\ x.cell? ⟨b, 8, none⟩ = some (.string (p.s 3)) /\ x.cell? ⟨b, 9, none⟩ = some (.bool (p.u 4)) /\ x.cell? ⟨b, 10, none⟩ = some (.string (p.s 4)) /\ x.cell? ⟨b, 11, none⟩ = some (.bool (p.u 5)) /\ x.cell? ⟨b, 12, none⟩ = some (.string (p.s 5)) /\ x.cell? ⟨b, 13, none⟩ = some (.bool (p.u 6)) /\ x.cell? ⟨b, 14, none⟩ = some (.string (p.s 6)) /\ x.cell? ⟨b, 15, none⟩ = some (.bool (p.u 7)) /\ x.cell? ⟨b, 16, none⟩ = some (.string (p.s 7)) :=
  ⟨h.lsn, h.used 0 (by omega), h.val 0 (by omega), h.used 1 (by omega), h.val 1 (by omega), h.used 2 (by omega), h.val 2 (by omega), h.used 3 (by omega), h.val 3 (by omega), h.used 4 (by omega), h.val 4 (by omega), h.used 5 (by omega), h.val 5 (by omega), h.used 6 (by omega), h.val 6 (by omega), h.used 7 (by omega), h.val 7 (by omega)⟩
theorem pg_drew {w : World} {b : Nat} {p : Pg} (h : Qwe w b p) : Qwe w.drew b p := h
theorem res_page {fn : Func} {p u : Tmp} (h : fn.results = #[.cell p 93, .tmp u]) (tmps : Array Value) (w : World) (g : Nat) (q : Pg) (hp : tmps.getD p undef = .pointer (some ⟨g, 0, none⟩)) (hg : Qwe w g q) :
    (results fn tmps).run Try.prog w = .ok (.tuple #[.agg (pgA q), tmps.getD u undef]) w := by
  have h1 := run_loadVar_row (P := Try.prog) w g 93 93 (pgA q) (0, 0) _ hg Try.underlying93 rfl (by show _ = some 17; kernel_rfl); rw [results_cell_tmp h, hp]; simp only [asAddr, Sem.run_pure, Result.andThen_ok, h1]
theorem ne_list2 (s : ByteArray) (l : List UInt8) (h : l ≠ s.data.toList) : ((⟨l.toArray⟩ : ByteArray).toList == s.toList) = false := by
  rw [beq_eq_false_iff_ne]; intro e; apply h; have e1 : ∀ b : ByteArray, b.toList = b.data.toList := fun b => ByteArray.toList_eq b
  rw [e1, e1] at e; exact e
theorem pgA_one (q : Pg) : (pgA q).all (·.oneCell') = true := by simp [pgA, Value.oneCell']
theorem Qbu {ops : Array Oper} {rest : List Oper} {o : Oper} {a : Act} {w : World} {Q : Exit -> Act -> World -> Prop} (hgd : o.guard = none) (x y : Operand) (ho : o.op = .store 93 x y)
    (g : Nat) (q0 q : Pg) (hx : a.eval x = .pointer (some ⟨g, 0, none⟩)) (hy : a.eval y = .agg (pgA q)) (hg : Qwe w g q0)
    (h : ∀ w2, Qwe w2 g q -> (∀ B w0, Below B w0 w -> B <= g -> Below B w0 w2) -> wpList Try.prog ops Q rest (a.put o.dst undef) w2) : wpList Try.prog ops Q (o :: rest) a w := by
  have hi : (Try.prog.info? 93).map (·.size) = some (pgA q).size := by show _ = some 17; kernel_rfl
  refine wpList_store_row hgd 93 x y ho g (pgA q) hx hy 93 (pgA q0) hg hi rfl (pgA_one q) (h _ ?_ fun B w0 hb hB => ?_)
  · exact setRow_heap w g (pgA q0) (pgA q) 93 (0, 0) hg
  · exact ⟨hb.1, hb.2, hb.3, by simp [World.setRow]; exact hb.4, fun k hk => (setRow_other w g k _ (by omega)).trans (hb.5 k hk)⟩
theorem Qwe.free {w : World} {b : Nat} {p : Pg} (h : Qwe w b p) (j : Nat) : w.frozen? ⟨b, j, none⟩ = false := frozen_of_row w b j _ _ h
theorem Qwe.other {w : World} {b : Nat} {p : Pg} (h : Qwe w b p) (a : Addr) (v : Value) (hn : b ≠ a.block) : Qwe (w.setCell a v) b p := (heap_setCell_other w a b v hn).trans h
theorem Qcv {ops : Array Oper} {rest : List Oper} {o : Oper} {a : Act} {w : World} {Q : Exit -> Act -> World -> Prop} (hw : Region.wanted o (yielded ops a.tmps) = true) (x : Operand) (ho : o.op = .load 93 x)
    (g : Nat) (hx : a.eval x = .pointer (some ⟨g, 0, none⟩)) (q : Pg) (hg : Qwe w g q) (h : wpList Try.prog ops Q rest (a.put o.dst (.agg (pgA q))) w) : wpList Try.prog ops Q (o :: rest) a w :=
  wpList_step fun K hK => by
    simp only [hw, if_true]; exact wp_load_row 93 x ho g hx 93 (pgA q) (0, 0) _ hg Try.underlying93 rfl (by show _ = some 17; kernel_rfl) (hK _ _ h)
def ceA (u : Bool) (s : ByteArray) : Array Value := #[.bool u, .string s]
theorem infoCe : (Try.prog.info? 69).map (·.size) = some 2 := by kernel_rfl
theorem ceA_one (u : Bool) (s : ByteArray) : (ceA u s).all (·.oneCell') = true := by simp [ceA, Value.oneCell']
def csA (p : Pg) : Array Value := #[.bool (p.u 0), .string (p.s 0), .bool (p.u 1), .string (p.s 1), .bool (p.u 2), .string (p.s 2), .bool (p.u 3), .string (p.s 3), .bool (p.u 4), .string (p.s 4), .bool (p.u 5), .string (p.s 5), .bool (p.u 6), .string (p.s 6), .bool (p.u 7), .string (p.s 7)]
theorem infoCs : (Try.prog.info? 91).map (·.size) = some 16 := by kernel_rfl
theorem csA_one (p : Pg) : (csA p).all (·.oneCell') = true := by simp [csA, Value.oneCell']
theorem Qhr (p : Pg) : ((pgA p).extract 1 (1 + 16)).toList = (csA p).toList := by simp [pgA, csA]
theorem same_csA {p q : Pg} (h : p.same q) : csA p = csA q := by
  apply Array.ext'; rw [<- Qhr, <- Qhr, Qwi h]
theorem csA_len (p : Pg) : (Try.prog.info? 91).map (·.size) = some (csA p).toList.length := infoCs
theorem csA_used (p : Pg) (i : Nat) (h : i < 8) : (csA p)[i * 2]? = some (.bool (p.u i)) := by
  rcases lt8 h with rfl | rfl | rfl | rfl | rfl | rfl | rfl | rfl <;> rfl
theorem csA_val (p : Pg) (i : Nat) (h : i < 8) : (csA p)[i * 2 + 1]? = some (.string (p.s i)) := by
  rcases lt8 h with rfl | rfl | rfl | rfl | rfl | rfl | rfl | rfl <;> rfl
theorem load_cs {b : Nat} {p : Pg} (x : World) (h : Qwe x b p) : (Instr.loadAt 91 (.pointer (some ⟨b, 1, none⟩))).run Try.prog x = .ok (.agg (csA p)) x := by
  have hr := World.rangeAt_of_block h 1 16; rw [Qhr] at hr; have h1 := run_loadAt_mid (P := Try.prog) x b 1 91 _ _ hr Try.underlying91 rfl (csA_len p); rwa [Array.toArray_toList] at h1
theorem wpList_load_cs {ops : Array Oper} {rest : List Oper} {o : Oper} {a : Act} {w : World} {Q : Exit -> Act -> World -> Prop} (hw : Region.wanted o (yielded ops a.tmps) = true) (x : Operand) (ho : o.op = .load 91 x)
    (g : Nat) (hx : a.eval x = .pointer (some ⟨g, 1, none⟩)) (q : Pg) (hg : Qwe w g q) (h : wpList Try.prog ops Q rest (a.put o.dst (.agg (csA q))) w) : wpList Try.prog ops Q (o :: rest) a w :=
  wpList_step fun K hK => by
    simp only [hw, if_true]; unfold Oper.wp execOp; simp only [ho, hx, Sem.run_bind, load_cs w hg, Result.andThen_ok, Sem.run_pure]; exact hK _ _ h
theorem Qkp (p : Pg) (j : Nat) (hj : j < 8) (w : World) : (Instr.index 91 (.agg (csA p)) (.int .i64 (j : Int))).run Try.prog w = .ok (.agg (ceA (p.u j) (p.s j))) w := by
  rcases lt8 hj with rfl | rfl | rfl | rfl | rfl | rfl | rfl | rfl <;> kernel_rfl
theorem wpList_index_cs {ops : Array Oper} {rest : List Oper} {o : Oper} {a : Act} {w : World} {Q : Exit -> Act -> World -> Prop} (hw : Region.wanted o (yielded ops a.tmps) = true) (x y : Operand) (ho : o.op = .index 91 x y)
    (p : Pg) (j : Nat) (hj : j < 8) (hx : a.eval x = .agg (csA p)) (hy : a.eval y = .int .i64 (j : Int)) (h : wpList Try.prog ops Q rest (a.put o.dst (.agg (ceA (p.u j) (p.s j)))) w) : wpList Try.prog ops Q (o :: rest) a w :=
  wpList_step fun K hK => by
    simp only [hw, if_true]; unfold Oper.wp execOp; simp only [ho, hx, hy, Sem.run_bind, Qkp p j hj w, Result.andThen_ok, Sem.run_pure]; exact hK _ _ h
end Go.Proofs.Ytkgniegdefaieaa
set_option maxRecDepth 8000
set_option maxHeartbeats 25600000

namespace Go.Proofs.Ytkgniegdefaieaa
open Go.RowKit
set_option linter.unusedVariables false
def refE (u : Bool) (s : ByteArray) (c : Ch) : Int := if c.k = 1 then (if u = true then 6 else if s ≠ c.o then 2 else 0) else if u = false then 5 else if s ≠ c.o then 2 else 0
theorem ne_text {s t : ByteArray} (h : s ≠ t) : (s.toList == t.toList) = false := by
  rw [beq_eq_false_iff_ne]; intro h2; apply h; rw [ByteArray.toList_eq, ByteArray.toList_eq] at h2; rw [<- Qlh s, h2, Qlh]
theorem two_new (w : World) (A B : Array Value) (t t2 : TypeId) : Qa ((w.alloc (.cells A t)).alloc (.cells B t2)) w.heap.size t A /\ Qa ((w.alloc (.cells A t)).alloc (.cells B t2)) (w.heap.size + 1) t2 B /\ Below w.heap.size w ((w.alloc (.cells A t)).alloc (.cells B t2)) := by
  have e1 : (w.alloc (.cells A t)).heap.size = w.heap.size + 1 := by simp
  have b1 := (Below.refl w.heap.size w).alloc (Nat.le_refl _) (.cells A t); have b2 := (Below.refl _ (w.alloc (.cells A t))).alloc (Nat.le_refl _) (.cells B t2); refine ⟨(Qa.new w _ _).later b2, ?_, b1.trans (b2.mono (by omega))⟩; have h := Qa.new (w.alloc (.cells A t)) t2 B; rw [e1] at h; exact h
theorem run_append_new {α : Type} (f : α -> Array Value) (zz : α) (sz : Nat) (hf : ∀ x, (f x).size = sz) (hsz : 0 < sz) {P : Program} (w : World) (t ty e : TypeId) (z : Array Value) (by' : Nat) (ht : P.underlying t = some (.slice e))
    (hi : (P.info? e).map (fun i => (i.zero, i.size, i.bytes)) = some (some (.agg z), sz, by')) (hzs : z.size = sz) (vx : Value) (ms : List α) (hr : Qbd f zz sz w vx ms) (h1 : ∀ m ∈ ms, ∀ u ∈ (f m).toList, u.oneCell' = true) (hl : ms.length <= maxLen) (hb : ms.length * by' <= 140737488355328) :
    ∃ a c w', (Builtin.append_ #[t, t] ty #[.slice none 0 0, vx]).run P w = .ok (.slice a ms.length c) w' /\ w'.ownsRow w.heap.size e sz (.slice a ms.length c) ms.length (ms.flatMap fun m => (f m).toList) /\ w.grownBy w' none := by
  have hr' := hr; obtain ⟨a, cap, rfl, hc⟩ := hr'
  cases a with
  | none =>
    have hm : ms = [] := by
      rcases ms with _ | ⟨m, ms⟩
      · rfl
      · obtain ⟨b, off, h, _⟩ := hc (by simp); cases h
    subst hm; obtain ⟨i, hi0, hi1⟩ := Option.map_eq_some_iff.1 hi; refine ⟨none, 0, w, ?_, World.ownsRow_nil _ _ _ _, ⟨rfl, rfl, rfl, Nat.le_refl _, fun _ _ _ => rfl⟩⟩; simp [Builtin.append_, run_underlying ht, sizeOf, typeInfo, hi0, Builtin.lenOf, Builtin.firstCells]
  | some ad =>
    obtain ⟨v', w', r1, r2, r3⟩ := Qld f zz sz hf hsz (P := P) w w.heap.size t ty e z by' ht hi hzs (.slice none 0 0) 0 [] (World.ownsRow_nil _ _ _ _) (.slice (some ad) ms.length cap) ms hr (fun a len c h ha => by injection h with h1; rw [ha] at h1; cases h1) h1 (by rw [Nat.zero_add]; exact hl) (by rw [Nat.zero_add]; exact hb) (Nat.le_refl _)
    rw [Nat.zero_add, List.nil_append] at r2
    have hv : ∃ a c, v' = .slice a ms.length c := by
      rcases r2.2 with ⟨h2, h3⟩ | ⟨g, c, cur, h2, _⟩
      · exact ⟨none, 0, by rw [h2, h3]⟩
      · exact ⟨_, c, h2⟩
    obtain ⟨a, c, rfl⟩ := hv; exact ⟨a, c, w', r1, r2, r3⟩
theorem own_low {w : World} {base low n sz : Nat} {e : TypeId} {v : Value} {xs : List Value} (h : w.ownsRow base e sz v n xs) (hl : low <= base) : w.ownsRow low e sz v n xs := by
  refine ⟨h.1, ?_⟩
  rcases h.2 with h2 | ⟨g, c, cur, h2, h3, h4⟩
  · exact .inl h2
  · exact .inr ⟨g, c, cur, h2, Nat.le_trans hl h3, h4⟩
theorem grown_row {w x : World} (h : w.grownBy x none) {k : Nat} {t : TypeId} {cs : Array Value} (hr : Qa w k t cs) : Qa x k t cs := (h.block k hr.lt (by simp)).trans hr
theorem grown_below {w x : World} (h : w.grownBy x none) : Below w.heap.size w x := ⟨h.os, h.tape, h.output, h.size, fun k hk => h.block k hk (by simp)⟩
structure LogIn (w : World) (v : Value) (ms : List (Rec × Value × Value)) : Prop where
  rs : Qmi w v ms
  few : ms.length <= 1000
  cap : ∀ a len c, v = .slice a len c -> len <= c
theorem LogIn.below {w x : World} {v : Value} {ms : List (Rec × Value × Value)} (h : LogIn w v ms) (hb : Below w.heap.size w x) : LogIn x v ms := ⟨h.rs.below hb, h.few, h.cap⟩
theorem LogIn.slice {w : World} {v : Value} {ms : List (Rec × Value × Value)} (h : LogIn w v ms) : ∃ a c, v = .slice a ms.length c /\ ms.length <= c := by
  obtain ⟨⟨⟨a, c, rfl, -⟩, -⟩, _, h3⟩ := h; exact ⟨a, c, rfl, h3 _ _ _ rfl⟩
theorem Qcj {w : World} {r : Rec} {va vb : Value} (h : Qwb w r va vb) : (∃ a c, va = .slice a r.ts.length c) /\ ∃ a c, vb = .slice a r.ds.length c := by
  obtain ⟨⟨a1, c1, e1, _⟩, ⟨a2, c2, e2, _⟩⟩ := h; exact ⟨⟨a1, c1, e1⟩, a2, c2, e2⟩
theorem all15 {w : World} {m : Rec × Value × Value} (h : Qwb w m.1 m.2.1 m.2.2) : (rcF m).all (·.oneCell') = true := by
  obtain ⟨⟨a1, c1, h1⟩, a2, c2, h2⟩ := Qcj h; obtain ⟨r, va, vb⟩ := m; simp only at h1 h2; subst h1 h2; simp [rcF, rcA, Value.oneCell']
theorem LogIn.mid {w : World} {a : Option Addr} {len c : Nat} {ms : List (Rec × Value × Value)} (h : LogIn w (.slice a len c) ms) {i : Nat} (hi : i < ms.length) : ∃ b off, a = some ⟨b, off, none⟩ /\ (ms.getD i rcZ).1.fits /\ (ms.getD i rcZ).1 = (msR ms).getD i Rec.zero /\ ∀ x, Below w.heap.size w x -> x.rangeAt b (off + i * 14) (rcF (ms.getD i rcZ)).toList /\ Qwb x (ms.getD i rcZ).1 (ms.getD i rcZ).2.1 (ms.getD i rcZ).2.2 := by
  obtain ⟨b, off, h1, h2, h3, h4, h5⟩ := h.rs.at hi; exact ⟨b, off, h1, h4, (Qgg ms i).symm, fun x hx => ⟨Qtb h3 hx h2, h5.below hx⟩⟩
theorem Qka (ms : List (Rec × Value × Value)) : (msR ms).length = ms.length := by simp [msR]
theorem Qjw (ms : List (Rec × Value × Value)) (i : Nat) : msR (ms.take i) = (msR ms).take i := by simp [msR, List.map_take]
theorem Qzx {ms : List (Rec × Value × Value)} {i : Nat} (h : i < ms.length) : (ms.getD i rcZ).1 ∈ msR ms := by
  rw [<- Qgg]; exact Qja _ _ _ (by rw [Qka]; exact h)
theorem Qpp {α : Type} (xs : List α) (i : Nat) (z : α) (h : i < xs.length) : xs.take (i + 1) = xs.take i ++ [xs.getD i z] := by
  rw [List.take_add_one, List.getElem?_eq_getElem h, List.getD_eq_getElem?_getD, List.getElem?_eq_getElem h]; rfl
theorem Qfc {ms : List (Rec × Value × Value)} {i : Nat} (h : i < ms.length) : (msR ms).take (i + 1) = (msR ms).take i ++ [(ms.getD i rcZ).1] := by
  rw [Qpp _ i Rec.zero (by rw [Qka]; exact h), Qgg]
theorem Qwj : ∀ (l m : List Rec) (a : Nat), Qcb a (l ++ m) ↔ Qcb a l /\ Qcb (Qya a l) m
  | [], m, a => ⟨fun h => ⟨trivial, h⟩, fun h => h.2⟩
  | q :: l, m, a => by
    have ih := Qwj l m q.l
    constructor
    · rintro ⟨h1, h2, h3⟩; exact ⟨⟨h1, h2, (ih.1 h3).1⟩, (ih.1 h3).2⟩
    · rintro ⟨⟨h1, h2, h3⟩, h4⟩; exact ⟨h1, h2, ih.2 ⟨h3, h4⟩⟩
theorem Qsg (l : List Rec) (i : Nat) (h : Qcb 0 l) : Qcb 0 (l.take i) := by
  rw [<- List.take_append_drop i l] at h; exact ((Qwj _ _ _).1 h).1
theorem riseB_of {l : List Rec} (q : Bool) (h : q = true ↔ Qcb 0 l) : Qgf 0 l = q := by
  rw [Bool.eq_iff_iff, Qea]; exact h.symm
section
theorem RT.kind {w : World} {s : Sl} {l : List Tx} (h : RT w s l) {b : Nat} (hb : s.b = some b) : ∃ cs, Qa w b 42 cs := by
  rcases h with ⟨h1, _⟩ | ⟨b', cs, h1, h2, _⟩
  · rw [h1] at hb; cases hb
  · rw [h1] at hb; injection hb with hb; subst hb; exact ⟨cs, h2⟩
theorem RD.kind {w : World} {s : Sl} {l : List Di} (h : RD w s l) {b : Nat} (hb : s.b = some b) : ∃ cs, Qa w b 81 cs := by
  rcases h with ⟨h1, _⟩ | ⟨b', cs, h1, h2, _⟩
  · rw [h1] at hb; cases hb
  · rw [h1] at hb; injection hb with hb; subst hb; exact ⟨cs, h2⟩
theorem RT.not {w : World} {s : Sl} {l : List Tx} (h : RT w s l) {b : Nat} {t : TypeId} {cs : Array Value} (hr : Qa w b t cs) (ht : 42 ≠ t) : s.b ≠ some b := fun e => by
  obtain ⟨ds, h2⟩ := h.kind e; exact ht (Qti h2 hr)
theorem RD.not {w : World} {s : Sl} {l : List Di} (h : RD w s l) {b : Nat} {t : TypeId} {cs : Array Value} (hr : Qa w b t cs) (ht : 81 ≠ t) : s.b ≠ some b := fun e => by
  obtain ⟨ds, h2⟩ := h.kind e; exact ht (Qti h2 hr)
structure Tk (w x : World) (b0 b1 : Nat) (s1 s2 : Sl) (t : Ta) : Prop where
  r0 : Qa x b0 28 (taA (slV s1 t.1.length) (slV s2 t.2.length))
  r1 : Qa x b1 28 (taA (.slice none 0 0) (.slice none 0 0))
  ta : TaAt w x s1 s2 t.1 t.2
  lo : w.heap.size <= b0 /\ w.heap.size <= b1 /\ b0 ≠ b1
section
variable {w x y W : World} {b0 b1 : Nat} {s1 s2 s' : Sl} {t : Ta}
theorem Tk.later (h : Tk w x b0 b1 s1 s2 t) (hb : Below x.heap.size x y) : Tk w y b0 b1 s1 s2 t :=
  ⟨h.r0.later hb, h.r1.later hb, ⟨h.ta.t.later hb, h.ta.d.later hb, h.ta.n1, h.ta.n2, h.ta.bel.trans (hb.mono h.ta.bel.size)⟩, h.lo⟩
theorem Tk.store1 (h : Tk w x b0 b1 s1 s2 t) {m : List Tx} (hR : RT W s' m) (hT : Tn (ofS s1) x W) (hn : ∀ q, s'.b = some q -> s1.b = some q ∨ x.heap.size <= q) : Tk w (W.setCell ⟨b0, 0, none⟩ (slV s' m.length)) b0 b1 s' s2 (m, t.2) := by
  have q0 := hT.row h.r0 (h.ta.t.not h.r0 (by decide)); have q1 := hT.row h.r1 (h.ta.t.not h.r1 (by decide))
  have hD : RD W s2 t.2 := h.ta.d.turn hT (fun b hb e => by
    obtain ⟨cs, h1⟩ := h.ta.d.kind hb
    exact h.ta.t.not h1 (by decide) e)
  refine ⟨q0.set 0 _, q1.other _ _ (fun e => h.lo.2.2 e.symm), ⟨hR.keep (fun b hb => heap_setCell_other W _ _ _ (fun e => ?_)), hD.keep (fun b hb => heap_setCell_other W _ _ _ (fun e => ?_)), fun b hb => ?_, h.ta.n2, ?_⟩, h.lo⟩
  · have e' : b = b0 := e; rw [e'] at hb; exact hR.not q0 (by decide) hb
  · have e' : b = b0 := e; rw [e'] at hb; exact hD.not q0 (by decide) hb
  · rcases hn b hb with h1 | h1
    · exact h.ta.n1 b h1
    · exact Nat.le_trans h.ta.bel.size h1
  · exact (h.ta.bel.trans (hT.below (fun k hk => h.ta.n1 k hk) h.ta.bel.size)).setCell h.lo.1 _
theorem Tk.store2 (h : Tk w x b0 b1 s1 s2 t) {m : List Di} (hR : RD W s' m) (hT : Tn (ofS s2) x W) (hn : ∀ q, s'.b = some q -> s2.b = some q ∨ x.heap.size <= q) : Tk w (W.setCell ⟨b0, 1, none⟩ (slV s' m.length)) b0 b1 s1 s' (t.1, m) := by
  have q0 := hT.row h.r0 (h.ta.d.not h.r0 (by decide)); have q1 := hT.row h.r1 (h.ta.d.not h.r1 (by decide))
  have hD : RT W s1 t.1 := h.ta.t.turn hT (fun b hb e => by
    obtain ⟨cs, h1⟩ := h.ta.t.kind hb
    exact h.ta.d.not h1 (by decide) e)
  refine ⟨q0.set 1 _, q1.other _ _ (fun e => h.lo.2.2 e.symm), ⟨hD.keep (fun b hb => heap_setCell_other W _ _ _ (fun e => ?_)), hR.keep (fun b hb => heap_setCell_other W _ _ _ (fun e => ?_)), h.ta.n1, fun b hb => ?_, ?_⟩, h.lo⟩
  · have e' : b = b0 := e; rw [e'] at hb; exact hD.not q0 (by decide) hb
  · have e' : b = b0 := e; rw [e'] at hb; exact hR.not q0 (by decide) hb
  · rcases hn b hb with h1 | h1
    · exact h.ta.n2 b h1
    · exact Nat.le_trans h.ta.bel.size h1
  · exact (h.ta.bel.trans (hT.below (fun k hk => h.ta.n2 k hk) h.ta.bel.size)).setCell h.lo.1 _
end
theorem Qqg {x W : World} {s : Sl} {b b0 j : Nat} {cs ds : Array Value} {l : List Tx} (h : Qa x b 46 cs) (hR : RT x s l) (hT : Tn (ofS s) x W) (h0 : Qa x b0 28 ds) (v : Value) : Qa (W.setCell ⟨b0, j, none⟩ v) b 46 cs :=
  (hT.row h (hR.not h (by decide))).other _ _ (fun e => by
    have e' : b = b0 := e; rw [e'] at h
    exact absurd (Qti h h0) (by decide))
def TakenAns (w : World) (t : Ta) (e : Ending) (w' : World) : Prop := ∃ s1 s2, e = .returned (.agg (taA (slV s1 t.1.length) (slV s2 t.2.length))) /\ TaAt w w' s1 s2 t.1 t.2
theorem taken16 (w : World) (vT vD : Value) (T : List Tx) (D : List Di) (v : Value) (ms : List (Rec × Value × Value)) (hT : Qxb w vT T) (hD : Qxc w vD D) (ok : TaOk (T, D) 1000) (hl : LogIn w v ms) :
    Calls Try.prog 31 #[.agg (taA vT vD), v] w (TakenAns w (Qha (T, D) (msR ms))) := by
  obtain ⟨n1, n2, n3⟩ := Qtc w (taA vT vD) (taA (.slice none 0 0) (.slice none 0 0)) 28 28; obtain ⟨y, hy⟩ : ∃ y, y = (w.alloc (.cells (taA vT vD) 28)).alloc (.cells (taA (.slice none 0 0) (.slice none 0 0)) 28) := ⟨_, rfl⟩; rw [<- hy] at n1 n2 n3; obtain ⟨b0, hb0⟩ : ∃ b, b = w.heap.size := ⟨_, rfl⟩; obtain ⟨b1, hb1⟩ : ∃ b, b = w.heap.size + 1 := ⟨_, rfl⟩; rw [<- hb0] at n1; rw [<- hb1] at n2; have hlt := ok.lt; have hld := ok.ld; have HOW := Qb (own16 y vT vD T D (hT.below n3) (hD.below n3) (by show T.length <= _; have : T.length <= 1000 := hlt; omega) (by show D.length <= _; have : D.length <= 1000 := hld; omega)); have H0 : Hid (Qa y b0 28 (taA vT vD) /\ Qa y b1 28 (taA (.slice none 0 0) (.slice none 0 0)) /\ Below w.heap.size w y) := ⟨n1, n2, n3⟩; have HB := Qb (And.intro hb0 hb1); have HY := Qb hy; have HOK := Qb ok; have HL := Qb hl
  have hone : (taA vT vD).all (·.oneCell') = true := by
    obtain ⟨a1, c1, e1, _⟩ := hT; obtain ⟨a2, c2, e2, _⟩ := hD; rw [e1, e2]; simp [taA, Value.oneCell']
  obtain ⟨av, cv, rfl, hcap⟩ := hl.slice; have hfew := hl.few; obtain ⟨ln, hln⟩ : ∃ k, k = ms.length := ⟨_, rfl⟩; rw [<- hln] at HL hfew |-; have HLN := Qb hln; clear n1 n2 n3 hy hb0 hb1 hlt hld ok hl hT hD hcap hln; obtain ⟨tb, htb⟩ : ∃ t, t = taA vT vD := ⟨_, rfl⟩; have htz : tb.size = 2 := by rw [htb]; rfl
  rw [<- htb] at HY H0 HOW hone |-; have hinf : (Try.prog.info? 28).map (·.size) = some tb.size := by rw [htz]; exact Qde
  clear htb; go_enter Try.func31, Try.ntmps31; unfold taA at HY H0; go_wp2_with (with_reducible refine Qxa 7 rfl ?_); rw [<- HY.out, <- HB.out.2, <- HB.out.1]; refine Qg ?_; go_wp2_with (refine Qd rfl 28 (.tmp 2) rfl b0 rfl tb H0.out.1 _ Try.underlying28 rfl hinf ?_); refine HOW.out.mono ?_; rintro e w1 ⟨s1, s2, rfl, hta⟩; have hb1 : Below y.heap.size y w1 := hta.bel; have H1 : Hid (Qa w1 b0 28 tb /\ Qa w1 b1 28 (taA (.slice none 0 0) (.slice none 0 0)) /\ Below w.heap.size w w1 /\ TaAt y w1 s1 s2 T D) := ⟨H0.out.1.later hb1, H0.out.2.1.later hb1, H0.out.2.2.trans (hb1.mono H0.out.2.2.size), hta⟩; have HLY := Qb H0.out.2.2.size; clear hta hb1 H0 HOW HY; obtain ⟨ra, hra⟩ : ∃ t, t = taA (slV s1 T.length) (slV s2 D.length) := ⟨_, rfl⟩; rw [<- hra]; have hrz : tb.size = ra.size := by rw [htz, hra]; rfl
  have hri : (Try.prog.info? 28).map (·.size) = some ra.size := by rw [<- hrz]; exact hinf
  have hro : ra.all (·.oneCell') = true := by rw [hra]; simp [taA, slV, Value.oneCell']
  have HRA0 := Qb hra; clear hra; go_wp2_with (refine Qh rfl 28 (.tmp 2) (.tmp 8) rfl b0 tb ra rfl rfl H1.out.1 hri hrz hro ?_; intro w2 hr2 hk2 hrow2; refine Qpa ?_)
  have HTK : Hid (Tk w w2 b0 b1 s1 s2 (Qha (T, D) ((msR ms).take 0))) := by
    have hbl := hk2 w.heap.size w H1.out.2.2.1 (by have := HB.out.1; omega); have h1 := H1.out.2.2.2; rw [HRA0.out] at hr2
    have hs1 : ∀ b, s1.b = some b -> b ≠ b0 := fun b hb e => by
      have := h1.n1 b hb; have h9 := HLY.out; exact h1.t.not H1.out.1 (by decide) (by rw [<- e]; exact hb)
    have hs2 : ∀ b, s2.b = some b -> b ≠ b0 := fun b hb e => h1.d.not H1.out.1 (by decide) (by rw [<- e]; exact hb)
    refine ⟨hr2, hrow2 b1 _ _ (by have := HB.out; omega) H1.out.2.1, ⟨h1.t.keep (fun b hb => ?_), h1.d.keep (fun b hb => ?_), fun b hb => Nat.le_trans HLY.out (h1.n1 b hb), fun b hb => Nat.le_trans HLY.out (h1.n2 b hb), hbl⟩, by have := HB.out; omega⟩
    · obtain ⟨cs, h2⟩ := h1.t.kind hb; exact (hrow2 b _ _ (hs1 b hb) h2).trans h2.symm
    · obtain ⟨cs, h2⟩ := h1.d.kind hb; exact (hrow2 b _ _ (hs2 b hb) h2).trans h2.symm
  clear hr2 hk2 hrow2 HRA0 hrz hri hro H1 HLY hinf htz hone; refine Qg ?_; go_wp2; go_loopw [11] (fun i wr => ∃ j : Nat, j <= ln /\ i = .int .i64 (j : Int) /\ ∃ s1 s2, Hid (Tk w wr b0 b1 s1 s2 (Qha (T, D) ((msR ms).take j)))) (fun i _ => ln - (intOf i).toNat)
  case atStart => exact ⟨0, Nat.zero_le _, rfl, s1, s2, HTK⟩
  case round =>
    obtain ⟨j, hj, rfl, p1, p2, HJ⟩ := hrel; clear HTK
    by_cases hlt : j < ln
    · have i5 : (j : Int) < (ln : Int) := by omega
      have hjm : j < ms.length := by rw [<- HLN.out]; exact hlt
      obtain ⟨b, off, rfl, hf, he, hx⟩ := HL.out.mid hjm; have HNX := Qb (show Qha (T, D) ((msR ms).take (j + 1)) = Qe (Qha (T, D) ((msR ms).take j)) (ms.getD j rcZ).1 by rw [Qfc hjm, Qqe])
      have hokt : TaOk (Qha (T, D) ((msR ms).take j)) 2000 := by
        have h1 := HOK.out.takes ((msR ms).take j); have h2 : ((msR ms).take j).length <= 1000 := by rw [List.length_take, Qka]; omega
        exact ⟨h1.st, h1.sd, by have := h1.lt; omega, by have := h1.ld; omega⟩
      obtain ⟨t, ht⟩ : ∃ t, t = Qha (T, D) ((msR ms).take j) := ⟨_, rfl⟩; obtain ⟨m, hm⟩ : ∃ m, m = ms.getD j rcZ := ⟨_, rfl⟩; rw [<- ht] at HJ HNX hokt; rw [<- hm] at hf he hx HNX; have HT := Qb hokt; obtain ⟨hr0, hin⟩ := hx wr HJ.out.ta.bel; have HLD := Qb (Qmf wr b (off + j * 14) m hr0); have HALL := Qb (all15 hin); clear hjm hf he hx ht hm hokt hr0 hin; go_wp2_with (first | (refine Qt rfl 46 (.tmp 13) rfl _ _ rfl HLD.out ?_) | (refine Qh rfl 46 (.tmp 6) (.tmp 14) rfl wr.heap.size Qvc (rcF m) rfl rfl (Qa.new wr 46 Qvc) Qaa rfl HALL.out ?_; intro w5 hr5 hk5 hrow5; refine Qpa ?_)); have hba : Below wr.heap.size wr (wr.alloc (.cells Qvc 46)) := (Below.refl _ _).alloc (Nat.le_refl _) _
      have H5 : Hid (Tk w w5 b0 b1 p1 p2 t /\ Qa w5 wr.heap.size 46 (rcF m)) := by
        have h1 := HJ.out.later hba
        refine ⟨⟨hrow5 b0 _ _ (Nat.ne_of_lt HJ.out.r0.lt) h1.r0, hrow5 b1 _ _ (Nat.ne_of_lt HJ.out.r1.lt) h1.r1, ⟨h1.ta.t.keep (fun b hb => ?_), h1.ta.d.keep (fun b hb => ?_), h1.ta.n1, h1.ta.n2, hk5 _ _ h1.ta.bel HJ.out.ta.bel.size⟩, h1.lo⟩, hr5⟩
        · obtain ⟨cs, h2⟩ := h1.ta.t.kind hb; exact (hrow5 b _ _ (Nat.ne_of_lt (HJ.out.ta.t.lt hb)) h2).trans h2.symm
        · obtain ⟨cs, h2⟩ := h1.ta.d.kind hb; exact (hrow5 b _ _ (Nat.ne_of_lt (HJ.out.ta.d.lt hb)) h2).trans h2.symm
      obtain ⟨b6, hb6⟩ : ∃ q, q = wr.heap.size := ⟨_, rfl⟩; rw [<- hb6] at H5 |-; clear hr5 hk5 hrow5 hba hb6 HLD HJ; refine Qg ?_; have k0 := H5.out.2.cell 0 (.int .i64 m.1.k) rfl; have k2 := H5.out.2.cell 2 (.int .i64 m.1.t) rfl; obtain ⟨rk, hrk⟩ : ∃ k, k = m.1.k := ⟨_, rfl⟩; have HRK := Qb hrk; rw [<- hrk] at k0; clear hrk; obtain ⟨n1, hn1⟩ : ∃ n, n = t.1.length := ⟨_, rfl⟩; obtain ⟨a1, c1, hv1⟩ : ∃ a c, slV p1 t.1.length = .slice a n1 c := ⟨adr p1.b, p1.c, by rw [hn1]; rfl⟩; have k00 := H5.out.1.r0.cell 0 (slV p1 t.1.length) rfl; rw [hv1] at k00; have HV1 := Qb hv1; clear hv1 hn1
      by_cases hk7 : rk = 7
      · subst hk7; go_wp2; go_roundw
        case rel =>
          refine ⟨j + 1, by omega, by go_num, p1, p2, ?_⟩; rw [HNX.out]; unfold Qe; rw [if_pos (.inl HRK.out.symm)]; exact Qb H5.out.1
        case measure => simp [intOf] <;> omega
      by_cases hk8 : rk = 8
      · subst hk8; go_wp2; go_roundw
        case rel =>
          refine ⟨j + 1, by omega, by go_num, p1, p2, ?_⟩; rw [HNX.out]; unfold Qe; rw [if_pos (.inr HRK.out.symm)]; exact Qb H5.out.1
        case measure => simp [intOf] <;> omega
      by_cases hk5 : rk = 5
      · subst hk5
        have HNX2 : Hid (Qha (T, D) ((msR ms).take (j + 1)) = (Qba t.1 m.1.t, t.2)) := by
          show _ = _; rw [HNX.out]; unfold Qe; rw [if_neg (by have := HRK.out; omega), if_pos HRK.out.symm, if_neg (by have := HRK.out; omega)]
        have HW := Qb (without16 w5 p1 t.1 m.1.t H5.out.1.ta.t HT.out.st (by have := HT.out.lt; omega)); rw [HV1.out] at HW; clear HNX; go_wp2_with fail; refine HW.out.mono ?_; rintro e W ⟨rfl, hR, hTn⟩; obtain ⟨rs, hrs⟩ : ∃ rs, rs = Qba t.1 m.1.t := ⟨_, rfl⟩; rw [<- hrs] at hR HNX2 |-; clear hrs; obtain ⟨a2, c2, hv2⟩ : ∃ a c, slV p1 rs.length = .slice a rs.length c := ⟨adr p1.b, p1.c, rfl⟩; rw [hv2]
        have d0 : W.cell? ⟨b0, 0, none⟩ = some (.slice a1 n1 c1) := by
          have h1 := (hTn.row H5.out.1.r0 (H5.out.1.ta.t.not H5.out.1.r0 (by decide))).cell 0 (slV p1 t.1.length) rfl; rw [HV1.out] at h1; exact h1
        have f0 := (hTn.row H5.out.1.r0 (H5.out.1.ta.t.not H5.out.1.r0 (by decide))).free 0; have HTN := Qb (And.intro hR hTn); have HV2 := Qb hv2; clear hR hTn hv2 k00 k2 k0; go_wp2_with (with_reducible refine Qxa 34 rfl ?_); obtain ⟨z, hz⟩ : ∃ z, z = W.setCell ⟨b0, 0, none⟩ (.slice a2 rs.length c2) := ⟨_, rfl⟩
        have HZ : Hid (Tk w z b0 b1 p1 p2 (rs, t.2) /\ Qa z b6 46 (rcF m)) := by
          rw [hz, <- HV2.out]; exact ⟨H5.out.1.store1 HTN.out.1 HTN.out.2 (fun q hq => .inl hq), Qqg H5.out.2 H5.out.1.ta.t HTN.out.2 H5.out.1.r0 _⟩
        rw [<- hz]; clear hz HTN HV2 d0 f0 H5; have k0 := HZ.out.2.cell 0 (.int .i64 m.1.k) rfl; rw [<- HRK.out] at k0; refine Qg ?_; go_wp2; go_roundw
        case rel =>
          refine ⟨j + 1, by omega, by go_num, p1, p2, ?_⟩; rw [HNX2.out]; exact Qb HZ.out.1
        case measure => simp [intOf] <;> omega
      by_cases hk1 : rk = 1
      · subst hk1
        have HNX2 : Hid (Qha (T, D) ((msR ms).take (j + 1)) = (Qpb t.1 m.1, Qia t.2 m.1.c.pg m.1.l)) := by
          show _ = _; rw [HNX.out]; unfold Qe; rw [if_neg (by have := HRK.out; omega), if_neg (by have := HRK.out; omega), if_pos (.inl HRK.out.symm)]
        clear HNX; have HW := Qb (with16 w5 p1 t.1 m.1 m.2.1 m.2.2 H5.out.1.ta.t HT.out.st (by have := HT.out.lt; omega)); rw [HV1.out] at HW; rw [show rcA m.1 m.2.1 m.2.2 = rcF m from rfl] at HW; obtain ⟨rc, hrc⟩ : ∃ rc, rc = rcF m := ⟨_, rfl⟩; have HRC := Qb hrc; rw [<- hrc] at HW; have hrz : rc.size = 14 := by rw [hrc]; rfl
        have hri : (Try.prog.info? 46).map (·.size) = some rc.size := by rw [hrz]; exact Qaa
        clear hrc; go_wp2_with (refine Qd rfl 46 (.tmp 6) rfl b6 rfl rc (by rw [HRC.out]; exact H5.out.2) _ Try.underlying46 rfl hri ?_); refine HW.out.mono ?_; rintro e W ⟨s', rfl, hR, hTn, hnw⟩; have HNW := Qb hnw; obtain ⟨rs, hrs⟩ : ∃ rs, rs = Qpb t.1 m.1 := ⟨_, rfl⟩; rw [<- hrs] at hR HNX2 |-; clear hrs hnw HW; obtain ⟨a2, c2, hv2⟩ : ∃ a c, slV s' rs.length = .slice a rs.length c := ⟨adr s'.b, s'.c, rfl⟩; rw [hv2]
        have d0 : W.cell? ⟨b0, 0, none⟩ = some (.slice a1 n1 c1) := by
          have h1 := (hTn.row H5.out.1.r0 (H5.out.1.ta.t.not H5.out.1.r0 (by decide))).cell 0 (slV p1 t.1.length) rfl; rw [HV1.out] at h1; exact h1
        have f0 := (hTn.row H5.out.1.r0 (H5.out.1.ta.t.not H5.out.1.r0 (by decide))).free 0; have HTN := Qb (And.intro hR hTn); have HV2 := Qb hv2; clear hR hTn hv2 k00 k2 k0; go_wp2_with (with_reducible refine Qxa 34 rfl ?_); obtain ⟨z, hz⟩ : ∃ z, z = W.setCell ⟨b0, 0, none⟩ (.slice a2 rs.length c2) := ⟨_, rfl⟩
        have HZ : Hid (Tk w z b0 b1 s' p2 (rs, t.2) /\ Qa z b6 46 (rcF m)) := by
          rw [hz, <- HV2.out]; exact ⟨H5.out.1.store1 HTN.out.1 HTN.out.2 HNW.out, Qqg H5.out.2 H5.out.1.ta.t HTN.out.2 H5.out.1.r0 _⟩
        rw [<- hz]; clear hz HTN HV2 d0 f0 H5; have k0 := HZ.out.2.cell 0 (.int .i64 m.1.k) rfl; rw [<- HRK.out] at k0; refine Qg ?_; have HDI := Qb (Qko z p2 t.2 m.1 m.2.1 m.2.2 HZ.out.1.ta.d HT.out.sd (by have := HT.out.ld; omega)); obtain ⟨n2, hn2⟩ : ∃ n, n = t.2.length := ⟨_, rfl⟩; obtain ⟨a3, c3, hv3⟩ : ∃ a c, slV p2 t.2.length = .slice a n2 c := ⟨adr p2.b, p2.c, by rw [hn2]; rfl⟩; rw [hv3, show rcA m.1 m.2.1 m.2.2 = rc from HRC.out.symm] at HDI; have k01 := HZ.out.1.r0.cell 1 (slV p2 t.2.length) rfl; rw [hv3] at k01; have HV3 := Qb hv3; clear hv3 hn2; go_wp2_with (refine Qd rfl 46 (.tmp 6) rfl b6 rfl rc (by rw [HRC.out]; exact HZ.out.2) _ Try.underlying46 rfl hri ?_); refine HDI.out.mono ?_; rintro e W2 ⟨s2', rfl, hR2, hTn2, hnw2⟩; obtain ⟨rd, hrd⟩ : ∃ rd, rd = Qia t.2 m.1.c.pg m.1.l := ⟨_, rfl⟩; rw [<- hrd] at hR2 HNX2 |-; obtain ⟨a4, c4, hv4⟩ : ∃ a c, slV s2' rd.length = .slice a rd.length c := ⟨adr s2'.b, s2'.c, rfl⟩; rw [hv4]
        have d1 : W2.cell? ⟨b0, 1, none⟩ = some (.slice a3 n2 c3) := by
          have h1 := (hTn2.row HZ.out.1.r0 (HZ.out.1.ta.d.not HZ.out.1.r0 (by decide))).cell 1 (slV p2 t.2.length) rfl; rw [HV3.out] at h1; exact h1
        have f1 := (hTn2.row HZ.out.1.r0 (HZ.out.1.ta.d.not HZ.out.1.r0 (by decide))).free 1; have H9 := Qb (HZ.out.1.store2 hR2 hTn2 hnw2); rw [hv4] at H9; clear hrd hv4 hR2 hTn2 hnw2 HZ HDI k01 k0; go_wp2; go_roundw
        case rel =>
          refine ⟨j + 1, by omega, by go_num, s', s2', ?_⟩; rw [HNX2.out]; exact H9
        case measure => simp [intOf] <;> omega
      by_cases hk2 : rk = 2
      · subst hk2
        have HNX2 : Hid (Qha (T, D) ((msR ms).take (j + 1)) = (Qpb t.1 m.1, Qia t.2 m.1.c.pg m.1.l)) := by
          show _ = _; rw [HNX.out]; unfold Qe; rw [if_neg (by have := HRK.out; omega), if_neg (by have := HRK.out; omega), if_pos (.inr HRK.out.symm)]
        clear HNX; have HW := Qb (with16 w5 p1 t.1 m.1 m.2.1 m.2.2 H5.out.1.ta.t HT.out.st (by have := HT.out.lt; omega)); rw [HV1.out] at HW; rw [show rcA m.1 m.2.1 m.2.2 = rcF m from rfl] at HW; obtain ⟨rc, hrc⟩ : ∃ rc, rc = rcF m := ⟨_, rfl⟩; have HRC := Qb hrc; rw [<- hrc] at HW; have hrz : rc.size = 14 := by rw [hrc]; rfl
        have hri : (Try.prog.info? 46).map (·.size) = some rc.size := by rw [hrz]; exact Qaa
        clear hrc; go_wp2_with (refine Qd rfl 46 (.tmp 6) rfl b6 rfl rc (by rw [HRC.out]; exact H5.out.2) _ Try.underlying46 rfl hri ?_); refine HW.out.mono ?_; rintro e W ⟨s', rfl, hR, hTn, hnw⟩; have HNW := Qb hnw; obtain ⟨rs, hrs⟩ : ∃ rs, rs = Qpb t.1 m.1 := ⟨_, rfl⟩; rw [<- hrs] at hR HNX2 |-; clear hrs hnw HW; obtain ⟨a2, c2, hv2⟩ : ∃ a c, slV s' rs.length = .slice a rs.length c := ⟨adr s'.b, s'.c, rfl⟩; rw [hv2]
        have d0 : W.cell? ⟨b0, 0, none⟩ = some (.slice a1 n1 c1) := by
          have h1 := (hTn.row H5.out.1.r0 (H5.out.1.ta.t.not H5.out.1.r0 (by decide))).cell 0 (slV p1 t.1.length) rfl; rw [HV1.out] at h1; exact h1
        have f0 := (hTn.row H5.out.1.r0 (H5.out.1.ta.t.not H5.out.1.r0 (by decide))).free 0; have HTN := Qb (And.intro hR hTn); have HV2 := Qb hv2; clear hR hTn hv2 k00 k2 k0; go_wp2_with (with_reducible refine Qxa 34 rfl ?_); obtain ⟨z, hz⟩ : ∃ z, z = W.setCell ⟨b0, 0, none⟩ (.slice a2 rs.length c2) := ⟨_, rfl⟩
        have HZ : Hid (Tk w z b0 b1 s' p2 (rs, t.2) /\ Qa z b6 46 (rcF m)) := by
          rw [hz, <- HV2.out]; exact ⟨H5.out.1.store1 HTN.out.1 HTN.out.2 HNW.out, Qqg H5.out.2 H5.out.1.ta.t HTN.out.2 H5.out.1.r0 _⟩
        rw [<- hz]; clear hz HTN HV2 d0 f0 H5; have k0 := HZ.out.2.cell 0 (.int .i64 m.1.k) rfl; rw [<- HRK.out] at k0; refine Qg ?_; have HDI := Qb (Qko z p2 t.2 m.1 m.2.1 m.2.2 HZ.out.1.ta.d HT.out.sd (by have := HT.out.ld; omega)); obtain ⟨n2, hn2⟩ : ∃ n, n = t.2.length := ⟨_, rfl⟩; obtain ⟨a3, c3, hv3⟩ : ∃ a c, slV p2 t.2.length = .slice a n2 c := ⟨adr p2.b, p2.c, by rw [hn2]; rfl⟩; rw [hv3, show rcA m.1 m.2.1 m.2.2 = rc from HRC.out.symm] at HDI; have k01 := HZ.out.1.r0.cell 1 (slV p2 t.2.length) rfl; rw [hv3] at k01; have HV3 := Qb hv3; clear hv3 hn2; go_wp2_with (refine Qd rfl 46 (.tmp 6) rfl b6 rfl rc (by rw [HRC.out]; exact HZ.out.2) _ Try.underlying46 rfl hri ?_); refine HDI.out.mono ?_; rintro e W2 ⟨s2', rfl, hR2, hTn2, hnw2⟩; obtain ⟨rd, hrd⟩ : ∃ rd, rd = Qia t.2 m.1.c.pg m.1.l := ⟨_, rfl⟩; rw [<- hrd] at hR2 HNX2 |-; obtain ⟨a4, c4, hv4⟩ : ∃ a c, slV s2' rd.length = .slice a rd.length c := ⟨adr s2'.b, s2'.c, rfl⟩; rw [hv4]
        have d1 : W2.cell? ⟨b0, 1, none⟩ = some (.slice a3 n2 c3) := by
          have h1 := (hTn2.row HZ.out.1.r0 (HZ.out.1.ta.d.not HZ.out.1.r0 (by decide))).cell 1 (slV p2 t.2.length) rfl; rw [HV3.out] at h1; exact h1
        have f1 := (hTn2.row HZ.out.1.r0 (HZ.out.1.ta.d.not HZ.out.1.r0 (by decide))).free 1; have H9 := Qb (HZ.out.1.store2 hR2 hTn2 hnw2); rw [hv4] at H9; clear hrd hv4 hR2 hTn2 hnw2 HZ HDI k01 k0; go_wp2; go_roundw
        case rel =>
          refine ⟨j + 1, by omega, by go_num, s', s2', ?_⟩; rw [HNX2.out]; exact H9
        case measure => simp [intOf] <;> omega
      have HNX2 : Hid (Qha (T, D) ((msR ms).take (j + 1)) = (Qpb t.1 m.1, t.2)) := by
        show _ = _; rw [HNX.out]; unfold Qe; rw [if_neg (by have := HRK.out; omega), if_neg (by have := HRK.out; omega), if_neg (by have := HRK.out; omega)]
      clear HNX; have e7 : (rk == 7) = false := by simpa using hk7
      have e8 : (rk == 8) = false := by simpa using hk8
      have e5 : (rk == 5) = false := by simpa using hk5
      have e1 : (rk == 1) = false := by simpa using hk1
      have e2 : (rk == 2) = false := by simpa using hk2
      have HW := Qb (with16 w5 p1 t.1 m.1 m.2.1 m.2.2 H5.out.1.ta.t HT.out.st (by have := HT.out.lt; omega)); rw [HV1.out] at HW; rw [show rcA m.1 m.2.1 m.2.2 = rcF m from rfl] at HW; obtain ⟨rc, hrc⟩ : ∃ rc, rc = rcF m := ⟨_, rfl⟩; have HRC := Qb hrc; rw [<- hrc] at HW; have hrz : rc.size = 14 := by rw [hrc]; rfl
      have hri : (Try.prog.info? 46).map (·.size) = some rc.size := by rw [hrz]; exact Qaa
      clear hrc; go_wp2_with (refine Qd rfl 46 (.tmp 6) rfl b6 rfl rc (by rw [HRC.out]; exact H5.out.2) _ Try.underlying46 rfl hri ?_); refine HW.out.mono ?_; rintro e W ⟨s', rfl, hR, hTn, hnw⟩; have HNW := Qb hnw; obtain ⟨rs, hrs⟩ : ∃ rs, rs = Qpb t.1 m.1 := ⟨_, rfl⟩; rw [<- hrs] at hR HNX2 |-; clear hrs hnw HW; obtain ⟨a2, c2, hv2⟩ : ∃ a c, slV s' rs.length = .slice a rs.length c := ⟨adr s'.b, s'.c, rfl⟩; rw [hv2]
      have d0 : W.cell? ⟨b0, 0, none⟩ = some (.slice a1 n1 c1) := by
        have h1 := (hTn.row H5.out.1.r0 (H5.out.1.ta.t.not H5.out.1.r0 (by decide))).cell 0 (slV p1 t.1.length) rfl; rw [HV1.out] at h1; exact h1
      have f0 := (hTn.row H5.out.1.r0 (H5.out.1.ta.t.not H5.out.1.r0 (by decide))).free 0; have HTN := Qb (And.intro hR hTn); have HV2 := Qb hv2; clear hR hTn hv2 k00 k2 k0; go_wp2_with (with_reducible refine Qxa 34 rfl ?_); obtain ⟨z, hz⟩ : ∃ z, z = W.setCell ⟨b0, 0, none⟩ (.slice a2 rs.length c2) := ⟨_, rfl⟩
      have HZ : Hid (Tk w z b0 b1 s' p2 (rs, t.2) /\ Qa z b6 46 (rcF m)) := by
        rw [hz, <- HV2.out]; exact ⟨H5.out.1.store1 HTN.out.1 HTN.out.2 HNW.out, Qqg H5.out.2 H5.out.1.ta.t HTN.out.2 H5.out.1.r0 _⟩
      rw [<- hz]; clear hz HTN HV2 d0 f0 H5; have k0 := HZ.out.2.cell 0 (.int .i64 m.1.k) rfl; rw [<- HRK.out] at k0; refine Qg ?_; go_wp2; go_roundw
      case rel =>
        refine ⟨j + 1, by omega, by go_num, s', p2, ?_⟩; rw [HNX2.out]; exact Qb HZ.out.1
      case measure => simp [intOf] <;> omega
    · have hjl : j = ln := by omega
      have HE : Hid (Tk w wr b0 b1 p1 p2 (Qha (T, D) (msR ms))) := by
        have h1 := HJ.out; rw [show j = (msR ms).length by rw [Qka, <- HLN.out]; omega, List.take_length] at h1; exact h1
      have i5 : ¬ (j : Int) < (ln : Int) := by omega
      clear HJ; obtain ⟨R, hR⟩ : ∃ R, R = Qha (T, D) (msR ms) := ⟨_, rfl⟩; rw [<- hR] at HE |-; obtain ⟨ra, hra⟩ : ∃ t, t = taA (slV p1 R.1.length) (slV p2 R.2.length) := ⟨_, rfl⟩; have hrz : (taA (.slice none 0 0) (.slice none 0 0)).size = ra.size := by rw [hra]; rfl
      have hri : (Try.prog.info? 28).map (·.size) = some ra.size := by rw [<- hrz]; exact Qde
      have hro : ra.all (·.oneCell') = true := by rw [hra]; simp [taA, slV, Value.oneCell']
      have HRA := Qb hra; have h0 := HE.out.r0; rw [<- hra] at h0; have H0 := Qb h0; have HRR := Qb hR; clear hra h0 hR; go_wp2_with (first | (refine Qd rfl 28 (.tmp 2) rfl b0 rfl ra H0.out _ Try.underlying28 rfl hri ?_) | (refine Qh rfl 28 (.tmp 4) (.tmp 47) rfl b1 (taA (.slice none 0 0) (.slice none 0 0)) ra rfl rfl HE.out.r1 hri hrz hro ?_; intro w5 hr5 hk5 hrow5; refine Qpa ?_)); have hbl := hk5 w.heap.size w HE.out.ta.bel HE.out.lo.2.1
      have HF : Hid (Qa w5 b1 28 ra /\ TaAt w w5 p1 p2 R.1 R.2) := by
        refine ⟨hr5, HE.out.ta.t.keep (fun b hb => ?_), HE.out.ta.d.keep (fun b hb => ?_), HE.out.ta.n1, HE.out.ta.n2, hbl⟩
        · obtain ⟨cs, h2⟩ := HE.out.ta.t.kind hb; exact (hrow5 b _ _ (fun e => HE.out.ta.t.not HE.out.r1 (by decide) (by rw [<- e]; exact hb)) h2).trans h2.symm
        · obtain ⟨cs, h2⟩ := HE.out.ta.d.kind hb; exact (hrow5 b _ _ (fun e => HE.out.ta.d.not HE.out.r1 (by decide) (by rw [<- e]; exact hb)) h2).trans h2.symm
      clear hr5 hk5 hrow5 hbl HE H0; refine Qg ?_; go_wp2; exact bodyPost_ret (Qdb rfl _ _ b1 ra _ rfl HF.out.1 Try.underlying28 rfl hri) rfl ⟨p1, p2, by rw [HRA.out, HRR.out], by rw [<- HRR.out]; exact HF.out.2⟩
end
theorem RT.rows {w : World} {s : Sl} {l : List Tx} (h : RT w s l) : Qxb w (slV s l.length) l := by
  refine ⟨adr s.b, s.c, rfl, fun hl => ?_⟩
  have hget : ∀ i, i < l.length -> l[i]? = some (l.getD i Tx.zero) := fun i hi => by
    rw [List.getD_eq_getElem?_getD, List.getElem?_eq_getElem hi]; rfl
  obtain ⟨b, hb, hlt, _⟩ := h.at (hget 0 hl); refine ⟨b, 0, by rw [hb]; rfl, hlt, fun i hi => ?_⟩; obtain ⟨b', hb', _, hc⟩ := h.at (hget i hi); rw [hb] at hb'; injection hb' with hb'; subst hb'; intro j u hu
  have hj : j < 5 := by
    have h5 := (List.getElem?_eq_some_iff.1 hu).1; exact h5
  have h6 := hc j u hj hu; rw [Nat.zero_add]; exact h6
theorem RD.rows {w : World} {s : Sl} {l : List Di} (h : RD w s l) : Qxc w (slV s l.length) l := by
  refine ⟨adr s.b, s.c, rfl, fun hl => ?_⟩
  have hget : ∀ i, i < l.length -> l[i]? = some (l.getD i Di.zero) := fun i hi => by
    rw [List.getD_eq_getElem?_getD, List.getElem?_eq_getElem hi]; rfl
  obtain ⟨b, hb, hlt, _⟩ := h.at (hget 0 hl); refine ⟨b, 0, by rw [hb]; rfl, hlt, fun i hi => ?_⟩; obtain ⟨b', hb', _, hc⟩ := h.at (hget i hi); rw [hb] at hb'; injection hb' with hb'; subst hb'; intro j u hu
  have hj : j < 2 := by
    have h5 := (List.getElem?_eq_some_iff.1 hu).1; exact h5
  have h6 := hc j u hj hu; rw [Nat.zero_add]; exact h6
section
def toldRet {α : Type} (n : Nat) (Kp : World -> World -> Prop) (I Ix : List α -> World -> Prop) (pre : List α) (x : α) (W : World) : Exit -> Act -> World -> Prop
  | .normal, _, W' => KeepsFrom n W W' /\ Kp W W' /\ I (pre ++ [x]) W'
  | .ret, _, W' => KeepsFrom n W W' /\ Ix pre W'
  | _, _, _ => False
variable {F : Fence} {n : Nat} {P : Program}
theorem Qtk {α : Type} {g : Operand} {ps : Array Tmp} {assign body : Code} {Q : Exit -> Act -> World -> Prop} {a : Act} {w : World} (hro : F.round = none) (h1 : 1 <= n)
    {gf : Nat} {lb : Array Value} (hg : a.eval g = .func (.func gf) #[] lb) (hFg : F.fn gf) (eg : ∀ args w, (callFunc gf args).run P w = .ok (.enter gf args) w)
    (encs : α -> Array Value) (hps : ∀ x, (encs x).size = ps.size)
    (G : List α -> α -> World -> Prop) (E : List α -> World -> Prop) (Kp : World -> World -> Prop) (I Ix : List α -> World -> Prop) (Ac : List α -> α -> Act -> World -> Prop)
    (kr : ∀ A B C, Kp A B -> Hush w.heap.size B C -> Kp A C) (kk : ∀ A B C, Kp A B -> Kp B C -> Kp A C)
    (ci : ∀ s A B, Hush w.heap.size A B -> I s A -> I s B) (cx : ∀ s A B, Hush w.heap.size A B -> Ix s A -> Ix s B) (ca : ∀ s x c A B, Hush w.heap.size A B -> Ac s x c A -> Ac s x c B)
    (hseq : ∀ (l : Nat) (J Jx : List α -> World -> Prop) (W : World), Below w.heap.size w W -> (∀ s A B, Below A.heap.size A B -> J s A -> J s B) ->
      (∀ pre x A, J pre A -> G pre x A -> YieldAt F (n - 1 - 1) P l (encs x) A fun e B => (e = .returned (.bool true) /\ J (pre ++ [x]) B /\ Kp A B) ∨ (e = .returned (.bool false) /\ Jx pre B)) -> J [] W ->
      CallsIn F (n - 1) P gf (#[.func (.yield l) #[] #[]] ++ lb) W fun e B => (∃ v, e = .returned v) /\ ((∃ xs, E xs B /\ J xs B) ∨ (∃ pre, Jx pre B)))
    (h0 : I [] w)
    (ce : ∀ s A B, Hush w.heap.size A B -> E s A -> E s B)
    (hassign : ∀ (l : Nat) (pre : List α) (x : α) (W : World) (K : Act -> World -> Prop), I pre W -> G pre x W -> (∀ c W', KeepsFrom w.heap.size W W' -> Kp W W' -> Ac pre x c W' -> K c W') ->
      assign.wpIn (F.inRound l) (n - 1 - 1) P (Exit.then K (fun _ _ _ => False)) { tmps := (ps.zip (encs x)).foldl (fun t (p, v) => t.setIfInBounds p v) a.tmps, defers := [] } W)
    (hbody : ∀ (l : Nat) (pre : List α) (x : α) (c : Act) (W : World), Ac pre x c W -> body.wpIn (F.inRound l) (n - 1 - 1) P (toldRet w.heap.size Kp I Ix pre x W) c W)
    (hdone : ∀ (D : Nat) (xs : List α) (W : World), w.heap.size <= D -> E xs W -> I xs W -> W.heap[D]? = some (.deferred (some [])) -> Q .normal { a with defers := { target := .collected D, args := #[] } :: a.defers } W)
    (hstop : ∀ (D : Nat) (pre : List α) (W : World), w.heap.size <= D -> Ix pre W -> W.heap[D]? = some (.deferred (some [])) -> (Code.ret).wpIn F n P Q { a with defers := { target := .collected D, args := #[] } :: a.defers } W) :
    (Code.rangeFunc g ps assign body).wpIn F n P Q a w := by
  refine wpIn_rangeFunc fun fn hfn => ?_
  rw [hro]; generalize hd : w.heap.size = d at *; let R : LoopState -> Option Code -> Obj := fun s p => .loop { state := s, pending := p, fn := fn, tmps := a.tmps, params := ps, assign := assign, body := body, defers := d }
  let Z : Obj := .deferred (some []); have sz1 : (w.alloc Z).heap.size = d + 1 := by rw [World.size_alloc, hd]
  have bel : Below d w ((w.alloc Z).alloc (R .ready none)) := by
    have h := ((Below.refl w.heap.size w).alloc (Nat.le_refl _) Z).alloc (by rw [sz1]; omega) (R .ready none); rwa [hd] at h
  have atL : ((w.alloc Z).alloc (R .ready none)).heap[d + 1]? = some (R .ready none) := by
    have h := World.alloc_heap_new (w.alloc Z) (R .ready none); rwa [sz1] at h
  have atD : ((w.alloc Z).alloc (R .ready none)).heap[d]? = some Z := by
    have h := World.alloc_heap_new w Z; rw [hd] at h; exact (Below.heap_alloc _ _ _ (by rw [sz1]; omega)).trans h
  have ent : (Instr.enterLoop fn a.tmps ps assign body none).run P w = .ok (d + 1, [{ target := .collected d, args := #[] }]) ((w.alloc Z).alloc (R .ready none)) := by
    have h := run_enterLoop_outer (P := P) (w := w) fn a.tmps ps assign body; rw [hd] at h; exact h
  have calm : Hush d w ((w.alloc Z).alloc (R .ready none)) := Hush.of_below (by rw [hd]; exact bel) (by omega)
  refine ⟨d + 1, _, (w.alloc Z).alloc (R .ready none), { target := .fn (.func gf) lb, args := #[.func (.yield (d + 1)) #[] #[]] }, (w.alloc Z).alloc (R .ready none), gf, #[.func (.yield (d + 1)) #[] #[]] ++ lb, (w.alloc Z).alloc (R .ready none), ent, ?_, ?_, ?_, fun _ => h1, ?_⟩
  · simp only [resolve, hg]; simp [go_sem]
  · intro f' hf'; simp [Target.leads] at hf'; subst hf'; exact hFg
  · simp [invoke, go_sem, eg]
  generalize (w.alloc Z).alloc (R .ready none) = W1 at *
  refine (hseq (d + 1) (fun s A => I s A /\ A.heap[d + 1]? = some (R .ready none) /\ A.heap[d]? = some Z) (fun s A => Ix s A /\ A.heap[d + 1]? = some (R .done (some .ret)) /\ A.heap[d]? = some Z) W1 bel ?_ ?_ ⟨ci _ _ _ calm h0, atL, atD⟩).mono ?_
  · rintro s A B hb ⟨hi, hl, hz⟩; have lt1 := (Array.getElem?_eq_some_iff.1 hl).1; exact ⟨ci _ _ _ (Hush.of_below hb (by omega)) hi, (hb.block _ lt1).trans hl, (hb.block _ (by omega)).trans hz⟩
  · rintro pre x A ⟨hi, hl, hz⟩ hgx; refine ⟨fn, _, assign, body, run_yield (P := P) (args := encs x) hl (hps x), roundIn_of_wpIn hfn (hassign _ pre x A _ hi hgx fun c A1 k1 q1 ha1 => ?_)⟩; have hl1 := k1.same _ _ (by omega) hl rfl; have hz1 := k1.same _ _ (Nat.le_refl _) hz rfl; refine ⟨_, run_beginRound hl1 rfl, ?_⟩; have c1 : Hush d A1 (A1.putObj (d + 1) (R .busy none)) := Hush.put _ (by omega) hl1 rfl; have hl2 : (A1.putObj (d + 1) (R .busy none)).heap[d + 1]? = some (R .busy none) := World.putObj_heap_same (Array.getElem?_eq_some_iff.1 hl1).1; have hz2 : (A1.putObj (d + 1) (R .busy none)).heap[d]? = some Z := (World.putObj_heap_other (by omega)).trans hz1; refine wpIn_mono (hbody (d + 1) pre x c _ (ca _ _ _ _ _ c1 ha1)) ?_; rintro e c3 A3 hp
    cases e with
    | normal =>
      obtain ⟨k3, q3, i3⟩ := hp; have hl3 := k3.same _ _ (by omega) hl2 rfl; have c3' : Hush d A3 (A3.putObj (d + 1) (R .ready none)) := Hush.put _ (by omega) hl3 rfl; refine ⟨_, _, run_endRound (P := P) none hl3, .inl ⟨rfl, ⟨ci _ _ _ c3' i3, World.putObj_heap_same (Array.getElem?_eq_some_iff.1 hl3).1, (World.putObj_heap_other (by omega)).trans (k3.same _ _ (Nat.le_refl _) hz2 rfl)⟩, ?_⟩⟩; exact kr _ _ _ (kk _ _ _ (kr _ _ _ q1 c1) q3) c3'
    | ret =>
      obtain ⟨k3, i3⟩ := hp; have hl3 := k3.same _ _ (by omega) hl2 rfl; have c3' : Hush d A3 (A3.putObj (d + 1) (R .done (some .ret))) := Hush.put _ (by omega) hl3 rfl; exact ⟨_, _, run_endRound (P := P) (some .ret) hl3, .inr ⟨rfl, cx _ _ _ c3' i3, World.putObj_heap_same (Array.getElem?_eq_some_iff.1 hl3).1, (World.putObj_heap_other (by omega)).trans (k3.same _ _ (Nat.le_refl _) hz2 rfl)⟩⟩
    | exit i => exact hp.elim
    | goto t => exact hp.elim
    | panic ch => exact hp.elim
    | outgrown => exact hp.elim
  · rintro e A ⟨⟨v, rfl⟩, (⟨xs, hE, hi, hl, hz⟩ | ⟨pre, hi, hl, hz⟩)⟩
    · have c3 : Hush d A (A.putObj (d + 1) (R .exhausted none)) := Hush.put _ (by omega) hl rfl; exact ⟨none, _, run_endLoop (P := P) hl (by simp), hdone d xs _ (Nat.le_refl _) (ce _ _ _ c3 hE) (ci _ _ _ c3 hi) ((World.putObj_heap_other (by omega)).trans hz)⟩
    · have c3 : Hush d A (A.putObj (d + 1) (R .exhausted (some .ret))) := Hush.put _ (by omega) hl rfl; exact ⟨some .ret, _, run_endLoop (P := P) hl (by simp), hstop d pre _ (Nat.le_refl _) (cx _ _ _ c3 hi) ((World.putObj_heap_other (by omega)).trans hz)⟩
end
section
open Go.RowKit Go.Shelf
attribute [local go_sem] Oper.semAt_some
section
variable {F : Fence} {n : Nat} {P : Program} {ops : Array Oper} {rest : List Oper} {o : Oper} {a : Act} {w : World} {Q : Exit -> Act -> World -> Prop}
theorem Qnh (hw : Region.wanted o (yielded ops a.tmps) = true) (t : TypeId) (x : Operand) (ho : o.op = .load t x) (u v : Value) (hu : a.eval x = u) (hv : (Instr.loadAt t u).run P w = .ok v w)
    (h : wpListIn F n P ops Q rest (a.put o.dst v) w) : wpListIn F n P ops Q (o :: rest) a w :=
  wpListIn_step fun K hK => by
    simp only [hw, if_true]; unfold Oper.wpIn
    refine ⟨?_, ?_⟩
    · simp [Oper.about, ho]
    · rw [Oper.semAt_plain F _ _ (by rw [ho]; intro c hc; cases hc)]; unfold execOp; simp only [ho, hu, Sem.run_bind, hv, Result.andThen_ok, Sem.run_pure]; exact hK _ _ h
end
def Qvr (ms : List (Rec × Value × Value)) (k : Nat) : Array Value := #[.int .i64 (k : Int), .agg (rcF (ms.getD k rcZ))]
set_option maxRecDepth 100000 in
theorem back16 (l n gb ln : Nat) (a : Option Addr) (cap : Nat) (ms : List (Rec × Value × Value)) (w : World) (hn : 1 <= n) (J Jx : List Nat -> World -> Prop) (hln : ln = ms.length)
    (hJ : ∀ s A B, Below A.heap.size A B -> J s A -> J s B)
    (hY : ∀ pre x A, J pre A -> x + 1 + pre.length = ln -> YieldAt Fence.wide (n - 1) Try.prog l (Qvr ms x) A fun e B => (e = .returned (.bool true) /\ J (pre ++ [x]) B /\ Below w.heap.size A B) ∨ (e = .returned (.bool false) /\ Jx pre B))
    (W : World) (hL : LogIn w (.slice a ln cap) ms) (hW : Below w.heap.size w W) (hbox : Qa w gb 22 #[.slice a ln cap]) (h0 : J [] W) :
    CallsIn Fence.wide n Try.prog 64 #[.func (.yield l) #[] #[], .pointer (some ⟨gb, 0, none⟩)] W fun e B => (∃ v, e = .returned v) /\ ((∃ xs, xs.length = ln /\ J xs B) ∨ (∃ pre, Jx pre B)) := by
  have HJ := Qb hJ; have HY := Qb hY; have HL := Qb hL; have HLN := Qb hln; have HBX := Qb hbox; have hfew := hL.few; rw [<- hln] at hfew; have HW := Qb hW; have hcb := (hbox.later hW).cell 0 (.slice a ln cap) rfl; clear hJ hY hL hW hbox hln; refine callsIn_of_wp Try.func64 rfl trivial ?_ rfl; simp only [Try.ntmps64, List.size_toArray, List.length_cons, List.length_nil, Nat.reduceAdd, Nat.reduceSub, Array.replicate_succ, Array.replicate_zero, List.push_toArray, List.append_toArray, List.nil_append, List.cons_append]; gi_wp2; gi_loopw [3] (fun i wr => ∃ (pre : List Nat) (j : Nat), i = .int .i64 ((j : Int) - 1) /\ Hid (j + pre.length = ln) /\ j <= ln /\ Hid (J pre wr /\ Below w.heap.size w wr)) (fun i _ => (intOf i + 1).toNat)
  case atStart => exact ⟨[], ln, rfl, rfl, Nat.le_refl _, h0, HW.out⟩
  case round =>
    obtain ⟨pre, j, rfl, HPJ, hj, HST⟩ := hrel; clear h0 hcb; have c0 := (HBX.out.later HST.out.2).cell 0 (.slice a ln cap) rfl
    cases j with
    | zero =>
      have i0 : ¬ (0 : Int) <= ((0 : Nat) : Int) - 1 := by omega
      gi_wp2; refine bodyPost_end (results_none rfl _ _ _) rfl ?_; exact ⟨⟨_, rfl⟩, .inl ⟨pre, by have := HPJ.out; omega, HST.out.1⟩⟩
    | succ j =>
      have hjm : j < ms.length := by rw [<- HLN.out]; omega
      obtain ⟨b, off, rfl, hf, _, hx⟩ := HL.out.mid hjm; obtain ⟨hrg, hin⟩ := hx _ HST.out.2; have HLD := Qb (Qmf _ b (off + j * 14) (ms.getD j rcZ) hrg); clear hf hx hrg hin; have ej : (((j + 1 : Nat) : Int) - 1) = (j : Int) := by omega
      rw [ej]; have i0 : (0 : Int) <= (j : Int) := by omega
      have i1 : (j : Int) < (ln : Int) := by omega
      obtain ⟨fn, tmps, assign, body, hyd, hR⟩ := HY.out pre j _ HST.out.1 (by have := HPJ.out; omega); have HRR := Qb hR; have HJ2 := Qb hjm; clear hR hjm ej; dsimp only [Qvr] at hyd; generalize rcF (ms.getD j rcZ) = rc at *; gi_wp2_with (refine Qnh rfl 46 (.tmp 15) rfl _ _ rfl HLD.out ?_); refine HRR.out.mono ?_
      rintro e w3 (⟨rfl, hJ3, hk3⟩ | ⟨rfl, hJx3⟩)
      · have HS3 : Hid (J (pre ++ [j]) w3 /\ Below w.heap.size w w3) := ⟨hJ3, HST.out.2.trans hk3⟩; clear hJ3 hk3 HST HRR hyd HLD; gi_wp2; go_roundw
        case rel => exact ⟨_, j, rfl, by have := HPJ.out; rw [List.length_append, List.length_singleton]; show _ = _; omega, by omega, HS3⟩
        case measure => simp [intOf]
      · have HX3 := Qb hJx3; clear hJx3 HST HRR hyd HLD; gi_wp2; refine bodyPost_ret (results_none rfl _ _ _) rfl ?_; exact ⟨⟨_, rfl⟩, .inr ⟨pre, HX3.out⟩⟩
theorem nanU16 (x : Int) (w : World) : Calls Try.prog 65 #[.int .u64 x] w fun e w' => e = .returned (.bool false) /\ w = w' := by
  go_enter Try.func65, Try.ntmps65; go_wp2; go_ret; simp
theorem cmpU16 (x y : Int) (w : World) : Calls Try.prog 44 #[.int .u64 x, .int .u64 y] w fun e w' => e = .returned (.int .i64 (Qoi x y)) /\ w = w' := by
  have HN := Qb (fun z w => nanU16 z w); unfold Qoi
  by_cases h1 : x < y
  · rw [if_pos h1]; go_enter Try.func44, Try.ntmps44; go_wp2_with fail; refine (HN.out x w).mono ?_; rintro e w1 ⟨rfl, rfl⟩; go_wp2_with fail; refine (HN.out y w).mono ?_; rintro e w1 ⟨rfl, rfl⟩; go_wp2; go_ret; exact ⟨rfl, rfl⟩
  · rw [if_neg h1]
    by_cases h2 : y < x
    · rw [if_pos h2]; go_enter Try.func44, Try.ntmps44; go_wp2_with fail; refine (HN.out x w).mono ?_; rintro e w1 ⟨rfl, rfl⟩; go_wp2_with fail; refine (HN.out y w).mono ?_; rintro e w1 ⟨rfl, rfl⟩; go_wp2; go_ret; exact ⟨rfl, rfl⟩
    · rw [if_neg h2]; go_enter Try.func44, Try.ntmps44; go_wp2_with fail; refine (HN.out x w).mono ?_; rintro e w1 ⟨rfl, rfl⟩; go_wp2_with fail; refine (HN.out y w).mono ?_; rintro e w1 ⟨rfl, rfl⟩; go_wp2; go_ret; exact ⟨rfl, rfl⟩
end
theorem callf_ck1 : ∀ (args : Array Value) (x : World), Sem.run Try.prog (callFunc 43 args) x = Result.ok (Next.enter 43 args) x := by
  intro args x; go_simp
theorem ck1_16 (x : World) (gr gl h b off n c bg u : Nat) (hr : x.cell? ⟨gr, 11, none⟩ = some (.int .u64 (bg : Int))) (hl : x.cell? ⟨gl, 0, none⟩ = some (.slice (some ⟨b, off, none⟩) n c)) (hc : x.cell? ⟨b, off + h * 14 + 1, none⟩ = some (.int .u64 (u : Int))) (hh : h < n) (hn : n <= 100000) :
    Calls Try.prog 43 #[.int .i64 (h : Int), .pointer (some ⟨gr, 0, none⟩), .pointer (some ⟨gl, 0, none⟩)] x fun e w' => e = .returned (.int .i64 (Qoi (bg : Int) (u : Int))) /\ Below x.heap.size x w' := by
  have HC := Qb (fun w => cmpU16 (bg : Int) (u : Int) w); have HS := Qb (And.intro hr (And.intro hl hc)); have ih : (h : Int) < (n : Int) := by omega
  have ih0 : (0 : Int) <= (h : Int) := by omega
  clear hr hl hc; go_enter Try.func43, Try.ntmps43; go_wp2_with fail; refine wp_region_noPanic ?_; refine wp_region_held_drew (S := fun z => z.cell? ⟨gr, 11, none⟩ = some (.int .u64 (bg : Int)) /\ z.cell? ⟨gl, 0, none⟩ = some (.slice (some ⟨b, off, none⟩) n c) /\ z.cell? ⟨b, off + h * 14 + 1, none⟩ = some (.int .u64 (u : Int))) (by kernel_rfl) (HS.out) (fun hHeld => ?_); refine tkq 0 (some 5) (.pointer (some ⟨gr, 11, none⟩)) hHeld ?_; (try simp only [Act.put, List.setIfInBounds_toArray, List.set]); refine tkk 1 (some 6) (.int .u64 (bg : Int)) rfl rfl (by kernel_rfl) (by kernel_rfl) (fun x hSx => by have h1 := hSx.1; go_simp) hHeld ?_; (try simp only [Act.put, List.setIfInBounds_toArray, List.set]); refine tkk 2 (some 7) (.slice (some ⟨b, off, none⟩) n c) rfl rfl (by kernel_rfl) (by kernel_rfl) (fun x hSx => by have h1 := hSx.2.1; go_simp) hHeld ?_; (try simp only [Act.put, List.setIfInBounds_toArray, List.set]); refine tkq 3 (some 8) (.int .i64 (h : Int)) hHeld ?_; (try simp only [Act.put, List.setIfInBounds_toArray, List.set]); refine tkq 4 (some 9) (.pointer (some ⟨b, off + h * 14, none⟩)) hHeld ?_; (try simp only [Act.put, List.setIfInBounds_toArray, List.set]); refine tkq 5 (some 10) (.pointer (some ⟨b, off + h * 14 + 1, none⟩)) hHeld ?_; (try simp only [Act.put, List.setIfInBounds_toArray, List.set]); refine tkk 6 (some 11) (.int .u64 (u : Int)) rfl rfl (by kernel_rfl) (by kernel_rfl) (fun x hSx => by have h1 := hSx.2.2; go_simp) hHeld ?_; (try simp only [Act.put, List.setIfInBounds_toArray, List.set]); refine Qm 7 (by kernel_rfl) ?_; refine Qfa (some 12) rfl rfl rfl 44 #[.int .u64 (bg : Int), .int .u64 (u : Int)] ?he ((HC.out _).mono ?_); (case he => go_simp); rintro e w1 ⟨rfl, rfl⟩; refine ⟨_, rfl, hHeld, ?_⟩; (try simp only [Act.put, List.setIfInBounds_toArray, List.set]); refine tkq 8 (some 4) (.int .i64 (Qoi (bg : Int) (u : Int))) hHeld ?_; (try simp only [Act.put, List.setIfInBounds_toArray, List.set]); refine wpAnyH_done (by kernel_rfl) ?_ _; refine NoPanic.normal ?_; clear hHeld; go_wp2; go_ret; exact ⟨rfl, Qoc (Below.refl _ _) 1⟩
section
section
variable {P : Program} {ops : Array Oper} {S : World -> Prop} {a : Act} {o : Oper}
theorem yields_load (hw : Region.wanted o (yielded ops a.tmps) = true) (t : TypeId) (x : Operand) (ho : o.op = .load t x) (u v : Value) (hu : a.eval x = u) (hv : ∀ y, S y -> (Instr.loadAt t u).run P y = .ok v y) : YieldsIf P ops S o v a :=
  Or.inl ⟨hw, fun y hy => by unfold execOp; simp only [ho, hu, Sem.run_bind, hv y hy, Result.andThen_ok, Sem.run_pure]⟩
end
end
end Go.Proofs.Ytkgniegdefaieaa
