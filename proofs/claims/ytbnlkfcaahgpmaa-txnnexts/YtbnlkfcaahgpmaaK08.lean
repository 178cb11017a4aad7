/-
  Texts that lean on one another, one behind the other: each opens with its own remark.
-/
import Derived.WalkSpells
import Derived.Laws.CopyOwn
import Derived.Deep.QuietTactic
import Derived.BigQuiet
import Derived.RangeFuncNested
import Derived.RangeFuncLeaves
import Derived.OwnWalkIn
import Derived.RangeFuncBox
import Derived.RangeFuncCalls
import Derived.Shelf.Abstract
import Derived.Shelf.RegionOpen
import Derived.WalkKit
import Derived.TacticsInMore
import Derived.LoopNIn
import Derived.LoopIn
import Derived.Maps.AppendAt
import Derived.Laws.CopyRow
import Derived.Deep.MidRow
import Derived.Laws.OwnMore
import Derived.ArgAppend
import Derived.Lib.ConvBytes
import Derived.Lib.AppendStr
import Derived.Test.YtbnlkfcaahgpmaaProg
import Derived.Laws.ResultCell
import Derived.Laws.Tables
import Derived.Deep.Draws
import Derived.Test.YtbnlkfcaahgpmaaK07
import Derived.Test.YtbnlkfcaahgpmaaK00
import Derived.Test.YtbnlkfcaahgpmaaK05
import Derived.Test.YtbnlkfcaahgpmaaK04
import Derived.Test.YtbnlkfcaahgpmaaK06

/-
  The contract of record.Decode.
-/
namespace Go.Proofs.Ytbnlkfcaahgpmaa
open Go.RowKit
set_option linter.unusedVariables false

theorem rowat_drew {x : World} {b : Nat} {t : TypeId} {cs : Array Value} (h : RowAt x b t cs) : RowAt x.drew b t cs := h
theorem below_drew {B : Nat} {w x : World} (h : Below B w x) : Below B w x.drew := ⟨h.1, h.2, h.3, h.4, h.5⟩
/-- A row of the call's own, when a struct of another type is written. -/
theorem own_put {w w2 : World} {base n sz b : Nat} {e t : TypeId} {v : Value} {xs : List Value} {c0 : Array Value} (h : w.ownsRow base e sz v n xs) (hr : RowAt w b t c0) (ht : t ≠ e) (ho : ∀ k t' c', k ≠ b → RowAt w k t' c' → RowAt w2 k t' c') : w2.ownsRow base e sz v n xs := by
  refine ⟨h.1, h.2.imp id ?_⟩
  rintro ⟨g, cap, cur, h1, h2, h3, h4⟩
  refine ⟨g, cap, cur, h1, h2, ho g e cur (fun hg => ?_) h3, h4⟩
  subst hg
  have h5 := hr.symm.trans h3
  simp only [Option.some.injEq, Obj.cells.injEq] at h5
  exact ht h5.2.1
end Go.Proofs.Ytbnlkfcaahgpmaa

/-
  The contracts of package sum.
-/
namespace Go.Proofs.Ytbnlkfcaahgpmaa
open Go.RowKit
set_option linter.unusedVariables false


theorem sx_yes (q : Nat) (hq : q < 2 ^ 32) (ht : q % 2 = 1) : bits .xor .u32 ((q : Int) / 2) 3988292384 = ((stp q : Nat) : Int) := by
  have e : ((q : Int) / 2) = ((q / 2 : Nat) : Int) := by omega
  have e2 : (3988292384 : Int) = ((3988292384 : Nat) : Int) := rfl
  rw [e, e2, u32_xor_nat (q / 2) 3988292384 (by omega) (by omega), stp, if_pos ht]
  rfl
theorem sx_no (q : Nat) (ht : ¬ q % 2 = 1) : (q : Int) / 2 = ((stp q : Nat) : Int) := by
  rw [stp, if_neg ht]
  omega

theorem sx_and (q : Nat) (hq : q < 2 ^ 32) : bits .and .u32 (q : Int) 1 = ((q % 2 : Nat) : Int) := by
  have e := u32_and_nat q 1 (by omega) (by omega)
  rw [Nat.and_one_is_mod] at e
  exact e
theorem sx_t (q : Nat) (hq : q < 2 ^ 32) (ht : q % 2 = 1) : (bits .and .u32 (q : Int) 1 == 1) = true := by
  rw [sx_and q hq, ht]
  rfl
theorem sx_f (q : Nat) (hq : q < 2 ^ 32) (ht : ¬ q % 2 = 1) : (bits .and .u32 (q : Int) 1 == 1) = false := by
  have h0 : q % 2 = 0 := by omega
  rw [sx_and q hq, h0]
  rfl

theorem told_step (q m j x : Nat) (hj : j < 4) (hm : m < 256) (hq : q < 256 ^ j) (hx : x = q + m * 256 ^ j) : bits .or .u32 (q : Int) ((m : Int) * 2 ^ (8 * j) % 4294967296) = ((x : Nat) : Int) := by
  subst hx
  have hp : 256 ^ j * 256 ≤ 4294967296 := by
    have h2 : 256 ^ (j + 1) ≤ 256 ^ 4 := Nat.pow_le_pow_right (by omega) (by omega)
    rw [Nat.pow_succ] at h2
    exact h2
  have e1 : (2 : Int) ^ (8 * j) = ((256 ^ j : Nat) : Int) := by
    rw [Int.pow_mul]
    simp
  have hmx : m * 256 ^ j + 256 ^ j ≤ 4294967296 := by
    have h3 : (m + 1) * 256 ^ j ≤ 256 * 256 ^ j := Nat.mul_le_mul_right _ (by omega)
    rw [Nat.add_mul, Nat.one_mul] at h3
    omega
  have e2 : (m : Int) * 2 ^ (8 * j) % 4294967296 = ((m * 256 ^ j : Nat) : Int) := by
    have e3 : (m : Int) * ((256 ^ j : Nat) : Int) = ((m * 256 ^ j : Nat) : Int) := by rw [Int.natCast_mul]
    rw [e1, e3]
    omega
  have hpw : 256 ^ j = 2 ^ (8 * j) := by rw [Nat.pow_mul]
  rw [e2, u32_or_nat q (m * 256 ^ j) (by omega) (by omega)]
  have e4 : q ||| m * 256 ^ j = q + m * 256 ^ j := by
    rw [Nat.or_comm, hpw, Nat.mul_comm m, ← Nat.two_pow_add_eq_or_of_lt (by rw [← hpw]; exact hq), Nat.add_comm]
  rw [e4]

theorem um_xor (m : Nat) (hm : m < 2 ^ 32) : bits .xor .u32 IntKind.u32.max (m : Int) = ((ones ^^^ m : Nat) : Int) := u32_xor_nat ones m (by decide) (by omega)

theorem below_drw {B : Nat} {w w' : World} (h : Below B w w') (k : Nat) : Below B w (w'.drewN k) := ⟨h.1, h.2, h.3, h.4, h.5⟩
theorem isB_drewN {w : World} {a : Option Addr} {len k : Nat} {bs : List UInt8} (h : IsB w a len bs) : IsB (w.drewN k) a len bs := h

theorem own_cap {w : World} {base n cap size : Nat} {e : TypeId} {a : Option Addr} {xs : List Value} (h : w.ownsRow base e size (.slice a n cap) n xs) : n ≤ cap := by
  rcases h.2 with ⟨hv, h0⟩ | ⟨g, cap', cur, hv, _, _, hn, _⟩
  · omega
  · injection hv with _ _ h3
    omega

end Go.Proofs.Ytbnlkfcaahgpmaa

/-
  The contracts of frame.border and frame.Take.
-/
namespace Go.Proofs.Ytbnlkfcaahgpmaa
open Go.RowKit
set_option linter.unusedVariables false

section
variable {P : Program}
theorem results_ctt {fn : Func} {p u v : Tmp} {t : TypeId} (h : fn.results = #[.cell p t, .tmp u, .tmp v]) (tmps : Array Value) (P : Program) (w : World) :
    (results fn tmps).run P w = ((asAddr (tmps.getD p undef)).run P w).andThen fun a w₁ => ((loadVar t a).run P w₁).andThen fun x w₂ => .ok (.tuple #[x, tmps.getD u undef, tmps.getD v undef]) w₂ := by
  simp only [results, h]
  simp [Sem.run_bind, Result.andThen]
/-- A struct and two numbers as a call's results. -/
theorem res_at3 {fn : Func} {p u v : Tmp} {t : TypeId} (h : fn.results = #[.cell p t, .tmp u, .tmp v]) (tmps : Array Value) (w : World) (g : Nat) (cs : Array Value) (d : TypeDesc) (hp : tmps.getD p undef = .pointer (some ⟨g, 0, none⟩)) (hg : RowAt w g t cs)
    (hu : P.underlying t = some d) (hd : (match d with | .struct _ | .array _ _ => true | _ => false) = true) (hi : (P.info? t).map (·.size) = some cs.size) :
    (results fn tmps).run P w = .ok (.tuple #[.agg cs, tmps.getD u undef, tmps.getD v undef]) w := by
  have h1 := run_loadVar_row (P := P) w g t t cs (0, 0) d hg hu hd hi
  rw [results_ctt h, hp]
  simp only [asAddr, Sem.run_pure, Result.andThen_ok, h1]
end

theorem two_lt {l : List UInt8} {n : Nat} (hn : be (l.take 2) = n) : n < 65536 := by
  rw [← hn]
  have h3 := be_lt (l.take 2)
  have h4 : (l.take 2).length ≤ 2 := by rw [List.length_take]; omega
  have h5 : 256 ^ (l.take 2).length ≤ 256 ^ 2 := Nat.pow_le_pow_right (by omega) h4
  omega

/-- What Take answers. -/
def takF (bs : List UInt8) (p : Int) : Rec × Int × Int :=
  if p < 0 ∨ (bs.length : Int) < p then (Rec.zero, 0, 1)
  else ((headF (bs.drop p.toNat)).1, if (headF (bs.drop p.toNat)).2.2 = 0 then p + ((headF (bs.drop p.toNat)).2.1 : Int) else 0, (headF (bs.drop p.toNat)).2.2)
def TakAns (w : World) (t : Rec × Int × Int) (e : Ending) (w' : World) : Prop := (∃ va vb, e = .returned (.tuple #[.agg (rcA t.1 va vb), .int .i64 t.2.1, .int .i64 t.2.2]) ∧ GotIn w.heap.size w' t.1 va vb) ∧ Below w.heap.size w w'
def zeroA : Array Value := #[.int .i64 0, .int .u64 0, .int .i64 0, .int .u64 0, .int .i64 0, .int .i64 0, .int .i64 0, .string ⟨#[]⟩, .string ⟨#[]⟩, .int .u64 0, .int .i64 0, .int .u64 0, .slice none 0 0, .slice none 0 0]
theorem zeroA_rc : rcA Rec.zero (.slice none 0 0) (.slice none 0 0) = zeroA := rfl
theorem zero_got (base : Nat) (w : World) : GotIn base w Rec.zero (.slice none 0 0) (.slice none 0 0) := ⟨World.ownsRow_nil _ _ _ _, World.ownsRow_nil _ _ _ _⟩

/-- Behind the two bytes. -/
theorem isB_two {w : World} {base n cap : Nat} {a : Option Addr} {q : List UInt8} (h : w.ownsRow base 5 1 (.slice a (n + 2) cap) (n + 2) (toV q)) (hq : q.length = n + 2) : ∃ g, a = some ⟨g, 0, none⟩ ∧ IsB w (some ⟨g, 2, none⟩) n (q.drop 2) ∧ n + 2 ≤ cap := by
  obtain ⟨g, c, h1, _⟩ := own_slice h (by omega)
  injection h1 with h2 h3 h4
  subst h2 h4
  refine ⟨g, rfl, ?_, own_cap h⟩
  have hB := h.isB hq
  obtain ⟨b, off, hb, hlt, hc⟩ := hB.2 (by omega)
  cases hb
  have h5 := IsB.cut hq hlt hc 2 n (by omega)
  rwa [List.take_of_length_le (by rw [List.length_drop]; omega)] at h5

end Go.Proofs.Ytbnlkfcaahgpmaa

/-
  A range over a function whose iterator says of each thing that it hands over how it lies in memory: what the caller owes. Of no program.
-/
namespace Go.Proofs.Ytbnlkfcaahgpmaa
open Go.RowKit
set_option linter.unusedVariables false

/-- Whatever lies below n, and every block of cells, is as it was. -/
structure Hush (n : Nat) (A B : World) : Prop where
  os : B.os = A.os
  tape : B.tape = A.tape
  output : B.output = A.output
  size : A.heap.size ≤ B.heap.size
  low : ∀ k, k < n → B.heap[k]? = A.heap[k]?
  cells : ∀ (k : Nat) (cs : Array Value) (t : TypeId) (f : Nat × Nat), A.heap[k]? = some (Obj.cells cs t f) → B.heap[k]? = some (Obj.cells cs t f)
theorem Hush.refl (n : Nat) (A : World) : Hush n A A := ⟨rfl, rfl, rfl, Nat.le_refl _, fun _ _ => rfl, fun _ _ _ _ h => h⟩
theorem Hush.trans {n : Nat} {A B C : World} (h : Hush n A B) (k : Hush n B C) : Hush n A C :=
  ⟨k.os.trans h.os, k.tape.trans h.tape, k.output.trans h.output, Nat.le_trans h.size k.size, fun i hi => (k.low i hi).trans (h.low i hi), fun i cs t f hi => k.cells i cs t f (h.cells i cs t f hi)⟩
theorem Hush.of_below {n : Nat} {A B : World} (h : Below A.heap.size A B) (hn : n ≤ A.heap.size) : Hush n A B :=
  ⟨h.os, h.tape, h.output, h.size, fun k hk => h.block k (Nat.lt_of_lt_of_le hk hn), fun k cs t f hk => (h.block k (Array.getElem?_eq_some_iff.1 hk).1).trans hk⟩
theorem Hush.put {n l : Nat} {A : World} {o : Obj} (o' : Obj) (hl : n ≤ l) (h : A.heap[l]? = some o) (ho : o.isCells = false) : Hush n A (A.putObj l o') := by
  refine ⟨rfl, rfl, rfl, by simp, fun k hk => World.putObj_heap_other (by omega), fun k cs t f hk => ?_⟩
  have hne : k ≠ l := fun e => by
    subst e
    rw [hk] at h
    cases h
    cases ho
  exact (World.putObj_heap_other hne).trans hk

/-- How a round may be left: on, or by the loop's own break. -/
def toldPost {α : Type} (n id : Nat) (Kp : World → World → Prop) (I Ix : List α → World → Prop) (pre : List α) (x : α) (W : World) : Exit → Act → World → Prop
  | .normal, _, W' => KeepsFrom n W W' ∧ Kp W W' ∧ I (pre ++ [x]) W'
  | .exit i, _, W' => i = id ∧ KeepsFrom n W W' ∧ Ix pre W'
  | _, _, _ => False

variable {F : Fence} {n : Nat} {P : Program}

theorem wpIn_range_told {α : Type} {g : Operand} {ps : Array Tmp} {assign body : Code} {Q : Exit → Act → World → Prop} {a : Act} {w : World} (hro : F.round = none) (h1 : 1 ≤ n)
    {gf : Nat} {lb : Array Value} (hg : a.eval g = .func (.func gf) #[] lb) (hFg : F.fn gf) (eg : ∀ args w, (callFunc gf args).run P w = .ok (.enter gf args) w)
    (encs : α → Array Value) (hps : ∀ x, (encs x).size = ps.size) (id : Nat)
    (G : List α → α → World → Prop) (E : List α → World → Prop) (Kp : World → World → Prop) (I Ix : List α → World → Prop) (Ac : List α → α → Act → World → Prop)
    (kr : ∀ A B C, Kp A B → Hush w.heap.size B C → Kp A C) (kk : ∀ A B C, Kp A B → Kp B C → Kp A C)
    (ci : ∀ s A B, Hush w.heap.size A B → I s A → I s B) (cx : ∀ s A B, Hush w.heap.size A B → Ix s A → Ix s B) (ca : ∀ s x c A B, Hush w.heap.size A B → Ac s x c A → Ac s x c B)
    (hseq : ∀ (l : Nat) (J Jx : List α → World → Prop) (W : World), Below w.heap.size w W → (∀ s A B, Below A.heap.size A B → J s A → J s B) →
      (∀ pre x A, J pre A → G pre x A → YieldAt F (n - 1 - 1) P l (encs x) A fun e B => (e = .returned (.bool true) ∧ J (pre ++ [x]) B ∧ Kp A B) ∨ (e = .returned (.bool false) ∧ Jx pre B)) → J [] W →
      CallsIn F (n - 1) P gf (#[.func (.yield l) #[] #[]] ++ lb) W fun e B => (∃ v, e = .returned v) ∧ ((∃ xs, E xs B ∧ J xs B) ∨ (∃ pre, Jx pre B)))
    (h0 : I [] w)
    (ce : ∀ s A B, Hush w.heap.size A B → E s A → E s B)
    (hassign : ∀ (l : Nat) (pre : List α) (x : α) (W : World) (K : Act → World → Prop), I pre W → G pre x W → (∀ c W', KeepsFrom w.heap.size W W' → Kp W W' → Ac pre x c W' → K c W') →
      assign.wpIn (F.inRound l) (n - 1 - 1) P (Exit.then K (fun _ _ _ => False)) { tmps := (ps.zip (encs x)).foldl (fun t (p, v) => t.setIfInBounds p v) a.tmps, defers := [] } W)
    (hbody : ∀ (l : Nat) (pre : List α) (x : α) (c : Act) (W : World), Ac pre x c W → body.wpIn (F.inRound l) (n - 1 - 1) P (toldPost w.heap.size id Kp I Ix pre x W) c W)
    (hdone : ∀ (D : Nat) (xs : List α) (W : World), w.heap.size ≤ D → E xs W → I xs W → W.heap[D]? = some (.deferred (some [])) → Q .normal { a with defers := { target := .collected D, args := #[] } :: a.defers } W)
    (hstop : ∀ (D : Nat) (pre : List α) (W : World), w.heap.size ≤ D → Ix pre W → W.heap[D]? = some (.deferred (some [])) → (Code.exit id).wpIn F n P Q { a with defers := { target := .collected D, args := #[] } :: a.defers } W) :
    (Code.rangeFunc g ps assign body).wpIn F n P Q a w := by
  refine wpIn_rangeFunc fun fn hfn => ?_
  rw [hro]
  -- the loop's record, by its state; it lies in block d + 1, the deferred calls of the rounds in block d
  generalize hd : w.heap.size = d at *
  let R : LoopState → Option Code → Obj := fun s p => .loop { state := s, pending := p, fn := fn, tmps := a.tmps, params := ps, assign := assign, body := body, defers := d }
  let Z : Obj := .deferred (some [])
  have sz1 : (w.alloc Z).heap.size = d + 1 := by rw [World.size_alloc, hd]
  have bel : Below d w ((w.alloc Z).alloc (R .ready none)) := by
    have h := ((Below.refl w.heap.size w).alloc (Nat.le_refl _) Z).alloc (by rw [sz1]; omega) (R .ready none)
    rwa [hd] at h
  have atL : ((w.alloc Z).alloc (R .ready none)).heap[d + 1]? = some (R .ready none) := by
    have h := World.alloc_heap_new (w.alloc Z) (R .ready none)
    rwa [sz1] at h
  have atD : ((w.alloc Z).alloc (R .ready none)).heap[d]? = some Z := by
    have h := World.alloc_heap_new w Z
    rw [hd] at h
    exact (Below.heap_alloc _ _ _ (by rw [sz1]; omega)).trans h
  have ent : (Instr.enterLoop fn a.tmps ps assign body none).run P w = .ok (d + 1, [{ target := .collected d, args := #[] }]) ((w.alloc Z).alloc (R .ready none)) := by
    have h := run_enterLoop_outer (P := P) (w := w) fn a.tmps ps assign body
    rw [hd] at h
    exact h
  have calm : Hush d w ((w.alloc Z).alloc (R .ready none)) := Hush.of_below (by rw [hd]; exact bel) (by omega)
  refine ⟨d + 1, _, (w.alloc Z).alloc (R .ready none), { target := .fn (.func gf) lb, args := #[.func (.yield (d + 1)) #[] #[]] }, (w.alloc Z).alloc (R .ready none), gf, #[.func (.yield (d + 1)) #[] #[]] ++ lb, (w.alloc Z).alloc (R .ready none), ent, ?_, ?_, ?_, fun _ => h1, ?_⟩
  · simp only [resolve, hg]
    simp [go_sem]
  · intro f' hf'
    simp [Target.leads] at hf'
    subst hf'
    exact hFg
  · simp [invoke, go_sem, eg]
  generalize (w.alloc Z).alloc (R .ready none) = W1 at *
  -- what is kept beside the caller's own word
  refine (hseq (d + 1) (fun s A => I s A ∧ A.heap[d + 1]? = some (R .ready none) ∧ A.heap[d]? = some Z) (fun s A => Ix s A ∧ A.heap[d + 1]? = some (R .done (some (.exit id))) ∧ A.heap[d]? = some Z) W1 bel ?_ ?_ ⟨ci _ _ _ calm h0, atL, atD⟩).mono ?_
  · rintro s A B hb ⟨hi, hl, hz⟩
    have lt1 := (Array.getElem?_eq_some_iff.1 hl).1
    exact ⟨ci _ _ _ (Hush.of_below hb (by omega)) hi, (hb.block _ lt1).trans hl, (hb.block _ (by omega)).trans hz⟩
  · rintro pre x A ⟨hi, hl, hz⟩ hgx
    refine ⟨fn, _, assign, body, run_yield (P := P) (args := encs x) hl (hps x), roundIn_of_wpIn hfn (hassign _ pre x A _ hi hgx fun c A1 k1 q1 ha1 => ?_)⟩
    have hl1 := k1.same _ _ (by omega) hl rfl
    have hz1 := k1.same _ _ (Nat.le_refl _) hz rfl
    refine ⟨_, run_beginRound hl1 rfl, ?_⟩
    have c1 : Hush d A1 (A1.putObj (d + 1) (R .busy none)) := Hush.put _ (by omega) hl1 rfl
    have hl2 : (A1.putObj (d + 1) (R .busy none)).heap[d + 1]? = some (R .busy none) := World.putObj_heap_same (Array.getElem?_eq_some_iff.1 hl1).1
    have hz2 : (A1.putObj (d + 1) (R .busy none)).heap[d]? = some Z := (World.putObj_heap_other (by omega)).trans hz1
    refine wpIn_mono (hbody (d + 1) pre x c _ (ca _ _ _ _ _ c1 ha1)) ?_
    rintro e c3 A3 hp
    cases e with
    | normal =>
      obtain ⟨k3, q3, i3⟩ := hp
      have hl3 := k3.same _ _ (by omega) hl2 rfl
      have c3' : Hush d A3 (A3.putObj (d + 1) (R .ready none)) := Hush.put _ (by omega) hl3 rfl
      refine ⟨_, _, run_endRound (P := P) none hl3, .inl ⟨rfl, ⟨ci _ _ _ c3' i3, World.putObj_heap_same (Array.getElem?_eq_some_iff.1 hl3).1, (World.putObj_heap_other (by omega)).trans (k3.same _ _ (Nat.le_refl _) hz2 rfl)⟩, ?_⟩⟩
      exact kr _ _ _ (kk _ _ _ (kr _ _ _ q1 c1) q3) c3'
    | exit i =>
      obtain ⟨rfl, k3, i3⟩ := hp
      have hl3 := k3.same _ _ (by omega) hl2 rfl
      have c3' : Hush d A3 (A3.putObj (d + 1) (R .done (some (.exit i)))) := Hush.put _ (by omega) hl3 rfl
      exact ⟨_, _, run_endRound (P := P) (some (.exit i)) hl3, .inr ⟨rfl, cx _ _ _ c3' i3, World.putObj_heap_same (Array.getElem?_eq_some_iff.1 hl3).1, (World.putObj_heap_other (by omega)).trans (k3.same _ _ (Nat.le_refl _) hz2 rfl)⟩⟩
    | ret => exact hp.elim
    | goto t => exact hp.elim
    | panic ch => exact hp.elim
    | outgrown => exact hp.elim
  · rintro e A ⟨⟨v, rfl⟩, (⟨xs, hE, hi, hl, hz⟩ | ⟨pre, hi, hl, hz⟩)⟩
    · have c3 : Hush d A (A.putObj (d + 1) (R .exhausted none)) := Hush.put _ (by omega) hl rfl
      exact ⟨none, _, run_endLoop (P := P) hl (by simp), hdone d xs _ (Nat.le_refl _) (ce _ _ _ c3 hE) (ci _ _ _ c3 hi) ((World.putObj_heap_other (by omega)).trans hz)⟩
    · have c3 : Hush d A (A.putObj (d + 1) (R .exhausted (some (.exit id)))) := Hush.put _ (by omega) hl rfl
      exact ⟨some (.exit id), _, run_endLoop (P := P) hl (by simp), hstop d pre _ (Nat.le_refl _) (cx _ _ _ c3 hi) ((World.putObj_heap_other (by omega)).trans hz)⟩
end Go.Proofs.Ytbnlkfcaahgpmaa

/-
  A struct loaded and stored inside a fence. Of no program.
-/
namespace Go.Proofs.Ytbnlkfcaahgpmaa
open Go.RowKit
set_option linter.unusedVariables false

section
variable {F : Fence} {n : Nat} {P : Program} {ops : Array Oper} {rest : List Oper} {o : Oper} {a : Act} {w : World} {Q : Exit → Act → World → Prop}

theorem wpListIn_load_at (hw : Region.wanted o (yielded ops a.tmps) = true) (t : TypeId) (x : Operand) (ho : o.op = .load t x) (g : Nat) (hx : a.eval x = .pointer (some ⟨g, 0, none⟩)) (cs : Array Value) (hg : RowAt w g t cs) (d : TypeDesc)
    (hu : P.underlying t = some d) (hd : (match d with | .struct _ | .array _ _ => true | _ => false) = true) (hi : (P.info? t).map (·.size) = some cs.size) (h : wpListIn F n P ops Q rest (a.put o.dst (.agg cs)) w) : wpListIn F n P ops Q (o :: rest) a w :=
  wpListIn_step fun K hK => by
    simp only [hw, if_true]
    unfold Oper.wpIn
    refine ⟨?_, ?_⟩
    · simp [Oper.about, ho]
    · rw [Oper.semAt_plain F _ _ (by rw [ho]; intro c hc; cases hc)]
      unfold execOp
      simp only [ho, hx, Instr.loadAt, Instr.sureAddr, Sem.run_bind, Sem.run_pure, Result.andThen_ok, run_loadVar_row w g t t cs (0, 0) d hg hu hd hi]
      exact hK _ _ h

theorem wpListIn_store_at (hgd : o.guard = none) (t : TypeId) (x y : Operand) (ho : o.op = .store t x y) (g : Nat) (c0 cs : Array Value) (hx : a.eval x = .pointer (some ⟨g, 0, none⟩)) (hy : a.eval y = .agg cs) (hg : RowAt w g t c0)
    (hi : (P.info? t).map (·.size) = some cs.size) (hz : c0.size = cs.size) (h1 : cs.all (·.oneCell') = true)
    (h : ∀ w2, RowAt w2 g t cs → w.grownBy w2 (some g) → wpListIn F n P ops Q rest (a.put o.dst undef) w2) : wpListIn F n P ops Q (o :: rest) a w := by
  have h2 := h (w.setRow g cs) (setRow_heap w g c0 cs t (0, 0) hg) ⟨rfl, rfl, rfl, by simp [World.setRow], fun k hk hne => setRow_other w g k _ (fun e => hne (by rw [e]))⟩
  refine wpListIn_plain hgd fun K hK => ?_
  unfold Oper.wpIn
  refine ⟨?_, ?_⟩
  · simp [Oper.about, ho]
  · rw [Oper.semAt_plain F _ _ (by rw [ho]; intro c hc; cases hc)]
    unfold execOp
    simp only [ho, hx, hy, Instr.storeAt, Instr.sureAddr, Sem.run_bind, Sem.run_pure, Result.andThen_ok, run_storeVar_row w g t t c0 cs hg hi hz h1]
    exact hK _ _ h2
end
end Go.Proofs.Ytbnlkfcaahgpmaa

/-
  The contract of the iterator that frame.frames makes.
-/
namespace Go.Proofs.Ytbnlkfcaahgpmaa
open Go.RowKit Go.Shelf
set_option linter.unusedVariables false
attribute [local go_sem] Oper.semAt_some

/-- What is handed over: a record with the values of its lists, and the place behind its frame. -/
abbrev Hd := (Rec × Value × Value) × Nat
def recs (xs : List Hd) : List Rec := xs.map (·.1.1)
theorem recs_snoc (xs : List Hd) (x : Hd) : recs (xs ++ [x]) = recs xs ++ [x.1.1] := by simp [recs]
theorem framesB_snoc (rs : List Rec) (r : Rec) : framesB (rs ++ [r]) = framesB rs ++ frameB r := by simp [framesB]
def encH (x : Hd) : Array Value := #[.agg (rcF x.1), .int .i64 (x.2 : Int)]
/-- What is said of each. -/
def Told (base : Nat) (bs : List UInt8) (pre : List Hd) (x : Hd) (W : World) : Prop :=
  x.1.1.right ∧ x.1.1.fits ∧ GotIn base W x.1.1 x.1.2.1 x.1.2.2 ∧ x.2 = (framesB (recs (pre ++ [x]))).length ∧ ∃ y, bs = framesB (recs (pre ++ [x])) ++ y
/-- All have come. -/
def Over (bs : List UInt8) (xs : List Hd) : Prop := ∃ y, bs = framesB (recs xs) ++ y ∧ (headF y).2.2 ≠ 0
theorem head_fits (y : List UInt8) : (headF y).1.fits := by
  unfold headF
  split
  · exact zero_rec_fits
  · split
    · exact zero_rec_fits
    · split
      · exact zero_rec_fits
      · exact dec_fits _
theorem head_over {bs y : List UInt8} {xs : List Hd} (h : bs = framesB (recs xs) ++ y) : takF bs ((framesB (recs xs)).length : Int) = ((headF y).1, if (headF y).2.2 = 0 then ((framesB (recs xs)).length : Int) + ((headF y).2.1 : Int) else 0, (headF y).2.2) := by
  unfold takF
  have e : bs.drop ((framesB (recs xs)).length : Int).toNat = y := by
    rw [Int.toNat_natCast, h]
    exact List.drop_left' rfl
  rw [if_neg (by rw [h, List.length_append]; omega), e]

theorem frames_step {bs y : List UInt8} {xs : List Hd} (h : bs = framesB (recs xs) ++ y) (he : (headF y).2.2 = 0) (va vb : Value) :
    (headF y).1.right ∧ ∃ y', bs = framesB (recs (xs ++ [(((headF y).1, va, vb), (framesB (recs xs)).length + (headF y).2.1)])) ++ y' ∧ (framesB (recs (xs ++ [(((headF y).1, va, vb), (framesB (recs xs)).length + (headF y).2.1)]))).length = (framesB (recs xs)).length + (headF y).2.1 ∧ 6 ≤ (headF y).2.1 := by
  obtain ⟨h1, h2, h3, h4⟩ := head_ok y he
  refine ⟨h1, y.drop (headF y).2.1, ?_, ?_, ?_⟩
  · rw [recs_snoc, framesB_snoc, ← h2, List.append_assoc, List.take_append_drop]
    exact h
  · rw [recs_snoc, framesB_snoc, List.length_append, ← h3]
  · rw [h3, frameB_length]
    omega

end Go.Proofs.Ytbnlkfcaahgpmaa

/-
  What is scanned, by where it ends: plain facts, of no program.
-/
namespace Go.Proofs.Ytbnlkfcaahgpmaa
open Go.RowKit
set_option linter.unusedVariables false

/-- What is scanned of bytes. -/
def scanL (bs : List UInt8) : List Rec × Nat := scanF (bs.length + 1) 0 bs
theorem framesB_long : ∀ rs : List Rec, rs.length * 6 ≤ (framesB rs).length
  | [] => Nat.le_refl _
  | r :: rs => by
    have h := framesB_long rs
    have e : framesB (r :: rs) = frameB r ++ framesB rs := by simp [framesB]
    rw [e, List.length_append, frameB_length, List.length_cons]
    omega
theorem scan_end {bs y : List UInt8} {rs : List Rec} (h : bs = framesB rs ++ y) (hr : Rise 0 rs) (hs : (headF y).2.2 ≠ 0 ∨ (headF y).1.l ≤ lastL 0 rs) : scanL bs = (rs, (framesB rs).length) := by
  have h1 := framesB_long rs
  have h2 := congrArg List.length h
  rw [List.length_append] at h2
  have e : bs.length + 1 = rs.length + (bs.length + 1 - rs.length) := by omega
  unfold scanL
  rw [e, h, scan_all rs _ 0 y hr, scan_stop _ _ y hs]
  simp
theorem rise_snoc : ∀ (rs : List Rec) (a : Nat) (r : Rec), Rise a (rs ++ [r]) ↔ Rise a rs ∧ r.right ∧ lastL a rs < r.l
  | [], a, r => ⟨fun h => ⟨trivial, h.1, h.2.1⟩, fun h => ⟨h.2.1, h.2.2, trivial⟩⟩
  | q :: rs, a, r => by
    have ih := rise_snoc rs q.l r
    constructor
    · rintro ⟨h1, h2, h3⟩
      have h4 := ih.1 h3
      exact ⟨⟨h1, h2, h4.1⟩, h4.2⟩
    · rintro ⟨⟨h1, h2, h3⟩, h4⟩
      exact ⟨h1, h2, ih.2 ⟨h3, h4⟩⟩
theorem last_snoc : ∀ (rs : List Rec) (a : Nat) (r : Rec), lastL a (rs ++ [r]) = r.l
  | [], _, _ => rfl
  | q :: rs, _, r => last_snoc rs q.l r
theorem last_lt : ∀ (rs : List Rec) (a : Nat), Rise a rs → a < 18446744073709551616 → lastL a rs < 18446744073709551616
  | [], _, _, h => h
  | q :: rs, a, h, ha => last_lt rs q.l h.2.2 (by have := h.1.lm; unfold maxP at this; omega)
theorem rise_right : ∀ (rs : List Rec) (a : Nat), Rise a rs → ∀ r ∈ rs, r.right
  | [], _, _, _, h => nomatch h
  | q :: rs, a, h, r, hr => by
    rcases List.mem_cons.1 hr with rfl | hr
    · exact h.1
    · exact rise_right rs q.l h.2.2 r hr
theorem eq_dec (a b : Nat) : ((a : Int) == (b : Int)) = decide (a = b) := by
  rw [Bool.eq_iff_iff]
  simp
  omega
end Go.Proofs.Ytbnlkfcaahgpmaa

/-
  The contract of frame.Scan.
-/
namespace Go.Proofs.Ytbnlkfcaahgpmaa
open Go.RowKit Go.Shelf
set_option linter.unusedVariables false
attribute [local go_sem] Oper.semAt_some

/-- The cells of records, one behind the other. -/
def flatR (ms : List (Rec × Value × Value)) : List Value := ms.flatMap fun m => (rcF m).toList
theorem flatR_append (a b : List (Rec × Value × Value)) : flatR (a ++ b) = flatR a ++ flatR b := by simp [flatR]
theorem infoRc3 : (Try.prog.info? 30).map (fun i => (i.zero, i.size, i.bytes)) = some (some (.agg zeroA), 14, 160) := by kernel_rfl
theorem own_kind {y : World} {base n sz k : Nat} {e t : TypeId} {v : Value} {xs : List Value} {cs : Array Value} (h : y.ownsRow base e sz v n xs) (hr : RowAt y k t cs) (ht : t ≠ e) : v.ownBlock ≠ some k := fun hk => by
  rcases h.2 with ⟨rfl, _⟩ | ⟨g, cap, cur, rfl, _, hg, _⟩
  · cases hk
  · obtain rfl : g = k := by simpa [Value.ownBlock] using hk
    have h5 := (show y.heap[g]? = _ from hr).symm.trans hg
    simp only [Option.some.injEq, Obj.cells.injEq] at h5
    exact ht h5.2.1
/-- A row of the call's own, where blocks of its type are kept. -/
theorem own_kept {A B : World} {base n sz : Nat} {e : TypeId} {v : Value} {xs : List Value} (h : A.ownsRow base e sz v n xs) (hk : ∀ k cs, RowAt A k e cs → RowAt B k e cs) : B.ownsRow base e sz v n xs := by
  refine ⟨h.1, h.2.imp id ?_⟩
  rintro ⟨g, cap, cur, h1, h2, h3, h4⟩
  exact ⟨g, cap, cur, h1, h2, hk g cur h3, h4⟩
theorem cells_new (W : World) (t : TypeId) (cs : Array Value) : ∀ j u, cs.toList[j]? = some u → (W.alloc (.cells cs t)).cell? ((⟨W.heap.size, 0, none⟩ : Addr).add j) = some u := fun j u hu => by
  rw [Addr.add_lit, Nat.zero_add]
  refine (RowAt.new W t cs).cell j u ?_
  rw [← hu, Array.getElem?_toList]
theorem hush_row {n : Nat} {A B : World} (h : Hush n A B) {k : Nat} {t : TypeId} {cs : Array Value} (hr : RowAt A k t cs) : RowAt B k t cs := h.cells k cs t (0, 0) hr
theorem hush_below {n : Nat} {w A B : World} (h : Hush n A B) (hb : Below n w A) : Below n w B := ⟨h.os.trans hb.os, h.tape.trans hb.tape, h.output.trans hb.output, Nat.le_trans hb.size h.size, fun k hk => (h.low k hk).trans (hb.block k hk)⟩

/-- What Scan keeps between two rounds; v: the records so far. -/
structure ScI (n0 : Nat) (w : World) (bs : List UInt8) (v : Value) (pre : List Hd) (W : World) : Prop where
  box : RowAt W n0 22 #[v]
  own : W.ownsRow n0 30 14 v pre.length (flatR (pre.map (·.1)))
  size : RowAt W (n0 + 1) 3 #[.int .i64 ((framesB (recs pre)).length : Int)]
  last : RowAt W (n0 + 1 + 1) 23 #[.int .u64 ((lastL 0 (recs pre) : Nat) : Int)]
  rise : Rise 0 (recs pre)
  part : ∃ y, bs = framesB (recs pre) ++ y
  got : ∀ x ∈ pre, x.1.1.fits ∧ GotIn n0 W x.1.1 x.1.2.1 x.1.2.2
  bel : Below n0 w W
theorem ScI.hush {n0 : Nat} {w : World} {bs : List UInt8} {v : Value} {pre : List Hd} {A B : World} {n : Nat} (h : ScI n0 w bs v pre A) (hn : n0 ≤ n) (hc : Hush n A B) : ScI n0 w bs v pre B :=
  ⟨hush_row hc h.box, own_kept h.own (fun _ _ => hush_row hc), hush_row hc h.size, hush_row hc h.last, h.rise, h.part, fun x hx => ⟨(h.got x hx).1, own_kept (h.got x hx).2.1 (fun _ _ => hush_row hc), own_kept (h.got x hx).2.2 (fun _ _ => hush_row hc)⟩,
    ⟨hc.os.trans h.bel.os, hc.tape.trans h.bel.tape, hc.output.trans h.bel.output, Nat.le_trans h.bel.size hc.size, fun k hk => (hc.low k (by omega)).trans (h.bel.block k hk)⟩⟩
theorem told_hush {base n : Nat} {bs : List UInt8} {pre : List Hd} {x : Hd} {A B : World} (h : Told base bs pre x A) (hc : Hush n A B) : Told base bs pre x B :=
  ⟨h.1, h.2.1, ⟨own_kept h.2.2.1.1 (fun _ _ => hush_row hc), own_kept h.2.2.1.2 (fun _ _ => hush_row hc)⟩, h.2.2.2⟩

theorem ScI.drew {n0 : Nat} {w : World} {bs : List UInt8} {v : Value} {pre : List Hd} {A : World} (h : ScI n0 w bs v pre A) : ScI n0 w bs v pre A.drew :=
  ⟨h.box, h.own, h.size, h.last, h.rise, h.part, h.got, below_drew h.bel⟩
theorem scan_fin {n0 : Nat} {w W X : World} {bs : List UInt8} {v : Value} {xs : List Hd} {mm len : Nat} (hn : n0 = w.heap.size) (h : ScI n0 w bs v xs W) (he : scanL bs = (recs xs, mm)) (hc : Hush n0 W.drew X) :
    ∃ u ms, Ending.returned (.tuple #[v, .int .i64 (mm : Int), .bool ((mm : Int) == (len : Int))]) = .returned (.tuple #[u, .int .i64 ((scanL bs).2 : Int), .bool (decide ((scanL bs).2 = len))]) ∧ ms.map (·.1) = (scanL bs).1 ∧
      X.ownsRow w.heap.size 30 14 u ms.length (flatR ms) ∧ (∀ m ∈ ms, m.1.fits ∧ GotIn w.heap.size X m.1 m.2.1 m.2.2) ∧ Below w.heap.size w X := by
  subst hn
  have h2 := h.drew.hush (Nat.le_refl _) hc
  refine ⟨v, xs.map (·.1), ?_, ?_, ?_, fun m hm => ?_, h2.bel⟩
  · rw [he]
    have e : ((mm : Int) == (len : Int)) = decide (mm = len) := by
      rw [Bool.eq_iff_iff]
      simp
      omega
    rw [e]
  · rw [he]
    simp [recs]
  · rw [List.length_map]
    exact h2.own
  · obtain ⟨x, hx, rfl⟩ := List.mem_map.1 hm
    exact h2.got x hx

def msR (ms : List (Rec × Value × Value)) : List Rec := ms.map (·.1)
theorem msR_snoc (ms : List (Rec × Value × Value)) (m : Rec × Value × Value) : msR (ms ++ [m]) = msR ms ++ [m.1] := by simp [msR]
/-- What Scan answers. -/
def ScanAns (w : World) (bs : List UInt8) (len : Nat) (e : Ending) (w' : World) : Prop :=
  ∃ v ms, e = .returned (.tuple #[v, .int .i64 ((scanL bs).2 : Int), .bool (decide ((scanL bs).2 = len))]) ∧ msR ms = (scanL bs).1 ∧
    w'.ownsRow w.heap.size 30 14 v ms.length (flatR ms) ∧ (∀ m ∈ ms, m.1.fits ∧ GotIn w.heap.size w' m.1 m.2.1 m.2.2) ∧ Below w.heap.size w w'
end Go.Proofs.Ytbnlkfcaahgpmaa

/-
  Lists of records in memory; the contract of quaysideref06.List.
-/
namespace Go.Proofs.Ytbnlkfcaahgpmaa
open Go.RowKit
set_option linter.unusedVariables false

/-- A list of records that lies there, with all that its records lead to. -/
def RsIn (w : World) (v : Value) (ms : List (Rec × Value × Value)) : Prop := RowsIn rcF rcZ 14 w v ms ∧ ∀ m ∈ ms, m.1.fits ∧ RcIn w m.1 m.2.1 m.2.2
theorem RsIn.below {w x : World} {v : Value} {ms : List (Rec × Value × Value)} (h : RsIn w v ms) (hb : Below w.heap.size w x) : RsIn x v ms := ⟨h.1.below hb, fun m hm => ⟨(h.2 m hm).1, (h.2 m hm).2.below hb⟩⟩
theorem RsIn.own {w : World} {base : Nat} {v : Value} {ms : List (Rec × Value × Value)} (ho : w.ownsRow base 30 14 v ms.length (flatR ms)) (hg : ∀ m ∈ ms, m.1.fits ∧ GotIn base w m.1 m.2.1 m.2.2) : RsIn w v ms :=
  ⟨own_rows rcF rcZ 14 (fun _ => rfl) ho, fun m hm => ⟨(hg m hm).1, (hg m hm).2.rc⟩⟩
theorem load_mid (y : World) (b k : Nat) (m : Rec × Value × Value) (h : y.rangeAt b k (rcF m).toList) : (Instr.loadAt 30 (.pointer (some ⟨b, k, none⟩))).run Try.prog y = .ok (.agg (rcF m)) y := by
  have h1 := run_loadAt_mid (P := Try.prog) y b k 30 (rcF m).toList _ h Try.underlying30 rfl (by rw [infoRc]; rfl)
  rwa [Array.toArray_toList] at h1
theorem RsIn.at {w : World} {a : Option Addr} {len cap : Nat} {ms : List (Rec × Value × Value)} (h : RsIn w (.slice a len cap) ms) {i : Nat} (hi : i < ms.length) : ∃ b off, a = some ⟨b, off, none⟩ ∧ b < w.heap.size ∧ w.rangeAt b (off + i * 14) (rcF (ms.getD i rcZ)).toList ∧ (ms.getD i rcZ).1.fits ∧ RcIn w (ms.getD i rcZ).1 (ms.getD i rcZ).2.1 (ms.getD i rcZ).2.2 := by
  obtain ⟨⟨a', cap', h1, h2⟩, h3⟩ := h
  injection h1 with e1 e2 e3
  subst e1
  obtain ⟨b, off, h4, h5, h6⟩ := h2 (by omega)
  have h7 := h3 _ (getD_mem ms i rcZ hi)
  exact ⟨b, off, h4, h5, h6 i hi, h7.1, h7.2⟩
theorem msR_get (ms : List (Rec × Value × Value)) (i : Nat) : (msR ms).getD i Rec.zero = (ms.getD i rcZ).1 := by
  unfold msR
  simp only [List.getD_eq_getElem?_getD, List.getElem?_map]
  cases ms[i]? <;> rfl

set_option maxRecDepth 8000 in
set_option maxHeartbeats 3200000 in
theorem rlist_any (va vb : Value) (ms ns : List (Rec × Value × Value)) (w : World) (ha : RsIn w va ms) (hb : RsIn w vb ns) (he : msR ms = msR ns) (hl : ms.length ≤ 1000000000000) :
    Calls Try.prog 22 #[va, vb] w fun e w' => e = .returned (.bool true) ∧ Below w.heap.size w w' := by
  have HA := hide ha
  have HB := hide hb
  obtain ⟨⟨aa, ca, rfl, -⟩, -⟩ := ha
  obtain ⟨⟨ab, cb, rfl, -⟩, -⟩ := hb
  have hlen : ns.length = ms.length := by
    have := congrArg List.length he
    simpa [msR] using this.symm
  rw [hlen] at HB ⊢
  have HE : Hid (∀ i, (ms.getD i rcZ).1 = (ns.getD i rcZ).1) := fun i => by rw [← msR_get, ← msR_get, he]
  have HL := hide hlen
  clear he hlen
  obtain ⟨ln, hln⟩ : ∃ ln, ln = ms.length := ⟨_, rfl⟩
  rw [← hln] at HA HB hl HL ⊢
  have HN := hide hln
  clear hln
  go_enter Try.func22, Try.ntmps22
  go_wp2
  go_loopw [13] (fun i wr => ∃ j : Nat, j ≤ ln ∧ i = .int .i64 (j : Int) ∧ Hid (Below w.heap.size w wr)) (fun i _ => ln - (intOf i).toNat)
  case atStart => exact ⟨0, Nat.zero_le _, rfl, Below.refl _ _⟩
  case round =>
    obtain ⟨j, hj, rfl, HBR⟩ := hrel
    by_cases hlt : j < ln
    · obtain ⟨b1, o1, h1, h2, h3, h4, h5⟩ := HA.out.at (i := j) (by rw [← HN.out]; exact hlt)
      obtain ⟨b2, o2, k1, k2, k3, k4, k5⟩ := HB.out.at (i := j) (by rw [HL.out]; exact hlt)
      subst h1 k1
      have he := HE.out j
      generalize ms.getD j rcZ = m1 at he h3 h4 h5
      generalize ns.getD j rcZ = m2 at he k3 k4 k5
      have HS := hide (fun x (hx : Below w.heap.size w x) => rsame_at m1.1 m2.1 _ _ _ _ x true (hide ⟨fun _ => he, fun _ => rfl⟩) h4 k4 (h5.below hx) (k5.below hx))
      have HL1 := hide (fun y (hy : Below w.heap.size w y) => load_mid y b1 (o1 + j * 14) m1 (rangeAt_below h3 hy h2))
      have HL2 := hide (fun y (hy : Below w.heap.size w y) => load_mid y b2 (o2 + j * 14) m2 (rangeAt_below k3 hy k2))
      unfold rcF at HL1 HL2
      generalize rcA m1.1 m1.2.1 m1.2.2 = A1 at HS HL1
      generalize rcA m2.1 m2.2.1 m2.2.2 = A2 at HS HL2
      clear h2 h3 h4 h5 k2 k3 k4 k5 he m1 m2 HE
      have i1 : (j : Int) < (ln : Int) := by omega
      have i0 : (0 : Int) ≤ (j : Int) := by omega
      go_wp2_with fail
      refine wp_region_in (fun x => Below w.heap.size w x) (by kernel_rfl) (by kernel_rfl) (below_drew HBR.out) ?_
      clear HBR
      repeat (first
        | go_big_quiet_skip
        | (refine wpQuiet_load rfl 30 (.tmp 18) rfl _ (.agg A1) rfl (fun y hy => HL1.out y hy) ?_; simp only [Act.put, Array.setIfInBounds, List.size_toArray, List.length_cons, List.length_nil, Nat.reduceAdd, Nat.reduceLT, ↓reduceDIte, List.set_toArray, List.set_cons_succ, List.set_cons_zero])
        | (refine wpQuiet_load rfl 30 (.tmp 22) rfl _ (.agg A2) rfl (fun y hy => HL2.out y hy) ?_; simp only [Act.put, Array.setIfInBounds, List.size_toArray, List.length_cons, List.length_nil, Nat.reduceAdd, Nat.reduceLT, ↓reduceDIte, List.set_toArray, List.set_cons_succ, List.set_cons_zero])
        | (refine wpQuiet_call rfl 12 #[.agg A1, .agg A2] (.bool true) ?_ (fun x hC => (HS.out x hC).mono fun e x' h => ⟨h.1, hC.trans (h.2.mono hC.size)⟩) ?_; (intro x; go_simp); simp only [Act.put, Array.setIfInBounds, List.size_toArray, List.length_cons, List.length_nil, Nat.reduceAdd, Nat.reduceLT, ↓reduceDIte, List.set_toArray, List.set_cons_succ, List.set_cons_zero])
        | (refine wpQuiet_plain rfl (fun K hK => ?_); go_simp; refine hK _ ?_; clear hK K))
      refine wpQuiet_nil ?_
      intro x hx
      have HX := hide hx
      clear hx HS HL1 HL2
      go_wp2
      go_roundw
      case rel => exact ⟨j + 1, by omega, by go_num, HX⟩
      case measure => simp [intOf]; omega
    · go_wp2
      go_ret
      exact ⟨rfl, HBR.out⟩
end Go.Proofs.Ytbnlkfcaahgpmaa

/-
  A region in the order of its text, walked by hand, operation by operation: for guarded operations that load structs. Of no program.
-/
namespace Go.Proofs.Ytbnlkfcaahgpmaa
open Go.RowKit
set_option linter.unusedVariables false

/-- A place at which a walk stands still. -/
def Stop10 (p : Prop) : Prop := p
theorem unstop10 {p : Prop} (h : p) : Stop10 p := h
theorem stop10 {p : Prop} (h : Stop10 p) : p := h
section
variable {P : Program} {ops : Array Oper} {rest : List Oper} {o : Oper} {a : Act} {w : World} {Q : Exit → Act → World → Prop}
/-- .. at the operation that writes this slot. -/
theorem stop_at (d : Tmp) (hd : o.dst = some d) (h : Stop10 (wpList P ops Q (o :: rest) a w)) : wpList P ops Q (o :: rest) a w := h
theorem lst_val (d : Option Tmp) (v : Value) (hd : o.dst = d) (hw : Region.wanted o (yielded ops a.tmps) = true) (hv : (execOp a.eval o).run P w = .ok (.value v) w) (h : wpList P ops Q rest (a.put d v) w) : wpList P ops Q (o :: rest) a w := by
  subst hd
  exact wpList_val hw v hv h
theorem lst_skip (d : Option Tmp) (hd : o.dst = d) (hw : Region.wanted o (yielded ops a.tmps) = false) (h : wpList P ops Q rest (a.put d undef) w) : wpList P ops Q (o :: rest) a w := by
  subst hd
  refine wpList_step fun K hK => ?_
  rw [if_neg (by rw [hw]; simp)]
  exact hK _ _ h
theorem lst_call (d : Option Tmp) (hd : o.dst = d) (hw : Region.wanted o (yielded ops a.tmps) = true) (f : FuncId) (args : Array Value) (he : (execOp a.eval o).run P w = .ok (.enter f args) w)
    (hc : Calls P f args w fun e w' => ∃ v, e = .returned v ∧ wpList P ops Q rest (a.put d v) w') : wpList P ops Q (o :: rest) a w := by
  subst hd
  refine wpList_step fun K hK => ?_
  rw [if_pos hw]
  unfold Oper.wp
  rw [he, Oper.upon_enter]
  refine hc.mono ?_
  rintro e w' ⟨v, rfl, h⟩
  exact hK _ _ h
theorem lst_load (d : Option Tmp) (v : Value) (hd : o.dst = d) (hw : Region.wanted o (yielded ops a.tmps) = true) (t : TypeId) (x : Operand) (ho : o.op = .load t x) (u : Value) (hu : a.eval x = u) (hv : (Instr.loadAt t u).run P w = .ok v w) (h : wpList P ops Q rest (a.put d v) w) : wpList P ops Q (o :: rest) a w :=
  lst_val d v hd hw (by unfold execOp; simp only [ho, hu, Sem.run_bind, hv, Result.andThen_ok, Sem.run_pure]) h
theorem lst_bin (d : Option Tmp) (v : Value) (hd : o.dst = d) (hw : Region.wanted o (yielded ops a.tmps) = true) (op : BinOp) (t r : TypeId) (x y : Operand) (ho : o.op = .binOp op t x y r) (u z : Value) (hu : a.eval x = u) (hz : a.eval y = z) (hg : (eqGuard op t x y u z).run P w = .ok () w) (hv : (binOp op t u z).run P w = .ok v w) (h : wpList P ops Q rest (a.put d v) w) : wpList P ops Q (o :: rest) a w := by
  subst hd
  exact wpList_binop hw op t r x y ho u z v hu hz hg hv h
/-- An operation that turns the world, by what it answers. -/
theorem lst_run (d : Option Tmp) (hd : o.dst = d) (hw : Region.wanted o (yielded ops a.tmps) = true) (v : Value) (w' : World) (he : (execOp a.eval o).run P w = .ok (.value v) w') (h : wpList P ops Q rest (a.put d v) w') : wpList P ops Q (o :: rest) a w := by
  subst hd
  refine wpList_step fun K hK => ?_
  rw [if_pos hw]
  unfold Oper.wp
  rw [he]
  exact hK _ _ h
theorem lst_nil (h : Q .normal a w) : wpList P ops Q [] a w := h
end
end Go.Proofs.Ytbnlkfcaahgpmaa

/-
  Parts of a block: an array or a struct loaded out of the middle of a row, and stored into it. Of no program.
-/
namespace Go.Proofs.Ytbnlkfcaahgpmaa
open Go.RowKit
set_option linter.unusedVariables false

/-- These cells lie in a row from a place on. -/
def Lies (cs : Array Value) (o : Nat) (vs : List Value) : Prop := ∀ j, j < vs.length → cs[o + j]? = vs[j]?
/-- A row with these cells laid into it from a place on. -/
def partA (cs : Array Value) (o : Nat) (vs : List Value) : Array Value := (cs.toList.take o ++ vs ++ cs.toList.drop (o + vs.length)).toArray
theorem partA_size (cs : Array Value) (o : Nat) (vs : List Value) (h : o + vs.length ≤ cs.size) : (partA cs o vs).size = cs.size := by
  unfold partA
  rw [List.size_toArray, List.length_append, List.length_append, List.length_take, List.length_drop, Array.length_toList]
  omega
theorem partA_in (cs : Array Value) (o : Nat) (vs : List Value) (h : o + vs.length ≤ cs.size) (j : Nat) (hj : j < vs.length) : (partA cs o vs)[o + j]? = vs[j]? := by
  unfold partA
  have hl : (cs.toList.take o).length = o := by rw [List.length_take, Array.length_toList]; omega
  rw [List.getElem?_toArray, List.append_assoc, List.getElem?_append_right (by omega), hl, Nat.add_sub_cancel_left, List.getElem?_append_left hj]
theorem partA_out (cs : Array Value) (o : Nat) (vs : List Value) (h : o + vs.length ≤ cs.size) (k : Nat) (hk : k < o ∨ o + vs.length ≤ k) : (partA cs o vs)[k]? = cs[k]? := by
  unfold partA
  have hl : (cs.toList.take o).length = o := by rw [List.length_take, Array.length_toList]; omega
  rw [List.getElem?_toArray, List.append_assoc]
  rcases hk with hk | hk
  · rw [List.getElem?_append_left (by omega), List.getElem?_take_of_lt hk, Array.getElem?_toList]
  · rw [List.getElem?_append_right (by omega), List.getElem?_append_right (by omega), hl, List.getElem?_drop, ← Array.getElem?_toList]
    congr 1
    omega
theorem Lies.same (cs : Array Value) (o : Nat) (vs : List Value) (h : o + vs.length ≤ cs.size) : Lies (partA cs o vs) o vs := fun j hj => partA_in cs o vs h j hj
theorem Lies.apart {cs : Array Value} {o' : Nat} {us : List Value} (h : Lies cs o' us) (o : Nat) (vs : List Value) (hf : o + vs.length ≤ cs.size) (ha : o' + us.length ≤ o ∨ o + vs.length ≤ o') : Lies (partA cs o vs) o' us := fun j hj => by
  rw [partA_out cs o vs hf (o' + j) (by omega)]
  exact h j hj
theorem Lies.set {cs : Array Value} {o : Nat} {us : List Value} (h : Lies cs o us) (k : Nat) (v : Value) (ha : k < o ∨ o + us.length ≤ k) : Lies (cs.setIfInBounds k v) o us := fun j hj => by
  rw [Array.getElem?_setIfInBounds_ne (by omega)]
  exact h j hj
theorem Lies.ext {cs : Array Value} {o : Nat} {vs : List Value} (h : Lies cs o vs) (n : Nat) (hn : vs.length = n) (hf : o + n ≤ cs.size) : cs.extract o (o + n) = vs.toArray := by
  subst hn
  apply Array.ext'
  apply List.ext_getElem?
  intro j
  by_cases hj : j < vs.length
  · have h1 := h j hj
    rw [Array.getElem?_toList, Array.getElem?_extract, if_pos (by omega), h1]
  · rw [List.getElem?_eq_none (by rw [Array.length_toList, Array.size_extract]; omega), List.getElem?_eq_none (by simpa using hj)]
theorem Lies.left {cs : Array Value} {o : Nat} {us vs : List Value} (h : Lies cs o (us ++ vs)) : Lies cs o us := fun j hj => by
  rw [h j (by rw [List.length_append]; omega), List.getElem?_append_left hj]
theorem Lies.cell {cs : Array Value} {o : Nat} {vs : List Value} (h : Lies cs o vs) (j : Nat) (v : Value) (hv : vs[j]? = some v) : cs[o + j]? = some v := by
  rw [h j (List.getElem?_eq_some_iff.1 hv).1, hv]

section
variable {P : Program} {ops : Array Oper} {rest : List Oper} {o : Oper} {a : Act} {w : World} {Q : Exit → Act → World → Prop}

theorem load_part (w : World) (t ty : TypeId) (g off n : Nat) (cs : Array Value) (hg : RowAt w g t cs) (d : TypeDesc) (hu : P.underlying ty = some d) (hd : d.isRow = true) (hi : (P.info? ty).map (·.size) = some n) (hf : off + n ≤ cs.size) :
    (Instr.loadAt ty (.pointer (some ⟨g, off, none⟩))).run P w = .ok (.agg (cs.extract off (off + n))) w := by
  have h1 := run_loadAt_mid (P := P) w g off ty (cs.extract off (off + n)).toList d (World.rangeAt_of_block hg off n) hu hd (by rw [Array.length_toList, Array.size_extract, hi]; congr 1; omega)
  rwa [Array.toArray_toList] at h1

theorem wpList_load_part (hw : Region.wanted o (yielded ops a.tmps) = true) (ty : TypeId) (x : Operand) (ho : o.op = .load ty x) (g off n : Nat) (hx : a.eval x = .pointer (some ⟨g, off, none⟩)) (t : TypeId) (cs : Array Value) (hg : RowAt w g t cs) (d : TypeDesc)
    (hu : P.underlying ty = some d) (hd : d.isRow = true) (hi : (P.info? ty).map (·.size) = some n) (hf : off + n ≤ cs.size) (v : Array Value) (hv : cs.extract off (off + n) = v) (h : wpList P ops Q rest (a.put o.dst (.agg v)) w) : wpList P ops Q (o :: rest) a w :=
  wpList_step fun K hK => by
    simp only [hw, if_true]
    unfold Oper.wp execOp
    simp only [ho, hx, Sem.run_bind, load_part w t ty g off n cs hg d hu hd hi hf, Result.andThen_ok, Sem.run_pure]
    rw [hv]
    exact hK _ _ h

/-- A load that may be taken first, by what it answers. -/
theorem yieldsIf_load_run {S : World → Prop} (hw : Region.wanted o (yielded ops a.tmps) = true) (ty : TypeId) (x : Operand) (ho : o.op = .load ty x) (u : Value) (hu : a.eval x = u) (v : Value) (hv : ∀ y, S y → (Instr.loadAt ty u).run P y = .ok v y) : YieldsIf P ops S o v a :=
  .inl ⟨hw, fun y hy => by
    unfold execOp
    simp only [ho, hu, Sem.run_bind, hv y hy, Result.andThen_ok, Sem.run_pure]⟩
/-- A call as one step of a region that draws its order. -/
theorem step_call10 {K : Act → World → Prop} {E : Prop} (hg : o.guard = none) (f : FuncId) (args : Array Value) (he : (execOp a.eval o).run P w = .ok (.enter f args) w)
    (hc : Calls P f args w fun e w' => ∃ v, e = .returned v ∧ K (a.put o.dst v) w') : if Region.wanted o (yielded ops a.tmps) = true then Oper.wp P o a w K Q else E := by
  have hw : Region.wanted o (yielded ops a.tmps) = true := by simp [Region.wanted, hg]
  rw [if_pos hw]
  unfold Oper.wp
  rw [he, Oper.upon_enter]
  refine hc.mono ?_
  rintro e w' ⟨v, rfl, h⟩
  exact h

theorem store_part (w : World) (t ty : TypeId) (g off : Nat) (c0 cs : Array Value) (hg : RowAt w g t c0) (hi : (P.info? ty).map (·.size) = some cs.size) (hf : off + cs.size ≤ c0.size) (h1 : cs.all (·.oneCell') = true) :
    (Instr.storeAt ty (.pointer (some ⟨g, off, none⟩)) (.agg cs)).run P w = .ok () (w.setRow g (partA c0 off cs.toList)) := by
  have hs := run_storeCells_at P g off t cs.toList 0 c0 w hg (by rw [Array.length_toList]; omega) (fun v hv => (Array.all_eq_true_iff_forall_mem.1 h1) v (by simpa using hv))
  have hsv : (storeVar ty ⟨g, off, none⟩ (.agg cs)).run P w = .ok () (w.setRow g (partA c0 off cs.toList)) := by
    cases hq : P.info? ty with
    | none => simp [hq] at hi
    | some i =>
      have hz : cs.size = i.size := by simp [hq] at hi; omega
      simp only [Nat.add_zero] at hs
      simp [storeVar, sizeOf, typeInfo, hq, Value.cells, hz, hs, partA]
  simp only [Instr.storeAt, Instr.sureAddr, Sem.run_bind, Sem.run_pure, Result.andThen_ok, hsv]

/-- Only one block was turned. -/
structure Only (g : Nat) (w w' : World) : Prop where
  os : w'.os = w.os
  tape : w'.tape = w.tape
  output : w'.output = w.output
  size : w.heap.size = w'.heap.size
  block : ∀ k, k ≠ g → w'.heap[k]? = w.heap[k]?
theorem only_setRow (w : World) (g : Nat) (cs : Array Value) : Only g w (w.setRow g cs) := ⟨rfl, rfl, rfl, by simp [World.setRow], fun k hk => setRow_other w g k _ hk⟩
theorem Only.below {g B : Nat} {w0 w w' : World} (p : Only g w w') (h : Below B w0 w) (hB : B ≤ g) : Below B w0 w' :=
  ⟨p.os.trans h.1, p.tape.trans h.2, p.output.trans h.3, Nat.le_trans h.4 (Nat.le_of_eq p.size), fun k hk => (p.block k (by omega)).trans (h.5 k hk)⟩
theorem Only.row {g k : Nat} {w w' : World} {t : TypeId} {cs : Array Value} (p : Only g w w') (h : RowAt w k t cs) (hk : k ≠ g) : RowAt w' k t cs := (p.block k hk).trans h

theorem wpList_store_part (hgd : o.guard = none) (ty : TypeId) (x y : Operand) (ho : o.op = .store ty x y) (g off : Nat) (t : TypeId) (c0 cs : Array Value) (hx : a.eval x = .pointer (some ⟨g, off, none⟩)) (hy : a.eval y = .agg cs) (hg : RowAt w g t c0)
    (hi : (P.info? ty).map (·.size) = some cs.size) (hf : off + cs.size ≤ c0.size) (h1 : cs.all (·.oneCell') = true)
    (h : ∀ w2, RowAt w2 g t (partA c0 off cs.toList) → Only g w w2 → wpList P ops Q rest (a.put o.dst undef) w2) : wpList P ops Q (o :: rest) a w :=
  wpList_plain hgd fun K hK => by
    unfold Oper.wp execOp
    simp only [ho, hx, hy, Sem.run_bind, store_part w t ty g off c0 cs hg hi hf h1, Result.andThen_ok, Sem.run_pure]
    exact hK _ _ (h _ (setRow_heap w g c0 _ t (0, 0) hg) (only_setRow w g _))

variable {K : Act → World → Prop} {E : Prop}
/-- .. as one step of a region that draws its order. -/
theorem step_store_part (hgd : o.guard = none) (ty : TypeId) (x y : Operand) (ho : o.op = .store ty x y) (g off : Nat) (t : TypeId) (c0 cs : Array Value) (hx : a.eval x = .pointer (some ⟨g, off, none⟩)) (hy : a.eval y = .agg cs) (hg : RowAt w g t c0)
    (hi : (P.info? ty).map (·.size) = some cs.size) (hf : off + cs.size ≤ c0.size) (h1 : cs.all (·.oneCell') = true)
    (h : ∀ w2, RowAt w2 g t (partA c0 off cs.toList) → Only g w w2 → K (a.put o.dst undef) w2) : if Region.wanted o (yielded ops a.tmps) = true then Oper.wp P o a w K Q else E := by
  have hw : Region.wanted o (yielded ops a.tmps) = true := by simp [Region.wanted, hgd]
  rw [if_pos hw]
  unfold Oper.wp execOp
  simp only [ho, hx, hy, Sem.run_bind, store_part w t ty g off c0 cs hg hi hf h1, Result.andThen_ok, Sem.run_pure]
  exact h _ (setRow_heap w g c0 _ t (0, 0) hg) (only_setRow w g _)
theorem step_load_part (hw : Region.wanted o (yielded ops a.tmps) = true) (ty : TypeId) (x : Operand) (ho : o.op = .load ty x) (g off n : Nat) (hx : a.eval x = .pointer (some ⟨g, off, none⟩)) (t : TypeId) (cs : Array Value) (hg : RowAt w g t cs) (d : TypeDesc)
    (hu : P.underlying ty = some d) (hd : d.isRow = true) (hi : (P.info? ty).map (·.size) = some n) (hf : off + n ≤ cs.size) (v : Array Value) (hv : cs.extract off (off + n) = v) (h : K (a.put o.dst (.agg v)) w) : if Region.wanted o (yielded ops a.tmps) = true then Oper.wp P o a w K Q else E := by
  rw [if_pos hw]
  unfold Oper.wp execOp
  simp only [ho, hx, Sem.run_bind, load_part w t ty g off n cs hg d hu hd hi hf, Result.andThen_ok, Sem.run_pure]
  rw [hv]
  exact h
end
end Go.Proofs.Ytbnlkfcaahgpmaa

/-
  Logs, and what is to be taken back of a transaction: plain facts, of no program.
-/
namespace Go.Proofs.Ytbnlkfcaahgpmaa
open Go.RowKit
set_option linter.unusedVariables false

/-! ### Records that are a log -/
def riseB : Nat → List Rec → Bool
  | _, [] => true
  | a, r :: rs => r.rightB && decide (a < r.l) && riseB r.l rs
theorem riseB_iff : ∀ (l : List Rec) (a : Nat), riseB a l = true ↔ Rise a l
  | [], _ => ⟨fun _ => trivial, fun _ => rfl⟩
  | r :: rs, a => by
    unfold riseB Rise
    rw [Bool.and_eq_true, Bool.and_eq_true, decide_eq_true_iff, rightB_iff, riseB_iff rs r.l, and_assoc]
theorem riseB_no {l : List Rec} {a : Nat} (h : ¬ Rise a l) : riseB a l = false := by
  rw [← riseB_iff] at h
  simpa using h
theorem rise_le15 : ∀ (l : List Rec) (a : Nat), Rise a l → a ≤ lastL a l
  | [], _, _ => Nat.le_refl _
  | q :: rs, a, h => by
    have := rise_le15 rs q.l h.2.2
    have := h.2.1
    show a ≤ lastL q.l rs
    omega
theorem rise_mem15 : ∀ (l : List Rec) (a : Nat), Rise a l → ∀ r ∈ l, a < r.l ∧ r.l ≤ lastL a l
  | [], _, _, _, h => nomatch h
  | q :: rs, a, h, r, hr => by
    have h1 := rise_le15 rs q.l h.2.2
    rcases List.mem_cons.1 hr with rfl | hr
    · exact ⟨h.2.1, h1⟩
    · have := rise_mem15 rs q.l h.2.2 r hr
      have := h.2.1
      show a < r.l ∧ r.l ≤ lastL q.l rs
      omega
theorem rise_last15 {l : List Rec} {s : Rec} (h : Rise 0 (l ++ [s])) : Rise 0 l ∧ s.right ∧ ∀ r ∈ l, r.l < s.l := by
  obtain ⟨h1, h2, h3⟩ := (rise_snoc l 0 s).1 h
  exact ⟨h1, h2, fun r hr => by have := (rise_mem15 l 0 h1 r hr).2; omega⟩
/-- A proof on logs goes from their end. -/
theorem snoc_ind {α : Type} {C : List α → Prop} (h0 : C []) (h1 : ∀ l s, C l → C (l ++ [s])) (l : List α) : C l := by
  have h : ∀ m : List α, C m.reverse := by
    intro m
    induction m with
    | nil => exact h0
    | cons a m ih =>
      rw [List.reverse_cons]
      exact h1 _ _ ih
  have := h l.reverse
  rwa [List.reverse_reverse] at this

/-! ### The record of a number, a transaction's last one -/
def getT (l : List Rec) (n : Nat) : Option Rec := l.find? (fun r => decide (r.l = n))
def lastT (l : List Rec) (t : Int) : Nat := l.foldl (fun n r => if 1 ≤ t ∧ r.t = t then r.l else n) 0
theorem lastT_nil (t : Int) : lastT [] t = 0 := rfl
theorem lastT_snoc (l : List Rec) (r : Rec) (t : Int) : lastT (l ++ [r]) t = if 1 ≤ t ∧ r.t = t then r.l else lastT l t := by
  unfold lastT
  rw [List.foldl_append]
  rfl
theorem lastT_is (l : List Rec) (t : Int) : lastT l t = 0 ∨ ∃ r ∈ l, r.l = lastT l t ∧ r.t = t ∧ 1 ≤ t := by
  induction l using snoc_ind with
  | h0 => exact .inl rfl
  | h1 l s ih =>
    rw [lastT_snoc]
    by_cases h : 1 ≤ t ∧ s.t = t
    · rw [if_pos h]
      exact .inr ⟨s, by simp, rfl, h.2, h.1⟩
    · rw [if_neg h]
      rcases ih with ih | ⟨r, h1, h2⟩
      · exact .inl ih
      · exact .inr ⟨r, List.mem_append.2 (.inl h1), h2⟩
theorem lastT_none (l : List Rec) (t : Int) (h : ∀ r ∈ l, ¬ (1 ≤ t ∧ r.t = t)) : lastT l t = 0 := by
  rcases lastT_is l t with h1 | ⟨r, h1, h2, h3, h4⟩
  · exact h1
  · exact absurd ⟨h4, h3⟩ (h r h1)
theorem getT_mem {l : List Rec} (hl : Rise 0 l) {r : Rec} (hr : r ∈ l) : getT l r.l = some r := by
  revert hr
  induction l using snoc_ind with
  | h0 => intro hr; cases hr
  | h1 l s ih =>
    intro hr
    obtain ⟨h1, h2, h3⟩ := rise_last15 hl
    unfold getT at ih ⊢
    rw [List.find?_append]
    rcases List.mem_append.1 hr with hr | hr
    · rw [ih h1 hr]
      rfl
    · rw [List.mem_singleton.1 hr]
      have h4 : l.find? (fun r => decide (r.l = s.l)) = none := by
        rw [List.find?_eq_none]
        intro x hx
        have := h3 x hx
        simp
        omega
      rw [h4]
      simp
theorem getT_none {l : List Rec} {n : Nat} (h : ∀ r ∈ l, r.l ≠ n) : getT l n = none := by
  unfold getT
  rw [List.find?_eq_none]
  intro x hx
  simpa using h x hx
theorem getT_cases (l : List Rec) (n : Nat) : (getT l n = none ∧ ∀ r ∈ l, r.l ≠ n) ∨ ∃ r ∈ l, r.l = n ∧ getT l n = some r := by
  unfold getT
  cases h : l.find? (fun r => decide (r.l = n)) with
  | none =>
    refine .inl ⟨rfl, fun r hr => ?_⟩
    have := List.find?_eq_none.1 h r hr
    simpa using this
  | some r =>
    have := List.find?_some h
    exact .inr ⟨r, List.mem_of_find?_eq_some h, by simpa using this, rfl⟩

/-! ### What is to be taken back next: the newest record first -/
def nextR : List Rec → Nat → Nat
  | [], _ => 0
  | r :: rs, at_ => if r.l = at_ then (if r.k = 1 then at_ else if r.k = 2 then nextR rs r.n else nextR rs r.p) else nextR rs at_
def nextT (l : List Rec) (at_ : Nat) : Nat := nextR l.reverse at_
/-- What leads on from a record. -/
def stepT (l : List Rec) (r : Rec) : Nat := if r.k = 1 then r.l else if r.k = 2 then nextT l r.n else nextT l r.p
theorem nextT_nil (n : Nat) : nextT [] n = 0 := rfl
theorem nextT_snoc (l : List Rec) (r : Rec) (n : Nat) : nextT (l ++ [r]) n = if r.l = n then (if r.k = 1 then n else if r.k = 2 then nextT l r.n else nextT l r.p) else nextT l n := by
  unfold nextT
  rw [List.reverse_append]
  rfl
theorem nextT_none {l : List Rec} {n : Nat} (h : ∀ r ∈ l, r.l ≠ n) : nextT l n = 0 := by
  induction l using snoc_ind with
  | h0 => rfl
  | h1 l s ih =>
    rw [nextT_snoc, if_neg (h s (by simp))]
    exact ih (fun r hr => h r (List.mem_append.2 (.inl hr)))
theorem nextT_zero {l : List Rec} (hl : Rise 0 l) : nextT l 0 = 0 := nextT_none fun r hr => by
  have := (rise_mem15 l 0 hl r hr).1
  omega
theorem right_prev {r : Rec} (h : r.right) : r.p < r.l := by
  have h1 := h.l1
  by_cases hk : r.k ≤ 6
  · exact (h.own hk).2.2
  · have := (h.none (by omega)).2
    omega
theorem right_next {r : Rec} (h : r.right) : r.n < r.l := by
  have h1 := h.l1
  by_cases hk : r.k = 2
  · exact h.next hk
  · have := h.nonext hk
    omega
theorem nextT_step {l : List Rec} (hl : Rise 0 l) {r : Rec} (hr : r ∈ l) : nextT l r.l = stepT l r := by
  revert hr
  induction l using snoc_ind with
  | h0 => intro hr; cases hr
  | h1 l s ih =>
    intro hr
    obtain ⟨h1, h2, h3⟩ := rise_last15 hl
    have up : ∀ n, n < s.l → nextT (l ++ [s]) n = nextT l n := fun n hn => by rw [nextT_snoc, if_neg (by omega)]
    unfold stepT
    rcases List.mem_append.1 hr with hr | hr
    · have h4 := h3 r hr
      have hR := rise_right l 0 h1 r hr
      have h5 := right_prev hR
      have h6 := right_next hR
      rw [up _ h4, up _ (by omega), up _ (by omega)]
      exact ih h1 hr
    · rw [List.mem_singleton.1 hr]
      have h5 := right_prev h2
      have h6 := right_next h2
      rw [up _ h5, up _ h6, nextT_snoc, if_pos rfl]
theorem nextT_le {l : List Rec} (hl : Rise 0 l) (n : Nat) : nextT l n ≤ n := by
  induction l using snoc_ind generalizing n with
  | h0 => exact Nat.zero_le _
  | h1 l s ih =>
    obtain ⟨h1, h2, h3⟩ := rise_last15 hl
    have h5 := right_prev h2
    have h6 := right_next h2
    rw [nextT_snoc]
    by_cases e : s.l = n
    · rw [if_pos e]
      by_cases k1 : s.k = 1
      · rw [if_pos k1]
        exact Nat.le_refl _
      · rw [if_neg k1]
        by_cases k2 : s.k = 2
        · rw [if_pos k2]
          have := ih h1 s.n
          omega
        · rw [if_neg k2]
          have := ih h1 s.p
          omega
    · rw [if_neg e]
      exact ih h1 n
theorem nextT_is {l : List Rec} (hl : Rise 0 l) (n : Nat) : nextT l n = 0 ∨ ∃ r ∈ l, r.l = nextT l n ∧ r.k = 1 := by
  induction l using snoc_ind generalizing n with
  | h0 => exact .inl rfl
  | h1 l s ih =>
    obtain ⟨h1, h2, h3⟩ := rise_last15 hl
    have up : ∀ n, nextT l n = 0 ∨ ∃ r ∈ l ++ [s], r.l = nextT l n ∧ r.k = 1 := fun n => (ih h1 n).imp id fun ⟨r, h4, h5⟩ => ⟨r, List.mem_append.2 (.inl h4), h5⟩
    rw [nextT_snoc]
    by_cases e : s.l = n
    · rw [if_pos e]
      by_cases k1 : s.k = 1
      · rw [if_pos k1]
        exact .inr ⟨s, by simp, e, k1⟩
      · rw [if_neg k1]
        by_cases k2 : s.k = 2
        · rw [if_pos k2]
          exact up _
        · rw [if_neg k2]
          exact up _
    · rw [if_neg e]
      exact up _
theorem nextT_again {l : List Rec} (hl : Rise 0 l) (n : Nat) : nextT l (nextT l n) = nextT l n := by
  rcases nextT_is hl n with h | ⟨r, h1, h2, h3⟩
  · rw [h]
    exact nextT_zero hl
  · rw [← h2, nextT_step hl h1]
    unfold stepT
    rw [if_pos h3]

/-! ### The records that take a transaction back -/
def clrOf (l : List Rec) (r : Rec) : Rec := ⟨2, 0, r.t, 0, invC r.c, nextT l r.p, 0, 0, [], []⟩
def planR : List Rec → Nat → Nat → List Rec
  | [], _, _ => []
  | r :: rs, n, u => if r.l = n then (if u < n ∧ r.k = 1 then clrOf rs.reverse r :: planR rs (nextR rs r.p) u else []) else planR rs n u
/-- From a change on, as far as a number. -/
def planL (l : List Rec) (n u : Nat) : List Rec := planR l.reverse n u
def planT (l : List Rec) (t : Int) (u : Nat) : List Rec := planL l (nextT l (lastT l t)) u
theorem planL_nil (n u : Nat) : planL [] n u = [] := rfl
theorem planL_snoc (l : List Rec) (r : Rec) (n u : Nat) : planL (l ++ [r]) n u = if r.l = n then (if u < n ∧ r.k = 1 then clrOf l r :: planL l (nextT l r.p) u else []) else planL l n u := by
  unfold planL nextT
  rw [List.reverse_append]
  show planR (r :: l.reverse) n u = _
  rw [planR, List.reverse_reverse]
theorem planL_none {l : List Rec} {n u : Nat} (h : ∀ r ∈ l, r.l ≠ n) : planL l n u = [] := by
  induction l using snoc_ind with
  | h0 => rfl
  | h1 l s ih =>
    rw [planL_snoc, if_neg (h s (by simp))]
    exact ih (fun r hr => h r (List.mem_append.2 (.inl hr)))
theorem planL_zero {l : List Rec} (hl : Rise 0 l) (u : Nat) : planL l 0 u = [] := planL_none fun r hr => by
  have := (rise_mem15 l 0 hl r hr).1
  omega
theorem clrOf_snoc {l : List Rec} {s r : Rec} (h : s.l ≠ r.p) : clrOf (l ++ [s]) r = clrOf l r := by
  unfold clrOf
  rw [nextT_snoc, if_neg h]
theorem planL_step {l : List Rec} (hl : Rise 0 l) {r : Rec} (hr : r ∈ l) (hk : r.k = 1) (u : Nat) : planL l r.l u = if u < r.l then clrOf l r :: planL l (clrOf l r).n u else [] := by
  revert hr
  induction l using snoc_ind with
  | h0 => intro hr; cases hr
  | h1 l s ih =>
    intro hr
    obtain ⟨h1, h2, h3⟩ := rise_last15 hl
    have hR := rise_right _ 0 hl r hr
    have h5 := right_prev hR
    rcases List.mem_append.1 hr with hr | hr
    · have h4 := h3 r hr
      have h7 := nextT_le h1 r.p
      have e : (clrOf l r).n = nextT l r.p := rfl
      rw [planL_snoc, if_neg (by omega), clrOf_snoc (by omega), planL_snoc, if_neg (show ¬ s.l = (clrOf l r).n by rw [e]; omega)]
      exact ih h1 hr
    · rw [List.mem_singleton.1 hr] at h5 hk ⊢
      have h7 := nextT_le h1 s.p
      have e : (clrOf l s).n = nextT l s.p := rfl
      rw [planL_snoc, if_pos rfl, clrOf_snoc (by omega), planL_snoc, e, if_neg (show ¬ s.l = nextT l s.p by omega)]
      by_cases hu : u < s.l
      · rw [if_pos ⟨hu, hk⟩, if_pos hu]
      · rw [if_neg (fun h => hu h.1), if_neg hu]
/-- A change that is to be taken back: what the plan does. -/
theorem planL_next {l : List Rec} (hl : Rise 0 l) (n u : Nat) (h : nextT l n = n) : (n ≤ u ∧ planL l n u = []) ∨ ∃ r ∈ l, r.l = n ∧ r.k = 1 ∧ u < n ∧ planL l n u = clrOf l r :: planL l (clrOf l r).n u := by
  by_cases hu : n ≤ u
  · refine .inl ⟨hu, ?_⟩
    rcases nextT_is hl n with h1 | ⟨r, h1, h2, h3⟩
    · rw [h] at h1
      subst h1
      exact planL_zero hl u
    · rw [h] at h2
      subst h2
      rw [planL_step hl h1 h3, if_neg (by omega)]
  · rcases nextT_is hl n with h1 | ⟨r, h1, h2, h3⟩
    · rw [h] at h1
      omega
    · rw [h] at h2
      subst h2
      refine .inr ⟨r, h1, rfl, h3, by omega, ?_⟩
      rw [planL_step hl h1 h3, if_pos (by omega)]
theorem clr_again {l : List Rec} (hl : Rise 0 l) (r : Rec) : nextT l (clrOf l r).n = (clrOf l r).n := nextT_again hl r.p
theorem clr_less {l : List Rec} (hl : Rise 0 l) {r : Rec} (hr : r ∈ l) : (clrOf l r).n < r.l := by
  have h1 := nextT_le hl r.p
  have h2 := right_prev (rise_right _ 0 hl r hr)
  show nextT l r.p < r.l
  omega
theorem planL_fall {l : List Rec} (hl : Rise 0 l) (u : Nat) : ∀ f n, n ≤ f → nextT l n = n → (planL l n u).length ≤ n
  | 0, n, hf, h => by
    obtain rfl : n = 0 := by omega
    rw [planL_zero hl]
    exact Nat.zero_le _
  | f + 1, n, hf, h => by
    rcases planL_next hl n u h with ⟨_, e⟩ | ⟨r, h1, h2, h3, h4, e⟩
    · rw [e]
      exact Nat.zero_le _
    · have h5 := clr_less hl h1
      rw [e, List.length_cons]
      have := planL_fall hl u f _ (by omega) (clr_again hl r)
      omega
end Go.Proofs.Ytbnlkfcaahgpmaa

/-
  Lists put behind lists, by what the operation answers, inside a fence. Of no program.
-/
namespace Go.Proofs.Ytbnlkfcaahgpmaa
open Go.RowKit
set_option linter.unusedVariables false

theorem wpListIn_append_run {F : Fence} {n : Nat} {P : Program} {ops : Array Oper} {rest : List Oper} {o : Oper} {a : Act} {w w' : World} {Q : Exit → Act → World → Prop} (hw : Region.wanted o (yielded ops a.tmps) = true) (s x : Operand) (t : TypeId) (hop : o.op = Op.call { callee := Callee.builtin Builtin.append, args := #[s, x], argTypes := #[t, t] })
    (vs vx v' : Value) (hs : a.eval s = vs) (hx : a.eval x = vx) (hrun : (Builtin.append_ #[t, t] o.type #[vs, vx]).run P w = .ok v' w') (h : wpListIn F n P ops Q rest (a.put o.dst v') w') : wpListIn F n P ops Q (o :: rest) a w :=
  wpListIn_step fun K hK => by
    simp only [hw, if_true]
    unfold Oper.wpIn
    refine ⟨?_, ?_⟩
    · simp [Oper.about, hop, resolve, Target.leads, Sem.run_pure]
    · rw [Oper.semAt_plain F _ _ (by rw [hop]; intro c hc; cases hc)]
      simp [execOp, hop, resolve, invoke, builtin, hs, hx, hrun, Result.andThen]
      exact hK _ _ h

/-- A list that lies there, put behind the call's own one. -/
theorem run_append_rows {α : Type} (f : α → Array Value) (zz : α) (sz : Nat) (hf : ∀ x, (f x).size = sz) (hsz : 0 < sz) {P : Program} (w : World) (base : Nat) (t ty e : TypeId) (z : Array Value) (by' : Nat) (ht : P.underlying t = some (.slice e))
    (hi : (P.info? e).map (fun i => (i.zero, i.size, i.bytes)) = some (some (.agg z), sz, by')) (hzs : z.size = sz) (v : Value) (n : Nat) (xs : List Value) (hown : w.ownsRow base e sz v n xs)
    (vx : Value) (ms : List α) (hr : RowsIn f zz sz w vx ms) (hnil : ∀ a len cap, vx = .slice a len cap → a = none → cap = 0) (h1 : ∀ m ∈ ms, ∀ u ∈ (f m).toList, u.oneCell' = true) (hl : n + ms.length ≤ maxLen) (hb : (n + ms.length) * by' ≤ 140737488355328) (hbase : base ≤ w.heap.size) :
    ∃ v' w', (Builtin.append_ #[t, t] ty #[v, vx]).run P w = .ok v' w' ∧ w'.ownsRow base e sz v' (n + ms.length) (xs ++ ms.flatMap fun m => (f m).toList) ∧ w.grownBy w' v.ownBlock := by
  obtain ⟨i, hi0, hi1⟩ := Option.map_eq_some_iff.1 hi
  simp only [Prod.mk.injEq] at hi1
  obtain ⟨a, cap, rfl, hc⟩ := hr
  have hlen : (ms.flatMap fun m => (f m).toList).length = ms.length * sz := by
    clear hc h1 hl hb hnil
    induction ms with
    | nil => simp
    | cons m ms ih => rw [List.flatMap_cons, List.length_append, ih, Array.length_toList, hf, List.length_cons, Nat.add_mul, Nat.one_mul, Nat.add_comm]
  cases a with
  | none =>
    obtain rfl := hnil _ _ _ rfl rfl
    have hm : ms = [] := by
      rcases ms with _ | ⟨m, ms⟩
      · rfl
      · obtain ⟨b, off, h, _⟩ := hc (by simp)
        cases h
    subst hm
    exact ⟨v, w, run_append_owned_none (P := P) w base t ty e i sz ht hi0 v n xs hown, by simpa using hown, ⟨rfl, rfl, rfl, Nat.le_refl _, fun _ _ _ => rfl⟩⟩
  | some ad =>
    obtain ⟨v', w', q1, q2, q3, _⟩ := run_append_own (P := P) w base t ty e i (.agg z) sz by' ht hi0 hi1.1 hi1.2.1 hi1.2.2 hzs hsz v n xs hown ad ms.length cap (ms.flatMap fun m => (f m).toList) hlen (fun j u hu => by
      have hj : j < ms.length * sz := by
        have := (List.getElem?_eq_some_iff.1 hu).1
        rwa [hlen] at this
      have hp : 0 < ms.length := by
        rcases Nat.eq_zero_or_pos ms.length with h | h
        · rw [h] at hj; omega
        · exact h
      obtain ⟨b, off, h2, _, h3⟩ := hc hp
      cases h2
      have hq : j / sz < ms.length := Nat.div_lt_of_lt_mul (by rw [Nat.mul_comm]; exact hj)
      have hr2 : j % sz < sz := Nat.mod_lt _ hsz
      have hjj : j / sz * sz + j % sz = j := by rw [Nat.mul_comm]; exact Nat.div_add_mod j sz
      have h4 := flat_get f sz hf zz ms (j / sz) (j % sz) hq hr2
      rw [hjj, hu] at h4
      have h5 := h3 (j / sz) hq (j % sz) u h4.symm
      rw [Addr.add_lit]
      rw [Nat.add_assoc, hjj] at h5
      exact h5) (fun u hu => by
      obtain ⟨m, hm, hu2⟩ := List.mem_flatMap.1 hu
      exact h1 m hm u hu2) hl hb hbase
    exact ⟨v', w', q1, q2, q3⟩

/-- Bytes put behind bytes whose row is full. -/
theorem run_append_full {P : Program} (w : World) (t ty e : TypeId) (ht : P.underlying t = some (.slice e)) (hi : (P.info? e).map (fun i => (i.zero, i.size, i.bytes)) = some (some (.int .u8 0), 1, 1))
    (ao : Option Addr) (lo : Nat) (xs : List UInt8) (hB : IsB w ao lo xs) (ay : Option Addr) (m c : Nat) (ys : List UInt8) (hY : IsB w ay m ys) (hn : m = 0 → ay = none ∧ c = 0) (hz : lo + m ≤ 140737488355328) :
    ∃ a' c' w', (Builtin.append_ #[t, t] ty #[.slice ao lo lo, .slice ay m c]).run P w = .ok (.slice a' (lo + m) c') w' ∧ IsB w' a' (lo + m) (xs ++ ys) ∧ lo + m ≤ c' ∧ Below w.heap.size w w' := by
  obtain ⟨i, hi0, hi1⟩ := Option.map_eq_some_iff.1 hi
  simp only [Prod.mk.injEq] at hi1
  rcases Nat.eq_zero_or_pos m with rfl | hm
  · obtain ⟨rfl, rfl⟩ := hn rfl
    obtain rfl : ys = [] := List.eq_nil_of_length_eq_zero hY.1
    refine ⟨ao, lo, w, ?_, by simpa using hB, Nat.le_refl _, Below.refl _ _⟩
    cases ao with
    | none =>
      have h0 : lo = 0 := by
        rcases Nat.eq_zero_or_pos lo with h | h
        · exact h
        · obtain ⟨b, off, hb, _⟩ := hB.2 h
          cases hb
      subst h0
      simp [Builtin.append_, run_underlying ht, sizeOf, typeInfo, hi0, Builtin.lenOf, Builtin.firstCells]
    | some b => simp [Builtin.append_, run_underlying ht, sizeOf, typeInfo, hi0, Builtin.lenOf, Builtin.firstCells, storeCells]
  · obtain ⟨b2, off2, rfl, _, _⟩ := hY.2 hm
    have fin : ∀ v' w', w'.ownsRow w.heap.size e 1 v' (lo + m) (toV xs ++ toV ys) → w.grownBy w' none → ∃ a' c', v' = .slice a' (lo + m) c' ∧ IsB w' a' (lo + m) (xs ++ ys) ∧ lo + m ≤ c' ∧ Below w.heap.size w w' := fun v' w' h1 h2 => by
      rw [← toV_append] at h1
      obtain ⟨a', c', rfl, hc, hB'⟩ := shape_isB h1
      exact ⟨a', c', rfl, hB', hc, ⟨h2.os, h2.tape, h2.output, h2.size, fun k hk => h2.block k hk (by simp)⟩⟩
    cases ao with
    | some b =>
      obtain ⟨b', off', hb', _, _⟩ | h0 : (∃ b' off', b = (⟨b', off', none⟩ : Addr) ∧ True ∧ True) ∨ lo = 0 := by
        rcases Nat.eq_zero_or_pos lo with h | h
        · exact .inr h
        · obtain ⟨b', off', hb', _⟩ := hB.2 h
          exact .inl ⟨b', off', by injection hb', trivial, trivial⟩
      · subst hb'
        obtain ⟨v', w', hrun, r1, r2⟩ := run_append_arg_grows (P := P) w t ty e i (.int .u8 0) 1 1 ht hi0 hi1.1 hi1.2.1 hi1.2.2 rfl (by omega) ⟨b', off', none⟩ lo lo (toV xs) (by rw [toV_length, hB.1, Nat.mul_one]) (isB_cells hB) ⟨b2, off2, none⟩ m c (toV ys) (by rw [toV_length, hY.1, Nat.mul_one]) (isB_cells hY) (by omega) (by unfold maxLen; omega) (by omega)
        obtain ⟨a', c', rfl, h3⟩ := fin v' w' r1 r2
        exact ⟨a', c', w', hrun, h3⟩
      · subst h0
        obtain rfl : xs = [] := List.eq_nil_of_length_eq_zero hB.1
        obtain ⟨v', w', hrun, r1, r2⟩ := run_append_arg_grows (P := P) w t ty e i (.int .u8 0) 1 1 ht hi0 hi1.1 hi1.2.1 hi1.2.2 rfl (by omega) b 0 0 (toV []) (by simp [toV]) (fun j u hu => by simp [toV] at hu) ⟨b2, off2, none⟩ m c (toV ys) (by rw [toV_length, hY.1, Nat.mul_one]) (isB_cells hY) (by omega) (by unfold maxLen; omega) (by omega)
        obtain ⟨a', c', rfl, h3⟩ := fin v' w' r1 r2
        exact ⟨a', c', w', hrun, h3⟩
    | none =>
      have h0 : lo = 0 := by
        rcases Nat.eq_zero_or_pos lo with h | h
        · exact h
        · obtain ⟨b, off, hb, _⟩ := hB.2 h
          cases hb
      subst h0
      obtain rfl : xs = [] := List.eq_nil_of_length_eq_zero hB.1
      obtain ⟨v', w', hrun, r1, r2, _⟩ := run_append_own (P := P) w w.heap.size t ty e i (.int .u8 0) 1 1 ht hi0 hi1.1 hi1.2.1 hi1.2.2 rfl (by omega) (.slice none 0 0) 0 [] (World.ownsRow_nil _ _ _ _) ⟨b2, off2, none⟩ m c (toV ys) (by rw [toV_length, hY.1, Nat.mul_one]) (isB_cells hY) (toV_one ys) (by unfold maxLen; omega) (by omega) (Nat.le_refl _)
      obtain ⟨a', c', rfl, h3⟩ := fin v' w' (by simpa [toV] using r1) r2
      exact ⟨a', c', w', hrun, h3⟩
end Go.Proofs.Ytbnlkfcaahgpmaa

/-
  Bytes and texts put behind the bytes of a conversion, or of a row of the call's own: by cells. Of no program.
-/
namespace Go.Proofs.Ytbnlkfcaahgpmaa
open Go.RowKit
set_option linter.unusedVariables false

theorem wpList_append_run {P : Program} {ops : Array Oper} {rest : List Oper} {o : Oper} {a : Act} {w w' : World} {Q : Exit → Act → World → Prop} (hgd : o.guard = none) (s x : Operand) (t u : TypeId) (hop : o.op = Op.call { callee := Callee.builtin Builtin.append, args := #[s, x], argTypes := #[t, u] })
    (vs vx v' : Value) (hs : a.eval s = vs) (hx : a.eval x = vx) (hrun : (Builtin.append_ #[t, u] o.type #[vs, vx]).run P w = .ok v' w') (h : wpList P ops Q rest (a.put o.dst v') w') : wpList P ops Q (o :: rest) a w := by
  refine wpList_plain hgd fun K hK => ?_
  unfold Oper.wp
  simp [execOp, hop, resolve, invoke, builtin, hs, hx, hrun, Result.andThen]
  exact hK _ _ h

/-- Bytes in a block, with room behind them that may be written. -/
structure BufC (w : World) (base g n cap : Nat) (bs : List UInt8) : Prop where
  low : base ≤ g
  lt : g < w.heap.size
  room : n ≤ cap
  len : bs.length = n
  cell : ∀ j, j < n → w.cell? ⟨g, j, none⟩ = some (.int .u8 ((bs.getD j 0).toNat : Int))
  free : ∀ j, j < cap → (w.cell? ⟨g, j, none⟩).isSome = true ∧ w.frozen? ⟨g, j, none⟩ = false
theorem BufC.isB {w : World} {base g n cap : Nat} {bs : List UInt8} (h : BufC w base g n cap bs) : IsB w (some ⟨g, 0, none⟩) n bs :=
  ⟨h.len, fun _ => ⟨g, 0, rfl, h.lt, fun j hj => by rw [Nat.zero_add]; exact h.cell j hj⟩⟩
theorem BufC.below {w x : World} {base g n cap : Nat} {bs : List UInt8} (h : BufC w base g n cap bs) (hb : Below w.heap.size w x) : BufC x base g n cap bs := by
  have hc : ∀ j, x.cell? ⟨g, j, none⟩ = w.cell? ⟨g, j, none⟩ := fun j => hb.cell (p := ⟨g, j, none⟩) h.lt
  have hf : ∀ j, x.frozen? ⟨g, j, none⟩ = w.frozen? ⟨g, j, none⟩ := fun j => World.frozen?_of_block (a := ⟨g, j, none⟩) (hb.block g h.lt)
  exact ⟨h.low, Nat.lt_of_lt_of_le h.lt hb.size, h.room, h.len, fun j hj => (hc j).trans (h.cell j hj), fun j hj => by rw [hc, hf]; exact h.free j hj⟩
theorem bufC_conv (w : World) (e : TypeId) (s : ByteArray) : BufC (Lib.bytesWorld w e s) w.heap.size w.heap.size s.size (grownCap w s.size 0 e) s.data.toList := by
  have hge := grownCap_ge w s.size 0 e
  have hsz : (Lib.bytesCells w e s).size = grownCap w s.size 0 e := by
    have h1 : s.data.size = s.size := rfl
    simp only [Lib.bytesCells, Array.size_append, Array.size_map, Array.size_replicate, h1]
    omega
  have hat := Lib.bytesWorld_at_new w e s
  rw [hsz] at hat
  refine ⟨Nat.le_refl _, by rw [Lib.bytesWorld_size]; omega, hge, data_length s, fun j hj => Lib.bytesWorld_cell w e s j hj, fun j hj => ⟨?_, ?_⟩⟩
  · rw [cell_of_row _ _ _ _ _ _ hat, Array.getElem?_eq_getElem (by rw [hsz]; exact hj)]
    rfl
  · simp only [World.frozen?, hat, Bool.and_eq_false_iff, decide_eq_false_iff_not]
    left
    omega
theorem bufC_own {w : World} {base n : Nat} {e : TypeId} {v : Value} {bs : List UInt8} (h : w.ownsRow base e 1 v n (toV bs)) (hn : 0 < n) : ∃ g cap, v = .slice (some ⟨g, 0, none⟩) n cap ∧ BufC w base g n cap bs := by
  have hl : bs.length = n := by
    have := h.1
    rw [toV_length] at this
    omega
  rcases h.2 with ⟨_, h0⟩ | ⟨g, cap, cur, rfl, hb, hg, hnc, _, hcs, _⟩
  · omega
  · refine ⟨g, cap, rfl, hb, (h.lt g rfl).2, hnc, hl, fun j hj => (h.cellAt j (by omega)).trans (toV_get bs j (by omega)), fun j hj => ⟨?_, h.frozenAt j⟩⟩
    rw [cell_of_row _ _ _ _ _ _ hg, Array.getElem?_eq_getElem (by omega)]
    rfl
theorem below_setCells {B b : Nat} : ∀ (vs : List Value) (o : Nat) (w : World), B ≤ b → Below B w (w.setCells b o vs)
  | [], _, w, _ => Below.refl _ _
  | v :: vs, o, w, h => ((Below.refl B w).setCell (p := ⟨b, o, none⟩) h v).trans (below_setCells vs (o + 1) _ h)
theorem BufC.put {w : World} {base g n cap : Nat} {bs ys : List UInt8} (h : BufC w base g n cap bs) (hr : n + ys.length ≤ cap) : BufC (w.setCells g n (toV ys)) base g (n + ys.length) cap (bs ++ ys) := by
  have hb := below_setCells (B := 0) (b := g) (toV ys) n w (Nat.zero_le _)
  have hin := World.cell?_setCells_in g (toV ys) n w (fun j hj => (h.free (n + j) (by rw [toV_length] at hj; omega)).1)
  refine ⟨h.low, Nat.lt_of_lt_of_le h.lt hb.size, hr, by rw [List.length_append, h.len], fun j hj => ?_, fun j hj => ⟨?_, by rw [World.frozen?_setCells]; exact (h.free j hj).2⟩⟩
  · by_cases hjn : j < n
    · rw [World.cell?_setCells_out g (toV ys) n w _ (fun _ _ => .inl hjn), h.cell j hjn]
      rw [List.getD_eq_getElem?_getD, List.getD_eq_getElem?_getD, List.getElem?_append_left (by rw [h.len]; exact hjn)]
    · obtain ⟨k, rfl⟩ : ∃ k, j = n + k := ⟨j - n, by omega⟩
      have hk : k < ys.length := by omega
      rw [hin k (by rw [toV_length]; exact hk)]
      have e : (bs ++ ys).getD (n + k) 0 = ys.getD k 0 := by
        rw [List.getD_eq_getElem?_getD, List.getD_eq_getElem?_getD, List.getElem?_append_right (by rw [h.len]; omega), h.len]
        congr 2
        omega
      rw [e]
      have h2 := toV_get ys k hk
      rw [List.getElem?_eq_getElem (by rw [toV_length]; exact hk)] at h2
      exact h2
  · by_cases hjn : n ≤ j ∧ j < n + ys.length
    · obtain ⟨k, rfl⟩ : ∃ k, j = n + k := ⟨j - n, by omega⟩
      rw [hin k (by rw [toV_length]; omega)]
      rfl
    · rw [World.cell?_setCells_out g (toV ys) n w _ (fun _ _ => by rw [toV_length]; show j < n ∨ n + ys.length ≤ j; omega)]
      exact (h.free j hj).1

section
theorem run_append_c {P : Program} (w : World) (t e : TypeId) (ht : P.underlying t = some (.slice e)) (hi : (P.info? e).map (fun i => (i.zero, i.size, i.bytes)) = some (some (.int .u8 0), 1, 1)) (ty : TypeId) {base g n cap : Nat} {bs : List UInt8} (h : BufC w base g n cap bs) (b2 off2 m c : Nat) (ys : List UInt8) (hY : IsB w (some ⟨b2, off2, none⟩) m ys) (hm : 0 < n + m) (hz : n + m ≤ 140737488355328) (hb : base ≤ w.heap.size) :
    ∃ g' cap' w', (Builtin.append_ #[t, t] ty #[.slice (some ⟨g, 0, none⟩) n cap, .slice (some ⟨b2, off2, none⟩) m c]).run P w = .ok (.slice (some ⟨g', 0, none⟩) (n + m) cap') w' ∧ BufC w' base g' (n + m) cap' (bs ++ ys) ∧ Below base w w' := by
  obtain ⟨i, hi0, hi1⟩ := Option.map_eq_some_iff.1 hi
  simp only [Prod.mk.injEq] at hi1
  have hyl := hY.1
  by_cases hr : n + m ≤ cap
  · have hrun := run_append_room_cells (P := P) w t ty e i ht hi0 g 0 n cap ⟨b2, off2, none⟩ m c (toV ys) (by rw [toV_length, hyl, hi1.2.1, Nat.mul_one]) (isB_cells hY) (toV_one ys) hr
      (fun j hj => by rw [toV_length] at hj; rw [hi1.2.1, Nat.mul_one, Nat.zero_add]; exact (h.free (n + j) (by omega)).1) (fun j hj => by rw [toV_length] at hj; rw [hi1.2.1, Nat.mul_one, Nat.zero_add]; exact (h.free (n + j) (by omega)).2)
    rw [hi1.2.1, Nat.mul_one, Nat.zero_add] at hrun
    have hp := h.put (ys := ys) (by omega)
    rw [hyl] at hp
    exact ⟨g, cap, _, hrun, hp, below_setCells _ _ _ h.low⟩
  · obtain ⟨v', w', hrun, r1, r2⟩ := run_append_arg_grows (P := P) w t ty e i (.int .u8 0) 1 1 ht hi0 hi1.1 hi1.2.1 hi1.2.2 rfl (by omega) ⟨g, 0, none⟩ n cap (toV bs) (by rw [toV_length, h.len, Nat.mul_one]) (isB_cells h.isB) ⟨b2, off2, none⟩ m c (toV ys) (by rw [toV_length, hyl, Nat.mul_one]) (isB_cells hY) (by omega) (by unfold maxLen; omega) (by omega)
    rw [← toV_append] at r1
    obtain ⟨g', cap', rfl, hB⟩ := bufC_own r1 hm
    exact ⟨g', cap', w', hrun, ⟨Nat.le_trans hb hB.low, hB.lt, hB.room, hB.len, hB.cell, hB.free⟩, ⟨r2.os, r2.tape, r2.output, r2.size, fun k hk => r2.block k (Nat.lt_of_lt_of_le hk hb) (by simp)⟩⟩
theorem run_append_cs {P : Program} (w : World) (t e : TypeId) (ht : P.underlying t = some (.slice e)) (hi : (P.info? e).map (fun i => (i.zero, i.size, i.bytes)) = some (some (.int .u8 0), 1, 1)) (u ty : TypeId) (hu : P.underlying u = some .string) {base g n cap : Nat} {bs : List UInt8} (h : BufC w base g n cap bs) (s : ByteArray) (hm : 0 < n + s.size) (hz : n + s.size ≤ 140737488355328) (hb : base ≤ w.heap.size) :
    ∃ g' cap' w', (Builtin.append_ #[t, u] ty #[.slice (some ⟨g, 0, none⟩) n cap, .string s]).run P w = .ok (.slice (some ⟨g', 0, none⟩) (n + s.size) cap') w' ∧ BufC w' base g' (n + s.size) cap' (bs ++ s.data.toList) ∧ Below base w w' := by
  obtain ⟨i, hi0, hi1⟩ := Option.map_eq_some_iff.1 hi
  simp only [Prod.mk.injEq] at hi1
  have hsl := data_length s
  have hst0 : Lib.strCells s = toV s.data.toList := by
    have := toV_str [] s
    simpa [toV] using this
  by_cases hr : n + s.size ≤ cap
  · have hf := Lib.run_firstCells_string (P := P) w 1 s
    have hst := run_storeCells_cells (P := P) g n (Lib.strCells s) 0 w (fun j hj => by rw [Lib.strCells_length] at hj; exact (h.free (n + 0 + j) (by omega)).1) (fun j hj => by rw [Lib.strCells_length] at hj; exact (h.free (n + 0 + j) (by omega)).2) (Lib.strCells_oneCell s)
    simp only [Nat.add_zero] at hst
    have hrun : (Builtin.append_ #[t, u] ty #[.slice (some ⟨g, 0, none⟩) n cap, .string s]).run P w = .ok (.slice (some ⟨g, 0, none⟩) (n + s.size) cap) (w.setCells g n (Lib.strCells s)) := by
      simp [Builtin.append_, run_underlying ht, run_underlying hu, sizeOf, typeInfo, hi0, hi1.2.1, Builtin.lenOf, hr, hf, Addr.add_lit, hst]
    rw [hst0] at hrun
    have hp := h.put (ys := s.data.toList) (by omega)
    rw [hsl] at hp
    exact ⟨g, cap, _, hrun, hp, below_setCells _ _ _ h.low⟩
  · have hr2 := Lib.run_append_grow_string (P := P) w t u ty e i (.int .u8 0) ht hu hi0 hi1.1 ⟨g, 0, none⟩ n cap (toV bs) (by rw [toV_length, h.len, hi1.2.1, Nat.mul_one]) (isB_cells h.isB) s (by omega) (by omega) (by rw [hi1.2.2]; exact growslice_fits (by omega) (by omega))
    have hge := grownCap_ge w (n + s.size) cap e
    have hcm : grownCap w (n + s.size) cap e ≤ maxLen := grownCap_le_maxLen w (n + s.size) cap e (by unfold maxLen; omega)
    refine ⟨w.heap.size, _, _, hr2, ?_, ?_⟩
    · have hown : (w.drew.alloc (.cells ((toV bs).toArray ++ (Lib.strCells s).toArray ++ Builtin.zeroCells (Value.int .u8 0).cells (grownCap w (n + s.size) cap e - (n + s.size))) e)).ownsRow w.heap.size e 1 (.slice (some ⟨w.heap.size, 0, none⟩) (n + s.size) (grownCap w (n + s.size) cap e)) (n + s.size) (toV (bs ++ s.data.toList)) := by
        have hlen : (toV (bs ++ s.data.toList)).length = n + s.size := by rw [toV_length, List.length_append, h.len, hsl]
        refine ⟨by rw [hlen, Nat.mul_one], .inr ⟨w.heap.size, _, _, rfl, Nat.le_refl _, heap_alloc_new w.drew _, hge, hcm, ?_, ?_⟩⟩
        · have hz1 : (Value.int IntKind.u8 0).cells.size = 1 := rfl
          simp only [Array.size_append, List.size_toArray, size_zeroCells, hz1, toV_length, h.len, Lib.strCells_length]
          omega
        · simp only [Array.toList_append, List.append_assoc]
          rw [← List.append_assoc, hst0, ← toV_append, Nat.mul_one, ← hlen]
          exact List.take_left
      obtain ⟨g', cap', hv, hB⟩ := bufC_own hown hm
      injection hv with h1 h2 h3
      injection h1 with h4
      injection h4 with h5
      subst h5 h3
      exact ⟨Nat.le_trans hb hB.low, hB.lt, hB.room, hB.len, hB.cell, hB.free⟩
    · exact ⟨rfl, rfl, rfl, by simp, fun k hk => heap_alloc_old w.drew _ (show k < w.drew.heap.size from Nat.lt_of_lt_of_le hk hb)⟩
end
end Go.Proofs.Ytbnlkfcaahgpmaa

/-
  Pages in memory: how they are read, loaded and stored.
-/
namespace Go.Proofs.Ytbnlkfcaahgpmaa
open Go.RowKit
set_option linter.unusedVariables false

/-- A page in memory. -/
def PgAt (w : World) (b : Nat) (p : Pg) : Prop := w.heap[b]? = some (.cells (pgA p) 77 (0, 0))
theorem PgAt.lsn {w : World} {b : Nat} {p : Pg} (h : PgAt w b p) : w.cell? ⟨b, 0, none⟩ = some (.int .u64 p.l) := by
  rw [cell_of_row w b 0 _ _ (0, 0) h]
  rfl
theorem PgAt.used {w : World} {b : Nat} {p : Pg} (h : PgAt w b p) (i : Nat) (hi : i < 8) : w.cell? ⟨b, 1 + i * 2, none⟩ = some (.bool (p.u i)) := by
  rw [cell_of_row w b (1 + i * 2) _ _ (0, 0) h]
  exact pgA_used p i hi
theorem PgAt.val {w : World} {b : Nat} {p : Pg} (h : PgAt w b p) (i : Nat) (hi : i < 8) : w.cell? ⟨b, 1 + i * 2 + 1, none⟩ = some (.string (p.s i)) := by
  rw [cell_of_row w b (1 + i * 2 + 1) _ _ (0, 0) h]
  exact pgA_val p i hi
theorem PgAt.below {w w' : World} {b B : Nat} {p : Pg} (h : PgAt w b p) (hb : Below B w w') (hB : b < B) : PgAt w' b p := (hb.block b hB).trans h

theorem PgAt.alloc {w : World} {b : Nat} {p : Pg} (h : PgAt w b p) (hb : b < w.heap.size) (o : Obj) : PgAt (w.alloc o) b p := h.below ((Below.refl w.heap.size w).alloc (Nat.le_refl _) o) hb
theorem load_page {b : Nat} {p : Pg} (x : World) (h : PgAt x b p) : (Instr.loadAt 77 (.pointer (some ⟨b, 0, none⟩))).run Try.prog x = .ok (.agg (pgA p)) x := by
  have h1 := run_loadVar_row (P := Try.prog) x b 77 77 (pgA p) (0, 0) _ h Try.underlying77 rfl (by show _ = some 17; kernel_rfl)
  simp only [Instr.loadAt, Instr.sureAddr, Sem.run_bind, Sem.run_pure, Result.andThen_ok, h1]

/-- All cells of a page. -/
theorem PgAt.all {x : World} {b : Nat} {p : Pg} (h : PgAt x b p) : x.cell? ⟨b, 0, none⟩ = some (.int .u64 p.l) ∧ x.cell? ⟨b, 1, none⟩ = some (.bool (p.u 0)) ∧ x.cell? ⟨b, 2, none⟩ = some (.string (p.s 0)) ∧ x.cell? ⟨b, 3, none⟩ = some (.bool (p.u 1)) ∧ x.cell? ⟨b, 4, none⟩ = some (.string (p.s 1)) ∧ x.cell? ⟨b, 5, none⟩ = some (.bool (p.u 2)) ∧ x.cell? ⟨b, 6, none⟩ = some (.string (p.s 2)) ∧ x.cell? ⟨b, 7, none⟩ = some (.bool (p.u 3)) ∧ x.cell? ⟨b, 8, none⟩ = some (.string (p.s 3)) ∧ x.cell? ⟨b, 9, none⟩ = some (.bool (p.u 4)) ∧ x.cell? ⟨b, 10, none⟩ = some (.string (p.s 4)) ∧ x.cell? ⟨b, 11, none⟩ = some (.bool (p.u 5)) ∧ x.cell? ⟨b, 12, none⟩ = some (.string (p.s 5)) ∧ x.cell? ⟨b, 13, none⟩ = some (.bool (p.u 6)) ∧ x.cell? ⟨b, 14, none⟩ = some (.string (p.s 6)) ∧ x.cell? ⟨b, 15, none⟩ = some (.bool (p.u 7)) ∧ x.cell? ⟨b, 16, none⟩ = some (.string (p.s 7)) :=
  ⟨h.lsn, h.used 0 (by omega), h.val 0 (by omega), h.used 1 (by omega), h.val 1 (by omega), h.used 2 (by omega), h.val 2 (by omega), h.used 3 (by omega), h.val 3 (by omega), h.used 4 (by omega), h.val 4 (by omega), h.used 5 (by omega), h.val 5 (by omega), h.used 6 (by omega), h.val 6 (by omega), h.used 7 (by omega), h.val 7 (by omega)⟩

theorem pg_drew {w : World} {b : Nat} {p : Pg} (h : PgAt w b p) : PgAt w.drew b p := h

theorem res_page {fn : Func} {p u : Tmp} (h : fn.results = #[.cell p 77, .tmp u]) (tmps : Array Value) (w : World) (g : Nat) (q : Pg) (hp : tmps.getD p undef = .pointer (some ⟨g, 0, none⟩)) (hg : PgAt w g q) :
    (results fn tmps).run Try.prog w = .ok (.tuple #[.agg (pgA q), tmps.getD u undef]) w := by
  have h1 := run_loadVar_row (P := Try.prog) w g 77 77 (pgA q) (0, 0) _ hg Try.underlying77 rfl (by show _ = some 17; kernel_rfl)
  rw [results_cell_tmp h, hp]
  simp only [asAddr, Sem.run_pure, Result.andThen_ok, h1]

theorem ne_list2 (s : ByteArray) (l : List UInt8) (h : l ≠ s.data.toList) : ((⟨l.toArray⟩ : ByteArray).toList == s.toList) = false := by
  rw [beq_eq_false_iff_ne]
  intro e
  apply h
  have e1 : ∀ b : ByteArray, b.toList = b.data.toList := fun b => ByteArray.toList_eq b
  rw [e1, e1] at e
  exact e

theorem pgA_one (q : Pg) : (pgA q).all (·.oneCell') = true := by simp [pgA, Value.oneCell']

/-- A page stored over another one. -/
theorem wpList_store_page {ops : Array Oper} {rest : List Oper} {o : Oper} {a : Act} {w : World} {Q : Exit → Act → World → Prop} (hgd : o.guard = none) (x y : Operand) (ho : o.op = .store 77 x y)
    (g : Nat) (q0 q : Pg) (hx : a.eval x = .pointer (some ⟨g, 0, none⟩)) (hy : a.eval y = .agg (pgA q)) (hg : PgAt w g q0)
    (h : ∀ w2, PgAt w2 g q → (∀ B w0, Below B w0 w → B ≤ g → Below B w0 w2) → wpList Try.prog ops Q rest (a.put o.dst undef) w2) : wpList Try.prog ops Q (o :: rest) a w := by
  have hi : (Try.prog.info? 77).map (·.size) = some (pgA q).size := by show _ = some 17; kernel_rfl
  refine wpList_store_row hgd 77 x y ho g (pgA q) hx hy 77 (pgA q0) hg hi rfl (pgA_one q) (h _ ?_ fun B w0 hb hB => ?_)
  · exact setRow_heap w g (pgA q0) (pgA q) 77 (0, 0) hg
  · exact ⟨hb.1, hb.2, hb.3, by simp [World.setRow]; exact hb.4, fun k hk => (setRow_other w g k _ (by omega)).trans (hb.5 k hk)⟩

theorem PgAt.free {w : World} {b : Nat} {p : Pg} (h : PgAt w b p) (j : Nat) : w.frozen? ⟨b, j, none⟩ = false := frozen_of_row w b j _ _ h
theorem PgAt.other {w : World} {b : Nat} {p : Pg} (h : PgAt w b p) (a : Addr) (v : Value) (hn : b ≠ a.block) : PgAt (w.setCell a v) b p := (heap_setCell_other w a b v hn).trans h

/-- A page that is loaded, under a guard or not. -/
theorem wpList_load_page {ops : Array Oper} {rest : List Oper} {o : Oper} {a : Act} {w : World} {Q : Exit → Act → World → Prop} (hw : Region.wanted o (yielded ops a.tmps) = true) (x : Operand) (ho : o.op = .load 77 x)
    (g : Nat) (hx : a.eval x = .pointer (some ⟨g, 0, none⟩)) (q : Pg) (hg : PgAt w g q) (h : wpList Try.prog ops Q rest (a.put o.dst (.agg (pgA q))) w) : wpList Try.prog ops Q (o :: rest) a w :=
  wpList_step fun K hK => by
    simp only [hw, if_true]
    exact wp_load_row 77 x ho g hx 77 (pgA q) (0, 0) _ hg Try.underlying77 rfl (by show _ = some 17; kernel_rfl) (hK _ _ h)
end Go.Proofs.Ytbnlkfcaahgpmaa

/-
  Eight cells as one value, and a cell: how they are loaded and indexed.
-/
namespace Go.Proofs.Ytbnlkfcaahgpmaa
open Go.RowKit
set_option linter.unusedVariables false

/-- A cell's cells. -/
def ceA (u : Bool) (s : ByteArray) : Array Value := #[.bool u, .string s]
theorem infoCe : (Try.prog.info? 63).map (·.size) = some 2 := by kernel_rfl
theorem ceA_one (u : Bool) (s : ByteArray) : (ceA u s).all (·.oneCell') = true := by simp [ceA, Value.oneCell']

/-- The eight cells of a page, as a value. -/
def csA (p : Pg) : Array Value := #[.bool (p.u 0), .string (p.s 0), .bool (p.u 1), .string (p.s 1), .bool (p.u 2), .string (p.s 2), .bool (p.u 3), .string (p.s 3), .bool (p.u 4), .string (p.s 4), .bool (p.u 5), .string (p.s 5), .bool (p.u 6), .string (p.s 6), .bool (p.u 7), .string (p.s 7)]
theorem infoCs : (Try.prog.info? 75).map (·.size) = some 16 := by kernel_rfl
theorem csA_one (p : Pg) : (csA p).all (·.oneCell') = true := by simp [csA, Value.oneCell']
theorem csA_ext (p : Pg) : ((pgA p).extract 1 (1 + 16)).toList = (csA p).toList := by simp [pgA, csA]
theorem same_csA {p q : Pg} (h : p.same q) : csA p = csA q := by
  apply Array.ext'
  rw [← csA_ext, ← csA_ext, same_pgA h]
theorem csA_len (p : Pg) : (Try.prog.info? 75).map (·.size) = some (csA p).toList.length := infoCs
theorem csA_used (p : Pg) (i : Nat) (h : i < 8) : (csA p)[i * 2]? = some (.bool (p.u i)) := by
  rcases lt8 h with rfl | rfl | rfl | rfl | rfl | rfl | rfl | rfl <;> rfl
theorem csA_val (p : Pg) (i : Nat) (h : i < 8) : (csA p)[i * 2 + 1]? = some (.string (p.s i)) := by
  rcases lt8 h with rfl | rfl | rfl | rfl | rfl | rfl | rfl | rfl <;> rfl

theorem load_cs {b : Nat} {p : Pg} (x : World) (h : PgAt x b p) : (Instr.loadAt 75 (.pointer (some ⟨b, 1, none⟩))).run Try.prog x = .ok (.agg (csA p)) x := by
  have hr := World.rangeAt_of_block h 1 16
  rw [csA_ext] at hr
  have h1 := run_loadAt_mid (P := Try.prog) x b 1 75 _ _ hr Try.underlying75 rfl (csA_len p)
  rwa [Array.toArray_toList] at h1

/-- A page's eight cells that are loaded, under a guard or not. -/
theorem wpList_load_cs {ops : Array Oper} {rest : List Oper} {o : Oper} {a : Act} {w : World} {Q : Exit → Act → World → Prop} (hw : Region.wanted o (yielded ops a.tmps) = true) (x : Operand) (ho : o.op = .load 75 x)
    (g : Nat) (hx : a.eval x = .pointer (some ⟨g, 1, none⟩)) (q : Pg) (hg : PgAt w g q) (h : wpList Try.prog ops Q rest (a.put o.dst (.agg (csA q))) w) : wpList Try.prog ops Q (o :: rest) a w :=
  wpList_step fun K hK => by
    simp only [hw, if_true]
    unfold Oper.wp execOp
    simp only [ho, hx, Sem.run_bind, load_cs w hg, Result.andThen_ok, Sem.run_pure]
    exact hK _ _ h

theorem run_index_cs (p : Pg) (j : Nat) (hj : j < 8) (w : World) : (Instr.index 75 (.agg (csA p)) (.int .i64 (j : Int))).run Try.prog w = .ok (.agg (ceA (p.u j) (p.s j))) w := by
  rcases lt8 hj with rfl | rfl | rfl | rfl | rfl | rfl | rfl | rfl <;> kernel_rfl

/-- One of eight cells. -/
theorem wpList_index_cs {ops : Array Oper} {rest : List Oper} {o : Oper} {a : Act} {w : World} {Q : Exit → Act → World → Prop} (hw : Region.wanted o (yielded ops a.tmps) = true) (x y : Operand) (ho : o.op = .index 75 x y)
    (p : Pg) (j : Nat) (hj : j < 8) (hx : a.eval x = .agg (csA p)) (hy : a.eval y = .int .i64 (j : Int)) (h : wpList Try.prog ops Q rest (a.put o.dst (.agg (ceA (p.u j) (p.s j)))) w) : wpList Try.prog ops Q (o :: rest) a w :=
  wpList_step fun K hK => by
    simp only [hw, if_true]
    unfold Oper.wp execOp
    simp only [ho, hx, hy, Sem.run_bind, run_index_cs p j hj w, Result.andThen_ok, Sem.run_pure]
    exact hK _ _ h
end Go.Proofs.Ytbnlkfcaahgpmaa

/-
  Changes and pages in memory.
-/

/-
  The contracts of package change's refusal, made, inverseKind, kindOf and rightCells.
-/
namespace Go.Proofs.Ytbnlkfcaahgpmaa
open Go.RowKit
set_option linter.unusedVariables false

/-- Why a cell can't be changed so. -/
def refE (u : Bool) (s : ByteArray) (c : Ch) : Int := if c.k = 1 then (if u = true then 6 else if s ≠ c.o then 2 else 0) else if u = false then 5 else if s ≠ c.o then 2 else 0

theorem ne_text {s t : ByteArray} (h : s ≠ t) : (s.toList == t.toList) = false := by
  rw [beq_eq_false_iff_ne]
  intro h2
  apply h
  rw [ByteArray.toList_eq, ByteArray.toList_eq] at h2
  rw [← mk_data s, h2, mk_data]

theorem two_new (w : World) (A B : Array Value) (t t2 : TypeId) : RowAt ((w.alloc (.cells A t)).alloc (.cells B t2)) w.heap.size t A ∧ RowAt ((w.alloc (.cells A t)).alloc (.cells B t2)) (w.heap.size + 1) t2 B ∧ Below w.heap.size w ((w.alloc (.cells A t)).alloc (.cells B t2)) := by
  have e1 : (w.alloc (.cells A t)).heap.size = w.heap.size + 1 := by simp
  have b1 := (Below.refl w.heap.size w).alloc (Nat.le_refl _) (.cells A t)
  have b2 := (Below.refl _ (w.alloc (.cells A t))).alloc (Nat.le_refl _) (.cells B t2)
  refine ⟨(RowAt.new w _ _).later b2, ?_, b1.trans (b2.mono (by omega))⟩
  have h := RowAt.new (w.alloc (.cells A t)) t2 B
  rw [e1] at h
  exact h

set_option maxRecDepth 4000 in
set_option maxHeartbeats 400000 in
theorem refuse_at (u : Bool) (s : ByteArray) (c : Ch) (w : World) (r : Int) (Hr : Hid (refE u s c = r)) :
    Calls Try.prog 37 #[.agg (ceA u s), .agg (chA c)] w fun e w' => e = .returned (.int .i64 r) ∧ Below w.heap.size w w' := by
  obtain ⟨r0, r1, hb0⟩ := two_new w (ceA u s) (chA c) 63 26
  have c0 := r0.cell 0 (.bool u) rfl
  have c1 := r0.cell 1 (.string s) rfl
  obtain ⟨a0, a1, a2, a3, a4⟩ := ChAt.all r1
  clear r0 r1 a1 a2 a4
  by_cases k1 : c.k = 1
  · have e : refE u s c = if u = true then 6 else if s ≠ c.o then 2 else 0 := by unfold refE; rw [if_pos k1]
    rw [k1] at a0
    clear k1
    cases u
    · by_cases hs : s = c.o
      · obtain rfl : r = 0 := by rw [← Hr.out, e, if_neg (by simp), if_neg (by simp [hs])]
        clear Hr e
        subst hs
        go_enter Try.func37, Try.ntmps37
        generalize c.o = o at *
        go_wp2
        go_ret
        exact ⟨rfl, hb0⟩
      · obtain rfl : r = 2 := by rw [← Hr.out, e, if_neg (by simp), if_pos hs]
        have hn := ne_text hs
        clear Hr e hs
        go_enter Try.func37, Try.ntmps37
        generalize c.o = o at *
        go_wp2
        go_ret
        exact ⟨rfl, hb0⟩
    · obtain rfl : r = 6 := by rw [← Hr.out, e, if_pos rfl]
      clear Hr e
      go_enter Try.func37, Try.ntmps37
      generalize c.o = o at *
      go_wp2
      go_ret
      exact ⟨rfl, hb0⟩
  · have e : refE u s c = if u = false then 5 else if s ≠ c.o then 2 else 0 := by unfold refE; rw [if_neg k1]
    have j1 : (c.k == 1) = false := by simpa using k1
    clear k1
    cases u
    · obtain rfl : r = 5 := by rw [← Hr.out, e, if_pos rfl]
      clear Hr e
      go_enter Try.func37, Try.ntmps37
      generalize c.o = o at *
      generalize c.k = k at *
      go_wp2
      go_ret
      exact ⟨rfl, hb0⟩
    · by_cases hs : s = c.o
      · obtain rfl : r = 0 := by rw [← Hr.out, e, if_neg (by simp), if_neg (by simp [hs])]
        clear Hr e
        subst hs
        go_enter Try.func37, Try.ntmps37
        generalize c.o = o at *
        generalize c.k = k at *
        go_wp2
        go_ret
        exact ⟨rfl, hb0⟩
      · obtain rfl : r = 2 := by rw [← Hr.out, e, if_neg (by simp), if_pos hs]
        have hn := ne_text hs
        clear Hr e hs
        go_enter Try.func37, Try.ntmps37
        generalize c.o = o at *
        generalize c.k = k at *
        go_wp2
        go_ret
        exact ⟨rfl, hb0⟩
theorem refuse_any (u : Bool) (s : ByteArray) (c : Ch) (w : World) :
    Calls Try.prog 37 #[.agg (ceA u s), .agg (chA c)] w fun e w' => e = .returned (.int .i64 (refE u s c)) ∧ Below w.heap.size w w' := refuse_at u s c w _ (hide rfl)

set_option maxRecDepth 4000 in
set_option maxHeartbeats 400000 in
theorem made_at (c : Ch) (w : World) (u : Bool) (s : ByteArray) (Hr : Hid (c.makeU = u ∧ c.makeV = s)) :
    Calls Try.prog 38 #[.agg (chA c)] w fun e w' => e = .returned (.agg (ceA u s)) ∧ Below w.heap.size w w' := by
  obtain ⟨r0, r1, hb0⟩ := two_new w (chA c) #[.bool false, .string ⟨#[]⟩] 26 63
  obtain ⟨a0, a1, a2, a3, a4⟩ := ChAt.all r0
  have H1 := hide (And.intro r1 hb0)
  clear r0 r1 hb0 a1 a2 a3
  by_cases k3 : c.k = 3
  · obtain ⟨rfl, rfl⟩ : u = false ∧ s = ⟨#[]⟩ := by
      rw [← Hr.out.1, ← Hr.out.2]
      unfold Ch.makeU Ch.makeV
      rw [if_pos k3]
      exact ⟨decide_eq_false (fun h => h k3), rfl⟩
    rw [k3] at a0
    clear Hr k3
    go_enter Try.func38, Try.ntmps38
    generalize c.n = n at *
    go_wp2_with (refine wpList_store_at rfl 63 (.tmp 2) (.tmp 10) rfl (w.heap.size + 1) (ceA false ⟨#[]⟩) (ceA false ⟨#[]⟩) rfl rfl H1.out.1 infoCe rfl (ceA_one _ _) ?_)
    intro w2 hr2 hk2 _
    have d2 := hk2 _ _ H1.out.2 (by omega)
    have HR2 := hide hr2
    clear hr2 hk2 H1
    go_wp2
    exact bodyPost_ret (res_one rfl _ _ (w.heap.size + 1) _ _ rfl HR2.out Try.underlying63 rfl infoCe) rfl ⟨rfl, d2⟩
  · obtain ⟨rfl, rfl⟩ : u = true ∧ s = c.n := by
      rw [← Hr.out.1, ← Hr.out.2]
      unfold Ch.makeU Ch.makeV
      rw [if_neg k3]
      exact ⟨decide_eq_true k3, rfl⟩
    have j3 : (c.k == 3) = false := by simpa using k3
    clear Hr k3
    go_enter Try.func38, Try.ntmps38
    generalize c.n = n at *
    generalize c.k = k at *
    go_wp2_with (refine wpList_store_at rfl 63 (.tmp 2) (.tmp 7) rfl (w.heap.size + 1) (ceA false ⟨#[]⟩) (ceA true n) rfl rfl H1.out.1 infoCe rfl (ceA_one _ _) ?_)
    intro w2 hr2 hk2 _
    have d2 := hk2 _ _ H1.out.2 (by omega)
    have HR2 := hide hr2
    clear hr2 hk2 H1
    go_wp2
    exact bodyPost_ret (res_one rfl _ _ (w.heap.size + 1) _ _ rfl HR2.out Try.underlying63 rfl infoCe) rfl ⟨rfl, d2⟩
theorem made_any (c : Ch) (w : World) :
    Calls Try.prog 38 #[.agg (chA c)] w fun e w' => e = .returned (.agg (ceA c.makeU c.makeV)) ∧ Below w.heap.size w w' := made_at c w _ _ (hide ⟨rfl, rfl⟩)
end Go.Proofs.Ytbnlkfcaahgpmaa

/-
  A tape: its bytes, how many stand fast, its room, how many went. Of no program.
-/
namespace Go.Proofs.Ytbnlkfcaahgpmaa
open Go.RowKit
set_option linter.unusedVariables false

structure Tp where
  b : ByteArray
  f : Nat
  m : Nat
  s : Nat
/-- What every tape keeps to. -/
structure Tp.ok (t : Tp) : Prop where
  fast : t.f ≤ t.b.size
  few : t.b.size ≤ t.m
  room : t.m ≤ 65536
  went : t.s < 18446744073709551616
def Tp.new (r : Int) : Tp := ⟨⟨#[]⟩, 0, (max 0 (min r 65536)).toNat, 0⟩
def Tp.app (t : Tp) (x : ByteArray) : Tp × Int := if t.m < t.b.size + x.size then (t, 7) else ({ t with b := t.b ++ x }, 0)
def Tp.sync (t : Tp) : Tp := { t with f := t.b.size }
def Tp.cut (t : Tp) (n : Int) : Tp × Int := if n < 0 ∨ (t.f : Int) < n then (t, 1) else (⟨t.b.extract n.toNat t.b.size, t.f - n.toNat, t.m, (t.s + n.toNat) % 18446744073709551616⟩, 0)
def Tp.chop (t : Tp) (n : Int) : Tp × Int := if n < 0 ∨ (t.b.size : Int) < n then (t, 1) else ({ t with b := t.b.extract 0 n.toNat, f := min t.f n.toNat }, 0)
/-- How many of them are left. -/
def Tp.left (t : Tp) (k : Int) : Nat := t.f + (max 0 (min k ((t.b.size : Int) - (t.f : Int)))).toNat
def Tp.crash (t : Tp) (k : Int) : Tp := { t with b := t.b.extract 0 (t.left k), f := t.left k }

theorem Tp.left_le (t : Tp) (h : t.ok) (k : Int) : t.f ≤ t.left k ∧ t.left k ≤ t.b.size := by
  have := h.fast
  unfold Tp.left
  omega
theorem ext_size (b : ByteArray) (i j : Nat) (h : j ≤ b.size) : (b.extract i j).size = j - i := by rw [ByteArray.size_extract]; omega
theorem Tp.new_ok (r : Int) : (Tp.new r).ok := ⟨Nat.le_refl _, Nat.zero_le _, by unfold Tp.new; simp only; omega, by unfold Tp.new; simp only; omega⟩
theorem Tp.app_ok (t : Tp) (h : t.ok) (x : ByteArray) : (t.app x).1.ok := by
  unfold Tp.app
  by_cases g : t.m < t.b.size + x.size
  · rw [if_pos g]
    exact h
  · rw [if_neg g]
    have z : (t.b ++ x).size = t.b.size + x.size := ByteArray.size_append
    exact ⟨by show t.f ≤ (t.b ++ x).size; have := h.fast; omega, by show (t.b ++ x).size ≤ t.m; omega, h.room, h.went⟩
theorem Tp.sync_ok (t : Tp) (h : t.ok) : t.sync.ok := ⟨Nat.le_refl _, h.few, h.room, h.went⟩
theorem Tp.cut_ok (t : Tp) (h : t.ok) (n : Int) : (t.cut n).1.ok := by
  unfold Tp.cut
  by_cases g : n < 0 ∨ (t.f : Int) < n
  · rw [if_pos g]
    exact h
  · rw [if_neg g]
    have z := ext_size t.b n.toNat t.b.size (Nat.le_refl _)
    have := h.fast
    have := h.few
    exact ⟨by show t.f - n.toNat ≤ (t.b.extract n.toNat t.b.size).size; omega, by show (t.b.extract n.toNat t.b.size).size ≤ t.m; omega, h.room, Nat.mod_lt _ (by omega)⟩
theorem Tp.chop_ok (t : Tp) (h : t.ok) (n : Int) : (t.chop n).1.ok := by
  unfold Tp.chop
  by_cases g : n < 0 ∨ (t.b.size : Int) < n
  · rw [if_pos g]
    exact h
  · rw [if_neg g]
    have z := ext_size t.b 0 n.toNat (by omega)
    have := h.few
    exact ⟨by show min t.f n.toNat ≤ (t.b.extract 0 n.toNat).size; omega, by show (t.b.extract 0 n.toNat).size ≤ t.m; omega, h.room, h.went⟩
theorem Tp.crash_ok (t : Tp) (h : t.ok) (k : Int) : (t.crash k).ok := by
  have hl := t.left_le h k
  have z := ext_size t.b 0 (t.left k) hl.2
  have := h.few
  exact ⟨by show t.left k ≤ (t.b.extract 0 (t.left k)).size; omega, by show (t.b.extract 0 (t.left k)).size ≤ t.m; omega, h.room, h.went⟩

/-! ### What a call may turn -/
/-- Only this block, and what is new, was turned. -/
structure But (g : Nat) (w w' : World) : Prop where
  os : w'.os = w.os
  tape : w'.tape = w.tape
  output : w'.output = w.output
  size : w.heap.size ≤ w'.heap.size
  block : ∀ k, k < w.heap.size → k ≠ g → w'.heap[k]? = w.heap[k]?
theorem But.refl (g : Nat) (w : World) : But g w w := ⟨rfl, rfl, rfl, Nat.le_refl _, fun _ _ _ => rfl⟩
theorem But.trans {g : Nat} {w x y : World} (h : But g w x) (k : But g x y) : But g w y :=
  ⟨k.os.trans h.os, k.tape.trans h.tape, k.output.trans h.output, Nat.le_trans h.size k.size, fun i hi hn => (k.block i (Nat.lt_of_lt_of_le hi h.size) hn).trans (h.block i hi hn)⟩
theorem But.set {g : Nat} {w x : World} (h : But g w x) (j : Nat) (v : Value) : But g w (x.setCell ⟨g, j, none⟩ v) :=
  ⟨h.os, h.tape, h.output, Nat.le_trans h.size ((Below.refl 0 x).setCell (Nat.zero_le _) v).size, fun i hi hn => (heap_setCell_other x ⟨g, j, none⟩ i v hn).trans (h.block i hi hn)⟩
theorem But.drew {g : Nat} {w x : World} (h : But g w x) : But g w x.drew := ⟨h.os, h.tape, h.output, h.size, h.block⟩
theorem But.below {g n : Nat} {w x : World} (h : But g w x) (hn : n ≤ g) (hs : n ≤ w.heap.size) : Below n w x :=
  ⟨h.os, h.tape, h.output, h.size, fun i hi => h.block i (by omega) (by omega)⟩
theorem But.row {g k : Nat} {w x : World} {t : TypeId} {cs : Array Value} (h : But g w x) (hr : RowAt w k t cs) (hn : k ≠ g) : RowAt x k t cs := (h.block k hr.lt hn).trans hr
end Go.Proofs.Ytbnlkfcaahgpmaa
