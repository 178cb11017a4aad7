/-
  Texts that lean on one another, one behind the other: each opens with its own remark.
-/
import Derived.Test.YtgobegpmojkhaaaK05
import Derived.Test.YtgobegpmojkhaaaK04
import Derived.Test.YtgobegpmojkhaaaK02
import Derived.Test.YtgobegpmojkhaaaK03

/-
  The contracts of quaysideref07.Frame and Put.
-/
namespace Go.Proofs.Ytgobegpmojkhaaa
open Go.RowKit
set_option linter.unusedVariables false

set_option maxRecDepth 4000 in
set_option maxHeartbeats 1600000 in
theorem rframe_any (r : Rec) (va vb : Value) (w : World) (hr : r.right) (hin : RcIn w r va vb) :
    Calls Try.prog 25 #[.agg (rcA r va vb)] w fun e w' => e = .returned (.string (mkS (frameB r))) ∧ Below w.heap.size w w' := by
  have HIN := hide hin
  have HBY := hide (fun w h => bytes_any r va vb w hr h)
  have HFB : Hid (frameB r = sealB (beB 2 (recB r).length ++ recB r)) := rfl
  have hfew := rec_few r hr
  have HK0 := hide (Keeps.one w 28 (rcA r va vb))
  clear hin hr
  generalize frameB r = FB at *
  generalize recB r = L at *
  obtain ⟨A, hA⟩ : ∃ A, A = rcA r va vb := ⟨_, rfl⟩
  rw [← hA] at HK0 HBY ⊢
  have HIA : Hid ((Try.prog.info? 28).map (·.size) = some A.size) := by
    rw [hA]
    exact infoRc
  clear hA
  have hz := mkS_size L
  generalize hS : mkS L = S at *
  have HSS := hide hS
  clear hS
  obtain ⟨ln, hln⟩ : ∃ ln, ln = L.length := ⟨_, rfl⟩
  rw [← hln] at hfew HFB hz
  have HLN := hide hln
  clear hln
  have ewl : IntKind.u64.wrap (ln : Int) = (ln : Int) := by rw [IntKind.wrap_u64]; omega
  have HZ2 := hide (mkS_size (beB 2 ln))
  have HAD := hide (fun x => run_add_s (mkS (beB 2 ln)) S (by rw [HZ2.out, beB_length, hz]; omega) x)
  go_enter Try.func25, Try.ntmps25
  go_wp2_with (refine wpList_load_at rfl 28 (.tmp 1) rfl w.heap.size rfl A HK0.out.1.1 _ Try.underlying28 rfl HIA.out ?_)
  refine (HBY.out _ (HIN.out.below HK0.out.2)).mono ?_
  rintro e w1 ⟨rfl, hb1⟩
  have HD1 := hide (HK0.out.later hb1).2
  clear HK0 HBY hb1
  go_wp2_with fail
  refine (number_any 2 ln w1 (by omega) (by omega)).mono ?_
  rintro e w2 ⟨rfl, hb2⟩
  have HD2 := hide (HD1.out.trans (hb2.mono HD1.out.size))
  clear HD1 hb2
  have hadd := HAD.out w2
  have he9 : (⟨(beB 2 ln).toArray⟩ : ByteArray) = mkS (beB 2 ln) := rfl
  rw [he9]
  generalize hN : mkS (beB 2 ln) = N at *
  have HNN := hide hN
  clear hN he9
  go_wp2_with (refine wpList_binop rfl .add 9 _ _ _ rfl _ _ _ rfl rfl rfl hadd ?_)
  have e1 : (N ++ S).data.toList = beB 2 ln ++ L := by
    rw [← HNN.out, ← HSS.out]
    simp [mkS]
  have e2 : (⟨((N ++ S).data.toList ++ leB (crc (N ++ S).data.toList)).toArray⟩ : ByteArray) = mkS FB := by
    rw [HFB.out, e1]
    rfl
  have HSE := hide (rseal_any (N ++ S) w2 (by rw [ByteArray.size_append, HZ2.out, beB_length, hz]; omega))
  rw [e2] at HSE
  generalize hFS : mkS FB = FS at HSE
  have HFS := hide hFS
  clear e1 e2 hFS
  refine HSE.out.mono ?_
  rintro e w3 ⟨rfl, hb3⟩
  have d3 := HD2.out.trans (hb3.mono HD2.out.size)
  clear HD2 hb3
  go_wp2
  go_ret
  exact ⟨by rw [HFS.out]; rfl, d3⟩

set_option maxRecDepth 4000 in
set_option maxHeartbeats 1600000 in
theorem rput7_any (r : Rec) (va vb : Value) (w : World) (hf : r.fits) (hin : RcIn w r va vb) :
    Calls Try.prog 11 #[.agg (rcA r va vb)] w fun e w' => e = .returned (.tuple #[.string (mkS (putL r)), .int .i64 (encE r)]) ∧ Below w.heap.size w w' := by
  have HK0 := hide (Keeps.one w 28 (rcA r va vb))
  have HR := hide (fun w hin => rright6_any r va vb w hf.c hin)
  have HI := hide hin
  obtain ⟨A, hA⟩ : ∃ A, A = rcA r va vb := ⟨_, rfl⟩
  rw [← hA] at HK0 HR ⊢
  have HA := hide hA
  clear hA hf hin
  have HIA : Hid ((Try.prog.info? 28).map (·.size) = some A.size) := by
    rw [HA.out]
    exact infoRc
  by_cases hr : r.right
  · have e1 : putL r = frameB r := by unfold putL; rw [if_pos (rightB_yes hr)]
    have e2 : encE r = 0 := by unfold encE; rw [if_pos (rightB_yes hr)]
    rw [e1, e2]
    rw [rightB_yes hr] at HR
    have HB := hide (fun w hin => rframe_any r va vb w hr hin)
    rw [← HA.out] at HB
    clear e1 e2 hr
    generalize mkS (frameB r) = FS at *
    go_enter Try.func11, Try.ntmps11
    go_wp2_with (refine wpList_load_at rfl 28 (.tmp 1) rfl w.heap.size rfl A HK0.out.1.1 _ Try.underlying28 rfl HIA.out ?_)
    refine (HR.out _ (HI.out.below HK0.out.2)).mono ?_
    rintro e w1 ⟨rfl, hb1⟩
    have HK1 := hide (HK0.out.later hb1)
    clear HK0 HR hb1
    go_wp2_with (refine wpList_load_at rfl 28 (.tmp 1) rfl w.heap.size rfl A HK1.out.1.1 _ Try.underlying28 rfl HIA.out ?_)
    refine (HB.out _ (HI.out.below HK1.out.2)).mono ?_
    rintro e w2 ⟨rfl, hb2⟩
    have d2 := (HK1.out.later hb2).2
    clear HK1 HB hb2
    go_wp2
    go_ret2
    exact ⟨rfl, d2⟩
  · have e1 : putL r = [] := by unfold putL; rw [if_neg (by rw [rightB_no hr]; decide)]
    have e2 : encE r = 1 := by unfold encE; rw [if_neg (by rw [rightB_no hr]; decide)]
    rw [e1, e2]
    rw [rightB_no hr] at HR
    clear e1 e2 hr
    go_enter Try.func11, Try.ntmps11
    go_wp2_with (refine wpList_load_at rfl 28 (.tmp 1) rfl w.heap.size rfl A HK0.out.1.1 _ Try.underlying28 rfl HIA.out ?_)
    refine (HR.out _ (HI.out.below HK0.out.2)).mono ?_
    rintro e w1 ⟨rfl, hb1⟩
    have d1 := (HK0.out.later hb1).2
    clear HK0 HR hb1
    go_wp2
    go_ret2
    exact ⟨rfl, d1⟩
end Go.Proofs.Ytgobegpmojkhaaa

/-
  The document's Decode: the reader, the record that is read, the answer.
-/
namespace Go.Proofs.Ytgobegpmojkhaaa
open Go.RowKit
set_option linter.unusedVariables false

def zrA : Array Value := #[.int .i64 0, .int .u64 0, .int .i64 0, .int .u64 0, .int .i64 0, .int .i64 0, .int .i64 0, .string ⟨#[]⟩, .string ⟨#[]⟩, .int .u64 0, .int .i64 0, .int .u64 0, .slice none 0 0, .slice none 0 0]
/-- The reader's block, the record's, the answer's, and structs beside them. -/
structure DK (w y : World) (gr g gx : Nat) (b : ByteArray) (s : St) (r : Rec) (va vb : Value) (l : List (Nat × TypeId × Array Value)) : Prop where
  rd : RdAt y g b s
  xr : RowAt y gx 28 (rcA r va vb)
  zr : RowAt y gr 28 #[.int .i64 0, .int .u64 0, .int .i64 0, .int .u64 0, .int .i64 0, .int .i64 0, .int .i64 0, .string ⟨#[]⟩, .string ⟨#[]⟩, .int .u64 0, .int .i64 0, .int .u64 0, .slice none 0 0, .slice none 0 0]
  bel : Below w.heap.size w y
  got : GotIn w.heap.size y r va vb
  has : Has y l
/-- Where these lie. -/
structure Lie (w : World) (gr g gx : Nat) : Prop where
  a : w.heap.size ≤ gr
  b : w.heap.size ≤ g
  c : w.heap.size ≤ gx
  d : gr ≠ g
  e : gx ≠ g
  f : gr ≠ gx
theorem own_type {y : World} {base n sz k : Nat} {e t : TypeId} {v : Value} {xs : List Value} {cs : Array Value} (h : y.ownsRow base e sz v n xs) (hr : RowAt y k t cs) (ht : t ≠ e) : v.ownBlock ≠ some k := fun hk => by
  rcases h.2 with ⟨h1, _⟩ | ⟨g, cap, cur, h1, h2, h3, -⟩
  · subst h1
    cases hk
  · subst h1
    simp only [Value.ownBlock, Option.some.injEq] at hk
    subst hk
    have h5 := hr.symm.trans h3
    simp only [Option.some.injEq, Obj.cells.injEq] at h5
    exact ht h5.2.1
theorem below_grown {w y z : World} {g : Nat} (h : Below w.heap.size w y) (hg : y.grownBy z (some g)) (hge : w.heap.size ≤ g) : Below w.heap.size w z :=
  ⟨hg.os.trans h.os, hg.tape.trans h.tape, hg.output.trans h.output, Nat.le_trans h.size hg.size, fun k hk => (hg.block k (Nat.lt_of_lt_of_le hk h.size) (fun e => by cases e; omega)).trans (h.block k hk)⟩
theorem DK.step {w y z : World} {gr g gx : Nat} {b : ByteArray} {s s' : St} {r : Rec} {va vb : Value} {l : List (Nat × TypeId × Array Value)} (h : DK w y gr g gx b s r va vb l) (L : Lie w gr g gx) (hl : Off g l) (hr : RdAt z g b s') (hg : y.grownBy z (some g)) : DK w z gr g gx b s' r va vb l := by
  obtain ⟨k, h1, _⟩ := h.rd
  exact ⟨hr, row_grown h.xr hg L.e, row_grown h.zr hg L.d, below_grown h.bel hg L.b, ⟨h.got.1.kept hg (.inr (own_type h.got.1 h1 (by decide))), h.got.2.kept hg (.inr (own_type h.got.2 h1 (by decide)))⟩, has_grown hg hl h.has⟩
theorem rd_other {y : World} {g k : Nat} {b : ByteArray} {s : St} (h : RdAt y g b s) (hk : k ≠ g) (j : Nat) (u : Value) : RdAt (y.setCell ⟨k, j, none⟩ u) g b s := by
  obtain ⟨p, h1, h2⟩ := h
  exact ⟨p, h1.other _ _ (fun e => hk e.symm), h2⟩
theorem has_other {y : World} {k j : Nat} {u : Value} : ∀ {l : List (Nat × TypeId × Array Value)}, Off k l → Has y l → Has (y.setCell ⟨k, j, none⟩ u) l
  | [], _, _ => trivial
  | e :: l, ha, hh => ⟨hh.1.other _ _ (ha e (by simp)), has_other (fun e he => ha e (by simp [he])) hh.2⟩
/-- A field of the record is written. -/
theorem DK.set {w y : World} {gr g gx : Nat} {b : ByteArray} {s : St} {r : Rec} {va vb : Value} {l : List (Nat × TypeId × Array Value)} (h : DK w y gr g gx b s r va vb l) (L : Lie w gr g gx) (hl : Off gx l) (j : Nat) (u : Value) (r' : Rec) (hs : (rcA r va vb).setIfInBounds j u = rcA r' va vb) (ht : r'.ts = r.ts) (hd : r'.ds = r.ds) : DK w (y.setCell ⟨gx, j, none⟩ u) gr g gx b s r' va vb l := by
  have hg := grown_set (g := gx) (j := j) u (grown_refl y (some gx))
  refine ⟨rd_other h.rd L.e j u, ?_, h.zr.other _ _ L.f, h.bel.set1 L.c j u, ⟨?_, ?_⟩, has_other hl h.has⟩
  · rw [← hs]
    exact h.xr.set j u
  · rw [ht]
    exact h.got.1.kept hg (.inr (own_type h.got.1 h.xr (by decide)))
  · rw [hd]
    exact h.got.2.kept hg (.inr (own_type h.got.2 h.xr (by decide)))
theorem rd_later {y z : World} {g : Nat} {b : ByteArray} {s : St} (h : RdAt y g b s) (hb : Below y.heap.size y z) : RdAt z g b s := by
  obtain ⟨p, h1, h2⟩ := h
  exact ⟨p, h1.later hb, h2⟩
theorem DK.later {w y z : World} {gr g gx : Nat} {b : ByteArray} {s : St} {r : Rec} {va vb : Value} {l : List (Nat × TypeId × Array Value)} (h : DK w y gr g gx b s r va vb l) (hb : Below y.heap.size y z) : DK w z gr g gx b s r va vb l :=
  ⟨rd_later h.rd hb, h.xr.later hb, h.zr.later hb, h.bel.trans (hb.mono h.bel.size), h.got.below hb, h.has.later hb⟩
/-- What the answer is. -/
def Ans (w : World) (bs : List UInt8) (e : Ending) (w' : World) : Prop := (∃ va vb, e = .returned (.tuple #[.agg (rcA (decR bs).1 va vb), .int .i64 (decR bs).2]) ∧ GotIn w.heap.size w' (decR bs).1 va vb) ∧ Below w.heap.size w w'
theorem rright6_at' (r : Rec) (va vb : Value) (w : World) (q : Bool) (Hq : Hid (q = true ↔ r.right)) (hf : r.c.fits) (hin : RcIn w r va vb) :
    Calls Try.prog 24 #[.agg (rcA r va vb)] w fun e w' => e = .returned (.bool q) ∧ Below w.heap.size w w' := by
  have e : r.rightB = q := by
    have h1 := Hq.out
    have h2 := rightB_iff (r := r)
    cases q
    · cases h : r.rightB
      · rfl
      · exact absurd (h1.2 (h2.1 h)) (by simp)
    · exact h2.2 (h1.1 rfl)
  rw [← e]
  exact rright6_any r va vb w hf hin
theorem itS_add {α : Type} (p : St → α × St) : ∀ m n s, itS p (m + n) s = itS p n (itS p m s)
  | 0, n, s => by rw [Nat.zero_add]; rfl
  | m + 1, n, s => by
    rw [show m + 1 + n = (m + n) + 1 by omega]
    exact itS_add p m n (p s).2
theorem pin_good {s : St} (h : ¬ ((pNum 1 s).2.e = 0 ∧ ((pNum 1 s).1 < 1 ∨ 8 < (pNum 1 s).1))) : pIn 1 8 s = pNum 1 s := by
  unfold pIn
  rw [if_neg h]
end Go.Proofs.Ytgobegpmojkhaaa

/-
  The document's Decode: how its walk is cut.
-/
namespace Go.Proofs.Ytgobegpmojkhaaa
open Go.RowKit
set_option linter.unusedVariables false

/-- A place at which a walk halts. -/
def Halt (p : Prop) : Prop := p
theorem halt {p : Prop} (h : Halt p) : p := h
theorem unhalt {p : Prop} (h : p) : Halt p := h
/-- A store of one cell. -/
theorem wpList_store_one {P : Program} {ops : Array Oper} {rest : List Oper} {o : Oper} {a : Act} {w : World} {Q : Exit → Act → World → Prop} (hgd : o.guard = none) (t : TypeId) (x y : Operand) (ho : o.op = .store t x y) (b j : Nat) (u : Value) (hx : a.eval x = .pointer (some ⟨b, j, none⟩)) (hy : a.eval y = u)
    (hr : (Instr.storeAt t (.pointer (some ⟨b, j, none⟩)) u).run P w = .ok () (w.setCell ⟨b, j, none⟩ u)) (h : wpList P ops Q rest (a.put o.dst undef) (w.setCell ⟨b, j, none⟩ u)) : wpList P ops Q (o :: rest) a w :=
  wpList_plain hgd fun K hK => by
    unfold Oper.wp execOp
    simp only [ho, hx, hy, Sem.run_bind, hr, Result.andThen_ok, Sem.run_pure]
    exact hK _ _ h
end Go.Proofs.Ytgobegpmojkhaaa

/-
  The document's Decode: kinds 3, 4, 5, 7.
-/
namespace Go.Proofs.Ytgobegpmojkhaaa
open Go.RowKit
set_option linter.unusedVariables false

set_option maxRecDepth 6000 in
set_option maxHeartbeats 6400000 in
theorem rdec_end (b : ByteArray) (w : World) (hb : b.size ≤ 140737488355328) (hk : (pNum 1 (⟨b.data.toList, 0⟩ : St)).2.e = 0 ∧ ((pNum 1 (⟨b.data.toList, 0⟩ : St)).1 = 3 ∨ (pNum 1 (⟨b.data.toList, 0⟩ : St)).1 = 4 ∨ (pNum 1 (⟨b.data.toList, 0⟩ : St)).1 = 5 ∨ (pNum 1 (⟨b.data.toList, 0⟩ : St)).1 = 7)) :
    Calls Try.prog 33 #[.string b] w fun e w' => Ans w b.data.toList e w' := by
  obtain ⟨s, hs⟩ : ∃ s : St, s = ⟨b.data.toList, 0⟩ := ⟨_, rfl⟩
  have HSS := hide hs
  obtain ⟨kd, s0, h0⟩ : ∃ n s', pNum 1 s = (n, s') := ⟨_, _, rfl⟩
  rw [← hs, h0] at hk
  simp only at hk
  have hgd : pIn 1 8 s = pNum 1 s := pin_good (by rw [h0]; simp only; omega)
  have he0 := hk.1
  have m1 : ¬ ((kd : Int) < 1) := by omega
  have m8 : ¬ ((8 : Int) < (kd : Int)) := by omega
  have m2 : ¬ ((kd : Int) ≤ 2) := by omega
  have q2 : ¬ kd ≤ 2 := by omega
  have q22 : ¬ kd = 2 := by omega
  have q6 : ¬ kd = 6 := by omega
  have q8 : ¬ kd = 8 := by omega
  have ekd := conv_i64 kd (by omega)
  clear hk
  obtain ⟨l, s1, hl⟩ : ∃ n s', pNum 8 s0 = (n, s') := ⟨_, _, rfl⟩
  obtain ⟨t, s2, ht⟩ : ∃ n s', pNum 4 s1 = (n, s') := ⟨_, _, rfl⟩
  have bt : t < 256 ^ 4 := by have := num_lt 4 s1; rw [ht] at this; exact this
  have ewt := conv_i64 t (by omega)
  clear bt
  obtain ⟨p, s3, hp⟩ : ∃ n s', pNum 8 s2 = (n, s') := ⟨_, _, rfl⟩
  have HPR0 : pRec s = (⟨kd, l, t, p, Ch.zero, 0, 0, 0, [], []⟩, s3) := by
    rw [rec_rest, hgd, h0]
    simp [recRest, bindP, pureP, pMay, hl, ht, hp, q2, q22, q6, q8]
  have HPR : Hid ((pRec ⟨b.data.toList, 0⟩).2 = s3 ∧ (s3.e = 0 → (pRec ⟨b.data.toList, 0⟩).1 = ⟨kd, l, t, p, Ch.zero, 0, 0, 0, [], []⟩)) := by
    rw [← HSS.out, HPR0]
    exact ⟨rfl, fun _ => rfl⟩
  clear HPR0 hgd
  have K3 := Keeps.three w 28 97 28 #[.int .i64 0, .int .u64 0, .int .i64 0, .int .u64 0, .int .i64 0, .int .i64 0, .int .i64 0, .string ⟨#[]⟩, .string ⟨#[]⟩, .int .u64 0, .int .i64 0, .int .u64 0, .slice none 0 0, .slice none 0 0] #[.string b, .int .i64 0, .int .i64 0] #[.int .i64 0, .int .u64 0, .int .i64 0, .int .u64 0, .int .i64 0, .int .i64 0, .int .i64 0, .string ⟨#[]⟩, .string ⟨#[]⟩, .int .u64 0, .int .i64 0, .int .u64 0, .slice none 0 0, .slice none 0 0]
  have HI : Hid (DK w (((w.alloc (.cells #[.int .i64 0, .int .u64 0, .int .i64 0, .int .u64 0, .int .i64 0, .int .i64 0, .int .i64 0, .string ⟨#[]⟩, .string ⟨#[]⟩, .int .u64 0, .int .i64 0, .int .u64 0, .slice none 0 0, .slice none 0 0] 28)).alloc (.cells #[.string b, .int .i64 0, .int .i64 0] 97)).alloc (.cells #[.int .i64 0, .int .u64 0, .int .i64 0, .int .u64 0, .int .i64 0, .int .i64 0, .int .i64 0, .string ⟨#[]⟩, .string ⟨#[]⟩, .int .u64 0, .int .i64 0, .int .u64 0, .slice none 0 0, .slice none 0 0] 28)) w.heap.size (w.heap.size + 1) (w.heap.size + 1 + 1) b s Rec.zero (.slice none 0 0) (.slice none 0 0) []) := by
    rw [hs]
    exact ⟨⟨0, K3.1.2.1, Nat.zero_le _, fun _ => ⟨Nat.zero_le _, rfl⟩⟩, K3.1.1, K3.1.2.2.1, K3.2, ⟨World.ownsRow_nil _ _ _ _, World.ownsRow_nil _ _ _ _⟩, trivial⟩
  have HLI0 : Hid (Lie w w.heap.size (w.heap.size + 1) (w.heap.size + 1 + 1)) := ⟨by omega, by omega, by omega, by omega, by omega, by omega⟩
  clear K3
  go_enter Try.func33, Try.ntmps33
  go_wp2_with fail
  obtain ⟨gx, hgx⟩ : ∃ g, g = w.heap.size + 1 + 1 := ⟨_, rfl⟩
  obtain ⟨g, hg⟩ : ∃ g, g = w.heap.size + 1 := ⟨_, rfl⟩
  obtain ⟨gr, hgr⟩ : ∃ g, g = w.heap.size := ⟨_, rfl⟩
  have HLI : Hid (Lie w gr g gx) := by rw [hgx, hg, hgr]; exact HLI0
  have HB : Hid (DK w (((w.alloc (.cells #[.int .i64 0, .int .u64 0, .int .i64 0, .int .u64 0, .int .i64 0, .int .i64 0, .int .i64 0, .string ⟨#[]⟩, .string ⟨#[]⟩, .int .u64 0, .int .i64 0, .int .u64 0, .slice none 0 0, .slice none 0 0] 28)).alloc (.cells #[.string b, .int .i64 0, .int .i64 0] 97)).alloc (.cells #[.int .i64 0, .int .u64 0, .int .i64 0, .int .u64 0, .int .i64 0, .int .i64 0, .int .i64 0, .string ⟨#[]⟩, .string ⟨#[]⟩, .int .u64 0, .int .i64 0, .int .u64 0, .slice none 0 0, .slice none 0 0] 28)) gr g gx b s Rec.zero (.slice none 0 0) (.slice none 0 0) []) := by rw [hgx, hg, hgr]; exact HI
  rw [← hgx, ← hg, ← hgr]
  refine gen_calls (fun x => Hid (DK w x gr g gx b s Rec.zero (.slice none 0 0) (.slice none 0 0) [])) HB ?_
  clear HB HI HLI0 hgx hg hgr hs
  intro y HB
  have Ck := hide (fun x h => rnum_any g b s 1 x (by omega) hb h)
  rw [h0] at Ck
  have Cl := hide (fun x h => rnum_any g b s0 8 x (by omega) hb h)
  rw [hl] at Cl
  have Ct := hide (fun x h => rnum_any g b s1 4 x (by omega) hb h)
  rw [ht] at Ct
  have Cp := hide (fun x h => rnum_any g b s2 8 x (by omega) hb h)
  rw [hp] at Cp
  clear h0 hl ht hp
  refine (Ck.out _ HB.out.rd).mono ?_
  rintro e x ⟨rfl, hrd, hgw⟩
  have HX := hide (HB.out.step HLI.out (fun e he => (nomatch he)) hrd hgw)
  clear hrd hgw HB Ck
  have c := HX.out.xr.cell 0 (.int .i64 0) rfl
  have f := HX.out.xr.free 0
  have hst : (Instr.storeAt 3 (.pointer (some ⟨gx, 0, none⟩)) (.int .i64 ((kd : Nat) : Int))).run Try.prog x = .ok () (x.setCell ⟨gx, 0, none⟩ (.int .i64 ((kd : Nat) : Int))) := by go_simp
  clear c f
  have HB : Hid (DK w (x.setCell ⟨gx, 0, none⟩ (.int .i64 ((kd : Nat) : Int))) gr g gx b s0 ⟨kd, 0, 0, 0, Ch.zero, 0, 0, 0, [], []⟩ (.slice none 0 0) (.slice none 0 0) []) := HX.out.set HLI.out (fun e he => (nomatch he)) 0 (.int .i64 ((kd : Nat) : Int)) ⟨kd, 0, 0, 0, Ch.zero, 0, 0, 0, [], []⟩ rfl rfl rfl
  clear HX
  go_wp2_with (refine wpList_store_one rfl 3 (.tmp 17) (.tmp 16) rfl gx 0 (.int .i64 ((kd : Nat) : Int)) rfl rfl hst ?_; refine gen_w (fun x => Hid (DK w x gr g gx b s0 ⟨kd, 0, 0, 0, Ch.zero, 0, 0, 0, [], []⟩ (.slice none 0 0) (.slice none 0 0) [])) HB ?_; clear HB hst; intro y HB; have c0 := HB.out.xr.cell 0 (.int .i64 ((kd : Nat) : Int)) rfl; obtain ⟨k, q, -, -⟩ := HB.out.rd; have c2 := q.cell 2 (.int .i64 0) (by rw [he0]; rfl); clear q)
  clear c2
  refine (Cl.out _ HB.out.rd).mono ?_
  rintro e x ⟨rfl, hrd, hgw⟩
  have HX := hide (HB.out.step HLI.out (fun e he => (nomatch he)) hrd hgw)
  clear hrd hgw HB Cl c0
  have c := HX.out.xr.cell 1 (.int .u64 0) rfl
  have f := HX.out.xr.free 1
  have hst : (Instr.storeAt 22 (.pointer (some ⟨gx, 1, none⟩)) (.int .u64 ((l : Nat) : Int))).run Try.prog x = .ok () (x.setCell ⟨gx, 1, none⟩ (.int .u64 ((l : Nat) : Int))) := by go_simp
  clear c f
  have HB : Hid (DK w (x.setCell ⟨gx, 1, none⟩ (.int .u64 ((l : Nat) : Int))) gr g gx b s1 ⟨kd, l, 0, 0, Ch.zero, 0, 0, 0, [], []⟩ (.slice none 0 0) (.slice none 0 0) []) := HX.out.set HLI.out (fun e he => (nomatch he)) 1 (.int .u64 ((l : Nat) : Int)) ⟨kd, l, 0, 0, Ch.zero, 0, 0, 0, [], []⟩ rfl rfl rfl
  clear HX
  go_wp2_with (refine wpList_store_one rfl 22 (.tmp 36) (.tmp 35) rfl gx 1 (.int .u64 ((l : Nat) : Int)) rfl rfl hst ?_; refine gen_w (fun x => Hid (DK w x gr g gx b s1 ⟨kd, l, 0, 0, Ch.zero, 0, 0, 0, [], []⟩ (.slice none 0 0) (.slice none 0 0) [])) HB ?_; clear HB hst; intro y HB; have c0 := HB.out.xr.cell 0 (.int .i64 ((kd : Nat) : Int)) rfl)
  refine (Ct.out _ HB.out.rd).mono ?_
  rintro e x ⟨rfl, hrd, hgw⟩
  have HX := hide (HB.out.step HLI.out (fun e he => (nomatch he)) hrd hgw)
  clear hrd hgw HB Ct c0
  have c := HX.out.xr.cell 2 (.int .i64 0) rfl
  have f := HX.out.xr.free 2
  have hst : (Instr.storeAt 3 (.pointer (some ⟨gx, 2, none⟩)) (.int .i64 ((t : Nat) : Int))).run Try.prog x = .ok () (x.setCell ⟨gx, 2, none⟩ (.int .i64 ((t : Nat) : Int))) := by go_simp
  clear c f
  have HB : Hid (DK w (x.setCell ⟨gx, 2, none⟩ (.int .i64 ((t : Nat) : Int))) gr g gx b s2 ⟨kd, l, t, 0, Ch.zero, 0, 0, 0, [], []⟩ (.slice none 0 0) (.slice none 0 0) []) := HX.out.set HLI.out (fun e he => (nomatch he)) 2 (.int .i64 ((t : Nat) : Int)) ⟨kd, l, t, 0, Ch.zero, 0, 0, 0, [], []⟩ rfl rfl rfl
  clear HX
  go_wp2_with (refine wpList_store_one rfl 3 (.tmp 40) (.tmp 39) rfl gx 2 (.int .i64 ((t : Nat) : Int)) rfl rfl hst ?_; refine gen_w (fun x => Hid (DK w x gr g gx b s2 ⟨kd, l, t, 0, Ch.zero, 0, 0, 0, [], []⟩ (.slice none 0 0) (.slice none 0 0) [])) HB ?_; clear HB hst; intro y HB; have c0 := HB.out.xr.cell 0 (.int .i64 ((kd : Nat) : Int)) rfl)
  refine (Cp.out _ HB.out.rd).mono ?_
  rintro e x ⟨rfl, hrd, hgw⟩
  have HX := hide (HB.out.step HLI.out (fun e he => (nomatch he)) hrd hgw)
  clear hrd hgw HB Cp c0
  have c := HX.out.xr.cell 3 (.int .u64 0) rfl
  have f := HX.out.xr.free 3
  have hst : (Instr.storeAt 22 (.pointer (some ⟨gx, 3, none⟩)) (.int .u64 ((p : Nat) : Int))).run Try.prog x = .ok () (x.setCell ⟨gx, 3, none⟩ (.int .u64 ((p : Nat) : Int))) := by go_simp
  clear c f
  have HB : Hid (DK w (x.setCell ⟨gx, 3, none⟩ (.int .u64 ((p : Nat) : Int))) gr g gx b s3 ⟨kd, l, t, p, Ch.zero, 0, 0, 0, [], []⟩ (.slice none 0 0) (.slice none 0 0) []) := HX.out.set HLI.out (fun e he => (nomatch he)) 3 (.int .u64 ((p : Nat) : Int)) ⟨kd, l, t, p, Ch.zero, 0, 0, 0, [], []⟩ rfl rfl rfl
  clear HX
  go_wp2_with (refine wpList_store_one rfl 22 (.tmp 43) (.tmp 42) rfl gx 3 (.int .u64 ((p : Nat) : Int)) rfl rfl hst ?_; refine gen_w (fun x => Hid (DK w x gr g gx b s3 ⟨kd, l, t, p, Ch.zero, 0, 0, 0, [], []⟩ (.slice none 0 0) (.slice none 0 0) [])) HB ?_; clear HB hst; intro yt HD; refine halt ?_)
  obtain ⟨r, hrr⟩ : ∃ r : Rec, r = ⟨kd, l, t, p, Ch.zero, 0, 0, 0, [], []⟩ := ⟨_, rfl⟩
  have hrk : r.k = ((kd : Nat) : Int) := by first | (rw [hrr]; done) | (rw [hrr]; rfl)
  rw [← hrr] at HD HPR
  have HRR := hide hrr
  clear hrr
  have rn2 : (r.k == 2) = false := by rw [beq_eq_false_iff_ne]; omega
  have rn6 : (r.k == 6) = false := by rw [beq_eq_false_iff_ne]; omega
  have rn8 : (r.k == 8) = false := by rw [beq_eq_false_iff_ne]; omega
  have rm2 : ¬ (r.k ≤ 2) := by omega
  clear hrk
  obtain ⟨va, hva0⟩ : ∃ v, v = Value.slice none 0 0 := ⟨_, rfl⟩
  obtain ⟨vb, hvb0⟩ : ∃ v, v = Value.slice none 0 0 := ⟨_, rfl⟩
  have HD1 : Hid (DK w yt gr g gx b s3 r va vb []) := by rw [hva0, hvb0]; exact HD
  clear HD
  have HD := HD1
  clear HD1 hva0 hvb0
  generalize s3 = s' at *
  obtain ⟨k, q, hkb, hkl⟩ := HD.out.rd
  have c0 := HD.out.xr.cell 0 (.int .i64 r.k) rfl
  have c2 := q.cell 2 (.int .i64 s'.e) rfl
  have c1 := q.cell 1 (.int .i64 (k : Int)) rfl
  have HKL := hide hkl
  clear q hkl
  have HDR : Hid (decR b.data.toList = if (pRec ⟨b.data.toList, 0⟩).2.e ≠ 0 then (Rec.zero, (pRec ⟨b.data.toList, 0⟩).2.e) else if (pRec ⟨b.data.toList, 0⟩).2.l ≠ [] ∨ (pRec ⟨b.data.toList, 0⟩).1.rightB = false then (Rec.zero, 2) else ((pRec ⟨b.data.toList, 0⟩).1, 0)) := rfl
  by_cases he : s'.e = 0
  case neg =>
    have hdr : decR b.data.toList = (Rec.zero, s'.e) := by rw [HDR.out, HPR.out.1, if_pos he]
    have HDD := hide hdr
    have k0 : (s'.e == 0) = false := by rw [beq_eq_false_iff_ne]; exact he
    have k1 : (s'.e != 0) = true := by rw [bne, k0]; rfl
    clear hdr HDR he HPR HKL c1 hkb
    generalize s'.e = es at *
    have z0 := HD.out.zr.cell 0 (.int .i64 0) rfl
    have zf0 := HD.out.zr.free 0
    have z1 := HD.out.zr.cell 1 (.int .u64 0) rfl
    have zf1 := HD.out.zr.free 1
    have z2 := HD.out.zr.cell 2 (.int .i64 0) rfl
    have zf2 := HD.out.zr.free 2
    have z3 := HD.out.zr.cell 3 (.int .u64 0) rfl
    have zf3 := HD.out.zr.free 3
    have z4 := HD.out.zr.cell 4 (.int .i64 0) rfl
    have zf4 := HD.out.zr.free 4
    have z5 := HD.out.zr.cell 5 (.int .i64 0) rfl
    have zf5 := HD.out.zr.free 5
    have z6 := HD.out.zr.cell 6 (.int .i64 0) rfl
    have zf6 := HD.out.zr.free 6
    have z7 := HD.out.zr.cell 7 (.string ⟨#[]⟩) rfl
    have zf7 := HD.out.zr.free 7
    have z8 := HD.out.zr.cell 8 (.string ⟨#[]⟩) rfl
    have zf8 := HD.out.zr.free 8
    have z9 := HD.out.zr.cell 9 (.int .u64 0) rfl
    have zf9 := HD.out.zr.free 9
    have z10 := HD.out.zr.cell 10 (.int .i64 0) rfl
    have zf10 := HD.out.zr.free 10
    have z11 := HD.out.zr.cell 11 (.int .u64 0) rfl
    have zf11 := HD.out.zr.free 11
    have z12 := HD.out.zr.cell 12 (.slice none 0 0) rfl
    have zf12 := HD.out.zr.free 12
    have z13 := HD.out.zr.cell 13 (.slice none 0 0) rfl
    have zf13 := HD.out.zr.free 13
    have ne1 := HLI.out.d
    refine unhalt ?_
    go_wp2_with fail
    go_region
    have HRW := hide ((((((((((((((HD.out.zr.setSame 0 (.int .i64 0) rfl).setSame 1 (.int .u64 0) rfl).setSame 2 (.int .i64 0) rfl).setSame 3 (.int .u64 0) rfl).setSame 4 (.int .i64 0) rfl).setSame 5 (.int .i64 0) rfl).setSame 6 (.int .i64 0) rfl).setSame 7 (.string ⟨#[]⟩) rfl).setSame 8 (.string ⟨#[]⟩) rfl).setSame 9 (.int .u64 0) rfl).setSame 10 (.int .i64 0) rfl).setSame 11 (.int .u64 0) rfl).setSame 12 (.slice none 0 0) rfl).setSame 13 (.slice none 0 0) rfl)
    have HBW := hide ((((((((((((((HD.out.bel.set1 HLI.out.a 0 (.int .i64 0)).set1 HLI.out.a 1 (.int .u64 0)).set1 HLI.out.a 2 (.int .i64 0)).set1 HLI.out.a 3 (.int .u64 0)).set1 HLI.out.a 4 (.int .i64 0)).set1 HLI.out.a 5 (.int .i64 0)).set1 HLI.out.a 6 (.int .i64 0)).set1 HLI.out.a 7 (.string ⟨#[]⟩)).set1 HLI.out.a 8 (.string ⟨#[]⟩)).set1 HLI.out.a 9 (.int .u64 0)).set1 HLI.out.a 10 (.int .i64 0)).set1 HLI.out.a 11 (.int .u64 0)).set1 HLI.out.a 12 (.slice none 0 0)).set1 HLI.out.a 13 (.slice none 0 0))
    refine gen_w (fun x => Hid (RowAt x gr 28 #[.int .i64 0, .int .u64 0, .int .i64 0, .int .u64 0, .int .i64 0, .int .i64 0, .int .i64 0, .string ⟨#[]⟩, .string ⟨#[]⟩, .int .u64 0, .int .i64 0, .int .u64 0, .slice none 0 0, .slice none 0 0]) ∧ Hid (Below w.heap.size w x)) (x := ((((((((((((((yt.setCell ⟨gr, 0, none⟩ (.int .i64 0)).setCell ⟨gr, 1, none⟩ (.int .u64 0)).setCell ⟨gr, 2, none⟩ (.int .i64 0)).setCell ⟨gr, 3, none⟩ (.int .u64 0)).setCell ⟨gr, 4, none⟩ (.int .i64 0)).setCell ⟨gr, 5, none⟩ (.int .i64 0)).setCell ⟨gr, 6, none⟩ (.int .i64 0)).setCell ⟨gr, 7, none⟩ (.string ⟨#[]⟩)).setCell ⟨gr, 8, none⟩ (.string ⟨#[]⟩)).setCell ⟨gr, 9, none⟩ (.int .u64 0)).setCell ⟨gr, 10, none⟩ (.int .i64 0)).setCell ⟨gr, 11, none⟩ (.int .u64 0)).setCell ⟨gr, 12, none⟩ (.slice none 0 0)).setCell ⟨gr, 13, none⟩ (.slice none 0 0)).drew) ⟨hide (rowat_drew HRW.out), hide (below_drew HBW.out)⟩ ?_
    clear HD HRW HBW z0 zf0 z1 zf1 z2 zf2 z3 zf3 z4 zf4 z5 zf5 z6 zf6 z7 zf7 z8 zf8 z9 zf9 z10 zf10 z11 zf11 z12 zf12 z13 zf13 ne1 c2
    rintro y0 ⟨HROW, HBL⟩
    go_wp2
    (try simp only [Exit.inBlock, Exit.then])
    refine bodyPost_ret (res_at rfl _ _ gr #[.int .i64 0, .int .u64 0, .int .i64 0, .int .u64 0, .int .i64 0, .int .i64 0, .int .i64 0, .string ⟨#[]⟩, .string ⟨#[]⟩, .int .u64 0, .int .i64 0, .int .u64 0, .slice none 0 0, .slice none 0 0] _ rfl HROW.out Try.underlying28 rfl infoRc) rfl ?_
    show Ans _ _ _ _
    unfold Ans
    rw [HDD.out]
    exact ⟨⟨_, _, rfl, World.ownsRow_nil _ _ _ _, World.ownsRow_nil _ _ _ _⟩, HBL.out⟩
  rw [he] at c2
  have hrq := HPR.out.2 he
  obtain ⟨hks, hdl⟩ := HKL.out he
  obtain ⟨av, cv, hva⟩ := own_shape5 HD.out.got.1
  obtain ⟨au, cu, hvb⟩ := own_shape5 HD.out.got.2
  subst hva hvb
  by_cases hk : (k : Int) = (b.size : Int)
  case neg =>
    have hne : s'.l ≠ [] := fun h => by
      rw [h] at hdl
      have h3 := congrArg List.length hdl
      rw [List.length_drop, data_length] at h3
      have h4 : b.size - k = 0 := h3
      omega
    have hdr : decR b.data.toList = (Rec.zero, 2) := by rw [HDR.out, HPR.out.1, if_neg (fun h => h he), if_pos (.inl hne)]
    have HDD := hide hdr
    have k0 : ((k : Int) == (b.size : Int)) = false := by rw [beq_eq_false_iff_ne]; exact hk
    have k1 : ((k : Int) != (b.size : Int)) = true := by rw [bne, k0]; rfl
    clear hdr HDR he HPR HKL hrq hdl hne hk
    refine unhalt ?_
    go_wp2_with (refine wpList_store_at rfl 28 (.tmp 2) (.tmp 174) rfl gr #[.int .i64 0, .int .u64 0, .int .i64 0, .int .u64 0, .int .i64 0, .int .i64 0, .int .i64 0, .string ⟨#[]⟩, .string ⟨#[]⟩, .int .u64 0, .int .i64 0, .int .u64 0, .slice none 0 0, .slice none 0 0] #[.int .i64 0, .int .u64 0, .int .i64 0, .int .u64 0, .int .i64 0, .int .i64 0, .int .i64 0, .string ⟨#[]⟩, .string ⟨#[]⟩, .int .u64 0, .int .i64 0, .int .u64 0, .slice none 0 0, .slice none 0 0] rfl rfl HD.out.zr infoRc rfl (by simp [Value.oneCell']) ?_)
    intro w9 hr9 hk9 _
    have HROW := hide hr9
    have HBL := hide (hk9 _ _ HD.out.bel HLI.out.a)
    clear hr9 hk9 HD c1 c2
    go_wp2
    (try simp only [Exit.inBlock, Exit.then])
    refine bodyPost_ret (res_at rfl _ _ gr #[.int .i64 0, .int .u64 0, .int .i64 0, .int .u64 0, .int .i64 0, .int .i64 0, .int .i64 0, .string ⟨#[]⟩, .string ⟨#[]⟩, .int .u64 0, .int .i64 0, .int .u64 0, .slice none 0 0, .slice none 0 0] _ rfl HROW.out Try.underlying28 rfl infoRc) rfl ?_
    show Ans _ _ _ _
    unfold Ans
    rw [HDD.out]
    exact ⟨⟨_, _, rfl, World.ownsRow_nil _ _ _ _, World.ownsRow_nil _ _ _ _⟩, HBL.out⟩
  have hln : s'.l = [] := by
    rw [← hdl]
    apply List.drop_eq_nil_of_le
    rw [data_length]
    omega
  have k0 : ((k : Int) == (b.size : Int)) = true := by rw [hk]; exact beq_self_eq_true _
  have k1 : ((k : Int) != (b.size : Int)) = false := by rw [bne, k0]; rfl
  clear hk
  have r0 := HD.out.xr.cell 0 (.int .i64 r.k) rfl
  have r1 := HD.out.xr.cell 1 (.int .u64 (r.l : Int)) rfl
  have r2 := HD.out.xr.cell 2 (.int .i64 r.t) rfl
  have r3 := HD.out.xr.cell 3 (.int .u64 (r.p : Int)) rfl
  have r4 := HD.out.xr.cell 4 (.int .i64 r.c.k) rfl
  have r5 := HD.out.xr.cell 5 (.int .i64 r.c.pg) rfl
  have r6 := HD.out.xr.cell 6 (.int .i64 r.c.sl) rfl
  have r7 := HD.out.xr.cell 7 (.string r.c.o) rfl
  have r8 := HD.out.xr.cell 8 (.string r.c.n) rfl
  have r9 := HD.out.xr.cell 9 (.int .u64 (r.n : Int)) rfl
  have r10 := HD.out.xr.cell 10 (.int .i64 r.s) rfl
  have r11 := HD.out.xr.cell 11 (.int .u64 (r.b : Int)) rfl
  have r12 := HD.out.xr.cell 12 (.slice av r.ts.length cv) rfl
  have r13 := HD.out.xr.cell 13 (.slice au r.ds.length cu) rfl
  have HFR : Hid r.c.fits := by rw [← hrq]; exact (rec_fits ⟨b.data.toList, 0⟩).c
  by_cases hr : r.right
  case neg =>
    have hdr : decR b.data.toList = (Rec.zero, 2) := by rw [HDR.out, HPR.out.1, hrq, if_neg (fun h => h he), if_pos (.inr (rightB_no hr))]
    have HDD := hide hdr
    have HR := hide (rright6_at' r (.slice av r.ts.length cv) (.slice au r.ds.length cu) yt false (hide ⟨fun h => (nomatch h), fun h => absurd h hr⟩) HFR.out HD.out.got.rc)
    clear hdr HDR he HPR HKL hrq hdl hln hr HFR
    refine unhalt ?_
    go_wp2_with fail
    refine HR.out.mono ?_
    rintro e x2 ⟨rfl, hb2⟩
    have HD2 := hide (HD.out.later hb2)
    clear hb2 HD HR c1 c2 r0 r1 r2 r3 r4 r5 r6 r7 r8 r9 r10 r11 r12 r13
    go_wp2_with (refine wpList_store_at rfl 28 (.tmp 2) (.tmp 174) rfl gr #[.int .i64 0, .int .u64 0, .int .i64 0, .int .u64 0, .int .i64 0, .int .i64 0, .int .i64 0, .string ⟨#[]⟩, .string ⟨#[]⟩, .int .u64 0, .int .i64 0, .int .u64 0, .slice none 0 0, .slice none 0 0] #[.int .i64 0, .int .u64 0, .int .i64 0, .int .u64 0, .int .i64 0, .int .i64 0, .int .i64 0, .string ⟨#[]⟩, .string ⟨#[]⟩, .int .u64 0, .int .i64 0, .int .u64 0, .slice none 0 0, .slice none 0 0] rfl rfl HD2.out.zr infoRc rfl (by simp [Value.oneCell']) ?_)
    intro w9 hr9 hk9 _
    have HROW := hide hr9
    have HBL := hide (hk9 _ _ HD2.out.bel HLI.out.a)
    clear hr9 hk9 HD2
    go_wp2
    (try simp only [Exit.inBlock, Exit.then])
    refine bodyPost_ret (res_at rfl _ _ gr #[.int .i64 0, .int .u64 0, .int .i64 0, .int .u64 0, .int .i64 0, .int .i64 0, .int .i64 0, .string ⟨#[]⟩, .string ⟨#[]⟩, .int .u64 0, .int .i64 0, .int .u64 0, .slice none 0 0, .slice none 0 0] _ rfl HROW.out Try.underlying28 rfl infoRc) rfl ?_
    show Ans _ _ _ _
    unfold Ans
    rw [HDD.out]
    exact ⟨⟨_, _, rfl, World.ownsRow_nil _ _ _ _, World.ownsRow_nil _ _ _ _⟩, HBL.out⟩
  have hdr : decR b.data.toList = (r, 0) := by rw [HDR.out, HPR.out.1, hrq, if_neg (fun h => h he), if_neg (fun h => h.elim (fun h => h hln) (fun h => by rw [rightB_yes hr] at h; cases h))]
  have HDD := hide hdr
  have HR := hide (rright6_at' r (.slice av r.ts.length cv) (.slice au r.ds.length cu) yt true (hide ⟨fun _ => hr, fun _ => rfl⟩) HFR.out HD.out.got.rc)
  clear hdr HDR he HPR HKL hrq hdl hln hr HFR
  refine unhalt ?_
  go_wp2_with fail
  refine HR.out.mono ?_
  rintro e x2 ⟨rfl, hb2⟩
  have HD2 := hide (HD.out.later hb2)
  clear hb2 HD HR c1 c2 r0 r1 r2 r3 r4 r5 r6 r7 r8 r9 r10 r11 r12 r13
  go_wp2_with (first | (refine wpList_load_at rfl 28 (.tmp 5) rfl gx rfl (rcA r (.slice av r.ts.length cv) (.slice au r.ds.length cu)) HD2.out.xr _ Try.underlying28 rfl infoRc ?_) | (refine wpList_store_at rfl 28 (.tmp 2) (.tmp 175) rfl gr #[.int .i64 0, .int .u64 0, .int .i64 0, .int .u64 0, .int .i64 0, .int .i64 0, .int .i64 0, .string ⟨#[]⟩, .string ⟨#[]⟩, .int .u64 0, .int .i64 0, .int .u64 0, .slice none 0 0, .slice none 0 0] (rcA r (.slice av r.ts.length cv) (.slice au r.ds.length cu)) rfl rfl HD2.out.zr infoRc rfl (by simp [rcA, Value.oneCell']) ?_))
  intro w9 hr9 hk9 ho9
  have HROW := hide hr9
  have HBL := hide (hk9 _ _ HD2.out.bel HLI.out.a)
  have HG9 : Hid (GotIn w.heap.size w9 r (.slice av r.ts.length cv) (.slice au r.ds.length cu)) := ⟨own_put HD2.out.got.1 HD2.out.zr (by decide) ho9, own_put HD2.out.got.2 HD2.out.zr (by decide) ho9⟩
  clear hr9 hk9 HD2 ho9
  go_wp2
  (try simp only [Exit.inBlock, Exit.then])
  refine bodyPost_ret (res_at rfl _ _ gr (rcA r (.slice av r.ts.length cv) (.slice au r.ds.length cu)) _ rfl HROW.out Try.underlying28 rfl infoRc) rfl ?_
  show Ans _ _ _ _
  unfold Ans
  rw [HDD.out]
  exact ⟨⟨_, _, rfl, HG9.out⟩, HBL.out⟩
end Go.Proofs.Ytgobegpmojkhaaa

/-
  The document's Decode: kind 1.
-/
namespace Go.Proofs.Ytgobegpmojkhaaa
open Go.RowKit
set_option linter.unusedVariables false

set_option maxRecDepth 6000 in
set_option maxHeartbeats 6400000 in
theorem rdec_1 (b : ByteArray) (w : World) (hb : b.size ≤ 140737488355328) (hk : (pNum 1 (⟨b.data.toList, 0⟩ : St)).2.e = 0 ∧ (pNum 1 (⟨b.data.toList, 0⟩ : St)).1 = 1) :
    Calls Try.prog 33 #[.string b] w fun e w' => Ans w b.data.toList e w' := by
  obtain ⟨s, hs⟩ : ∃ s : St, s = ⟨b.data.toList, 0⟩ := ⟨_, rfl⟩
  have HSS := hide hs
  obtain ⟨kd, s0, h0⟩ : ∃ n s', pNum 1 s = (n, s') := ⟨_, _, rfl⟩
  rw [← hs, h0] at hk
  simp only at hk
  have hgd : pIn 1 8 s = pNum 1 s := pin_good (by rw [h0]; simp only; omega)
  have he0 := hk.1
  obtain rfl : kd = 1 := hk.2
  clear hk
  obtain ⟨l, s1, hl⟩ : ∃ n s', pNum 8 s0 = (n, s') := ⟨_, _, rfl⟩
  obtain ⟨t, s2, ht⟩ : ∃ n s', pNum 4 s1 = (n, s') := ⟨_, _, rfl⟩
  have bt : t < 256 ^ 4 := by have := num_lt 4 s1; rw [ht] at this; exact this
  have ewt := conv_i64 t (by omega)
  clear bt
  obtain ⟨p, s3, hp⟩ : ∃ n s', pNum 8 s2 = (n, s') := ⟨_, _, rfl⟩
  obtain ⟨ck, t1, hck⟩ : ∃ n s', pNum 1 s3 = (n, s') := ⟨_, _, rfl⟩
  have bck : ck < 256 ^ 1 := by have := num_lt 1 s3; rw [hck] at this; exact this
  have ewck := conv_i64 ck (by omega)
  clear bck
  obtain ⟨cp, t2, hcp⟩ : ∃ n s', pNum 2 t1 = (n, s') := ⟨_, _, rfl⟩
  have bcp : cp < 256 ^ 2 := by have := num_lt 2 t1; rw [hcp] at this; exact this
  have ewcp := conv_i64 cp (by omega)
  clear bcp
  obtain ⟨cs, t3, hcs⟩ : ∃ n s', pNum 1 t2 = (n, s') := ⟨_, _, rfl⟩
  have bcs : cs < 256 ^ 1 := by have := num_lt 1 t2; rw [hcs] at this; exact this
  have ewcs := conv_i64 cs (by omega)
  clear bcs
  obtain ⟨co, t4, hco⟩ : ∃ n s', pText t3 = (n, s') := ⟨_, _, rfl⟩
  obtain ⟨cn, t5, hcn⟩ : ∃ n s', pText t4 = (n, s') := ⟨_, _, rfl⟩
  have HPR0 : pRec s = (⟨1, l, t, p, ⟨ck, cp, cs, co, cn⟩, 0, 0, 0, [], []⟩, t5) := by
    rw [rec_rest, hgd, h0]
    simp [recRest, bindP, pureP, pMay, pCh, hl, ht, hp, hck, hcp, hcs, hco, hcn]
  have HPR : Hid ((pRec ⟨b.data.toList, 0⟩).2 = t5 ∧ (t5.e = 0 → (pRec ⟨b.data.toList, 0⟩).1 = ⟨1, l, t, p, ⟨ck, cp, cs, co, cn⟩, 0, 0, 0, [], []⟩)) := by
    rw [← HSS.out, HPR0]
    exact ⟨rfl, fun _ => rfl⟩
  clear HPR0 hgd
  have K3 := Keeps.three w 28 97 28 #[.int .i64 0, .int .u64 0, .int .i64 0, .int .u64 0, .int .i64 0, .int .i64 0, .int .i64 0, .string ⟨#[]⟩, .string ⟨#[]⟩, .int .u64 0, .int .i64 0, .int .u64 0, .slice none 0 0, .slice none 0 0] #[.string b, .int .i64 0, .int .i64 0] #[.int .i64 0, .int .u64 0, .int .i64 0, .int .u64 0, .int .i64 0, .int .i64 0, .int .i64 0, .string ⟨#[]⟩, .string ⟨#[]⟩, .int .u64 0, .int .i64 0, .int .u64 0, .slice none 0 0, .slice none 0 0]
  have HI : Hid (DK w (((w.alloc (.cells #[.int .i64 0, .int .u64 0, .int .i64 0, .int .u64 0, .int .i64 0, .int .i64 0, .int .i64 0, .string ⟨#[]⟩, .string ⟨#[]⟩, .int .u64 0, .int .i64 0, .int .u64 0, .slice none 0 0, .slice none 0 0] 28)).alloc (.cells #[.string b, .int .i64 0, .int .i64 0] 97)).alloc (.cells #[.int .i64 0, .int .u64 0, .int .i64 0, .int .u64 0, .int .i64 0, .int .i64 0, .int .i64 0, .string ⟨#[]⟩, .string ⟨#[]⟩, .int .u64 0, .int .i64 0, .int .u64 0, .slice none 0 0, .slice none 0 0] 28)) w.heap.size (w.heap.size + 1) (w.heap.size + 1 + 1) b s Rec.zero (.slice none 0 0) (.slice none 0 0) []) := by
    rw [hs]
    exact ⟨⟨0, K3.1.2.1, Nat.zero_le _, fun _ => ⟨Nat.zero_le _, rfl⟩⟩, K3.1.1, K3.1.2.2.1, K3.2, ⟨World.ownsRow_nil _ _ _ _, World.ownsRow_nil _ _ _ _⟩, trivial⟩
  have HLI0 : Hid (Lie w w.heap.size (w.heap.size + 1) (w.heap.size + 1 + 1)) := ⟨by omega, by omega, by omega, by omega, by omega, by omega⟩
  clear K3
  go_enter Try.func33, Try.ntmps33
  go_wp2_with fail
  obtain ⟨gx, hgx⟩ : ∃ g, g = w.heap.size + 1 + 1 := ⟨_, rfl⟩
  obtain ⟨g, hg⟩ : ∃ g, g = w.heap.size + 1 := ⟨_, rfl⟩
  obtain ⟨gr, hgr⟩ : ∃ g, g = w.heap.size := ⟨_, rfl⟩
  have HLI : Hid (Lie w gr g gx) := by rw [hgx, hg, hgr]; exact HLI0
  have HB : Hid (DK w (((w.alloc (.cells #[.int .i64 0, .int .u64 0, .int .i64 0, .int .u64 0, .int .i64 0, .int .i64 0, .int .i64 0, .string ⟨#[]⟩, .string ⟨#[]⟩, .int .u64 0, .int .i64 0, .int .u64 0, .slice none 0 0, .slice none 0 0] 28)).alloc (.cells #[.string b, .int .i64 0, .int .i64 0] 97)).alloc (.cells #[.int .i64 0, .int .u64 0, .int .i64 0, .int .u64 0, .int .i64 0, .int .i64 0, .int .i64 0, .string ⟨#[]⟩, .string ⟨#[]⟩, .int .u64 0, .int .i64 0, .int .u64 0, .slice none 0 0, .slice none 0 0] 28)) gr g gx b s Rec.zero (.slice none 0 0) (.slice none 0 0) []) := by rw [hgx, hg, hgr]; exact HI
  rw [← hgx, ← hg, ← hgr]
  refine gen_calls (fun x => Hid (DK w x gr g gx b s Rec.zero (.slice none 0 0) (.slice none 0 0) [])) HB ?_
  clear HB HI HLI0 hgx hg hgr hs
  intro y HB
  have Ck := hide (fun x h => rnum_any g b s 1 x (by omega) hb h)
  rw [h0] at Ck
  have Cl := hide (fun x h => rnum_any g b s0 8 x (by omega) hb h)
  rw [hl] at Cl
  have Ct := hide (fun x h => rnum_any g b s1 4 x (by omega) hb h)
  rw [ht] at Ct
  have Cp := hide (fun x h => rnum_any g b s2 8 x (by omega) hb h)
  rw [hp] at Cp
  have Cck := hide (fun x h => rnum_any g b s3 1 x (by omega) hb h)
  rw [hck] at Cck
  have Ccp := hide (fun x h => rnum_any g b t1 2 x (by omega) hb h)
  rw [hcp] at Ccp
  have Ccs := hide (fun x h => rnum_any g b t2 1 x (by omega) hb h)
  rw [hcs] at Ccs
  have Cco := hide (fun x h => rtext_any g b t3 x hb h)
  rw [hco] at Cco
  have Ccn := hide (fun x h => rtext_any g b t4 x hb h)
  rw [hcn] at Ccn
  clear h0 hl ht hp hck hcp hcs hco hcn
  refine (Ck.out _ HB.out.rd).mono ?_
  rintro e x ⟨rfl, hrd, hgw⟩
  have HX := hide (HB.out.step HLI.out (fun e he => (nomatch he)) hrd hgw)
  clear hrd hgw HB Ck
  have c := HX.out.xr.cell 0 (.int .i64 0) rfl
  have f := HX.out.xr.free 0
  have hst : (Instr.storeAt 3 (.pointer (some ⟨gx, 0, none⟩)) (.int .i64 1)).run Try.prog x = .ok () (x.setCell ⟨gx, 0, none⟩ (.int .i64 1)) := by go_simp
  clear c f
  have HB : Hid (DK w (x.setCell ⟨gx, 0, none⟩ (.int .i64 1)) gr g gx b s0 ⟨1, 0, 0, 0, Ch.zero, 0, 0, 0, [], []⟩ (.slice none 0 0) (.slice none 0 0) []) := HX.out.set HLI.out (fun e he => (nomatch he)) 0 (.int .i64 1) ⟨1, 0, 0, 0, Ch.zero, 0, 0, 0, [], []⟩ rfl rfl rfl
  clear HX
  go_wp2_with (refine wpList_store_one rfl 3 (.tmp 17) (.tmp 16) rfl gx 0 (.int .i64 1) rfl rfl hst ?_; refine gen_w (fun x => Hid (DK w x gr g gx b s0 ⟨1, 0, 0, 0, Ch.zero, 0, 0, 0, [], []⟩ (.slice none 0 0) (.slice none 0 0) [])) HB ?_; clear HB hst; intro y HB; have c0 := HB.out.xr.cell 0 (.int .i64 1) rfl; obtain ⟨k, q, -, -⟩ := HB.out.rd; have c2 := q.cell 2 (.int .i64 0) (by rw [he0]; rfl); clear q)
  clear c2
  refine (Cl.out _ HB.out.rd).mono ?_
  rintro e x ⟨rfl, hrd, hgw⟩
  have HX := hide (HB.out.step HLI.out (fun e he => (nomatch he)) hrd hgw)
  clear hrd hgw HB Cl c0
  have c := HX.out.xr.cell 1 (.int .u64 0) rfl
  have f := HX.out.xr.free 1
  have hst : (Instr.storeAt 22 (.pointer (some ⟨gx, 1, none⟩)) (.int .u64 ((l : Nat) : Int))).run Try.prog x = .ok () (x.setCell ⟨gx, 1, none⟩ (.int .u64 ((l : Nat) : Int))) := by go_simp
  clear c f
  have HB : Hid (DK w (x.setCell ⟨gx, 1, none⟩ (.int .u64 ((l : Nat) : Int))) gr g gx b s1 ⟨1, l, 0, 0, Ch.zero, 0, 0, 0, [], []⟩ (.slice none 0 0) (.slice none 0 0) []) := HX.out.set HLI.out (fun e he => (nomatch he)) 1 (.int .u64 ((l : Nat) : Int)) ⟨1, l, 0, 0, Ch.zero, 0, 0, 0, [], []⟩ rfl rfl rfl
  clear HX
  go_wp2_with (refine wpList_store_one rfl 22 (.tmp 36) (.tmp 35) rfl gx 1 (.int .u64 ((l : Nat) : Int)) rfl rfl hst ?_; refine gen_w (fun x => Hid (DK w x gr g gx b s1 ⟨1, l, 0, 0, Ch.zero, 0, 0, 0, [], []⟩ (.slice none 0 0) (.slice none 0 0) [])) HB ?_; clear HB hst; intro y HB; have c0 := HB.out.xr.cell 0 (.int .i64 1) rfl)
  refine (Ct.out _ HB.out.rd).mono ?_
  rintro e x ⟨rfl, hrd, hgw⟩
  have HX := hide (HB.out.step HLI.out (fun e he => (nomatch he)) hrd hgw)
  clear hrd hgw HB Ct c0
  have c := HX.out.xr.cell 2 (.int .i64 0) rfl
  have f := HX.out.xr.free 2
  have hst : (Instr.storeAt 3 (.pointer (some ⟨gx, 2, none⟩)) (.int .i64 ((t : Nat) : Int))).run Try.prog x = .ok () (x.setCell ⟨gx, 2, none⟩ (.int .i64 ((t : Nat) : Int))) := by go_simp
  clear c f
  have HB : Hid (DK w (x.setCell ⟨gx, 2, none⟩ (.int .i64 ((t : Nat) : Int))) gr g gx b s2 ⟨1, l, t, 0, Ch.zero, 0, 0, 0, [], []⟩ (.slice none 0 0) (.slice none 0 0) []) := HX.out.set HLI.out (fun e he => (nomatch he)) 2 (.int .i64 ((t : Nat) : Int)) ⟨1, l, t, 0, Ch.zero, 0, 0, 0, [], []⟩ rfl rfl rfl
  clear HX
  go_wp2_with (refine wpList_store_one rfl 3 (.tmp 40) (.tmp 39) rfl gx 2 (.int .i64 ((t : Nat) : Int)) rfl rfl hst ?_; refine gen_w (fun x => Hid (DK w x gr g gx b s2 ⟨1, l, t, 0, Ch.zero, 0, 0, 0, [], []⟩ (.slice none 0 0) (.slice none 0 0) [])) HB ?_; clear HB hst; intro y HB; have c0 := HB.out.xr.cell 0 (.int .i64 1) rfl)
  refine (Cp.out _ HB.out.rd).mono ?_
  rintro e x ⟨rfl, hrd, hgw⟩
  have HX := hide (HB.out.step HLI.out (fun e he => (nomatch he)) hrd hgw)
  clear hrd hgw HB Cp c0
  have c := HX.out.xr.cell 3 (.int .u64 0) rfl
  have f := HX.out.xr.free 3
  have hst : (Instr.storeAt 22 (.pointer (some ⟨gx, 3, none⟩)) (.int .u64 ((p : Nat) : Int))).run Try.prog x = .ok () (x.setCell ⟨gx, 3, none⟩ (.int .u64 ((p : Nat) : Int))) := by go_simp
  clear c f
  have HB : Hid (DK w (x.setCell ⟨gx, 3, none⟩ (.int .u64 ((p : Nat) : Int))) gr g gx b s3 ⟨1, l, t, p, Ch.zero, 0, 0, 0, [], []⟩ (.slice none 0 0) (.slice none 0 0) []) := HX.out.set HLI.out (fun e he => (nomatch he)) 3 (.int .u64 ((p : Nat) : Int)) ⟨1, l, t, p, Ch.zero, 0, 0, 0, [], []⟩ rfl rfl rfl
  clear HX
  go_wp2_with (refine wpList_store_one rfl 22 (.tmp 43) (.tmp 42) rfl gx 3 (.int .u64 ((p : Nat) : Int)) rfl rfl hst ?_; refine gen_w (fun x => Hid (DK w x gr g gx b s3 ⟨1, l, t, p, Ch.zero, 0, 0, 0, [], []⟩ (.slice none 0 0) (.slice none 0 0) [])) HB ?_; clear HB hst; intro y HB; have c0 := HB.out.xr.cell 0 (.int .i64 1) rfl)
  refine (Cck.out _ HB.out.rd).mono ?_
  rintro e x ⟨rfl, hrd, hgw⟩
  have HX := hide (HB.out.step HLI.out (fun e he => (nomatch he)) hrd hgw)
  clear hrd hgw HB Cck c0
  have c := HX.out.xr.cell 4 (.int .i64 0) rfl
  have f := HX.out.xr.free 4
  have hst : (Instr.storeAt 3 (.pointer (some ⟨gx, 4, none⟩)) (.int .i64 ((ck : Nat) : Int))).run Try.prog x = .ok () (x.setCell ⟨gx, 4, none⟩ (.int .i64 ((ck : Nat) : Int))) := by go_simp
  clear c f
  have HB : Hid (DK w (x.setCell ⟨gx, 4, none⟩ (.int .i64 ((ck : Nat) : Int))) gr g gx b t1 ⟨1, l, t, p, ⟨ck, 0, 0, ⟨#[]⟩, ⟨#[]⟩⟩, 0, 0, 0, [], []⟩ (.slice none 0 0) (.slice none 0 0) []) := HX.out.set HLI.out (fun e he => (nomatch he)) 4 (.int .i64 ((ck : Nat) : Int)) ⟨1, l, t, p, ⟨ck, 0, 0, ⟨#[]⟩, ⟨#[]⟩⟩, 0, 0, 0, [], []⟩ rfl rfl rfl
  clear HX
  go_wp2_with (refine wpList_store_one rfl 3 (.tmp 51) (.tmp 49) rfl gx 4 (.int .i64 ((ck : Nat) : Int)) rfl rfl hst ?_; refine gen_w (fun x => Hid (DK w x gr g gx b t1 ⟨1, l, t, p, ⟨ck, 0, 0, ⟨#[]⟩, ⟨#[]⟩⟩, 0, 0, 0, [], []⟩ (.slice none 0 0) (.slice none 0 0) [])) HB ?_; clear HB hst; intro y HB; have c0 := HB.out.xr.cell 0 (.int .i64 1) rfl)
  refine (Ccp.out _ HB.out.rd).mono ?_
  rintro e x ⟨rfl, hrd, hgw⟩
  have HX := hide (HB.out.step HLI.out (fun e he => (nomatch he)) hrd hgw)
  clear hrd hgw HB Ccp c0
  have c := HX.out.xr.cell 5 (.int .i64 0) rfl
  have f := HX.out.xr.free 5
  have hst : (Instr.storeAt 3 (.pointer (some ⟨gx, 5, none⟩)) (.int .i64 ((cp : Nat) : Int))).run Try.prog x = .ok () (x.setCell ⟨gx, 5, none⟩ (.int .i64 ((cp : Nat) : Int))) := by go_simp
  clear c f
  have HB : Hid (DK w (x.setCell ⟨gx, 5, none⟩ (.int .i64 ((cp : Nat) : Int))) gr g gx b t2 ⟨1, l, t, p, ⟨ck, cp, 0, ⟨#[]⟩, ⟨#[]⟩⟩, 0, 0, 0, [], []⟩ (.slice none 0 0) (.slice none 0 0) []) := HX.out.set HLI.out (fun e he => (nomatch he)) 5 (.int .i64 ((cp : Nat) : Int)) ⟨1, l, t, p, ⟨ck, cp, 0, ⟨#[]⟩, ⟨#[]⟩⟩, 0, 0, 0, [], []⟩ rfl rfl rfl
  clear HX
  go_wp2_with (refine wpList_store_one rfl 3 (.tmp 56) (.tmp 54) rfl gx 5 (.int .i64 ((cp : Nat) : Int)) rfl rfl hst ?_; refine gen_w (fun x => Hid (DK w x gr g gx b t2 ⟨1, l, t, p, ⟨ck, cp, 0, ⟨#[]⟩, ⟨#[]⟩⟩, 0, 0, 0, [], []⟩ (.slice none 0 0) (.slice none 0 0) [])) HB ?_; clear HB hst; intro y HB; have c0 := HB.out.xr.cell 0 (.int .i64 1) rfl)
  refine (Ccs.out _ HB.out.rd).mono ?_
  rintro e x ⟨rfl, hrd, hgw⟩
  have HX := hide (HB.out.step HLI.out (fun e he => (nomatch he)) hrd hgw)
  clear hrd hgw HB Ccs c0
  have c := HX.out.xr.cell 6 (.int .i64 0) rfl
  have f := HX.out.xr.free 6
  have hst : (Instr.storeAt 3 (.pointer (some ⟨gx, 6, none⟩)) (.int .i64 ((cs : Nat) : Int))).run Try.prog x = .ok () (x.setCell ⟨gx, 6, none⟩ (.int .i64 ((cs : Nat) : Int))) := by go_simp
  clear c f
  have HB : Hid (DK w (x.setCell ⟨gx, 6, none⟩ (.int .i64 ((cs : Nat) : Int))) gr g gx b t3 ⟨1, l, t, p, ⟨ck, cp, cs, ⟨#[]⟩, ⟨#[]⟩⟩, 0, 0, 0, [], []⟩ (.slice none 0 0) (.slice none 0 0) []) := HX.out.set HLI.out (fun e he => (nomatch he)) 6 (.int .i64 ((cs : Nat) : Int)) ⟨1, l, t, p, ⟨ck, cp, cs, ⟨#[]⟩, ⟨#[]⟩⟩, 0, 0, 0, [], []⟩ rfl rfl rfl
  clear HX
  go_wp2_with (refine wpList_store_one rfl 3 (.tmp 61) (.tmp 59) rfl gx 6 (.int .i64 ((cs : Nat) : Int)) rfl rfl hst ?_; refine gen_w (fun x => Hid (DK w x gr g gx b t3 ⟨1, l, t, p, ⟨ck, cp, cs, ⟨#[]⟩, ⟨#[]⟩⟩, 0, 0, 0, [], []⟩ (.slice none 0 0) (.slice none 0 0) [])) HB ?_; clear HB hst; intro y HB; have c0 := HB.out.xr.cell 0 (.int .i64 1) rfl)
  refine (Cco.out _ HB.out.rd).mono ?_
  rintro e x ⟨rfl, hrd, hgw⟩
  have HX := hide (HB.out.step HLI.out (fun e he => (nomatch he)) hrd hgw)
  clear hrd hgw HB Cco c0
  have c := HX.out.xr.cell 7 (.string ⟨#[]⟩) rfl
  have f := HX.out.xr.free 7
  have hst : (Instr.storeAt 9 (.pointer (some ⟨gx, 7, none⟩)) (.string co)).run Try.prog x = .ok () (x.setCell ⟨gx, 7, none⟩ (.string co)) := by go_simp
  clear c f
  have HB : Hid (DK w (x.setCell ⟨gx, 7, none⟩ (.string co)) gr g gx b t4 ⟨1, l, t, p, ⟨ck, cp, cs, co, ⟨#[]⟩⟩, 0, 0, 0, [], []⟩ (.slice none 0 0) (.slice none 0 0) []) := HX.out.set HLI.out (fun e he => (nomatch he)) 7 (.string co) ⟨1, l, t, p, ⟨ck, cp, cs, co, ⟨#[]⟩⟩, 0, 0, 0, [], []⟩ rfl rfl rfl
  clear HX
  go_wp2_with (refine wpList_store_one rfl 9 (.tmp 65) (.tmp 63) rfl gx 7 (.string co) rfl rfl hst ?_; refine gen_w (fun x => Hid (DK w x gr g gx b t4 ⟨1, l, t, p, ⟨ck, cp, cs, co, ⟨#[]⟩⟩, 0, 0, 0, [], []⟩ (.slice none 0 0) (.slice none 0 0) [])) HB ?_; clear HB hst; intro y HB; have c0 := HB.out.xr.cell 0 (.int .i64 1) rfl)
  refine (Ccn.out _ HB.out.rd).mono ?_
  rintro e x ⟨rfl, hrd, hgw⟩
  have HX := hide (HB.out.step HLI.out (fun e he => (nomatch he)) hrd hgw)
  clear hrd hgw HB Ccn c0
  have c := HX.out.xr.cell 8 (.string ⟨#[]⟩) rfl
  have f := HX.out.xr.free 8
  have hst : (Instr.storeAt 9 (.pointer (some ⟨gx, 8, none⟩)) (.string cn)).run Try.prog x = .ok () (x.setCell ⟨gx, 8, none⟩ (.string cn)) := by go_simp
  clear c f
  have HB : Hid (DK w (x.setCell ⟨gx, 8, none⟩ (.string cn)) gr g gx b t5 ⟨1, l, t, p, ⟨ck, cp, cs, co, cn⟩, 0, 0, 0, [], []⟩ (.slice none 0 0) (.slice none 0 0) []) := HX.out.set HLI.out (fun e he => (nomatch he)) 8 (.string cn) ⟨1, l, t, p, ⟨ck, cp, cs, co, cn⟩, 0, 0, 0, [], []⟩ rfl rfl rfl
  clear HX
  go_wp2_with (refine wpList_store_one rfl 9 (.tmp 69) (.tmp 67) rfl gx 8 (.string cn) rfl rfl hst ?_; refine gen_w (fun x => Hid (DK w x gr g gx b t5 ⟨1, l, t, p, ⟨ck, cp, cs, co, cn⟩, 0, 0, 0, [], []⟩ (.slice none 0 0) (.slice none 0 0) [])) HB ?_; clear HB hst; intro yt HD; refine halt ?_)
  obtain ⟨r, hrr⟩ : ∃ r : Rec, r = ⟨1, l, t, p, ⟨ck, cp, cs, co, cn⟩, 0, 0, 0, [], []⟩ := ⟨_, rfl⟩
  have hrk : r.k = ((1 : Nat) : Int) := by first | (rw [hrr]; done) | (rw [hrr]; rfl)
  rw [← hrr] at HD HPR
  have HRR := hide hrr
  clear hrr
  have rn2 : (r.k == 2) = false := by rw [beq_eq_false_iff_ne]; omega
  have rn6 : (r.k == 6) = false := by rw [beq_eq_false_iff_ne]; omega
  have rn8 : (r.k == 8) = false := by rw [beq_eq_false_iff_ne]; omega
  clear hrk
  obtain ⟨va, hva0⟩ : ∃ v, v = Value.slice none 0 0 := ⟨_, rfl⟩
  obtain ⟨vb, hvb0⟩ : ∃ v, v = Value.slice none 0 0 := ⟨_, rfl⟩
  have HD1 : Hid (DK w yt gr g gx b t5 r va vb []) := by rw [hva0, hvb0]; exact HD
  clear HD
  have HD := HD1
  clear HD1 hva0 hvb0
  generalize t5 = s' at *
  obtain ⟨k, q, hkb, hkl⟩ := HD.out.rd
  have c0 := HD.out.xr.cell 0 (.int .i64 r.k) rfl
  have c2 := q.cell 2 (.int .i64 s'.e) rfl
  have c1 := q.cell 1 (.int .i64 (k : Int)) rfl
  have HKL := hide hkl
  clear q hkl
  have HDR : Hid (decR b.data.toList = if (pRec ⟨b.data.toList, 0⟩).2.e ≠ 0 then (Rec.zero, (pRec ⟨b.data.toList, 0⟩).2.e) else if (pRec ⟨b.data.toList, 0⟩).2.l ≠ [] ∨ (pRec ⟨b.data.toList, 0⟩).1.rightB = false then (Rec.zero, 2) else ((pRec ⟨b.data.toList, 0⟩).1, 0)) := rfl
  by_cases he : s'.e = 0
  case neg =>
    have hdr : decR b.data.toList = (Rec.zero, s'.e) := by rw [HDR.out, HPR.out.1, if_pos he]
    have HDD := hide hdr
    have k0 : (s'.e == 0) = false := by rw [beq_eq_false_iff_ne]; exact he
    have k1 : (s'.e != 0) = true := by rw [bne, k0]; rfl
    clear hdr HDR he HPR HKL c1 hkb
    generalize s'.e = es at *
    have z0 := HD.out.zr.cell 0 (.int .i64 0) rfl
    have zf0 := HD.out.zr.free 0
    have z1 := HD.out.zr.cell 1 (.int .u64 0) rfl
    have zf1 := HD.out.zr.free 1
    have z2 := HD.out.zr.cell 2 (.int .i64 0) rfl
    have zf2 := HD.out.zr.free 2
    have z3 := HD.out.zr.cell 3 (.int .u64 0) rfl
    have zf3 := HD.out.zr.free 3
    have z4 := HD.out.zr.cell 4 (.int .i64 0) rfl
    have zf4 := HD.out.zr.free 4
    have z5 := HD.out.zr.cell 5 (.int .i64 0) rfl
    have zf5 := HD.out.zr.free 5
    have z6 := HD.out.zr.cell 6 (.int .i64 0) rfl
    have zf6 := HD.out.zr.free 6
    have z7 := HD.out.zr.cell 7 (.string ⟨#[]⟩) rfl
    have zf7 := HD.out.zr.free 7
    have z8 := HD.out.zr.cell 8 (.string ⟨#[]⟩) rfl
    have zf8 := HD.out.zr.free 8
    have z9 := HD.out.zr.cell 9 (.int .u64 0) rfl
    have zf9 := HD.out.zr.free 9
    have z10 := HD.out.zr.cell 10 (.int .i64 0) rfl
    have zf10 := HD.out.zr.free 10
    have z11 := HD.out.zr.cell 11 (.int .u64 0) rfl
    have zf11 := HD.out.zr.free 11
    have z12 := HD.out.zr.cell 12 (.slice none 0 0) rfl
    have zf12 := HD.out.zr.free 12
    have z13 := HD.out.zr.cell 13 (.slice none 0 0) rfl
    have zf13 := HD.out.zr.free 13
    have ne1 := HLI.out.d
    refine unhalt ?_
    go_wp2_with fail
    go_region
    have HRW := hide ((((((((((((((HD.out.zr.setSame 0 (.int .i64 0) rfl).setSame 1 (.int .u64 0) rfl).setSame 2 (.int .i64 0) rfl).setSame 3 (.int .u64 0) rfl).setSame 4 (.int .i64 0) rfl).setSame 5 (.int .i64 0) rfl).setSame 6 (.int .i64 0) rfl).setSame 7 (.string ⟨#[]⟩) rfl).setSame 8 (.string ⟨#[]⟩) rfl).setSame 9 (.int .u64 0) rfl).setSame 10 (.int .i64 0) rfl).setSame 11 (.int .u64 0) rfl).setSame 12 (.slice none 0 0) rfl).setSame 13 (.slice none 0 0) rfl)
    have HBW := hide ((((((((((((((HD.out.bel.set1 HLI.out.a 0 (.int .i64 0)).set1 HLI.out.a 1 (.int .u64 0)).set1 HLI.out.a 2 (.int .i64 0)).set1 HLI.out.a 3 (.int .u64 0)).set1 HLI.out.a 4 (.int .i64 0)).set1 HLI.out.a 5 (.int .i64 0)).set1 HLI.out.a 6 (.int .i64 0)).set1 HLI.out.a 7 (.string ⟨#[]⟩)).set1 HLI.out.a 8 (.string ⟨#[]⟩)).set1 HLI.out.a 9 (.int .u64 0)).set1 HLI.out.a 10 (.int .i64 0)).set1 HLI.out.a 11 (.int .u64 0)).set1 HLI.out.a 12 (.slice none 0 0)).set1 HLI.out.a 13 (.slice none 0 0))
    refine gen_w (fun x => Hid (RowAt x gr 28 #[.int .i64 0, .int .u64 0, .int .i64 0, .int .u64 0, .int .i64 0, .int .i64 0, .int .i64 0, .string ⟨#[]⟩, .string ⟨#[]⟩, .int .u64 0, .int .i64 0, .int .u64 0, .slice none 0 0, .slice none 0 0]) ∧ Hid (Below w.heap.size w x)) (x := ((((((((((((((yt.setCell ⟨gr, 0, none⟩ (.int .i64 0)).setCell ⟨gr, 1, none⟩ (.int .u64 0)).setCell ⟨gr, 2, none⟩ (.int .i64 0)).setCell ⟨gr, 3, none⟩ (.int .u64 0)).setCell ⟨gr, 4, none⟩ (.int .i64 0)).setCell ⟨gr, 5, none⟩ (.int .i64 0)).setCell ⟨gr, 6, none⟩ (.int .i64 0)).setCell ⟨gr, 7, none⟩ (.string ⟨#[]⟩)).setCell ⟨gr, 8, none⟩ (.string ⟨#[]⟩)).setCell ⟨gr, 9, none⟩ (.int .u64 0)).setCell ⟨gr, 10, none⟩ (.int .i64 0)).setCell ⟨gr, 11, none⟩ (.int .u64 0)).setCell ⟨gr, 12, none⟩ (.slice none 0 0)).setCell ⟨gr, 13, none⟩ (.slice none 0 0)).drew) ⟨hide (rowat_drew HRW.out), hide (below_drew HBW.out)⟩ ?_
    clear HD HRW HBW z0 zf0 z1 zf1 z2 zf2 z3 zf3 z4 zf4 z5 zf5 z6 zf6 z7 zf7 z8 zf8 z9 zf9 z10 zf10 z11 zf11 z12 zf12 z13 zf13 ne1 c2
    rintro y0 ⟨HROW, HBL⟩
    go_wp2
    (try simp only [Exit.inBlock, Exit.then])
    refine bodyPost_ret (res_at rfl _ _ gr #[.int .i64 0, .int .u64 0, .int .i64 0, .int .u64 0, .int .i64 0, .int .i64 0, .int .i64 0, .string ⟨#[]⟩, .string ⟨#[]⟩, .int .u64 0, .int .i64 0, .int .u64 0, .slice none 0 0, .slice none 0 0] _ rfl HROW.out Try.underlying28 rfl infoRc) rfl ?_
    show Ans _ _ _ _
    unfold Ans
    rw [HDD.out]
    exact ⟨⟨_, _, rfl, World.ownsRow_nil _ _ _ _, World.ownsRow_nil _ _ _ _⟩, HBL.out⟩
  rw [he] at c2
  have hrq := HPR.out.2 he
  obtain ⟨hks, hdl⟩ := HKL.out he
  obtain ⟨av, cv, hva⟩ := own_shape5 HD.out.got.1
  obtain ⟨au, cu, hvb⟩ := own_shape5 HD.out.got.2
  subst hva hvb
  by_cases hk : (k : Int) = (b.size : Int)
  case neg =>
    have hne : s'.l ≠ [] := fun h => by
      rw [h] at hdl
      have h3 := congrArg List.length hdl
      rw [List.length_drop, data_length] at h3
      have h4 : b.size - k = 0 := h3
      omega
    have hdr : decR b.data.toList = (Rec.zero, 2) := by rw [HDR.out, HPR.out.1, if_neg (fun h => h he), if_pos (.inl hne)]
    have HDD := hide hdr
    have k0 : ((k : Int) == (b.size : Int)) = false := by rw [beq_eq_false_iff_ne]; exact hk
    have k1 : ((k : Int) != (b.size : Int)) = true := by rw [bne, k0]; rfl
    clear hdr HDR he HPR HKL hrq hdl hne hk
    refine unhalt ?_
    go_wp2_with (refine wpList_store_at rfl 28 (.tmp 2) (.tmp 174) rfl gr #[.int .i64 0, .int .u64 0, .int .i64 0, .int .u64 0, .int .i64 0, .int .i64 0, .int .i64 0, .string ⟨#[]⟩, .string ⟨#[]⟩, .int .u64 0, .int .i64 0, .int .u64 0, .slice none 0 0, .slice none 0 0] #[.int .i64 0, .int .u64 0, .int .i64 0, .int .u64 0, .int .i64 0, .int .i64 0, .int .i64 0, .string ⟨#[]⟩, .string ⟨#[]⟩, .int .u64 0, .int .i64 0, .int .u64 0, .slice none 0 0, .slice none 0 0] rfl rfl HD.out.zr infoRc rfl (by simp [Value.oneCell']) ?_)
    intro w9 hr9 hk9 _
    have HROW := hide hr9
    have HBL := hide (hk9 _ _ HD.out.bel HLI.out.a)
    clear hr9 hk9 HD c1 c2
    go_wp2
    (try simp only [Exit.inBlock, Exit.then])
    refine bodyPost_ret (res_at rfl _ _ gr #[.int .i64 0, .int .u64 0, .int .i64 0, .int .u64 0, .int .i64 0, .int .i64 0, .int .i64 0, .string ⟨#[]⟩, .string ⟨#[]⟩, .int .u64 0, .int .i64 0, .int .u64 0, .slice none 0 0, .slice none 0 0] _ rfl HROW.out Try.underlying28 rfl infoRc) rfl ?_
    show Ans _ _ _ _
    unfold Ans
    rw [HDD.out]
    exact ⟨⟨_, _, rfl, World.ownsRow_nil _ _ _ _, World.ownsRow_nil _ _ _ _⟩, HBL.out⟩
  have hln : s'.l = [] := by
    rw [← hdl]
    apply List.drop_eq_nil_of_le
    rw [data_length]
    omega
  have k0 : ((k : Int) == (b.size : Int)) = true := by rw [hk]; exact beq_self_eq_true _
  have k1 : ((k : Int) != (b.size : Int)) = false := by rw [bne, k0]; rfl
  clear hk
  have r0 := HD.out.xr.cell 0 (.int .i64 r.k) rfl
  have r1 := HD.out.xr.cell 1 (.int .u64 (r.l : Int)) rfl
  have r2 := HD.out.xr.cell 2 (.int .i64 r.t) rfl
  have r3 := HD.out.xr.cell 3 (.int .u64 (r.p : Int)) rfl
  have r4 := HD.out.xr.cell 4 (.int .i64 r.c.k) rfl
  have r5 := HD.out.xr.cell 5 (.int .i64 r.c.pg) rfl
  have r6 := HD.out.xr.cell 6 (.int .i64 r.c.sl) rfl
  have r7 := HD.out.xr.cell 7 (.string r.c.o) rfl
  have r8 := HD.out.xr.cell 8 (.string r.c.n) rfl
  have r9 := HD.out.xr.cell 9 (.int .u64 (r.n : Int)) rfl
  have r10 := HD.out.xr.cell 10 (.int .i64 r.s) rfl
  have r11 := HD.out.xr.cell 11 (.int .u64 (r.b : Int)) rfl
  have r12 := HD.out.xr.cell 12 (.slice av r.ts.length cv) rfl
  have r13 := HD.out.xr.cell 13 (.slice au r.ds.length cu) rfl
  have HFR : Hid r.c.fits := by rw [← hrq]; exact (rec_fits ⟨b.data.toList, 0⟩).c
  by_cases hr : r.right
  case neg =>
    have hdr : decR b.data.toList = (Rec.zero, 2) := by rw [HDR.out, HPR.out.1, hrq, if_neg (fun h => h he), if_pos (.inr (rightB_no hr))]
    have HDD := hide hdr
    have HR := hide (rright6_at' r (.slice av r.ts.length cv) (.slice au r.ds.length cu) yt false (hide ⟨fun h => (nomatch h), fun h => absurd h hr⟩) HFR.out HD.out.got.rc)
    clear hdr HDR he HPR HKL hrq hdl hln hr HFR
    refine unhalt ?_
    go_wp2_with fail
    refine HR.out.mono ?_
    rintro e x2 ⟨rfl, hb2⟩
    have HD2 := hide (HD.out.later hb2)
    clear hb2 HD HR c1 c2 r0 r1 r2 r3 r4 r5 r6 r7 r8 r9 r10 r11 r12 r13
    go_wp2_with (refine wpList_store_at rfl 28 (.tmp 2) (.tmp 174) rfl gr #[.int .i64 0, .int .u64 0, .int .i64 0, .int .u64 0, .int .i64 0, .int .i64 0, .int .i64 0, .string ⟨#[]⟩, .string ⟨#[]⟩, .int .u64 0, .int .i64 0, .int .u64 0, .slice none 0 0, .slice none 0 0] #[.int .i64 0, .int .u64 0, .int .i64 0, .int .u64 0, .int .i64 0, .int .i64 0, .int .i64 0, .string ⟨#[]⟩, .string ⟨#[]⟩, .int .u64 0, .int .i64 0, .int .u64 0, .slice none 0 0, .slice none 0 0] rfl rfl HD2.out.zr infoRc rfl (by simp [Value.oneCell']) ?_)
    intro w9 hr9 hk9 _
    have HROW := hide hr9
    have HBL := hide (hk9 _ _ HD2.out.bel HLI.out.a)
    clear hr9 hk9 HD2
    go_wp2
    (try simp only [Exit.inBlock, Exit.then])
    refine bodyPost_ret (res_at rfl _ _ gr #[.int .i64 0, .int .u64 0, .int .i64 0, .int .u64 0, .int .i64 0, .int .i64 0, .int .i64 0, .string ⟨#[]⟩, .string ⟨#[]⟩, .int .u64 0, .int .i64 0, .int .u64 0, .slice none 0 0, .slice none 0 0] _ rfl HROW.out Try.underlying28 rfl infoRc) rfl ?_
    show Ans _ _ _ _
    unfold Ans
    rw [HDD.out]
    exact ⟨⟨_, _, rfl, World.ownsRow_nil _ _ _ _, World.ownsRow_nil _ _ _ _⟩, HBL.out⟩
  have hdr : decR b.data.toList = (r, 0) := by rw [HDR.out, HPR.out.1, hrq, if_neg (fun h => h he), if_neg (fun h => h.elim (fun h => h hln) (fun h => by rw [rightB_yes hr] at h; cases h))]
  have HDD := hide hdr
  have HR := hide (rright6_at' r (.slice av r.ts.length cv) (.slice au r.ds.length cu) yt true (hide ⟨fun _ => hr, fun _ => rfl⟩) HFR.out HD.out.got.rc)
  clear hdr HDR he HPR HKL hrq hdl hln hr HFR
  refine unhalt ?_
  go_wp2_with fail
  refine HR.out.mono ?_
  rintro e x2 ⟨rfl, hb2⟩
  have HD2 := hide (HD.out.later hb2)
  clear hb2 HD HR c1 c2 r0 r1 r2 r3 r4 r5 r6 r7 r8 r9 r10 r11 r12 r13
  go_wp2_with (first | (refine wpList_load_at rfl 28 (.tmp 5) rfl gx rfl (rcA r (.slice av r.ts.length cv) (.slice au r.ds.length cu)) HD2.out.xr _ Try.underlying28 rfl infoRc ?_) | (refine wpList_store_at rfl 28 (.tmp 2) (.tmp 175) rfl gr #[.int .i64 0, .int .u64 0, .int .i64 0, .int .u64 0, .int .i64 0, .int .i64 0, .int .i64 0, .string ⟨#[]⟩, .string ⟨#[]⟩, .int .u64 0, .int .i64 0, .int .u64 0, .slice none 0 0, .slice none 0 0] (rcA r (.slice av r.ts.length cv) (.slice au r.ds.length cu)) rfl rfl HD2.out.zr infoRc rfl (by simp [rcA, Value.oneCell']) ?_))
  intro w9 hr9 hk9 ho9
  have HROW := hide hr9
  have HBL := hide (hk9 _ _ HD2.out.bel HLI.out.a)
  have HG9 : Hid (GotIn w.heap.size w9 r (.slice av r.ts.length cv) (.slice au r.ds.length cu)) := ⟨own_put HD2.out.got.1 HD2.out.zr (by decide) ho9, own_put HD2.out.got.2 HD2.out.zr (by decide) ho9⟩
  clear hr9 hk9 HD2 ho9
  go_wp2
  (try simp only [Exit.inBlock, Exit.then])
  refine bodyPost_ret (res_at rfl _ _ gr (rcA r (.slice av r.ts.length cv) (.slice au r.ds.length cu)) _ rfl HROW.out Try.underlying28 rfl infoRc) rfl ?_
  show Ans _ _ _ _
  unfold Ans
  rw [HDD.out]
  exact ⟨⟨_, _, rfl, HG9.out⟩, HBL.out⟩
end Go.Proofs.Ytgobegpmojkhaaa

/-
  The document's Decode: kind 2.
-/
namespace Go.Proofs.Ytgobegpmojkhaaa
open Go.RowKit
set_option linter.unusedVariables false

set_option maxRecDepth 6000 in
set_option maxHeartbeats 6400000 in
theorem rdec_2 (b : ByteArray) (w : World) (hb : b.size ≤ 140737488355328) (hk : (pNum 1 (⟨b.data.toList, 0⟩ : St)).2.e = 0 ∧ (pNum 1 (⟨b.data.toList, 0⟩ : St)).1 = 2) :
    Calls Try.prog 33 #[.string b] w fun e w' => Ans w b.data.toList e w' := by
  obtain ⟨s, hs⟩ : ∃ s : St, s = ⟨b.data.toList, 0⟩ := ⟨_, rfl⟩
  have HSS := hide hs
  obtain ⟨kd, s0, h0⟩ : ∃ n s', pNum 1 s = (n, s') := ⟨_, _, rfl⟩
  rw [← hs, h0] at hk
  simp only at hk
  have hgd : pIn 1 8 s = pNum 1 s := pin_good (by rw [h0]; simp only; omega)
  have he0 := hk.1
  obtain rfl : kd = 2 := hk.2
  clear hk
  obtain ⟨l, s1, hl⟩ : ∃ n s', pNum 8 s0 = (n, s') := ⟨_, _, rfl⟩
  obtain ⟨t, s2, ht⟩ : ∃ n s', pNum 4 s1 = (n, s') := ⟨_, _, rfl⟩
  have bt : t < 256 ^ 4 := by have := num_lt 4 s1; rw [ht] at this; exact this
  have ewt := conv_i64 t (by omega)
  clear bt
  obtain ⟨p, s3, hp⟩ : ∃ n s', pNum 8 s2 = (n, s') := ⟨_, _, rfl⟩
  obtain ⟨ck, t1, hck⟩ : ∃ n s', pNum 1 s3 = (n, s') := ⟨_, _, rfl⟩
  have bck : ck < 256 ^ 1 := by have := num_lt 1 s3; rw [hck] at this; exact this
  have ewck := conv_i64 ck (by omega)
  clear bck
  obtain ⟨cp, t2, hcp⟩ : ∃ n s', pNum 2 t1 = (n, s') := ⟨_, _, rfl⟩
  have bcp : cp < 256 ^ 2 := by have := num_lt 2 t1; rw [hcp] at this; exact this
  have ewcp := conv_i64 cp (by omega)
  clear bcp
  obtain ⟨cs, t3, hcs⟩ : ∃ n s', pNum 1 t2 = (n, s') := ⟨_, _, rfl⟩
  have bcs : cs < 256 ^ 1 := by have := num_lt 1 t2; rw [hcs] at this; exact this
  have ewcs := conv_i64 cs (by omega)
  clear bcs
  obtain ⟨co, t4, hco⟩ : ∃ n s', pText t3 = (n, s') := ⟨_, _, rfl⟩
  obtain ⟨cn, t5, hcn⟩ : ∃ n s', pText t4 = (n, s') := ⟨_, _, rfl⟩
  obtain ⟨nx, t6, hnx⟩ : ∃ n s', pNum 8 t5 = (n, s') := ⟨_, _, rfl⟩
  have HPR0 : pRec s = (⟨2, l, t, p, ⟨ck, cp, cs, co, cn⟩, nx, 0, 0, [], []⟩, t6) := by
    rw [rec_rest, hgd, h0]
    simp [recRest, bindP, pureP, pMay, pCh, hl, ht, hp, hck, hcp, hcs, hco, hcn, hnx]
  have HPR : Hid ((pRec ⟨b.data.toList, 0⟩).2 = t6 ∧ (t6.e = 0 → (pRec ⟨b.data.toList, 0⟩).1 = ⟨2, l, t, p, ⟨ck, cp, cs, co, cn⟩, nx, 0, 0, [], []⟩)) := by
    rw [← HSS.out, HPR0]
    exact ⟨rfl, fun _ => rfl⟩
  clear HPR0 hgd
  have K3 := Keeps.three w 28 97 28 #[.int .i64 0, .int .u64 0, .int .i64 0, .int .u64 0, .int .i64 0, .int .i64 0, .int .i64 0, .string ⟨#[]⟩, .string ⟨#[]⟩, .int .u64 0, .int .i64 0, .int .u64 0, .slice none 0 0, .slice none 0 0] #[.string b, .int .i64 0, .int .i64 0] #[.int .i64 0, .int .u64 0, .int .i64 0, .int .u64 0, .int .i64 0, .int .i64 0, .int .i64 0, .string ⟨#[]⟩, .string ⟨#[]⟩, .int .u64 0, .int .i64 0, .int .u64 0, .slice none 0 0, .slice none 0 0]
  have HI : Hid (DK w (((w.alloc (.cells #[.int .i64 0, .int .u64 0, .int .i64 0, .int .u64 0, .int .i64 0, .int .i64 0, .int .i64 0, .string ⟨#[]⟩, .string ⟨#[]⟩, .int .u64 0, .int .i64 0, .int .u64 0, .slice none 0 0, .slice none 0 0] 28)).alloc (.cells #[.string b, .int .i64 0, .int .i64 0] 97)).alloc (.cells #[.int .i64 0, .int .u64 0, .int .i64 0, .int .u64 0, .int .i64 0, .int .i64 0, .int .i64 0, .string ⟨#[]⟩, .string ⟨#[]⟩, .int .u64 0, .int .i64 0, .int .u64 0, .slice none 0 0, .slice none 0 0] 28)) w.heap.size (w.heap.size + 1) (w.heap.size + 1 + 1) b s Rec.zero (.slice none 0 0) (.slice none 0 0) []) := by
    rw [hs]
    exact ⟨⟨0, K3.1.2.1, Nat.zero_le _, fun _ => ⟨Nat.zero_le _, rfl⟩⟩, K3.1.1, K3.1.2.2.1, K3.2, ⟨World.ownsRow_nil _ _ _ _, World.ownsRow_nil _ _ _ _⟩, trivial⟩
  have HLI0 : Hid (Lie w w.heap.size (w.heap.size + 1) (w.heap.size + 1 + 1)) := ⟨by omega, by omega, by omega, by omega, by omega, by omega⟩
  clear K3
  go_enter Try.func33, Try.ntmps33
  go_wp2_with fail
  obtain ⟨gx, hgx⟩ : ∃ g, g = w.heap.size + 1 + 1 := ⟨_, rfl⟩
  obtain ⟨g, hg⟩ : ∃ g, g = w.heap.size + 1 := ⟨_, rfl⟩
  obtain ⟨gr, hgr⟩ : ∃ g, g = w.heap.size := ⟨_, rfl⟩
  have HLI : Hid (Lie w gr g gx) := by rw [hgx, hg, hgr]; exact HLI0
  have HB : Hid (DK w (((w.alloc (.cells #[.int .i64 0, .int .u64 0, .int .i64 0, .int .u64 0, .int .i64 0, .int .i64 0, .int .i64 0, .string ⟨#[]⟩, .string ⟨#[]⟩, .int .u64 0, .int .i64 0, .int .u64 0, .slice none 0 0, .slice none 0 0] 28)).alloc (.cells #[.string b, .int .i64 0, .int .i64 0] 97)).alloc (.cells #[.int .i64 0, .int .u64 0, .int .i64 0, .int .u64 0, .int .i64 0, .int .i64 0, .int .i64 0, .string ⟨#[]⟩, .string ⟨#[]⟩, .int .u64 0, .int .i64 0, .int .u64 0, .slice none 0 0, .slice none 0 0] 28)) gr g gx b s Rec.zero (.slice none 0 0) (.slice none 0 0) []) := by rw [hgx, hg, hgr]; exact HI
  rw [← hgx, ← hg, ← hgr]
  refine gen_calls (fun x => Hid (DK w x gr g gx b s Rec.zero (.slice none 0 0) (.slice none 0 0) [])) HB ?_
  clear HB HI HLI0 hgx hg hgr hs
  intro y HB
  have Ck := hide (fun x h => rnum_any g b s 1 x (by omega) hb h)
  rw [h0] at Ck
  have Cl := hide (fun x h => rnum_any g b s0 8 x (by omega) hb h)
  rw [hl] at Cl
  have Ct := hide (fun x h => rnum_any g b s1 4 x (by omega) hb h)
  rw [ht] at Ct
  have Cp := hide (fun x h => rnum_any g b s2 8 x (by omega) hb h)
  rw [hp] at Cp
  have Cck := hide (fun x h => rnum_any g b s3 1 x (by omega) hb h)
  rw [hck] at Cck
  have Ccp := hide (fun x h => rnum_any g b t1 2 x (by omega) hb h)
  rw [hcp] at Ccp
  have Ccs := hide (fun x h => rnum_any g b t2 1 x (by omega) hb h)
  rw [hcs] at Ccs
  have Cco := hide (fun x h => rtext_any g b t3 x hb h)
  rw [hco] at Cco
  have Ccn := hide (fun x h => rtext_any g b t4 x hb h)
  rw [hcn] at Ccn
  have Cnx := hide (fun x h => rnum_any g b t5 8 x (by omega) hb h)
  rw [hnx] at Cnx
  clear h0 hl ht hp hck hcp hcs hco hcn hnx
  refine (Ck.out _ HB.out.rd).mono ?_
  rintro e x ⟨rfl, hrd, hgw⟩
  have HX := hide (HB.out.step HLI.out (fun e he => (nomatch he)) hrd hgw)
  clear hrd hgw HB Ck
  have c := HX.out.xr.cell 0 (.int .i64 0) rfl
  have f := HX.out.xr.free 0
  have hst : (Instr.storeAt 3 (.pointer (some ⟨gx, 0, none⟩)) (.int .i64 2)).run Try.prog x = .ok () (x.setCell ⟨gx, 0, none⟩ (.int .i64 2)) := by go_simp
  clear c f
  have HB : Hid (DK w (x.setCell ⟨gx, 0, none⟩ (.int .i64 2)) gr g gx b s0 ⟨2, 0, 0, 0, Ch.zero, 0, 0, 0, [], []⟩ (.slice none 0 0) (.slice none 0 0) []) := HX.out.set HLI.out (fun e he => (nomatch he)) 0 (.int .i64 2) ⟨2, 0, 0, 0, Ch.zero, 0, 0, 0, [], []⟩ rfl rfl rfl
  clear HX
  go_wp2_with (refine wpList_store_one rfl 3 (.tmp 17) (.tmp 16) rfl gx 0 (.int .i64 2) rfl rfl hst ?_; refine gen_w (fun x => Hid (DK w x gr g gx b s0 ⟨2, 0, 0, 0, Ch.zero, 0, 0, 0, [], []⟩ (.slice none 0 0) (.slice none 0 0) [])) HB ?_; clear HB hst; intro y HB; have c0 := HB.out.xr.cell 0 (.int .i64 2) rfl; obtain ⟨k, q, -, -⟩ := HB.out.rd; have c2 := q.cell 2 (.int .i64 0) (by rw [he0]; rfl); clear q)
  clear c2
  refine (Cl.out _ HB.out.rd).mono ?_
  rintro e x ⟨rfl, hrd, hgw⟩
  have HX := hide (HB.out.step HLI.out (fun e he => (nomatch he)) hrd hgw)
  clear hrd hgw HB Cl c0
  have c := HX.out.xr.cell 1 (.int .u64 0) rfl
  have f := HX.out.xr.free 1
  have hst : (Instr.storeAt 22 (.pointer (some ⟨gx, 1, none⟩)) (.int .u64 ((l : Nat) : Int))).run Try.prog x = .ok () (x.setCell ⟨gx, 1, none⟩ (.int .u64 ((l : Nat) : Int))) := by go_simp
  clear c f
  have HB : Hid (DK w (x.setCell ⟨gx, 1, none⟩ (.int .u64 ((l : Nat) : Int))) gr g gx b s1 ⟨2, l, 0, 0, Ch.zero, 0, 0, 0, [], []⟩ (.slice none 0 0) (.slice none 0 0) []) := HX.out.set HLI.out (fun e he => (nomatch he)) 1 (.int .u64 ((l : Nat) : Int)) ⟨2, l, 0, 0, Ch.zero, 0, 0, 0, [], []⟩ rfl rfl rfl
  clear HX
  go_wp2_with (refine wpList_store_one rfl 22 (.tmp 36) (.tmp 35) rfl gx 1 (.int .u64 ((l : Nat) : Int)) rfl rfl hst ?_; refine gen_w (fun x => Hid (DK w x gr g gx b s1 ⟨2, l, 0, 0, Ch.zero, 0, 0, 0, [], []⟩ (.slice none 0 0) (.slice none 0 0) [])) HB ?_; clear HB hst; intro y HB; have c0 := HB.out.xr.cell 0 (.int .i64 2) rfl)
  refine (Ct.out _ HB.out.rd).mono ?_
  rintro e x ⟨rfl, hrd, hgw⟩
  have HX := hide (HB.out.step HLI.out (fun e he => (nomatch he)) hrd hgw)
  clear hrd hgw HB Ct c0
  have c := HX.out.xr.cell 2 (.int .i64 0) rfl
  have f := HX.out.xr.free 2
  have hst : (Instr.storeAt 3 (.pointer (some ⟨gx, 2, none⟩)) (.int .i64 ((t : Nat) : Int))).run Try.prog x = .ok () (x.setCell ⟨gx, 2, none⟩ (.int .i64 ((t : Nat) : Int))) := by go_simp
  clear c f
  have HB : Hid (DK w (x.setCell ⟨gx, 2, none⟩ (.int .i64 ((t : Nat) : Int))) gr g gx b s2 ⟨2, l, t, 0, Ch.zero, 0, 0, 0, [], []⟩ (.slice none 0 0) (.slice none 0 0) []) := HX.out.set HLI.out (fun e he => (nomatch he)) 2 (.int .i64 ((t : Nat) : Int)) ⟨2, l, t, 0, Ch.zero, 0, 0, 0, [], []⟩ rfl rfl rfl
  clear HX
  go_wp2_with (refine wpList_store_one rfl 3 (.tmp 40) (.tmp 39) rfl gx 2 (.int .i64 ((t : Nat) : Int)) rfl rfl hst ?_; refine gen_w (fun x => Hid (DK w x gr g gx b s2 ⟨2, l, t, 0, Ch.zero, 0, 0, 0, [], []⟩ (.slice none 0 0) (.slice none 0 0) [])) HB ?_; clear HB hst; intro y HB; have c0 := HB.out.xr.cell 0 (.int .i64 2) rfl)
  refine (Cp.out _ HB.out.rd).mono ?_
  rintro e x ⟨rfl, hrd, hgw⟩
  have HX := hide (HB.out.step HLI.out (fun e he => (nomatch he)) hrd hgw)
  clear hrd hgw HB Cp c0
  have c := HX.out.xr.cell 3 (.int .u64 0) rfl
  have f := HX.out.xr.free 3
  have hst : (Instr.storeAt 22 (.pointer (some ⟨gx, 3, none⟩)) (.int .u64 ((p : Nat) : Int))).run Try.prog x = .ok () (x.setCell ⟨gx, 3, none⟩ (.int .u64 ((p : Nat) : Int))) := by go_simp
  clear c f
  have HB : Hid (DK w (x.setCell ⟨gx, 3, none⟩ (.int .u64 ((p : Nat) : Int))) gr g gx b s3 ⟨2, l, t, p, Ch.zero, 0, 0, 0, [], []⟩ (.slice none 0 0) (.slice none 0 0) []) := HX.out.set HLI.out (fun e he => (nomatch he)) 3 (.int .u64 ((p : Nat) : Int)) ⟨2, l, t, p, Ch.zero, 0, 0, 0, [], []⟩ rfl rfl rfl
  clear HX
  go_wp2_with (refine wpList_store_one rfl 22 (.tmp 43) (.tmp 42) rfl gx 3 (.int .u64 ((p : Nat) : Int)) rfl rfl hst ?_; refine gen_w (fun x => Hid (DK w x gr g gx b s3 ⟨2, l, t, p, Ch.zero, 0, 0, 0, [], []⟩ (.slice none 0 0) (.slice none 0 0) [])) HB ?_; clear HB hst; intro y HB; have c0 := HB.out.xr.cell 0 (.int .i64 2) rfl)
  refine (Cck.out _ HB.out.rd).mono ?_
  rintro e x ⟨rfl, hrd, hgw⟩
  have HX := hide (HB.out.step HLI.out (fun e he => (nomatch he)) hrd hgw)
  clear hrd hgw HB Cck c0
  have c := HX.out.xr.cell 4 (.int .i64 0) rfl
  have f := HX.out.xr.free 4
  have hst : (Instr.storeAt 3 (.pointer (some ⟨gx, 4, none⟩)) (.int .i64 ((ck : Nat) : Int))).run Try.prog x = .ok () (x.setCell ⟨gx, 4, none⟩ (.int .i64 ((ck : Nat) : Int))) := by go_simp
  clear c f
  have HB : Hid (DK w (x.setCell ⟨gx, 4, none⟩ (.int .i64 ((ck : Nat) : Int))) gr g gx b t1 ⟨2, l, t, p, ⟨ck, 0, 0, ⟨#[]⟩, ⟨#[]⟩⟩, 0, 0, 0, [], []⟩ (.slice none 0 0) (.slice none 0 0) []) := HX.out.set HLI.out (fun e he => (nomatch he)) 4 (.int .i64 ((ck : Nat) : Int)) ⟨2, l, t, p, ⟨ck, 0, 0, ⟨#[]⟩, ⟨#[]⟩⟩, 0, 0, 0, [], []⟩ rfl rfl rfl
  clear HX
  go_wp2_with (refine wpList_store_one rfl 3 (.tmp 51) (.tmp 49) rfl gx 4 (.int .i64 ((ck : Nat) : Int)) rfl rfl hst ?_; refine gen_w (fun x => Hid (DK w x gr g gx b t1 ⟨2, l, t, p, ⟨ck, 0, 0, ⟨#[]⟩, ⟨#[]⟩⟩, 0, 0, 0, [], []⟩ (.slice none 0 0) (.slice none 0 0) [])) HB ?_; clear HB hst; intro y HB; have c0 := HB.out.xr.cell 0 (.int .i64 2) rfl)
  refine (Ccp.out _ HB.out.rd).mono ?_
  rintro e x ⟨rfl, hrd, hgw⟩
  have HX := hide (HB.out.step HLI.out (fun e he => (nomatch he)) hrd hgw)
  clear hrd hgw HB Ccp c0
  have c := HX.out.xr.cell 5 (.int .i64 0) rfl
  have f := HX.out.xr.free 5
  have hst : (Instr.storeAt 3 (.pointer (some ⟨gx, 5, none⟩)) (.int .i64 ((cp : Nat) : Int))).run Try.prog x = .ok () (x.setCell ⟨gx, 5, none⟩ (.int .i64 ((cp : Nat) : Int))) := by go_simp
  clear c f
  have HB : Hid (DK w (x.setCell ⟨gx, 5, none⟩ (.int .i64 ((cp : Nat) : Int))) gr g gx b t2 ⟨2, l, t, p, ⟨ck, cp, 0, ⟨#[]⟩, ⟨#[]⟩⟩, 0, 0, 0, [], []⟩ (.slice none 0 0) (.slice none 0 0) []) := HX.out.set HLI.out (fun e he => (nomatch he)) 5 (.int .i64 ((cp : Nat) : Int)) ⟨2, l, t, p, ⟨ck, cp, 0, ⟨#[]⟩, ⟨#[]⟩⟩, 0, 0, 0, [], []⟩ rfl rfl rfl
  clear HX
  go_wp2_with (refine wpList_store_one rfl 3 (.tmp 56) (.tmp 54) rfl gx 5 (.int .i64 ((cp : Nat) : Int)) rfl rfl hst ?_; refine gen_w (fun x => Hid (DK w x gr g gx b t2 ⟨2, l, t, p, ⟨ck, cp, 0, ⟨#[]⟩, ⟨#[]⟩⟩, 0, 0, 0, [], []⟩ (.slice none 0 0) (.slice none 0 0) [])) HB ?_; clear HB hst; intro y HB; have c0 := HB.out.xr.cell 0 (.int .i64 2) rfl)
  refine (Ccs.out _ HB.out.rd).mono ?_
  rintro e x ⟨rfl, hrd, hgw⟩
  have HX := hide (HB.out.step HLI.out (fun e he => (nomatch he)) hrd hgw)
  clear hrd hgw HB Ccs c0
  have c := HX.out.xr.cell 6 (.int .i64 0) rfl
  have f := HX.out.xr.free 6
  have hst : (Instr.storeAt 3 (.pointer (some ⟨gx, 6, none⟩)) (.int .i64 ((cs : Nat) : Int))).run Try.prog x = .ok () (x.setCell ⟨gx, 6, none⟩ (.int .i64 ((cs : Nat) : Int))) := by go_simp
  clear c f
  have HB : Hid (DK w (x.setCell ⟨gx, 6, none⟩ (.int .i64 ((cs : Nat) : Int))) gr g gx b t3 ⟨2, l, t, p, ⟨ck, cp, cs, ⟨#[]⟩, ⟨#[]⟩⟩, 0, 0, 0, [], []⟩ (.slice none 0 0) (.slice none 0 0) []) := HX.out.set HLI.out (fun e he => (nomatch he)) 6 (.int .i64 ((cs : Nat) : Int)) ⟨2, l, t, p, ⟨ck, cp, cs, ⟨#[]⟩, ⟨#[]⟩⟩, 0, 0, 0, [], []⟩ rfl rfl rfl
  clear HX
  go_wp2_with (refine wpList_store_one rfl 3 (.tmp 61) (.tmp 59) rfl gx 6 (.int .i64 ((cs : Nat) : Int)) rfl rfl hst ?_; refine gen_w (fun x => Hid (DK w x gr g gx b t3 ⟨2, l, t, p, ⟨ck, cp, cs, ⟨#[]⟩, ⟨#[]⟩⟩, 0, 0, 0, [], []⟩ (.slice none 0 0) (.slice none 0 0) [])) HB ?_; clear HB hst; intro y HB; have c0 := HB.out.xr.cell 0 (.int .i64 2) rfl)
  refine (Cco.out _ HB.out.rd).mono ?_
  rintro e x ⟨rfl, hrd, hgw⟩
  have HX := hide (HB.out.step HLI.out (fun e he => (nomatch he)) hrd hgw)
  clear hrd hgw HB Cco c0
  have c := HX.out.xr.cell 7 (.string ⟨#[]⟩) rfl
  have f := HX.out.xr.free 7
  have hst : (Instr.storeAt 9 (.pointer (some ⟨gx, 7, none⟩)) (.string co)).run Try.prog x = .ok () (x.setCell ⟨gx, 7, none⟩ (.string co)) := by go_simp
  clear c f
  have HB : Hid (DK w (x.setCell ⟨gx, 7, none⟩ (.string co)) gr g gx b t4 ⟨2, l, t, p, ⟨ck, cp, cs, co, ⟨#[]⟩⟩, 0, 0, 0, [], []⟩ (.slice none 0 0) (.slice none 0 0) []) := HX.out.set HLI.out (fun e he => (nomatch he)) 7 (.string co) ⟨2, l, t, p, ⟨ck, cp, cs, co, ⟨#[]⟩⟩, 0, 0, 0, [], []⟩ rfl rfl rfl
  clear HX
  go_wp2_with (refine wpList_store_one rfl 9 (.tmp 65) (.tmp 63) rfl gx 7 (.string co) rfl rfl hst ?_; refine gen_w (fun x => Hid (DK w x gr g gx b t4 ⟨2, l, t, p, ⟨ck, cp, cs, co, ⟨#[]⟩⟩, 0, 0, 0, [], []⟩ (.slice none 0 0) (.slice none 0 0) [])) HB ?_; clear HB hst; intro y HB; have c0 := HB.out.xr.cell 0 (.int .i64 2) rfl)
  refine (Ccn.out _ HB.out.rd).mono ?_
  rintro e x ⟨rfl, hrd, hgw⟩
  have HX := hide (HB.out.step HLI.out (fun e he => (nomatch he)) hrd hgw)
  clear hrd hgw HB Ccn c0
  have c := HX.out.xr.cell 8 (.string ⟨#[]⟩) rfl
  have f := HX.out.xr.free 8
  have hst : (Instr.storeAt 9 (.pointer (some ⟨gx, 8, none⟩)) (.string cn)).run Try.prog x = .ok () (x.setCell ⟨gx, 8, none⟩ (.string cn)) := by go_simp
  clear c f
  have HB : Hid (DK w (x.setCell ⟨gx, 8, none⟩ (.string cn)) gr g gx b t5 ⟨2, l, t, p, ⟨ck, cp, cs, co, cn⟩, 0, 0, 0, [], []⟩ (.slice none 0 0) (.slice none 0 0) []) := HX.out.set HLI.out (fun e he => (nomatch he)) 8 (.string cn) ⟨2, l, t, p, ⟨ck, cp, cs, co, cn⟩, 0, 0, 0, [], []⟩ rfl rfl rfl
  clear HX
  go_wp2_with (refine wpList_store_one rfl 9 (.tmp 69) (.tmp 67) rfl gx 8 (.string cn) rfl rfl hst ?_; refine gen_w (fun x => Hid (DK w x gr g gx b t5 ⟨2, l, t, p, ⟨ck, cp, cs, co, cn⟩, 0, 0, 0, [], []⟩ (.slice none 0 0) (.slice none 0 0) [])) HB ?_; clear HB hst; intro y HB; have c0 := HB.out.xr.cell 0 (.int .i64 2) rfl)
  refine (Cnx.out _ HB.out.rd).mono ?_
  rintro e x ⟨rfl, hrd, hgw⟩
  have HX := hide (HB.out.step HLI.out (fun e he => (nomatch he)) hrd hgw)
  clear hrd hgw HB Cnx c0
  have c := HX.out.xr.cell 9 (.int .u64 0) rfl
  have f := HX.out.xr.free 9
  have hst : (Instr.storeAt 22 (.pointer (some ⟨gx, 9, none⟩)) (.int .u64 ((nx : Nat) : Int))).run Try.prog x = .ok () (x.setCell ⟨gx, 9, none⟩ (.int .u64 ((nx : Nat) : Int))) := by go_simp
  clear c f
  have HB : Hid (DK w (x.setCell ⟨gx, 9, none⟩ (.int .u64 ((nx : Nat) : Int))) gr g gx b t6 ⟨2, l, t, p, ⟨ck, cp, cs, co, cn⟩, nx, 0, 0, [], []⟩ (.slice none 0 0) (.slice none 0 0) []) := HX.out.set HLI.out (fun e he => (nomatch he)) 9 (.int .u64 ((nx : Nat) : Int)) ⟨2, l, t, p, ⟨ck, cp, cs, co, cn⟩, nx, 0, 0, [], []⟩ rfl rfl rfl
  clear HX
  go_wp2_with (refine wpList_store_one rfl 22 (.tmp 76) (.tmp 75) rfl gx 9 (.int .u64 ((nx : Nat) : Int)) rfl rfl hst ?_; refine gen_w (fun x => Hid (DK w x gr g gx b t6 ⟨2, l, t, p, ⟨ck, cp, cs, co, cn⟩, nx, 0, 0, [], []⟩ (.slice none 0 0) (.slice none 0 0) [])) HB ?_; clear HB hst; intro yt HD; refine halt ?_)
  obtain ⟨r, hrr⟩ : ∃ r : Rec, r = ⟨2, l, t, p, ⟨ck, cp, cs, co, cn⟩, nx, 0, 0, [], []⟩ := ⟨_, rfl⟩
  have hrk : r.k = ((2 : Nat) : Int) := by first | (rw [hrr]; done) | (rw [hrr]; rfl)
  rw [← hrr] at HD HPR
  have HRR := hide hrr
  clear hrr
  clear hrk
  obtain ⟨va, hva0⟩ : ∃ v, v = Value.slice none 0 0 := ⟨_, rfl⟩
  obtain ⟨vb, hvb0⟩ : ∃ v, v = Value.slice none 0 0 := ⟨_, rfl⟩
  have HD1 : Hid (DK w yt gr g gx b t6 r va vb []) := by rw [hva0, hvb0]; exact HD
  clear HD
  have HD := HD1
  clear HD1 hva0 hvb0
  generalize t6 = s' at *
  obtain ⟨k, q, hkb, hkl⟩ := HD.out.rd
  have c2 := q.cell 2 (.int .i64 s'.e) rfl
  have c1 := q.cell 1 (.int .i64 (k : Int)) rfl
  have HKL := hide hkl
  clear q hkl
  have HDR : Hid (decR b.data.toList = if (pRec ⟨b.data.toList, 0⟩).2.e ≠ 0 then (Rec.zero, (pRec ⟨b.data.toList, 0⟩).2.e) else if (pRec ⟨b.data.toList, 0⟩).2.l ≠ [] ∨ (pRec ⟨b.data.toList, 0⟩).1.rightB = false then (Rec.zero, 2) else ((pRec ⟨b.data.toList, 0⟩).1, 0)) := rfl
  by_cases he : s'.e = 0
  case neg =>
    have hdr : decR b.data.toList = (Rec.zero, s'.e) := by rw [HDR.out, HPR.out.1, if_pos he]
    have HDD := hide hdr
    have k0 : (s'.e == 0) = false := by rw [beq_eq_false_iff_ne]; exact he
    have k1 : (s'.e != 0) = true := by rw [bne, k0]; rfl
    clear hdr HDR he HPR HKL c1 hkb
    generalize s'.e = es at *
    have z0 := HD.out.zr.cell 0 (.int .i64 0) rfl
    have zf0 := HD.out.zr.free 0
    have z1 := HD.out.zr.cell 1 (.int .u64 0) rfl
    have zf1 := HD.out.zr.free 1
    have z2 := HD.out.zr.cell 2 (.int .i64 0) rfl
    have zf2 := HD.out.zr.free 2
    have z3 := HD.out.zr.cell 3 (.int .u64 0) rfl
    have zf3 := HD.out.zr.free 3
    have z4 := HD.out.zr.cell 4 (.int .i64 0) rfl
    have zf4 := HD.out.zr.free 4
    have z5 := HD.out.zr.cell 5 (.int .i64 0) rfl
    have zf5 := HD.out.zr.free 5
    have z6 := HD.out.zr.cell 6 (.int .i64 0) rfl
    have zf6 := HD.out.zr.free 6
    have z7 := HD.out.zr.cell 7 (.string ⟨#[]⟩) rfl
    have zf7 := HD.out.zr.free 7
    have z8 := HD.out.zr.cell 8 (.string ⟨#[]⟩) rfl
    have zf8 := HD.out.zr.free 8
    have z9 := HD.out.zr.cell 9 (.int .u64 0) rfl
    have zf9 := HD.out.zr.free 9
    have z10 := HD.out.zr.cell 10 (.int .i64 0) rfl
    have zf10 := HD.out.zr.free 10
    have z11 := HD.out.zr.cell 11 (.int .u64 0) rfl
    have zf11 := HD.out.zr.free 11
    have z12 := HD.out.zr.cell 12 (.slice none 0 0) rfl
    have zf12 := HD.out.zr.free 12
    have z13 := HD.out.zr.cell 13 (.slice none 0 0) rfl
    have zf13 := HD.out.zr.free 13
    have ne1 := HLI.out.d
    refine unhalt ?_
    go_wp2_with fail
    go_region
    have HRW := hide ((((((((((((((HD.out.zr.setSame 0 (.int .i64 0) rfl).setSame 1 (.int .u64 0) rfl).setSame 2 (.int .i64 0) rfl).setSame 3 (.int .u64 0) rfl).setSame 4 (.int .i64 0) rfl).setSame 5 (.int .i64 0) rfl).setSame 6 (.int .i64 0) rfl).setSame 7 (.string ⟨#[]⟩) rfl).setSame 8 (.string ⟨#[]⟩) rfl).setSame 9 (.int .u64 0) rfl).setSame 10 (.int .i64 0) rfl).setSame 11 (.int .u64 0) rfl).setSame 12 (.slice none 0 0) rfl).setSame 13 (.slice none 0 0) rfl)
    have HBW := hide ((((((((((((((HD.out.bel.set1 HLI.out.a 0 (.int .i64 0)).set1 HLI.out.a 1 (.int .u64 0)).set1 HLI.out.a 2 (.int .i64 0)).set1 HLI.out.a 3 (.int .u64 0)).set1 HLI.out.a 4 (.int .i64 0)).set1 HLI.out.a 5 (.int .i64 0)).set1 HLI.out.a 6 (.int .i64 0)).set1 HLI.out.a 7 (.string ⟨#[]⟩)).set1 HLI.out.a 8 (.string ⟨#[]⟩)).set1 HLI.out.a 9 (.int .u64 0)).set1 HLI.out.a 10 (.int .i64 0)).set1 HLI.out.a 11 (.int .u64 0)).set1 HLI.out.a 12 (.slice none 0 0)).set1 HLI.out.a 13 (.slice none 0 0))
    refine gen_w (fun x => Hid (RowAt x gr 28 #[.int .i64 0, .int .u64 0, .int .i64 0, .int .u64 0, .int .i64 0, .int .i64 0, .int .i64 0, .string ⟨#[]⟩, .string ⟨#[]⟩, .int .u64 0, .int .i64 0, .int .u64 0, .slice none 0 0, .slice none 0 0]) ∧ Hid (Below w.heap.size w x)) (x := ((((((((((((((yt.setCell ⟨gr, 0, none⟩ (.int .i64 0)).setCell ⟨gr, 1, none⟩ (.int .u64 0)).setCell ⟨gr, 2, none⟩ (.int .i64 0)).setCell ⟨gr, 3, none⟩ (.int .u64 0)).setCell ⟨gr, 4, none⟩ (.int .i64 0)).setCell ⟨gr, 5, none⟩ (.int .i64 0)).setCell ⟨gr, 6, none⟩ (.int .i64 0)).setCell ⟨gr, 7, none⟩ (.string ⟨#[]⟩)).setCell ⟨gr, 8, none⟩ (.string ⟨#[]⟩)).setCell ⟨gr, 9, none⟩ (.int .u64 0)).setCell ⟨gr, 10, none⟩ (.int .i64 0)).setCell ⟨gr, 11, none⟩ (.int .u64 0)).setCell ⟨gr, 12, none⟩ (.slice none 0 0)).setCell ⟨gr, 13, none⟩ (.slice none 0 0)).drew) ⟨hide (rowat_drew HRW.out), hide (below_drew HBW.out)⟩ ?_
    clear HD HRW HBW z0 zf0 z1 zf1 z2 zf2 z3 zf3 z4 zf4 z5 zf5 z6 zf6 z7 zf7 z8 zf8 z9 zf9 z10 zf10 z11 zf11 z12 zf12 z13 zf13 ne1 c2
    rintro y0 ⟨HROW, HBL⟩
    go_wp2
    (try simp only [Exit.inBlock, Exit.then])
    refine bodyPost_ret (res_at rfl _ _ gr #[.int .i64 0, .int .u64 0, .int .i64 0, .int .u64 0, .int .i64 0, .int .i64 0, .int .i64 0, .string ⟨#[]⟩, .string ⟨#[]⟩, .int .u64 0, .int .i64 0, .int .u64 0, .slice none 0 0, .slice none 0 0] _ rfl HROW.out Try.underlying28 rfl infoRc) rfl ?_
    show Ans _ _ _ _
    unfold Ans
    rw [HDD.out]
    exact ⟨⟨_, _, rfl, World.ownsRow_nil _ _ _ _, World.ownsRow_nil _ _ _ _⟩, HBL.out⟩
  rw [he] at c2
  have hrq := HPR.out.2 he
  obtain ⟨hks, hdl⟩ := HKL.out he
  obtain ⟨av, cv, hva⟩ := own_shape5 HD.out.got.1
  obtain ⟨au, cu, hvb⟩ := own_shape5 HD.out.got.2
  subst hva hvb
  by_cases hk : (k : Int) = (b.size : Int)
  case neg =>
    have hne : s'.l ≠ [] := fun h => by
      rw [h] at hdl
      have h3 := congrArg List.length hdl
      rw [List.length_drop, data_length] at h3
      have h4 : b.size - k = 0 := h3
      omega
    have hdr : decR b.data.toList = (Rec.zero, 2) := by rw [HDR.out, HPR.out.1, if_neg (fun h => h he), if_pos (.inl hne)]
    have HDD := hide hdr
    have k0 : ((k : Int) == (b.size : Int)) = false := by rw [beq_eq_false_iff_ne]; exact hk
    have k1 : ((k : Int) != (b.size : Int)) = true := by rw [bne, k0]; rfl
    clear hdr HDR he HPR HKL hrq hdl hne hk
    refine unhalt ?_
    go_wp2_with (refine wpList_store_at rfl 28 (.tmp 2) (.tmp 174) rfl gr #[.int .i64 0, .int .u64 0, .int .i64 0, .int .u64 0, .int .i64 0, .int .i64 0, .int .i64 0, .string ⟨#[]⟩, .string ⟨#[]⟩, .int .u64 0, .int .i64 0, .int .u64 0, .slice none 0 0, .slice none 0 0] #[.int .i64 0, .int .u64 0, .int .i64 0, .int .u64 0, .int .i64 0, .int .i64 0, .int .i64 0, .string ⟨#[]⟩, .string ⟨#[]⟩, .int .u64 0, .int .i64 0, .int .u64 0, .slice none 0 0, .slice none 0 0] rfl rfl HD.out.zr infoRc rfl (by simp [Value.oneCell']) ?_)
    intro w9 hr9 hk9 _
    have HROW := hide hr9
    have HBL := hide (hk9 _ _ HD.out.bel HLI.out.a)
    clear hr9 hk9 HD c1 c2
    go_wp2
    (try simp only [Exit.inBlock, Exit.then])
    refine bodyPost_ret (res_at rfl _ _ gr #[.int .i64 0, .int .u64 0, .int .i64 0, .int .u64 0, .int .i64 0, .int .i64 0, .int .i64 0, .string ⟨#[]⟩, .string ⟨#[]⟩, .int .u64 0, .int .i64 0, .int .u64 0, .slice none 0 0, .slice none 0 0] _ rfl HROW.out Try.underlying28 rfl infoRc) rfl ?_
    show Ans _ _ _ _
    unfold Ans
    rw [HDD.out]
    exact ⟨⟨_, _, rfl, World.ownsRow_nil _ _ _ _, World.ownsRow_nil _ _ _ _⟩, HBL.out⟩
  have hln : s'.l = [] := by
    rw [← hdl]
    apply List.drop_eq_nil_of_le
    rw [data_length]
    omega
  have k0 : ((k : Int) == (b.size : Int)) = true := by rw [hk]; exact beq_self_eq_true _
  have k1 : ((k : Int) != (b.size : Int)) = false := by rw [bne, k0]; rfl
  clear hk
  have r0 := HD.out.xr.cell 0 (.int .i64 r.k) rfl
  have r1 := HD.out.xr.cell 1 (.int .u64 (r.l : Int)) rfl
  have r2 := HD.out.xr.cell 2 (.int .i64 r.t) rfl
  have r3 := HD.out.xr.cell 3 (.int .u64 (r.p : Int)) rfl
  have r4 := HD.out.xr.cell 4 (.int .i64 r.c.k) rfl
  have r5 := HD.out.xr.cell 5 (.int .i64 r.c.pg) rfl
  have r6 := HD.out.xr.cell 6 (.int .i64 r.c.sl) rfl
  have r7 := HD.out.xr.cell 7 (.string r.c.o) rfl
  have r8 := HD.out.xr.cell 8 (.string r.c.n) rfl
  have r9 := HD.out.xr.cell 9 (.int .u64 (r.n : Int)) rfl
  have r10 := HD.out.xr.cell 10 (.int .i64 r.s) rfl
  have r11 := HD.out.xr.cell 11 (.int .u64 (r.b : Int)) rfl
  have r12 := HD.out.xr.cell 12 (.slice av r.ts.length cv) rfl
  have r13 := HD.out.xr.cell 13 (.slice au r.ds.length cu) rfl
  have HFR : Hid r.c.fits := by rw [← hrq]; exact (rec_fits ⟨b.data.toList, 0⟩).c
  by_cases hr : r.right
  case neg =>
    have hdr : decR b.data.toList = (Rec.zero, 2) := by rw [HDR.out, HPR.out.1, hrq, if_neg (fun h => h he), if_pos (.inr (rightB_no hr))]
    have HDD := hide hdr
    have HR := hide (rright6_at' r (.slice av r.ts.length cv) (.slice au r.ds.length cu) yt false (hide ⟨fun h => (nomatch h), fun h => absurd h hr⟩) HFR.out HD.out.got.rc)
    clear hdr HDR he HPR HKL hrq hdl hln hr HFR
    refine unhalt ?_
    go_wp2_with fail
    refine HR.out.mono ?_
    rintro e x2 ⟨rfl, hb2⟩
    have HD2 := hide (HD.out.later hb2)
    clear hb2 HD HR c1 c2 r0 r1 r2 r3 r4 r5 r6 r7 r8 r9 r10 r11 r12 r13
    go_wp2_with (refine wpList_store_at rfl 28 (.tmp 2) (.tmp 174) rfl gr #[.int .i64 0, .int .u64 0, .int .i64 0, .int .u64 0, .int .i64 0, .int .i64 0, .int .i64 0, .string ⟨#[]⟩, .string ⟨#[]⟩, .int .u64 0, .int .i64 0, .int .u64 0, .slice none 0 0, .slice none 0 0] #[.int .i64 0, .int .u64 0, .int .i64 0, .int .u64 0, .int .i64 0, .int .i64 0, .int .i64 0, .string ⟨#[]⟩, .string ⟨#[]⟩, .int .u64 0, .int .i64 0, .int .u64 0, .slice none 0 0, .slice none 0 0] rfl rfl HD2.out.zr infoRc rfl (by simp [Value.oneCell']) ?_)
    intro w9 hr9 hk9 _
    have HROW := hide hr9
    have HBL := hide (hk9 _ _ HD2.out.bel HLI.out.a)
    clear hr9 hk9 HD2
    go_wp2
    (try simp only [Exit.inBlock, Exit.then])
    refine bodyPost_ret (res_at rfl _ _ gr #[.int .i64 0, .int .u64 0, .int .i64 0, .int .u64 0, .int .i64 0, .int .i64 0, .int .i64 0, .string ⟨#[]⟩, .string ⟨#[]⟩, .int .u64 0, .int .i64 0, .int .u64 0, .slice none 0 0, .slice none 0 0] _ rfl HROW.out Try.underlying28 rfl infoRc) rfl ?_
    show Ans _ _ _ _
    unfold Ans
    rw [HDD.out]
    exact ⟨⟨_, _, rfl, World.ownsRow_nil _ _ _ _, World.ownsRow_nil _ _ _ _⟩, HBL.out⟩
  have hdr : decR b.data.toList = (r, 0) := by rw [HDR.out, HPR.out.1, hrq, if_neg (fun h => h he), if_neg (fun h => h.elim (fun h => h hln) (fun h => by rw [rightB_yes hr] at h; cases h))]
  have HDD := hide hdr
  have HR := hide (rright6_at' r (.slice av r.ts.length cv) (.slice au r.ds.length cu) yt true (hide ⟨fun _ => hr, fun _ => rfl⟩) HFR.out HD.out.got.rc)
  clear hdr HDR he HPR HKL hrq hdl hln hr HFR
  refine unhalt ?_
  go_wp2_with fail
  refine HR.out.mono ?_
  rintro e x2 ⟨rfl, hb2⟩
  have HD2 := hide (HD.out.later hb2)
  clear hb2 HD HR c1 c2 r0 r1 r2 r3 r4 r5 r6 r7 r8 r9 r10 r11 r12 r13
  go_wp2_with (first | (refine wpList_load_at rfl 28 (.tmp 5) rfl gx rfl (rcA r (.slice av r.ts.length cv) (.slice au r.ds.length cu)) HD2.out.xr _ Try.underlying28 rfl infoRc ?_) | (refine wpList_store_at rfl 28 (.tmp 2) (.tmp 175) rfl gr #[.int .i64 0, .int .u64 0, .int .i64 0, .int .u64 0, .int .i64 0, .int .i64 0, .int .i64 0, .string ⟨#[]⟩, .string ⟨#[]⟩, .int .u64 0, .int .i64 0, .int .u64 0, .slice none 0 0, .slice none 0 0] (rcA r (.slice av r.ts.length cv) (.slice au r.ds.length cu)) rfl rfl HD2.out.zr infoRc rfl (by simp [rcA, Value.oneCell']) ?_))
  intro w9 hr9 hk9 ho9
  have HROW := hide hr9
  have HBL := hide (hk9 _ _ HD2.out.bel HLI.out.a)
  have HG9 : Hid (GotIn w.heap.size w9 r (.slice av r.ts.length cv) (.slice au r.ds.length cu)) := ⟨own_put HD2.out.got.1 HD2.out.zr (by decide) ho9, own_put HD2.out.got.2 HD2.out.zr (by decide) ho9⟩
  clear hr9 hk9 HD2 ho9
  go_wp2
  (try simp only [Exit.inBlock, Exit.then])
  refine bodyPost_ret (res_at rfl _ _ gr (rcA r (.slice av r.ts.length cv) (.slice au r.ds.length cu)) _ rfl HROW.out Try.underlying28 rfl infoRc) rfl ?_
  show Ans _ _ _ _
  unfold Ans
  rw [HDD.out]
  exact ⟨⟨_, _, rfl, HG9.out⟩, HBL.out⟩
end Go.Proofs.Ytgobegpmojkhaaa

/-
  The document's Decode: kind 6.
-/
namespace Go.Proofs.Ytgobegpmojkhaaa
open Go.RowKit
set_option linter.unusedVariables false

set_option maxRecDepth 6000 in
set_option maxHeartbeats 6400000 in
theorem rdec_6 (b : ByteArray) (w : World) (hb : b.size ≤ 140737488355328) (hk : (pNum 1 (⟨b.data.toList, 0⟩ : St)).2.e = 0 ∧ (pNum 1 (⟨b.data.toList, 0⟩ : St)).1 = 6) :
    Calls Try.prog 33 #[.string b] w fun e w' => Ans w b.data.toList e w' := by
  obtain ⟨s, hs⟩ : ∃ s : St, s = ⟨b.data.toList, 0⟩ := ⟨_, rfl⟩
  have HSS := hide hs
  obtain ⟨kd, s0, h0⟩ : ∃ n s', pNum 1 s = (n, s') := ⟨_, _, rfl⟩
  rw [← hs, h0] at hk
  simp only at hk
  have hgd : pIn 1 8 s = pNum 1 s := pin_good (by rw [h0]; simp only; omega)
  have he0 := hk.1
  obtain rfl : kd = 6 := hk.2
  clear hk
  obtain ⟨l, s1, hl⟩ : ∃ n s', pNum 8 s0 = (n, s') := ⟨_, _, rfl⟩
  obtain ⟨t, s2, ht⟩ : ∃ n s', pNum 4 s1 = (n, s') := ⟨_, _, rfl⟩
  have bt : t < 256 ^ 4 := by have := num_lt 4 s1; rw [ht] at this; exact this
  have ewt := conv_i64 t (by omega)
  clear bt
  obtain ⟨p, s3, hp⟩ : ∃ n s', pNum 8 s2 = (n, s') := ⟨_, _, rfl⟩
  obtain ⟨sv, s4, hsv⟩ : ∃ n s', pNum 1 s3 = (n, s') := ⟨_, _, rfl⟩
  have bsv : sv < 256 ^ 1 := by have := num_lt 1 s3; rw [hsv] at this; exact this
  have ewsv := conv_i64 sv (by omega)
  clear bsv
  have HPR0 : pRec s = (⟨6, l, t, p, Ch.zero, 0, sv, 0, [], []⟩, s4) := by
    rw [rec_rest, hgd, h0]
    simp [recRest, bindP, pureP, pMay, hl, ht, hp, hsv]
  have HPR : Hid ((pRec ⟨b.data.toList, 0⟩).2 = s4 ∧ (s4.e = 0 → (pRec ⟨b.data.toList, 0⟩).1 = ⟨6, l, t, p, Ch.zero, 0, sv, 0, [], []⟩)) := by
    rw [← HSS.out, HPR0]
    exact ⟨rfl, fun _ => rfl⟩
  clear HPR0 hgd
  have K3 := Keeps.three w 28 97 28 #[.int .i64 0, .int .u64 0, .int .i64 0, .int .u64 0, .int .i64 0, .int .i64 0, .int .i64 0, .string ⟨#[]⟩, .string ⟨#[]⟩, .int .u64 0, .int .i64 0, .int .u64 0, .slice none 0 0, .slice none 0 0] #[.string b, .int .i64 0, .int .i64 0] #[.int .i64 0, .int .u64 0, .int .i64 0, .int .u64 0, .int .i64 0, .int .i64 0, .int .i64 0, .string ⟨#[]⟩, .string ⟨#[]⟩, .int .u64 0, .int .i64 0, .int .u64 0, .slice none 0 0, .slice none 0 0]
  have HI : Hid (DK w (((w.alloc (.cells #[.int .i64 0, .int .u64 0, .int .i64 0, .int .u64 0, .int .i64 0, .int .i64 0, .int .i64 0, .string ⟨#[]⟩, .string ⟨#[]⟩, .int .u64 0, .int .i64 0, .int .u64 0, .slice none 0 0, .slice none 0 0] 28)).alloc (.cells #[.string b, .int .i64 0, .int .i64 0] 97)).alloc (.cells #[.int .i64 0, .int .u64 0, .int .i64 0, .int .u64 0, .int .i64 0, .int .i64 0, .int .i64 0, .string ⟨#[]⟩, .string ⟨#[]⟩, .int .u64 0, .int .i64 0, .int .u64 0, .slice none 0 0, .slice none 0 0] 28)) w.heap.size (w.heap.size + 1) (w.heap.size + 1 + 1) b s Rec.zero (.slice none 0 0) (.slice none 0 0) []) := by
    rw [hs]
    exact ⟨⟨0, K3.1.2.1, Nat.zero_le _, fun _ => ⟨Nat.zero_le _, rfl⟩⟩, K3.1.1, K3.1.2.2.1, K3.2, ⟨World.ownsRow_nil _ _ _ _, World.ownsRow_nil _ _ _ _⟩, trivial⟩
  have HLI0 : Hid (Lie w w.heap.size (w.heap.size + 1) (w.heap.size + 1 + 1)) := ⟨by omega, by omega, by omega, by omega, by omega, by omega⟩
  clear K3
  go_enter Try.func33, Try.ntmps33
  go_wp2_with fail
  obtain ⟨gx, hgx⟩ : ∃ g, g = w.heap.size + 1 + 1 := ⟨_, rfl⟩
  obtain ⟨g, hg⟩ : ∃ g, g = w.heap.size + 1 := ⟨_, rfl⟩
  obtain ⟨gr, hgr⟩ : ∃ g, g = w.heap.size := ⟨_, rfl⟩
  have HLI : Hid (Lie w gr g gx) := by rw [hgx, hg, hgr]; exact HLI0
  have HB : Hid (DK w (((w.alloc (.cells #[.int .i64 0, .int .u64 0, .int .i64 0, .int .u64 0, .int .i64 0, .int .i64 0, .int .i64 0, .string ⟨#[]⟩, .string ⟨#[]⟩, .int .u64 0, .int .i64 0, .int .u64 0, .slice none 0 0, .slice none 0 0] 28)).alloc (.cells #[.string b, .int .i64 0, .int .i64 0] 97)).alloc (.cells #[.int .i64 0, .int .u64 0, .int .i64 0, .int .u64 0, .int .i64 0, .int .i64 0, .int .i64 0, .string ⟨#[]⟩, .string ⟨#[]⟩, .int .u64 0, .int .i64 0, .int .u64 0, .slice none 0 0, .slice none 0 0] 28)) gr g gx b s Rec.zero (.slice none 0 0) (.slice none 0 0) []) := by rw [hgx, hg, hgr]; exact HI
  rw [← hgx, ← hg, ← hgr]
  refine gen_calls (fun x => Hid (DK w x gr g gx b s Rec.zero (.slice none 0 0) (.slice none 0 0) [])) HB ?_
  clear HB HI HLI0 hgx hg hgr hs
  intro y HB
  have Ck := hide (fun x h => rnum_any g b s 1 x (by omega) hb h)
  rw [h0] at Ck
  have Cl := hide (fun x h => rnum_any g b s0 8 x (by omega) hb h)
  rw [hl] at Cl
  have Ct := hide (fun x h => rnum_any g b s1 4 x (by omega) hb h)
  rw [ht] at Ct
  have Cp := hide (fun x h => rnum_any g b s2 8 x (by omega) hb h)
  rw [hp] at Cp
  have Csv := hide (fun x h => rnum_any g b s3 1 x (by omega) hb h)
  rw [hsv] at Csv
  clear h0 hl ht hp hsv
  refine (Ck.out _ HB.out.rd).mono ?_
  rintro e x ⟨rfl, hrd, hgw⟩
  have HX := hide (HB.out.step HLI.out (fun e he => (nomatch he)) hrd hgw)
  clear hrd hgw HB Ck
  have c := HX.out.xr.cell 0 (.int .i64 0) rfl
  have f := HX.out.xr.free 0
  have hst : (Instr.storeAt 3 (.pointer (some ⟨gx, 0, none⟩)) (.int .i64 6)).run Try.prog x = .ok () (x.setCell ⟨gx, 0, none⟩ (.int .i64 6)) := by go_simp
  clear c f
  have HB : Hid (DK w (x.setCell ⟨gx, 0, none⟩ (.int .i64 6)) gr g gx b s0 ⟨6, 0, 0, 0, Ch.zero, 0, 0, 0, [], []⟩ (.slice none 0 0) (.slice none 0 0) []) := HX.out.set HLI.out (fun e he => (nomatch he)) 0 (.int .i64 6) ⟨6, 0, 0, 0, Ch.zero, 0, 0, 0, [], []⟩ rfl rfl rfl
  clear HX
  go_wp2_with (refine wpList_store_one rfl 3 (.tmp 17) (.tmp 16) rfl gx 0 (.int .i64 6) rfl rfl hst ?_; refine gen_w (fun x => Hid (DK w x gr g gx b s0 ⟨6, 0, 0, 0, Ch.zero, 0, 0, 0, [], []⟩ (.slice none 0 0) (.slice none 0 0) [])) HB ?_; clear HB hst; intro y HB; have c0 := HB.out.xr.cell 0 (.int .i64 6) rfl; obtain ⟨k, q, -, -⟩ := HB.out.rd; have c2 := q.cell 2 (.int .i64 0) (by rw [he0]; rfl); clear q)
  clear c2
  refine (Cl.out _ HB.out.rd).mono ?_
  rintro e x ⟨rfl, hrd, hgw⟩
  have HX := hide (HB.out.step HLI.out (fun e he => (nomatch he)) hrd hgw)
  clear hrd hgw HB Cl c0
  have c := HX.out.xr.cell 1 (.int .u64 0) rfl
  have f := HX.out.xr.free 1
  have hst : (Instr.storeAt 22 (.pointer (some ⟨gx, 1, none⟩)) (.int .u64 ((l : Nat) : Int))).run Try.prog x = .ok () (x.setCell ⟨gx, 1, none⟩ (.int .u64 ((l : Nat) : Int))) := by go_simp
  clear c f
  have HB : Hid (DK w (x.setCell ⟨gx, 1, none⟩ (.int .u64 ((l : Nat) : Int))) gr g gx b s1 ⟨6, l, 0, 0, Ch.zero, 0, 0, 0, [], []⟩ (.slice none 0 0) (.slice none 0 0) []) := HX.out.set HLI.out (fun e he => (nomatch he)) 1 (.int .u64 ((l : Nat) : Int)) ⟨6, l, 0, 0, Ch.zero, 0, 0, 0, [], []⟩ rfl rfl rfl
  clear HX
  go_wp2_with (refine wpList_store_one rfl 22 (.tmp 36) (.tmp 35) rfl gx 1 (.int .u64 ((l : Nat) : Int)) rfl rfl hst ?_; refine gen_w (fun x => Hid (DK w x gr g gx b s1 ⟨6, l, 0, 0, Ch.zero, 0, 0, 0, [], []⟩ (.slice none 0 0) (.slice none 0 0) [])) HB ?_; clear HB hst; intro y HB; have c0 := HB.out.xr.cell 0 (.int .i64 6) rfl)
  refine (Ct.out _ HB.out.rd).mono ?_
  rintro e x ⟨rfl, hrd, hgw⟩
  have HX := hide (HB.out.step HLI.out (fun e he => (nomatch he)) hrd hgw)
  clear hrd hgw HB Ct c0
  have c := HX.out.xr.cell 2 (.int .i64 0) rfl
  have f := HX.out.xr.free 2
  have hst : (Instr.storeAt 3 (.pointer (some ⟨gx, 2, none⟩)) (.int .i64 ((t : Nat) : Int))).run Try.prog x = .ok () (x.setCell ⟨gx, 2, none⟩ (.int .i64 ((t : Nat) : Int))) := by go_simp
  clear c f
  have HB : Hid (DK w (x.setCell ⟨gx, 2, none⟩ (.int .i64 ((t : Nat) : Int))) gr g gx b s2 ⟨6, l, t, 0, Ch.zero, 0, 0, 0, [], []⟩ (.slice none 0 0) (.slice none 0 0) []) := HX.out.set HLI.out (fun e he => (nomatch he)) 2 (.int .i64 ((t : Nat) : Int)) ⟨6, l, t, 0, Ch.zero, 0, 0, 0, [], []⟩ rfl rfl rfl
  clear HX
  go_wp2_with (refine wpList_store_one rfl 3 (.tmp 40) (.tmp 39) rfl gx 2 (.int .i64 ((t : Nat) : Int)) rfl rfl hst ?_; refine gen_w (fun x => Hid (DK w x gr g gx b s2 ⟨6, l, t, 0, Ch.zero, 0, 0, 0, [], []⟩ (.slice none 0 0) (.slice none 0 0) [])) HB ?_; clear HB hst; intro y HB; have c0 := HB.out.xr.cell 0 (.int .i64 6) rfl)
  refine (Cp.out _ HB.out.rd).mono ?_
  rintro e x ⟨rfl, hrd, hgw⟩
  have HX := hide (HB.out.step HLI.out (fun e he => (nomatch he)) hrd hgw)
  clear hrd hgw HB Cp c0
  have c := HX.out.xr.cell 3 (.int .u64 0) rfl
  have f := HX.out.xr.free 3
  have hst : (Instr.storeAt 22 (.pointer (some ⟨gx, 3, none⟩)) (.int .u64 ((p : Nat) : Int))).run Try.prog x = .ok () (x.setCell ⟨gx, 3, none⟩ (.int .u64 ((p : Nat) : Int))) := by go_simp
  clear c f
  have HB : Hid (DK w (x.setCell ⟨gx, 3, none⟩ (.int .u64 ((p : Nat) : Int))) gr g gx b s3 ⟨6, l, t, p, Ch.zero, 0, 0, 0, [], []⟩ (.slice none 0 0) (.slice none 0 0) []) := HX.out.set HLI.out (fun e he => (nomatch he)) 3 (.int .u64 ((p : Nat) : Int)) ⟨6, l, t, p, Ch.zero, 0, 0, 0, [], []⟩ rfl rfl rfl
  clear HX
  go_wp2_with (refine wpList_store_one rfl 22 (.tmp 43) (.tmp 42) rfl gx 3 (.int .u64 ((p : Nat) : Int)) rfl rfl hst ?_; refine gen_w (fun x => Hid (DK w x gr g gx b s3 ⟨6, l, t, p, Ch.zero, 0, 0, 0, [], []⟩ (.slice none 0 0) (.slice none 0 0) [])) HB ?_; clear HB hst; intro y HB; have c0 := HB.out.xr.cell 0 (.int .i64 6) rfl)
  refine (Csv.out _ HB.out.rd).mono ?_
  rintro e x ⟨rfl, hrd, hgw⟩
  have HX := hide (HB.out.step HLI.out (fun e he => (nomatch he)) hrd hgw)
  clear hrd hgw HB Csv c0
  have c := HX.out.xr.cell 10 (.int .i64 0) rfl
  have f := HX.out.xr.free 10
  have hst : (Instr.storeAt 3 (.pointer (some ⟨gx, 10, none⟩)) (.int .i64 ((sv : Nat) : Int))).run Try.prog x = .ok () (x.setCell ⟨gx, 10, none⟩ (.int .i64 ((sv : Nat) : Int))) := by go_simp
  clear c f
  have HB : Hid (DK w (x.setCell ⟨gx, 10, none⟩ (.int .i64 ((sv : Nat) : Int))) gr g gx b s4 ⟨6, l, t, p, Ch.zero, 0, sv, 0, [], []⟩ (.slice none 0 0) (.slice none 0 0) []) := HX.out.set HLI.out (fun e he => (nomatch he)) 10 (.int .i64 ((sv : Nat) : Int)) ⟨6, l, t, p, Ch.zero, 0, sv, 0, [], []⟩ rfl rfl rfl
  clear HX
  go_wp2_with (refine wpList_store_one rfl 3 (.tmp 82) (.tmp 81) rfl gx 10 (.int .i64 ((sv : Nat) : Int)) rfl rfl hst ?_; refine gen_w (fun x => Hid (DK w x gr g gx b s4 ⟨6, l, t, p, Ch.zero, 0, sv, 0, [], []⟩ (.slice none 0 0) (.slice none 0 0) [])) HB ?_; clear HB hst; intro yt HD; refine halt ?_)
  obtain ⟨r, hrr⟩ : ∃ r : Rec, r = ⟨6, l, t, p, Ch.zero, 0, sv, 0, [], []⟩ := ⟨_, rfl⟩
  have hrk : r.k = ((6 : Nat) : Int) := by first | (rw [hrr]; done) | (rw [hrr]; rfl)
  rw [← hrr] at HD HPR
  have HRR := hide hrr
  clear hrr
  clear hrk
  obtain ⟨va, hva0⟩ : ∃ v, v = Value.slice none 0 0 := ⟨_, rfl⟩
  obtain ⟨vb, hvb0⟩ : ∃ v, v = Value.slice none 0 0 := ⟨_, rfl⟩
  have HD1 : Hid (DK w yt gr g gx b s4 r va vb []) := by rw [hva0, hvb0]; exact HD
  clear HD
  have HD := HD1
  clear HD1 hva0 hvb0
  generalize s4 = s' at *
  obtain ⟨k, q, hkb, hkl⟩ := HD.out.rd
  have c2 := q.cell 2 (.int .i64 s'.e) rfl
  have c1 := q.cell 1 (.int .i64 (k : Int)) rfl
  have HKL := hide hkl
  clear q hkl
  have HDR : Hid (decR b.data.toList = if (pRec ⟨b.data.toList, 0⟩).2.e ≠ 0 then (Rec.zero, (pRec ⟨b.data.toList, 0⟩).2.e) else if (pRec ⟨b.data.toList, 0⟩).2.l ≠ [] ∨ (pRec ⟨b.data.toList, 0⟩).1.rightB = false then (Rec.zero, 2) else ((pRec ⟨b.data.toList, 0⟩).1, 0)) := rfl
  by_cases he : s'.e = 0
  case neg =>
    have hdr : decR b.data.toList = (Rec.zero, s'.e) := by rw [HDR.out, HPR.out.1, if_pos he]
    have HDD := hide hdr
    have k0 : (s'.e == 0) = false := by rw [beq_eq_false_iff_ne]; exact he
    have k1 : (s'.e != 0) = true := by rw [bne, k0]; rfl
    clear hdr HDR he HPR HKL c1 hkb
    generalize s'.e = es at *
    have z0 := HD.out.zr.cell 0 (.int .i64 0) rfl
    have zf0 := HD.out.zr.free 0
    have z1 := HD.out.zr.cell 1 (.int .u64 0) rfl
    have zf1 := HD.out.zr.free 1
    have z2 := HD.out.zr.cell 2 (.int .i64 0) rfl
    have zf2 := HD.out.zr.free 2
    have z3 := HD.out.zr.cell 3 (.int .u64 0) rfl
    have zf3 := HD.out.zr.free 3
    have z4 := HD.out.zr.cell 4 (.int .i64 0) rfl
    have zf4 := HD.out.zr.free 4
    have z5 := HD.out.zr.cell 5 (.int .i64 0) rfl
    have zf5 := HD.out.zr.free 5
    have z6 := HD.out.zr.cell 6 (.int .i64 0) rfl
    have zf6 := HD.out.zr.free 6
    have z7 := HD.out.zr.cell 7 (.string ⟨#[]⟩) rfl
    have zf7 := HD.out.zr.free 7
    have z8 := HD.out.zr.cell 8 (.string ⟨#[]⟩) rfl
    have zf8 := HD.out.zr.free 8
    have z9 := HD.out.zr.cell 9 (.int .u64 0) rfl
    have zf9 := HD.out.zr.free 9
    have z10 := HD.out.zr.cell 10 (.int .i64 0) rfl
    have zf10 := HD.out.zr.free 10
    have z11 := HD.out.zr.cell 11 (.int .u64 0) rfl
    have zf11 := HD.out.zr.free 11
    have z12 := HD.out.zr.cell 12 (.slice none 0 0) rfl
    have zf12 := HD.out.zr.free 12
    have z13 := HD.out.zr.cell 13 (.slice none 0 0) rfl
    have zf13 := HD.out.zr.free 13
    have ne1 := HLI.out.d
    refine unhalt ?_
    go_wp2_with fail
    go_region
    have HRW := hide ((((((((((((((HD.out.zr.setSame 0 (.int .i64 0) rfl).setSame 1 (.int .u64 0) rfl).setSame 2 (.int .i64 0) rfl).setSame 3 (.int .u64 0) rfl).setSame 4 (.int .i64 0) rfl).setSame 5 (.int .i64 0) rfl).setSame 6 (.int .i64 0) rfl).setSame 7 (.string ⟨#[]⟩) rfl).setSame 8 (.string ⟨#[]⟩) rfl).setSame 9 (.int .u64 0) rfl).setSame 10 (.int .i64 0) rfl).setSame 11 (.int .u64 0) rfl).setSame 12 (.slice none 0 0) rfl).setSame 13 (.slice none 0 0) rfl)
    have HBW := hide ((((((((((((((HD.out.bel.set1 HLI.out.a 0 (.int .i64 0)).set1 HLI.out.a 1 (.int .u64 0)).set1 HLI.out.a 2 (.int .i64 0)).set1 HLI.out.a 3 (.int .u64 0)).set1 HLI.out.a 4 (.int .i64 0)).set1 HLI.out.a 5 (.int .i64 0)).set1 HLI.out.a 6 (.int .i64 0)).set1 HLI.out.a 7 (.string ⟨#[]⟩)).set1 HLI.out.a 8 (.string ⟨#[]⟩)).set1 HLI.out.a 9 (.int .u64 0)).set1 HLI.out.a 10 (.int .i64 0)).set1 HLI.out.a 11 (.int .u64 0)).set1 HLI.out.a 12 (.slice none 0 0)).set1 HLI.out.a 13 (.slice none 0 0))
    refine gen_w (fun x => Hid (RowAt x gr 28 #[.int .i64 0, .int .u64 0, .int .i64 0, .int .u64 0, .int .i64 0, .int .i64 0, .int .i64 0, .string ⟨#[]⟩, .string ⟨#[]⟩, .int .u64 0, .int .i64 0, .int .u64 0, .slice none 0 0, .slice none 0 0]) ∧ Hid (Below w.heap.size w x)) (x := ((((((((((((((yt.setCell ⟨gr, 0, none⟩ (.int .i64 0)).setCell ⟨gr, 1, none⟩ (.int .u64 0)).setCell ⟨gr, 2, none⟩ (.int .i64 0)).setCell ⟨gr, 3, none⟩ (.int .u64 0)).setCell ⟨gr, 4, none⟩ (.int .i64 0)).setCell ⟨gr, 5, none⟩ (.int .i64 0)).setCell ⟨gr, 6, none⟩ (.int .i64 0)).setCell ⟨gr, 7, none⟩ (.string ⟨#[]⟩)).setCell ⟨gr, 8, none⟩ (.string ⟨#[]⟩)).setCell ⟨gr, 9, none⟩ (.int .u64 0)).setCell ⟨gr, 10, none⟩ (.int .i64 0)).setCell ⟨gr, 11, none⟩ (.int .u64 0)).setCell ⟨gr, 12, none⟩ (.slice none 0 0)).setCell ⟨gr, 13, none⟩ (.slice none 0 0)).drew) ⟨hide (rowat_drew HRW.out), hide (below_drew HBW.out)⟩ ?_
    clear HD HRW HBW z0 zf0 z1 zf1 z2 zf2 z3 zf3 z4 zf4 z5 zf5 z6 zf6 z7 zf7 z8 zf8 z9 zf9 z10 zf10 z11 zf11 z12 zf12 z13 zf13 ne1 c2
    rintro y0 ⟨HROW, HBL⟩
    go_wp2
    (try simp only [Exit.inBlock, Exit.then])
    refine bodyPost_ret (res_at rfl _ _ gr #[.int .i64 0, .int .u64 0, .int .i64 0, .int .u64 0, .int .i64 0, .int .i64 0, .int .i64 0, .string ⟨#[]⟩, .string ⟨#[]⟩, .int .u64 0, .int .i64 0, .int .u64 0, .slice none 0 0, .slice none 0 0] _ rfl HROW.out Try.underlying28 rfl infoRc) rfl ?_
    show Ans _ _ _ _
    unfold Ans
    rw [HDD.out]
    exact ⟨⟨_, _, rfl, World.ownsRow_nil _ _ _ _, World.ownsRow_nil _ _ _ _⟩, HBL.out⟩
  rw [he] at c2
  have hrq := HPR.out.2 he
  obtain ⟨hks, hdl⟩ := HKL.out he
  obtain ⟨av, cv, hva⟩ := own_shape5 HD.out.got.1
  obtain ⟨au, cu, hvb⟩ := own_shape5 HD.out.got.2
  subst hva hvb
  by_cases hk : (k : Int) = (b.size : Int)
  case neg =>
    have hne : s'.l ≠ [] := fun h => by
      rw [h] at hdl
      have h3 := congrArg List.length hdl
      rw [List.length_drop, data_length] at h3
      have h4 : b.size - k = 0 := h3
      omega
    have hdr : decR b.data.toList = (Rec.zero, 2) := by rw [HDR.out, HPR.out.1, if_neg (fun h => h he), if_pos (.inl hne)]
    have HDD := hide hdr
    have k0 : ((k : Int) == (b.size : Int)) = false := by rw [beq_eq_false_iff_ne]; exact hk
    have k1 : ((k : Int) != (b.size : Int)) = true := by rw [bne, k0]; rfl
    clear hdr HDR he HPR HKL hrq hdl hne hk
    refine unhalt ?_
    go_wp2_with (refine wpList_store_at rfl 28 (.tmp 2) (.tmp 174) rfl gr #[.int .i64 0, .int .u64 0, .int .i64 0, .int .u64 0, .int .i64 0, .int .i64 0, .int .i64 0, .string ⟨#[]⟩, .string ⟨#[]⟩, .int .u64 0, .int .i64 0, .int .u64 0, .slice none 0 0, .slice none 0 0] #[.int .i64 0, .int .u64 0, .int .i64 0, .int .u64 0, .int .i64 0, .int .i64 0, .int .i64 0, .string ⟨#[]⟩, .string ⟨#[]⟩, .int .u64 0, .int .i64 0, .int .u64 0, .slice none 0 0, .slice none 0 0] rfl rfl HD.out.zr infoRc rfl (by simp [Value.oneCell']) ?_)
    intro w9 hr9 hk9 _
    have HROW := hide hr9
    have HBL := hide (hk9 _ _ HD.out.bel HLI.out.a)
    clear hr9 hk9 HD c1 c2
    go_wp2
    (try simp only [Exit.inBlock, Exit.then])
    refine bodyPost_ret (res_at rfl _ _ gr #[.int .i64 0, .int .u64 0, .int .i64 0, .int .u64 0, .int .i64 0, .int .i64 0, .int .i64 0, .string ⟨#[]⟩, .string ⟨#[]⟩, .int .u64 0, .int .i64 0, .int .u64 0, .slice none 0 0, .slice none 0 0] _ rfl HROW.out Try.underlying28 rfl infoRc) rfl ?_
    show Ans _ _ _ _
    unfold Ans
    rw [HDD.out]
    exact ⟨⟨_, _, rfl, World.ownsRow_nil _ _ _ _, World.ownsRow_nil _ _ _ _⟩, HBL.out⟩
  have hln : s'.l = [] := by
    rw [← hdl]
    apply List.drop_eq_nil_of_le
    rw [data_length]
    omega
  have k0 : ((k : Int) == (b.size : Int)) = true := by rw [hk]; exact beq_self_eq_true _
  have k1 : ((k : Int) != (b.size : Int)) = false := by rw [bne, k0]; rfl
  clear hk
  have r0 := HD.out.xr.cell 0 (.int .i64 r.k) rfl
  have r1 := HD.out.xr.cell 1 (.int .u64 (r.l : Int)) rfl
  have r2 := HD.out.xr.cell 2 (.int .i64 r.t) rfl
  have r3 := HD.out.xr.cell 3 (.int .u64 (r.p : Int)) rfl
  have r4 := HD.out.xr.cell 4 (.int .i64 r.c.k) rfl
  have r5 := HD.out.xr.cell 5 (.int .i64 r.c.pg) rfl
  have r6 := HD.out.xr.cell 6 (.int .i64 r.c.sl) rfl
  have r7 := HD.out.xr.cell 7 (.string r.c.o) rfl
  have r8 := HD.out.xr.cell 8 (.string r.c.n) rfl
  have r9 := HD.out.xr.cell 9 (.int .u64 (r.n : Int)) rfl
  have r10 := HD.out.xr.cell 10 (.int .i64 r.s) rfl
  have r11 := HD.out.xr.cell 11 (.int .u64 (r.b : Int)) rfl
  have r12 := HD.out.xr.cell 12 (.slice av r.ts.length cv) rfl
  have r13 := HD.out.xr.cell 13 (.slice au r.ds.length cu) rfl
  have HFR : Hid r.c.fits := by rw [← hrq]; exact (rec_fits ⟨b.data.toList, 0⟩).c
  by_cases hr : r.right
  case neg =>
    have hdr : decR b.data.toList = (Rec.zero, 2) := by rw [HDR.out, HPR.out.1, hrq, if_neg (fun h => h he), if_pos (.inr (rightB_no hr))]
    have HDD := hide hdr
    have HR := hide (rright6_at' r (.slice av r.ts.length cv) (.slice au r.ds.length cu) yt false (hide ⟨fun h => (nomatch h), fun h => absurd h hr⟩) HFR.out HD.out.got.rc)
    clear hdr HDR he HPR HKL hrq hdl hln hr HFR
    refine unhalt ?_
    go_wp2_with fail
    refine HR.out.mono ?_
    rintro e x2 ⟨rfl, hb2⟩
    have HD2 := hide (HD.out.later hb2)
    clear hb2 HD HR c1 c2 r0 r1 r2 r3 r4 r5 r6 r7 r8 r9 r10 r11 r12 r13
    go_wp2_with (refine wpList_store_at rfl 28 (.tmp 2) (.tmp 174) rfl gr #[.int .i64 0, .int .u64 0, .int .i64 0, .int .u64 0, .int .i64 0, .int .i64 0, .int .i64 0, .string ⟨#[]⟩, .string ⟨#[]⟩, .int .u64 0, .int .i64 0, .int .u64 0, .slice none 0 0, .slice none 0 0] #[.int .i64 0, .int .u64 0, .int .i64 0, .int .u64 0, .int .i64 0, .int .i64 0, .int .i64 0, .string ⟨#[]⟩, .string ⟨#[]⟩, .int .u64 0, .int .i64 0, .int .u64 0, .slice none 0 0, .slice none 0 0] rfl rfl HD2.out.zr infoRc rfl (by simp [Value.oneCell']) ?_)
    intro w9 hr9 hk9 _
    have HROW := hide hr9
    have HBL := hide (hk9 _ _ HD2.out.bel HLI.out.a)
    clear hr9 hk9 HD2
    go_wp2
    (try simp only [Exit.inBlock, Exit.then])
    refine bodyPost_ret (res_at rfl _ _ gr #[.int .i64 0, .int .u64 0, .int .i64 0, .int .u64 0, .int .i64 0, .int .i64 0, .int .i64 0, .string ⟨#[]⟩, .string ⟨#[]⟩, .int .u64 0, .int .i64 0, .int .u64 0, .slice none 0 0, .slice none 0 0] _ rfl HROW.out Try.underlying28 rfl infoRc) rfl ?_
    show Ans _ _ _ _
    unfold Ans
    rw [HDD.out]
    exact ⟨⟨_, _, rfl, World.ownsRow_nil _ _ _ _, World.ownsRow_nil _ _ _ _⟩, HBL.out⟩
  have hdr : decR b.data.toList = (r, 0) := by rw [HDR.out, HPR.out.1, hrq, if_neg (fun h => h he), if_neg (fun h => h.elim (fun h => h hln) (fun h => by rw [rightB_yes hr] at h; cases h))]
  have HDD := hide hdr
  have HR := hide (rright6_at' r (.slice av r.ts.length cv) (.slice au r.ds.length cu) yt true (hide ⟨fun _ => hr, fun _ => rfl⟩) HFR.out HD.out.got.rc)
  clear hdr HDR he HPR HKL hrq hdl hln hr HFR
  refine unhalt ?_
  go_wp2_with fail
  refine HR.out.mono ?_
  rintro e x2 ⟨rfl, hb2⟩
  have HD2 := hide (HD.out.later hb2)
  clear hb2 HD HR c1 c2 r0 r1 r2 r3 r4 r5 r6 r7 r8 r9 r10 r11 r12 r13
  go_wp2_with (first | (refine wpList_load_at rfl 28 (.tmp 5) rfl gx rfl (rcA r (.slice av r.ts.length cv) (.slice au r.ds.length cu)) HD2.out.xr _ Try.underlying28 rfl infoRc ?_) | (refine wpList_store_at rfl 28 (.tmp 2) (.tmp 175) rfl gr #[.int .i64 0, .int .u64 0, .int .i64 0, .int .u64 0, .int .i64 0, .int .i64 0, .int .i64 0, .string ⟨#[]⟩, .string ⟨#[]⟩, .int .u64 0, .int .i64 0, .int .u64 0, .slice none 0 0, .slice none 0 0] (rcA r (.slice av r.ts.length cv) (.slice au r.ds.length cu)) rfl rfl HD2.out.zr infoRc rfl (by simp [rcA, Value.oneCell']) ?_))
  intro w9 hr9 hk9 ho9
  have HROW := hide hr9
  have HBL := hide (hk9 _ _ HD2.out.bel HLI.out.a)
  have HG9 : Hid (GotIn w.heap.size w9 r (.slice av r.ts.length cv) (.slice au r.ds.length cu)) := ⟨own_put HD2.out.got.1 HD2.out.zr (by decide) ho9, own_put HD2.out.got.2 HD2.out.zr (by decide) ho9⟩
  clear hr9 hk9 HD2 ho9
  go_wp2
  (try simp only [Exit.inBlock, Exit.then])
  refine bodyPost_ret (res_at rfl _ _ gr (rcA r (.slice av r.ts.length cv) (.slice au r.ds.length cu)) _ rfl HROW.out Try.underlying28 rfl infoRc) rfl ?_
  show Ans _ _ _ _
  unfold Ans
  rw [HDD.out]
  exact ⟨⟨_, _, rfl, HG9.out⟩, HBL.out⟩
end Go.Proofs.Ytgobegpmojkhaaa

/-
  The document's Decode: rows that are read, and kept beside the record.
-/
namespace Go.Proofs.Ytgobegpmojkhaaa
open Go.RowKit
set_option linter.unusedVariables false

theorem exit_state {α : Type} {p : St → α × St} (hp : Good p) {n j : Nat} {s : St} (hj : j ≤ n) (h : j = n ∨ (itS p j s).e ≠ 0) : (pSome p n s).2 = itS p j s ∧ ((itS p j s).e = 0 → (pSome p n s).1 = itL p j s) := by
  have h1 := some_it hp n s
  rcases h with rfl | h
  · exact ⟨h1.1, fun h => h1.2 (by rw [h1.1]; exact h)⟩
  · refine ⟨?_, fun h2 => absurd h2 h⟩
    rw [h1.1, show n = j + (n - j) by omega, itS_add]
    exact itS_stick hp _ _ h
/-- A struct beside it, in a new block. -/
theorem DK.more {w y z : World} {gr g gx : Nat} {b : ByteArray} {s : St} {r : Rec} {va vb : Value} (h : DK w y gr g gx b s r va vb []) (hb : Below y.heap.size y z) {t : TypeId} {cs : Array Value} (hr : RowAt z y.heap.size t cs) : DK w z gr g gx b s r va vb [(y.heap.size, t, cs)] := by
  have h2 := h.later hb
  exact ⟨h2.rd, h2.xr, h2.zr, h2.bel, h2.got, hr, trivial⟩
/-- .. a cell of which is written. -/
theorem DK.put {w y : World} {gr g gx k : Nat} {b : ByteArray} {s : St} {r : Rec} {va vb : Value} {t : TypeId} {cs : Array Value} (h : DK w y gr g gx b s r va vb [(k, t, cs)]) (h1 : k ≠ g) (h2 : gx ≠ k) (h3 : gr ≠ k) (h4 : w.heap.size ≤ k) (h5 : va.ownBlock ≠ some k ∧ vb.ownBlock ≠ some k) (j : Nat) (u : Value) : DK w (y.setCell ⟨k, j, none⟩ u) gr g gx b s r va vb [(k, t, cs.setIfInBounds j u)] := by
  have hg := grown_set (g := k) (j := j) u (grown_refl y (some k))
  exact ⟨rd_other h.rd h1 j u, h.xr.other _ _ h2, h.zr.other _ _ h3, h.bel.set1 h4 j u, ⟨h.got.1.kept hg (.inr h5.1), h.got.2.kept hg (.inr h5.2)⟩, h.has.1.set j u, trivial⟩
theorem load_v25 {b j : Nat} (x : World) (v : Value) (a : Option Addr) (n c : Nat) (hv : v = .slice a n c) (h : x.cell? ⟨b, j, none⟩ = some v) : (Instr.loadAt 25 (.pointer (some ⟨b, j, none⟩))).run Try.prog x = .ok v x := by
  subst hv
  go_simp
theorem load_v26 {b j : Nat} (x : World) (v : Value) (a : Option Addr) (n c : Nat) (hv : v = .slice a n c) (h : x.cell? ⟨b, j, none⟩ = some v) : (Instr.loadAt 26 (.pointer (some ⟨b, j, none⟩))).run Try.prog x = .ok v x := by
  subst hv
  go_simp
/-- What lies at other blocks than the row's is kept when the row grows. -/
theorem row_own {y z : World} {base n sz k : Nat} {e t : TypeId} {v : Value} {xs : List Value} {cs : Array Value} (h : y.ownsRow base e sz v n xs) (hg : y.grownBy z v.ownBlock) (hr : RowAt y k t cs) (ht : t ≠ e) : RowAt z k t cs := (hg.block k hr.lt (fun e => own_type h hr ht e.symm)).trans hr
theorem below_own {w y z : World} {n sz : Nat} {e : TypeId} {v : Value} {xs : List Value} (h : y.ownsRow w.heap.size e sz v n xs) (hb : Below w.heap.size w y) (hg : y.grownBy z v.ownBlock) : Below w.heap.size w z :=
  ⟨hg.os.trans hb.os, hg.tape.trans hb.tape, hg.output.trans hb.output, Nat.le_trans hb.size hg.size, fun k hk => (hg.block k (Nat.lt_of_lt_of_le hk hb.size) (own_ne h hk)).trans (hb.block k hk)⟩
/-- One more row of the first list. -/
theorem DK.pushT {w y z : World} {gr g gx : Nat} {b : ByteArray} {s : St} {r r' : Rec} {va vb v' : Value} {l : List (Nat × TypeId × Array Value)} (h : DK w y gr g gx b s r va vb l) (L : Lie w gr g gx) (hg : y.grownBy z va.ownBlock) (ho : z.ownsRow w.heap.size 70 5 v' r'.ts.length (flatT r'.ts)) (hd : r'.ds = r.ds) (hs : (rcA r va vb).setIfInBounds 12 v' = rcA r' v' vb) : RowAt z gx 28 (rcA r va vb) ∧ DK w (z.setCell ⟨gx, 12, none⟩ v') gr g gx b s r' v' vb [] := by
  obtain ⟨k, q1, q2, q3⟩ := h.rd
  have x1 := row_own h.got.1 hg h.xr (by decide)
  have q4 := row_own h.got.1 hg q1 (by decide)
  have z1 := row_own h.got.1 hg h.zr (by decide)
  have gg := grown_set (g := gx) (j := 12) v' (grown_refl z (some gx))
  have hne : vb.ownBlock = none ∨ vb.ownBlock ≠ va.ownBlock := by
    by_cases hv : vb.ownBlock = none
    · exact .inl hv
    · refine .inr (fun e => ?_)
      obtain ⟨c, hc⟩ := Option.ne_none_iff_exists'.1 hv
      rcases h.got.2.2 with ⟨h1, _⟩ | ⟨g', cap, cur, h1, h2, h3, -⟩
      · rw [h1] at hc
        cases hc
      · have hb : vb.ownBlock = some g' := by rw [h1]; rfl
        exact own_type h.got.1 (show RowAt y g' 72 cur from h3) (by decide) (by rw [← e, hb])
  refine ⟨x1, ⟨k, q4.other _ _ (fun e => L.e e.symm), q2, q3⟩, ?_, z1.other _ _ L.f, (below_own h.got.1 h.bel hg).set1 L.c 12 v', ⟨ho.kept gg (.inr (own_type ho x1 (by decide))), ?_⟩, trivial⟩
  · rw [← hs]
    exact x1.set 12 v'
  · rw [hd]
    have h6 := h.got.2.kept hg hne
    exact h6.kept gg (.inr (own_type h6 x1 (by decide)))
/-- .. and of the second one. -/
theorem DK.pushD {w y z : World} {gr g gx : Nat} {b : ByteArray} {s : St} {r r' : Rec} {va vb v' : Value} {l : List (Nat × TypeId × Array Value)} (h : DK w y gr g gx b s r va vb l) (L : Lie w gr g gx) (hg : y.grownBy z vb.ownBlock) (ho : z.ownsRow w.heap.size 72 2 v' r'.ds.length (flatD r'.ds)) (hd : r'.ts = r.ts) (hs : (rcA r va vb).setIfInBounds 13 v' = rcA r' va v') : RowAt z gx 28 (rcA r va vb) ∧ DK w (z.setCell ⟨gx, 13, none⟩ v') gr g gx b s r' va v' [] := by
  obtain ⟨k, q1, q2, q3⟩ := h.rd
  have x1 := row_own h.got.2 hg h.xr (by decide)
  have q4 := row_own h.got.2 hg q1 (by decide)
  have z1 := row_own h.got.2 hg h.zr (by decide)
  have gg := grown_set (g := gx) (j := 13) v' (grown_refl z (some gx))
  have hne : va.ownBlock = none ∨ va.ownBlock ≠ vb.ownBlock := by
    by_cases hv : va.ownBlock = none
    · exact .inl hv
    · refine .inr (fun e => ?_)
      obtain ⟨c, hc⟩ := Option.ne_none_iff_exists'.1 hv
      rcases h.got.1.2 with ⟨h1, _⟩ | ⟨g', cap, cur, h1, h2, h3, -⟩
      · rw [h1] at hc
        cases hc
      · have hb : va.ownBlock = some g' := by rw [h1]; rfl
        exact own_type h.got.2 (show RowAt y g' 70 cur from h3) (by decide) (by rw [← e, hb])
  refine ⟨x1, ⟨k, q4.other _ _ (fun e => L.e e.symm), q2, q3⟩, ?_, z1.other _ _ L.f, (below_own h.got.2 h.bel hg).set1 L.c 13 v', ⟨?_, ho.kept gg (.inr (own_type ho x1 (by decide)))⟩, trivial⟩
  · rw [← hs]
    exact x1.set 13 v'
  · rw [hd]
    have h6 := h.got.1.kept hg hne
    exact h6.kept gg (.inr (own_type h6 x1 (by decide)))
theorem flatT_more (xs : List Tx) (x : Tx) : flatT (xs ++ [x]) = flatT xs ++ (txA x).toList := by
  unfold flatT
  rw [List.flatMap_append]
  simp
theorem flatD_more (xs : List Di) (x : Di) : flatD (xs ++ [x]) = flatD xs ++ (diA x).toList := by
  unfold flatD
  rw [List.flatMap_append]
  simp
end Go.Proofs.Ytgobegpmojkhaaa
