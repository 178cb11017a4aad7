/-
  Texts that lean on one another, one behind the other: each opens with its own remark.
-/
import Derived.Test.YtdjhcbiejpjkmaaProg
import Derived.ArgAppend
import Derived.Laws.IdiomCopy
import Derived.Lib.SliceRun
import Derived.Deep.RegionLaw
import Derived.WalkKit
import Derived.OpenShut
import Derived.ShutString
import Derived.SizedLaws
import Derived.ChangeOld
import Derived.Deep.Slices
import Derived.Lib.SmallJoins
import Derived.Test.YtdjhcbiejpjkmaaRows
import Derived.WalkSpells
import Derived.Laws.CopyOwn
import Derived.Deep.QuietTactic
import Derived.BigQuiet
import Derived.RangeFuncNested
import Derived.RangeFuncLeaves
import Derived.OwnWalkIn
import Derived.RangeFuncBox
import Derived.RangeFuncCalls
import Derived.Shelf.Abstract
import Derived.Shelf.RegionOpen
import Derived.TacticsInMore
import Derived.LoopNIn
import Derived.LoopIn
import Derived.Maps.AppendAt
import Derived.Laws.OwnMore
import Derived.Test.YtdjhcbiejpjkmaaK00
import Derived.Test.YtdjhcbiejpjkmaaK02
import Derived.Test.YtdjhcbiejpjkmaaK01

namespace Go.Proofs.Ytdjhcbiejpjkmaa
open Go.RowKit
set_option linter.unusedVariables false
set_option maxRecDepth 8000
set_option maxHeartbeats 25600000
structure Sl where
  b : Option Nat
  c : Nat
def adr (o : Option Nat) : Option Addr := o.map fun b => ⟨b, 0, none⟩
def slV (s : Sl) (n : Nat) : Value := .slice (adr s.b) n s.c
def Sl.nil : Sl := ⟨none, 0⟩
def ofS (s : Sl) (k : Nat) : Prop := s.b = some k
theorem Qy : ∀ (vs : List Value) (o : Nat) (w : World) (b : Nat) (t : TypeId) (cs : Array Value), Qb w b t cs -> ∃ ds, Qb (w.setCells b o vs) b t ds /\ ds.size = cs.size
  | [], _, w, b, t, cs, h => ⟨cs, h, rfl⟩
  | v :: vs, o, w, b, t, cs, h => by
    obtain ⟨ds, h1, h2⟩ := Qy vs (o + 1) (w.setCell ⟨b, o, none⟩ v) b t _ (h.set o v); exact ⟨ds, h1, by rw [h2]; simp⟩
theorem Qfa : ∀ (vs : List Value) (o : Nat) (w : World) (b : Nat) (F : Nat -> Prop), F b -> Tn F w (w.setCells b o vs)
  | [], _, w, _, F, _ => Tn.refl F w
  | v :: vs, o, w, b, F, h => ((Tn.refl F w).set b o v h).then (Qfa vs (o + 1) _ b F h)
theorem Qga {w : World} {b : Nat} {t : TypeId} {cs : Array Value} (h : Qb w b t cs) {j : Nat} (hj : j < cs.size) : (w.cell? ⟨b, j, none⟩).isSome = true := by
  rw [cell_of_row w b j _ _ (0, 0) h, Array.getElem?_eq_getElem hj]; rfl
theorem Qqg {P : Program} {ops : Array Oper} {o : Oper} {a : Act} {w : World} {K : Act -> World -> Prop} {Q : Exit -> Act -> World -> Prop} {E : Prop}
    (hg : o.guard = none) (d x : Operand) (t u : TypeId) (hop : o.op = Op.call { callee := Callee.builtin Builtin.append, args := #[d, x], argTypes := #[t, u] })
    (vd vx v' : Value) (w' : World) (hs : a.eval d = vd) (hx : a.eval x = vx) (hrun : (Builtin.append_ #[t, u] o.type #[vd, vx]).run P w = .ok v' w') (hK : K (a.put o.dst v') w') :
    if Region.wanted o (yielded ops a.tmps) = true then Oper.wp P o a w K Q else E := by
  have hw : Region.wanted o (yielded ops a.tmps) = true := by simp [Region.wanted, hg]
  rw [if_pos hw]; unfold Oper.wp; simp [execOp, hop, resolve, invoke, builtin, hs, hx, hrun, Result.andThen]; exact hK
theorem Qzd (w : World) (A B : Array Value) (t t2 : TypeId) : Qb ((w.alloc (.cells A t)).alloc (.cells B t2)) w.heap.size t A /\ Qb ((w.alloc (.cells A t)).alloc (.cells B t2)) (w.heap.size + 1) t2 B /\ Below w.heap.size w ((w.alloc (.cells A t)).alloc (.cells B t2)) := by
  have e1 : (w.alloc (.cells A t)).heap.size = w.heap.size + 1 := by simp
  have b1 := (Below.refl w.heap.size w).alloc (Nat.le_refl _) (.cells A t); have b2 := (Below.refl _ (w.alloc (.cells A t))).alloc (Nat.le_refl _) (.cells B t2); refine ⟨(Qb.new w _ _).later b2, ?_, b1.trans (b2.mono (by omega))⟩; have h := Qb.new (w.alloc (.cells A t)) t2 B; rw [e1] at h; exact h
structure Sx where
  a : Option Addr
  n : Nat
  c : Nat
def slx (x : Sx) : Value := .slice x.a x.n x.c
def Sx.nil : Sx := ⟨none, 0, 0⟩
def flV (l : List Sx) : List Value := l.map slx
theorem Qpda (l : List Sx) : (flV l).length = l.length := by unfold flV; rw [List.length_map]
theorem Qwda (l m : List Sx) : flV (l ++ m) = flV l ++ flV m := List.map_append
theorem flV_ones (l : List Sx) : ∀ u ∈ flV l, u.oneCell' = true := by
  intro u hu; obtain ⟨h, _, rfl⟩ := List.mem_map.1 hu; rfl
theorem Qafa (l : List Sx) (i : Nat) : (flV l).take i = flV (l.take i) := by unfold flV; rw [List.map_take]
theorem flV_drop (l : List Sx) (i : Nat) : (flV l).drop i = flV (l.drop i) := by unfold flV; rw [List.map_drop]
section
def RV (w : World) (s : Sl) (l : List Sx) : Prop :=
  (s.b = none /\ l = [] /\ s.c = 0) ∨ ∃ b cs, s.b = some b /\ Qb w b 25 cs /\ cs.size = s.c /\ l.length <= s.c /\ s.c <= maxLen /\ ∀ j u, (flV l)[j]? = some u -> w.cell? ⟨b, j, none⟩ = some u
section
variable {w x : World} {s : Sl} {l : List Sx}
theorem RV.keep (h : RV w s l) (hb : ∀ b, s.b = some b -> x.heap[b]? = w.heap[b]?) : RV x s l := by
  rcases h with h | ⟨b, cs, h1, h2, h3, h4, h6, h7⟩
  · exact .inl h
  · have e := hb b h1; exact .inr ⟨b, cs, h1, e.trans h2, h3, h4, h6, fun j u hu => (World.cell?_of_block (a := ⟨b, j, none⟩) e).trans (h7 j u hu)⟩
theorem RV.lt (h : RV w s l) {b : Nat} (hb : s.b = some b) : b < w.heap.size := by
  rcases h with h | ⟨b', cs, h1, h2, _⟩
  · rw [h.1] at hb; cases hb
  · rw [h1] at hb; injection hb with hb; subst hb; exact h2.lt
theorem RV.later (h : RV w s l) (p : Below w.heap.size w x) : RV x s l := h.keep (fun b hb => p.block b (h.lt hb))
theorem RV.cap (h : RV w s l) : l.length <= s.c /\ s.c <= maxLen := by
  rcases h with ⟨_, rfl, h3⟩ | ⟨b, cs, h1, h2, h3, h4, h6, h7⟩
  · rw [h3]; exact ⟨Nat.le_refl _, Nat.zero_le _⟩
  · exact ⟨h4, h6⟩
theorem RV.block (h : RV w s l) (hp : 0 < l.length) : ∃ b, s.b = some b /\ b < w.heap.size /\ ∃ cs, Qb w b 25 cs /\ l.length <= cs.size := by
  rcases h with ⟨_, rfl, h3⟩ | ⟨b, cs, h1, h2, h3, h4, h6, h7⟩
  · exact absurd hp (by simp)
  · exact ⟨b, h1, h2.lt, cs, h2, by omega⟩
theorem RV.cell (h : RV w s l) {b i : Nat} (hb : s.b = some b) (hi : i < l.length) : w.cell? ⟨b, i, none⟩ = some (slx (l.getD i Sx.nil)) := by
  rcases h with ⟨_, rfl, h3⟩ | ⟨b', cs, h1, h2, h3, h4, h6, h7⟩
  · exact absurd hi (by simp)
  · rw [h1] at hb; injection hb with hb; subst hb; refine h7 i _ ?_; unfold flV; rw [List.getElem?_map, List.getElem?_eq_getElem hi, List.getD_eq_getElem?_getD, List.getElem?_eq_getElem hi]; rfl
theorem RV.set (h : RV w s l) {b i : Nat} (hb : s.b = some b) (hi : i < l.length) (y : Sx) : RV (w.setCell ⟨b, i, none⟩ (slx y)) s (l.set i y) /\ Tn (ofS s) w (w.setCell ⟨b, i, none⟩ (slx y)) := by
  refine ⟨?_, (Tn.refl _ w).set b i _ hb⟩
  rcases h with ⟨_, rfl, h3⟩ | ⟨b', cs, h1, h2, h3, h4, h6, h7⟩
  · exact absurd hi (by simp)
  · rw [h1] at hb; injection hb with hb; subst hb; have hr := h2.set i (slx y); refine .inr ⟨b', _, h1, hr, by rw [Array.size_setIfInBounds]; exact h3, by rw [List.length_set]; exact h4, h6, fun j u hu => ?_⟩; unfold flV at hu; rw [List.getElem?_map, List.getElem?_set] at hu; rw [cell_of_row _ b' j _ _ (0, 0) hr]
    by_cases e : i = j
    · subst e; rw [if_pos rfl, if_pos hi] at hu; rw [Array.getElem?_setIfInBounds_self_of_lt (by omega)]; exact hu
    · rw [if_neg e] at hu; rw [Array.getElem?_setIfInBounds_ne e, <- cell_of_row w b' j _ _ (0, 0) h2]; refine h7 j u ?_; unfold flV; rw [List.getElem?_map]; exact hu
end
theorem infoXV : (Try.prog.info? 25).map (fun i => (i.zero, i.size, i.bytes)) = some (some (.slice none 0 0), 1, 24) := by kernel_rfl
theorem RV.of {w : World} {l : List Sx} {base n : Nat} {v : Value} (hn : n = l.length) (ho : w.ownsRow base 25 1 v n (flV l)) : ∃ s : Sl, v = slV s n /\ RV w s l /\ ∀ k, s.b = some k -> base <= k := by
  subst hn
  rcases ho.2 with ⟨rfl, h0⟩ | ⟨g, cap, cur, rfl, h1, h2, h3, h4, h5, h6⟩
  · exact ⟨Sl.nil, by rw [h0]; rfl, .inl ⟨rfl, List.eq_nil_of_length_eq_zero h0, rfl⟩, fun k hk => (nomatch hk)⟩
  · refine ⟨⟨some g, cap⟩, rfl, .inr ⟨g, cur, rfl, h2, by rw [h5, Nat.mul_one], h3, h4, fun j u hu => ?_⟩, fun k hk => by injection hk with hk; omega⟩; rw [cell_of_row w g j _ _ (0, 0) h2]; rw [<- h6] at hu; rw [<- Array.getElem?_toList]; rw [List.getElem?_take] at hu
    split at hu
    · exact hu
    · cases hu
end
def Qwba : Array Value := #[.slice none 0 0]
theorem Qqfa (n : Nat) : ∀ v ∈ (Builtin.zeroCells Qwba n).toList, v.oneCell' = true := by
  intro v hv; simp only [Builtin.zeroCells, Array.toList_map, List.mem_map] at hv; obtain ⟨i, _, rfl⟩ := hv; have h : Qwba.size = 1 := rfl; rw [h]; have h2 : i % 1 < 1 := Nat.mod_lt _ (by decide); generalize i % 1 = j at h2; have h3 : j = 0 := by omega
  subst h3; rfl
theorem Qsfa (n : Nat) : (Builtin.zeroCells Qwba n).toList.length = n := by
  simp [Builtin.zeroCells, show Qwba.size = 1 from rfl]
theorem Qsda (w : World) (ty : TypeId) (b o n c : Nat) (hn : 0 < n) (hc : ∀ j, j < n -> (w.cell? ⟨b, o + j, none⟩).isSome = true) (hf : ∀ j, w.frozen? ⟨b, j, none⟩ = false) :
    (Builtin.clear_ #[84] ty #[.slice (some ⟨b, o, none⟩) n c]).run Try.prog w = .ok (.tuple #[]) (w.setCells b o (Builtin.zeroCells Qwba n).toList) := by
  have hst := run_storeCells_cells (P := Try.prog) b o (Builtin.zeroCells Qwba n).toList 0 w (by rw [Qsfa]; simpa using hc) (fun j _ => by simpa using hf _) (Qqfa n); simp only [Nat.add_zero] at hst; obtain ⟨m, rfl⟩ : ∃ m, n = m + 1 := ⟨n - 1, by omega⟩; simp [Builtin.clear_, run_underlying (P := Try.prog) Try.underlying84]; change ((Sem.run Try.prog (storeCells ⟨b, o, none⟩ (Builtin.zeroCells Qwba (m + 1)).toList) w).andThen fun a w' => Result.ok (Value.tuple #[]) w') = _; rw [hst]; rfl
theorem delV_same (s : Sl) (n i : Nat) (w : World) (hc : n <= s.c) (hi : i <= n) (hn : n <= 1000000) :
    Calls Try.prog 47 #[slV s n, .int .i64 (i : Int), .int .i64 (i : Int)] w fun e w' => e = .returned (slV s n) /\ w = w' := by
  obtain ⟨o, c⟩ := s; have i1 : (i : Int) <= (n : Int) := by omega
  have hc' : n <= c := hc; have hni : n - i <= c := by omega
  cases o with
  | none =>
    show Calls _ _ #[.slice none n c, _, _] w fun e w' => e = .returned (.slice none n c) /\ w = w'
    go_enter Try.func47, Try.ntmps47; go_wp2
    all_goals
      go_ret; exact ⟨rfl, rfl⟩
  | some a =>
    show Calls _ _ #[.slice (some ⟨a, 0, none⟩) n c, _, _] w fun e w' => e = .returned (.slice (some ⟨a, 0, none⟩) n c) /\ w = w'
    go_enter Try.func47, Try.ntmps47; go_wp2
    all_goals
      go_ret; exact ⟨rfl, rfl⟩
def Qmfa (w : World) (b i j n : Nat) (l : List Sx) : World := (w.drew.setCells b (i) (flV (l.drop j))).setCells b ((i + (n - j))) (Builtin.zeroCells Qwba (n - (i + (n - j)))).toList
theorem delV_laid {w : World} {b cap i j : Nat} {l : List Sx} (h : RV w ⟨some b, cap⟩ l) (hij : i <= j) (hj : j <= l.length) :
    RV (Qmfa w b i j l.length l) ⟨some b, cap⟩ (l.take i ++ l.drop j) /\ Tn (Is b) w (Qmfa w b i j l.length l) := by
  have hT : Tn (Is b) w (Qmfa w b i j l.length l) := ((Tn.refl (Is b) w).drew.then (Qfa _ _ _ b (Is b) (show Is b b from rfl))).then (Qfa _ _ _ b (Is b) (show Is b b from rfl)); refine ⟨?_, hT⟩
  rcases h with ⟨h1, _⟩ | ⟨b', cs, h1, h2, h3, h4, h6, h7⟩
  · cases h1
  · injection h1 with h1; subst h1; have h2' : Qb w.drew b 25 cs := h2; have hsz : cs.size = cap := h3; have h4' : l.length <= cap := h4; obtain ⟨ds, d1, d2⟩ := Qy (flV (l.drop j)) (i) w.drew b _ cs h2'; obtain ⟨es, e1, e2⟩ := Qy (Builtin.zeroCells Qwba (l.length - (i + (l.length - j)))).toList ((i + (l.length - j))) _ b _ ds d1; have hfl : (flV (l.drop j)).length = (l.length - j) := by rw [Qpda, List.length_drop]
    refine .inr ⟨b, es, rfl, e1, by rw [e2, d2]; exact h3, by rw [List.length_append, List.length_take, List.length_drop]; show _ <= cap; omega, h6, fun q u hu => ?_⟩
    have hq : q < (i + (l.length - j)) := by
      have := (List.getElem?_eq_some_iff.1 hu).1; rw [Qpda, List.length_append, List.length_take, List.length_drop] at this; have : min i l.length = i := by omega
      omega
    unfold Qmfa; rw [World.cell?_setCells_out b _ _ _ _ (fun _ _ => .inl (by show q < (i + (l.length - j)); exact hq))]; rw [Qwda] at hu; have hti : (flV (l.take i)).length = i := by rw [Qpda, List.length_take]; omega
    by_cases hqi : q < i
    · rw [World.cell?_setCells_out b _ _ _ _ (fun _ _ => .inl (by show q < i; exact hqi))]; rw [List.getElem?_append_left (by omega), <- Qafa, List.getElem?_take, if_pos hqi] at hu; exact h7 q u hu
    · rw [List.getElem?_append_right (by omega), hti] at hu; have hin := World.cell?_setCells_in b (flV (l.drop j)) (i) w.drew (fun k hk => Qga h2' (by omega)) (q - i) (by omega); rw [show i + (q - i) = q by omega] at hin; rw [hin, <- List.getElem?_eq_getElem]; exact hu
theorem delV_some (w : World) (b cap : Nat) (l : List Sx) (h : RV w ⟨some b, cap⟩ l) (i j : Nat) (hij : i < j) (hj : j <= l.length) (hl : l.length <= 1000000) :
    Calls Try.prog 47 #[.slice (some ⟨b, 0, none⟩) l.length cap, .int .i64 (i : Int), .int .i64 (j : Int)] w fun e w' => e = .returned (.slice (some ⟨b, 0, none⟩) (i + (l.length - j)) cap) /\ RV w' ⟨some b, cap⟩ (l.take i ++ l.drop j) /\ Tn (Is b) w w' := by
  obtain ⟨ii, hi0, hi1⟩ := Option.map_eq_some_iff.1 infoXV; simp only [Prod.mk.injEq] at hi1; have hcap : l.length <= cap := h.cap.1; have hcap2 : cap <= maxLen := h.cap.2; have HD := Qc (delV_laid h (Nat.le_of_lt hij) hj); have hfl : (flV (l.drop j)).length = (l.length - j) := by rw [Qpda, List.length_drop]
  obtain ⟨cs, hrow, hcs, hcl⟩ : ∃ cs, Qb w b 25 cs /\ cs.size = cap /\ ∀ j u, (flV l)[j]? = some u -> w.cell? ⟨b, j, none⟩ = some u := by
    rcases h with ⟨h1, _⟩ | ⟨b', cs, h1, h2, h3, h4, h6, h7⟩
    · cases h1
    · injection h1 with h1; subst h1; exact ⟨cs, h2, h3, h7⟩
  have hrow' : Qb w.drew b 25 cs := hrow
  have hc : ∀ q, q < (flV (l.drop j)).length -> (w.drew.cell? ⟨b, 0 + i * ii.size + q, none⟩).isSome = true := fun q hq => by
    rw [hfl] at hq; rw [hi1.2.1, Nat.mul_one]; exact Qga hrow' (by omega)
  have hflat : ∀ q u, (flV (l.drop j))[q]? = some u -> w.drew.cell? ((⟨b, j, none⟩ : Addr).add q) = some u := fun q u hu => by
    rw [<- flV_drop, List.getElem?_drop] at hu; rw [Addr.add_lit]; exact hcl _ _ hu
  have happ : ∀ ad c, (∀ q u, (flV (l.drop j))[q]? = some u -> w.drew.cell? (Addr.add ad q) = some u) -> (Builtin.append_ #[84, 84] 84 #[.slice (some ⟨b, 0, none⟩) i cap, .slice (some ad) (l.length - j) c]).run Try.prog w.drew = .ok (.slice (some ⟨b, 0, none⟩) (i + (l.length - j)) cap) (w.drew.setCells b (i) (flV (l.drop j))) := fun ad c hcl2 => by
    have r1 := run_append_room_cells (P := Try.prog) w.drew 84 84 25 ii Try.underlying84 hi0 b 0 i cap ad (l.length - j) c (flV (l.drop j)) (by rw [hfl, hi1.2.1, Nat.mul_one]) hcl2 (flV_ones _) (by omega) hc (fun q _ => hrow'.free _); rw [hi1.2.1, Nat.zero_add, Nat.mul_one] at r1; exact r1
  obtain ⟨ds, d1, d2⟩ := Qy (flV (l.drop j)) (i) w.drew b _ cs hrow'
  have hclr : ∀ ty, (Builtin.clear_ #[84] ty #[.slice (some ⟨b, (i + (l.length - j)), none⟩) (l.length - (i + (l.length - j))) (cap - (i + (l.length - j)))]).run Try.prog (w.drew.setCells b (i) (flV (l.drop j))) = .ok (.tuple #[]) (Qmfa w b i j l.length l) := fun ty =>
    Qsda _ ty b ((i + (l.length - j))) (l.length - (i + (l.length - j))) (cap - (i + (l.length - j))) (by omega) (fun q hq => Qga d1 (by omega)) (fun q => d1.free q)
  obtain ⟨W2, hW2⟩ : ∃ W2, W2 = Qmfa w b i j l.length l := ⟨_, rfl⟩; rw [<- hW2] at hclr HD; obtain ⟨W1, hW1⟩ : ∃ W1, W1 = w.drew.setCells b (i) (flV (l.drop j)) := ⟨_, rfl⟩; rw [<- hW1] at hclr happ; have HE := Qc (fun (e : cap = j) => show l.drop j = [] from List.eq_nil_of_length_eq_zero (by rw [List.length_drop]; omega)); clear hW1 hW2 d1 d2 hc hrow hrow' hfl h hi1 hi0 hcl hcs; generalize l.length = n at *
  have e1 : ((i : Int) == (j : Int)) = false := by
    rw [beq_eq_false_iff_ne]; omega
  have e2 : (j : Int) <= (n : Int) := by omega
  have e3 : (n : Int) <= (cap : Int) := by omega
  have e4 : (j : Int) <= (cap : Int) := by omega
  have e7 : (i : Int) <= (j : Int) := by omega
  have e8 : (i : Int) <= (cap : Int) := by omega
  have e9 : ¬ cap = i := by omega
  have e5 : ¬ cap = i + (n - j) := by omega
  have e6 : ((i + (n - j) : Nat) : Int) <= (n : Int) := by omega
  have e10 : ((i : Int) + ((n - j : Nat) : Int)) <= (n : Int) := by omega
  have HAP := Qc happ
  by_cases hck : cap = j
  · have q1 := HAP.out ⟨b, 0, none⟩ (cap - j) (fun q u hu => by
      rw [HE.out hck] at hu
      cases hu)
    clear happ HAP hflat HE; subst hck; obtain rfl : n = cap := by omega
    simp only [Nat.sub_self, Nat.add_zero] at q1 hclr HD |-; clear e5 e6 e10; go_enter Try.func47, Try.ntmps47; go_wp2_with fail; go_region_law (refine Qqg rfl (.tmp 22) (.tmp 25) 84 84 rfl (.slice (some ⟨b, 0, none⟩) i n) (.slice (some ⟨b, 0, none⟩) 0 0) (.slice (some ⟨b, 0, none⟩) i n) W1 ?h1 ?h2 q1 ?_; (case h1 => simp [Act.eval, Act.put]); (case h2 => simp [Act.eval, Act.put])); go_wp2; go_ret; exact ⟨rfl, HD.out⟩
  · have q1 := HAP.out ⟨b, j, none⟩ (cap - j) hflat; clear happ HAP hflat HE; go_enter Try.func47, Try.ntmps47; go_wp2_with fail; go_region_law (refine Qqg rfl (.tmp 22) (.tmp 25) 84 84 rfl (.slice (some ⟨b, 0, none⟩) i cap) (.slice (some ⟨b, j, none⟩) (n - j) (cap - j)) (.slice (some ⟨b, 0, none⟩) (i + (n - j)) cap) W1 ?h1 ?h2 q1 ?_; (case h1 => simp [Act.eval, Act.put]); (case h2 => simp [Act.eval, Act.put])); go_wp2; go_ret; exact ⟨rfl, HD.out⟩
theorem delV (w : World) (s : Sl) (l : List Sx) (h : RV w s l) (i j : Nat) (hij : i <= j) (hj : j <= l.length) (hl : l.length <= 1000000) :
    Calls Try.prog 47 #[slV s l.length, .int .i64 (i : Int), .int .i64 (j : Int)] w fun e w' => e = .returned (slV s (l.take i ++ l.drop j).length) /\ RV w' s (l.take i ++ l.drop j) /\ Tn (ofS s) w w' := by
  by_cases h0 : i = j
  · subst h0; rw [List.take_append_drop]; refine (delV_same s l.length i w h.cap.1 hj hl).mono ?_; rintro e w' ⟨rfl, rfl⟩; exact ⟨rfl, h, Tn.refl _ _⟩
  · obtain ⟨o, c⟩ := s
    cases o with
    | none =>
      rcases h with ⟨_, rfl, _⟩ | ⟨b, cs, h1, _⟩
      · simp at hj; omega
      · cases h1
    | some b =>
      refine (delV_some w b c l h i j (by omega) hj hl).mono ?_; rintro e w' ⟨rfl, h1, h2⟩; have e : (l.take i ++ l.drop j).length = i + (l.length - j) := by rw [List.length_append, List.length_take, List.length_drop]; omega
      rw [e]; exact ⟨rfl, h1, h2.weak (fun k hk => by rw [hk]; rfl)⟩
theorem Qye {a b : Int} (h : ¬ a = b) : (a != b) = true := by rw [bne, Quc h]; rfl
theorem Qgd {a b : Int} (h : a = b) : (a != b) = false := by rw [bne, Qta h]; rfl
def Rec.flat (a b : Rec) : Prop := a.k = b.k /\ a.l = b.l /\ a.t = b.t /\ a.p = b.p /\ a.c = b.c /\ a.n = b.n /\ a.s = b.s /\ a.b = b.b
theorem rsame_no (a b : Rec) (va vb ua ub : Value) (w : World) (hn : ¬ Rec.flat a b) (ha : Qcd w a va vb) (hb : Qcd w b ua ub) :
    Calls Try.prog 29 #[.agg (rcA a va vb), .agg (rcA b ua ub)] w fun e w' => e = .returned (.bool false) /\ Below w.heap.size w w' := by
  have HN := Qc hn; clear hn; have HA := Qc ha; have HB := Qc hb; obtain ⟨⟨a1, cap1, rfl, -⟩, ⟨a2, cap2, rfl, -⟩⟩ := ha; obtain ⟨⟨b1, dap1, rfl, -⟩, ⟨b2, dap2, rfl, -⟩⟩ := hb; have K0 := Qx.two w 45 45 (rcA a (.slice a1 a.ts.length cap1) (.slice a2 a.ds.length cap2)) (rcA b (.slice b1 b.ts.length dap1) (.slice b2 b.ds.length dap2)); have HK := Qc K0; obtain ⟨c0, c1, c2, c3, c9, c10, c11, c12, c13⟩ := Qda K0.1.2.1; obtain ⟨d0, d1, d2, d3, d9, d10, d11, d12, d13⟩ := Qda K0.1.1; obtain ⟨c4, c5, c6, c7, c8⟩ := Qbg K0.1.2.1; obtain ⟨d4, d5, d6, d7, d8⟩ := Qbg K0.1.1; have hb0 := K0.2; clear K0; clear HK HA HB; by_cases hk : a.k = b.k
  case neg =>
    have gk := Quc hk; have kk := Qye hk; clear hk; clear HN; go_enter Try.func29, Try.ntmps29; go_wp2; go_ret; exact ⟨rfl, hb0⟩
  have Hk := Qc hk; have gk := Qta hk; have kk := Qgd hk; clear hk; by_cases hl : (a.l : Int) = (b.l : Int)
  case neg =>
    have gl := Quc hl; have kl := Qye hl; clear hl; clear HN; go_enter Try.func29, Try.ntmps29; go_wp2; go_ret; exact ⟨rfl, hb0⟩
  have Hl := Qc hl; have gl := Qta hl; have kl := Qgd hl; clear hl; by_cases ht : a.t = b.t
  case neg =>
    have gt := Quc ht; have kt := Qye ht; clear ht; clear HN; go_enter Try.func29, Try.ntmps29; go_wp2; go_ret; exact ⟨rfl, hb0⟩
  have Ht := Qc ht; have gt := Qta ht; have kt := Qgd ht; clear ht; by_cases hp : (a.p : Int) = (b.p : Int)
  case neg =>
    have gp := Quc hp; have kp := Qye hp; clear hp; clear HN; go_enter Try.func29, Try.ntmps29; go_wp2; go_ret; exact ⟨rfl, hb0⟩
  have Hp := Qc hp; have gp := Qta hp; have kp := Qgd hp; clear hp; by_cases hck : a.c.k = b.c.k
  case neg =>
    have gck := Quc hck; have kck := Qye hck; clear hck; clear HN; go_enter Try.func29, Try.ntmps29; go_wp2; go_ret; exact ⟨rfl, hb0⟩
  have Hck := Qc hck; have gck := Qta hck; have kck := Qgd hck; clear hck; by_cases hcp : a.c.pg = b.c.pg
  case neg =>
    have gcp := Quc hcp; have kcp := Qye hcp; clear hcp; clear HN; go_enter Try.func29, Try.ntmps29; go_wp2; go_ret; exact ⟨rfl, hb0⟩
  have Hcp := Qc hcp; have gcp := Qta hcp; have kcp := Qgd hcp; clear hcp; by_cases hcs : a.c.sl = b.c.sl
  case neg =>
    have gcs := Quc hcs; have kcs := Qye hcs; clear hcs; clear HN; go_enter Try.func29, Try.ntmps29; go_wp2; go_ret; exact ⟨rfl, hb0⟩
  have Hcs := Qc hcs; have gcs := Qta hcs; have kcs := Qgd hcs; clear hcs; by_cases hco : a.c.o.toList = b.c.o.toList
  case neg =>
    clear HN; go_enter Try.func29, Try.ntmps29; go_wp2; go_ret; exact ⟨rfl, hb0⟩
  have Hco := Qc hco; by_cases hcn : a.c.n.toList = b.c.n.toList
  case neg =>
    clear HN; go_enter Try.func29, Try.ntmps29; go_wp2; go_ret; exact ⟨rfl, hb0⟩
  have Hcn := Qc hcn; by_cases hn : (a.n : Int) = (b.n : Int)
  case neg =>
    have gn := Quc hn; have kn := Qye hn; clear hn; clear HN; go_enter Try.func29, Try.ntmps29; go_wp2; go_ret; exact ⟨rfl, hb0⟩
  have Hn := Qc hn; have gn := Qta hn; have kn := Qgd hn; clear hn; by_cases hs : a.s = b.s
  case neg =>
    have gs := Quc hs; have ks := Qye hs; clear hs; clear HN; go_enter Try.func29, Try.ntmps29; go_wp2; go_ret; exact ⟨rfl, hb0⟩
  have Hs := Qc hs; have gs := Qta hs; have ks := Qgd hs; clear hs; by_cases hb : (a.b : Int) = (b.b : Int)
  case neg =>
    have gb := Quc hb; have kb := Qye hb; clear hb; clear HN; go_enter Try.func29, Try.ntmps29; go_wp2; go_ret; exact ⟨rfl, hb0⟩
  have Hb := Qc hb; have gb := Qta hb; have kb := Qgd hb; clear hb; exact absurd ⟨Hk.out, Int.ofNat_inj.1 Hl.out, Ht.out, Int.ofNat_inj.1 Hp.out, (Qjm _ _).1 ⟨Hck.out, Hcp.out, Hcs.out, Qom Hco.out, Qom Hcn.out⟩, Int.ofNat_inj.1 Hn.out, Hs.out, Int.ofNat_inj.1 Hb.out⟩ HN.out
theorem rsame_yes (a b : Rec) (va vb ua ub : Value) (w : World) (q : Bool) (Hq : Hid (q = true ↔ a = b)) (hn : Rec.flat a b) (fa : a.fits) (fb : b.fits) (ha : Qcd w a va vb) (hb : Qcd w b ua ub) :
    Calls Try.prog 29 #[.agg (rcA a va vb), .agg (rcA b ua ub)] w fun e w' => e = .returned (.bool q) /\ Below w.heap.size w w' := by
  have HFA := Qc fa; have HFB := Qc fb; have hml : maxLen = 9223372036854775807 := rfl; have ltx := fa.tl; have ldx := fa.dl
  have HF : Hid (¬ a = b -> q = false) := fun h => by
    cases q
    · rfl
    · exact absurd (Hq.out.1 rfl) h
  have HT : Hid (a.ts = b.ts -> a.ds = b.ds -> q = true) := fun h1 h2 => Hq.out.2 (rec_ext hn.1 hn.2.1 hn.2.2.1 hn.2.2.2.1 hn.2.2.2.2.1 hn.2.2.2.2.2.1 hn.2.2.2.2.2.2.1 hn.2.2.2.2.2.2.2 h1 h2)
  clear Hq fa fb; obtain ⟨hk, hl, ht, hp, hc, hnn, hs, hbb⟩ := hn; have HA := Qc ha; have HB := Qc hb; obtain ⟨⟨a1, cap1, rfl, -⟩, ⟨a2, cap2, rfl, -⟩⟩ := ha; obtain ⟨⟨b1, dap1, rfl, -⟩, ⟨b2, dap2, rfl, -⟩⟩ := hb; have K0 := Qx.two w 45 45 (rcA a (.slice a1 a.ts.length cap1) (.slice a2 a.ds.length cap2)) (rcA b (.slice b1 b.ts.length dap1) (.slice b2 b.ds.length dap2)); have HK := Qc K0; obtain ⟨c0, c1, c2, c3, c9, c10, c11, c12, c13⟩ := Qda K0.1.2.1; obtain ⟨d0, d1, d2, d3, d9, d10, d11, d12, d13⟩ := Qda K0.1.1; obtain ⟨c4, c5, c6, c7, c8⟩ := Qbg K0.1.2.1; obtain ⟨d4, d5, d6, d7, d8⟩ := Qbg K0.1.1; have hb0 := K0.2; clear K0; have gk : (a.k == b.k) = true := Qta (hk); have kk : (a.k != b.k) = false := Qgd (hk); have gl : ((a.l : Int) == (b.l : Int)) = true := Qta (congrArg Int.ofNat hl); have kl : ((a.l : Int) != (b.l : Int)) = false := Qgd (congrArg Int.ofNat hl); have gt : (a.t == b.t) = true := Qta (ht); have kt : (a.t != b.t) = false := Qgd (ht); have gp : ((a.p : Int) == (b.p : Int)) = true := Qta (congrArg Int.ofNat hp); have kp : ((a.p : Int) != (b.p : Int)) = false := Qgd (congrArg Int.ofNat hp); have gck : (a.c.k == b.c.k) = true := Qta (congrArg Ch.k hc); have kck : (a.c.k != b.c.k) = false := Qgd (congrArg Ch.k hc); have gcp : (a.c.pg == b.c.pg) = true := Qta (congrArg Ch.pg hc); have kcp : (a.c.pg != b.c.pg) = false := Qgd (congrArg Ch.pg hc); have gcs : (a.c.sl == b.c.sl) = true := Qta (congrArg Ch.sl hc); have kcs : (a.c.sl != b.c.sl) = false := Qgd (congrArg Ch.sl hc); have gn : ((a.n : Int) == (b.n : Int)) = true := Qta (congrArg Int.ofNat hnn); have kn : ((a.n : Int) != (b.n : Int)) = false := Qgd (congrArg Int.ofNat hnn); have gs : (a.s == b.s) = true := Qta (hs); have ks : (a.s != b.s) = false := Qgd (hs); have gb : ((a.b : Int) == (b.b : Int)) = true := Qta (congrArg Int.ofNat hbb); have kb : ((a.b : Int) != (b.b : Int)) = false := Qgd (congrArg Int.ofNat hbb); have hco : a.c.o.toList = b.c.o.toList := by rw [hc]
  have hcn : a.c.n.toList = b.c.n.toList := by rw [hc]
  clear hk hl ht hp hc hnn hs hbb; by_cases lt : a.ts.length = b.ts.length
  case neg =>
    obtain rfl := HF.out (fun h => lt (by rw [h])); have i1 : ((a.ts.length : Int) == (b.ts.length : Int)) = false := Quc (by omega); have i2 : ((a.ts.length : Int) != (b.ts.length : Int)) = true := Qye (by omega); clear HF HT HFA HFB HA HB HK lt ltx ldx hml; go_enter Try.func29, Try.ntmps29; go_wp2; go_ret; exact ⟨rfl, hb0⟩
  have i1 : ((a.ts.length : Int) == (b.ts.length : Int)) = true := Qta (by omega); have i2 : ((a.ts.length : Int) != (b.ts.length : Int)) = false := Qgd (by omega); by_cases ld : a.ds.length = b.ds.length
  case neg =>
    obtain rfl := HF.out (fun h => ld (by rw [h])); have j1 : ((a.ds.length : Int) == (b.ds.length : Int)) = false := Quc (by omega); have j2 : ((a.ds.length : Int) != (b.ds.length : Int)) = true := Qye (by omega); clear HF HT HFA HFB HA HB HK lt ld ltx ldx hml; go_enter Try.func29, Try.ntmps29; go_wp2; go_ret; exact ⟨rfl, hb0⟩
  have j1 : ((a.ds.length : Int) == (b.ds.length : Int)) = true := Qta (by omega); have j2 : ((a.ds.length : Int) != (b.ds.length : Int)) = false := Qgd (by omega); have HLT := Qc lt; have HLD := Qc ld; clear lt ld; go_enter Try.func29, Try.ntmps29; go_wp2; obtain ⟨A, hA⟩ : ∃ A, A = rcA a (.slice a1 a.ts.length cap1) (.slice a2 a.ds.length cap2) := ⟨_, rfl⟩; obtain ⟨B, hB⟩ : ∃ B, B = rcA b (.slice b1 b.ts.length dap1) (.slice b2 b.ds.length dap2) := ⟨_, rfl⟩; obtain ⟨g1, hg1⟩ : ∃ g1, g1 = w.heap.size + 1 := ⟨_, rfl⟩; rw [<- hA, <- hB, <- hg1] at HK; rw [<- hA, <- hB, <- hg1]; have HEA := Qc hA; have HEB := Qc hB; clear hA hB hg1 c0 c1 c2 c3 c4 c5 c6 c7 c8 c9 c10 c11 c12 c13 d0 d1 d2 d3 d4 d5 d6 d7 d8 d9 d10 d11 d12 d13 hb0 gk gl gt gp gck gcp gcs gn gs gb kk kl kt kp kck kcp kcs kn ks kb hco hcn i1 i2 j1 j2; go_loopw [80, 5] (fun v _ wr => ∃ j : Nat, j <= a.ts.length /\ v = .int .i64 j /\ Qx w wr [(g1, 45, B), (w.heap.size, 45, A)] /\ ∀ i, i < j -> a.ts.getD i Tx.zero = b.ts.getD i Tx.zero) (fun v _ _ => a.ts.length - (intOf v).toNat)
  case atStart => exact ⟨0, Nat.zero_le _, rfl, HK.out, fun i hi => absurd hi (by omega)⟩
  case round =>
    obtain ⟨j, hj, rfl, hk, hat⟩ := hrel; have HAT := Qc hat; clear HK; have HK := Qc hk; clear hat hk; by_cases hlt : j < a.ts.length
    case neg =>
      obtain rfl : j = a.ts.length := by omega
      have HE := Qc (Qoj (z := Tx.zero) HLT.out HAT.out); clear HAT; have HETS := HE; clear HE; have c13 : wr.cell? ⟨w.heap.size, 13, none⟩ = some (.slice a2 a.ds.length cap2) := by have h := HK.out.1.2.1; rw [HEA.out] at h; exact h.cell 13 _ rfl
      go_wp2; clear c13; go_loopw [98, 6] (fun v _ wr => ∃ j : Nat, j <= a.ds.length /\ v = .int .i64 j /\ Qx w wr [(g1, 45, B), (w.heap.size, 45, A)] /\ ∀ i, i < j -> a.ds.getD i Di.zero = b.ds.getD i Di.zero) (fun v _ _ => a.ds.length - (intOf v).toNat)
      case atStart => exact ⟨0, Nat.zero_le _, rfl, HK.out, fun i hi => absurd hi (by omega)⟩
      case round =>
        obtain ⟨j, hj, rfl, hk, hat⟩ := hrel; have HAT := Qc hat; clear HK; have HK := Qc hk; clear hat hk; by_cases hlt : j < a.ds.length
        case neg =>
          obtain rfl : j = a.ds.length := by omega
          have HE := Qc (Qoj (z := Di.zero) HLD.out HAT.out); clear HAT; obtain rfl := HT.out HETS.out HE.out; have d3 := HK.out.2; clear HF HT HFA HFB HA HB HK HE HETS HEA HEB; go_wp2; go_ret; exact ⟨rfl, d3⟩
        have jlt : (j : Int) < (a.ds.length : Int) := by omega
        obtain ⟨u1, k1, e1, hrow1⟩ := (HA.out.below HK.out.2).2; obtain ⟨u2, k2, e2, hrow2⟩ := (HB.out.below HK.out.2).2; rw [<- HLD.out] at e2; cases e1; cases e2; obtain ⟨p1, off1, hp1, -, hc1⟩ := hrow1 (by omega); obtain ⟨p2, off2, hp2, -, hc2⟩ := hrow2 (by rw [<- HLD.out]; omega); have HR1 := Qc (hc1 j hlt); have HR2 := Qc (hc2 j (by rw [<- HLD.out]; exact hlt)); have HPP : Hid (a2 = some ⟨p1, off1, none⟩ /\ b2 = some ⟨p2, off2, none⟩) := ⟨hp1, hp2⟩; clear hrow1 hrow2 hc1 hc2 hp1 hp2; have HF1 := Qc (HFA.out.ds _ (Qua a.ds j Di.zero hlt)); have HF2 := Qc (HFB.out.ds _ (Qua b.ds j Di.zero (by rw [<- HLD.out]; exact hlt))); obtain ⟨x, hx⟩ : ∃ x, x = a.ds.getD j Di.zero := ⟨_, rfl⟩; obtain ⟨y, hy⟩ : ∃ y, y = b.ds.getD j Di.zero := ⟨_, rfl⟩; have HXY : Hid (x = a.ds.getD j Di.zero /\ y = b.ds.getD j Di.zero) := ⟨hx, hy⟩; rw [<- hx] at HR1 HF1; rw [<- hy] at HR2 HF2; clear hx hy; obtain ⟨p, hp⟩ : ∃ p : Bool, p = false ↔ x = y := ⟨!(@decide (x = y) (Classical.propDecidable _)), by simp⟩; have HP := Qc hp; clear hp; go_wp2_with fail; refine Qqa (fun z => Qx w z [(g1, 45, B), (w.heap.size, 45, A)] /\ z.rangeAt p1 (off1 + j * 2) (diA x).toList /\ z.rangeAt p2 (off2 + j * 2) (diA y).toList) (by kernel_rfl) (by kernel_rfl) ⟨HK.out.drew, HR1.out, HR2.out⟩ ?_; clear HK HR1 HR2
        repeat (first
          | go_big_quiet_skip
          | (refine Qn rfl 43 (.tmp 101) rfl _ (.slice (some ⟨p1, off1, none⟩) a.ds.length cap2) rfl (fun z hz => Qmm z _ _ _ (show z.cell? ⟨w.heap.size, 13, none⟩ = _ from by have h := hz.1.1.2.1; rw [HEA.out, HPP.out.1] at h; exact h.cell 13 _ rfl)) ?_; simp only [Act.put, List.setIfInBounds_toArray, List.set])
          | (refine Qn rfl 43 (.tmp 106) rfl _ (.slice (some ⟨p2, off2, none⟩) a.ds.length dap2) rfl (fun z hz => Qmm z _ _ _ (show z.cell? ⟨g1, 13, none⟩ = _ from by have h := hz.1.1.1; rw [HEB.out, HPP.out.2, <- HLD.out] at h; exact h.cell 13 _ rfl)) ?_; simp only [Act.put, List.setIfInBounds_toArray, List.set])
          | (refine Qn rfl 111 (.tmp 104) rfl _ (.agg (diA x)) rfl (fun z hz => Qsh z p1 _ x hz.2.1) ?_; simp only [Act.put, List.setIfInBounds_toArray, List.set])
          | (refine Qn rfl 111 (.tmp 109) rfl _ (.agg (diA y)) rfl (fun z hz => Qsh z p2 _ y hz.2.2) ?_; simp only [Act.put, List.setIfInBounds_toArray, List.set])
          | (refine Qdf rfl .neq 111 _ (.tmp 105) (.tmp 110) rfl (.agg (diA x)) (.agg (diA y)) (.bool p) rfl rfl (fun z => Qtx .neq _ _ x y z) (fun z => Qeq x y HF1.out HF2.out p HP.out z) ?_; simp only [Act.put, List.setIfInBounds_toArray, List.set])
          | (refine Qg rfl (fun K hK => ?_); go_simp; refine hK _ ?_; clear hK K))
        refine wpQuiet_nil ?_; intro w3 h3; have H3 := Qc h3.1; clear h3
        cases p
        · have HE := Qc (HP.out.1 rfl); clear HP; go_wp2; go_roundw
          case rel => exact ⟨j + 1, by omega, by go_num, H3.out, Qdg HAT.out (by rw [<- HXY.out.1, <- HXY.out.2]; exact HE.out)⟩
          case measure => simp [intOf]; omega
        · obtain rfl := HF.out (fun h => absurd (HP.out.2 (by rw [HXY.out.1, HXY.out.2, h])) (by simp)); have d3 := H3.out.2; clear HP HXY HAT HF1 HF2 H3; go_wp2; go_ret; exact ⟨rfl, d3⟩
    have jlt : (j : Int) < (a.ts.length : Int) := by omega
    obtain ⟨u1, k1, e1, hrow1⟩ := (HA.out.below HK.out.2).1; obtain ⟨u2, k2, e2, hrow2⟩ := (HB.out.below HK.out.2).1; rw [<- HLT.out] at e2; cases e1; cases e2; obtain ⟨p1, off1, hp1, -, hc1⟩ := hrow1 (by omega); obtain ⟨p2, off2, hp2, -, hc2⟩ := hrow2 (by rw [<- HLT.out]; omega); have HR1 := Qc (hc1 j hlt); have HR2 := Qc (hc2 j (by rw [<- HLT.out]; exact hlt)); have HPP : Hid (a1 = some ⟨p1, off1, none⟩ /\ b1 = some ⟨p2, off2, none⟩) := ⟨hp1, hp2⟩; clear hrow1 hrow2 hc1 hc2 hp1 hp2; have HF1 := Qc (HFA.out.ts _ (Qua a.ts j Tx.zero hlt)); have HF2 := Qc (HFB.out.ts _ (Qua b.ts j Tx.zero (by rw [<- HLT.out]; exact hlt))); obtain ⟨x, hx⟩ : ∃ x, x = a.ts.getD j Tx.zero := ⟨_, rfl⟩; obtain ⟨y, hy⟩ : ∃ y, y = b.ts.getD j Tx.zero := ⟨_, rfl⟩; have HXY : Hid (x = a.ts.getD j Tx.zero /\ y = b.ts.getD j Tx.zero) := ⟨hx, hy⟩; rw [<- hx] at HR1 HF1; rw [<- hy] at HR2 HF2; clear hx hy; obtain ⟨p, hp⟩ : ∃ p : Bool, p = false ↔ x = y := ⟨!(@decide (x = y) (Classical.propDecidable _)), by simp⟩; have HP := Qc hp; clear hp; go_wp2_with fail; refine Qqa (fun z => Qx w z [(g1, 45, B), (w.heap.size, 45, A)] /\ z.rangeAt p1 (off1 + j * 5) (txA x).toList /\ z.rangeAt p2 (off2 + j * 5) (txA y).toList) (by kernel_rfl) (by kernel_rfl) ⟨HK.out.drew, HR1.out, HR2.out⟩ ?_; clear HK HR1 HR2
    repeat (first
      | go_big_quiet_skip
      | (refine Qn rfl 42 (.tmp 83) rfl _ (.slice (some ⟨p1, off1, none⟩) a.ts.length cap1) rfl (fun z hz => Qem z _ _ _ (show z.cell? ⟨w.heap.size, 12, none⟩ = _ from by have h := hz.1.1.2.1; rw [HEA.out, HPP.out.1] at h; exact h.cell 12 _ rfl)) ?_; simp only [Act.put, List.setIfInBounds_toArray, List.set])
      | (refine Qn rfl 42 (.tmp 88) rfl _ (.slice (some ⟨p2, off2, none⟩) a.ts.length dap1) rfl (fun z hz => Qem z _ _ _ (show z.cell? ⟨g1, 12, none⟩ = _ from by have h := hz.1.1.1; rw [HEB.out, HPP.out.2, <- HLT.out] at h; exact h.cell 12 _ rfl)) ?_; simp only [Act.put, List.setIfInBounds_toArray, List.set])
      | (refine Qn rfl 109 (.tmp 86) rfl _ (.agg (txA x)) rfl (fun z hz => Qnf z p1 _ x hz.2.1) ?_; simp only [Act.put, List.setIfInBounds_toArray, List.set])
      | (refine Qn rfl 109 (.tmp 91) rfl _ (.agg (txA y)) rfl (fun z hz => Qnf z p2 _ y hz.2.2) ?_; simp only [Act.put, List.setIfInBounds_toArray, List.set])
      | (refine Qdf rfl .neq 109 _ (.tmp 87) (.tmp 92) rfl (.agg (txA x)) (.agg (txA y)) (.bool p) rfl rfl (fun z => Qaz .neq _ _ x y z) (fun z => Qpp x y HF1.out HF2.out p HP.out z) ?_; simp only [Act.put, List.setIfInBounds_toArray, List.set])
      | (refine Qg rfl (fun K hK => ?_); go_simp; refine hK _ ?_; clear hK K))
    refine wpQuiet_nil ?_; intro w3 h3; have H3 := Qc h3.1; clear h3
    cases p
    · have HE := Qc (HP.out.1 rfl); clear HP; go_wp2; go_roundw
      case rel => exact ⟨j + 1, by omega, by go_num, H3.out, Qdg HAT.out (by rw [<- HXY.out.1, <- HXY.out.2]; exact HE.out)⟩
      case measure => simp [intOf]; omega
    · obtain rfl := HF.out (fun h => absurd (HP.out.2 (by rw [HXY.out.1, HXY.out.2, h])) (by simp)); have d3 := H3.out.2; clear HP HXY HAT HF1 HF2 H3; go_wp2; go_ret; exact ⟨rfl, d3⟩
theorem rsame_at (a b : Rec) (va vb ua ub : Value) (w : World) (q : Bool) (Hq : Hid (q = true ↔ a = b)) (fa : a.fits) (fb : b.fits) (ha : Qcd w a va vb) (hb : Qcd w b ua ub) :
    Calls Try.prog 29 #[.agg (rcA a va vb), .agg (rcA b ua ub)] w fun e w' => e = .returned (.bool q) /\ Below w.heap.size w w' := by
  by_cases hn : Rec.flat a b
  · exact rsame_yes a b va vb ua ub w q Hq hn fa fb ha hb
  · obtain rfl : q = false := by
      cases q
      · rfl
      · have h := Hq.out.1 rfl; subst h; exact absurd ⟨rfl, rfl, rfl, rfl, rfl, rfl, rfl, rfl⟩ hn
    exact rsame_no a b va vb ua ub w hn ha hb
set_option linter.unusedVariables false
section
open Go.ChangeShapes Go.WideShapes Go.ChangeAt Go.RowKit Go.Deep Go.Joins
section
variable {H : Type} {enc : TypeId × Value -> H} {P : Program} {W : World}
theorem Qqv {t : TypeId} {v : Value} {d : DataW H} {p : List MemPlace} (h : DataW.Trod enc P W 0 (fun _ => true) true t v d p) : ∀ x ∈ p, x.block < W.heap.size := by
  obtain ⟨m, hm⟩ := h; exact DataW.trod_lt m _ _ _ hm
end
end
section
open Go.ChangeShapes Go.WideShapes Go.ChangeAt Go.RowKit Go.Deep Go.Joins
theorem Qaf {i : Int} (h : (Lit.int .u64 i).wf = true) : ∃ n : Nat, i = (n : Int) := by
  have := (bounds_u64 h).1; exact ⟨i.toNat, by omega⟩
section
variable {H : Type} {enc : TypeId × Value -> H} {W : World}
theorem trod_st2 {P : Program} {t : TypeId} {f0 f1 : Field} {fuel : Nat} {cs : List Value} {x : DataW H × List MemPlace} (ht : P.underlying t = some (.struct #[f0, f1])) (h : DataW.trod enc P W 0 (fun _ => true) true fuel t cs = some x) :
    ∃ y0 y1 n, cs.length = P.cellsOf t /\ DataW.trod enc P W 0 (fun _ => true) true n f0.type ((cs.drop f0.offset).take (P.cellsOf f0.type)) = some y0 /\ DataW.trod enc P W 0 (fun _ => true) true n f1.type ((cs.drop f1.offset).take (P.cellsOf f1.type)) = some y1 := by
  obtain ⟨xs, n, _, rfl, hl, hlen, hf⟩ := DataW.trod_struct ht h
  match xs, hlen with
  | [y0, y1], _ => exact ⟨y0, y1, n, hl, by simpa using hf 0 f0 rfl, by simpa using hf 1 f1 rfl⟩
theorem Qnx {P : Program} {t : TypeId} {f0 f1 f2 f3 f4 : Field} {fuel : Nat} {cs : List Value} {x : DataW H × List MemPlace} (ht : P.underlying t = some (.struct #[f0, f1, f2, f3, f4])) (h : DataW.trod enc P W 0 (fun _ => true) true fuel t cs = some x) :
    ∃ y0 y1 y2 y3 y4 n, cs.length = P.cellsOf t /\ DataW.trod enc P W 0 (fun _ => true) true n f0.type ((cs.drop f0.offset).take (P.cellsOf f0.type)) = some y0 /\ DataW.trod enc P W 0 (fun _ => true) true n f1.type ((cs.drop f1.offset).take (P.cellsOf f1.type)) = some y1 /\ DataW.trod enc P W 0 (fun _ => true) true n f2.type ((cs.drop f2.offset).take (P.cellsOf f2.type)) = some y2 /\ DataW.trod enc P W 0 (fun _ => true) true n f3.type ((cs.drop f3.offset).take (P.cellsOf f3.type)) = some y3 /\ DataW.trod enc P W 0 (fun _ => true) true n f4.type ((cs.drop f4.offset).take (P.cellsOf f4.type)) = some y4 := by
  obtain ⟨xs, n, _, rfl, hl, hlen, hf⟩ := DataW.trod_struct ht h
  match xs, hlen with
  | [y0, y1, y2, y3, y4], _ => exact ⟨y0, y1, y2, y3, y4, n, hl, by simpa using hf 0 f0 rfl, by simpa using hf 1 f1 rfl, by simpa using hf 2 f2 rfl, by simpa using hf 3 f3 rfl, by simpa using hf 4 f4 rfl⟩
theorem Qrn {P : Program} {t : TypeId} {f0 f1 f2 f3 f4 f5 f6 f7 f8 f9 : Field} {fuel : Nat} {cs : List Value} {x : DataW H × List MemPlace} (ht : P.underlying t = some (.struct #[f0, f1, f2, f3, f4, f5, f6, f7, f8, f9])) (h : DataW.trod enc P W 0 (fun _ => true) true fuel t cs = some x) :
    ∃ y0 y1 y2 y3 y4 y5 y6 y7 y8 y9 n, cs.length = P.cellsOf t /\ DataW.trod enc P W 0 (fun _ => true) true n f0.type ((cs.drop f0.offset).take (P.cellsOf f0.type)) = some y0 /\ DataW.trod enc P W 0 (fun _ => true) true n f1.type ((cs.drop f1.offset).take (P.cellsOf f1.type)) = some y1 /\ DataW.trod enc P W 0 (fun _ => true) true n f2.type ((cs.drop f2.offset).take (P.cellsOf f2.type)) = some y2 /\ DataW.trod enc P W 0 (fun _ => true) true n f3.type ((cs.drop f3.offset).take (P.cellsOf f3.type)) = some y3 /\ DataW.trod enc P W 0 (fun _ => true) true n f4.type ((cs.drop f4.offset).take (P.cellsOf f4.type)) = some y4 /\ DataW.trod enc P W 0 (fun _ => true) true n f5.type ((cs.drop f5.offset).take (P.cellsOf f5.type)) = some y5 /\ DataW.trod enc P W 0 (fun _ => true) true n f6.type ((cs.drop f6.offset).take (P.cellsOf f6.type)) = some y6 /\ DataW.trod enc P W 0 (fun _ => true) true n f7.type ((cs.drop f7.offset).take (P.cellsOf f7.type)) = some y7 /\ DataW.trod enc P W 0 (fun _ => true) true n f8.type ((cs.drop f8.offset).take (P.cellsOf f8.type)) = some y8 /\ DataW.trod enc P W 0 (fun _ => true) true n f9.type ((cs.drop f9.offset).take (P.cellsOf f9.type)) = some y9 := by
  obtain ⟨xs, n, _, rfl, hl, hlen, hf⟩ := DataW.trod_struct ht h
  match xs, hlen with
  | [y0, y1, y2, y3, y4, y5, y6, y7, y8, y9], _ => exact ⟨y0, y1, y2, y3, y4, y5, y6, y7, y8, y9, n, hl, by simpa using hf 0 f0 rfl, by simpa using hf 1 f1 rfl, by simpa using hf 2 f2 rfl, by simpa using hf 3 f3 rfl, by simpa using hf 4 f4 rfl, by simpa using hf 5 f5 rfl, by simpa using hf 6 f6 rfl, by simpa using hf 7 f7 rfl, by simpa using hf 8 f8 rfl, by simpa using hf 9 f9 rfl⟩
theorem Qmk {α : Type} (f : α -> Array Value) (z : α) (G : α -> Prop) {P : Program} {t e : TypeId} {sz fuel : Nat} {c : Value} {x : DataW H × List MemPlace} (hel : ∀ n cs y, DataW.trod enc P W 0 (fun _ => true) true n e cs = some y -> ∃ x, cs = (f x).toList /\ G x)
    (ht : P.underlying t = some (.slice e)) (hsz : P.cellsOf e = sz) (hfz : ∀ x, (f x).size = sz) (hpos : 0 < sz) (h : DataW.trod enc P W 0 (fun _ => true) true fuel t [c] = some x) : ∃ xs, Qte f z sz W c xs /\ xs.length <= maxLen /\ ∀ x ∈ xs, G x := by
  rcases open_slice ht h with ⟨hcs, _⟩ | ⟨a, len, cap, m, n, D, Pl, hcs, _, hl, hm, hmm, _, hall⟩
  · simp only [List.cons.injEq, and_true] at hcs; exact ⟨[], ⟨none, 0, hcs, fun h => absurd h (by simp)⟩, Nat.zero_le _, fun x hx => nomatch hx⟩
  · simp only [List.cons.injEq, and_true] at hcs; subst hcs; simp only [if_true] at hmm; subst hmm; have : Nonempty α := ⟨z⟩
    obtain ⟨g, hg⟩ := @choose_lt α ⟨z⟩ m (fun i y => G y /\ ∀ k, k < sz -> W.cell? (a.add (i * sz + k)) = (f y).toList[k]?) (fun i hi => by
      obtain ⟨cs', h1, h2⟩ := hall i hi; obtain ⟨y, rfl, hG⟩ := hel _ _ _ h2; rw [hsz] at h1; obtain ⟨_, _, h3⟩ := World.cells?_some h1; refine ⟨y, hG, fun k hk => ?_⟩
      rw [<- h3 k hk, Addr.add_add])
    have hL : ((List.range len).map g).length = len := by simp
    refine ⟨(List.range len).map g, ⟨some a, m, by rw [hL], fun hp => ?_⟩, by rw [hL]; omega, fun x hx => by
      obtain ⟨i, hi, rfl⟩ := List.mem_map.1 hx
      exact (hg i (by have := List.mem_range.1 hi; omega)).1⟩
    rw [hL] at hp; have hf0 : ∀ y k, k < sz -> ∃ v, (f y).toList[k]? = some v := fun y k hk => ⟨_, List.getElem?_eq_getElem (by rw [Array.length_toList, hfz]; exact hk)⟩
    have hc0 := (hg 0 (by omega)).2 0 hpos; obtain ⟨v0, hv0⟩ := hf0 (g 0) 0 hpos; rw [hv0] at hc0; obtain ⟨b, off, spot⟩ := a; have hspot : spot = none := by simpa [Addr.add] using World.cell?_spot hc0
    subst hspot
    refine ⟨b, off, rfl, ?_, fun i hi j v hv => ?_⟩
    · have := World.block_lt_of_cell? W _ hc0; simpa [Addr.add] using this
    · rw [hL] at hi
      have hget : ((List.range len).map g).getD i z = g i := by
        rw [List.getD_eq_getElem?_getD, List.getElem?_map, List.getElem?_range hi]; rfl
      rw [hget] at hv
      have hj : j < sz := by
        have := (List.getElem?_eq_some_iff.1 hv).1; rw [Array.length_toList, hfz] at this; exact this
      have := (hg i (by omega)).2 j hj; rw [Addr.add_lit, hv] at this; rw [<- this, Nat.add_assoc]
end
end
section
open Go.ChangeShapes Go.WideShapes Go.ChangeAt Go.RowKit Go.Deep Go.Joins
section
variable {H : Type} {enc : TypeId × Value -> H} {W : World}
set_option maxRecDepth 40000 in
theorem elem_ch (n : Nat) (cs : List Value) (y : DataW H × List MemPlace) (h : DataW.trod enc Try.prog W 0 (fun _ => true) true n 41 cs = some y) : ∃ c : Ch, cs = (chA c).toList /\ c.fits := by
  obtain ⟨y0, y1, y2, y3, y4, m, hl, h0, h1, h2, h3, h4⟩ := Qnx Try.underlying41 h; have hC : Try.prog.cellsOf 41 = 5 := by kernel_rfl
  rw [hC] at hl
  match cs, hl with
  | [c0, c1, c2, c3, c4], _ =>
    have e0 : Try.prog.cellsOf 3 = 1 := by kernel_rfl
    have e1 : Try.prog.cellsOf 9 = 1 := by kernel_rfl
    simp only [e0, e1, List.drop_zero, List.drop_succ_cons, List.take_succ_cons, List.take_zero] at h0 h1 h2 h3 h4; obtain ⟨i0, g0, _, w0⟩ := DataW.trod_int Try.underlying3 h0; obtain ⟨i1, g1, _, w1⟩ := DataW.trod_int Try.underlying3 h1; obtain ⟨i2, g2, _, w2⟩ := DataW.trod_int Try.underlying3 h2; obtain ⟨i3, g3, _, w3⟩ := DataW.trod_string Try.underlying9 h3; obtain ⟨i4, g4, _, w4⟩ := DataW.trod_string Try.underlying9 h4; simp only [List.cons.injEq, and_true] at g0 g1 g2 g3 g4; subst g0 g1 g2 g3 g4; exact ⟨⟨i0, i1, i2, i3, i4⟩, rfl, w0, w1, w2, w3, w4⟩
set_option maxRecDepth 40000 in
theorem elem_tx (n : Nat) (cs : List Value) (y : DataW H × List MemPlace) (h : DataW.trod enc Try.prog W 0 (fun _ => true) true n 109 cs = some y) : ∃ c : Tx, cs = (txA c).toList /\ c.fits := by
  obtain ⟨y0, y1, y2, y3, y4, m, hl, h0, h1, h2, h3, h4⟩ := Qnx Try.underlying109 h; have hC : Try.prog.cellsOf 109 = 5 := by kernel_rfl
  rw [hC] at hl
  match cs, hl with
  | [c0, c1, c2, c3, c4], _ =>
    have e0 : Try.prog.cellsOf 3 = 1 := by kernel_rfl
    have e1 : Try.prog.cellsOf 39 = 1 := by kernel_rfl
    simp only [e0, e1, List.drop_zero, List.drop_succ_cons, List.take_succ_cons, List.take_zero] at h0 h1 h2 h3 h4; obtain ⟨i0, g0, _, w0⟩ := DataW.trod_int Try.underlying3 h0; obtain ⟨i1, g1, _, w1⟩ := DataW.trod_int Try.underlying3 h1; obtain ⟨i2, g2, _, w2⟩ := DataW.trod_int Try.underlying39 h2; obtain ⟨i3, g3, _, w3⟩ := DataW.trod_int Try.underlying39 h3; obtain ⟨i4, g4, _, w4⟩ := DataW.trod_int Try.underlying39 h4; simp only [List.cons.injEq, and_true] at g0 g1 g2 g3 g4; subst g0 g1 g2 g3 g4; obtain ⟨j2, rfl⟩ := Qaf w2; obtain ⟨j3, rfl⟩ := Qaf w3; obtain ⟨j4, rfl⟩ := Qaf w4; exact ⟨⟨i0, i1, j2, j3, j4⟩, rfl, w0, w1, w2, w3, w4⟩
set_option maxRecDepth 40000 in
theorem elem_di (n : Nat) (cs : List Value) (y : DataW H × List MemPlace) (h : DataW.trod enc Try.prog W 0 (fun _ => true) true n 111 cs = some y) : ∃ c : Di, cs = (diA c).toList /\ c.fits := by
  obtain ⟨y0, y1, m, hl, h0, h1⟩ := trod_st2 Try.underlying111 h; have hC : Try.prog.cellsOf 111 = 2 := by kernel_rfl
  rw [hC] at hl
  match cs, hl with
  | [c0, c1], _ =>
    have e0 : Try.prog.cellsOf 3 = 1 := by kernel_rfl
    have e1 : Try.prog.cellsOf 39 = 1 := by kernel_rfl
    simp only [e0, e1, List.drop_zero, List.drop_succ_cons, List.take_succ_cons, List.take_zero] at h0 h1; obtain ⟨i0, g0, _, w0⟩ := DataW.trod_int Try.underlying3 h0; obtain ⟨i1, g1, _, w1⟩ := DataW.trod_int Try.underlying39 h1; simp only [List.cons.injEq, and_true] at g0 g1; subst g0 g1; obtain ⟨j1, rfl⟩ := Qaf w1; exact ⟨⟨i0, j1⟩, rfl, w0, w1⟩
end
end
section
open Go.ChangeShapes Go.WideShapes Go.ChangeAt Go.RowKit Go.Deep Go.Joins
set_option maxRecDepth 40000 in
def rcF (m : Rec × Value × Value) : Array Value := rcA m.1 m.2.1 m.2.2
set_option maxRecDepth 40000 in
def rcZ : Rec × Value × Value := (Rec.zero, .slice none 0 0, .slice none 0 0)
section
variable {H : Type} {enc : TypeId × Value -> H} {W : World}
set_option maxRecDepth 40000 in
theorem elem_rec (n : Nat) (cs : List Value) (y : DataW H × List MemPlace) (h : DataW.trod enc Try.prog W 0 (fun _ => true) true n 45 cs = some y) : ∃ m : Rec × Value × Value, cs = (rcF m).toList /\ (m.1.fits /\ Qcd W m.1 m.2.1 m.2.2) := by
  obtain ⟨z0, z1, z2, z3, z4, z5, z6, z7, z8, z9, m', hl, -⟩ := Qrn Try.underlying45 h; have hC : Try.prog.cellsOf 45 = 14 := by kernel_rfl
  rw [hC] at hl
  match cs, hl with
  | [c0, c1, c2, c3, c4, c5, c6, c7, c8, c9, c10, c11, c12, c13], _ =>
    obtain ⟨y0, y1, y2, y3, y4, y5, y6, y7, y8, y9, m, _, h0, h1, h2, h3, h4, h5, h6, h7, h8, h9⟩ := Qrn Try.underlying45 h; have e0 : Try.prog.cellsOf 3 = 1 := by kernel_rfl
    have e1 : Try.prog.cellsOf 39 = 1 := by kernel_rfl
    have e2 : Try.prog.cellsOf 41 = 5 := by kernel_rfl
    have e3 : Try.prog.cellsOf 42 = 1 := by kernel_rfl
    have e4 : Try.prog.cellsOf 43 = 1 := by kernel_rfl
    simp only [e0, e1, e2, e3, e4, List.drop_zero, List.drop_succ_cons, List.take_succ_cons, List.take_zero] at h0 h1 h2 h3 h4 h5 h6 h7 h8 h9; obtain ⟨i0, g0, _, w0⟩ := DataW.trod_int Try.underlying3 h0; obtain ⟨i1, g1, _, w1⟩ := DataW.trod_int Try.underlying39 h1; obtain ⟨i2, g2, _, w2⟩ := DataW.trod_int Try.underlying3 h2; obtain ⟨i3, g3, _, w3⟩ := DataW.trod_int Try.underlying39 h3; obtain ⟨ch, g4, w4⟩ := elem_ch _ _ _ h4; obtain ⟨i5, g5, _, w5⟩ := DataW.trod_int Try.underlying39 h5; obtain ⟨i6, g6, _, w6⟩ := DataW.trod_int Try.underlying3 h6; obtain ⟨i7, g7, _, w7⟩ := DataW.trod_int Try.underlying39 h7; obtain ⟨ts, g8, w8, u8⟩ := Qmk (sz := 5) txA Tx.zero Tx.fits elem_tx Try.underlying42 (by kernel_rfl) (fun _ => rfl) (by decide) h8; obtain ⟨ds, g9, w9, u9⟩ := Qmk (sz := 2) diA Di.zero Di.fits elem_di Try.underlying43 (by kernel_rfl) (fun _ => rfl) (by decide) h9; simp only [chA, List.cons.injEq, and_true] at g0 g1 g2 g3 g4 g5 g6 g7; obtain ⟨g40, g41, g42, g43, g44⟩ := g4; subst g0 g1 g2 g3 g40 g41 g42 g43 g44 g5 g6 g7; obtain ⟨j1, rfl⟩ := Qaf w1; obtain ⟨j3, rfl⟩ := Qaf w3; obtain ⟨j5, rfl⟩ := Qaf w5; obtain ⟨j7, rfl⟩ := Qaf w7; exact ⟨(⟨i0, j1, i2, j3, ch, j5, i6, j7, ts, ds⟩, c12, c13), rfl, ⟨w4, w8, w9, u8, u9⟩, g8, g9⟩
set_option maxRecDepth 40000 in
theorem op_recs {t : TypeId} {c : Value} {fuel : Nat} {x : DataW H × List MemPlace} (ht : Try.prog.underlying t = some (.slice 45)) (h : DataW.trod enc Try.prog W 0 (fun _ => true) true fuel t [c] = some x) :
    ∃ ms : List (Rec × Value × Value), Qte rcF rcZ 14 W c ms /\ ms.length <= maxLen /\ ∀ m ∈ ms, m.1.fits /\ Qcd W m.1 m.2.1 m.2.2 :=
  Qmk (sz := 14) rcF rcZ (fun m => m.1.fits /\ Qcd W m.1 m.2.1 m.2.2) elem_rec ht (by kernel_rfl) (fun _ => rfl) (by decide) h
end
end
set_option linter.unusedVariables false
def Qmb : Nat -> List Rec -> Prop
  | _, [] => True
  | a, r :: rs => r.right /\ a < r.l /\ Qmb r.l rs
def Qwb : Nat -> List Rec -> Nat
  | a, [] => a
  | _, r :: rs => Qwb r.l rs
set_option linter.unusedVariables false
set_option linter.unusedVariables false
def Qya : Array Value := #[.int .i64 0, .int .u64 0, .int .i64 0, .int .u64 0, .int .i64 0, .int .i64 0, .int .i64 0, .string ⟨#[]⟩, .string ⟨#[]⟩, .int .u64 0, .int .i64 0, .int .u64 0, .slice none 0 0, .slice none 0 0]
section
variable {F : Fence} {n : Nat} {P : Program}
end
set_option linter.unusedVariables false
section
open Go.RowKit Go.Shelf
attribute [local go_sem] Oper.semAt_some
end
theorem Qld : ∀ (rs : List Rec) (a : Nat) (r : Rec), Qmb a (rs ++ [r]) ↔ Qmb a rs /\ r.right /\ Qwb a rs < r.l
  | [], a, r => ⟨fun h => ⟨trivial, h.1, h.2.1⟩, fun h => ⟨h.2.1, h.2.2, trivial⟩⟩
  | q :: rs, a, r => by
    have ih := Qld rs q.l r
    constructor
    · rintro ⟨h1, h2, h3⟩; have h4 := ih.1 h3; exact ⟨⟨h1, h2, h4.1⟩, h4.2⟩
    · rintro ⟨⟨h1, h2, h3⟩, h4⟩; exact ⟨h1, h2, ih.2 ⟨h3, h4⟩⟩
theorem Qzj : ∀ (rs : List Rec) (a : Nat) (r : Rec), Qwb a (rs ++ [r]) = r.l
  | [], _, _ => rfl
  | q :: rs, _, r => Qzj rs q.l r
section
open Go.RowKit Go.Shelf
attribute [local go_sem] Oper.semAt_some
theorem Qij {A B : World} {base n sz : Nat} {e : TypeId} {v : Value} {xs : List Value} (h : A.ownsRow base e sz v n xs) (hk : ∀ k cs, Qb A k e cs -> Qb B k e cs) : B.ownsRow base e sz v n xs := by
  refine ⟨h.1, h.2.imp id ?_⟩; rintro ⟨g, cap, cur, h1, h2, h3, h4⟩; exact ⟨g, cap, cur, h1, h2, hk g cur h3, h4⟩
def msR (ms : List (Rec × Value × Value)) : List Rec := ms.map (·.1)
end
def RsIn (w : World) (v : Value) (ms : List (Rec × Value × Value)) : Prop := Qte rcF rcZ 14 w v ms /\ ∀ m ∈ ms, m.1.fits /\ Qcd w m.1 m.2.1 m.2.2
theorem RsIn.below {w x : World} {v : Value} {ms : List (Rec × Value × Value)} (h : RsIn w v ms) (hb : Below w.heap.size w x) : RsIn x v ms := ⟨h.1.below hb, fun m hm => ⟨(h.2 m hm).1, (h.2 m hm).2.below hb⟩⟩
theorem Qug (y : World) (b k : Nat) (m : Rec × Value × Value) (h : y.rangeAt b k (rcF m).toList) : (Instr.loadAt 45 (.pointer (some ⟨b, k, none⟩))).run Try.prog y = .ok (.agg (rcF m)) y := by
  have h1 := run_loadAt_mid (P := Try.prog) y b k 45 (rcF m).toList _ h Try.underlying45 rfl (by rw [Qia]; rfl); rwa [Array.toArray_toList] at h1
theorem RsIn.at {w : World} {a : Option Addr} {len cap : Nat} {ms : List (Rec × Value × Value)} (h : RsIn w (.slice a len cap) ms) {i : Nat} (hi : i < ms.length) : ∃ b off, a = some ⟨b, off, none⟩ /\ b < w.heap.size /\ w.rangeAt b (off + i * 14) (rcF (ms.getD i rcZ)).toList /\ (ms.getD i rcZ).1.fits /\ Qcd w (ms.getD i rcZ).1 (ms.getD i rcZ).2.1 (ms.getD i rcZ).2.2 := by
  obtain ⟨⟨a', cap', h1, h2⟩, h3⟩ := h; injection h1 with e1 e2 e3; subst e1; obtain ⟨b, off, h4, h5, h6⟩ := h2 (by omega); have h7 := h3 _ (Qua ms i rcZ hi); exact ⟨b, off, h4, h5, h6 i hi, h7.1, h7.2⟩
theorem msR_get (ms : List (Rec × Value × Value)) (i : Nat) : (msR ms).getD i Rec.zero = (ms.getD i rcZ).1 := by
  unfold msR; simp only [List.getD_eq_getElem?_getD, List.getElem?_map]; cases ms[i]? <;> rfl
def Qjg : Nat -> List Rec -> Bool
  | _, [] => true
  | a, r :: rs => r.rightB && decide (a < r.l) && Qjg r.l rs
theorem Qra : ∀ (l : List Rec) (a : Nat), Qjg a l = true ↔ Qmb a l
  | [], _ => ⟨fun _ => trivial, fun _ => rfl⟩
  | r :: rs, a => by
    unfold Qjg Qmb; rw [Bool.and_eq_true, Bool.and_eq_true, decide_eq_true_iff, Qbi, Qra rs r.l, and_assoc]
theorem Qdt : ∀ (l : List Rec) (a : Nat), Qmb a l -> a <= Qwb a l
  | [], _, _ => Nat.le_refl _
  | q :: rs, a, h => by
    have := Qdt rs q.l h.2.2; have := h.2.1; show a <= Qwb q.l rs; omega
theorem Qle : ∀ (l : List Rec) (a : Nat), Qmb a l -> ∀ r ∈ l, a < r.l /\ r.l <= Qwb a l
  | [], _, _, _, h => nomatch h
  | q :: rs, a, h, r, hr => by
    have h1 := Qdt rs q.l h.2.2
    rcases List.mem_cons.1 hr with rfl | hr
    · exact ⟨h.2.1, h1⟩
    · have := Qle rs q.l h.2.2 r hr; have := h.2.1; show a < r.l /\ r.l <= Qwb q.l rs; omega
theorem Qab {α : Type} {C : List α -> Prop} (h0 : C []) (h1 : ∀ l s, C l -> C (l ++ [s])) (l : List α) : C l := by
  have h : ∀ m : List α, C m.reverse := by
    intro m
    induction m with
    | nil => exact h0
    | cons a m ih =>
      rw [List.reverse_cons]; exact h1 _ _ ih
  have := h l.reverse; rwa [List.reverse_reverse] at this
theorem Qpf {α : Type} (f : α -> Array Value) (zz : α) (sz : Nat) (hf : ∀ x, (f x).size = sz) (hsz : 0 < sz) {P : Program} (w : World) (base : Nat) (t ty e : TypeId) (z : Array Value) (by' : Nat) (ht : P.underlying t = some (.slice e))
    (hi : (P.info? e).map (fun i => (i.zero, i.size, i.bytes)) = some (some (.agg z), sz, by')) (hzs : z.size = sz) (v : Value) (n : Nat) (xs : List Value) (hown : w.ownsRow base e sz v n xs)
    (vx : Value) (ms : List α) (hr : Qte f zz sz w vx ms) (hnil : ∀ a len cap, vx = .slice a len cap -> a = none -> cap = 0) (h1 : ∀ m ∈ ms, ∀ u ∈ (f m).toList, u.oneCell' = true) (hl : n + ms.length <= maxLen) (hb : (n + ms.length) * by' <= 140737488355328) (hbase : base <= w.heap.size) :
    ∃ v' w', (Builtin.append_ #[t, t] ty #[v, vx]).run P w = .ok v' w' /\ w'.ownsRow base e sz v' (n + ms.length) (xs ++ ms.flatMap fun m => (f m).toList) /\ w.grownBy w' v.ownBlock := by
  obtain ⟨i, hi0, hi1⟩ := Option.map_eq_some_iff.1 hi; simp only [Prod.mk.injEq] at hi1; obtain ⟨a, cap, rfl, hc⟩ := hr
  have hlen : (ms.flatMap fun m => (f m).toList).length = ms.length * sz := by
    clear hc h1 hl hb hnil
    induction ms with
    | nil => simp
    | cons m ms ih => rw [List.flatMap_cons, List.length_append, ih, Array.length_toList, hf, List.length_cons, Nat.add_mul, Nat.one_mul, Nat.add_comm]
  cases a with
  | none =>
    obtain rfl := hnil _ _ _ rfl rfl
    have hm : ms = [] := by
      rcases ms with _ | ⟨m, ms⟩
      · rfl
      · obtain ⟨b, off, h, _⟩ := hc (by simp); cases h
    subst hm; exact ⟨v, w, run_append_owned_none (P := P) w base t ty e i sz ht hi0 v n xs hown, by simpa using hown, ⟨rfl, rfl, rfl, Nat.le_refl _, fun _ _ _ => rfl⟩⟩
  | some ad =>
    obtain ⟨v', w', q1, q2, q3, _⟩ := run_append_own (P := P) w base t ty e i (.agg z) sz by' ht hi0 hi1.1 hi1.2.1 hi1.2.2 hzs hsz v n xs hown ad ms.length cap (ms.flatMap fun m => (f m).toList) hlen (fun j u hu => by
      have hj : j < ms.length * sz := by
        have := (List.getElem?_eq_some_iff.1 hu).1; rwa [hlen] at this
      have hp : 0 < ms.length := by
        rcases Nat.eq_zero_or_pos ms.length with h | h
        · rw [h] at hj; omega
        · exact h
      obtain ⟨b, off, h2, _, h3⟩ := hc hp; cases h2; have hq : j / sz < ms.length := Nat.div_lt_of_lt_mul (by rw [Nat.mul_comm]; exact hj); have hr2 : j % sz < sz := Nat.mod_lt _ hsz; have hjj : j / sz * sz + j % sz = j := by rw [Nat.mul_comm]; exact Nat.div_add_mod j sz
      have h4 := Qgm f sz hf zz ms (j / sz) (j % sz) hq hr2; rw [hjj, hu] at h4; have h5 := h3 (j / sz) hq (j % sz) u h4.symm; rw [Addr.add_lit]; rw [Nat.add_assoc, hjj] at h5
      exact h5) (fun u hu => by
      obtain ⟨m, hm, hu2⟩ := List.mem_flatMap.1 hu
      exact h1 m hm u hu2) hl hb hbase
    exact ⟨v', w', q1, q2, q3⟩
end Go.Proofs.Ytdjhcbiejpjkmaa
