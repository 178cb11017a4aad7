/-
  Texts that lean on one another, one behind the other: each opens with its own remark.
-/
import Derived.WalkKit
import Derived.ArgAppend
import Derived.Test.YtkgniegdefaieaaProg
import Derived.RegionTactic
import Derived.BigRegion
import Derived.Laws.IdiomCopy
import Derived.WalkSpells
import Derived.Laws.OwnMore
import Derived.OrdersIn
import Derived.OwnWalkIn
import Derived.Deep.RegionHeld3
import Derived.WalkMore
import Derived.Laws.AppendOwn
import Derived.Test.YtkgniegdefaieaaK06
import Derived.Test.YtkgniegdefaieaaK02
import Derived.Test.YtkgniegdefaieaaK04
import Derived.Test.YtkgniegdefaieaaK03
import Derived.Test.YtkgniegdefaieaaK00

namespace Go.Proofs.Ytkgniegdefaieaa
open Go.RowKit
set_option linter.unusedVariables false
set_option maxRecDepth 8000
set_option maxHeartbeats 25600000
theorem find_lt {l : List Rec} {n j : Nat} (h : ∀ i, i < j -> (l.getD i Rec.zero).l ≠ n) (hj : j < l.length) (he : (l.getD j Rec.zero).l = n) : Qst l n = some (l.getD j Rec.zero) := by
  unfold Qst; rw [List.find?_eq_some_iff_getElem]
  refine ⟨by simpa using he, j, hj, ?_, fun i hi => ?_⟩
  · rw [List.getD_eq_getElem?_getD, List.getElem?_eq_getElem hj]; rfl
  · have h1 := h i hi; rw [List.getD_eq_getElem?_getD, List.getElem?_eq_getElem (by omega)] at h1; simpa using h1
theorem find_all {l : List Rec} {n : Nat} (h : ∀ i, i < l.length -> (l.getD i Rec.zero).l ≠ n) : Qst l n = none := by
  refine Qbp fun r hr => ?_
  obtain ⟨i, hi, rfl⟩ := List.mem_iff_getElem.1 hr; have := h i hi; rwa [List.getD_eq_getElem?_getD, List.getElem?_eq_getElem hi] at this
def GetAns15 (l : List Rec) (n : Nat) (w : World) (e : Ending) (w' : World) : Prop := ∃ (m : Rec × Value × Value) (q : Bool), e = .returned (.tuple #[.agg (rcF m), .bool q]) /\ ((q = true /\ Qst l n = some m.1) ∨ (q = false /\ Qst l n = none /\ m.1 = Rec.zero)) /\ m.1.fits /\ Qwb w' m.1 m.2.1 m.2.2 /\ Below w.heap.size w w'
theorem zero_in15 (w : World) : Qwb w Rec.zero (.slice none 0 0) (.slice none 0 0) := ⟨⟨none, 0, rfl, fun h => absurd h (by simp [Rec.zero])⟩, ⟨none, 0, rfl, fun h => absurd h (by simp [Rec.zero])⟩⟩
theorem Qjq : Rec.zero.fits := ⟨⟨by decide, by decide, by decide, by show (0 : Nat) <= maxLen; omega, by show (0 : Nat) <= maxLen; omega⟩, Nat.zero_le _, Nat.zero_le _, fun x hx => (nomatch hx), fun x hx => (nomatch hx)⟩
theorem rcZ_cells : rcF rcZ = Qvc := rfl
theorem rget15 (v : Value) (ms : List (Rec × Value × Value)) (n : Nat) (w : World) (h : LogIn w v ms) :
    Calls Try.prog 39 #[v, .int .u64 (n : Int)] w (GetAns15 (msR ms) n w) := by
  have hb0 : Below w.heap.size w (w.alloc (.cells Qvc 46)) := (Below.refl _ _).alloc (Nat.le_refl _) _; obtain ⟨gR, hgR⟩ : ∃ g, g = w.heap.size := ⟨_, rfl⟩
  have H0 : Hid (Qa (w.alloc (.cells Qvc 46)) gR 46 Qvc /\ Below w.heap.size w (w.alloc (.cells Qvc 46))) := by
    rw [hgR]; exact ⟨Qa.new w _ _, hb0⟩
  clear hb0; have HA := Qb h; obtain ⟨aa, ca, rfl, hlc⟩ := h.slice; have hl := h.few; clear h; obtain ⟨ln, hln⟩ : ∃ ln, ln = ms.length := ⟨_, rfl⟩; rw [<- hln] at HA hl hlc |-; have HN := Qb hln; clear hln; have HGR := Qb hgR; go_enter Try.func39, Try.ntmps39; go_wp2; refine Qyh (fun x => Qa x gR 46 Qvc /\ Below w.heap.size w x) H0.out ?_; intro y HY; have HYY := Qb HY; clear HY H0; rw [<- hgR]; clear hgR; go_loopw [9] (fun i wr => ∃ (j : Nat), j <= ln /\ i = .int .i64 (j : Int) /\ Hid (∀ k, k < j -> ((msR ms).getD k Rec.zero).l ≠ n) /\ Hid (Qa wr gR 46 Qvc /\ Below w.heap.size w wr)) (fun i _ => ln - (intOf i).toNat)
  case atStart => exact ⟨0, Nat.zero_le _, rfl, fun k hk => absurd hk (by omega), HYY.out⟩
  case round =>
    obtain ⟨j, hj, rfl, HNO, HBR⟩ := hrel
    by_cases hlt : j < ln
    · have hjm : j < ms.length := by rw [<- HN.out]; exact hlt
      obtain ⟨b, off, rfl, hf, he, hx⟩ := HA.out.mid hjm; obtain ⟨m, hm⟩ : ∃ m, m = ms.getD j rcZ := ⟨_, rfl⟩; rw [<- hm] at hf hx he; clear hm; have ij : (j : Int) < (ln : Int) := by omega
      obtain ⟨hr0, hin⟩ := hx wr HBR.out.2; have c1 : wr.cell? ⟨b, off + j * 14 + 1, none⟩ = some (.int .u64 (m.1.l : Int)) := hr0 1 _ rfl; have HLD := Qb (Qmf wr b (off + j * 14) m hr0); have hall := all15 hin; have HE := Qb he; have HF := Qb (And.intro hf hx); clear hr0 hx hf he hin
      by_cases hn : m.1.l = n
      · have ibe : ((m.1.l : Int) == (n : Int)) = true := by rw [hn]; simp
        go_wp2_with (first | (refine Qt rfl 46 (.tmp 21) rfl _ _ rfl HLD.out ?_) | (refine Qh rfl 46 (.tmp 4) (.tmp 22) rfl gR Qvc (rcF m) rfl rfl HBR.out.1 Qaa rfl hall ?_; intro w2 hr2 hk2 hrow2; refine Qpa ?_)); have hb2 := hk2 _ _ HBR.out.2 (by rw [HGR.out]; exact Nat.le_refl _); have H2 := Qb (And.intro hr2 hb2); clear hr2 hk2 hrow2 hb2; refine Qg ?_; go_wp2; refine bodyPost_ret (Qyk rfl _ _ gR (rcF m) _ rfl H2.out.1 Try.underlying46 rfl Qaa) rfl ⟨m, true, rfl, .inl ⟨rfl, ?_⟩, HF.out.1, (HF.out.2 w2 H2.out.2).2, H2.out.2⟩; rw [find_lt (j := j) HNO.out (by rw [Qka]; exact hjm) (by rw [<- HE.out]; exact hn), <- HE.out]
      · have ibe : ((m.1.l : Int) == (n : Int)) = false := by simp; omega
        go_wp2; go_roundw
        case rel =>
          refine ⟨j + 1, by omega, by go_num, fun k hk => ?_, HBR⟩
          by_cases hkj : k < j
          · exact HNO.out k hkj
          · obtain rfl : k = j := by omega
            rw [<- HE.out]; exact hn
        case measure => simp [intOf]; omega
    · obtain rfl : j = ln := by omega
      go_wp2_with (refine Qh rfl 46 (.tmp 4) (.tmp 24) rfl gR Qvc Qvc rfl rfl HBR.out.1 Qaa rfl (by simp [Qvc, Value.oneCell']) ?_; intro w2 hr2 hk2 hrow2; refine Qpa ?_); have hb2 := hk2 _ _ HBR.out.2 (by rw [HGR.out]; exact Nat.le_refl _); have H2 := Qb (And.intro hr2 hb2); clear hr2 hk2 hrow2 hb2; refine Qg ?_; go_wp2; refine bodyPost_ret (Qyk rfl _ _ gR Qvc _ rfl H2.out.1 Try.underlying46 rfl Qaa) rfl ⟨rcZ, false, rfl, .inr ⟨rfl, ?_, rfl⟩, Qjq, zero_in15 _, H2.out.2⟩; refine find_all fun i hi => HNO.out i ?_
      rw [Qka] at hi; rw [HN.out]; exact hi
theorem Qnc (a b : List Rec) : Qc (a ++ b) = Qc a ++ Qc b := by simp [Qc]
theorem Qyo (r : Rec) (rs : List Rec) : Qc (r :: rs) = Qoa r ++ Qc rs := by simp [Qc]
theorem Qjh : ∀ (rs : List Rec) (a i : Nat), Qcb a rs -> Qcb a (rs.take i)
  | _, _, 0, _ => by rw [List.take_zero]; trivial
  | [], _, _ + 1, _ => trivial
  | r :: rs, a, i + 1, h => ⟨h.1, h.2.1, Qjh rs r.l i h.2.2⟩
theorem head_nil : (Qla []).2.2 ≠ 0 := by
  unfold Qla; rw [if_pos (.inl (by decide))]; decide
theorem cut_scan (rs : List Rec) (k i : Nat) (hr : Qcb 0 rs) (hi : i <= rs.length) (h1 : (Qc (rs.take i)).length <= k) (h2 : i < rs.length -> k < (Qc (rs.take (i + 1))).length) : Qua ((Qc rs).take k) = (rs.take i, (Qc (rs.take i)).length) := by
  have e1 : Qc rs = Qc (rs.take i) ++ Qc (rs.drop i) := by rw [<- Qnc, List.take_append_drop]
  have e2 : (Qc rs).take k = Qc (rs.take i) ++ (Qc (rs.drop i)).take (k - (Qc (rs.take i)).length) := by
    rw [e1, List.take_append, List.take_of_length_le h1]
  refine scan_end e2 (Qjh rs 0 i hr) (.inl ?_)
  by_cases hlt : i < rs.length
  · have e3 : rs.drop i = rs[i] :: rs.drop (i + 1) := List.drop_eq_getElem_cons hlt; have e4 : Qc (rs.drop i) = Qoa rs[i] ++ Qc (rs.drop (i + 1)) := by rw [e3, Qyo]
    have e5 : rs.take (i + 1) = rs.take i ++ [rs[i]] := by rw [List.take_add_one, List.getElem?_eq_getElem hlt]; rfl
    have h3 := h2 hlt; rw [e5, Qnc, List.length_append] at h3; have e6 : Qc [rs[i]] = Qoa rs[i] := by simp [Qc]
    rw [e6] at h3; have hrr : rs[i].right := Qta rs 0 hr _ (List.getElem_mem hlt); rw [e4, List.take_append_of_le_length (by omega)]
    rw [Qet rs[i] hrr _ _ (List.take_append_drop (k - (Qc (rs.take i)).length) _).symm (fun h => by
      have h5 := congrArg List.length h; rw [List.length_drop] at h5; have h6 : (Qoa rs[i]).length - (k - (Qc (rs.take i)).length) = 0 := h5
      omega)]
    decide
  · have e3 : rs.drop i = [] := List.drop_eq_nil_of_le (by omega); rw [e3]; have e4 : (Qc []).take (k - (Qc (rs.take i)).length) = [] := by simp [Qc]
    rw [e4]; exact head_nil
def Qri : Nat := 4611686018427387904
def topL : Nat := 4611686018427322368
theorem hideL {p : Prop} (h : p) : Hid p := h
def bef (a : Nat) (i : Int) (b : Nat) (j : Int) : Bool := decide (a < b) || (decide (a = b) && decide (i < j))
theorem bef_iff (a b : Nat) (i j : Int) : bef a i b j = true ↔ (a < b ∨ a = b /\ i < j) := by simp [bef]
theorem bef_no (a b : Nat) (i j : Int) : bef a i b j = false ↔ ¬ (a < b ∨ a = b /\ i < j) := by
  rw [<- bef_iff]; simp
def rises : List Nat -> Bool
  | [] => true
  | [_] => true
  | a :: b :: l => decide (a < b) && rises (b :: l)
def full (n f : Nat) (s : Bool) : Bool := decide (Qri <= max n f) || (!s && decide (topL <= max n f))
def nextS (n f : Nat) (s : Bool) : Int × Int := if full n f s then (0, 7) else ((max n f + 1 : Nat), 0)
def nextN (n f : Nat) (s : Bool) : Nat := if full n f s then n else max n f + 1
def IsU (w : World) (a : Option Addr) (len : Nat) (zs : List Nat) : Prop :=
  zs.length = len /\ (∀ z ∈ zs, z < 18446744073709551616) /\ (0 < len -> ∃ b off, a = some ⟨b, off, none⟩ /\ b < w.heap.size /\ ∀ j, j < len -> w.cell? ⟨b, off + j, none⟩ = some (.int .u64 (zs.getD j 0 : Nat)))
theorem IsU.nil (w : World) : IsU w none 0 [] := ⟨rfl, fun _ h => absurd h (by simp), fun h => absurd h (by omega)⟩
theorem IsU.below {w w' : World} {a : Option Addr} {len : Nat} {zs : List Nat} (h : IsU w a len zs) (hb : Below w.heap.size w w') : IsU w' a len zs := by
  refine ⟨h.1, h.2.1, fun hp => ?_⟩; obtain ⟨b, off, ha, hlt, hc⟩ := h.2.2 hp; exact ⟨b, off, ha, Nat.lt_of_lt_of_le hlt hb.size, fun j hj => (hb.cell (p := ⟨b, off + j, none⟩) hlt).trans (hc j hj)⟩
structure Lg where
  t : Tp
  c : Nat
  l : List Rec
  on : Nat
  fa : Nat
  hd : Nat
  du : Nat
def Rec.put (r : Rec) (n : Nat) : Rec := { r with l := n }
def Qzf (rs : List Rec) : ByteArray := ⟨(Qc rs).toArray⟩
theorem Qkj (rs : List Rec) : (Qzf rs).size = (Qc rs).length := by simp [Qzf, ByteArray.size]
theorem Qmq (rs : List Rec) : (Qzf rs).data.toList = Qc rs := by simp [Qzf]
def Lg.used (g : Lg) : Nat := g.t.b.size + (Qc (g.l.drop g.on)).length
def Lg.see (g : Lg) (n : Nat) : Lg := { g with c := max g.c (min n Qri) }
def Lg.open (t : Tp) (base : Nat) : Lg :=
  ⟨(t.chop ((Qua t.b.data.toList).2 : Int)).1.sync, max (max 0 (min base Qri)) (min (Qya 0 (Qua t.b.data.toList).1) Qri), (Qua t.b.data.toList).1, (Qua t.b.data.toList).1.length, (Qua t.b.data.toList).1.length, 0, Qya 0 (Qua t.b.data.toList).1⟩
def Lg.num (g : Lg) (floor : Nat) : Nat := max g.c floor + 1
def Lg.hold (g : Lg) (h : Int) : Nat := (max 0 ((g.hd : Int) + h)).toNat
def Lg.appE (g : Lg) (r : Rec) (floor : Nat) (h : Int) : Int :=
  if r.l ≠ 0 ∨ h < -65536 ∨ 65536 < h then 1
  else if full g.c floor (decide (h < 0)) = true then 7
  else @ite Int (¬ (r.put (g.num floor)).right) (@instDecidableNot _ (r.put (g.num floor)).rightD) 1 (if g.t.m < g.used + (Qoa (r.put (g.num floor))).length + g.hold h then 7 else 0)
def Lg.app (g : Lg) (r : Rec) (floor : Nat) (h : Int) : Lg := if g.appE r floor h = 0 then { g with c := g.num floor, hd := g.hold h, l := g.l ++ [r.put (g.num floor)] } else g
def Lg.appN (g : Lg) (r : Rec) (floor : Nat) (h : Int) : Nat := if g.appE r floor h = 0 then g.num floor else 0
def Lg.write (g : Lg) : Lg := { g with t := (g.t.app (Qzf (g.l.drop g.on))).1, on := g.l.length }
def Lg.sync (g : Lg) : Lg := { g with t := g.t.sync, fa := g.on, du := if 0 < g.on then (g.l.getD (g.on - 1) Rec.zero).l else g.du }
def Qod : List Rec -> Nat -> Nat -> Nat
  | [], _, _ => 0
  | _, 0, _ => 0
  | r :: rs, f + 1, n => if r.l < n then Qod rs f n + 1 else 0
def Lg.trim (g : Lg) (n : Nat) : Lg := { g with t := (g.t.cut ((Qc (g.l.take (Qod g.l g.fa n))).length : Int)).1, l := g.l.drop (Qod g.l g.fa n), on := g.on - Qod g.l g.fa n, fa := g.fa - Qod g.l g.fa n }
def Lg.pend (g : Lg) : Nat := if g.fa = g.l.length then 0 else (g.l.getD g.fa Rec.zero).l
structure Lg.ok (g : Lg) : Prop where
  tok : g.t.ok
  on : g.on <= g.l.length
  fa : g.fa <= g.on
  rise : Qcb 0 g.l
  last : Qya 0 g.l <= g.c
  top : g.c <= Qri
  bytes : g.t.b.data.toList = Qc (g.l.take g.on)
  fast : g.t.f = (Qc (g.l.take g.fa)).length
  room : g.used + g.hd <= g.t.m
  low : ∀ r ∈ g.l.take g.fa, r.l <= g.du
  high : ∀ r ∈ g.l.drop g.fa, g.du < r.l
  du : g.du <= g.c
theorem Qih (l : List Rec) (i : Nat) : Qc l = Qc (l.take i) ++ Qc (l.drop i) := by rw [<- Qnc, List.take_append_drop]
theorem Qyl (l : List Rec) (i : Nat) : (Qc l).length = (Qc (l.take i)).length + (Qc (l.drop i)).length := by
  have h := congrArg List.length (Qih l i); rwa [List.length_append] at h
theorem Qjr (l : List Rec) (i j : Nat) (h : i <= j) : (Qc (l.take i)).length <= (Qc (l.take j)).length := by
  have h1 := Qyl (l.take j) i; rw [List.take_take, Nat.min_eq_left h] at h1; omega
theorem Qyp : ∀ (l : List Rec) (a : Nat), Qcb a l -> a <= Qya a l
  | [], _, _ => Nat.le_refl _
  | r :: rs, a, h => Nat.le_trans (Nat.le_of_lt h.2.1) (Qyp rs r.l h.2.2)
theorem Qej : ∀ (l : List Rec) (a : Nat), Qcb a l -> ∀ r ∈ l, a < r.l /\ r.l <= Qya a l
  | [], _, _, _, h => nomatch h
  | q :: rs, a, h, r, hr => by
    rcases List.mem_cons.1 hr with rfl | hr
    · exact ⟨h.2.1, Qyp rs r.l h.2.2⟩
    · have := Qej rs q.l h.2.2 r hr; exact ⟨Nat.lt_trans h.2.1 this.1, this.2⟩
theorem rise_weak : ∀ (l : List Rec) (a b : Nat), Qcb a l -> b <= a -> Qcb b l
  | [], _, _, _, _ => trivial
  | r :: rs, a, b, h, hb => ⟨h.1, Nat.lt_of_le_of_lt hb h.2.1, h.2.2⟩
theorem Qjg : ∀ (l : List Rec) (a i : Nat), Qcb a l -> Qcb (Qya a (l.take i)) (l.drop i)
  | l, a, 0, h => by rw [List.take_zero, List.drop_zero]; exact h
  | [], _, _ + 1, _ => trivial
  | r :: rs, a, i + 1, h => Qjg rs r.l i h.2.2
theorem Qbk : ∀ (l : List Rec) (a i : Nat), Qya (Qya a (l.take i)) (l.drop i) = Qya a l
  | l, a, 0 => by rw [List.take_zero, List.drop_zero]; rfl
  | [], _, _ + 1 => rfl
  | r :: rs, a, i + 1 => Qbk rs r.l i
theorem last_mono : ∀ (l : List Rec) (a b : Nat), a <= b -> Qya a l <= Qya b l
  | [], _, _, h => h
  | _ :: _, _, _, _ => Nat.le_refl _
theorem Qwn (l : List Rec) (i : Nat) (h : Qcb 0 l) : Qya 0 (l.drop i) <= Qya 0 l := by
  rw [<- Qbk l 0 i]; exact last_mono _ _ _ (Nat.zero_le _)
theorem Qyj : ∀ (l : List Rec) (a i : Nat), i < l.length -> Qya a (l.take (i + 1)) = (l.getD i Rec.zero).l
  | [], _, _, h => absurd h (by simp)
  | r :: rs, a, 0, _ => by simp [Qya]
  | r :: rs, a, i + 1, h => by
    have := Qyj rs r.l i (by simpa using h); simpa [Qya] using this
theorem Qns : ∀ (l : List Rec) (f n : Nat), Qod l f n <= f /\ Qod l f n <= l.length
  | [], f, n => ⟨Nat.zero_le _, Nat.zero_le _⟩
  | r :: rs, 0, n => ⟨Nat.zero_le _, Nat.zero_le _⟩
  | r :: rs, f + 1, n => by
    have := Qns rs f n; unfold Qod
    split
    · simp only [List.length_cons]; omega
    · exact ⟨Nat.zero_le _, Nat.zero_le _⟩
theorem trimK_low : ∀ (l : List Rec) (f n : Nat), ∀ r ∈ l.take (Qod l f n), r.l < n
  | [], f, n, r, h => by simp at h
  | q :: rs, 0, n, r, h => by simp [Qod] at h
  | q :: rs, f + 1, n, r, h => by
    unfold Qod at h
    split at h
    · rename_i hq; rw [List.take_succ_cons] at h
      rcases List.mem_cons.1 h with rfl | h
      · exact hq
      · exact trimK_low rs f n r h
    · simp at h
theorem Qxt : ∀ (l : List Rec) (f n : Nat), Qod l f n < f -> Qod l f n < l.length -> n <= (l.getD (Qod l f n) Rec.zero).l
  | [], f, n, _, h => absurd h (by simp)
  | q :: rs, 0, n, h, _ => absurd h (Nat.not_lt_zero _)
  | q :: rs, f + 1, n, h1, h2 => by
    unfold Qod at h1 h2 |-
    split
    · rename_i hq; rw [if_pos hq] at h1 h2; have := Qxt rs f n (by omega) (by simpa using h2); simpa using this
    · rename_i hq; simp only [List.getD_cons_zero]; omega
theorem Lg.see_ok (g : Lg) (h : g.ok) (n : Nat) : (g.see n).ok :=
  ⟨h.tok, h.on, h.fa, h.rise, by show Qya 0 g.l <= max g.c (min n Qri); have := h.last; omega, by show max g.c (min n Qri) <= Qri; have := h.top; omega, h.bytes, h.fast, h.room, h.low, h.high, by show g.du <= max g.c (min n Qri); have := h.du; omega⟩
theorem few_recs (g : Lg) (h : g.ok) : g.l.length * 6 <= 65536 := by
  have h1 := Qif g.l; have h2 := Qyl g.l g.on; have h3 := congrArg List.length h.bytes; rw [Array.length_toList] at h3; have h4 : g.t.b.data.size = g.t.b.size := rfl; have h5 := h.room; have h6 := h.tok.room; unfold Lg.used at h5; omega
theorem Qqu (bs : List UInt8) : Qcb 0 (Qua bs).1 /\ bs.take (Qua bs).2 = Qc (Qua bs).1 /\ (Qua bs).2 <= bs.length := Qtl _ 0 bs
theorem Qcs : ∀ (l : List Rec) (a : Nat), Qcb a l -> a <= Qri -> Qya a l <= Qri
  | [], _, _, h => h
  | r :: rs, a, h, _ => Qcs rs r.l h.2.2 (by have := h.1.lm; unfold Qtd at this; unfold Qri; omega)
theorem Lg.open_ok (t : Tp) (h : t.ok) (base : Nat) : (Lg.open t base).ok := by
  obtain ⟨h1, h2, h3⟩ := Qqu t.b.data.toList; have hl := Qcs _ 0 h1 (Nat.zero_le _); have hsz : t.b.data.toList.length = t.b.size := by rw [Array.length_toList]; rfl
  have hc : t.chop ((Qua t.b.data.toList).2 : Int) = ({ t with b := t.b.extract 0 (Qua t.b.data.toList).2, f := min t.f (Qua t.b.data.toList).2 }, 0) := by
    unfold Tp.chop; rw [if_neg (by omega)]; simp
  have hz : (t.b.extract 0 (Qua t.b.data.toList).2).size = (Qua t.b.data.toList).2 := by rw [ByteArray.size_extract]; omega
  have hd : (t.b.extract 0 (Qua t.b.data.toList).2).data.toList = Qc (Qua t.b.data.toList).1 := by
    have e := Qkh t.b 0 (Qua t.b.data.toList).2 (by omega); rw [Nat.zero_add] at e; rw [e, <- h2]; simp
  have hlen : (Qc (Qua t.b.data.toList).1).length = (Qua t.b.data.toList).2 := by
    rw [<- h2, List.length_take]; omega
  have hco := t.chop_ok h ((Qua t.b.data.toList).2 : Int); rw [hc] at hco; unfold Lg.open; rw [hc]
  refine ⟨Tp.sync_ok _ hco, Nat.le_refl _, Nat.le_refl _, h1, ?_, ?_, ?_, ?_, ?_, ?_, ?_, ?_⟩
  · show Qya 0 (Qua t.b.data.toList).1 <= max (max 0 (min base Qri)) (min (Qya 0 (Qua t.b.data.toList).1) Qri); omega
  · show max (max 0 (min base Qri)) _ <= Qri; omega
  · show (t.b.extract 0 (Qua t.b.data.toList).2).data.toList = Qc ((Qua t.b.data.toList).1.take (Qua t.b.data.toList).1.length); rw [List.take_length, hd]
  · show (t.b.extract 0 (Qua t.b.data.toList).2).size = (Qc ((Qua t.b.data.toList).1.take (Qua t.b.data.toList).1.length)).length; rw [List.take_length, hz, hlen]
  · show (t.b.extract 0 (Qua t.b.data.toList).2).size + (Qc ((Qua t.b.data.toList).1.drop (Qua t.b.data.toList).1.length)).length + 0 <= t.m; rw [List.drop_length, hz]; have := h.few; simp [Qc]; omega
  · intro r hr; rw [List.take_length] at hr; exact (Qej _ 0 h1 r hr).2
  · intro r hr; rw [List.drop_length] at hr; nomatch hr
  · show Qya 0 (Qua t.b.data.toList).1 <= max (max 0 (min base Qri)) (min (Qya 0 (Qua t.b.data.toList).1) Qri); omega
theorem Lg.app_no (g : Lg) (r : Rec) (f : Nat) (h : Int) (he : g.appE r f h ≠ 0) : g.app r f h = g /\ g.appN r f h = 0 := by
  unfold Lg.app Lg.appN; rw [if_neg he, if_neg he]; exact ⟨rfl, rfl⟩
theorem Lg.app_yes (g : Lg) (r : Rec) (f : Nat) (h : Int) (he : g.appE r f h = 0) : g.app r f h = { g with c := g.num f, hd := g.hold h, l := g.l ++ [r.put (g.num f)] } /\ g.appN r f h = g.num f := by
  unfold Lg.app Lg.appN; rw [if_pos he, if_pos he]; exact ⟨rfl, rfl⟩
theorem Lg.appE_ok (g : Lg) (r : Rec) (f : Nat) (h : Int) (he : g.appE r f h = 0) : r.l = 0 /\ -65536 <= h /\ h <= 65536 /\ full g.c f (decide (h < 0)) = false /\ (r.put (g.num f)).right /\ g.used + (Qoa (r.put (g.num f))).length + g.hold h <= g.t.m := by
  unfold Lg.appE at he
  split at he
  · omega
  split at he
  · omega
  split at he
  · omega
  split at he
  · omega
  rename_i h1 h2 h3 h4; have h3' := Classical.not_not.1 h3; refine ⟨by omega, by omega, by omega, by simpa using h2, h3', by omega⟩
theorem Qqt (r : Rec) : Qc [r] = Qoa r := by simp [Qc]
theorem Lg.app_ok (g : Lg) (hg : g.ok) (r : Rec) (f : Nat) (h : Int) : (g.app r f h).ok := by
  by_cases he : g.appE r f h = 0
  · rw [(g.app_yes r f h he).1]; obtain ⟨h1, h2, h3, h4, h5, h6⟩ := g.appE_ok r f h he; have hon := hg.on; have hfa := hg.fa; have hnl : (r.put (g.num f)).l = g.num f := rfl
    have htop : g.num f <= Qri := by
      have := h5.lm; rw [hnl] at this; unfold Qtd at this; unfold Qri; omega
    have hnum : g.c < g.num f := by unfold Lg.num; omega
    have hlast := hg.last
    refine ⟨hg.tok, ?_, hg.fa, ?_, ?_, htop, ?_, ?_, ?_, ?_, ?_, ?_⟩
    · show g.on <= (g.l ++ [_]).length; rw [List.length_append]; omega
    · show Qcb 0 (g.l ++ [_]); rw [Qcc]; exact ⟨hg.rise, h5, by rw [hnl]; omega⟩
    · show Qya 0 (g.l ++ [_]) <= g.num f; rw [Qgh, hnl]; exact Nat.le_refl _
    · show g.t.b.data.toList = Qc ((g.l ++ [_]).take g.on); rw [List.take_append_of_le_length hon]; exact hg.bytes
    · show g.t.f = (Qc ((g.l ++ [_]).take g.fa)).length; rw [List.take_append_of_le_length (by omega)]; exact hg.fast
    · show g.t.b.size + (Qc ((g.l ++ [_]).drop g.on)).length + g.hold h <= g.t.m; rw [List.drop_append_of_le_length hon, Qnc, List.length_append, Qqt]; unfold Lg.used at h6; omega
    · intro q hq; have hq' : q ∈ (g.l ++ [r.put (g.num f)]).take g.fa := hq; rw [List.take_append_of_le_length (by omega)] at hq'; exact hg.low q hq'
    · intro q hq; have hq' : q ∈ (g.l ++ [r.put (g.num f)]).drop g.fa := hq; rw [List.drop_append_of_le_length (by omega)] at hq'
      rcases List.mem_append.1 hq' with hq' | hq'
      · exact hg.high q hq'
      · rw [List.mem_singleton.1 hq', hnl]; exact Nat.lt_of_le_of_lt hg.du hnum
    · exact Nat.le_trans hg.du (Nat.le_of_lt hnum)
  · rw [(g.app_no r f h he).1]; exact hg
theorem Lg.write_app (g : Lg) (hg : g.ok) : g.t.app (Qzf (g.l.drop g.on)) = ({ g.t with b := g.t.b ++ Qzf (g.l.drop g.on) }, 0) := by
  have h1 := hg.room; unfold Lg.used at h1; unfold Tp.app; rw [Qkj, if_neg (by omega)]
theorem data_append (a b : ByteArray) : (a ++ b).data.toList = a.data.toList ++ b.data.toList := by
  rw [ByteArray.data_append, Array.toList_append]
theorem Lg.write_ok (g : Lg) (hg : g.ok) : g.write.ok := by
  have ht := g.t.app_ok hg.tok (Qzf (g.l.drop g.on)); have e := g.write_app hg; have h1 := hg.room; unfold Lg.used at h1; unfold Lg.write; rw [e] at ht |-
  refine ⟨ht, Nat.le_refl _, Nat.le_trans hg.fa hg.on, hg.rise, hg.last, hg.top, ?_, hg.fast, ?_, hg.low, hg.high, hg.du⟩
  · show (g.t.b ++ Qzf (g.l.drop g.on)).data.toList = Qc (g.l.take g.l.length); rw [data_append, Qmq, hg.bytes, List.take_length, <- Qih]
  · show (g.t.b ++ Qzf (g.l.drop g.on)).size + (Qc (g.l.drop g.l.length)).length + g.hd <= g.t.m; rw [ByteArray.size_append, Qkj, List.drop_length]; have h0 : (Qc []).length = 0 := rfl; rw [h0]; omega
theorem Lg.sync_ok (g : Lg) (hg : g.ok) : g.sync.ok := by
  have hb := congrArg List.length hg.bytes; rw [Array.length_toList] at hb
  have hdu : ∀ r ∈ g.l.take g.on, r.l <= g.sync.du := by
    intro r hr
    have h0 : 0 < g.on := by
      rcases Nat.eq_zero_or_pos g.on with h | h
      · rw [h] at hr; simp at hr
      · exact h
    have hm := (Qej _ 0 (Qjh g.l 0 g.on hg.rise) r hr).2; have e := Qyj g.l 0 (g.on - 1) (by have := hg.on; omega); rw [Nat.sub_add_cancel h0] at e; show r.l <= if 0 < g.on then (g.l.getD (g.on - 1) Rec.zero).l else g.du
    rw [if_pos h0, <- e]; exact hm
  have hlast : g.sync.du <= Qya 0 (g.l.take g.on) ∨ g.sync.du = g.du /\ g.on = 0 := by
    show (if 0 < g.on then (g.l.getD (g.on - 1) Rec.zero).l else g.du) <= _ ∨ _
    by_cases h0 : 0 < g.on
    · have e := Qyj g.l 0 (g.on - 1) (by have := hg.on; omega); rw [Nat.sub_add_cancel h0] at e; rw [if_pos h0, <- e]; exact .inl (Nat.le_refl _)
    · refine .inr ⟨?_, by omega⟩; show (if 0 < g.on then (g.l.getD (g.on - 1) Rec.zero).l else g.du) = g.du; rw [if_neg h0]
  refine ⟨g.t.sync_ok hg.tok, hg.on, Nat.le_refl _, hg.rise, hg.last, hg.top, hg.bytes, ?_, hg.room, hdu, ?_, ?_⟩
  · show g.t.b.size = (Qc (g.l.take g.on)).length; exact hb
  · intro r hr; have hr' : r ∈ g.l.drop g.on := hr
    rcases hlast with h | ⟨h, h0⟩
    · have := (Qej _ _ (Qjg g.l 0 g.on hg.rise) r hr').1; omega
    · rw [h]; have hf := hg.fa; exact hg.high r (by rw [show g.fa = 0 by omega, List.drop_zero]; rw [h0, List.drop_zero] at hr'; exact hr')
  · show g.sync.du <= g.c
    rcases hlast with h | ⟨h, _⟩
    · have h1 := Qbk g.l 0 g.on; have h2 := Qyp _ _ (Qjg g.l 0 g.on hg.rise); have h3 := hg.last; omega
    · rw [h]; exact hg.du
theorem Lg.trim_k (g : Lg) (hg : g.ok) (n : Nat) : Qod g.l g.fa n <= g.fa /\ (Qc (g.l.take (Qod g.l g.fa n))).length <= g.t.f := by
  have h := (Qns g.l g.fa n).1; exact ⟨h, by rw [hg.fast]; exact Qjr g.l _ _ h⟩
theorem Lg.trim_cut (g : Lg) (hg : g.ok) (n : Nat) : g.t.cut ((Qc (g.l.take (Qod g.l g.fa n))).length : Int) = (⟨g.t.b.extract (Qc (g.l.take (Qod g.l g.fa n))).length g.t.b.size, g.t.f - (Qc (g.l.take (Qod g.l g.fa n))).length, g.t.m, (g.t.s + (Qc (g.l.take (Qod g.l g.fa n))).length) % 18446744073709551616⟩, 0) := by
  have h := (g.trim_k hg n).2; unfold Tp.cut; rw [if_neg (by omega)]; simp
theorem Lg.trim_ok (g : Lg) (hg : g.ok) (n : Nat) : (g.trim n).ok := by
  have hc := g.t.cut_ok hg.tok ((Qc (g.l.take (Qod g.l g.fa n))).length : Int); have e := g.trim_cut hg n; obtain ⟨hk, hkf⟩ := g.trim_k hg n; have hon := hg.on; have hfa := hg.fa; have hff := hg.tok.fast; unfold Lg.trim; rw [e] at hc |-; generalize Qod g.l g.fa n = k at *; have hb : g.t.b.data.toList.length = g.t.b.size := by rw [Array.length_toList]; rfl
  have htk : ∀ j, k <= j -> (g.l.drop k).take (j - k) = (g.l.take j).drop k := fun j hj => by rw [List.drop_take]
  have hsplit : ∀ j, k <= j -> Qc (g.l.take j) = Qc (g.l.take k) ++ Qc ((g.l.take j).drop k) := fun j hj => by
    have := Qih (g.l.take j) k; rwa [List.take_take, Nat.min_eq_left hj] at this
  have hdat : (g.t.b.extract (Qc (g.l.take k)).length g.t.b.size).data.toList = Qc ((g.l.take g.on).drop k) := by
    have e2 := Qkh g.t.b (Qc (g.l.take k)).length (g.t.b.size - (Qc (g.l.take k)).length) (by omega); rw [show (Qc (g.l.take k)).length + (g.t.b.size - (Qc (g.l.take k)).length) = g.t.b.size by omega] at e2; rw [e2]; simp only; rw [List.take_of_length_le (by rw [List.length_drop]; omega), hg.bytes, hsplit g.on (by omega), List.drop_left' rfl]
  have hsz : (g.t.b.extract (Qc (g.l.take k)).length g.t.b.size).size = g.t.b.size - (Qc (g.l.take k)).length := by rw [ByteArray.size_extract]; omega
  refine ⟨hc, ?_, ?_, ?_, ?_, hg.top, ?_, ?_, ?_, ?_, ?_, hg.du⟩
  · show g.on - k <= (g.l.drop k).length; rw [List.length_drop]; omega
  · show g.fa - k <= g.on - k; omega
  · exact rise_weak _ _ 0 (Qjg g.l 0 k hg.rise) (Nat.zero_le _)
  · exact Nat.le_trans (Qwn g.l k hg.rise) hg.last
  · show _ = Qc ((g.l.drop k).take (g.on - k)); rw [hdat, htk g.on (by omega)]
  · show g.t.f - (Qc (g.l.take k)).length = (Qc ((g.l.drop k).take (g.fa - k))).length; rw [htk g.fa hk, hg.fast, hsplit g.fa hk, List.length_append]; omega
  · show (g.t.b.extract (Qc (g.l.take k)).length g.t.b.size).size + (Qc ((g.l.drop k).drop (g.on - k))).length + g.hd <= g.t.m; rw [hsz, List.drop_drop, show k + (g.on - k) = g.on by omega]; have := hg.room; unfold Lg.used at this; omega
  · intro r hr; have hr' : r ∈ (g.l.drop k).take (g.fa - k) := hr; rw [htk g.fa hk] at hr'; exact hg.low r (List.mem_of_mem_drop hr')
  · intro r hr; have hr' : r ∈ (g.l.drop k).drop (g.fa - k) := hr; rw [List.drop_drop, show k + (g.fa - k) = g.fa by omega] at hr'; exact hg.high r hr'
theorem Qmi.first {w : World} {a : Option Addr} {len cap i : Nat} {ms : List (Rec × Value × Value)} (h : Qmi w (.slice a len cap) ms) (hi : i <= ms.length) : Qmi w (.slice a i cap) (ms.take i) := by
  have hl : (ms.take i).length = i := by rw [List.length_take, Nat.min_eq_left hi]
  obtain ⟨⟨a', cap', h1, h2⟩, h3⟩ := h; injection h1 with e1 e2 e3; subst e1 e3; refine ⟨⟨a, cap, by rw [hl], fun hp => ?_⟩, fun m hm => h3 m (List.mem_of_mem_take hm)⟩; rw [hl] at hp; obtain ⟨b, off, h4, h5, h6⟩ := h2 (by omega); refine ⟨b, off, h4, h5, fun j hj => ?_⟩; rw [hl] at hj
  have e : (ms.take i).getD j rcZ = ms.getD j rcZ := by
    rw [List.getD_eq_getElem?_getD, List.getD_eq_getElem?_getD, List.getElem?_take, if_pos hj]
  rw [e]; exact h6 j (by omega)
theorem Qmi.empty (w : World) (a : Option Addr) (cap : Nat) : Qmi w (.slice a 0 cap) [] := ⟨⟨a, cap, rfl, fun h => absurd h (by simp)⟩, fun m hm => (nomatch hm)⟩
theorem Qmi.rest {w : World} {b off len cap i : Nat} {ms : List (Rec × Value × Value)} (h : Qmi w (.slice (some ⟨b, off, none⟩) len cap) ms) (hi : i <= ms.length) (k c : Nat) (hk : k = len - i) : Qmi w (.slice (some ⟨b, off + i * 14, none⟩) k c) (ms.drop i) := by
  obtain ⟨⟨a', cap', h1, h2⟩, h3⟩ := h; injection h1 with e1 e2 e3; subst e1; have hl : (ms.drop i).length = k := by rw [List.length_drop, hk, e2]
  refine ⟨⟨_, c, by rw [hl], fun hp => ?_⟩, fun m hm => h3 m (List.mem_of_mem_drop hm)⟩; rw [List.length_drop] at hp; obtain ⟨b', off', h4, h5, h6⟩ := h2 (by omega); injection h4 with h7; injection h7 with h8 h9; subst h8 h9; refine ⟨b, off + i * 14, rfl, h5, fun j hj => ?_⟩; rw [List.length_drop] at hj
  have e : (ms.drop i).getD j rcZ = ms.getD (i + j) rcZ := by
    rw [List.getD_eq_getElem?_getD, List.getD_eq_getElem?_getD, List.getElem?_drop]
  have e4 : off + i * 14 + j * 14 = off + (i + j) * 14 := by omega
  rw [e, e4]; exact h6 (i + j) (by omega)
def Safe (B : Nat) (w : World) (b : Nat) : Prop := b < w.heap.size /\ (b < B ∨ ∃ t cs, (t = 42 ∨ t = 81) /\ Qa w b t cs)
def Qpu (B : Nat) (w : World) (F : Nat -> Prop) : Prop := ∀ k, F k -> B <= k /\ k < w.heap.size /\ ∀ t cs, Qa w k t cs -> t ≠ 42 /\ t ≠ 81
theorem Safe.not {B b : Nat} {w : World} {F : Nat -> Prop} (h : Safe B w b) (hl : Qpu B w F) : ¬ F b := fun hf => by
  obtain ⟨h1, h2, h3⟩ := hl b hf
  rcases h.2 with h4 | ⟨t, cs, h4, h5⟩
  · omega
  · have := h3 t cs h5
    rcases h4 with h4 | h4
    · exact this.1 h4
    · exact this.2 h4
theorem Safe.keep {B b : Nat} {w x : World} {F : Nat -> Prop} (h : Safe B w b) (hl : Qpu B w F) (p : Tn F w x) : Safe B x b := by
  have hn := h.not hl; refine ⟨Nat.lt_of_lt_of_le h.1 p.size, ?_⟩
  rcases h.2 with h4 | ⟨t, cs, h4, h5⟩
  · exact .inl h4
  · exact .inr ⟨t, cs, h4, p.row h5 hn⟩
def Qbs (G : Nat -> Prop) (v : Value) : Prop := ∀ b off n c, v = .slice (some ⟨b, off, none⟩) n c -> 0 < n -> G b
theorem Qbo {α : Type} {f : α -> Array Value} {z : α} {n : Nat} {w x : World} {v : Value} {xs : List α} (h : Qbd f z n w v xs) (hs : ∀ b off m c, v = .slice (some ⟨b, off, none⟩) m c -> 0 < m -> x.heap[b]? = w.heap[b]?) (hz : w.heap.size <= x.heap.size) : Qbd f z n x v xs := by
  obtain ⟨a, cap, rfl, h2⟩ := h; refine ⟨a, cap, rfl, fun hp => ?_⟩; obtain ⟨b, off, rfl, h4, h5⟩ := h2 hp; have hk := hs b off _ _ rfl hp; exact ⟨b, off, rfl, Nat.lt_of_lt_of_le h4 hz, fun i hi j u hu => (World.cell?_of_block (a := ⟨b, off + i * n + j, none⟩) hk).trans (h5 i hi j u hu)⟩
structure RcK (B : Nat) (w : World) (r : Rec) (va vb : Value) : Prop where
  rc : Qwb w r va vb
  tx : Qbs (Safe B w) va
  di : Qbs (Safe B w) vb
theorem RcK.keep {B : Nat} {w x : World} {F : Nat -> Prop} {r : Rec} {va vb : Value} (h : RcK B w r va vb) (hl : Qpu B w F) (p : Tn F w x) : RcK B x r va vb :=
  ⟨⟨Qbo h.rc.1 (fun b off m c e hm => p.block b (h.tx b off m c e hm).1 ((h.tx b off m c e hm).not hl)) p.size, Qbo h.rc.2 (fun b off m c e hm => p.block b (h.di b off m c e hm).1 ((h.di b off m c e hm).not hl)) p.size⟩,
    fun b off m c e hm => (h.tx b off m c e hm).keep hl p, fun b off m c e hm => (h.di b off m c e hm).keep hl p⟩
theorem Qrl (B : Nat) (w : World) : Qpu B w (fun _ => False) := fun k h => h.elim
theorem RcK.later {B : Nat} {w x : World} {r : Rec} {va vb : Value} (h : RcK B w r va vb) (p : Below w.heap.size w x) : RcK B x r va vb := h.keep (Qrl B w) (Tn.of_below p)
theorem RcK.first {w x : World} {r : Rec} {va vb : Value} (h : Qwb w r va vb) (p : Below w.heap.size w x) : RcK w.heap.size x r va vb := by
  have lies : ∀ {α : Type} {f : α -> Array Value} {z : α} {n : Nat} {v : Value} {xs : List α}, Qbd f z n w v xs -> Qbs (Safe w.heap.size x) v := by
    intro α f z n v xs h b off m c e hm; obtain ⟨a, cap, rfl, h2⟩ := h; injection e with e1 e2 e3; obtain ⟨b', off', h3, h4, _⟩ := h2 (by omega); rw [e1] at h3; injection h3 with h3; injection h3 with h3; subst h3; exact ⟨Nat.lt_of_lt_of_le h4 p.size, .inl h4⟩
  exact ⟨h.below p, lies h.1, lies h.2⟩
theorem RcK.got {B base : Nat} {w : World} {r : Rec} {va vb : Value} (h : Qyg base w r va vb) : RcK B w r va vb := by
  have lies : ∀ {e : TypeId} {sz n : Nat} {v : Value} {xs : List Value}, (e = 42 ∨ e = 81) -> w.ownsRow base e sz v n xs -> Qbs (Safe B w) v := by
    intro e sz n v xs he h b off m c ev hm
    rcases h.2 with ⟨h1, _⟩ | ⟨g, cap, cur, h1, _, h2, _⟩
    · rw [h1] at ev; cases ev
    · rw [h1] at ev; injection ev with ev; injection ev with ev; injection ev with ev; subst ev; exact ⟨(Array.getElem?_eq_some_iff.1 h2).1, .inr ⟨e, cur, he, h2⟩⟩
  exact ⟨h.rc, lies (.inl rfl) h.1, lies (.inr rfl) h.2⟩
abbrev Rm := Rec × Value × Value
def RB (B : Nat) (w : World) (a : Option Addr) (cap : Nat) (ms : List Rm) : Prop :=
  ((a = none /\ ms = [] /\ cap = 0) ∨ ∃ b off cs, a = some ⟨b, off, none⟩ /\ B <= b /\ Qa w b 46 cs /\ off + cap * 14 <= cs.size /\ ms.length <= cap /\ ∀ i, i < ms.length -> w.rangeAt b (off + i * 14) (rcF (ms.getD i rcZ)).toList) /\
  ∀ m ∈ ms, m.1.fits /\ RcK B w m.1 m.2.1 m.2.2
def blk (a : Option Addr) (k : Nat) : Prop := ∃ off, a = some ⟨k, off, none⟩
theorem RB.rs {B : Nat} {w : World} {a : Option Addr} {cap : Nat} {ms : List Rm} (h : RB B w a cap ms) : Qmi w (.slice a ms.length cap) ms := by
  refine ⟨⟨a, cap, rfl, fun hp => ?_⟩, fun m hm => ⟨(h.2 m hm).1, (h.2 m hm).2.rc⟩⟩
  rcases h.1 with ⟨_, rfl, _⟩ | ⟨b, off, cs, rfl, _, h2, _, _, h5⟩
  · exact absurd hp (by simp)
  · exact ⟨b, off, rfl, h2.lt, h5⟩
theorem RB.cap {B : Nat} {w : World} {a : Option Addr} {cap : Nat} {ms : List Rm} (h : RB B w a cap ms) : ms.length <= cap := by
  rcases h.1 with ⟨_, rfl, _⟩ | ⟨_, _, _, _, _, _, _, h4, _⟩
  · exact Nat.zero_le _
  · exact h4
theorem RB.nil (B : Nat) (w : World) : RB B w none 0 [] := ⟨.inl ⟨rfl, rfl, rfl⟩, fun m hm => nomatch hm⟩
theorem RB.keep {B : Nat} {w x : World} {F : Nat -> Prop} {a : Option Addr} {cap : Nat} {ms : List Rm} (h : RB B w a cap ms) (hl : Qpu B w F) (p : Tn F w x) (hn : ∀ k, blk a k -> ¬ F k) : RB B x a cap ms := by
  refine ⟨?_, fun m hm => ⟨(h.2 m hm).1, (h.2 m hm).2.keep hl p⟩⟩
  rcases h.1 with h1 | ⟨b, off, cs, rfl, h1, h2, h3, h4, h5⟩
  · exact .inl h1
  · have hb := p.block b h2.lt (hn b ⟨off, rfl⟩); exact .inr ⟨b, off, cs, rfl, h1, hb.trans h2, h3, h4, fun i hi j u hu => (World.cell?_of_block (a := ⟨b, off + i * 14 + j, none⟩) hb).trans (h5 i hi j u hu)⟩
theorem RB.later {B : Nat} {w x : World} {a : Option Addr} {cap : Nat} {ms : List Rm} (h : RB B w a cap ms) (p : Below w.heap.size w x) : RB B x a cap ms := h.keep (Qrl B w) (Tn.of_below p) (fun _ _ h => h)
theorem RB.drop {B : Nat} {w : World} {b off cap : Nat} {ms : List Rm} (h : RB B w (some ⟨b, off, none⟩) cap ms) (k : Nat) (hk : k <= ms.length) (hc : ¬ cap = k) : RB B w (some ⟨b, off + k * 14, none⟩) (cap - k) (ms.drop k) := by
  refine ⟨?_, fun m hm => h.2 m (List.mem_of_mem_drop hm)⟩
  rcases h.1 with ⟨h1, _⟩ | ⟨b', off', cs, h1, h2, h3, h4, h5, h6⟩
  · cases h1
  · injection h1 with h1; injection h1 with h1 h7; subst h1 h7; refine .inr ⟨b, off + k * 14, cs, rfl, h2, h3, by omega, by rw [List.length_drop]; omega, fun i hi => ?_⟩; rw [List.length_drop] at hi
    have e : (ms.drop k).getD i rcZ = ms.getD (k + i) rcZ := by
      rw [List.getD_eq_getElem?_getD, List.getD_eq_getElem?_getD, List.getElem?_drop]
    rw [e, show off + k * 14 + i * 14 = off + (k + i) * 14 by omega]; exact h6 (k + i) (by omega)
theorem RB.drop_all {B : Nat} {w : World} {a : Option Addr} {cap : Nat} {ms : List Rm} (h : RB B w a cap ms) : RB B w a 0 [] := by
  refine ⟨?_, fun m hm => nomatch hm⟩
  rcases h.1 with ⟨h1, _, _⟩ | ⟨b, off, cs, h1, h2, h3, h4, h5, h6⟩
  · exact .inl ⟨h1, rfl, rfl⟩
  · exact .inr ⟨b, off, cs, h1, h2, h3, by omega, Nat.zero_le _, fun i hi => absurd hi (by simp)⟩
theorem RB.own {B base : Nat} {w : World} {v : Value} {ms : List Rm} (hB : B <= base) (ho : w.ownsRow base 46 14 v ms.length (Qjd ms)) (hg : ∀ m ∈ ms, m.1.fits /\ Qyg base w m.1 m.2.1 m.2.2) : ∃ a cap, v = .slice a ms.length cap /\ RB B w a cap ms /\ ∀ k, blk a k -> base <= k := by
  have hs := Qmi.own ho hg
  rcases ho.2 with ⟨rfl, h0⟩ | ⟨g, cap, cur, rfl, h1, h2, h3, h4, h5, h6⟩
  · obtain rfl := List.eq_nil_of_length_eq_zero h0; exact ⟨none, 0, rfl, RB.nil B w, fun k hk => by obtain ⟨_, h⟩ := hk; cases h⟩
  · refine ⟨_, cap, rfl, ⟨.inr ⟨g, 0, cur, rfl, Nat.le_trans hB h1, h2, by omega, h3, fun i hi => ?_⟩, fun m hm => ⟨(hg m hm).1, RcK.got (hg m hm).2⟩⟩, fun k hk => by
      obtain ⟨_, h⟩ := hk; injection h with h; injection h with h
      omega⟩
    obtain ⟨b, off, e, _, h8, _⟩ := hs.at hi; injection e with e; injection e with e1 e2; subst e1 e2; exact h8
structure Turn (g h : Nat) (w w' : World) : Prop where
  os : w'.os = w.os
  tape : w'.tape = w.tape
  output : w'.output = w.output
  size : w.heap.size <= w'.heap.size
  block : ∀ k, k < w.heap.size -> k ≠ g -> k ≠ h -> w'.heap[k]? = w.heap[k]?
theorem Turn.refl (g h : Nat) (w : World) : Turn g h w w := ⟨rfl, rfl, rfl, Nat.le_refl _, fun _ _ _ _ => rfl⟩
theorem Turn.trans {g h : Nat} {w x y : World} (p : Turn g h w x) (q : Turn g h x y) : Turn g h w y :=
  ⟨q.os.trans p.os, q.tape.trans p.tape, q.output.trans p.output, Nat.le_trans p.size q.size, fun i hi h1 h2 => (q.block i (Nat.lt_of_lt_of_le hi p.size) h1 h2).trans (p.block i hi h1 h2)⟩
theorem Turn.set {g h : Nat} {w x : World} (p : Turn g h w x) (j : Nat) (v : Value) : Turn g h w (x.setCell ⟨g, j, none⟩ v) :=
  ⟨p.os, p.tape, p.output, Nat.le_trans p.size ((Below.refl 0 x).setCell (Nat.zero_le _) v).size, fun i hi h1 h2 => (heap_setCell_other x ⟨g, j, none⟩ i v h1).trans (p.block i hi h1 h2)⟩
theorem Turn.drew {g h : Nat} {w x : World} (p : Turn g h w x) : Turn g h w x.drew := ⟨p.os, p.tape, p.output, p.size, p.block⟩
theorem Turn.below {g h n : Nat} {w x : World} (p : Turn g h w x) (h1 : n <= g) (h2 : n <= h) (hs : n <= w.heap.size) : Below n w x :=
  ⟨p.os, p.tape, p.output, p.size, fun i hi => p.block i (by omega) (by omega) (by omega)⟩
theorem Turn.of_below {g h : Nat} {w x : World} (p : Below w.heap.size w x) : Turn g h w x := ⟨p.os, p.tape, p.output, p.size, fun i hi _ _ => p.block i hi⟩
theorem Turn.row {g h k : Nat} {w x : World} {t : TypeId} {cs : Array Value} (p : Turn g h w x) (hr : Qa w k t cs) (h1 : k ≠ g) (h2 : k ≠ h) : Qa x k t cs := (p.block k hr.lt h1 h2).trans hr
theorem Turn.grown {g h : Nat} {w x y : World} {row : Option Nat} (p : Turn g h w x) (q : x.grownBy y row) (hr : ∀ k, row = some k -> k = h ∨ w.heap.size <= k) : Turn g h w y :=
  ⟨q.os.trans p.os, q.tape.trans p.tape, q.output.trans p.output, Nat.le_trans p.size q.size, fun i hi h1 h2 => (q.block i (Nat.lt_of_lt_of_le hi p.size) (fun e => by
    rcases hr i e.symm with h3 | h3
    · exact h2 h3
    · omega)).trans (p.block i hi h1 h2)⟩
theorem row_apart {w : World} {g k : Nat} {t u : TypeId} {cs ds : Array Value} (h : Qa w g t cs) (h2 : w.heap[k]? = some (.cells ds u (0, 0))) (hne : t ≠ u) : g ≠ k := by
  intro e; subst e; have h3 : w.heap[g]? = some (.cells cs t (0, 0)) := h; rw [h3] at h2; injection h2 with h2; injection h2 with _ h4; exact hne h4
abbrev LogAt := Nat -> Nat -> World -> (Nat -> Prop) -> Lg -> Prop
def Aft (LA : LogAt) (gt gl : Nat) (x : World) (F : Nat -> Prop) (g : Lg) (x' : World) : Prop := ∃ F', LA gt gl x' F' g /\ Tn F x x' /\ ∀ k, F' k -> F k ∨ x.heap.size <= k
def Lg.get (g : Lg) (n : Nat) : Rec × Bool := match g.l.find? (fun r => decide (r.l = n)) with
  | some r => (r, true)
  | none => (Rec.zero, false)
theorem Qcg {α : Type} (f : α -> Array Value) (n : Nat) (hf : ∀ x, (f x).size = n) : ∀ xs : List α, (xs.flatMap fun x => (f x).toList).length = xs.length * n
  | [] => by simp
  | x :: xs => by rw [List.flatMap_cons, List.length_append, Qcg f n hf xs, Array.length_toList, hf, List.length_cons, Nat.add_mul, Nat.one_mul, Nat.add_comm]
theorem step_append_run {P : Program} {ops : Array Oper} {o : Oper} {a : Act} {w : World} {K : Act -> World -> Prop} {Q : Exit -> Act -> World -> Prop} {E : Prop}
    (hg : o.guard = none) (d x : Operand) (t u : TypeId) (hop : o.op = Op.call { callee := Callee.builtin Builtin.append, args := #[d, x], argTypes := #[t, u] })
    (vd vx v' : Value) (w' : World) (hs : a.eval d = vd) (hx : a.eval x = vx) (hrun : (Builtin.append_ #[t, u] o.type #[vd, vx]).run P w = .ok v' w') (hK : K (a.put o.dst v') w') :
    if Region.wanted o (yielded ops a.tmps) = true then Oper.wp P o a w K Q else E := by
  have hw : Region.wanted o (yielded ops a.tmps) = true := by simp [Region.wanted, hg]
  rw [if_pos hw]; unfold Oper.wp; simp [execOp, hop, resolve, invoke, builtin, hs, hx, hrun, Result.andThen]; exact hK
theorem Qfi : ∀ (vs : List Value) (o : Nat) (w : World) (b : Nat) (t : TypeId) (cs : Array Value), Qa w b t cs -> ∃ ds, Qa (w.setCells b o vs) b t ds /\ ds.size = cs.size
  | [], _, w, b, t, cs, h => ⟨cs, h, rfl⟩
  | v :: vs, o, w, b, t, cs, h => by
    obtain ⟨ds, h1, h2⟩ := Qfi vs (o + 1) (w.setCell ⟨b, o, none⟩ v) b t _ (h.set o v); exact ⟨ds, h1, by rw [h2]; simp⟩
theorem Qqj : ∀ (vs : List Value) (o : Nat) (w : World) (b : Nat) (F : Nat -> Prop), F b -> Tn F w (w.setCells b o vs)
  | [], _, w, _, F, _ => Tn.refl F w
  | v :: vs, o, w, b, F, h => ((Tn.refl F w).set b o v h).then (Qqj vs (o + 1) _ b F h)
theorem rcF_one (m : Rm) (h : m.2.1.oneCell' = true /\ m.2.2.oneCell' = true) : ∀ u ∈ (rcF m).toList, u.oneCell' = true := by
  intro u hu; simp only [rcF, rcA, List.mem_cons, List.not_mem_nil, or_false] at hu; rcases hu with rfl | rfl | rfl | rfl | rfl | rfl | rfl | rfl | rfl | rfl | rfl | rfl | rfl | rfl; all_goals first | rfl | exact h.1 | exact h.2
theorem rc_one {w : World} {r : Rec} {va vb : Value} (h : Qwb w r va vb) : va.oneCell' = true /\ vb.oneCell' = true := by
  obtain ⟨⟨a, c, rfl, _⟩, ⟨b, d, rfl, _⟩⟩ := h; exact ⟨rfl, rfl⟩
theorem Qdp (ms : List Rm) (m : Rm) (i : Nat) : (ms ++ [m]).getD i rcZ = if i < ms.length then ms.getD i rcZ else if i = ms.length then m else rcZ := by
  by_cases h : i < ms.length
  · rw [if_pos h]; simp only [List.getD_eq_getElem?_getD, List.getElem?_append_left h]
  · rw [if_neg h]
    by_cases e : i = ms.length
    · subst e; rw [if_pos rfl]; simp [List.getD_eq_getElem?_getD]
    · rw [if_neg e]; simp only [List.getD_eq_getElem?_getD]; rw [List.getElem?_eq_none (by rw [List.length_append]; simp; omega)]; rfl
theorem RB.fresh {B : Nat} {w : World} {v : Value} {ms : List Rm} {base n : Nat} (hn : n = ms.length) (hp : 0 < n) (hB : B <= base) (ho : w.ownsRow base 46 14 v n (Qjd ms)) (hg : ∀ m ∈ ms, m.1.fits /\ RcK B w m.1 m.2.1 m.2.2) : ∃ a cap, v = .slice a n cap /\ RB B w a cap ms /\ ∀ k, blk a k -> base <= k := by
  subst hn; have hs := Qse rcF rcZ 14 (fun _ => rfl) ho
  rcases ho.2 with ⟨rfl, h0⟩ | ⟨g, cap, cur, rfl, h1, h2, h3, h4, h5, h6⟩
  · omega
  · obtain ⟨a', cap', e, h7⟩ := hs; injection e with e1 e2 e3; obtain ⟨b, off, h8, _, h9⟩ := h7 hp; rw [<- e1] at h8; injection h8 with h8; injection h8 with h10 h11; subst h10 h11
    exact ⟨_, cap, rfl, ⟨.inr ⟨g, 0, cur, rfl, Nat.le_trans hB h1, h2, by omega, h3, h9⟩, hg⟩, fun k hk => by
      obtain ⟨_, h⟩ := hk; injection h with h; injection h with h
      omega⟩
theorem RB.loose {B : Nat} {w : World} {a : Option Addr} {cap : Nat} {ms : List Rm} (h : RB B w a cap ms) : Qpu B w (blk a) := by
  intro k hk; obtain ⟨off, e⟩ := hk
  rcases h.1 with ⟨h1, _⟩ | ⟨b, off', cs, h1, h2, h3, _⟩
  · rw [h1] at e; cases e
  · rw [h1] at e; injection e with e; injection e with e; subst e; exact ⟨h2, h3.lt, fun t ds hr => by rw [Qti hr h3]; decide⟩
theorem run_push (B : Nat) (w : World) (t ty : TypeId) (ht : Try.prog.underlying t = some (.slice 46)) (a : Option Addr) (cap : Nat) (ms : List Rm) (h : RB B w a cap ms) (m : Rm) (g c : Nat) (hg : Qa w g 46 (rcF m)) (hm : m.1.fits /\ RcK B w m.1 m.2.1 m.2.2) (hB : B <= w.heap.size) (hl : ms.length <= 100000000) :
    ∃ a' cap' w', (Builtin.append_ #[t, t] ty #[.slice a ms.length cap, .slice (some ⟨g, 0, none⟩) 1 c]).run Try.prog w = .ok (.slice a' (ms.length + 1) cap') w' /\ RB B w' a' cap' (ms ++ [m]) /\ Tn (blk a) w w' /\ ∀ k, blk a' k -> blk a k ∨ w.heap.size <= k := by
  obtain ⟨i, hi0, hi1⟩ := Option.map_eq_some_iff.1 Qjx; simp only [Prod.mk.injEq] at hi1; have hone := rcF_one m (rc_one hm.2.rc); have hlen : (rcF m).toList.length = 1 * 14 := rfl
  have hcells : ∀ j u, (rcF m).toList[j]? = some u -> w.cell? ((⟨g, 0, none⟩ : Addr).add j) = some u := fun j u hu => by
    rw [Addr.add_lit, Nat.zero_add]; exact hg.cell j u (by simpa using hu)
  have hz : (Value.agg Qvc).cells.size = 14 := rfl; have flat : Qjd (ms ++ [m]) = Qjd ms ++ (rcF m).toList := by rw [Qip]; simp [Qjd]
  have fresh : ∀ v' w', w'.ownsRow w.heap.size 46 14 v' (ms.length + 1) (Qjd ms ++ (rcF m).toList) -> w.grownBy w' none -> ∃ a' cap', v' = .slice a' (ms.length + 1) cap' /\ RB B w' a' cap' (ms ++ [m]) /\ Tn (blk a) w w' /\ ∀ k, blk a' k -> blk a k ∨ w.heap.size <= k := by
    intro v' w' h1 h2; have hb : Below w.heap.size w w' := ⟨h2.os, h2.tape, h2.output, h2.size, fun k hk => h2.block k hk (by simp)⟩; rw [<- flat] at h1
    obtain ⟨a', cap', rfl, h3, h4⟩ := RB.fresh (by simp) (by omega) hB h1 (fun x hx => by
      rcases List.mem_append.1 hx with hx | hx
      · exact ⟨(h.2 x hx).1, (h.2 x hx).2.later hb⟩
      · rw [List.mem_singleton.1 hx]
        exact ⟨hm.1, hm.2.later hb⟩)
    exact ⟨a', cap', rfl, h3, Tn.of_below hb, fun k hk => .inr (h4 k hk)⟩
  have hold : ∀ b off, a = some ⟨b, off, none⟩ -> ∀ j u, (Qjd ms)[j]? = some u -> w.cell? ((⟨b, off, none⟩ : Addr).add j) = some u := by
    intro b off e j u hu; subst e
    rcases h.1 with ⟨h1, _⟩ | ⟨b', off', cs, h1, _, _, _, _, h6⟩
    · cases h1
    · injection h1 with h1; injection h1 with h1 h7; subst h1 h7
      have hj : j < ms.length * 14 := by
        have := (List.getElem?_eq_some_iff.1 hu).1; rwa [Qjd, Qcg rcF 14 (fun _ => rfl)] at this
      have h4 := Qdj rcF 14 (fun _ => rfl) rcZ ms (j / 14) (j % 14) (by omega) (by omega); rw [show j / 14 * 14 + j % 14 = j by omega] at h4; rw [Addr.add_lit]; have h5 := h6 (j / 14) (by omega) (j % 14) u (by rw [<- h4]; exact hu); rwa [show off + j / 14 * 14 + j % 14 = off + j by omega] at h5
  rcases h.1 with ⟨rfl, rfl, rfl⟩ | ⟨b, off, cs, rfl, h1, h2, h3, h4, h6⟩
  · obtain ⟨v', w', r1, r2, r3, _⟩ := run_append_own (P := Try.prog) w w.heap.size t ty 46 i (.agg Qvc) 14 160 ht hi0 hi1.1 hi1.2.1 hi1.2.2 hz (by omega) (.slice none 0 0) 0 [] (World.ownsRow_nil _ _ _ _) ⟨g, 0, none⟩ 1 c (rcF m).toList hlen hcells hone (by unfold maxLen; omega) (by omega) (Nat.le_refl _); obtain ⟨a', cap', rfl, q⟩ := fresh v' w' r2 r3; exact ⟨a', cap', w', r1, q⟩
  · by_cases hr : ms.length + 1 <= cap
    · have hc : ∀ j, j < (rcF m).toList.length -> (w.cell? ⟨b, off + ms.length * i.size + j, none⟩).isSome = true := fun j hj => by
        have hj14 : j < 14 := hj; rw [hi1.2.1, cell_of_row _ _ _ _ _ _ h2, Array.getElem?_eq_getElem (by omega)]; rfl
      have r1 := run_append_room_cells (P := Try.prog) w t ty 46 i ht hi0 b off ms.length cap ⟨g, 0, none⟩ 1 c (rcF m).toList (by rw [hlen, hi1.2.1]) hcells hone hr hc (fun j _ => h2.free _); rw [hi1.2.1] at r1 hc; obtain ⟨ds, hd1, hd2⟩ := Qfi (rcF m).toList (off + ms.length * 14) w b 46 cs h2; have hT := Qqj (rcF m).toList (off + ms.length * 14) w b (blk (some ⟨b, off, none⟩)) ⟨off, rfl⟩; have hL := h.loose
      refine ⟨_, _, _, r1, ⟨.inr ⟨b, off, ds, rfl, h1, hd1, by omega, by rw [List.length_append]; simpa using hr, fun k hk => ?_⟩, fun x hx => ?_⟩, hT, fun k hk => .inl hk⟩
      · rw [List.length_append, List.length_singleton] at hk; intro j u hu; have hj14 : j < 14 := (List.getElem?_eq_some_iff.1 hu).1
        by_cases e : k < ms.length
        · rw [Qdp, if_pos e] at hu; rw [World.cell?_setCells_out b _ _ w _ (fun _ _ => .inl (by show off + k * 14 + j < off + ms.length * 14; omega))]; exact h6 k e j u hu
        · obtain rfl : k = ms.length := by omega
          rw [Qdp, if_neg e, if_pos rfl] at hu; have h9 := World.cell?_setCells_in b (rcF m).toList (off + ms.length * 14) w hc j hj14; rw [h9]; rw [List.getElem?_eq_getElem hj14] at hu; exact hu
      · rcases List.mem_append.1 hx with hx | hx
        · exact ⟨(h.2 x hx).1, (h.2 x hx).2.keep hL hT⟩
        · rw [List.mem_singleton.1 hx]; exact ⟨hm.1, hm.2.keep hL hT⟩
    · obtain ⟨v', w', r1, r2, r3⟩ := run_append_arg_grows (P := Try.prog) w t ty 46 i (.agg Qvc) 14 160 ht hi0 hi1.1 hi1.2.1 hi1.2.2 hz (by omega) ⟨b, off, none⟩ ms.length cap (Qjd ms) (by rw [Qjd, Qcg rcF 14 (fun _ => rfl)]) (hold b off rfl) ⟨g, 0, none⟩ 1 c (rcF m).toList hlen hcells (by omega) (by unfold maxLen; omega) (by omega); obtain ⟨a', cap', rfl, q⟩ := fresh v' w' r2 r3; exact ⟨a', cap', w', r1, q⟩
theorem grown_setL (w : World) (b : Nat) (v : Value) : w.grownBy (w.setCell ⟨b, 0, none⟩ v) (some b) :=
  ⟨rfl, rfl, rfl, by simp, fun k _ hk => heap_setCell_other w ⟨b, 0, none⟩ k v (fun e => hk (by simp [e]))⟩
theorem grown_reflL (w : World) (b : Nat) : w.grownBy w (some b) := ⟨rfl, rfl, rfl, Nat.le_refl _, fun _ _ _ => rfl⟩
theorem full_iff (n f : Nat) (s : Bool) : full n f s = true ↔ (Qri <= max n f ∨ (s = false /\ topL <= max n f)) := by
  cases s <;> simp [full]
theorem wrap_up (n : Nat) (h : n < 4611686018427387904) : IntKind.u64.wrap ((n : Int) + 1) = ((n + 1 : Nat) : Int) := by
  simp only [IntKind.wrap, IntKind.bits, IntKind.signed]; simp; omega
theorem full_top (n f : Nat) (s : Bool) : full n f s = true ↔ (if s then Qri else topL) <= max n f := by
  rw [full_iff]
  cases s
  · simp only [Qri, topL, true_and, Bool.false_eq_true, if_false]; omega
  · simp [Qri]
section
def WB (B : Nat) (w : World) (wa : Option Addr) (wc : Nat) (bs : List UInt8) : Prop := w.ownsRow B 5 1 (.slice wa bs.length wc) bs.length (toV bs)
theorem WB.kind {B : Nat} {w : World} {wa : Option Addr} {wc : Nat} {bs : List UInt8} (h : WB B w wa wc bs) : ∀ k, blk wa k -> B <= k /\ ∃ cs, Qa w k 5 cs := by
  rintro k ⟨off, rfl⟩
  rcases h.2 with ⟨e, _⟩ | ⟨g, c, cur, e, hb, hg, _⟩
  · cases e
  · injection e with e1; injection e1 with e1; injection e1 with e1; subst e1; exact ⟨hb, cur, hg⟩
theorem WB.keep {B : Nat} {w x : World} {wa : Option Addr} {wc : Nat} {bs : List UInt8} (h : WB B w wa wc bs) (hk : ∀ k, blk wa k -> x.heap[k]? = w.heap[k]?) : WB B x wa wc bs := by
  refine ⟨h.1, ?_⟩
  rcases h.2 with h4 | ⟨g, c, cur, e, hb, hg, hc⟩
  · exact .inl h4
  · refine .inr ⟨g, c, cur, e, hb, ?_, hc⟩; injection e with e1; rw [hk g ⟨0, e1⟩]; exact hg
theorem WB.nil (B : Nat) (w : World) : WB B w none 0 [] := World.ownsRow_nil _ _ _ _
def lvA (gc gt : Nat) (a : Option Addr) (cap : Nat) (wa : Option Addr) (wn wc : Nat) (g : Lg) : Array Value :=
  #[.pointer (some ⟨gc, 0, none⟩), .pointer (some ⟨gt, 0, none⟩), .slice a g.l.length cap, .int .i64 (g.fa : Int), .int .i64 (g.on : Int), .slice wa wn wc, .int .u64 (g.du : Int), .int .i64 (g.hd : Int)]
def FC (gl gc gt gb : Nat) (a wa : Option Addr) (k : Nat) : Prop := k = gl ∨ k = gc ∨ k = gt ∨ k = gb ∨ blk a k ∨ blk wa k
section
variable {B : Nat} {w x : World} {gl gc gt gb : Nat} {a : Option Addr} {cap : Nat} {ms : List Rm} {wa : Option Addr} {wc : Nat} {bs : List UInt8} {g : Lg}
theorem RB.kind {ms : List Rm} (h : RB B w a cap ms) : ∀ k, blk a k -> B <= k /\ ∃ cs, Qa w k 46 cs := by
  intro k ⟨off, e⟩
  rcases h.1 with ⟨h1, _⟩ | ⟨b, off', cs, h1, h2, h3, _⟩
  · rw [h1] at e; cases e
  · rw [h1] at e; injection e with e; injection e with e; subst e; exact ⟨h2, cs, h3⟩
structure LVapart (gl gc gt gb : Nat) (a wa : Option Addr) : Prop where
  lc : gl ≠ gc
  lt : gl ≠ gt
  lb : gl ≠ gb
  la : ¬ blk a gl
  lw : ¬ blk wa gl
  ct : gc ≠ gt
  cb : gc ≠ gb
  ca : ¬ blk a gc
  cw : ¬ blk wa gc
  ta : ¬ blk a gt
  tw : ¬ blk wa gt
  ba : ¬ blk a gb
  aw : ∀ k, blk a k -> ¬ blk wa k
theorem Turn.tn {gt gb : Nat} {w x : World} (p : Turn gt gb w x) : Tn (fun k => k = gt ∨ k = gb) w x := ⟨p.os, p.tape, p.output, p.size, fun k hk hn => p.block k hk (fun e => hn (.inl e)) (fun e => hn (.inr e))⟩
end
theorem RB.lsnAt {B : Nat} {w : World} {a : Option Addr} {cap : Nat} {ms : List Rm} (h : RB B w a cap ms) {i : Nat} (hi : i < ms.length) : ∃ b off, a = some ⟨b, off, none⟩ /\ w.cell? ⟨b, off + i * 14 + 1, none⟩ = some (.int .u64 ((ms.getD i rcZ).1.l : Int)) := by
  rcases h.1 with ⟨_, rfl, _⟩ | ⟨b, off, cs, rfl, _, _, _, _, h5⟩
  · exact absurd hi (by simp)
  · exact ⟨b, off, rfl, h5 i hi 1 _ rfl⟩
end
def Qjo (bs : List UInt8) (j : Nat) : Pg := ⟨beAt bs 0 8, fun i => decide (i < j) && Qkb (Qy bs) i, fun i => if i < j then Qae (Qy bs) i else ⟨#[]⟩⟩
theorem pref_full (bs : List UInt8) : (Qjo bs 8).same (Qfm bs) := by
  refine ⟨rfl, fun i hi => ⟨?_, ?_⟩⟩
  · show (decide (i < 8) && Qkb (Qy bs) i) = Qkb (Qy bs) i; simp [hi]
  · show (if i < 8 then Qae (Qy bs) i else ⟨#[]⟩) = Qae (Qy bs) i; rw [if_pos hi]
theorem pref_zero (bs : List UInt8) : pgA (Qjo bs 0) = pgA ⟨beAt bs 0 8, Pg.zero.u, Pg.zero.s⟩ := by
  refine Qwi ⟨rfl, fun i hi => ⟨?_, ?_⟩⟩
  · show (decide (i < 0) && Qkb (Qy bs) i) = false; simp
  · show (if i < 0 then Qae (Qy bs) i else ⟨#[]⟩) = _; rw [if_neg (by omega)]; rfl
theorem Qyu (t : List UInt8) (j : Nat) (h : Qkb t j = false) : Qae t j = ⟨#[]⟩ := by
  unfold Qae Qdg; rw [h]; simp
theorem pref_skip (bs : List UInt8) (j : Nat) (h : Qkb (Qy bs) j = false) : pgA (Qjo bs (j + 1)) = pgA (Qjo bs j) := by
  refine Qwi ⟨rfl, fun i hi => ⟨?_, ?_⟩⟩
  · show (decide (i < j + 1) && Qkb (Qy bs) i) = (decide (i < j) && Qkb (Qy bs) i)
    by_cases hij : i = j
    · subst hij; simp [h]
    · have e : decide (i < j + 1) = decide (i < j) := decide_eq_decide.2 (by omega); rw [e]
  · show (if i < j + 1 then Qae (Qy bs) i else ⟨#[]⟩) = if i < j then Qae (Qy bs) i else ⟨#[]⟩
    by_cases hij : i = j
    · subst hij; rw [if_pos (by omega), if_neg (by omega), Qyu _ _ h]
    · by_cases h2 : i < j
      · rw [if_pos (by omega), if_pos h2]
      · rw [if_neg (by omega), if_neg h2]
theorem pgA_set (p : Pg) (j : Nat) (hj : j < 8) (b : Bool) (s : ByteArray) :
    ((pgA p).setIfInBounds (1 + j * 2) (.bool b)).setIfInBounds (1 + j * 2 + 1) (.string s) = pgA ⟨p.l, fun i => if i = j then b else p.u i, fun i => if i = j then s else p.s i⟩ := by
  rcases lt8 hj with rfl | rfl | rfl | rfl | rfl | rfl | rfl | rfl <;> simp [pgA]
theorem pref_more (bs : List UInt8) (j : Nat) (h : Qkb (Qy bs) j = true) :
    pgA ⟨(Qjo bs j).l, fun i => if i = j then true else (Qjo bs j).u i, fun i => if i = j then Qae (Qy bs) j else (Qjo bs j).s i⟩ = pgA (Qjo bs (j + 1)) := by
  refine Qwi ⟨rfl, fun i hi => ⟨?_, ?_⟩⟩
  · show (if i = j then true else (decide (i < j) && Qkb (Qy bs) i)) = (decide (i < j + 1) && Qkb (Qy bs) i)
    by_cases hij : i = j
    · subst hij; simp [h]
    · have e : decide (i < j + 1) = decide (i < j) := decide_eq_decide.2 (by omega); rw [e, if_neg hij]
  · show (if i = j then Qae (Qy bs) j else if i < j then Qae (Qy bs) i else ⟨#[]⟩) = if i < j + 1 then Qae (Qy bs) i else ⟨#[]⟩
    by_cases hij : i = j
    · subst hij; rw [if_pos rfl, if_pos (by omega)]
    · rw [if_neg hij]
      by_cases h2 : i < j
      · rw [if_pos h2, if_pos (by omega)]
      · rw [if_neg h2, if_neg (by omega)]
theorem pos_le (t : List UInt8) (j : Nat) (h : ∀ k, k < j -> Qdg t k <= 20) : Qhk t j <= 10 + 20 * j := by
  induction j with
  | zero => exact Nat.le_refl _
  | succ j ih =>
    have h1 := ih (fun k hk => h k (by omega)); have h2 := h j (by omega); rw [Qhk]; omega
theorem cut_size (t : List UInt8) (j : Nat) (ht : t.length = 240) : (Qae t j).size = min (Qdg t j) (240 - Qhk t j) := by
  unfold Qae; rw [size_mk, List.length_take, List.length_drop, ht]
theorem scan_wrong (bs : List UInt8) (j : Nat) (hb : bs.length = 256) (hj : j < 8) (h : ∀ k, k < j -> Qdg (Qy bs) k <= 20) (hl : 20 < Qdg (Qy bs) j) : ¬ (Qfm bs).right := by
  intro hr; have h1 := (hr.2 j hj).1; have h2 := cut_size (Qy bs) j (Qhm bs hb); have h3 := pos_le (Qy bs) j h; have h4 : (Qfm bs).s j = Qae (Qy bs) j := rfl; rw [h4, h2] at h1; omega
theorem nAt_str (s : ByteArray) (T : ByteArray) (hT : T = ⟨(Qy s.data.toList).toArray⟩) (j : Nat) (h : 2 + j < T.size) : T[2 + j].toNat = nAt (Qy s.data.toList) j := by
  unfold nAt; rw [<- Qrs T (2 + j) h, hT]
theorem cut_str (s : ByteArray) (T : ByteArray) (hT : T = ⟨(Qy s.data.toList).toArray⟩) (j : Nat) (h : Qhk (Qy s.data.toList) j + Qdg (Qy s.data.toList) j <= T.size) :
    T.extract (Qhk (Qy s.data.toList) j) (Qhk (Qy s.data.toList) j + Qdg (Qy s.data.toList) j) = Qae (Qy s.data.toList) j := by
  rw [Qkh T _ _ h, hT]; rfl
theorem len_used (t : List UInt8) (j m : Nat) (hm : nAt t j = m) (h : m ≠ 255) : Qdg t j = m /\ Qkb t j = true := by
  have hu : Qkb t j = true := by unfold Qkb; rw [hm]; simp [h]
  exact ⟨by unfold Qdg; rw [hu, if_pos rfl, hm], hu⟩
theorem len_unused (t : List UInt8) (j : Nat) (hm : nAt t j = 255) : Qdg t j = 0 /\ Qkb t j = false := by
  have hu : Qkb t j = false := by unfold Qkb; rw [hm]; simp
  exact ⟨by unfold Qdg; rw [hu]; simp, hu⟩
theorem dec_last (id : Int) (bs : List UInt8) (h0 : 0 <= id /\ id <= 31) (hb : bs.length = 256) (ht : tornB bs = false) (hs : leN ((Qy bs).drop 236) = crc ((Qy bs).take 236)) :
    decE id bs = if (Qfm bs).right /\ Qbb id.toNat (Qfm bs) = bs then 0 else 2 := by
  unfold decE; rw [if_neg (by simpa using h0), if_neg (by omega), if_neg (by omega), if_neg (by simp [ht]), if_neg (by simp [hs])]
def Qyn (w : World) (gc gr : Nat) (p : Pg) (c : Ch) (x : World) : Prop :=
  Qwe x w.heap.size p /\ Qve x gc c /\ Qwe x gr Pg.zero /\ Below w.heap.size w x /\ w.heap.size < gc /\ gc < gr
theorem Qyn.later {w x y : World} {gc gr : Nat} {p : Pg} {c : Ch} (h : Qyn w gc gr p c x) (hb : Below x.heap.size x y) : Qyn w gc gr p c y := by
  have l0 : w.heap.size < x.heap.size := (Array.getElem?_eq_some_iff.1 h.1).1; have l1 := h.2.1.lt; have l2 : gr < x.heap.size := (Array.getElem?_eq_some_iff.1 h.2.2.1).1; exact ⟨h.1.below hb l0, h.2.1.below hb l1, h.2.2.1.below hb l2, h.2.2.2.1.trans (hb.mono (Nat.le_of_lt l0)), h.2.2.2.2⟩
theorem app_in (w : World) (p : Pg) (c : Ch) : Qyn w (w.heap.size + 1) (w.heap.size + 1 + 1) p c (((w.alloc (.cells (pgA p) 93)).alloc (.cells (chA c) 44)).alloc (.cells (pgA Pg.zero) 93)) := by
  have e1 : (w.alloc (.cells (pgA p) 93)).heap.size = w.heap.size + 1 := by simp
  have e2 : ((w.alloc (.cells (pgA p) 93)).alloc (.cells (chA c) 44)).heap.size = w.heap.size + 1 + 1 := by simp
  have b1 := (Below.refl w.heap.size w).alloc (Nat.le_refl _) (.cells (pgA p) 93); have b2 := (Below.refl _ (w.alloc (.cells (pgA p) 93))).alloc (Nat.le_refl _) (.cells (chA c) 44); have b3 := (Below.refl _ ((w.alloc (.cells (pgA p) 93)).alloc (.cells (chA c) 44))).alloc (Nat.le_refl _) (.cells (pgA Pg.zero) 93); have r0 : Qa (w.alloc (.cells (pgA p) 93)) w.heap.size 93 (pgA p) := Qa.new _ _ _
  have r1 : Qa ((w.alloc (.cells (pgA p) 93)).alloc (.cells (chA c) 44)) (w.heap.size + 1) 44 (chA c) := by
    have h := Qa.new (w.alloc (.cells (pgA p) 93)) 44 (chA c); rw [e1] at h; exact h
  have r2 : Qa (((w.alloc (.cells (pgA p) 93)).alloc (.cells (chA c) 44)).alloc (.cells (pgA Pg.zero) 93)) (w.heap.size + 1 + 1) 93 (pgA Pg.zero) := by
    have h := Qa.new ((w.alloc (.cells (pgA p) 93)).alloc (.cells (chA c) 44)) 93 (pgA Pg.zero); rw [e2] at h; exact h
  exact ⟨(r0.later b2).later b3, r1.later b3, r2, b1.trans ((b2.mono b1.size).trans (b3.mono (by omega))), by omega, by omega⟩
theorem put_mem {w x : World} {gc gr i : Nat} {p : Pg} {c : Ch} (h : Qyn w gc gr p c x) (hi : i < 8) (l : Nat) (u : Bool) (s : ByteArray) :
    Qwe (((x.setCell ⟨w.heap.size, 1 + i * 2, none⟩ (.bool u)).setCell ⟨w.heap.size, 1 + i * 2 + 1, none⟩ (.string s)).setCell ⟨w.heap.size, 0, none⟩ (.int .u64 (l : Int))) w.heap.size (p.put l i u s) /\
    Qwe (((x.setCell ⟨w.heap.size, 1 + i * 2, none⟩ (.bool u)).setCell ⟨w.heap.size, 1 + i * 2 + 1, none⟩ (.string s)).setCell ⟨w.heap.size, 0, none⟩ (.int .u64 (l : Int))) gr Pg.zero /\
    Below w.heap.size w (((x.setCell ⟨w.heap.size, 1 + i * 2, none⟩ (.bool u)).setCell ⟨w.heap.size, 1 + i * 2 + 1, none⟩ (.string s)).setCell ⟨w.heap.size, 0, none⟩ (.int .u64 (l : Int))) /\ w.heap.size < gr := by
  have hg : w.heap.size < gr := by have := h.2.2.2.2; omega
  have h1 := heap_setCell_same x w.heap.size (1 + i * 2) _ _ (.bool u) h.1; have h2 := heap_setCell_same _ w.heap.size (1 + i * 2 + 1) _ _ (.string s) h1; rw [pgA_set _ i hi] at h2; have h3 := heap_setCell_same _ w.heap.size 0 _ _ (.int .u64 (l : Int)) h2; refine ⟨h3, ((h.2.2.1.other _ _ (by simp; omega)).other _ _ (by simp; omega)).other _ _ (by simp; omega), ?_, hg⟩; exact ((h.2.2.2.1.setCell (by show w.heap.size <= w.heap.size; omega) _).setCell (by show w.heap.size <= w.heap.size; omega) _).setCell (by show w.heap.size <= w.heap.size; omega) _
theorem app_at (p : Pg) (c : Ch) (l : Nat) (hp : p.right) (hc : c.right) (hl : l <= Qtd) (hl2 : p.l < l) (i : Nat) (hi : c.at = i) :
    (p.u i = true /\ c.wantU = false -> appE p c l = 6 /\ appP p c l = Pg.zero) /\ (p.u i = false /\ c.wantU = true -> appE p c l = 5 /\ appP p c l = Pg.zero) /\
    (p.u i = c.wantU -> p.s i ≠ c.wantV -> appE p c l = 2 /\ appP p c l = Pg.zero) /\ (p.u i = c.wantU -> p.s i = c.wantV -> appE p c l = 0 /\ appP p c l = p.put l i c.makeU c.makeV) := by
  subst hi
  have hbase : appE p c l = if p.u c.at = true /\ c.wantU = false then 6 else if p.u c.at = false /\ c.wantU = true then 5 else if p.s c.at ≠ c.wantV then 2 else 0 := by
    unfold appE; rw [if_neg (fun h => h ⟨hp, hc, hl⟩), if_neg (by omega)]
  refine ⟨fun h => ?_, fun h => ?_, fun h1 h2 => ?_, fun h1 h2 => ?_⟩
  · have e : appE p c l = 6 := by rw [hbase, if_pos h]
    exact ⟨e, app_no _ _ _ (by rw [e]; decide)⟩
  · have e : appE p c l = 5 := by rw [hbase, if_neg (by rw [h.1]; simp), if_pos h]
    exact ⟨e, app_no _ _ _ (by rw [e]; decide)⟩
  · have e : appE p c l = 2 := by rw [hbase, if_neg (by rw [h1]; intro h; rw [h.1] at h; cases h.2), if_neg (by rw [h1]; intro h; rw [h.1] at h; cases h.2), if_pos h2]
    exact ⟨e, app_no _ _ _ (by rw [e]; decide)⟩
  · have e : appE p c l = 0 := (app_yes p c l).2 ⟨hp, hc, hl, hl2, h1, h2⟩; exact ⟨e, by unfold appP; rw [if_pos e]⟩
theorem Qpc {P : Program} {b : Nat} {t : TypeId} {cs : Array Value} {d : TypeDesc} (x : World) (h : Qa x b t cs) (hu : P.underlying t = some d) (hd : (match d with | .struct _ | .array _ _ => true | _ => false) = true) (hi : (P.info? t).map (·.size) = some cs.size) :
    (Instr.loadAt t (.pointer (some ⟨b, 0, none⟩))).run P x = .ok (.agg cs) x := by
  have h1 := run_loadVar_row (P := P) x b t t cs (0, 0) d h hu hd hi; simp only [Instr.loadAt, Instr.sureAddr, Sem.run_bind, Sem.run_pure, Result.andThen_ok, h1]
theorem put_cell {x : World} {g i : Nat} {p : Pg} (h : Qwe x g p) (hi : i < 8) (u : Bool) (s : ByteArray) : Qwe ((x.setCell ⟨g, 1 + i * 2, none⟩ (.bool u)).setCell ⟨g, 1 + i * 2 + 1, none⟩ (.string s)) g (p.put p.l i u s) := by
  have h1 := heap_setCell_same x g (1 + i * 2) _ _ (.bool u) h; have h2 := heap_setCell_same _ g (1 + i * 2 + 1) _ _ (.string s) h1; rw [pgA_set _ i hi] at h2; exact h2
theorem wpList_store_ce {ops : Array Oper} {rest : List Oper} {o : Oper} {a : Act} {w : World} {Q : Exit -> Act -> World -> Prop} (hgd : o.guard = none) (x y : Operand) (ho : o.op = .store 69 x y)
    (g i : Nat) (hi : i < 8) (p : Pg) (u : Bool) (s : ByteArray) (hx : a.eval x = .pointer (some ⟨g, 1 + i * 2, none⟩)) (hy : a.eval y = .agg (ceA u s)) (hg : Qwe w g p)
    (h : ∀ w2, Qwe w2 g (p.put p.l i u s) -> (∀ B w0, Below B w0 w -> B <= g -> Below B w0 w2) -> (∀ k t' c', k ≠ g -> Qa w k t' c' -> Qa w2 k t' c') -> wpList Try.prog ops Q rest (a.put o.dst undef) w2) : wpList Try.prog ops Q (o :: rest) a w := by
  have q1 := hg.used i hi; have q2 := hg.val i hi; have s1 := hg.free (1 + i * 2); have s2 := hg.free (1 + i * 2 + 1); have h2 := h _ (put_cell hg hi u s) (fun B w0 hb hB => ((hb.setCell (by exact hB) _).setCell (by exact hB) _)) (fun k t' c' hk hr => (hr.other _ _ hk).other _ _ hk); refine wpList_step fun K hK => ?_
  have hw : Region.wanted o (yielded ops a.tmps) = true := by unfold Region.wanted; rw [hgd]
  simp only [hw, if_true]; have hK2 := hK _ _ h2; clear h h2 hK hg; unfold Oper.wp execOp; simp only [ho, hx, hy, ceA]; go_simp; exact hK2
theorem nan9 (x : Nat) (w : World) : Calls Try.prog 65 #[.int .u64 (x : Int)] w fun e w' => e = .returned (.bool false) /\ w = w' := by
  go_enter Try.func65, Try.ntmps65; go_wp2; go_ret; simp
def cmpI (x y : Nat) : Int := if x < y then -1 else if y < x then 1 else 0
theorem cmp9 (x y : Nat) (w : World) : Calls Try.prog 44 #[.int .u64 (x : Int), .int .u64 (y : Int)] w fun e w' => e = .returned (.int .i64 (cmpI x y)) /\ w = w' := by
  have HN := Qb (fun z w => nan9 z w); unfold cmpI
  by_cases h1 : x < y
  · rw [if_pos h1]; have i1 : (x : Int) < (y : Int) := by omega
    go_enter Try.func44, Try.ntmps44; go_wp2_with fail; refine (HN.out x w).mono ?_; rintro e w1 ⟨rfl, rfl⟩; go_wp2_with fail; refine (HN.out y w).mono ?_; rintro e w1 ⟨rfl, rfl⟩; go_wp2; go_ret; exact ⟨rfl, rfl⟩
  · rw [if_neg h1]
    by_cases h2 : y < x
    · rw [if_pos h2]; have i1 : ¬ (x : Int) < (y : Int) := by omega
      have i2 : (y : Int) < (x : Int) := by omega
      go_enter Try.func44, Try.ntmps44; go_wp2_with fail; refine (HN.out x w).mono ?_; rintro e w1 ⟨rfl, rfl⟩; go_wp2_with fail; refine (HN.out y w).mono ?_; rintro e w1 ⟨rfl, rfl⟩; go_wp2; go_ret; exact ⟨rfl, rfl⟩
    · rw [if_neg h2]; have i1 : ¬ (x : Int) < (y : Int) := by omega
      have i2 : ¬ (y : Int) < (x : Int) := by omega
      go_enter Try.func44, Try.ntmps44; go_wp2_with fail; refine (HN.out x w).mono ?_; rintro e w1 ⟨rfl, rfl⟩; go_wp2_with fail; refine (HN.out y w).mono ?_; rintro e w1 ⟨rfl, rfl⟩; go_wp2; go_ret; exact ⟨rfl, rfl⟩
theorem cmpI_lt (x y : Nat) : (cmpI x y < 0 ↔ x < y) /\ (cmpI x y = 0 ↔ x = y) := by
  unfold cmpI
  split
  · constructor <;> omega
  · split
    · constructor <;> omega
    · constructor <;> omega
def Found9 (ms : List Rm) (n : Nat) (w : World) (e : Ending) (w' : World) : Prop := ∃ i : Nat, ∃ q : Bool, e = .returned (.tuple #[.int .i64 (i : Int), .bool q]) /\ (q = true -> i < ms.length /\ (ms.getD i rcZ).1.l = n) /\ (q = false -> ∀ j, j < ms.length -> (ms.getD j rcZ).1.l ≠ n) /\ Below w.heap.size w w'
theorem Qac : ∀ (l : List Rec) (a : Nat), Qcb a l -> ∀ p q, p < q -> q < l.length -> (l.getD p Rec.zero).l < (l.getD q Rec.zero).l
  | [], _, _, _, _, _, h => absurd h (by simp)
  | r :: rs, a, h, 0, q + 1, _, hq => by
    have hm : rs.getD q Rec.zero ∈ rs := Qja _ _ _ (by simpa using hq); have := (Qzd rs r.l h.2.2 _ hm).1; simpa [List.getD] using this
  | r :: rs, a, h, p + 1, q + 1, hpq, hq => by
    have := Qac rs r.l h.2.2 p q (by omega) (by simpa using hq); simpa [List.getD] using this
  | r :: rs, a, h, p, 0, hpq, _ => absurd hpq (by omega)
def Found15 (ms : List (Rec × Value × Value)) (n : Nat) (w : World) (e : Ending) (w' : World) : Prop := ∃ i : Nat, ∃ q : Bool, e = .returned (.tuple #[.int .i64 (i : Int), .bool q]) /\ (q = true -> i < ms.length /\ (ms.getD i rcZ).1.l = n) /\ (q = false -> ∀ j, j < ms.length -> (ms.getD j rcZ).1.l ≠ n) /\ Below w.heap.size w w'
def At15 (ms : List (Rec × Value × Value)) (n : Nat) (w : World) (e : Ending) (w' : World) : Prop := ∃ i : Nat, ∃ q : Bool, e = .returned (.tuple #[.int .i64 (i : Int), .bool q]) /\ ((q = true /\ i < ms.length /\ (ms.getD i rcZ).1.l = n) ∨ (q = false /\ ∀ r ∈ msR ms, r.l ≠ n)) /\ Below w.heap.size w w'
theorem mem_get15 {ms : List (Rec × Value × Value)} {r : Rec} (h : r ∈ msR ms) : ∃ j, j < ms.length /\ (ms.getD j rcZ).1 = r := by
  obtain ⟨j, hj, rfl⟩ := List.mem_iff_getElem.1 h; rw [Qka] at hj; refine ⟨j, hj, ?_⟩; rw [<- Qgg, List.getD_eq_getElem?_getD, List.getElem?_eq_getElem (by rw [Qka]; exact hj)]; rfl
def Qat (rs : List Rec) (b : Nat) : Option Nat := rs.findIdx? fun r => decide (r.l = b) && decide (r.k = 7)
def ckL (rs : List Rec) : Nat -> Option (Nat × Nat)
  | 0 => none
  | n + 1 => if (rs.getD n Rec.zero).k = 8 then (match Qat rs (rs.getD n Rec.zero).b with | some i => some (n, i) | none => ckL rs n) else ckL rs n
theorem Qvo {rs : List Rec} (h : Qcb 0 rs) {i : Nat} (hi : i < rs.length) {b : Nat} (hb : (rs.getD i Rec.zero).l = b) (hk : (rs.getD i Rec.zero).k = 7) : Qat rs b = some i := by
  unfold Qat; rw [List.findIdx?_eq_some_iff_getElem]; have e : rs[i] = rs.getD i Rec.zero := by rw [List.getD_eq_getElem?_getD, List.getElem?_eq_getElem hi]; rfl
  refine ⟨hi, by rw [e, hb, hk]; simp, fun j hj => ?_⟩; have e2 : rs[j] = rs.getD j Rec.zero := by rw [List.getD_eq_getElem?_getD, List.getElem?_eq_getElem (by omega)]; rfl
  have := Qac rs 0 h j i hj hi; rw [e2]; generalize rs.getD j Rec.zero = z at *; have hne : ¬ z.l = b := by omega
  simp [hne]
theorem Qeo {rs : List Rec} {b : Nat} (h : ∀ i, i < rs.length -> (rs.getD i Rec.zero).l = b -> (rs.getD i Rec.zero).k ≠ 7) : Qat rs b = none := by
  unfold Qat; rw [List.findIdx?_eq_none_iff]; intro r hr; obtain ⟨i, hi, rfl⟩ := List.getElem_of_mem hr; have e : rs[i] = rs.getD i Rec.zero := by rw [List.getD_eq_getElem?_getD, List.getElem?_eq_getElem hi]; rfl
  have := h i hi; rw [<- e] at this
  by_cases hl : rs[i].l = b
  · simp [this hl]
  · simp [hl]
theorem Qij {rs : List Rec} {b i : Nat} (h : Qat rs b = some i) : i < rs.length /\ (rs.getD i Rec.zero).l = b /\ (rs.getD i Rec.zero).k = 7 := by
  unfold Qat at h; rw [List.findIdx?_eq_some_iff_getElem] at h; obtain ⟨hi, h1, _⟩ := h; have e : rs[i] = rs.getD i Rec.zero := by rw [List.getD_eq_getElem?_getD, List.getElem?_eq_getElem hi]; rfl
  rw [e] at h1; simp at h1; exact ⟨hi, h1⟩
theorem sf_beg {rs : List Rec} (h : Qcb 0 rs) {b i : Nat} {q : Bool} (hs : Sf (fun k => Qoi (b : Int) ((rs.getD k Rec.zero).l : Int)) rs.length i q) :
    (q = true /\ i < rs.length /\ (rs.getD i Rec.zero).k = 7 -> Qat rs b = some i) /\ (q = true -> i < rs.length /\ ((rs.getD i Rec.zero).k ≠ 7 -> Qat rs b = none)) /\ (q = false -> Qat rs b = none) := by
  have hz : q = true -> i < rs.length /\ (rs.getD i Rec.zero).l = b := fun hq => by
    obtain ⟨h1, h2⟩ := hs.yes hq; rw [Qme] at h2; exact ⟨h1, by omega⟩
  refine ⟨fun ⟨hq, hi, hk⟩ => Qvo h hi (hz hq).2 hk, fun hq => ⟨(hz hq).1, fun hk => Qeo fun j hj hl => ?_⟩, fun hq => Qeo fun j hj hl => ?_⟩
  · obtain ⟨h1, h2⟩ := hz hq
    rcases Nat.lt_trichotomy j i with h3 | rfl | h3
    · have := Qac rs 0 h j i h3 h1; omega
    · exact hk
    · have := Qac rs 0 h i j h3 hj; omega
  · exfalso
    rcases Nat.lt_or_ge j i with h3 | h3
    · have h4 := hs.low j h3; rw [Qcd] at h4; omega
    · have h4 := hs.no hq (by omega); have h5 := hs.high i (Nat.le_refl _) (by omega); have h6 : ¬ ((b : Int) = ((rs.getD i Rec.zero).l : Int)) := fun e => h4 ((Qme _ _).2 e)
      have h7 : ¬ (((rs.getD i Rec.zero).l : Int) < (b : Int)) := fun e => by
        have := (Qcd (b : Int) ((rs.getD i Rec.zero).l : Int)).2 e; omega
      rcases Nat.lt_or_ge i j with h8 | h8
      · have := Qac rs 0 h i j h8 hj; omega
      · have : j = i := by omega
        subst this; omega
theorem sf_less {rs : List Rec} (h : Qcb 0 rs) (b : Nat) : ∀ p q, p < q -> q < rs.length -> 0 < Qoi (b : Int) ((rs.getD q Rec.zero).l : Int) -> 0 < Qoi (b : Int) ((rs.getD p Rec.zero).l : Int) := by
  intro p q hpq hq hc; rw [Qcd] at hc |-; have := Qac rs 0 h p q hpq hq; omega
theorem Qtg {rs : List Rec} : ∀ {n : Nat} {j i : Nat}, ckL rs n = some (j, i) -> j < n /\ (rs.getD j Rec.zero).k = 8 /\ Qat rs (rs.getD j Rec.zero).b = some i
  | 0, j, i, h => by cases h
  | n + 1, j, i, h => by
    unfold ckL at h
    split at h
    · rename_i hk
      split at h
      · rename_i i' hb; cases h; exact ⟨by omega, hk, hb⟩
      · have := Qtg h; exact ⟨by omega, this.2⟩
    · have := Qtg h; exact ⟨by omega, this.2⟩
theorem Qzk {x : World} {b o : Nat} {m : Rec × Value × Value} (h : x.rangeAt b o (rcF m).toList) : x.cell? ⟨b, o + 1, none⟩ = some (.int .u64 (m.1.l : Int)) /\ x.cell? ⟨b, o + 2, none⟩ = some (.int .i64 m.1.t) := ⟨h 1 _ rfl, h 2 _ rfl⟩
theorem lastT_back (l : List Rec) (t : Int) : ∀ (m : List Rec), (∀ r ∈ m, r.t ≠ t) -> Qqi (l ++ m) t = Qqi l t := by
  intro m
  induction m using Qsb with
  | h0 => intro _; rw [List.append_nil]
  | h1 m s ih =>
    intro h; rw [<- List.append_assoc, Qce, if_neg (fun x => h s (by simp) x.2)]; exact ih (fun r hr => h r (List.mem_append.2 (.inl hr)))
theorem rlast15 (v : Value) (ms : List (Rec × Value × Value)) (t : Int) (w : World) (h : LogIn w v ms) :
    Calls Try.prog 27 #[v, .int .i64 t] w fun e w' => e = .returned (.int .u64 (Qqi (msR ms) t : Int)) /\ Below w.heap.size w w' := by
  have HA := Qb h; obtain ⟨aa, ca, rfl, hlc⟩ := h.slice; have hl := h.few; clear h; obtain ⟨ln, hln⟩ : ∃ ln, ln = ms.length := ⟨_, rfl⟩; rw [<- hln] at HA hl hlc |-; have HN := Qb hln; clear hln; go_enter Try.func27, Try.ntmps27; go_wp2; go_loopw [5, 9] (fun v i wr => ∃ (j ll : Nat), j <= ln /\ i = .int .i64 (j : Int) /\ v = .int .u64 (ll : Int) /\ Hid (ll = Qqi ((msR ms).take j) t) /\ Hid (Below w.heap.size w wr)) (fun _ i _ => ln - (intOf i).toNat)
  case atStart => exact ⟨0, 0, Nat.zero_le _, rfl, rfl, by rw [List.take_zero]; rfl, Below.refl _ _⟩
  case round =>
    obtain ⟨j, ll, hj, rfl, rfl, HLL, HBR⟩ := hrel
    by_cases hlt : j < ln
    · have hjm : j < ms.length := by rw [<- HN.out]; exact hlt
      have HS := Qb (Qfc hjm); obtain ⟨b, off, rfl, hf, _, hx⟩ := HA.out.mid hjm; obtain ⟨m, hm⟩ : ∃ m, m = ms.getD j rcZ := ⟨_, rfl⟩; rw [<- hm] at hf hx HS; clear hm; have ij : (j : Int) < (ln : Int) := by omega
      obtain ⟨c1, c2⟩ := Qzk (hx wr HBR.out).1; clear hf hx
      by_cases ht : 1 <= t
      · by_cases hm : m.1.t = t
        · go_wp2; go_roundw
          case rel =>
            refine ⟨j + 1, m.1.l, by omega, by go_num, rfl, ?_, HBR⟩; rw [HS.out, Qce, if_pos ⟨ht, hm⟩]; exact rfl
          case measure => simp [intOf]; omega
        · go_wp2; go_roundw
          case rel =>
            refine ⟨j + 1, ll, by omega, by go_num, rfl, ?_, HBR⟩; rw [HS.out, Qce, if_neg (fun x => hm x.2)]; exact HLL.out
          case measure => simp [intOf]; omega
      · go_wp2; go_roundw
        case rel =>
          refine ⟨j + 1, ll, by omega, by go_num, rfl, ?_, HBR⟩; rw [HS.out, Qce, if_neg (fun x => ht x.1)]; exact HLL.out
        case measure => simp [intOf]; omega
    · obtain rfl : j = ln := by omega
      go_wp2; go_ret; refine ⟨?_, HBR.out⟩; have h1 := HLL.out; rw [HN.out, <- Qka, List.take_length] at h1; rw [h1]; rfl
section
def Qpj : Op -> Bool
  | .move _ | .assign _ | .load _ _ | .store _ _ _ | .build _ _ | .binOp _ _ _ _ _ | .slice _ _ _ _ _ | .fieldAddr _ _ _ => true
  | _ => false
section
variable {F : Fence} {n : Nat} {P : Program} {ops : Array Oper} {Q : Exit -> Act -> World -> Prop}
theorem Qxg {o : Oper} (h : Qpj o.op = true) (w : World) (ρ : Operand -> Value) : o.about P w ρ = none := by
  unfold Oper.about; cases ho : o.op <;> first | rfl | (rw [ho] at h; cases h)
theorem Qmn {o : Oper} (h : Qpj o.op = true) {a : Act} {w : World} {K : Act -> World -> Prop} (hu : o.upon P a K Q ((execOp a.eval o).run P w)) : o.uponIn F n P a K Q ((execOp a.eval o).run P w) := by
  have key : ∀ x w', (execOp a.eval o).run P w = .ok x w' -> (∃ v, x = .value v) ∨ x = .skip := by
    intro x w' hx; unfold execOp at hx; cases ho : o.op <;> rw [ho] at h hx <;> first | (cases h; done) | skip
    all_goals simp only [Sem.run_bind, Sem.run_pure] at hx
    all_goals first
      | (injection hx with h1 h2; exact .inl ⟨_, h1.symm⟩)
      | (unfold Result.andThen at hx
         split at hx
         · first
             | (injection hx with h1 h2; exact .inl ⟨_, h1.symm⟩)
             | (injection hx with h1 h2; exact .inr h1.symm)
         · cases hx)
  generalize hr : (execOp a.eval o).run P w = r at *
  cases r with
  | ok x w' =>
    rcases key x w' rfl with ⟨v, rfl⟩ | rfl
    · exact hu
    · exact hu
  | halt x w' => cases x <;> exact hu
theorem Qrk {i : Nat} (hp : ∀ o, ops[i]? = some o -> Qpj o.op = true) (hL : ¬ LetsOut Q) {K : Act -> World -> Prop} {a : Act} {w : World} (h : wpOp P ops Q i K a w) : wpOpIn F n P ops Q i K a w := by
  unfold wpOp at h; unfold wpOpIn
  cases ho : ops[i]? with
  | none => rw [ho] at h; exact h
  | some o =>
    rw [ho] at h; have hpo := hp o ho; simp only at h |-
    split
    · rename_i hw; rw [if_pos hw] at h
      rcases h with h | h
      · refine ⟨fun f hf => ?_, ?_⟩
        · rw [Qxg hpo] at hf; cases hf
        · rw [Oper.semAt_plain F _ _ (fun c hc => by rw [hc] at hpo; cases hpo)]; exact Qmn hpo h
      · exact absurd h.2 hL
    · rename_i hw; rw [if_neg hw] at h; exact ⟨fun f hf => (by rw [Qxg hpo] at hf; cases hf), h⟩
theorem Qcf {md : Region.Mode} (hp : ∀ (i : Nat) o, ops[i]? = some o -> Qpj o.op = true) (hL : ¬ LetsOut Q) : ∀ (fuel : Nat) (listed : Array Bool) (a : Act) (w : World), wpAny P md ops Q fuel listed a w -> wpAnyIn F n P md ops Q fuel listed a w
  | 0, _, _, _, h => h
  | fuel + 1, listed, a, w, h => ⟨h.1, fun i hi => wpOpIn_mono (fun a' w' h' => Qcf hp hL fuel _ a' w' h') (Qrk (hp i) hL (h.2 i hi))⟩
theorem Qok {i : Nat} {K : Act -> World -> Prop} {a : Act} {w : World} (h : wpOp P ops (NoPanic Q) i K a w) : wpOp P ops Q i K a w := by
  unfold wpOp at h |-
  cases ho : ops[i]? with
  | none => rw [ho] at h; exact h
  | some o =>
    rw [ho] at h; simp only at h |-
    split
    · rename_i hw; rw [if_pos hw] at h
      rcases h with h | ⟨h1, h2⟩
      · left; unfold Oper.wp at h |-; generalize (execOp a.eval o).run P w = r at *
        cases r with
        | ok x w' =>
          cases x
          all_goals try exact h
          · refine Calls.mono h fun e w'' he => ?_
            cases e with
            | returned v => exact he
            | panicked c => exact (he : False).elim
            | outgrown => exact he
        | halt x w' =>
          cases x; all_goals try exact h
          exact (h : False).elim
      · exact .inr ⟨h1, h2⟩
    · rename_i hw; rw [if_neg hw] at h; exact h
theorem Qze {md : Region.Mode} : ∀ (fuel : Nat) (listed : Array Bool) (a : Act) (w : World), wpAny P md ops (NoPanic Q) fuel listed a w -> wpAny P md ops Q fuel listed a w
  | 0, _, _, _, h => h
  | fuel + 1, listed, a, w, h => ⟨h.1, fun i hi => wpOp_mono (fun a' w' h' => Qze fuel _ a' w' h') (Qok (h.2 i hi))⟩
theorem Qkq {i : Nat} {o : Oper} {K : Act -> World -> Prop} {a : Act} {w : World} (ho : ops[i]? = some o) (hd : o.dst = none) (hg : o.guard = none) (w' : World) (he : (execOp a.eval o).run P w = .ok .skip w') (h : K a w') : wpOp P ops Q i K a w := by
  refine wpOp_step ho (fun K' hK => ?_); have hw : Region.wanted o (yielded ops a.tmps) = true := by simp [Region.wanted, hg]
  rw [if_pos hw]; unfold Oper.wp; rw [he, Oper.upon_skip, hd]; exact hK _ _ h
theorem Qni {id : Nat} {a : Act} {w : World} (S : World -> Prop) (hm : P.follows .mixedOrders = true) (hp : ops.all (fun o => Qpj o.op) = true) (hL : ¬ LetsOut Q) (hS : S w.drew)
    (h : S w.drew -> wpAnyH P .any ops (NoPanic Q) S ops.size (Array.replicate ops.size false) a w.drew) : (Code.region id ops true).wpIn F n P Q a w := by
  refine wpIn_region_any hm ?_
  refine Qcf (fun i o ho => ?_) hL _ _ _ _ ?_
  · rw [Array.all_eq_true] at hp; obtain ⟨hi, rfl⟩ := Array.getElem?_eq_some_iff.1 ho; exact hp i hi
  · have h1 := wpAny_of_held _ _ _ _ (h hS); exact Qze _ _ _ _ h1
end
end
section
open Go.RowKit Go.Shelf
attribute [local go_sem] Oper.semAt_some
theorem Qsu (a : Option Addr) (len cap : Nat) (w : World) :
    Calls Try.prog 41 #[.slice a len cap] w fun e w' => e = .returned (.func (.func 64) #[] #[.pointer (some ⟨w.heap.size, 0, none⟩)]) /\ w' = w.alloc (.cells #[.slice a len cap] 22) := by
  go_enter Try.func41, Try.ntmps41; go_wp2; go_ret; exact ⟨rfl, rfl⟩
theorem Qgb {n : Nat} {A B : World} (h : Hush n A B) {k : Nat} {t : TypeId} {cs : Array Value} (hr : Qa A k t cs) : Qa B k t cs := h.cells k cs t (0, 0) hr
theorem Quc {n k : Nat} {w A B : World} (h : Hush n A B) (hk : k <= n) (hb : Below k w A) : Below k w B := ⟨h.os.trans hb.os, h.tape.trans hb.tape, h.output.trans hb.output, Nat.le_trans hb.size h.size, fun i hi => (h.low i (by omega)).trans (hb.block i hi)⟩
theorem Qit {fn : Func} {p q : Tmp} {t u : TypeId} (h : fn.results = #[.cell p t, .cell q u]) (tmps : Array Value) (P : Program) (w : World) :
    (results fn tmps).run P w =
      ((asAddr (tmps.getD p undef)).run P w).andThen fun a w₁ => ((loadVar t a).run P w₁).andThen fun v w₂ => ((asAddr (tmps.getD q undef)).run P w₂).andThen fun b w₃ => ((loadVar u b).run P w₃).andThen fun u w₄ => .ok (.tuple #[v, u]) w₄ := by
  simp only [results, h]; simp [Sem.run_bind, Result.andThen]
theorem res_c2 {P : Program} {fn : Func} {p q : Tmp} {t u : TypeId} (h : fn.results = #[.cell p t, .cell q u]) (tmps : Array Value) (w : World) (g k : Nat) (cs : Array Value) (v : Value) (d : TypeDesc) (hp : tmps.getD p undef = .pointer (some ⟨g, 0, none⟩)) (hq : tmps.getD q undef = .pointer (some ⟨k, 0, none⟩)) (hg : Qa w g t cs)
    (hk : (loadVar u ⟨k, 0, none⟩).run P w = .ok v w)
    (hu : P.underlying t = some d) (hd : (match d with | .struct _ | .array _ _ => true | _ => false) = true) (hi : (P.info? t).map (·.size) = some cs.size) :
    (results fn tmps).run P w = .ok (.tuple #[.agg cs, v]) w := by
  have h1 := run_loadVar_row (P := P) w g t t cs (0, 0) d hg hu hd hi; rw [Qit h, hp, hq]; simp only [asAddr, Sem.run_pure, Result.andThen_ok, h1, hk]
structure CkI (n0 : Nat) (w : World) (av : Option Addr) (ln cv : Nat) (rs : List Rec) (pre : List Nat) (W : World) : Prop where
  box : Qa W n0 22 #[.slice av ln cv]
  tab : Qa W (n0 + 1) 28 #[.slice none 0 0, .slice none 0 0]
  rest : Qa W (n0 + 1 + 1) 22 #[.slice none 0 0]
  bel : Below n0 w W
  part : ckL rs (ln - pre.length) = ckL rs ln
  size : n0 + 1 + 1 + 1 < W.heap.size
theorem CkI.hush {n0 n : Nat} {w : World} {av : Option Addr} {ln cv : Nat} {rs : List Rec} {pre : List Nat} {A B : World} (h : CkI n0 w av ln cv rs pre A) (hn : n0 <= n) (hc : Hush n A B) : CkI n0 w av ln cv rs pre B :=
  ⟨Qgb hc h.box, Qgb hc h.tab, Qgb hc h.rest, Quc hc hn h.bel, h.part, Nat.lt_of_lt_of_le h.size hc.size⟩
def CkX (n0 : Nat) (w : World) (av : Option Addr) (ln cv : Nat) (ms : List (Rec × Value × Value)) (W : World) : Prop :=
  ∃ j i b off, ckL (msR ms) ln = some (j, i) /\ av = some ⟨b, off, none⟩ /\ Qa W (n0 + 1) 28 #[(ms.getD j rcZ).2.1, (ms.getD j rcZ).2.2] /\ Qa W (n0 + 1 + 1) 22 #[.slice (some ⟨b, off + (i + 1) * 14, none⟩) (ln - (i + 1)) (cv - (i + 1))] /\ Below n0 w W
def CkAns (w : World) (v : Value) (ms : List (Rec × Value × Value)) (e : Ending) (w' : World) : Prop :=
  Below w.heap.size w w' /\ ((ckL (msR ms) ms.length = none /\ e = .returned (.tuple #[.agg #[.slice none 0 0, .slice none 0 0], v])) ∨
    ∃ j i b off c, ckL (msR ms) ms.length = some (j, i) /\ v = .slice (some ⟨b, off, none⟩) ms.length c /\ e = .returned (.tuple #[.agg #[(ms.getD j rcZ).2.1, (ms.getD j rcZ).2.2], .slice (some ⟨b, off + (i + 1) * 14, none⟩) (ms.length - (i + 1)) (c - (i + 1))]))
theorem Qao {x : World} {k : Nat} {cs : Array Value} (hr : Qa x k 22 cs) {a : Option Addr} {l c : Nat} (h : cs = #[.slice a l c]) : (loadVar 22 ⟨k, 0, none⟩).run Try.prog x = .ok (.slice a l c) x := by
  subst h; have h1 := hr.cell 0 _ rfl; go_simp
def actC (n0 : Nat) (av : Option Addr) (ln cv g x : Nat) (rc : Array Value) : Act :=
  { tmps := #[.slice av ln cv, .pointer (some ⟨n0, 0, none⟩), .pointer (some ⟨n0 + 1, 0, none⟩), .pointer (some ⟨n0 + 1 + 1, 0, none⟩), undef, .pointer (some ⟨g, 0, none⟩), undef, undef, .slice av ln cv, .func (.func 64) #[] #[.pointer (some ⟨n0 + 1 + 1 + 1, 0, none⟩)], .int .i64 (x : Int), .agg rc, undef, undef, undef, undef, undef, undef, undef, undef, undef, undef, undef, undef, undef, undef, undef, undef, undef, undef, undef, undef, undef, undef, undef, undef, undef, undef, undef, undef, undef, undef], defers := [] }
def AcC (nn n0 : Nat) (w : World) (av : Option Addr) (ln cv : Nat) (ms : List (Rec × Value × Value)) (pre : List Nat) (x : Nat) (c : Act) (W : World) : Prop :=
  ∃ g, c = actC n0 av ln cv g x (rcF (ms.getD x rcZ)) /\ Qa W g 46 (rcF (ms.getD x rcZ)) /\ CkI n0 w av ln cv (msR ms) pre W /\ x + 1 + pre.length = ln /\ nn <= W.heap.size
set_option maxRecDepth 100000 in
theorem ck16 (w : World) (v : Value) (ms : List (Rec × Value × Value)) (hl : LogIn w v ms) (hr : Qcb 0 (msR ms)) :
    Calls Try.prog 30 #[v] w (CkAns w v ms) := by
  have HL := Qb hl; have HR := Qb hr; obtain ⟨av, cv, rfl, hcap⟩ := hl.slice; have hfew := hl.few; obtain ⟨ln, hln⟩ : ∃ k, k = ms.length := ⟨_, rfl⟩; rw [<- hln] at HL hfew hcap |-; have HLN := Qb hln; clear hl hr hln; refine (callsIn_wide (n := 3)).1 ?_; refine callsIn_of_wp_marks Try.func30 rfl trivial ?_ rfl; simp only [Try.ntmps30, List.size_toArray, List.length_cons, List.length_nil, Nat.reduceAdd, Nat.reduceSub, Array.replicate_succ, Array.replicate_zero, List.push_toArray, List.append_toArray, List.nil_append, List.cons_append]; gi_wp2_with fail; refine ⟨trivial, (callsIn_wide.2 (Qsu _ ln cv _)).mono ?_⟩; rintro e w4 ⟨rfl, hw4⟩; have K3 := Qj.three w 22 28 22 #[.slice av ln cv] #[.slice none 0 0, .slice none 0 0] #[.slice none 0 0]; have z3 : (((w.alloc (.cells #[.slice av ln cv] 22)).alloc (.cells #[.slice none 0 0, .slice none 0 0] 28)).alloc (.cells #[.slice none 0 0] 22)).heap.size = w.heap.size + 1 + 1 + 1 := by simp
  rw [z3]; have K4 := K3.more ((Below.refl _ _).alloc (Nat.le_refl _) (.cells #[.slice av ln cv] 22)) (Qa.new _ 22 #[.slice av ln cv]); rw [z3, <- hw4] at K4; have HZ4 : Hid (w4.heap.size = w.heap.size + 1 + 1 + 1 + 1) := by rw [hw4, World.size_alloc, z3]; exact rfl
  have HK4 := Qb K4; clear K3 K4 z3 hw4; obtain ⟨n0, hn0⟩ : ∃ n0, n0 = w.heap.size := ⟨_, rfl⟩; rw [<- hn0] at HK4 HZ4; rw [<- hn0]; have HN0 := Qb hn0; clear hn0; gi_wp2
  have hz4 : n0 <= w4.heap.size := by
    rw [HZ4.out]; omega
  have HL4 : Hid (LogIn w4 (.slice av ln cv) ms) := HL.out.below HK4.out.2
  refine Qtk (α := Nat) rfl (by decide) (gf := 64) (lb := #[.pointer (some ⟨n0 + 1 + 1 + 1, 0, none⟩)]) rfl trivial (enters_of Try.func64 (by kernel_rfl) rfl)
    (Qvr ms) (fun _ => rfl) (fun pre x W => x + 1 + pre.length = ln) (fun xs W => xs.length = ln) (Below w4.heap.size) (CkI n0 w av ln cv (msR ms))
    (fun pre W => CkX n0 w av ln cv ms W) (AcC w4.heap.size n0 w av ln cv ms)
    (fun A B C h hc => Quc hc (Nat.le_refl _) h) (fun A B C h k => h.trans k)
    (fun s A B hc h => h.hush hz4 hc) (fun s A B hc h => ?cx)
    (fun s x c A B hc h => ?ca)
    (fun l J Jx W hb hJ hY h0 => back16 l 2 (n0 + 1 + 1 + 1) ln av cv ms w4 (by decide) J Jx HLN.out hJ hY W HL4.out hb (HK4.out.1.1) h0)
    ⟨HK4.out.1.2.2.2.1, HK4.out.1.2.2.1, HK4.out.1.2.1, by rw [HN0.out]; exact HK4.out.2, rfl, by rw [HZ4.out]; omega⟩ (fun _ _ _ _ h => h) ?assign ?body ?done ?stop
  case cx =>
    obtain ⟨j, i, b, off, h1, h2, h3, h4, h5⟩ := h; exact ⟨j, i, b, off, h1, h2, Qgb hc h3, Qgb hc h4, Quc hc hz4 h5⟩
  case ca =>
    obtain ⟨g, h1, h2, h3, h4, h5⟩ := h; exact ⟨g, h1, Qgb hc h2, h3.hush hz4 hc, h4, Nat.le_trans h5 hc.size⟩
  case assign =>
    rintro l pre x W K hi hg hK; have HI := Qb hi; have HG := Qb hg; have HKK := Qb hK; have HW : Hid (x < ms.length) := by rw [<- HLN.out]; unfold Hid; omega
    have HZW : Hid (w4.heap.size <= W.heap.size) := by
      have h1 := hi.size; rw [HZ4.out]; exact h1
    clear hi hg hK
    have h1c : (rcF (ms.getD x rcZ)).all (·.oneCell') = true := by
      obtain ⟨b, off, _, _, _, hx⟩ := HL.out.mid HW.out; exact all15 (hx w (Below.refl _ _)).2
    obtain ⟨A, hA⟩ : ∃ A, A = rcF (ms.getD x rcZ) := ⟨_, rfl⟩; have hsz : A.size = 14 := by rw [hA]; rfl
    unfold Qvr; rw [<- hA] at h1c |-; have HA := Qb hA; have HSZ := Qb hsz; have H1C := Qb h1c; clear hA hsz h1c; gi_wp2_with (refine Qwh rfl 46 (.tmp 5) (.tmp 11) rfl W.heap.size Qvc A rfl rfl (Qa.new W 46 Qvc) (by rw [HSZ.out]; exact Qaa) (by rw [HSZ.out]; rfl) H1C.out ?_); intro w2 hr2 hg2; have hb2 : Below W.heap.size W w2 := ((Below.refl W.heap.size W).alloc (Nat.le_refl _) (.cells Qvc 46)).grown hg2 (by simp) (fun k hk => by cases hk; exact Nat.le_refl _); have HC := Qb (Hush.of_below (n := n0) hb2 (by have := HI.out.box.lt; omega)); gi_wp2
    refine HKK.out _ w2 ⟨hb2.size, fun k o _ hk _ => (hb2.block k (Array.getElem?_eq_some_iff.1 hk).1).trans hk⟩ (hb2.mono ?_) ⟨W.heap.size, ?_, ?_, HI.out.hush (Nat.le_refl _) HC.out, HG.out, Nat.le_trans HZW.out hb2.size⟩
    · exact HZW.out
    · unfold actC; rw [HA.out]
    · rw [<- HA.out]; exact hr2
  case body =>
    rintro l pre x c W ⟨g, rfl, hg, hi, hx, hzw⟩; have HZW := Qb hzw; clear hzw; have HI := Qb hi; have HX := Qb hx; have HGR := Qb hg; have HXM : Hid (x < ms.length) := by rw [<- HLN.out]; unfold Hid; omega
    have HCK : Hid (ckL (msR ms) (x + 1) = ckL (msR ms) ln) := by
      have e : x + 1 = ln - pre.length := by omega
      rw [e]; exact hi.part
    have hm : ∃ m, m = ms.getD x rcZ := ⟨_, rfl⟩; obtain ⟨m, hm⟩ := hm; rw [<- hm] at hg HGR |-; have hmr : m.1 = (msR ms).getD x Rec.zero := by rw [hm, Qgg]
    have HM := Qb (And.intro hm hmr); have hb := hi.box.cell 0 _ rfl; have hc0 := hg.cell 0 (.int .i64 m.1.k) rfl; clear hi hx hg hm hmr; obtain ⟨rc, hrc⟩ : ∃ rc, rc = rcF m := ⟨_, rfl⟩; rw [<- hrc] at HGR |-; have HRC := Qb hrc; clear hrc; unfold actC; dsimp only
    have HNX : Hid (m.1.k ≠ 8 ∨ Qat (msR ms) m.1.b = none -> ckL (msR ms) (ln - (pre ++ [x]).length) = ckL (msR ms) ln) := fun h => by
      rw [List.length_append, List.length_singleton]; have e : ln - (pre.length + 1) = x := by have := HX.out; omega
      rw [e, <- HCK.out]; show _ = if ((msR ms).getD x Rec.zero).k = 8 then _ else _
      rw [<- HM.out.2]
      rcases h with h | h
      · rw [if_neg h]
      · by_cases h8 : m.1.k = 8
        · rw [if_pos h8]; rw [h]
        · rw [if_neg h8]
    by_cases h8 : m.1.k = 8
    · have HK8 := Qb h8; rw [h8] at hc0; clear h8; have HWB : Hid (Below w.heap.size w W) := by have h := HI.out.bel; rwa [HN0.out] at h
      have HF := Qb (Qdr 43 g n0 ln (fun k => Qoi (m.1.b : Int) (((msR ms).getD k Rec.zero).l : Int)) W (fun y h hy hh => by
        obtain ⟨b, off, rfl, hf, hm9, hx9⟩ := HL.out.mid (i := h) (by rw [<- HLN.out]; exact hh); have hrg := (hx9 y (HWB.out.trans (hy.mono HWB.out.size))).1; have hb9 := (Qzk hrg).1; rw [hm9] at hb9
        exact ck1_16 y g n0 h b off ln cv m.1.b ((msR ms).getD h Rec.zero).l ((HGR.out.later hy).cell 11 _ (by rw [HRC.out]; rfl)) ((HI.out.box.later hy).cell 0 _ rfl) hb9 hh (by omega)) callf_ck1 (by rw [HLN.out, <- Qka]; exact sf_less HR.out m.1.b) (by omega))
      gi_wp2_with fail; refine ⟨trivial, (CallsIn.inRound l (callsIn_wide.2 HF.out)).mono ?_⟩; rintro e w1 ⟨i, q, rfl, hsf, hb1⟩; have HSF := Qb (by rw [HLN.out, <- Qka] at hsf; exact sf_beg HR.out hsf); have HB1 := Qb hb1; have HI1 := Qb (CkI.mk (HI.out.box.later hb1) (HI.out.tab.later hb1) (HI.out.rest.later hb1) (HI.out.bel.trans (hb1.mono (by rw [HN0.out]; exact HWB.out.size))) HI.out.part (Nat.lt_of_lt_of_le HI.out.size hb1.size)); have HG1 := Qb (HGR.out.later hb1); have HWB1 := Qb (HWB.out.trans (hb1.mono HWB.out.size)); have HKF : Hid (KeepsFrom w4.heap.size W w1) := ⟨hb1.size, fun k o _ hk _ => (hb1.block k (Array.getElem?_eq_some_iff.1 hk).1).trans hk⟩; have HKB : Hid (Below w4.heap.size W w1) := hb1.mono HZW.out; clear hsf hb1 hb hc0 HF HI HGR HWB
      cases q with
      | false =>
        have hbl := HI1.out.box.cell 0 _ rfl; gi_wp2; exact ⟨HKF.out, HKB.out, HI1.out.box, HI1.out.tab, HI1.out.rest, HI1.out.bel, HNX.out (.inr (HSF.out.2.2 (by trivial))), HI1.out.size⟩
      | true =>
        obtain ⟨hi9, hno⟩ := HSF.out.2.1 rfl; have HNO := Qb hno; have HI9 := Qb hi9; obtain ⟨b, off, rfl, hf, hm9, hx9⟩ := HL.out.mid (i := i) (by rw [<- Qka]; exact hi9); have hrg := (hx9 w1 HWB1.out).1; have hk9 := hrg 0 _ rfl; rw [Nat.add_zero, hm9] at hk9; have hbl := HI1.out.box.cell 0 _ rfl; have j0 : (0 : Int) <= (i : Int) := by omega
        have j1 : (i : Int) < (ln : Int) := by
          have h := hi9; rw [Qka, <- HLN.out] at h; omega
        clear hno hi9 hf hm9 hx9 hrg
        by_cases h7 : ((msR ms).getD i Rec.zero).k = 7
        · have HB7 := Qb (HSF.out.1 ⟨rfl, HI9.out, h7⟩); rw [h7] at hk9; clear h7
          obtain ⟨⟨a1, c1, e1⟩, a2, c2, e2⟩ : (∃ a c, m.2.1 = .slice a m.1.ts.length c) /\ ∃ a c, m.2.2 = .slice a m.1.ds.length c := by
            obtain ⟨_, _, _, _, _, hx9⟩ := HL.out.mid HXM.out; have h := Qcj (hx9 w (Below.refl _ _)).2; rw [<- HM.out.1] at h; exact h
          have hc2 := HG1.out.cell 12 (.slice a1 m.1.ts.length c1) (by rw [HRC.out, <- e1]; rfl); have hc3 := HG1.out.cell 13 (.slice a2 m.1.ds.length c2) (by rw [HRC.out, <- e2]; rfl)
          have hix : i < x := by
            obtain ⟨h1, h2, h3⟩ := Qij HB7.out; have hmem : m.1 ∈ msR ms := by rw [HM.out.1]; exact Qzx HXM.out
            have h4 := ((Qta _ 0 HR.out _ hmem).check HK8.out).2.2.2.2.2
            rcases Nat.lt_or_ge i x with h5 | h5
            · exact h5
            · exfalso
              rcases Nat.lt_or_ge x i with h6 | h6
              · have h7 := Qac _ 0 HR.out x i h6 h1; rw [<- HM.out.2] at h7; omega
              · obtain rfl : i = x := by omega
                rw [<- HM.out.2] at h2; omega
          have j2 : (i : Int) + 1 < (ln : Int) := by
            have := HX.out; omega
          have j3 : (i : Int) + 1 <= (ln : Int) := by omega
          have j4 : (0 : Int) <= (i : Int) + 1 := by omega
          have j5 : ((i : Int) + 1).toNat = i + 1 := by omega
          have j6 : IntKind.i64.wrap ((i : Int) + 1) = (i : Int) + 1 := IntWalk.i64_in _ (by omega); have hcap2 : ln <= cv := hcap; have d2 := HI1.out.tab.cell 0 _ rfl; have d3 := HI1.out.tab.cell 1 _ rfl; have d4 := HI1.out.rest.cell 0 _ rfl; have f2 := HI1.out.tab.free 0; have f3 := HI1.out.tab.free 1; have f4 := HI1.out.rest.free 0
          have n1 : ¬ g = n0 + 1 := fun e => by
            subst e; have := (show w1.heap[_]? = _ from HG1.out).symm.trans HI1.out.tab; simp only [Option.some.injEq, Obj.cells.injEq] at this; exact absurd this.2.1 (by decide)
          have n2 : ¬ g = n0 + 1 + 1 := fun e => by
            subst e; have := (show w1.heap[_]? = _ from HG1.out).symm.trans HI1.out.rest; simp only [Option.some.injEq, Obj.cells.injEq] at this; exact absurd this.2.1 (by decide)
          have HIX := Qb hix; have HE := Qb (And.intro e1 e2); clear hix e1 e2; have HS := Qb (And.intro hc2 (And.intro hc3 hbl)); have HT2 := Qb HI1.out.tab; have HT3 := Qb HI1.out.rest; have HIT := Qb (And.intro j3 (And.intro j4 (And.intro j5 j6))); clear hc2 hc3 d2 d3 d4 f2 f3 f4 j3 j4 j5 j6; gi_wp2; refine Qni (fun z => z.cell? ⟨g, 12, none⟩ = some (.slice a1 m.1.ts.length c1) /\ z.cell? ⟨g, 13, none⟩ = some (.slice a2 m.1.ds.length c2) /\ z.cell? ⟨n0, 0, none⟩ = some (.slice (some ⟨b, off, none⟩) ln cv)) (by kernel_rfl) (by kernel_rfl) ?hL HS.out (fun hHeld => ?_); (case hL => rintro ⟨a, w, h⟩; exact h); refine tkq 0 (some 31) (.pointer (some ⟨g, 12, none⟩)) hHeld ?_; (try simp only [Act.put, List.setIfInBounds_toArray, List.set]); refine tkk 1 (some 32) (.slice a1 m.1.ts.length c1) rfl rfl (by kernel_rfl) (by kernel_rfl) (fun x hSx => by have h1 := hSx.1; go_simp) hHeld ?_; (try simp only [Act.put, List.setIfInBounds_toArray, List.set]); refine tkq 2 (some 33) (.pointer (some ⟨g, 13, none⟩)) hHeld ?_; (try simp only [Act.put, List.setIfInBounds_toArray, List.set]); refine tkk 3 (some 34) (.slice a2 m.1.ds.length c2) rfl rfl (by kernel_rfl) (by kernel_rfl) (fun x hSx => by have h1 := hSx.2.1; go_simp) hHeld ?_; (try simp only [Act.put, List.setIfInBounds_toArray, List.set]); refine tkq 4 (some 35) (.agg #[.slice a1 m.1.ts.length c1, .slice a2 m.1.ds.length c2]) hHeld ?_; (try simp only [Act.put, List.setIfInBounds_toArray, List.set]); refine tkk 5 (some 36) (.slice (some ⟨b, off, none⟩) ln cv) rfl rfl (by kernel_rfl) (by kernel_rfl) (fun x hSx => by have h1 := hSx.2.2; go_simp) hHeld ?_; (try simp only [Act.put, List.setIfInBounds_toArray, List.set]); refine tkq 6 (some 37) (.int .i64 (i : Int)) hHeld ?_; (try simp only [Act.put, List.setIfInBounds_toArray, List.set]); refine tkk 7 (some 38) (.int .i64 ((i : Int) + 1)) rfl rfl (by kernel_rfl) (by kernel_rfl) (fun x hSx => by have h6 := HIT.out.2.2.2; go_simp) hHeld ?_; (try simp only [Act.put, List.setIfInBounds_toArray, List.set]); have hq1 : ((i : Int) + 1).toNat = i + 1 := HIT.out.2.2.1; have hq2 : ¬ cv = i + 1 := by omega
          refine tkk 8 (some 39) (.slice (some ⟨b, off + (i + 1) * 14, none⟩) (ln - (i + 1)) (cv - (i + 1))) rfl rfl (by kernel_rfl) (by kernel_rfl) (fun x hSx => by have h1 := HIT.out.1; have h2 := HIT.out.2.1; go_simp) hHeld ?_; (try simp only [Act.put, List.setIfInBounds_toArray, List.set]); refine Qm 9 (by kernel_rfl) ?_; refine Qca rfl rfl rfl 28 (.tmp 2) (.tmp 35) rfl (n0 + 1) 0 28 #[.slice none 0 0, .slice none 0 0] #[.slice a1 m.1.ts.length c1, .slice a2 m.1.ds.length c2] rfl rfl HT2.out Qde (Nat.le_refl 2) (by simp [Value.oneCell']) (fun w2 hr2 ho2 => ?_); rw [Qn #[.slice none 0 0, .slice none 0 0] #[.slice a1 m.1.ts.length c1, .slice a2 m.1.ds.length c2] rfl] at hr2; have hd1 : Qa w2 g 46 rc := ho2.row (show Qa w1.drew g 46 rc from HG1.out) n1; have hbx : Qa w2 n0 22 #[.slice (some ⟨b, off, none⟩) ln cv] := ho2.row (show Qa w1.drew n0 _ _ from HI1.out.box) (by omega); have ht3 : Qa w2 (n0 + 1 + 1) 22 #[.slice none 0 0] := ho2.row (show Qa w1.drew (n0 + 1 + 1) _ _ from HT3.out) (by omega); refine ⟨⟨hd1.cell 12 _ (by rw [HRC.out, <- HE.out.1]; rfl), hd1.cell 13 _ (by rw [HRC.out, <- HE.out.2]; rfl), hbx.cell 0 _ rfl⟩, ?_⟩; (try simp only [Act.put, List.setIfInBounds_toArray, List.set]); refine Qm 10 (by kernel_rfl) ?_; have e3 := ht3.cell 0 _ rfl; have f3 := ht3.free 0; refine Qkq rfl rfl rfl (w2.setCell ⟨n0 + 1 + 1, 0, none⟩ (.slice (some ⟨b, off + (i + 1) * 14, none⟩) (ln - (i + 1)) (cv - (i + 1)))) ?hs ?_; (case hs => go_simp); have hd4 : Qa (w2.setCell ⟨n0 + 1 + 1, 0, none⟩ (.slice (some ⟨b, off + (i + 1) * 14, none⟩) (ln - (i + 1)) (cv - (i + 1)))) g 46 rc := hd1.other _ _ n2; have hb4 : Qa (w2.setCell ⟨n0 + 1 + 1, 0, none⟩ (.slice (some ⟨b, off + (i + 1) * 14, none⟩) (ln - (i + 1)) (cv - (i + 1)))) n0 22 #[.slice (some ⟨b, off, none⟩) ln cv] := hbx.other _ _ (by show n0 ≠ n0 + 1 + 1; omega); have hr4 : Qa (w2.setCell ⟨n0 + 1 + 1, 0, none⟩ (.slice (some ⟨b, off + (i + 1) * 14, none⟩) (ln - (i + 1)) (cv - (i + 1)))) (n0 + 1) 28 #[.slice a1 m.1.ts.length c1, .slice a2 m.1.ds.length c2] := hr2.other _ _ (by show n0 + 1 ≠ n0 + 1 + 1; omega); have ht4 : Qa (w2.setCell ⟨n0 + 1 + 1, 0, none⟩ (.slice (some ⟨b, off + (i + 1) * 14, none⟩) (ln - (i + 1)) (cv - (i + 1)))) (n0 + 1 + 1) 22 #[.slice (some ⟨b, off + (i + 1) * 14, none⟩) (ln - (i + 1)) (cv - (i + 1))] := ht3.set 0 _
          have hkf : KeepsFrom w4.heap.size W (w2.setCell ⟨n0 + 1 + 1, 0, none⟩ (.slice (some ⟨b, off + (i + 1) * 14, none⟩) (ln - (i + 1)) (cv - (i + 1)))) := by
            refine ⟨?_, fun k o hk ho hc => ?_⟩
            · have h1 := HKF.out.1; have h2 := ho2.size; have h3 : w1.drew.heap.size = w1.heap.size := rfl; rw [World.size_setCell]; omega
            · have h4 := HZ4.out; exact (heap_setCell_other _ _ k _ (by show k ≠ n0 + 1 + 1; omega)).trans ((ho2.block k (by omega)).trans (HKF.out.2 k o hk ho hc))
          have hbl4 : Below n0 w (w2.setCell ⟨n0 + 1 + 1, 0, none⟩ (.slice (some ⟨b, off + (i + 1) * 14, none⟩) (ln - (i + 1)) (cv - (i + 1)))) := (ho2.below (Qph HI1.out.bel) (by omega)).setCell (by show n0 <= n0 + 1 + 1; omega) _; refine ⟨⟨hd4.cell 12 _ (by rw [HRC.out, <- HE.out.1]; rfl), hd4.cell 13 _ (by rw [HRC.out, <- HE.out.2]; rfl), hb4.cell 0 _ rfl⟩, ?_⟩; (try simp only [Act.put, List.setIfInBounds_toArray, List.set]); refine wpAnyH_done (by kernel_rfl) ?_ _; refine NoPanic.normal ?_
          have HFIN : Hid (CkX n0 w (some ⟨b, off, none⟩) ln cv ms (w2.setCell ⟨n0 + 1 + 1, 0, none⟩ (.slice (some ⟨b, off + (i + 1) * 14, none⟩) (ln - (i + 1)) (cv - (i + 1))))) := by
            refine ⟨x, i, b, off, ?_, rfl, ?_, ht4, hbl4⟩
            · rw [<- HCK.out]; show (if ((msR ms).getD x Rec.zero).k = 8 then _ else _) = _; rw [<- HM.out.2, if_pos HK8.out, HB7.out]
            · rw [<- HM.out.1, HE.out.1, HE.out.2]; exact hr4
          have HKF4 := Qb hkf; clear hHeld hkf hbl4 ht4 hr4 hb4 hd4 e3 f3 ht3 hbx hd1 hr2; gi_wp2; exact ⟨HKF4.out, HFIN.out⟩
        · have HN7 := Qb (HNO.out h7); generalize ((msR ms).getD i Rec.zero).k = z at *; have k0 : (z == 7) = false := by rw [beq_eq_false_iff_ne]; exact h7
          gi_wp2; exact ⟨HKF.out, HKB.out, HI1.out.box, HI1.out.tab, HI1.out.rest, HI1.out.bel, HNX.out (.inr HN7.out), HI1.out.size⟩
    · gi_wp2; exact ⟨KeepsFrom.refl _ _, Below.refl _ _, HI.out.box, HI.out.tab, HI.out.rest, HI.out.bel, HNX.out (.inl h8), HI.out.size⟩
  case done =>
    rintro D xs W hD he hi hK; have c1 := hi.box.cell 0 _ rfl; have HI := Qb hi; have HE := Qb he; have HKK := Qb hK; have HDD := Qb hD; have c2 := hi.tab.cell 0 _ rfl; have c3 := hi.tab.cell 1 _ rfl; have c4 := hi.rest.cell 0 _ rfl; have f2 := hi.tab.free 0; have f3 := hi.tab.free 1; have f4 := hi.rest.free 0; clear hi he hK hD; have hY : ∃ Y, Y = (((W.setCell ⟨n0 + 1, 0, none⟩ (.slice none 0 0)).setCell ⟨n0 + 1, 1, none⟩ (.slice none 0 0)).setCell ⟨n0 + 1 + 1, 0, none⟩ (.slice av ln cv)).drew := ⟨_, rfl⟩; obtain ⟨Y, hY⟩ := hY
    have HT : Hid (Qa Y (n0 + 1) 28 #[.slice none 0 0, .slice none 0 0]) := by
      rw [hY]; exact ((HI.out.tab.set 0 (.slice none 0 0)).set 1 (.slice none 0 0)).other ⟨n0 + 1 + 1, 0, none⟩ (.slice av ln cv) (by show n0 + 1 ≠ n0 + 1 + 1; omega)
    have HS : Hid (Qa Y (n0 + 1 + 1) 22 #[.slice av ln cv]) := by
      rw [hY]; exact ((HI.out.rest.other ⟨n0 + 1, 0, none⟩ (.slice none 0 0) (by show n0 + 1 + 1 ≠ n0 + 1; omega)).other ⟨n0 + 1, 1, none⟩ (.slice none 0 0) (by show n0 + 1 + 1 ≠ n0 + 1; omega)).set 0 (.slice av ln cv)
    have HD9 : Hid (Y.heap[D]? = some (.deferred (some []))) := by
      have h1 := HDD.out; have h2 := HZ4.out; rw [hY]; exact (heap_setCell_other _ ⟨n0 + 1 + 1, 0, none⟩ D _ (by show D ≠ n0 + 1 + 1; omega)).trans ((heap_setCell_other _ ⟨n0 + 1, 1, none⟩ D _ (by show D ≠ n0 + 1; omega)).trans ((heap_setCell_other _ ⟨n0 + 1, 0, none⟩ D _ (by show D ≠ n0 + 1; omega)).trans HKK.out))
    have HB : Hid (Below n0 w Y) := by
      rw [hY]; exact Qph (((HI.out.bel.setCell (p := ⟨n0 + 1, 0, none⟩) (by show n0 <= n0 + 1; omega) _).setCell (p := ⟨n0 + 1, 1, none⟩) (by show n0 <= n0 + 1; omega) _).setCell (p := ⟨n0 + 1 + 1, 0, none⟩) (by show n0 <= n0 + 1 + 1; omega) _)
    have HY := Qb hY
    have HCK : Hid (ckL (msR ms) ln = none) := by
      have h := HI.out.part; rw [HE.out, Nat.sub_self] at h; exact h.symm
    clear hY; gi_wp2; gi_region; gi_wp2; rw [<- HY.out]; refine ⟨by simp, .inl ⟨_, _, rfl, run_takeDeferred HD9.out, ?_⟩⟩; have hp := Hush.put (n := n0) (.deferred none) (Nat.le_trans hz4 HDD.out) HD9.out rfl; refine ⟨_, res_c2 rfl _ _ (n0 + 1) (n0 + 1 + 1) _ _ _ rfl rfl (Qgb hp HT.out) (Qao (Qgb hp HS.out) rfl) Try.underlying28 rfl Qde, ?_⟩; refine ⟨HN0.out ▸ Quc hp (Nat.le_refl _) HB.out, .inl ⟨?_, rfl⟩⟩; rw [<- HLN.out]; exact HCK.out
  case stop =>
    rintro D pre W hD ⟨j, i, b, off, hck, rfl, ht, hs, hb⟩ hK; have HKK := Qb hK; have HDD := Qb hD; have HT := Qb ht; have HS := Qb hs; have HB := Qb hb; have HCK := Qb hck; clear ht hs hb hD hck hK; gi_wp2; refine ⟨by simp, .inl ⟨_, _, rfl, run_takeDeferred HKK.out, ?_⟩⟩; have hp := Hush.put (n := n0) (.deferred none) (Nat.le_trans hz4 HDD.out) HKK.out rfl; refine ⟨_, res_c2 rfl _ _ (n0 + 1) (n0 + 1 + 1) _ _ _ rfl rfl (Qgb hp HT.out) (Qao (Qgb hp HS.out) rfl) Try.underlying28 rfl Qde, ?_⟩
    refine ⟨HN0.out ▸ Quc hp (Nat.le_refl _) HB.out, .inr ⟨j, i, b, off, cv, ?_, ?_, ?_⟩⟩
    · rw [<- HLN.out]; exact HCK.out
    · rw [<- HLN.out]
    · rw [<- HLN.out]
end
def ofT (rs : List Rec) : Ta × List Rec :=
  match ckL rs rs.length with
  | none => (([], []), rs)
  | some (j, i) => (((rs.getD j Rec.zero).ts, (rs.getD j Rec.zero).ds), rs.drop (i + 1))
def ofA (rs : List Rec) : Ta := Qha (ofT rs).1 (ofT rs).2
theorem Qut (l : List Tx) (h : ∀ i, i < l.length -> 0 < i -> (l.getD (i - 1) Tx.zero).t < (l.getD i Tx.zero).t) : Qvl l := by
  intro p q hpq
  induction q with
  | zero => omega
  | succ q ih =>
    intro hq; have h1 := h (q + 1) hq (by omega); rw [Nat.add_sub_cancel] at h1
    rcases Nat.lt_or_ge p q with h2 | h2
    · have := ih h2 (by omega); omega
    · obtain rfl : p = q := by omega
      exact h1
theorem Qdu (l : List Di) (h : ∀ i, i < l.length -> 0 < i -> (l.getD (i - 1) Di.zero).p < (l.getD i Di.zero).p) : Qmt l := by
  intro p q hpq
  induction q with
  | zero => omega
  | succ q ih =>
    intro hq; have h1 := h (q + 1) hq (by omega); rw [Nat.add_sub_cancel] at h1
    rcases Nat.lt_or_ge p q with h2 | h2
    · have := ih h2 (by omega); omega
    · obtain rfl : p = q := by omega
      exact h1
theorem Qiq {r : Rec} (h : r.right) : TaOk (r.ts, r.ds) 1000 := by
  by_cases h8 : r.k = 8
  · obtain ⟨h1, h2, h3, h4, _⟩ := h.check h8; exact ⟨Qut _ fun i hi hp => (h3 i hi).2 hp, Qdu _ fun i hi hp => (h4 i hi).2 hp, by show r.ts.length <= _; omega, by show r.ds.length <= _; omega⟩
  · obtain ⟨_, h1, h2⟩ := h.nocheck h8; rw [h1, h2]; exact ⟨fun p q _ hq => (nomatch hq), fun p q _ hq => (nomatch hq), Nat.zero_le _, Nat.zero_le _⟩
theorem Qfo : TaOk (([], []) : Ta) 1000 := ⟨fun p q _ hq => (nomatch hq), fun p q _ hq => (nomatch hq), Nat.zero_le _, Nat.zero_le _⟩
theorem rs_rest16 {w : World} {b off len c : Nat} {ms : List (Rec × Value × Value)} (h : Qmi w (.slice (some ⟨b, off, none⟩) len c) ms) {k : Nat} (hk : k <= ms.length) (c' : Nat) : Qmi w (.slice (some ⟨b, off + k * 14, none⟩) (ms.length - k) c') (ms.drop k) := by
  obtain ⟨⟨a', cap', h1, h2⟩, h3⟩ := h; injection h1 with e1 e2 e3; subst e1; have hl : (ms.drop k).length = ms.length - k := by rw [List.length_drop]
  refine ⟨⟨_, c', by rw [hl], fun hp => ?_⟩, fun m hm => h3 m (List.mem_of_mem_drop hm)⟩; rw [hl] at hp |-; obtain ⟨b', off', e, hb, hr⟩ := h2 (by omega); injection e with e; injection e with e4 e5 e6; subst e4; subst e5; refine ⟨b, off + k * 14, rfl, hb, fun i hi => ?_⟩; rw [List.getD_eq_getElem?_getD, List.getElem?_drop, <- List.getD_eq_getElem?_getD]; have h9 := hr (k + i) (by omega); rw [show off + (k + i) * 14 = off + k * 14 + i * 14 by omega] at h9; exact h9
def CkG (w : World) (rs : List Rec) (e : Ending) (w' : World) : Prop :=
  ∃ vT vD u ms', e = .returned (.tuple #[.agg (taA vT vD), u]) /\ Qxb w' vT (ofT rs).1.1 /\ Qxc w' vD (ofT rs).1.2 /\ LogIn w' u ms' /\ msR ms' = (ofT rs).2 /\ TaOk (ofT rs).1 1000 /\ Below w.heap.size w w'
theorem ckg16 (w : World) (v : Value) (ms : List (Rec × Value × Value)) (hl : LogIn w v ms) (hr : Qcb 0 (msR ms)) :
    Calls Try.prog 30 #[v] w (CkG w (msR ms)) := by
  refine (ck16 w v ms hl hr).mono ?_
  rintro e w' ⟨hb, ⟨hn, rfl⟩ | ⟨j, i, b, off, c, hck, rfl, rfl⟩⟩
  · have e1 : ofT (msR ms) = (([], []), msR ms) := by
      unfold ofT; rw [Qka, hn]
    refine ⟨.slice none 0 0, .slice none 0 0, v, ms, rfl, ?_, ?_, hl.below hb, by rw [e1], by rw [e1]; exact Qfo, hb⟩
    · rw [e1]; exact ⟨none, 0, rfl, fun h => absurd h (by simp)⟩
    · rw [e1]; exact ⟨none, 0, rfl, fun h => absurd h (by simp)⟩
  · obtain ⟨h1, h2, h3⟩ := Qtg hck; obtain ⟨h4, h5, h6⟩ := Qij h3; rw [Qka] at h4
    have e1 : ofT (msR ms) = ((((msR ms).getD j Rec.zero).ts, ((msR ms).getD j Rec.zero).ds), (msR ms).drop (i + 1)) := by
      unfold ofT; rw [Qka, hck]
    have hL := hl.below hb; have hm := (hL.rs.2 _ (Qja ms j rcZ h1)).2; rw [<- Qgg] at hm; have hcap := hl.cap _ _ _ rfl
    refine ⟨_, _, _, ms.drop (i + 1), rfl, by rw [e1]; exact hm.1, by rw [e1]; exact hm.2, ⟨rs_rest16 hL.rs (by omega) _, ?_, ?_⟩, ?_, ?_, hb⟩
    · rw [List.length_drop]; have := hl.few; omega
    · intro a l c' he; injection he with q1 q2 q3; subst q2 q3; omega
    · rw [e1]; show msR (ms.drop (i + 1)) = (msR ms).drop (i + 1); simp [msR, List.map_drop]
    · rw [e1]; exact Qiq (Qta _ 0 hr _ (Qja _ _ _ (by rw [Qka]; exact h1)))
theorem good15 (v : Value) (ms : List (Rec × Value × Value)) (w : World) (h : LogIn w v ms) :
    Calls Try.prog 29 #[v] w fun e w' => e = .returned (.bool (Qgf 0 (msR ms))) /\ Below w.heap.size w w' := by
  obtain ⟨q, hq⟩ : ∃ q, q = Qgf 0 (msR ms) := ⟨_, rfl⟩; have HQ : Hid (q = true ↔ Qcb 0 (msR ms)) := by rw [hq]; exact Qea _ _
  rw [<- hq]; clear hq; have HA := Qb h; obtain ⟨aa, ca, rfl, hlc⟩ := h.slice; have hl := h.few; clear h; obtain ⟨ln, hln⟩ : ∃ ln, ln = ms.length := ⟨_, rfl⟩; rw [<- hln] at HA hl hlc |-; have HN := Qb hln; clear hln; have ft : (4 : Int) = 4 := rfl; go_enter Try.func29, Try.ntmps29; go_wp2; go_loopw [3, 8] (fun v i wr => ∃ (j ll : Nat), j <= ln /\ i = .int .i64 (j : Int) /\ v = .int .u64 (ll : Int) /\ ll < 18446744073709551616 /\ Hid (ll = Qya 0 ((msR ms).take j)) /\ Hid (Qcb 0 ((msR ms).take j)) /\ Hid (Below w.heap.size w wr)) (fun _ i _ => ln - (intOf i).toNat)
  case atStart => exact ⟨0, 0, Nat.zero_le _, rfl, rfl, by decide, by rw [List.take_zero]; rfl, by rw [List.take_zero]; trivial, Below.refl _ _⟩
  case round =>
    obtain ⟨j, ll, hj, rfl, rfl, hll, HLL, HRI, HBR⟩ := hrel
    by_cases hlt : j < ln
    · have hjm : j < ms.length := by rw [<- HN.out]; exact hlt
      have HS := Qb (Qfc hjm); obtain ⟨b, off, rfl, hf, _, hx⟩ := HA.out.mid hjm; obtain ⟨m, hm⟩ : ∃ m, m = ms.getD j rcZ := ⟨_, rfl⟩; rw [<- hm] at hf hx HS; clear hm; have ij : (j : Int) < (ln : Int) := by omega
      obtain ⟨hr0, hin⟩ := hx wr HBR.out; have HLD := Qb (Qmf wr b (off + j * 14) m hr0); have hb1 : Below wr.heap.size wr (wr.alloc (.cells Qvc 46)) := (Below.refl _ _).alloc (Nat.le_refl _) _; have HZ := Qb (And.intro (Qa.new wr 46 Qvc) hb1); have hall := all15 hin; have HFX := Qb (And.intro hf hx); clear hr0 hf hx hb1 hin; go_wp2_with (first | (refine Qt rfl 46 (.tmp 10) rfl _ _ rfl HLD.out ?_) | (refine Qh rfl 46 (.tmp 5) (.tmp 11) rfl wr.heap.size Qvc (rcF m) rfl rfl HZ.out.1 Qaa rfl hall ?_; intro w2 hr2 hk2 hrow2; refine Qpa ?_)); have hb2 := hk2 _ _ HZ.out.2 (Nat.le_refl _); have hbw := HBR.out.trans (hb2.mono HBR.out.size); have c1 := hr2.cell 1 (.int .u64 (m.1.l : Int)) rfl; have H2 := Qb (And.intro hr2 hbw); clear hr2 hk2 hrow2 hb2 HLD HZ; refine Qg ?_
      by_cases hle : m.1.l <= ll
      · have ile : (m.1.l : Int) <= (ll : Int) := by omega
        go_wp2; go_ret; refine ⟨?_, H2.out.2⟩; congr 2
        cases hq : q
        · rfl
        · exfalso; have h1 := Qsg _ (j + 1) (HQ.out.1 hq); rw [HS.out, Qcc, <- HLL.out] at h1; omega
      · have ile : ¬ (m.1.l : Int) <= (ll : Int) := by omega
        have HR := Qb (Qfn m.1 m.2.1 m.2.2 w2 HFX.out.1 ((HFX.out.2 w2 hbw).2)); clear hbw
        by_cases hr : m.1.right
        · rw [Qof hr] at HR; have hrl : m.1.l < 18446744073709551616 := by have := hr.lm; unfold Qtd at this; omega
          go_wp2_with (refine Qd rfl 46 (.tmp 5) rfl wr.heap.size rfl (rcF m) H2.out.1 _ Try.underlying46 rfl Qaa ?_); refine HR.out.mono ?_; rintro e w3 ⟨rfl, hb3⟩; have k1 := (H2.out.1.later hb3).cell 1 (.int .u64 (m.1.l : Int)) rfl; have HB3 := Qb (H2.out.2.trans (hb3.mono H2.out.2.size)); clear c1 hb3 HR; go_wp2; go_roundw
          case rel =>
            refine ⟨j + 1, m.1.l, by omega, by go_num, rfl, hrl, ?_, ?_, HB3⟩
            · rw [HS.out, Qgh]; exact rfl
            · rw [HS.out, Qcc, <- HLL.out]; exact ⟨HRI.out, hr, by omega⟩
          case measure => simp [intOf]; omega
        · rw [Qdh hr] at HR; go_wp2_with (refine Qd rfl 46 (.tmp 5) rfl wr.heap.size rfl (rcF m) H2.out.1 _ Try.underlying46 rfl Qaa ?_); refine HR.out.mono ?_; rintro e w3 ⟨rfl, hb3⟩; have HB3 := Qb (H2.out.2.trans (hb3.mono H2.out.2.size)); clear c1 hb3 HR; go_wp2; go_ret; refine ⟨?_, HB3.out⟩; congr 2
          cases hq : q
          · rfl
          · exfalso; have h1 := Qsg _ (j + 1) (HQ.out.1 hq); rw [HS.out, Qcc] at h1; exact hr h1.2.1
    · obtain rfl : j = ln := by omega
      go_wp2; go_ret; refine ⟨?_, HBR.out⟩; have h1 := HRI.out; rw [HN.out, <- Qka, List.take_length] at h1; rw [HQ.out.2 h1]; rfl
def Qmw (w : World) (rs : List Rec) (e : Ending) (w' : World) : Prop :=
  (Qcb 0 rs /\ ∃ s1 s2, e = .returned (.tuple #[.agg (taA (slV s1 (ofA rs).1.length) (slV s2 (ofA rs).2.length)), .int .i64 0]) /\ TaAt w w' s1 s2 (ofA rs).1 (ofA rs).2) ∨
    (¬ Qcb 0 rs /\ e = .returned (.tuple #[.agg (taA (.slice none 0 0) (.slice none 0 0)), .int .i64 2]) /\ Below w.heap.size w w')
theorem of16 (w : World) (v : Value) (ms : List (Rec × Value × Value)) (hl : LogIn w v ms) : Calls Try.prog 11 #[v] w (Qmw w (msR ms)) := by
  obtain ⟨y, hy⟩ : ∃ y, y = w.alloc (.cells #[.slice none 0 0, .slice none 0 0] 28) := ⟨_, rfl⟩; have hb0 : Below w.heap.size w y := by rw [hy]; exact (Below.refl _ _).alloc (Nat.le_refl _) _
  have hr0 : Qa y w.heap.size 28 #[.slice none 0 0, .slice none 0 0] := by rw [hy]; exact Qa.new w _ _
  have HY := Qb hy; have HL := Qb (hl.below hb0); have H0 := Qb (And.intro hr0 hb0); have HG := Qb (good15 v ms y HL.out); obtain ⟨b0, hb0'⟩ : ∃ b, b = w.heap.size := ⟨_, rfl⟩; have HB := Qb hb0'; obtain ⟨av, cv, rfl, hcap⟩ := hl.slice; have hz2 : (#[Value.slice none 0 0, Value.slice none 0 0] : Array Value).size = 2 := rfl; clear hy hb0 hr0 hl hb0' hcap; obtain ⟨ln, hln⟩ : ∃ k, k = ms.length := ⟨_, rfl⟩; rw [<- hln] at HL HG |-; have HLN := Qb hln; clear hln; have hlen : w.heap.size = b0 := HB.out.symm
  by_cases hr : Qcb 0 (msR ms)
  · have hq : Qgf 0 (msR ms) = true := (Qea _ _).2 hr; have HR := Qb hr; have HQ := Qb hq; clear hr hq hlen; go_enter Try.func11, Try.ntmps11; go_wp2_with (with_reducible refine Qxa 7 rfl ?_); rw [<- HY.out, <- HB.out]; refine Qg ?_; go_wp2_with fail; refine HG.out.mono ?_; rintro e w1 ⟨rfl, hb1⟩; rw [HQ.out]; have HL1 := Qb (HL.out.below hb1); have H1 := Qb (And.intro (H0.out.1.later hb1) (H0.out.2.trans (hb1.mono H0.out.2.size))); have HC := Qb (ckg16 w1 _ ms HL1.out HR.out); clear hb1 HL H0 HY HG; go_wp2_with fail; refine HC.out.mono ?_; rintro e w2 ⟨vT, vD, u, ms', rfl, hT, hD, hlg, hms, hok, hb2⟩
    have hca : (taA vT vD).all (·.oneCell') = true := by
      obtain ⟨a1, c1, e1, _⟩ := hT; obtain ⟨a2, c2, e2, _⟩ := hD; rw [e1, e2]; simp [taA, Value.oneCell']
    have H2 := Qb (And.intro (H1.out.1.later hb2) (H1.out.2.trans (hb2.mono H1.out.2.size))); have HIN := Qb (And.intro hT (And.intro hD hlg)); have HMS := Qb hms; have HOK := Qb hok; clear hT hD hlg hms hok hb2 H1 HC HL1; obtain ⟨ta, hta⟩ : ∃ t, t = taA vT vD := ⟨_, rfl⟩; have htz : ta.size = 2 := by rw [hta]; rfl
    rw [<- hta] at hca |-; have HTA := Qb hta; have hri : (Try.prog.info? 28).map (·.size) = some ta.size := by rw [htz]; exact Qde
    clear hta; go_wp2_with (refine Qh rfl 28 (.tmp 4) (.tmp 13) rfl w2.heap.size #[.slice none 0 0, .slice none 0 0] ta rfl rfl (Qa.new w2 _ _) hri (by rw [htz]; rfl) hca ?_; intro w5 hr5 hk5 hrow5; refine Qpa ?_); have hb5 : Below w2.heap.size w2 w5 := hk5 _ w2 ((Below.refl _ _).alloc (Nat.le_refl _) _) (Nat.le_refl _); have HTK := Qb (taken16 w5 vT vD (ofT (msR ms)).1.1 (ofT (msR ms)).1.2 u ms' (HIN.out.1.below hb5) (HIN.out.2.1.below hb5) HOK.out (HIN.out.2.2.below hb5)); rw [HMS.out, <- HTA.out] at HTK; have H5 : Hid (Qa w5 b0 28 #[.slice none 0 0, .slice none 0 0] /\ Below w.heap.size w w5) := ⟨HB.out ▸ H2.out.1.later hb5, H2.out.2.trans (hb5.mono H2.out.2.size)⟩; have HR5 := Qb hr5; clear hr5 hk5 hrow5 hb5 H2 HIN HMS HOK HTA; generalize w2.heap.size = b5 at *; refine Qg ?_; go_wp2_with (refine Qd rfl 28 (.tmp 4) rfl b5 rfl ta HR5.out _ Try.underlying28 rfl hri ?_); refine HTK.out.mono ?_; rintro e w6 ⟨s1, s2, rfl, hta⟩; have H6 := Qb (And.intro (H5.out.1.later hta.bel) (H5.out.2.trans (hta.bel.mono H5.out.2.size))); have h5s := H5.out.2.size; have HTT : Hid (Qha ((ofT (msR ms)).1.1, (ofT (msR ms)).1.2) (ofT (msR ms)).2 = ofA (msR ms)) := rfl; rw [HTT.out] at hta |-; obtain ⟨ra, hra⟩ : ∃ t, t = taA (slV s1 (ofA (msR ms)).1.length) (slV s2 (ofA (msR ms)).2.length) := ⟨_, rfl⟩; have hrz : ra.size = 2 := by rw [hra]; rfl
    have hro : ra.all (·.oneCell') = true := by rw [hra]; simp [taA, slV, Value.oneCell']
    have hrj : (Try.prog.info? 28).map (·.size) = some ra.size := by rw [hrz]; exact Qde
    rw [<- hra]; have HRA := Qb hra; have HT6 := Qb hta; have HS := Qb h5s; clear hra hta h5s HTK H5 HR5; go_wp2_with (refine Qh rfl 28 (.tmp 2) (.tmp 17) rfl b0 #[.slice none 0 0, .slice none 0 0] ra rfl rfl H6.out.1 hrj (by rw [hrz]; rfl) hro ?_; intro w7 hr7 hk7 hrow7; refine Qpa ?_)
    have HF : Hid (Qa w7 b0 28 ra /\ TaAt w w7 s1 s2 (ofA (msR ms)).1 (ofA (msR ms)).2) := by
      have h0 : w.heap.size <= b0 := by have := HB.out; omega
      refine ⟨hr7, HT6.out.t.keep (fun b hb => ?_), HT6.out.d.keep (fun b hb => ?_), fun b hb => Nat.le_trans HS.out (HT6.out.n1 b hb), fun b hb => Nat.le_trans HS.out (HT6.out.n2 b hb), hk7 w.heap.size w H6.out.2 h0⟩
      · obtain ⟨cs, h2⟩ := HT6.out.t.kind hb; exact (hrow7 b _ _ (fun e => HT6.out.t.not H6.out.1 (by decide) (by rw [<- e]; exact hb)) h2).trans h2.symm
      · obtain ⟨cs, h2⟩ := HT6.out.d.kind hb; exact (hrow7 b _ _ (fun e => HT6.out.d.not H6.out.1 (by decide) (by rw [<- e]; exact hb)) h2).trans h2.symm
    clear hr7 hk7 hrow7; refine Qg ?_; go_wp2; exact bodyPost_ret (Qyk rfl _ _ b0 ra _ rfl HF.out.1 Try.underlying28 rfl hrj) rfl (.inl ⟨HR.out, s1, s2, by rw [HRA.out]; rfl, HF.out.2⟩)
  · have hq : Qgf 0 (msR ms) = false := by
      cases h : Qgf 0 (msR ms)
      · rfl
      · exact absurd ((Qea _ _).1 h) hr
    have HR := Qb hr; have HQ := Qb hq; clear hr hq hlen; go_enter Try.func11, Try.ntmps11; go_wp2_with (with_reducible refine Qxa 7 rfl ?_); rw [<- HY.out, <- HB.out]; refine Qg ?_; go_wp2_with fail; refine HG.out.mono ?_; rintro e w1 ⟨rfl, hb1⟩; rw [HQ.out]; have H1 := Qb (And.intro (HB.out ▸ H0.out.1.later hb1 : Qa w1 b0 28 #[.slice none 0 0, .slice none 0 0]) (H0.out.2.trans (hb1.mono H0.out.2.size))); clear hb1 HL H0 HY HG; have c0 := H1.out.1.cell 0 _ rfl; have c1 := H1.out.1.cell 1 _ rfl; have f0 := H1.out.1.free 0; have f1 := H1.out.1.free 1; go_wp2; refine bodyPost_ret (Qyk rfl _ _ b0 #[.slice none 0 0, .slice none 0 0] _ rfl ((H1.out.1.set 0 (.slice none 0 0)).set 1 (.slice none 0 0)) Try.underlying28 rfl Qde) rfl (.inr ⟨HR.out, rfl, ?_⟩); have h0 : w.heap.size <= b0 := by have := HB.out; omega
    exact (H1.out.2.setCell (p := ⟨b0, 0, none⟩) h0 _).setCell (p := ⟨b0, 1, none⟩) h0 _
def Qhj (x : Tx) : Bool -> List Tx -> List Tx
  | d, [] => if d = true then [] else [x]
  | d, y :: l => if y.t = x.t then Qhj x d l else if x.t < y.t /\ d = false then x :: y :: Qhj x true l else y :: Qhj x d l
def putL : List Tx -> Tx -> List Tx
  | [], x => [x]
  | y :: l, x => if y.t < x.t then y :: putL l x else if y.t = x.t then x :: l else x :: y :: l
theorem Qfh (x : Tx) : ∀ l : List Tx, (∀ y ∈ l, y.t ≠ x.t) -> Qhj x true l = l
  | [], _ => rfl
  | y :: l, h => by
    rw [Qhj, if_neg (h y (by simp)), if_neg (by simp), Qfh x l fun z hz => h z (List.mem_cons_of_mem _ hz)]
theorem Qju (x : Tx) : ∀ l : List Tx, (∀ y ∈ l, x.t < y.t) -> Qhj x false l = x :: l
  | [], _ => rfl
  | y :: l, h => by
    have := h y (by simp); rw [Qhj, if_neg (by omega), if_pos ⟨this, rfl⟩, Qfh x l fun z hz => by have := h z (List.mem_cons_of_mem _ hz); omega]
theorem Qtr (x : Tx) : ∀ l : List Tx, Qvl l -> Qhj x true l = Qba l x.t
  | [], _ => rfl
  | y :: l, h => by
    have hh := Qef h; rw [Qhj, Qba]
    by_cases e : y.t = x.t
    · rw [if_pos e, if_pos e, Qfh x l fun z hz => by have := hh z hz; omega]
    · rw [if_neg e, if_neg e, if_neg (by simp), Qtr x l (Qje h)]
theorem putX_in (x : Tx) : ∀ l : List Tx, Qvl l -> Qhj x false l = putL l x
  | [], _ => rfl
  | y :: l, h => by
    have hh := Qef h; rw [Qhj, putL]
    by_cases e : y.t = x.t
    · rw [if_pos e, if_neg (by omega), if_pos e, Qju x l fun z hz => by have := hh z hz; omega]
    · rw [if_neg e]
      by_cases e2 : x.t < y.t
      · rw [if_pos ⟨e2, rfl⟩, if_neg (by omega), if_neg e, Qfh x l fun z hz => by have := hh z hz; omega]
      · rw [if_neg (by simp [e2]), if_pos (by omega), putX_in x l (Qje h)]
def Qke (r : Rec) (x : Tx) (l : List Tx) : Tx := l.foldl (fun x y => if y.t = r.t then y else x) x
theorem Qdl (r : Rec) (x : Tx) (l : List Tx) (y : Tx) : Qke r x (l ++ [y]) = if y.t = r.t then y else Qke r x l := by
  unfold Qke; rw [List.foldl_append]; rfl
theorem Qsh (r : Rec) : ∀ (l : List Tx) (x : Tx), (∀ y ∈ l, y.t ≠ r.t) -> Qke r x l = x
  | [], _, _ => rfl
  | y :: l, x, h => by
    have := Qsh r l x fun z hz => h z (List.mem_cons_of_mem _ hz)
    unfold Qke at this |-; rw [List.foldl_cons, if_neg (h y (by simp)), this]
theorem findX_t (r : Rec) (l : List Tx) : (Qke r (Qza r) l).t = r.t := by
  induction l using Qsb with
  | h0 => rfl
  | h1 l y ih =>
    rw [Qdl]
    split
    · assumption
    · exact ih
theorem Qwo (r : Rec) : ∀ (l : List Tx) , Qvl l -> Qpb l r = putL l (Qag (Qke r (Qza r) l) r)
  | [], _ => rfl
  | y :: l, h => by
    have hh := Qef h; have hc : Qke r (Qza r) (y :: l) = Qke r (if y.t = r.t then y else Qza r) l := rfl; have ht : (Qag (Qke r (Qza r) (y :: l)) r).t = r.t := findX_t r (y :: l); rw [Qpb, putL, ht]
    by_cases e1 : y.t < r.t
    · rw [if_pos e1, if_pos e1, Qwo r l (Qje h), hc, if_neg (by omega)]
    · rw [if_neg e1, if_neg e1]
      by_cases e2 : y.t = r.t
      · rw [if_pos e2, if_pos e2, hc, if_pos e2, Qsh r l y fun z hz => by have := hh z hz; omega]
      · rw [if_neg e2, if_neg e2, hc, if_neg e2, Qsh r l _ fun z hz => by have := hh z hz; omega]
def Qig (x : Tx) (r : Rec) : Tx := ⟨x.t, if r.k = 4 then 2 else if r.k = 3 then 3 else x.s, x.f, if r.k = 5 then 0 else r.l, if r.k = 1 then r.l else if r.k = 2 then r.n else x.n⟩
def rowsX (l : List Tx) (r : Rec) : List Tx := Qhj (Qig (Qke r (Qza r) l) r) (decide (r.k = 5)) l
theorem rowsX_is (l : List Tx) (r : Rec) (h : Qvl l) : rowsX l r = if r.k = 5 then Qba l r.t else Qpb l r := by
  unfold rowsX
  by_cases e : r.k = 5
  · rw [if_pos e, decide_eq_true e, Qtr _ _ h]; show Qba l (Qke r (Qza r) l).t = _; rw [findX_t]
  · rw [if_neg e, decide_eq_false e, putX_in _ _ h, Qwo r l h]; unfold Qig Qag; rw [if_neg e]
def Qlq (p : Int) (n : Nat) : Bool -> List Di -> List Di
  | d, [] => if d = true then [] else [⟨p, n⟩]
  | d, y :: l => if p < y.p /\ d = false then ⟨p, n⟩ :: y :: Qlq p n true l else y :: Qlq p n d l
theorem Qap (p : Int) (n : Nat) : ∀ l : List Di, Qlq p n true l = l
  | [] => rfl
  | y :: l => by rw [Qlq, if_neg (by simp), Qap p n l]
theorem Qwk : ∀ (l : List Di) (p : Int) (n : Nat), Qmt l -> (∃ y ∈ l, y.p = p) -> Qia l p n = l
  | [], _, _, _, h => by obtain ⟨y, h, _⟩ := h; cases h
  | x :: l, p, n, h, hy => by
    have hh := Qio h; obtain ⟨y, h1, h2⟩ := hy; rw [Qia]
    by_cases e : x.p = p
    · rw [if_neg (by omega), if_pos e]
    · rcases List.mem_cons.1 h1 with rfl | h1
      · exact absurd h2 e
      · have := hh y h1; rw [if_pos (by omega), Qwk l p n (Qro h) ⟨y, h1, h2⟩]
theorem Qsl : ∀ (l : List Di) (p : Int) (n : Nat), (∀ y ∈ l, y.p ≠ p) -> Qia l p n = Qlq p n false l
  | [], _, _, _ => rfl
  | x :: l, p, n, h => by
    have := h x (by simp); rw [Qia, Qlq]
    by_cases e : x.p < p
    · rw [if_pos e, if_neg (by omega), Qsl l p n fun z hz => h z (List.mem_cons_of_mem _ hz)]
    · rw [if_neg e, if_neg this, if_pos ⟨by omega, rfl⟩, Qap]
def ofN (rs : List Rec) (n : Nat) : Ta × Nat :=
  match ckL rs n with
  | none => (([], []), 0)
  | some (j, i) => (((rs.getD j Rec.zero).ts, (rs.getD j Rec.zero).ds), i + 1)
def inN (rs : List Rec) (n k : Nat) : Ta × Nat :=
  if (rs.getD n Rec.zero).k = 8 then
    match Qat rs (rs.getD n Rec.zero).b with
    | some i => if i < k then (((rs.getD n Rec.zero).ts, (rs.getD n Rec.zero).ds), i + 1) else ofN rs n
    | none => ofN rs n
  else ofN rs n
theorem Qes (rs : List Rec) (n : Nat) : inN rs n 0 = ofN rs n := by
  unfold inN
  split
  · split
    · rw [if_neg (by omega)]
    · rfl
  · rfl
theorem Qam {rs : List Rec} (h : Qcb 0 rs) {n i : Nat} (hn : n < rs.length) (h8 : (rs.getD n Rec.zero).k = 8) (hb : Qat rs (rs.getD n Rec.zero).b = some i) : i < n := by
  obtain ⟨h1, h2, h3⟩ := Qij hb; have h4 := (Qta _ 0 h _ (Qja _ _ Rec.zero hn)).check h8; have h5 : (rs.getD n Rec.zero).b < (rs.getD n Rec.zero).l := h4.2.2.2.2.2
  rcases Nat.lt_trichotomy i n with h6 | rfl | h6
  · exact h6
  · omega
  · have := Qac rs 0 h n i h6 h1; omega
theorem inN_end {rs : List Rec} (h : Qcb 0 rs) {n : Nat} (hn : n < rs.length) : inN rs n n = ofN rs (n + 1) := by
  unfold inN
  split
  · rename_i h8
    split
    · rename_i i hi; rw [if_pos (Qam h hn h8 hi)]; have e : ckL rs (n + 1) = some (n, i) := by rw [ckL, if_pos h8, hi]
      unfold ofN; rw [e]
    · rename_i hi; have e : ckL rs (n + 1) = ckL rs n := by rw [ckL, if_pos h8, hi]
      unfold ofN; rw [e]
  · rename_i h8; have e : ckL rs (n + 1) = ckL rs n := by rw [ckL, if_neg h8]
    unfold ofN; rw [e]
theorem inN_yes {rs : List Rec} (h : Qcb 0 rs) {n k : Nat} (hk : k < rs.length) (h8 : (rs.getD n Rec.zero).k = 8) (h7 : (rs.getD k Rec.zero).k = 7) (hl : (rs.getD k Rec.zero).l = (rs.getD n Rec.zero).b) :
    inN rs n (k + 1) = (((rs.getD n Rec.zero).ts, (rs.getD n Rec.zero).ds), k + 1) := by
  have e := Qvo h hk hl h7; unfold inN; rw [if_pos h8, e]; show (if k < k + 1 then _ else _) = _; rw [if_pos (by omega)]
theorem inN_no {rs : List Rec} {n k : Nat} (hno : ¬ ((rs.getD n Rec.zero).k = 8 /\ (rs.getD k Rec.zero).k = 7 /\ (rs.getD k Rec.zero).l = (rs.getD n Rec.zero).b)) :
    inN rs n (k + 1) = inN rs n k := by
  unfold inN
  split
  · rename_i h8
    split
    · rename_i i hi; have h2 := Qij hi
      by_cases e : i < k
      · rw [if_pos e, if_pos (by omega)]
      · by_cases e2 : i = k
        · subst e2; exact absurd ⟨h8, h2.2.2, h2.2.1⟩ hno
        · rw [if_neg e, if_neg (by omega)]
    · rfl
  · rfl
theorem Qfw (rs : List Rec) : ofA rs = Qha (ofN rs rs.length).1 (rs.drop (ofN rs rs.length).2) := by
  unfold ofA ofT ofN; obtain ⟨o, ho⟩ : ∃ o, o = ckL rs rs.length := ⟨_, rfl⟩; rw [<- ho]
  cases o with
  | none => rfl
  | some p => rfl
theorem ofN_le {rs : List Rec} {n : Nat} (hn : n <= rs.length) : (ofN rs n).2 <= rs.length := by
  unfold ofN
  split
  · exact Nat.zero_le _
  · rename_i j i h; exact (Qij (Qtg h).2.2).1
theorem ofN_ok {rs : List Rec} (h : Qcb 0 rs) {n : Nat} (hn : n <= rs.length) : TaOk (ofN rs n).1 1000 := by
  unfold ofN
  split
  · exact Qfo
  · rename_i j i h1; have := (Qtg h1).1; exact Qiq (Qta _ 0 h _ (Qja _ _ _ (by omega)))
theorem rec_cells {x : World} {b o : Nat} {m : Rec × Value × Value} (h : x.rangeAt b o (rcF m).toList) : x.cell? ⟨b, o, none⟩ = some (.int .i64 m.1.k) /\ x.cell? ⟨b, o + 2, none⟩ = some (.int .i64 m.1.t) /\ x.cell? ⟨b, o + 3, none⟩ = some (.int .u64 (m.1.p : Int)) /\ x.cell? ⟨b, o + 9, none⟩ = some (.int .u64 (m.1.n : Int)) := ⟨h 0 _ rfl, h 2 _ rfl, h 3 _ rfl, h 9 _ rfl⟩
abbrev Pg.cellsOk (p : Pg) : Prop := ∀ i, i < 8 -> Qwg (p.u i) (p.s i)
theorem cells_no (p : Pg) (j : Nat) (hj : j < 8) (h : ¬ Qwg (p.u j) (p.s j)) : decide p.cellsOk = false := by
  rw [decide_eq_false_iff_not]; intro hp; exact h (hp j hj)
theorem cells_more {p : Pg} {j : Nat} (h : ∀ k, k < j -> Qwg (p.u k) (p.s k)) (hj : Qwg (p.u j) (p.s j)) : ∀ k, k < j + 1 -> Qwg (p.u k) (p.s k) := by
  intro k hk
  by_cases hkj : k = j
  · subst hkj; exact hj
  · exact h k (by omega)
theorem load_ch {b : Nat} {c : Ch} (x : World) (h : Qve x b c) : (Instr.loadAt 44 (.pointer (some ⟨b, 0, none⟩))).run Try.prog x = .ok (.agg (chA c)) x := by
  have h1 := run_loadVar_row (P := Try.prog) x b 44 44 (chA c) (0, 0) _ h Try.underlying44 rfl Qdi; simp only [Instr.loadAt, Instr.sureAddr, Sem.run_bind, Sem.run_pure, Result.andThen_ok, h1]
theorem pg_ext (p : Pg) (i : Nat) (hi : i < 8) : ((pgA p).extract (1 + i * 2) (1 + i * 2 + 2)).toList = (ceA (p.u i) (p.s i)).toList := by
  rcases lt8 hi with rfl | rfl | rfl | rfl | rfl | rfl | rfl | rfl <;> simp [pgA, ceA]
theorem load_ce {b : Nat} {p : Pg} (x : World) (i : Nat) (hi : i < 8) (h : Qwe x b p) : (Instr.loadAt 69 (.pointer (some ⟨b, 1 + i * 2, none⟩))).run Try.prog x = .ok (.agg (ceA (p.u i) (p.s i))) x := by
  have hr := World.rangeAt_of_block h (1 + i * 2) 2; rw [pg_ext p i hi] at hr; have h1 := run_loadAt_mid (P := Try.prog) x b (1 + i * 2) 69 _ _ hr Try.underlying69 rfl infoCe; rwa [Array.toArray_toList] at h1
theorem load_slot {b : Nat} {c : Ch} (x : World) (i : Nat) (hi : c.sl = (i : Int)) (h : Qve x b c) : (Instr.loadAt 3 (.pointer (some ⟨b, 2, none⟩))).run Try.prog x = .ok (.int .i64 (i : Int)) x := by
  have h1 := h.all.2.2.1; rw [hi] at h1; go_simp
theorem app_ref (p : Pg) (c : Ch) (l : Nat) (hp : p.right) (hc : c.right) (hl : l <= Qtd) (hl2 : p.l < l) : appE p c l = refE (p.u c.at) (p.s c.at) c := by
  have hv : c.k = 1 -> c.o = ⟨#[]⟩ := fun h => by
    rcases hc.2 with h1 | h1 | h1
    · exact size0 _ h1.2
    · omega
    · omega
  unfold appE refE Ch.wantU Ch.wantV; rw [if_neg (fun h => h ⟨hp, hc, hl⟩), if_neg (by omega)]
  by_cases k : c.k = 1
  · rw [if_pos k, if_pos k, hv k]; cases p.u c.at <;> simp [k]
  · rw [if_neg k, if_neg k]; cases p.u c.at <;> simp [k]
theorem Qyn.drew {w x : World} {gc gr : Nat} {p : Pg} {c : Ch} (h : Qyn w gc gr p c x) : Qyn w gc gr p c x.drew := ⟨h.1, h.2.1, h.2.2.1, Qoc h.2.2.2.1 1, h.2.2.2.2⟩
theorem load_int {b : Nat} (x : World) (j : Nat) (v : Int) (h : x.cell? ⟨b, j, none⟩ = some (.int .i64 v)) : (Instr.loadAt 3 (.pointer (some ⟨b, j, none⟩))).run Try.prog x = .ok (.int .i64 v) x := by go_simp
theorem load_str {b : Nat} (x : World) (j : Nat) (s : ByteArray) (h : x.cell? ⟨b, j, none⟩ = some (.string s)) : (Instr.loadAt 9 (.pointer (some ⟨b, j, none⟩))).run Try.prog x = .ok (.string s) x := by go_simp
def Qgt (w : World) (gr : Nat) (c : Ch) (x : World) : Prop := Qa x w.heap.size 44 (chA c) /\ Qa x gr 44 (chA Ch.zero) /\ Below w.heap.size w x /\ w.heap.size < gr
theorem Qgt.later {w x y : World} {gr : Nat} {c : Ch} (h : Qgt w gr c x) (hb : Below x.heap.size x y) : Qgt w gr c y :=
  ⟨h.1.later hb, h.2.1.later hb, h.2.2.1.trans (hb.mono (Nat.le_of_lt h.1.lt)), h.2.2.2⟩
theorem Qgt.drew {w x : World} {gr : Nat} {c : Ch} (h : Qgt w gr c x) : Qgt w gr c x.drew := ⟨h.1, h.2.1, Qoc h.2.2.1 1, h.2.2.2⟩
theorem load_chg (y : World) (b k : Nat) (m : Rec × Value × Value) (h : y.rangeAt b k (rcF m).toList) : (Instr.loadAt 44 (.pointer (some ⟨b, k + 4, none⟩))).run Try.prog y = .ok (.agg (chA m.1.c)) y := by
  have h2 : y.rangeAt b (k + 4) (chA m.1.c).toList := fun j u hu => by
    have hj : j < 5 := (List.getElem?_eq_some_iff.1 hu).1
    have := h (4 + j) u (by
      have e : (rcF m).toList[4 + j]? = (chA m.1.c).toList[j]? := by
        rcases (show j = 0 ∨ j = 1 ∨ j = 2 ∨ j = 3 ∨ j = 4 by omega) with rfl | rfl | rfl | rfl | rfl <;> rfl
      rw [e]
      exact hu)
    rw [<- Nat.add_assoc] at this; exact this
  have h1 := run_loadAt_mid (P := Try.prog) y b (k + 4) 44 (chA m.1.c).toList _ h2 Try.underlying44 rfl (by rw [Qdi]; rfl); rwa [Array.toArray_toList] at h1
theorem load_ch15 (y : World) (g : Nat) (c : Ch) (h : Qa y g 44 (chA c)) : (Instr.loadAt 44 (.pointer (some ⟨g, 0, none⟩))).run Try.prog y = .ok (.agg #[.int .i64 c.k, .int .i64 c.pg, .int .i64 c.sl, .string c.o, .string c.n]) y := by
  have h1 := run_loadAt_mid (P := Try.prog) y g 0 44 (chA c).toList _ (fun j u hu => by rw [Nat.zero_add]; exact h.cell j u (by simpa using hu)) Try.underlying44 rfl (by rw [Qdi]; rfl); rwa [Array.toArray_toList] at h1
def clrM (l : List Rec) (r : Rec) : Rec × Value × Value := (Qle l r, .slice none 0 0, .slice none 0 0)
theorem clrM_in (l : List Rec) (r : Rec) (w : World) : Qwb w (clrM l r).1 (clrM l r).2.1 (clrM l r).2.2 := ⟨⟨none, 0, rfl, fun h => absurd h (by simp [clrM, Qle])⟩, ⟨none, 0, rfl, fun h => absurd h (by simp [clrM, Qle])⟩⟩
def clrA (l : List Rec) (n : Nat) : (Rec × Value × Value) × Int := match Qst l n with
  | some r => if r.k = 1 then (clrM l r, 0) else (rcZ, 5)
  | none => (rcZ, 5)
theorem clrA_yes {l : List Rec} (hl : Qcb 0 l) {r : Rec} (hr : r ∈ l) (hk : r.k = 1) : clrA l r.l = (clrM l r, 0) := by
  unfold clrA; rw [Qss hl hr]; simp only; rw [if_pos hk]
theorem clrA_no {l : List Rec} (hl : Qcb 0 l) {r : Rec} (hr : r ∈ l) (hk : ¬ r.k = 1) : clrA l r.l = (rcZ, 5) := by
  unfold clrA; rw [Qss hl hr]; simp only; rw [if_neg hk]
theorem clrA_none {l : List Rec} {n : Nat} (h : ∀ r ∈ l, r.l ≠ n) : clrA l n = (rcZ, 5) := by
  unfold clrA; rw [Qbp h]
set_option linter.unusedVariables false
set_option linter.unusedVariables false
theorem Qob {x y : World} {B n : Nat} {e : TypeId} {sz : Nat} {v : Value} {xs : List Value} (h : x.ownsRow B e sz v n xs) (hb : Below x.heap.size x y) : y.ownsRow B e sz v n xs := by
  obtain ⟨h1, h2⟩ := h; refine ⟨h1, h2.imp id ?_⟩; rintro ⟨g, cap, cur, a, b, c, d⟩; exact ⟨g, cap, cur, a, b, Qa.later (show Qa x g e cur from c) hb, d⟩
theorem Qhs {w0 x y : World} {B C n : Nat} {e : TypeId} {sz : Nat} {v : Value} {xs : List Value} (h : x.ownsRow C e sz v n xs) (hC : B <= C) (hb : Below B w0 x) (hB : B <= x.heap.size) (hg : x.grownBy y v.ownBlock) : Below B w0 y := by
  have key : ∀ k, some k = v.ownBlock -> B <= k := by
    intro k hk
    rcases h.2 with ⟨rfl, _⟩ | ⟨g, cap, cur, rfl, hB, _⟩
    · cases hk
    · injection hk with hk; rw [hk]; exact Nat.le_trans hC hB
  refine ⟨hg.os.trans hb.1, hg.tape.trans hb.2, hg.output.trans hb.3, Nat.le_trans hb.4 hg.size, fun k hk => ?_⟩; exact (hg.block k (by omega) (fun e => by have := key k e; omega)).trans (hb.5 k hk)
theorem ow_turn {F : Nat -> Prop} {x y : World} {B n : Nat} {e : TypeId} {sz : Nat} {v : Value} {xs : List Value} (h : x.ownsRow B e sz v n xs) (q : Tn F x y) (hF : ∀ k, F k -> k < B) : y.ownsRow B e sz v n xs := by
  obtain ⟨h1, h2⟩ := h; refine ⟨h1, h2.imp id ?_⟩; rintro ⟨g, cap, cur, a, b, c, d⟩; exact ⟨g, cap, cur, a, b, q.row (show Qa x g e cur from c) (fun hf => by have := hF g hf; omega), d⟩
theorem Qhh {w : World} {B n : Nat} {e : TypeId} {sz : Nat} {v : Value} {xs : List Value} (h : w.ownsRow B e sz v n xs) : ∃ a c, v = .slice a n c /\ n <= c /\ (0 < n -> ∃ b, a = some ⟨b, 0, none⟩ /\ B <= b) := by
  rcases h.2 with ⟨rfl, h0⟩ | ⟨g, cap, cur, rfl, hB, _, h1, _⟩
  · exact ⟨none, 0, by rw [h0], by omega, fun h => absurd h (by omega)⟩
  · exact ⟨_, _, rfl, h1, fun _ => ⟨g, rfl, hB⟩⟩
def bareM (r : Rec) : Rec × Value × Value := (r, .slice none 0 0, .slice none 0 0)
def Rec.bare (r : Rec) : Prop := r.ts = [] /\ r.ds = [] /\ r.fits
def Qhe (l : List Rec) : List (Rec × Value × Value) := l.map bareM
theorem Qgl (l : List Rec) : (Qhe l).length = l.length := by simp [Qhe]
theorem bareMs_R (l : List Rec) : msR (Qhe l) = l := by
  unfold msR Qhe; rw [List.map_map]; exact List.map_id l
theorem Qxp (l : List Rec) (r : Rec) : Qhe (l ++ [r]) = Qhe l ++ [bareM r] := by simp [Qhe]
theorem Qkn (ms : List (Rec × Value × Value)) (m : Rec × Value × Value) : Qjd (ms ++ [m]) = Qjd ms ++ (rcF m).toList := by
  unfold Qjd; rw [List.flatMap_append]; simp
theorem Qls {r : Rec} (h : r.bare) (w : World) : Qwb w r (.slice none 0 0) (.slice none 0 0) :=
  ⟨⟨none, 0, by rw [h.1]; rfl, fun h0 => absurd h0 (by rw [h.1]; simp)⟩, ⟨none, 0, by rw [h.2.1]; rfl, fun h0 => absurd h0 (by rw [h.2.1]; simp)⟩⟩
def Qnr (w : World) (base : Nat) (v : Value) (l : List Rec) : Prop := w.ownsRow base 46 14 v l.length (Qjd (Qhe l)) /\ ∀ r ∈ l, r.bare
theorem Qnr.nil (w : World) (base : Nat) : Qnr w base (.slice none 0 0) [] := ⟨World.ownsRow_nil _ _ _ _, fun r h => (nomatch h)⟩
theorem Qnr.later {x y : World} {base : Nat} {v : Value} {l : List Rec} (h : Qnr x base v l) (hb : Below x.heap.size x y) : Qnr y base v l := ⟨Qob h.1 hb, h.2⟩
theorem Qnr.turn {F : Nat -> Prop} {x y : World} {base : Nat} {v : Value} {l : List Rec} (h : Qnr x base v l) (q : Tn F x y) (hF : ∀ k, F k -> k < base) : Qnr y base v l := ⟨ow_turn h.1 q hF, h.2⟩
theorem Qnr.rs {w : World} {base : Nat} {v : Value} {l : List Rec} (h : Qnr w base v l) : Qmi w v (Qhe l) := by
  have h1 := h.1; rw [<- Qgl l] at h1; refine ⟨Qse rcF rcZ 14 (fun _ => rfl) h1, fun m hm => ?_⟩; obtain ⟨r, hr, rfl⟩ := List.mem_map.1 hm; exact ⟨(h.2 r hr).2.2, Qls (h.2 r hr) w⟩
theorem Qnr.log {w : World} {base : Nat} {v : Value} {l : List Rec} (h : Qnr w base v l) (hf : l.length <= 1000) : LogIn w v (Qhe l) := by
  refine ⟨h.rs, by rw [Qgl]; exact hf, fun a len c e => ?_⟩; obtain ⟨a', c', e', h2, _⟩ := Qhh h.1; rw [e'] at e; injection e with e1 e2 e3; omega
theorem Qu (w : World) {ops : Array Oper} {rest : List Oper} {o : Oper} {a : Act} {Q : Exit -> Act -> World -> Prop} (tS tE : TypeId) (size bytes : Nat) (z : Value) (hu : Try.prog.underlying tS = some (.slice tE)) (hI : (Try.prog.info? tE).map (fun i => (i.zero, i.size, i.bytes)) = some (some z, size, bytes)) (hzs : z.cells.size = size) (hpos : 0 < size) (hby : bytes <= 1000)
    (hg : o.guard = none) (s x : Operand) (hop : o.op = Op.call { callee := Callee.builtin Builtin.append, args := #[s, x], argTypes := #[tS, tS] })
    (base : Nat) (v : Value) (n : Nat) (xs : List Value) (hs : a.eval s = v) (hown : w.ownsRow base tE size v n xs)
    (b : Nat) (cs : Array Value) (hx : a.eval x = .slice (some ⟨b, 0, none⟩) 1 1) (hB : Qa w b tE cs) (hcs : cs.size = size) (hone : cs.all (·.oneCell') = true) (hz : n <= 1000) (hbase : base <= w.heap.size)
    (hK : ∀ v' w', w'.ownsRow base tE size v' (n + 1) (xs ++ cs.toList) -> w.grownBy w' v.ownBlock -> wpList Try.prog ops Q rest (a.put o.dst v') w') :
    wpList Try.prog ops Q (o :: rest) a w := by
  obtain ⟨i, hi0, hi1⟩ := Option.map_eq_some_iff.1 hI; simp only [Prod.mk.injEq] at hi1
  refine wpList_append_own w hg s x tS hop base tE i z size bytes hu hi0 hi1.1 hi1.2.1 hi1.2.2 hzs hpos v n xs hs hown ⟨b, 0, none⟩ 1 1 cs.toList hx (by rw [Array.length_toList, hcs, Nat.one_mul]) ?_ ?_ (by unfold maxLen; omega) ?_ hbase (fun v' w' h1 h2 _ => hK v' w' h1 h2)
  · intro j u hu; rw [Array.getElem?_toList] at hu; rw [Addr.add_lit, Nat.zero_add]; exact hB.cell j u hu
  · intro u hu; rw [Array.all_eq_true'] at hone; exact hone u (by simpa using hu)
  · have := Nat.mul_le_mul (show n + 1 <= 1001 by omega) hby
    omega
theorem Qnr.push {w' : World} {base : Nat} {v' : Value} {l : List Rec} {r : Rec} (h : w'.ownsRow base 46 14 v' (l.length + 1) (Qjd (Qhe l) ++ (rcF (bareM r)).toList)) (hl : ∀ q ∈ l, q.bare) (hr : r.bare) : Qnr w' base v' (l ++ [r]) := by
  refine ⟨?_, fun q hq => ?_⟩
  · rw [List.length_append, List.length_singleton, Qxp, Qkn]; exact h
  · rcases List.mem_append.1 hq with hq | hq
    · exact hl q hq
    · rw [List.mem_singleton.1 hq]; exact hr
theorem Qwm {t : Int} (h1 : 0 <= t) (h2 : t <= 1048575) : (Lit.int .i64 t).wf = true := by
  have m1 : IntKind.i64.min = -9223372036854775808 := by decide
  have m2 : IntKind.i64.max = 9223372036854775807 := by decide
  simp only [Lit.wf, m1, m2, Bool.and_eq_true, decide_eq_true_eq]; omega
theorem ch_fits15 {c : Ch} (h : c.right) : c.fits := by
  obtain ⟨h1, h2⟩ := h
  refine ⟨Qwm ?_ ?_, Qwm (by omega) (by omega), Qwm (by omega) (by omega), by unfold maxLen; omega, by unfold maxLen; omega⟩
  · rcases h2 with h | h | h <;> omega
  · rcases h2 with h | h | h <;> omega
theorem clr_bare {l : List Rec} {r : Rec} (hr : r.right) (hk : r.k = 1) : (Qle l r).bare := by
  refine ⟨rfl, rfl, ⟨?_, Nat.zero_le _, Nat.zero_le _, fun x hx => (nomatch hx), fun x hx => (nomatch hx)⟩⟩; exact ch_fits15 (inv_right r.c (hr.ch (by omega))).1
def clrCells (t : Int) (c : Ch) (q : Nat) : Array Value := #[.int .i64 2, .int .u64 0, .int .i64 t, .int .u64 0, .int .i64 c.k, .int .i64 c.pg, .int .i64 c.sl, .string c.o, .string c.n, .int .u64 (q : Int), .int .i64 0, .int .u64 0, .slice none 0 0, .slice none 0 0]
theorem clr_cells (l : List Rec) (r : Rec) : rcF (bareM (Qle l r)) = clrCells r.t (invC r.c) (Qib l r.p) := rfl
structure Pl (w wr : World) (l : List Rec) (all : List Rec) (u : Nat) (v : Value) (j : Nat) (ps : List Rec) : Prop where
  all : all = ps ++ Qwf l j u
  next : Qib l j = j
  own : Qnr wr w.heap.size v ps
  bel : Below w.heap.size w wr
theorem own_lt15 {w : World} {B n sz k : Nat} {e : TypeId} {v : Value} {xs : List Value} (h : w.ownsRow B e sz v n xs) (hk : v.ownBlock = some k) : k < w.heap.size := by
  rcases h.2 with ⟨rfl, _⟩ | ⟨g, cap, cur, rfl, _, h1, _⟩
  · cases hk
  · injection hk with hk; subst hk; exact (show Qa w g e cur from h1).lt
theorem plan_few {l : List Rec} (hl : Qcb 0 l) (u : Nat) : ∀ (f n : Nat), n <= f -> Qib l n = n -> (Qwf l n u).length <= l.length := by
  intro f
  induction l using Qsb generalizing f with
  | h0 => intro n _ _; rw [planL_nil]; exact Nat.zero_le _
  | h1 l s ih =>
    intro n hn h; obtain ⟨h1, h2, h3⟩ := Qkc hl; rw [Qid, List.length_append, List.length_singleton]
    by_cases e : s.l = n
    · rw [if_pos e]
      by_cases hu : u < n /\ s.k = 1
      · rw [if_pos hu, List.length_cons]; have := ih h1 (Qib l s.p) _ (Nat.le_refl _) (Qjk h1 s.p); omega
      · rw [if_neg hu]; exact Nat.zero_le _
    · rw [if_neg e]; rw [Qlc, if_neg e] at h; have := ih h1 f n hn h; omega
abbrev OwT (w : World) (B : Nat) (v : Value) (l : List Tx) : Prop := w.ownsRow B 42 5 v l.length (flT l)
abbrev OwD (w : World) (B : Nat) (v : Value) (l : List Di) : Prop := w.ownsRow B 81 2 v l.length (flD l)
theorem Qhb {w : World} {B : Nat} {v : Value} {l : List Tx} (h : OwT w B v l) : Qxb w v l := Qse txA Tx.zero 5 (fun _ => rfl) h
theorem owD_in {w : World} {B : Nat} {v : Value} {l : List Di} (h : OwD w B v l) : Qxc w v l := Qse diA Di.zero 2 (fun _ => rfl) h
theorem Qbx {w' : World} {B : Nat} {v' : Value} {l : List Tx} {x : Tx} (h : w'.ownsRow B 42 5 v' (l.length + 1) (flT l ++ (txA x).toList)) : OwT w' B v' (l ++ [x]) := by
  show w'.ownsRow _ _ _ _ (l ++ [x]).length (flT (l ++ [x])); rw [Qjc, Qpq, List.length_append, List.length_singleton]; exact h
theorem owD_push {w' : World} {B : Nat} {v' : Value} {l : List Di} {x : Di} (h : w'.ownsRow B 81 2 v' (l.length + 1) (flD l ++ (diA x).toList)) : OwD w' B v' (l ++ [x]) := by
  show w'.ownsRow _ _ _ _ (l ++ [x]).length (flD (l ++ [x])); rw [Qic, Qkr, List.length_append, List.length_singleton]; exact h
theorem Qxb.mid {w : World} {v : Value} {l : List Tx} (h : Qxb w v l) {j : Nat} (hj : j < l.length) :
    ∃ b off c, v = .slice (some ⟨b, off, none⟩) l.length c /\ b < w.heap.size /\ ∀ x, Below w.heap.size w x -> x.rangeAt b (off + j * 5) (txA (l.getD j Tx.zero)).toList := by
  obtain ⟨a, c, rfl, h2⟩ := h; obtain ⟨b, off, rfl, hb, hr⟩ := h2 (by omega); exact ⟨b, off, c, rfl, hb, fun x hx => Qtb (hr j hj) hx hb⟩
theorem Qxc.mid {w : World} {v : Value} {l : List Di} (h : Qxc w v l) {j : Nat} (hj : j < l.length) :
    ∃ b off c, v = .slice (some ⟨b, off, none⟩) l.length c /\ b < w.heap.size /\ ∀ x, Below w.heap.size w x -> x.rangeAt b (off + j * 2) (diA (l.getD j Di.zero)).toList := by
  obtain ⟨a, c, rfl, h2⟩ := h; obtain ⟨b, off, rfl, hb, hr⟩ := h2 (by omega); exact ⟨b, off, c, rfl, hb, fun x hx => Qtb (hr j hj) hx hb⟩
theorem ow_less {w : World} {B C n : Nat} {e : TypeId} {sz : Nat} {v : Value} {xs : List Value} (h : w.ownsRow B e sz v n xs) (hC : C <= B) : w.ownsRow C e sz v n xs := by
  obtain ⟨h1, h2⟩ := h; refine ⟨h1, h2.imp id ?_⟩; rintro ⟨g, cap, cur, a, b, c⟩; exact ⟨g, cap, cur, a, Nat.le_trans hC b, c⟩
theorem drop_getT {l : List Tx} {j : Nat} (hj : j < l.length) : l.drop j = l.getD j Tx.zero :: l.drop (j + 1) := by
  rw [List.drop_eq_getElem_cons hj, List.getD_eq_getElem?_getD, List.getElem?_eq_getElem hj]; rfl
theorem Qwt {l : List Di} {j : Nat} (hj : j < l.length) : l.drop j = l.getD j Di.zero :: l.drop (j + 1) := by
  rw [List.drop_eq_getElem_cons hj, List.getD_eq_getElem?_getD, List.getElem?_eq_getElem hj]; rfl
structure Tq (w wr : World) (b1 : Nat) (x : Tx) (vo : Value) (O : List Tx) : Prop where
  x : Qa wr b1 42 (txA x)
  lo : w.heap.size <= b1
  own : OwT wr (b1 + 1) vo O
  bel : Below w.heap.size w wr
theorem Tq.drewN {w wr : World} {b1 : Nat} {x : Tx} {vo : Value} {O : List Tx} (h : Tq w wr b1 x vo O) (k : Nat) : Tq w (wr.drewN k) b1 x vo O := ⟨h.x, h.lo, h.own, Qoc h.bel _⟩
theorem Tq.push {w wr z w' : World} {b1 : Nat} {x y : Tx} {vo v' : Value} {O : List Tx} (h : Tq w wr b1 x vo O) (hz : Below wr.heap.size wr z)
    (h1 : w'.ownsRow (b1 + 1) 42 5 v' (O.length + 1) (flT O ++ (txA y).toList)) (h2 : z.grownBy w' vo.ownBlock) : Tq w w' b1 x v' (O ++ [y]) := by
  have hs := h.x.lt; have hzs := hz.size; refine ⟨?_, h.lo, Qbx h1, Qhs (Qob h.own hz) (by have := h.lo; omega) (h.bel.trans (hz.mono h.bel.size)) (Nat.le_trans h.bel.size hzs) h2⟩; have hx := h.x.later hz; refine (h2.block b1 hx.lt fun e => ?_).trans hx
  rcases h.own.2 with ⟨e2, _⟩ | ⟨g, cap, cur, e2, hB, _⟩
  · rw [e2] at e; cases e
  · rw [e2] at e; injection e with e; have e' : b1 = g := e; omega
structure Tpx (w wr : World) (b1 : Nat) (x : Tx) (all : List Tx) (l : List Tx) (vo : Value) (O : List Tx) (d : Bool) (j : Nat) : Prop where
  q : Tq w wr b1 x vo O
  all : O ++ Qhj x d (l.drop j) = all
  few : O.length + (if d = true then 0 else 1) <= j + 1
theorem Qth (w : World) (v : Value) (l : List Tx) (x : Tx) (h : Qxb w v l) (hl : l.length <= 900) :
    Calls Try.prog 72 #[v, .agg (txA x)] w fun e w' => ∃ v', e = .returned v' /\ OwT w' w.heap.size v' (Qhj x (decide (x.l = 0)) l) /\ Below w.heap.size w w' := by
  obtain ⟨all, hall⟩ : ∃ all, all = Qhj x (decide (x.l = 0)) l := ⟨_, rfl⟩; rw [<- hall]; have n1 : Qa (w.alloc (.cells (txA x) 42)) w.heap.size 42 (txA x) := Qa.new w _ _; have n2 : Below w.heap.size w (w.alloc (.cells (txA x) 42)) := (Below.refl _ _).alloc (Nat.le_refl _) _; obtain ⟨y, hy⟩ : ∃ y, y = w.alloc (.cells (txA x) 42) := ⟨_, rfl⟩; rw [<- hy] at n1 n2; obtain ⟨b1, hb1⟩ : ∃ b, b = w.heap.size := ⟨_, rfl⟩; rw [<- hb1] at n1; obtain ⟨d0, hd0⟩ : ∃ d, d = decide (x.l = 0) := ⟨_, rfl⟩; rw [<- hd0] at hall
  have hlz : ((x.l : Int) == 0) = d0 := by
    rw [hd0]
    by_cases e : x.l = 0
    · rw [e]; rfl
    · rw [decide_eq_false e, beq_eq_false_iff_ne]; omega
  have H0 : Hid (Tpx w y b1 x all l (.slice none 0 0) [] d0 0) := ⟨⟨n1, by omega, World.ownsRow_nil _ _ _ _, n2⟩, hall.symm, by rw [List.length_nil]; split <;> omega⟩; have HI := Qb h
  obtain ⟨av, cv, hav⟩ : ∃ a c, v = .slice a l.length c := by
    obtain ⟨a, c, e, _⟩ := h; exact ⟨a, c, e⟩
  obtain ⟨ln, hln⟩ : ∃ n, n = l.length := ⟨_, rfl⟩; rw [<- hln] at hav hl; have HAV := Qb hav; have HLN := Qb hln; have HY := Qb hy; have HB := Qb hb1; have k3 : y.cell? ⟨b1, 3, none⟩ = some (.int .u64 (x.l : Int)) := n1.cell 3 _ rfl; clear hav hln hy hb1 n1 n2 h hall hd0; rw [HAV.out]; go_enter Try.func72, Try.ntmps72; go_wp2_with (with_reducible refine Qxa 9 rfl ?_); rw [<- HY.out, <- HB.out]; refine Qg ?_; go_wp2; clear k3 hlz HY; go_loopw [5, 6, 13] (fun vo vd i wr => ∃ (j : Nat) (O : List Tx) (d : Bool), j <= ln /\ vd = .bool d /\ i = .int .i64 (j : Int) /\ Hid (Tpx w wr b1 x all l vo O d j)) (fun _ _ i _ => ln - (intOf i).toNat)
  case atStart => exact ⟨0, [], d0, Nat.zero_le _, rfl, rfl, H0⟩
  case round =>
    obtain ⟨j, O, d, hj, rfl, rfl, HJ⟩ := hrel; clear H0; obtain ⟨ao, co, hvo, _, _⟩ := Qhh HJ.out.q.own; subst hvo
    by_cases hlt : j < ln
    · have i5 : (j : Int) < (ln : Int) := by omega
      obtain ⟨b, off, c, hv, hb, hrx⟩ := HI.out.mid (show j < l.length by rw [<- HLN.out]; exact hlt); rw [HAV.out, <- HLN.out] at hv; injection hv with q1 q2 q3; subst q1; have hdr := drop_getT (show j < l.length by rw [<- HLN.out]; exact hlt); obtain ⟨y, hy⟩ : ∃ y, y = l.getD j Tx.zero := ⟨_, rfl⟩; rw [<- hy] at hrx hdr
      have hO : O.length <= 950 := by
        have := HJ.out.few; split at this <;> omega
      have HRX := Qb hrx; have HDR := Qb hdr; clear hrx hdr hy q3 q2 hb; have hyt : wr.cell? ⟨b, off + j * 5, none⟩ = some (.int .i64 y.t) := HRX.out wr HJ.out.q.bel 0 _ rfl; have hxt : wr.cell? ⟨b1, 0, none⟩ = some (.int .i64 x.t) := HJ.out.q.x.cell 0 _ rfl
      by_cases e1 : y.t = x.t
      · have g1 : (y.t == x.t) = true := by rw [e1]; exact beq_self_eq_true _
        have g2 : (y.t != x.t) = false := by rw [bne, g1]; rfl
        have g3 : ¬ x.t < y.t := by omega
        have HN : Hid (O ++ Qhj x d (l.drop (j + 1)) = all) := by
          show _ = _; rw [<- HJ.out.all, HDR.out, Qhj, if_pos e1]
        have HE := Qb e1; clear e1
        cases d
        · go_wp2_with fail; go_quiet (fail); have HQ1 := Qb (HJ.out.q.drewN nq); generalize wr.drewN nq = z1 at *; have hyt1 : z1.cell? ⟨b, off + j * 5, none⟩ = some (.int .i64 y.t) := HRX.out z1 HQ1.out.bel 0 _ rfl; have hxt1 : z1.cell? ⟨b1, 0, none⟩ = some (.int .i64 x.t) := HQ1.out.x.cell 0 _ rfl; clear hyt hxt; go_wp2_with fail; go_quiet (fail); go_wp2; go_roundw
          case rel => exact ⟨j + 1, O, false, by omega, rfl, by go_num, HQ1.out.drewN nq, HN.out, by have := HJ.out.few; simp at this |-; omega⟩
          case measure => simp [intOf] <;> omega
        · go_wp2_with fail; go_quiet (fail); have HQ1 := Qb (HJ.out.q.drewN nq); generalize wr.drewN nq = z1 at *; have hyt1 : z1.cell? ⟨b, off + j * 5, none⟩ = some (.int .i64 y.t) := HRX.out z1 HQ1.out.bel 0 _ rfl; have hxt1 : z1.cell? ⟨b1, 0, none⟩ = some (.int .i64 x.t) := HQ1.out.x.cell 0 _ rfl; clear hyt hxt; go_wp2_with fail; go_quiet (fail); go_wp2; go_roundw
          case rel => exact ⟨j + 1, O, true, by omega, rfl, by go_num, HQ1.out.drewN nq, HN.out, by have := HJ.out.few; simp at this |-; omega⟩
          case measure => simp [intOf] <;> omega
      · have g1 : (y.t == x.t) = false := by rw [beq_eq_false_iff_ne]; exact e1
        have g2 : (y.t != x.t) = true := by rw [bne, g1]; rfl
        by_cases hap : x.t < y.t /\ d = false
        · obtain ⟨g3, rfl⟩ := hap
          have HN : Hid ((O ++ [x]) ++ [y] ++ Qhj x true (l.drop (j + 1)) = all /\ O.length <= j) := by
            refine ⟨?_, by have := HJ.out.few; simp at this; omega⟩; rw [<- HJ.out.all, HDR.out, Qhj, if_neg e1, if_pos ⟨g3, rfl⟩]; simp
          clear e1; go_wp2_with fail; go_quiet (fail); have HQ1 := Qb (HJ.out.q.drewN nq); generalize wr.drewN nq = z1 at *; clear HJ hyt hxt; go_wp2_with (first | (refine Qd rfl 42 (.tmp 3) rfl b1 rfl #[.int .i64 x.t, .int .i64 x.s, .int .u64 (x.f : Int), .int .u64 (x.l : Int), .int .u64 (x.n : Int)] HQ1.out.x _ Try.underlying42 rfl Qdc ?_) | (refine Qu _ 25 42 5 40 (.agg #[.int .i64 0, .int .i64 0, .int .u64 0, .int .u64 0, .int .u64 0]) Try.underlying25 Qci rfl (by decide) (by decide) rfl (.tmp 28) (.tmp 30) rfl (b1 + 1) (.slice ao O.length co) O.length (flT O) rfl (Qob HQ1.out.own ((Below.refl z1.heap.size z1).alloc (Nat.le_refl _) _)) z1.heap.size #[.int .i64 x.t, .int .i64 x.s, .int .u64 (x.f : Int), .int .u64 (x.l : Int), .int .u64 (x.n : Int)] rfl (Qa.new z1 42 #[.int .i64 x.t, .int .i64 x.s, .int .u64 (x.f : Int), .int .u64 (x.l : Int), .int .u64 (x.n : Int)]) rfl (by simp [Value.oneCell']) (by omega) (Nat.le_trans HQ1.out.x.lt (by simp)) ?_; intro v' w7 ho7 hg7; refine Qpa ?_)); have HQ2 := Qb (HQ1.out.push ((Below.refl _ _).alloc (Nat.le_refl _) _) ho7 hg7); clear ho7 hg7 HQ1; have hyt2 : w7.cell? ⟨b, off + j * 5, none⟩ = some (.int .i64 y.t) := HRX.out w7 HQ2.out.bel 0 _ rfl; have hxt2 : w7.cell? ⟨b1, 0, none⟩ = some (.int .i64 x.t) := HQ2.out.x.cell 0 _ rfl; have hlO : (O ++ [x]).length <= 1000 := by rw [List.length_append, List.length_singleton]; omega
          have hlO2 : (O ++ [x]).length = O.length + 1 := by rw [List.length_append, List.length_singleton]
          have HOO : Hid ((O ++ [x]).length = O.length + 1) := hlO2; clear hlO2; generalize O ++ [x] = O2 at *; obtain ⟨a2, c2, hv2, _, _⟩ := Qhh HQ2.out.own; subst hv2; refine Qg ?_; go_wp2_with fail; go_quiet (fail); have HQ3 := Qb (HQ2.out.drewN nq); generalize w7.drewN nq = z3 at *; have HLD : Hid ((Instr.loadAt 42 (.pointer (some ⟨b, off + j * 5, none⟩))).run Try.prog z3 = .ok (.agg #[.int .i64 y.t, .int .i64 y.s, .int .u64 (y.f : Int), .int .u64 (y.l : Int), .int .u64 (y.n : Int)]) z3) := Qff z3 b _ y (HRX.out z3 HQ3.out.bel); clear HQ2 hyt2 hxt2; go_wp2_with (first | (refine Qt rfl 42 (.tmp 43) rfl _ (.agg #[.int .i64 y.t, .int .i64 y.s, .int .u64 (y.f : Int), .int .u64 (y.l : Int), .int .u64 (y.n : Int)]) rfl HLD.out ?_) | (refine Qu _ 25 42 5 40 (.agg #[.int .i64 0, .int .i64 0, .int .u64 0, .int .u64 0, .int .u64 0]) Try.underlying25 Qci rfl (by decide) (by decide) rfl (.tmp 40) (.tmp 45) rfl (b1 + 1) (.slice a2 O2.length c2) O2.length (flT O2) rfl (Qob HQ3.out.own ((Below.refl z3.heap.size z3).alloc (Nat.le_refl _) _)) z3.heap.size #[.int .i64 y.t, .int .i64 y.s, .int .u64 (y.f : Int), .int .u64 (y.l : Int), .int .u64 (y.n : Int)] rfl (Qa.new z3 42 #[.int .i64 y.t, .int .i64 y.s, .int .u64 (y.f : Int), .int .u64 (y.l : Int), .int .u64 (y.n : Int)]) rfl (by simp [Value.oneCell']) hlO (Nat.le_trans HQ3.out.x.lt (by simp)) ?_; intro v' w7 ho7 hg7; refine Qpa ?_)); have HQ4 := Qb (HQ3.out.push (y := y) ((Below.refl _ _).alloc (Nat.le_refl _) _) ho7 hg7); clear ho7 hg7 HQ3 HLD; refine Qg ?_; go_wp2; go_roundw
          case rel => exact ⟨j + 1, O2 ++ [y], true, by omega, rfl, by go_num, HQ4.out, HN.out.1, by have := HN.out.2; have := HOO.out; rw [List.length_append, List.length_singleton]; simp; omega⟩
          case measure => simp [intOf] <;> omega
        · have HN : Hid ((O ++ [y]) ++ Qhj x d (l.drop (j + 1)) = all) := by
            show _ = _; rw [<- HJ.out.all, HDR.out, Qhj, if_neg e1, if_neg hap, List.append_assoc]; rfl
          have HE := Qb e1; have HFW := Qb HJ.out.few; have HAP := Qb hap; clear e1 hap
          cases d
          · have g3 : ¬ x.t < y.t := fun h => HAP.out ⟨h, rfl⟩
            go_wp2_with fail; go_quiet (fail); have HQ1 := Qb (HJ.out.q.drewN nq); generalize wr.drewN nq = z1 at *; have hyt1 : z1.cell? ⟨b, off + j * 5, none⟩ = some (.int .i64 y.t) := HRX.out z1 HQ1.out.bel 0 _ rfl; have hxt1 : z1.cell? ⟨b1, 0, none⟩ = some (.int .i64 x.t) := HQ1.out.x.cell 0 _ rfl; clear HJ hyt hxt; go_wp2_with fail; go_quiet (fail); have HQ3 := Qb (HQ1.out.drewN nq); generalize z1.drewN nq = z3 at *; have HLD : Hid ((Instr.loadAt 42 (.pointer (some ⟨b, off + j * 5, none⟩))).run Try.prog z3 = .ok (.agg #[.int .i64 y.t, .int .i64 y.s, .int .u64 (y.f : Int), .int .u64 (y.l : Int), .int .u64 (y.n : Int)]) z3) := Qff z3 b _ y (HRX.out z3 HQ3.out.bel); clear HQ1 hyt1 hxt1; go_wp2_with (first | (refine Qt rfl 42 (.tmp 43) rfl _ (.agg #[.int .i64 y.t, .int .i64 y.s, .int .u64 (y.f : Int), .int .u64 (y.l : Int), .int .u64 (y.n : Int)]) rfl HLD.out ?_) | (refine Qu _ 25 42 5 40 (.agg #[.int .i64 0, .int .i64 0, .int .u64 0, .int .u64 0, .int .u64 0]) Try.underlying25 Qci rfl (by decide) (by decide) rfl (.tmp 40) (.tmp 45) rfl (b1 + 1) (.slice ao O.length co) O.length (flT O) rfl (Qob HQ3.out.own ((Below.refl z3.heap.size z3).alloc (Nat.le_refl _) _)) z3.heap.size #[.int .i64 y.t, .int .i64 y.s, .int .u64 (y.f : Int), .int .u64 (y.l : Int), .int .u64 (y.n : Int)] rfl (Qa.new z3 42 #[.int .i64 y.t, .int .i64 y.s, .int .u64 (y.f : Int), .int .u64 (y.l : Int), .int .u64 (y.n : Int)]) rfl (by simp [Value.oneCell']) (by omega) (Nat.le_trans HQ3.out.x.lt (by simp)) ?_; intro v' w7 ho7 hg7; refine Qpa ?_)); have HQ4 := Qb (HQ3.out.push (y := y) ((Below.refl _ _).alloc (Nat.le_refl _) _) ho7 hg7); clear ho7 hg7 HQ3 HLD; refine Qg ?_; go_wp2; go_roundw
            case rel => exact ⟨j + 1, O ++ [y], false, by omega, rfl, by go_num, HQ4.out, HN.out, by have := HFW.out; rw [List.length_append, List.length_singleton]; simp at this |-; omega⟩
            case measure => simp [intOf] <;> omega
          · clear HAP; go_wp2_with fail; go_quiet (fail); have HQ1 := Qb (HJ.out.q.drewN nq); generalize wr.drewN nq = z1 at *; have hyt1 : z1.cell? ⟨b, off + j * 5, none⟩ = some (.int .i64 y.t) := HRX.out z1 HQ1.out.bel 0 _ rfl; have hxt1 : z1.cell? ⟨b1, 0, none⟩ = some (.int .i64 x.t) := HQ1.out.x.cell 0 _ rfl; clear HJ hyt hxt; go_wp2_with fail; go_quiet (fail); have HQ3 := Qb (HQ1.out.drewN nq); generalize z1.drewN nq = z3 at *; have HLD : Hid ((Instr.loadAt 42 (.pointer (some ⟨b, off + j * 5, none⟩))).run Try.prog z3 = .ok (.agg #[.int .i64 y.t, .int .i64 y.s, .int .u64 (y.f : Int), .int .u64 (y.l : Int), .int .u64 (y.n : Int)]) z3) := Qff z3 b _ y (HRX.out z3 HQ3.out.bel); clear HQ1 hyt1 hxt1; go_wp2_with (first | (refine Qt rfl 42 (.tmp 43) rfl _ (.agg #[.int .i64 y.t, .int .i64 y.s, .int .u64 (y.f : Int), .int .u64 (y.l : Int), .int .u64 (y.n : Int)]) rfl HLD.out ?_) | (refine Qu _ 25 42 5 40 (.agg #[.int .i64 0, .int .i64 0, .int .u64 0, .int .u64 0, .int .u64 0]) Try.underlying25 Qci rfl (by decide) (by decide) rfl (.tmp 40) (.tmp 45) rfl (b1 + 1) (.slice ao O.length co) O.length (flT O) rfl (Qob HQ3.out.own ((Below.refl z3.heap.size z3).alloc (Nat.le_refl _) _)) z3.heap.size #[.int .i64 y.t, .int .i64 y.s, .int .u64 (y.f : Int), .int .u64 (y.l : Int), .int .u64 (y.n : Int)] rfl (Qa.new z3 42 #[.int .i64 y.t, .int .i64 y.s, .int .u64 (y.f : Int), .int .u64 (y.l : Int), .int .u64 (y.n : Int)]) rfl (by simp [Value.oneCell']) (by omega) (Nat.le_trans HQ3.out.x.lt (by simp)) ?_; intro v' w7 ho7 hg7; refine Qpa ?_)); have HQ4 := Qb (HQ3.out.push (y := y) ((Below.refl _ _).alloc (Nat.le_refl _) _) ho7 hg7); clear ho7 hg7 HQ3 HLD; refine Qg ?_; go_wp2; go_roundw
            case rel => exact ⟨j + 1, O ++ [y], true, by omega, rfl, by go_num, HQ4.out, HN.out, by have := HFW.out; rw [List.length_append, List.length_singleton]; simp at this |-; omega⟩
            case measure => simp [intOf] <;> omega
    · have i5 : ¬ (j : Int) < (ln : Int) := by omega
      have hO : O.length <= 950 := by
        have := HJ.out.few; split at this <;> omega
      have HN : Hid (O ++ (if d = true then [] else [x]) = all) := by
        have h1 := HJ.out.all; rw [List.drop_of_length_le (by rw [<- HLN.out]; omega), Qhj] at h1; exact h1
      have HQ := Qb HJ.out.q; have HB2 := Qb (show w.heap.size <= b1 from HJ.out.q.lo); clear HJ
      cases d
      · go_wp2_with (first | (refine Qd rfl 42 (.tmp 3) rfl b1 rfl #[.int .i64 x.t, .int .i64 x.s, .int .u64 (x.f : Int), .int .u64 (x.l : Int), .int .u64 (x.n : Int)] HQ.out.x _ Try.underlying42 rfl Qdc ?_) | (refine Qu _ 25 42 5 40 (.agg #[.int .i64 0, .int .i64 0, .int .u64 0, .int .u64 0, .int .u64 0]) Try.underlying25 Qci rfl (by decide) (by decide) rfl (.tmp 50) (.tmp 52) rfl (b1 + 1) (.slice ao O.length co) O.length (flT O) rfl (Qob HQ.out.own ((Below.refl wr.heap.size wr).alloc (Nat.le_refl _) _)) wr.heap.size #[.int .i64 x.t, .int .i64 x.s, .int .u64 (x.f : Int), .int .u64 (x.l : Int), .int .u64 (x.n : Int)] rfl (Qa.new wr 42 #[.int .i64 x.t, .int .i64 x.s, .int .u64 (x.f : Int), .int .u64 (x.l : Int), .int .u64 (x.n : Int)]) rfl (by simp [Value.oneCell']) (by omega) (Nat.le_trans HQ.out.x.lt (by simp)) ?_; intro v' w7 ho7 hg7; refine Qpa ?_)); have HQ2 := Qb (HQ.out.push ((Below.refl _ _).alloc (Nat.le_refl _) _) ho7 hg7); clear ho7 hg7 HQ; refine Qg ?_; go_wp2; go_ret; refine ⟨v', rfl, ?_, HQ2.out.bel⟩; rw [<- HN.out]; exact ow_less HQ2.out.own (by have := HB2.out; omega)
      · go_wp2; go_ret; refine ⟨_, rfl, ?_, HQ.out.bel⟩
        have h1 : O = all := by
          have h := HN.out; simpa using h
        rw [<- h1]; exact ow_less HQ.out.own (by have := HB2.out; omega)
end Go.Proofs.Ytkgniegdefaieaa
