/-
  Texts that lean on one another, one behind the other: each opens with its own remark.
-/
import Derived.ArgAppend
import Derived.Test.YtohdmmfmjadipaaProg
import Derived.RegionTactic
import Derived.BigRegion
import Derived.Laws.IdiomCopy
import Derived.WalkSpells
import Derived.Laws.OwnMore
import Derived.WalkMore
import Derived.Test.YtohdmmfmjadipaaRows
import Derived.Maps.AppendAt
import Derived.Test.YtohdmmfmjadipaaK09
import Derived.Test.YtohdmmfmjadipaaK06
import Derived.Test.YtohdmmfmjadipaaK00
import Derived.Test.YtohdmmfmjadipaaK05
import Derived.Test.YtohdmmfmjadipaaK08
import Derived.Test.YtohdmmfmjadipaaK04
import Derived.Test.YtohdmmfmjadipaaK07
import Derived.Test.YtohdmmfmjadipaaK03

/-
  What every log keeps to is kept by its calls. Of no program.
-/
namespace Go.Proofs.Ytohdmmfmjadipaa
open Go.RowKit
set_option linter.unusedVariables false

theorem Lg.app_no (g : Lg) (r : Rec) (f : Nat) (h : Int) (he : g.appE r f h ≠ 0) : g.app r f h = g ∧ g.appN r f h = 0 := by
  unfold Lg.app Lg.appN
  rw [if_neg he, if_neg he]
  exact ⟨rfl, rfl⟩
theorem Lg.app_yes (g : Lg) (r : Rec) (f : Nat) (h : Int) (he : g.appE r f h = 0) : g.app r f h = { g with c := g.num f, hd := g.hold h, l := g.l ++ [r.put (g.num f)] } ∧ g.appN r f h = g.num f := by
  unfold Lg.app Lg.appN
  rw [if_pos he, if_pos he]
  exact ⟨rfl, rfl⟩
/-- What an Append that was OK tells. -/
theorem Lg.appE_ok (g : Lg) (r : Rec) (f : Nat) (h : Int) (he : g.appE r f h = 0) : r.l = 0 ∧ -65536 ≤ h ∧ h ≤ 65536 ∧ full g.c f (decide (h < 0)) = false ∧ (r.put (g.num f)).right ∧ g.used + (frameB (r.put (g.num f))).length + g.hold h ≤ g.t.m := by
  unfold Lg.appE at he
  split at he
  · omega
  split at he
  · omega
  split at he
  · omega
  split at he
  · omega
  rename_i h1 h2 h3 h4
  have h3' := Classical.not_not.1 h3
  refine ⟨by omega, by omega, by omega, by simpa using h2, h3', by omega⟩
theorem frames_one (r : Rec) : framesB [r] = frameB r := by simp [framesB]
theorem Lg.app_ok (g : Lg) (hg : g.ok) (r : Rec) (f : Nat) (h : Int) : (g.app r f h).ok := by
  by_cases he : g.appE r f h = 0
  · rw [(g.app_yes r f h he).1]
    obtain ⟨h1, h2, h3, h4, h5, h6⟩ := g.appE_ok r f h he
    have hon := hg.on
    have hfa := hg.fa
    have hnl : (r.put (g.num f)).l = g.num f := rfl
    have htop : g.num f ≤ maxL := by
      have := h5.lm
      rw [hnl] at this
      unfold maxP at this
      unfold maxL
      omega
    have hnum : g.c < g.num f := by unfold Lg.num; omega
    have hlast := hg.last
    refine ⟨hg.tok, ?_, hg.fa, ?_, ?_, htop, ?_, ?_, ?_, ?_, ?_, ?_⟩
    · show g.on ≤ (g.l ++ [_]).length
      rw [List.length_append]
      omega
    · show Rise 0 (g.l ++ [_])
      rw [rise_snoc]
      exact ⟨hg.rise, h5, by rw [hnl]; omega⟩
    · show lastL 0 (g.l ++ [_]) ≤ g.num f
      rw [last_snoc, hnl]
      exact Nat.le_refl _
    · show g.t.b.data.toList = framesB ((g.l ++ [_]).take g.on)
      rw [List.take_append_of_le_length hon]
      exact hg.bytes
    · show g.t.f = (framesB ((g.l ++ [_]).take g.fa)).length
      rw [List.take_append_of_le_length (by omega)]
      exact hg.fast
    · show g.t.b.size + (framesB ((g.l ++ [_]).drop g.on)).length + g.hold h ≤ g.t.m
      rw [List.drop_append_of_le_length hon, framesB_append, List.length_append, frames_one]
      unfold Lg.used at h6
      omega
    · intro q hq
      have hq' : q ∈ (g.l ++ [r.put (g.num f)]).take g.fa := hq
      rw [List.take_append_of_le_length (by omega)] at hq'
      exact hg.low q hq'
    · intro q hq
      have hq' : q ∈ (g.l ++ [r.put (g.num f)]).drop g.fa := hq
      rw [List.drop_append_of_le_length (by omega)] at hq'
      rcases List.mem_append.1 hq' with hq' | hq'
      · exact hg.high q hq'
      · rw [List.mem_singleton.1 hq', hnl]
        exact Nat.lt_of_le_of_lt hg.du hnum
    · exact Nat.le_trans hg.du (Nat.le_of_lt hnum)
  · rw [(g.app_no r f h he).1]
    exact hg
theorem Lg.write_app (g : Lg) (hg : g.ok) : g.t.app (bytesS (g.l.drop g.on)) = ({ g.t with b := g.t.b ++ bytesS (g.l.drop g.on) }, 0) := by
  have h1 := hg.room
  unfold Lg.used at h1
  unfold Tp.app
  rw [bytesS_size, if_neg (by omega)]
theorem data_append (a b : ByteArray) : (a ++ b).data.toList = a.data.toList ++ b.data.toList := by
  rw [ByteArray.data_append, Array.toList_append]
theorem Lg.write_ok (g : Lg) (hg : g.ok) : g.write.ok := by
  have ht := g.t.app_ok hg.tok (bytesS (g.l.drop g.on))
  have e := g.write_app hg
  have h1 := hg.room
  unfold Lg.used at h1
  unfold Lg.write
  rw [e] at ht ⊢
  refine ⟨ht, Nat.le_refl _, Nat.le_trans hg.fa hg.on, hg.rise, hg.last, hg.top, ?_, hg.fast, ?_, hg.low, hg.high, hg.du⟩
  · show (g.t.b ++ bytesS (g.l.drop g.on)).data.toList = framesB (g.l.take g.l.length)
    rw [data_append, bytesS_data, hg.bytes, List.take_length, ← frames_cut]
  · show (g.t.b ++ bytesS (g.l.drop g.on)).size + (framesB (g.l.drop g.l.length)).length + g.hd ≤ g.t.m
    rw [ByteArray.size_append, bytesS_size, List.drop_length]
    have h0 : (framesB []).length = 0 := rfl
    rw [h0]
    omega
theorem Lg.sync_ok (g : Lg) (hg : g.ok) : g.sync.ok := by
  have hb := congrArg List.length hg.bytes
  rw [Array.length_toList] at hb
  have hdu : ∀ r ∈ g.l.take g.on, r.l ≤ g.sync.du := by
    intro r hr
    have h0 : 0 < g.on := by
      rcases Nat.eq_zero_or_pos g.on with h | h
      · rw [h] at hr
        simp at hr
      · exact h
    have hm := (rise_mem _ 0 (rise_first g.l 0 g.on hg.rise) r hr).2
    have e := last_take g.l 0 (g.on - 1) (by have := hg.on; omega)
    rw [Nat.sub_add_cancel h0] at e
    show r.l ≤ if 0 < g.on then (g.l.getD (g.on - 1) Rec.zero).l else g.du
    rw [if_pos h0, ← e]
    exact hm
  have hlast : g.sync.du ≤ lastL 0 (g.l.take g.on) ∨ g.sync.du = g.du ∧ g.on = 0 := by
    show (if 0 < g.on then (g.l.getD (g.on - 1) Rec.zero).l else g.du) ≤ _ ∨ _
    by_cases h0 : 0 < g.on
    · have e := last_take g.l 0 (g.on - 1) (by have := hg.on; omega)
      rw [Nat.sub_add_cancel h0] at e
      rw [if_pos h0, ← e]
      exact .inl (Nat.le_refl _)
    · refine .inr ⟨?_, by omega⟩
      show (if 0 < g.on then (g.l.getD (g.on - 1) Rec.zero).l else g.du) = g.du
      rw [if_neg h0]
  refine ⟨g.t.sync_ok hg.tok, hg.on, Nat.le_refl _, hg.rise, hg.last, hg.top, hg.bytes, ?_, hg.room, hdu, ?_, ?_⟩
  · show g.t.b.size = (framesB (g.l.take g.on)).length
    exact hb
  · intro r hr
    have hr' : r ∈ g.l.drop g.on := hr
    rcases hlast with h | ⟨h, h0⟩
    · have := (rise_mem _ _ (rise_drop g.l 0 g.on hg.rise) r hr').1
      omega
    · rw [h]
      have hf := hg.fa
      exact hg.high r (by rw [show g.fa = 0 by omega, List.drop_zero]; rw [h0, List.drop_zero] at hr'; exact hr')
  · show g.sync.du ≤ g.c
    rcases hlast with h | ⟨h, _⟩
    · have h1 := last_drop g.l 0 g.on
      have h2 := rise_le _ _ (rise_drop g.l 0 g.on hg.rise)
      have h3 := hg.last
      omega
    · rw [h]
      exact hg.du
theorem Lg.trim_k (g : Lg) (hg : g.ok) (n : Nat) : trimK g.l g.fa n ≤ g.fa ∧ (framesB (g.l.take (trimK g.l g.fa n))).length ≤ g.t.f := by
  have h := (trimK_le g.l g.fa n).1
  exact ⟨h, by rw [hg.fast]; exact frames_mono g.l _ _ h⟩
theorem Lg.trim_cut (g : Lg) (hg : g.ok) (n : Nat) : g.t.cut ((framesB (g.l.take (trimK g.l g.fa n))).length : Int) = (⟨g.t.b.extract (framesB (g.l.take (trimK g.l g.fa n))).length g.t.b.size, g.t.f - (framesB (g.l.take (trimK g.l g.fa n))).length, g.t.m, (g.t.s + (framesB (g.l.take (trimK g.l g.fa n))).length) % 18446744073709551616⟩, 0) := by
  have h := (g.trim_k hg n).2
  unfold Tp.cut
  rw [if_neg (by omega)]
  simp
theorem Lg.trim_ok (g : Lg) (hg : g.ok) (n : Nat) : (g.trim n).ok := by
  have hc := g.t.cut_ok hg.tok ((framesB (g.l.take (trimK g.l g.fa n))).length : Int)
  have e := g.trim_cut hg n
  obtain ⟨hk, hkf⟩ := g.trim_k hg n
  have hon := hg.on
  have hfa := hg.fa
  have hff := hg.tok.fast
  unfold Lg.trim
  rw [e] at hc ⊢
  generalize trimK g.l g.fa n = k at *
  have hb : g.t.b.data.toList.length = g.t.b.size := by rw [Array.length_toList]; rfl
  have htk : ∀ j, k ≤ j → (g.l.drop k).take (j - k) = (g.l.take j).drop k := fun j hj => by rw [List.drop_take]
  have hsplit : ∀ j, k ≤ j → framesB (g.l.take j) = framesB (g.l.take k) ++ framesB ((g.l.take j).drop k) := fun j hj => by
    have := frames_cut (g.l.take j) k
    rwa [List.take_take, Nat.min_eq_left hj] at this
  have hdat : (g.t.b.extract (framesB (g.l.take k)).length g.t.b.size).data.toList = framesB ((g.l.take g.on).drop k) := by
    have e2 := extract_eq g.t.b (framesB (g.l.take k)).length (g.t.b.size - (framesB (g.l.take k)).length) (by omega)
    rw [show (framesB (g.l.take k)).length + (g.t.b.size - (framesB (g.l.take k)).length) = g.t.b.size by omega] at e2
    rw [e2]
    simp only
    rw [List.take_of_length_le (by rw [List.length_drop]; omega), hg.bytes, hsplit g.on (by omega), List.drop_left' rfl]
  have hsz : (g.t.b.extract (framesB (g.l.take k)).length g.t.b.size).size = g.t.b.size - (framesB (g.l.take k)).length := by rw [ByteArray.size_extract]; omega
  refine ⟨hc, ?_, ?_, ?_, ?_, hg.top, ?_, ?_, ?_, ?_, ?_, hg.du⟩
  · show g.on - k ≤ (g.l.drop k).length
    rw [List.length_drop]
    omega
  · show g.fa - k ≤ g.on - k
    omega
  · exact rise_weak _ _ 0 (rise_drop g.l 0 k hg.rise) (Nat.zero_le _)
  · exact Nat.le_trans (last_le_drop g.l k hg.rise) hg.last
  · show _ = framesB ((g.l.drop k).take (g.on - k))
    rw [hdat, htk g.on (by omega)]
  · show g.t.f - (framesB (g.l.take k)).length = (framesB ((g.l.drop k).take (g.fa - k))).length
    rw [htk g.fa hk, hg.fast, hsplit g.fa hk, List.length_append]
    omega
  · show (g.t.b.extract (framesB (g.l.take k)).length g.t.b.size).size + (framesB ((g.l.drop k).drop (g.on - k))).length + g.hd ≤ g.t.m
    rw [hsz, List.drop_drop, show k + (g.on - k) = g.on by omega]
    have := hg.room
    unfold Lg.used at this
    omega
  · intro r hr
    have hr' : r ∈ (g.l.drop k).take (g.fa - k) := hr
    rw [htk g.fa hk] at hr'
    exact hg.low r (List.mem_of_mem_drop hr')
  · intro r hr
    have hr' : r ∈ (g.l.drop k).drop (g.fa - k) := hr
    rw [List.drop_drop, show k + (g.fa - k) = g.fa by omega] at hr'
    exact hg.high r hr'
end Go.Proofs.Ytohdmmfmjadipaa

/-
  The beginning and the rest of a list of records.
-/
namespace Go.Proofs.Ytohdmmfmjadipaa
open Go.RowKit
set_option linter.unusedVariables false

theorem RsIn.first {w : World} {a : Option Addr} {len cap i : Nat} {ms : List (Rec × Value × Value)} (h : RsIn w (.slice a len cap) ms) (hi : i ≤ ms.length) : RsIn w (.slice a i cap) (ms.take i) := by
  have hl : (ms.take i).length = i := by rw [List.length_take, Nat.min_eq_left hi]
  obtain ⟨⟨a', cap', h1, h2⟩, h3⟩ := h
  injection h1 with e1 e2 e3
  subst e1 e3
  refine ⟨⟨a, cap, by rw [hl], fun hp => ?_⟩, fun m hm => h3 m (List.mem_of_mem_take hm)⟩
  rw [hl] at hp
  obtain ⟨b, off, h4, h5, h6⟩ := h2 (by omega)
  refine ⟨b, off, h4, h5, fun j hj => ?_⟩
  rw [hl] at hj
  have e : (ms.take i).getD j rcZ = ms.getD j rcZ := by
    rw [List.getD_eq_getElem?_getD, List.getD_eq_getElem?_getD, List.getElem?_take, if_pos hj]
  rw [e]
  exact h6 j (by omega)
theorem RsIn.empty (w : World) (a : Option Addr) (cap : Nat) : RsIn w (.slice a 0 cap) [] := ⟨⟨a, cap, rfl, fun h => absurd h (by simp)⟩, fun m hm => (nomatch hm)⟩
theorem RsIn.rest {w : World} {b off len cap i : Nat} {ms : List (Rec × Value × Value)} (h : RsIn w (.slice (some ⟨b, off, none⟩) len cap) ms) (hi : i ≤ ms.length) (k c : Nat) (hk : k = len - i) : RsIn w (.slice (some ⟨b, off + i * 14, none⟩) k c) (ms.drop i) := by
  obtain ⟨⟨a', cap', h1, h2⟩, h3⟩ := h
  injection h1 with e1 e2 e3
  subst e1
  have hl : (ms.drop i).length = k := by rw [List.length_drop, hk, e2]
  refine ⟨⟨_, c, by rw [hl], fun hp => ?_⟩, fun m hm => h3 m (List.mem_of_mem_drop hm)⟩
  rw [List.length_drop] at hp
  obtain ⟨b', off', h4, h5, h6⟩ := h2 (by omega)
  injection h4 with h7
  injection h7 with h8 h9
  subst h8 h9
  refine ⟨b, off + i * 14, rfl, h5, fun j hj => ?_⟩
  rw [List.length_drop] at hj
  have e : (ms.drop i).getD j rcZ = ms.getD (i + j) rcZ := by
    rw [List.getD_eq_getElem?_getD, List.getD_eq_getElem?_getD, List.getElem?_drop]
  have e4 : off + i * 14 + j * 14 = off + (i + j) * 14 := by omega
  rw [e, e4]
  exact h6 (i + j) (by omega)
end Go.Proofs.Ytohdmmfmjadipaa

/-
  Lists of records that a log keeps, in memory: their row, with room behind it; their lists stay where they are.
-/
namespace Go.Proofs.Ytohdmmfmjadipaa
open Go.RowKit
set_option linter.unusedVariables false

/-- A block that no log's call turns: it was there at the beginning, or holds rows of a record's lists. -/
def Safe (B : Nat) (w : World) (b : Nat) : Prop := b < w.heap.size ∧ (b < B ∨ ∃ t cs, (t = 84 ∨ t = 86) ∧ RowAt w b t cs)
/-- Blocks that logs and tapes are made of. -/
def Loose (B : Nat) (w : World) (F : Nat → Prop) : Prop := ∀ k, F k → B ≤ k ∧ k < w.heap.size ∧ ∀ t cs, RowAt w k t cs → t ≠ 84 ∧ t ≠ 86
theorem Safe.not {B b : Nat} {w : World} {F : Nat → Prop} (h : Safe B w b) (hl : Loose B w F) : ¬ F b := fun hf => by
  obtain ⟨h1, h2, h3⟩ := hl b hf
  rcases h.2 with h4 | ⟨t, cs, h4, h5⟩
  · omega
  · have := h3 t cs h5
    rcases h4 with h4 | h4
    · exact this.1 h4
    · exact this.2 h4
theorem Safe.keep {B b : Nat} {w x : World} {F : Nat → Prop} (h : Safe B w b) (hl : Loose B w F) (p : Tn F w x) : Safe B x b := by
  have hn := h.not hl
  refine ⟨Nat.lt_of_lt_of_le h.1 p.size, ?_⟩
  rcases h.2 with h4 | ⟨t, cs, h4, h5⟩
  · exact .inl h4
  · exact .inr ⟨t, cs, h4, p.row h5 hn⟩
/-- Where a list's elements lie. -/
def LiesIn (G : Nat → Prop) (v : Value) : Prop := ∀ b off n c, v = .slice (some ⟨b, off, none⟩) n c → 0 < n → G b
theorem rows_keep {α : Type} {f : α → Array Value} {z : α} {n : Nat} {w x : World} {v : Value} {xs : List α} (h : RowsIn f z n w v xs) (hs : ∀ b off m c, v = .slice (some ⟨b, off, none⟩) m c → 0 < m → x.heap[b]? = w.heap[b]?) (hz : w.heap.size ≤ x.heap.size) : RowsIn f z n x v xs := by
  obtain ⟨a, cap, rfl, h2⟩ := h
  refine ⟨a, cap, rfl, fun hp => ?_⟩
  obtain ⟨b, off, rfl, h4, h5⟩ := h2 hp
  have hk := hs b off _ _ rfl hp
  exact ⟨b, off, rfl, Nat.lt_of_lt_of_le h4 hz, fun i hi j u hu => (World.cell?_of_block (a := ⟨b, off + i * n + j, none⟩) hk).trans (h5 i hi j u hu)⟩
/-- A record's lists, where no log's call turns them. -/
structure RcK (B : Nat) (w : World) (r : Rec) (va vb : Value) : Prop where
  rc : RcIn w r va vb
  tx : LiesIn (Safe B w) va
  di : LiesIn (Safe B w) vb
theorem RcK.keep {B : Nat} {w x : World} {F : Nat → Prop} {r : Rec} {va vb : Value} (h : RcK B w r va vb) (hl : Loose B w F) (p : Tn F w x) : RcK B x r va vb :=
  ⟨⟨rows_keep h.rc.1 (fun b off m c e hm => p.block b (h.tx b off m c e hm).1 ((h.tx b off m c e hm).not hl)) p.size, rows_keep h.rc.2 (fun b off m c e hm => p.block b (h.di b off m c e hm).1 ((h.di b off m c e hm).not hl)) p.size⟩,
    fun b off m c e hm => (h.tx b off m c e hm).keep hl p, fun b off m c e hm => (h.di b off m c e hm).keep hl p⟩
theorem loose_none (B : Nat) (w : World) : Loose B w (fun _ => False) := fun k h => h.elim
theorem RcK.later {B : Nat} {w x : World} {r : Rec} {va vb : Value} (h : RcK B w r va vb) (p : Below w.heap.size w x) : RcK B x r va vb := h.keep (loose_none B w) (Tn.of_below p)
/-- What was there at the beginning. -/
theorem RcK.first {w x : World} {r : Rec} {va vb : Value} (h : RcIn w r va vb) (p : Below w.heap.size w x) : RcK w.heap.size x r va vb := by
  have lies : ∀ {α : Type} {f : α → Array Value} {z : α} {n : Nat} {v : Value} {xs : List α}, RowsIn f z n w v xs → LiesIn (Safe w.heap.size x) v := by
    intro α f z n v xs h b off m c e hm
    obtain ⟨a, cap, rfl, h2⟩ := h
    injection e with e1 e2 e3
    obtain ⟨b', off', h3, h4, _⟩ := h2 (by omega)
    rw [e1] at h3
    injection h3 with h3
    injection h3 with h3
    subst h3
    exact ⟨Nat.lt_of_lt_of_le h4 p.size, .inl h4⟩
  exact ⟨h.below p, lies h.1, lies h.2⟩
/-- What was decoded. -/
theorem RcK.got {B base : Nat} {w : World} {r : Rec} {va vb : Value} (h : GotIn base w r va vb) : RcK B w r va vb := by
  have lies : ∀ {e : TypeId} {sz n : Nat} {v : Value} {xs : List Value}, (e = 84 ∨ e = 86) → w.ownsRow base e sz v n xs → LiesIn (Safe B w) v := by
    intro e sz n v xs he h b off m c ev hm
    rcases h.2 with ⟨h1, _⟩ | ⟨g, cap, cur, h1, _, h2, _⟩
    · rw [h1] at ev
      cases ev
    · rw [h1] at ev
      injection ev with ev
      injection ev with ev
      injection ev with ev
      subst ev
      exact ⟨(Array.getElem?_eq_some_iff.1 h2).1, .inr ⟨e, cur, he, h2⟩⟩
  exact ⟨h.rc, lies (.inl rfl) h.1, lies (.inr rfl) h.2⟩

/-! ### A row of records with room behind it -/
abbrev Rm := Rec × Value × Value
/-- A list of records in a row of its own, from some place on. -/
def RB (B : Nat) (w : World) (a : Option Addr) (cap : Nat) (ms : List Rm) : Prop :=
  ((a = none ∧ ms = [] ∧ cap = 0) ∨ ∃ b off cs, a = some ⟨b, off, none⟩ ∧ B ≤ b ∧ RowAt w b 30 cs ∧ off + cap * 14 ≤ cs.size ∧ ms.length ≤ cap ∧ ∀ i, i < ms.length → w.rangeAt b (off + i * 14) (rcF (ms.getD i rcZ)).toList) ∧
  ∀ m ∈ ms, m.1.fits ∧ RcK B w m.1 m.2.1 m.2.2
/-- Its block. -/
def blk (a : Option Addr) (k : Nat) : Prop := ∃ off, a = some ⟨k, off, none⟩
theorem RB.rs {B : Nat} {w : World} {a : Option Addr} {cap : Nat} {ms : List Rm} (h : RB B w a cap ms) : RsIn w (.slice a ms.length cap) ms := by
  refine ⟨⟨a, cap, rfl, fun hp => ?_⟩, fun m hm => ⟨(h.2 m hm).1, (h.2 m hm).2.rc⟩⟩
  rcases h.1 with ⟨_, rfl, _⟩ | ⟨b, off, cs, rfl, _, h2, _, _, h5⟩
  · exact absurd hp (by simp)
  · exact ⟨b, off, rfl, h2.lt, h5⟩
theorem RB.cap {B : Nat} {w : World} {a : Option Addr} {cap : Nat} {ms : List Rm} (h : RB B w a cap ms) : ms.length ≤ cap := by
  rcases h.1 with ⟨_, rfl, _⟩ | ⟨_, _, _, _, _, _, _, h4, _⟩
  · exact Nat.zero_le _
  · exact h4
theorem RB.nil (B : Nat) (w : World) : RB B w none 0 [] := ⟨.inl ⟨rfl, rfl, rfl⟩, fun m hm => nomatch hm⟩
/-- Another thing's calls leave it. -/
theorem RB.keep {B : Nat} {w x : World} {F : Nat → Prop} {a : Option Addr} {cap : Nat} {ms : List Rm} (h : RB B w a cap ms) (hl : Loose B w F) (p : Tn F w x) (hn : ∀ k, blk a k → ¬ F k) : RB B x a cap ms := by
  refine ⟨?_, fun m hm => ⟨(h.2 m hm).1, (h.2 m hm).2.keep hl p⟩⟩
  rcases h.1 with h1 | ⟨b, off, cs, rfl, h1, h2, h3, h4, h5⟩
  · exact .inl h1
  · have hb := p.block b h2.lt (hn b ⟨off, rfl⟩)
    exact .inr ⟨b, off, cs, rfl, h1, hb.trans h2, h3, h4, fun i hi j u hu => (World.cell?_of_block (a := ⟨b, off + i * 14 + j, none⟩) hb).trans (h5 i hi j u hu)⟩
theorem RB.later {B : Nat} {w x : World} {a : Option Addr} {cap : Nat} {ms : List Rm} (h : RB B w a cap ms) (p : Below w.heap.size w x) : RB B x a cap ms := h.keep (loose_none B w) (Tn.of_below p) (fun _ _ h => h)
/-- Only the row's own block, elsewhere than at its elements, or blocks beside it, were turned. -/
theorem RB.drop {B : Nat} {w : World} {b off cap : Nat} {ms : List Rm} (h : RB B w (some ⟨b, off, none⟩) cap ms) (k : Nat) (hk : k ≤ ms.length) (hc : ¬ cap = k) : RB B w (some ⟨b, off + k * 14, none⟩) (cap - k) (ms.drop k) := by
  refine ⟨?_, fun m hm => h.2 m (List.mem_of_mem_drop hm)⟩
  rcases h.1 with ⟨h1, _⟩ | ⟨b', off', cs, h1, h2, h3, h4, h5, h6⟩
  · cases h1
  · injection h1 with h1
    injection h1 with h1 h7
    subst h1 h7
    refine .inr ⟨b, off + k * 14, cs, rfl, h2, h3, by omega, by rw [List.length_drop]; omega, fun i hi => ?_⟩
    rw [List.length_drop] at hi
    have e : (ms.drop k).getD i rcZ = ms.getD (k + i) rcZ := by
      rw [List.getD_eq_getElem?_getD, List.getD_eq_getElem?_getD, List.getElem?_drop]
    rw [e, show off + k * 14 + i * 14 = off + (k + i) * 14 by omega]
    exact h6 (k + i) (by omega)
/-- All are dropped where the row ends. -/
theorem RB.drop_all {B : Nat} {w : World} {a : Option Addr} {cap : Nat} {ms : List Rm} (h : RB B w a cap ms) : RB B w a 0 [] := by
  refine ⟨?_, fun m hm => nomatch hm⟩
  rcases h.1 with ⟨h1, _, _⟩ | ⟨b, off, cs, h1, h2, h3, h4, h5, h6⟩
  · exact .inl ⟨h1, rfl, rfl⟩
  · exact .inr ⟨b, off, cs, h1, h2, h3, by omega, Nat.zero_le _, fun i hi => absurd hi (by simp)⟩
/-- What Scan leaves. -/
theorem RB.own {B base : Nat} {w : World} {v : Value} {ms : List Rm} (hB : B ≤ base) (ho : w.ownsRow base 30 14 v ms.length (flatR ms)) (hg : ∀ m ∈ ms, m.1.fits ∧ GotIn base w m.1 m.2.1 m.2.2) : ∃ a cap, v = .slice a ms.length cap ∧ RB B w a cap ms ∧ ∀ k, blk a k → base ≤ k := by
  have hs := RsIn.own ho hg
  rcases ho.2 with ⟨rfl, h0⟩ | ⟨g, cap, cur, rfl, h1, h2, h3, h4, h5, h6⟩
  · obtain rfl := List.eq_nil_of_length_eq_zero h0
    exact ⟨none, 0, rfl, RB.nil B w, fun k hk => by obtain ⟨_, h⟩ := hk; cases h⟩
  · refine ⟨_, cap, rfl, ⟨.inr ⟨g, 0, cur, rfl, Nat.le_trans hB h1, h2, by omega, h3, fun i hi => ?_⟩, fun m hm => ⟨(hg m hm).1, RcK.got (hg m hm).2⟩⟩, fun k hk => by
      obtain ⟨_, h⟩ := hk
      injection h with h
      injection h with h
      omega⟩
    obtain ⟨b, off, e, _, h8, _⟩ := hs.at hi
    injection e with e
    injection e with e1 e2
    subst e1 e2
    exact h8
end Go.Proofs.Ytohdmmfmjadipaa

/-
  The code's tape in memory: its block, and the row of its bytes. What its calls may turn.
-/
namespace Go.Proofs.Ytohdmmfmjadipaa
open Go.RowKit
set_option linter.unusedVariables false

/-- Only these two blocks, and what is new, was turned. -/
structure Turn (g h : Nat) (w w' : World) : Prop where
  os : w'.os = w.os
  tape : w'.tape = w.tape
  output : w'.output = w.output
  size : w.heap.size ≤ w'.heap.size
  block : ∀ k, k < w.heap.size → k ≠ g → k ≠ h → w'.heap[k]? = w.heap[k]?
theorem Turn.refl (g h : Nat) (w : World) : Turn g h w w := ⟨rfl, rfl, rfl, Nat.le_refl _, fun _ _ _ _ => rfl⟩
theorem Turn.trans {g h : Nat} {w x y : World} (p : Turn g h w x) (q : Turn g h x y) : Turn g h w y :=
  ⟨q.os.trans p.os, q.tape.trans p.tape, q.output.trans p.output, Nat.le_trans p.size q.size, fun i hi h1 h2 => (q.block i (Nat.lt_of_lt_of_le hi p.size) h1 h2).trans (p.block i hi h1 h2)⟩
theorem Turn.set {g h : Nat} {w x : World} (p : Turn g h w x) (j : Nat) (v : Value) : Turn g h w (x.setCell ⟨g, j, none⟩ v) :=
  ⟨p.os, p.tape, p.output, Nat.le_trans p.size ((Below.refl 0 x).setCell (Nat.zero_le _) v).size, fun i hi h1 h2 => (heap_setCell_other x ⟨g, j, none⟩ i v h1).trans (p.block i hi h1 h2)⟩
theorem Turn.drew {g h : Nat} {w x : World} (p : Turn g h w x) : Turn g h w x.drew := ⟨p.os, p.tape, p.output, p.size, p.block⟩
theorem Turn.below {g h n : Nat} {w x : World} (p : Turn g h w x) (h1 : n ≤ g) (h2 : n ≤ h) (hs : n ≤ w.heap.size) : Below n w x :=
  ⟨p.os, p.tape, p.output, p.size, fun i hi => p.block i (by omega) (by omega) (by omega)⟩
theorem Turn.of_below {g h : Nat} {w x : World} (p : Below w.heap.size w x) : Turn g h w x := ⟨p.os, p.tape, p.output, p.size, fun i hi _ _ => p.block i hi⟩
theorem Turn.row {g h k : Nat} {w x : World} {t : TypeId} {cs : Array Value} (p : Turn g h w x) (hr : RowAt w k t cs) (h1 : k ≠ g) (h2 : k ≠ h) : RowAt x k t cs := (p.block k hr.lt h1 h2).trans hr
theorem Turn.grown {g h : Nat} {w x y : World} {row : Option Nat} (p : Turn g h w x) (q : x.grownBy y row) (hr : ∀ k, row = some k → k = h ∨ w.heap.size ≤ k) : Turn g h w y :=
  ⟨q.os.trans p.os, q.tape.trans p.tape, q.output.trans p.output, Nat.le_trans p.size q.size, fun i hi h1 h2 => (q.block i (Nat.lt_of_lt_of_le hi p.size) (fun e => by
    rcases hr i e.symm with h3 | h3
    · exact h2 h3
    · omega)).trans (p.block i hi h1 h2)⟩

theorem row_apart {w : World} {g k : Nat} {t u : TypeId} {cs ds : Array Value} (h : RowAt w g t cs) (h2 : w.heap[k]? = some (.cells ds u (0, 0))) (hne : t ≠ u) : g ≠ k := by
  intro e
  subst e
  have h3 : w.heap[g]? = some (.cells cs t (0, 0)) := h
  rw [h3] at h2
  injection h2 with h2
  injection h2 with _ h4
  exact hne h4
end Go.Proofs.Ytohdmmfmjadipaa

/-
  What the code's log keeps to, as the statements' walks lean on it: one form, whatever its fields are.
-/
namespace Go.Proofs.Ytohdmmfmjadipaa
open Go.RowKit
set_option linter.unusedVariables false

/-- What tells which log a code's log stands for: the tape's block, the log's, the world, all its blocks (the tape's too), the log. -/
abbrev LogAt := Nat → Nat → World → (Nat → Prop) → Lg → Prop
/-- Behind a call: the log, in blocks that were its own or are new. -/
def Aft (LA : LogAt) (gt gl : Nat) (x : World) (F : Nat → Prop) (g : Lg) (x' : World) : Prop := ∃ F', LA gt gl x' F' g ∧ Tn F x x' ∧ ∀ k, F' k → F k ∨ x.heap.size ≤ k
/-- The record of a number. -/
def Lg.get (g : Lg) (n : Nat) : Rec × Bool := match g.l.find? (fun r => decide (r.l = n)) with
  | some r => (r, true)
  | none => (Rec.zero, false)
end Go.Proofs.Ytohdmmfmjadipaa

/-
  A record put behind a log's records: in their row, or in a new one.
-/
namespace Go.Proofs.Ytohdmmfmjadipaa
open Go.RowKit
set_option linter.unusedVariables false

theorem flat_length {α : Type} (f : α → Array Value) (n : Nat) (hf : ∀ x, (f x).size = n) : ∀ xs : List α, (xs.flatMap fun x => (f x).toList).length = xs.length * n
  | [] => by simp
  | x :: xs => by rw [List.flatMap_cons, List.length_append, flat_length f n hf xs, Array.length_toList, hf, List.length_cons, Nat.add_mul, Nat.one_mul, Nat.add_comm]
/-- 'append' as one step of a region that draws its order, by what it answers. -/
theorem step_append_run {P : Program} {ops : Array Oper} {o : Oper} {a : Act} {w : World} {K : Act → World → Prop} {Q : Exit → Act → World → Prop} {E : Prop}
    (hg : o.guard = none) (d x : Operand) (t u : TypeId) (hop : o.op = Op.call { callee := Callee.builtin Builtin.append, args := #[d, x], argTypes := #[t, u] })
    (vd vx v' : Value) (w' : World) (hs : a.eval d = vd) (hx : a.eval x = vx) (hrun : (Builtin.append_ #[t, u] o.type #[vd, vx]).run P w = .ok v' w') (hK : K (a.put o.dst v') w') :
    if Region.wanted o (yielded ops a.tmps) = true then Oper.wp P o a w K Q else E := by
  have hw : Region.wanted o (yielded ops a.tmps) = true := by simp [Region.wanted, hg]
  rw [if_pos hw]
  unfold Oper.wp
  simp [execOp, hop, resolve, invoke, builtin, hs, hx, hrun, Result.andThen]
  exact hK
theorem setCells_row : ∀ (vs : List Value) (o : Nat) (w : World) (b : Nat) (t : TypeId) (cs : Array Value), RowAt w b t cs → ∃ ds, RowAt (w.setCells b o vs) b t ds ∧ ds.size = cs.size
  | [], _, w, b, t, cs, h => ⟨cs, h, rfl⟩
  | v :: vs, o, w, b, t, cs, h => by
    obtain ⟨ds, h1, h2⟩ := setCells_row vs (o + 1) (w.setCell ⟨b, o, none⟩ v) b t _ (h.set o v)
    exact ⟨ds, h1, by rw [h2]; simp⟩
theorem setCells_tn : ∀ (vs : List Value) (o : Nat) (w : World) (b : Nat) (F : Nat → Prop), F b → Tn F w (w.setCells b o vs)
  | [], _, w, _, F, _ => Tn.refl F w
  | v :: vs, o, w, b, F, h => ((Tn.refl F w).set b o v h).then (setCells_tn vs (o + 1) _ b F h)
theorem rcF_one (m : Rm) (h : m.2.1.oneCell' = true ∧ m.2.2.oneCell' = true) : ∀ u ∈ (rcF m).toList, u.oneCell' = true := by
  intro u hu
  simp only [rcF, rcA, List.mem_cons, List.not_mem_nil, or_false] at hu
  rcases hu with rfl | rfl | rfl | rfl | rfl | rfl | rfl | rfl | rfl | rfl | rfl | rfl | rfl | rfl
  all_goals first | rfl | exact h.1 | exact h.2
theorem rc_one {w : World} {r : Rec} {va vb : Value} (h : RcIn w r va vb) : va.oneCell' = true ∧ vb.oneCell' = true := by
  obtain ⟨⟨a, c, rfl, _⟩, ⟨b, d, rfl, _⟩⟩ := h
  exact ⟨rfl, rfl⟩
theorem getD_snoc (ms : List Rm) (m : Rm) (i : Nat) : (ms ++ [m]).getD i rcZ = if i < ms.length then ms.getD i rcZ else if i = ms.length then m else rcZ := by
  by_cases h : i < ms.length
  · rw [if_pos h]
    simp only [List.getD_eq_getElem?_getD, List.getElem?_append_left h]
  · rw [if_neg h]
    by_cases e : i = ms.length
    · subst e
      rw [if_pos rfl]
      simp [List.getD_eq_getElem?_getD]
    · rw [if_neg e]
      simp only [List.getD_eq_getElem?_getD]
      rw [List.getElem?_eq_none (by rw [List.length_append]; simp; omega)]
      rfl
/-- A new row is a row of records. -/
theorem RB.fresh {B : Nat} {w : World} {v : Value} {ms : List Rm} {base n : Nat} (hn : n = ms.length) (hp : 0 < n) (hB : B ≤ base) (ho : w.ownsRow base 30 14 v n (flatR ms)) (hg : ∀ m ∈ ms, m.1.fits ∧ RcK B w m.1 m.2.1 m.2.2) : ∃ a cap, v = .slice a n cap ∧ RB B w a cap ms ∧ ∀ k, blk a k → base ≤ k := by
  subst hn
  have hs := own_rows rcF rcZ 14 (fun _ => rfl) ho
  rcases ho.2 with ⟨rfl, h0⟩ | ⟨g, cap, cur, rfl, h1, h2, h3, h4, h5, h6⟩
  · omega
  · obtain ⟨a', cap', e, h7⟩ := hs
    injection e with e1 e2 e3
    obtain ⟨b, off, h8, _, h9⟩ := h7 hp
    rw [← e1] at h8
    injection h8 with h8
    injection h8 with h10 h11
    subst h10 h11
    exact ⟨_, cap, rfl, ⟨.inr ⟨g, 0, cur, rfl, Nat.le_trans hB h1, h2, by omega, h3, h9⟩, hg⟩, fun k hk => by
      obtain ⟨_, h⟩ := hk
      injection h with h
      injection h with h
      omega⟩
theorem RB.loose {B : Nat} {w : World} {a : Option Addr} {cap : Nat} {ms : List Rm} (h : RB B w a cap ms) : Loose B w (blk a) := by
  intro k hk
  obtain ⟨off, e⟩ := hk
  rcases h.1 with ⟨h1, _⟩ | ⟨b, off', cs, h1, h2, h3, _⟩
  · rw [h1] at e
    cases e
  · rw [h1] at e
    injection e with e
    injection e with e
    subst e
    exact ⟨h2, h3.lt, fun t ds hr => by rw [row_kind hr h3]; decide⟩

set_option maxRecDepth 8000 in
theorem run_push (B : Nat) (w : World) (t ty : TypeId) (ht : Try.prog.underlying t = some (.slice 30)) (a : Option Addr) (cap : Nat) (ms : List Rm) (h : RB B w a cap ms) (m : Rm) (g c : Nat) (hg : RowAt w g 30 (rcF m)) (hm : m.1.fits ∧ RcK B w m.1 m.2.1 m.2.2) (hB : B ≤ w.heap.size) (hl : ms.length ≤ 100000000) :
    ∃ a' cap' w', (Builtin.append_ #[t, t] ty #[.slice a ms.length cap, .slice (some ⟨g, 0, none⟩) 1 c]).run Try.prog w = .ok (.slice a' (ms.length + 1) cap') w' ∧ RB B w' a' cap' (ms ++ [m]) ∧ Tn (blk a) w w' ∧ ∀ k, blk a' k → blk a k ∨ w.heap.size ≤ k := by
  obtain ⟨i, hi0, hi1⟩ := Option.map_eq_some_iff.1 infoRc3
  simp only [Prod.mk.injEq] at hi1
  have hone := rcF_one m (rc_one hm.2.rc)
  have hlen : (rcF m).toList.length = 1 * 14 := rfl
  have hcells : ∀ j u, (rcF m).toList[j]? = some u → w.cell? ((⟨g, 0, none⟩ : Addr).add j) = some u := fun j u hu => by
    rw [Addr.add_lit, Nat.zero_add]
    exact hg.cell j u (by simpa using hu)
  have hz : (Value.agg zeroA).cells.size = 14 := rfl
  have flat : flatR (ms ++ [m]) = flatR ms ++ (rcF m).toList := by rw [flatR_append]; simp [flatR]
  have fresh : ∀ v' w', w'.ownsRow w.heap.size 30 14 v' (ms.length + 1) (flatR ms ++ (rcF m).toList) → w.grownBy w' none → ∃ a' cap', v' = .slice a' (ms.length + 1) cap' ∧ RB B w' a' cap' (ms ++ [m]) ∧ Tn (blk a) w w' ∧ ∀ k, blk a' k → blk a k ∨ w.heap.size ≤ k := by
    intro v' w' h1 h2
    have hb : Below w.heap.size w w' := ⟨h2.os, h2.tape, h2.output, h2.size, fun k hk => h2.block k hk (by simp)⟩
    rw [← flat] at h1
    obtain ⟨a', cap', rfl, h3, h4⟩ := RB.fresh (by simp) (by omega) hB h1 (fun x hx => by
      rcases List.mem_append.1 hx with hx | hx
      · exact ⟨(h.2 x hx).1, (h.2 x hx).2.later hb⟩
      · rw [List.mem_singleton.1 hx]
        exact ⟨hm.1, hm.2.later hb⟩)
    exact ⟨a', cap', rfl, h3, Tn.of_below hb, fun k hk => .inr (h4 k hk)⟩
  have hold : ∀ b off, a = some ⟨b, off, none⟩ → ∀ j u, (flatR ms)[j]? = some u → w.cell? ((⟨b, off, none⟩ : Addr).add j) = some u := by
    intro b off e j u hu
    subst e
    rcases h.1 with ⟨h1, _⟩ | ⟨b', off', cs, h1, _, _, _, _, h6⟩
    · cases h1
    · injection h1 with h1
      injection h1 with h1 h7
      subst h1 h7
      have hj : j < ms.length * 14 := by
        have := (List.getElem?_eq_some_iff.1 hu).1
        rwa [flatR, flat_length rcF 14 (fun _ => rfl)] at this
      have h4 := flat_get rcF 14 (fun _ => rfl) rcZ ms (j / 14) (j % 14) (by omega) (by omega)
      rw [show j / 14 * 14 + j % 14 = j by omega] at h4
      rw [Addr.add_lit]
      have h5 := h6 (j / 14) (by omega) (j % 14) u (by rw [← h4]; exact hu)
      rwa [show off + j / 14 * 14 + j % 14 = off + j by omega] at h5
  rcases h.1 with ⟨rfl, rfl, rfl⟩ | ⟨b, off, cs, rfl, h1, h2, h3, h4, h6⟩
  · obtain ⟨v', w', r1, r2, r3, _⟩ := run_append_own (P := Try.prog) w w.heap.size t ty 30 i (.agg zeroA) 14 160 ht hi0 hi1.1 hi1.2.1 hi1.2.2 hz (by omega) (.slice none 0 0) 0 [] (World.ownsRow_nil _ _ _ _) ⟨g, 0, none⟩ 1 c (rcF m).toList hlen hcells hone (by unfold maxLen; omega) (by omega) (Nat.le_refl _)
    obtain ⟨a', cap', rfl, q⟩ := fresh v' w' r2 r3
    exact ⟨a', cap', w', r1, q⟩
  · by_cases hr : ms.length + 1 ≤ cap
    · have hc : ∀ j, j < (rcF m).toList.length → (w.cell? ⟨b, off + ms.length * i.size + j, none⟩).isSome = true := fun j hj => by
        have hj14 : j < 14 := hj
        rw [hi1.2.1, cell_of_row _ _ _ _ _ _ h2, Array.getElem?_eq_getElem (by omega)]
        rfl
      have r1 := run_append_room_cells (P := Try.prog) w t ty 30 i ht hi0 b off ms.length cap ⟨g, 0, none⟩ 1 c (rcF m).toList (by rw [hlen, hi1.2.1]) hcells hone hr hc (fun j _ => h2.free _)
      rw [hi1.2.1] at r1 hc
      obtain ⟨ds, hd1, hd2⟩ := setCells_row (rcF m).toList (off + ms.length * 14) w b 30 cs h2
      have hT := setCells_tn (rcF m).toList (off + ms.length * 14) w b (blk (some ⟨b, off, none⟩)) ⟨off, rfl⟩
      have hL := h.loose
      refine ⟨_, _, _, r1, ⟨.inr ⟨b, off, ds, rfl, h1, hd1, by omega, by rw [List.length_append]; simpa using hr, fun k hk => ?_⟩, fun x hx => ?_⟩, hT, fun k hk => .inl hk⟩
      · rw [List.length_append, List.length_singleton] at hk
        intro j u hu
        have hj14 : j < 14 := (List.getElem?_eq_some_iff.1 hu).1
        by_cases e : k < ms.length
        · rw [getD_snoc, if_pos e] at hu
          rw [World.cell?_setCells_out b _ _ w _ (fun _ _ => .inl (by show off + k * 14 + j < off + ms.length * 14; omega))]
          exact h6 k e j u hu
        · obtain rfl : k = ms.length := by omega
          rw [getD_snoc, if_neg e, if_pos rfl] at hu
          have h9 := World.cell?_setCells_in b (rcF m).toList (off + ms.length * 14) w hc j hj14
          rw [h9]
          rw [List.getElem?_eq_getElem hj14] at hu
          exact hu
      · rcases List.mem_append.1 hx with hx | hx
        · exact ⟨(h.2 x hx).1, (h.2 x hx).2.keep hL hT⟩
        · rw [List.mem_singleton.1 hx]
          exact ⟨hm.1, hm.2.keep hL hT⟩
    · obtain ⟨v', w', r1, r2, r3⟩ := run_append_arg_grows (P := Try.prog) w t ty 30 i (.agg zeroA) 14 160 ht hi0 hi1.1 hi1.2.1 hi1.2.2 hz (by omega) ⟨b, off, none⟩ ms.length cap (flatR ms) (by rw [flatR, flat_length rcF 14 (fun _ => rfl)]) (hold b off rfl) ⟨g, 0, none⟩ 1 c (rcF m).toList hlen hcells (by omega) (by unfold maxLen; omega) (by omega)
      obtain ⟨a', cap', rfl, q⟩ := fresh v' w' r2 r3
      exact ⟨a', cap', w', r1, q⟩
end Go.Proofs.Ytohdmmfmjadipaa

/-
  The contracts of quaysideref03's clock and of its Rises.
-/
namespace Go.Proofs.Ytohdmmfmjadipaa
open Go.RowKit
set_option linter.unusedVariables false

theorem grown_setL (w : World) (b : Nat) (v : Value) : w.grownBy (w.setCell ⟨b, 0, none⟩ v) (some b) :=
  ⟨rfl, rfl, rfl, by simp, fun k _ hk => heap_setCell_other w ⟨b, 0, none⟩ k v (fun e => hk (by simp [e]))⟩
theorem grown_reflL (w : World) (b : Nat) : w.grownBy w (some b) := ⟨rfl, rfl, rfl, Nat.le_refl _, fun _ _ _ => rfl⟩

theorem full_iff (n f : Nat) (s : Bool) : full n f s = true ↔ (maxL ≤ max n f ∨ (s = false ∧ topL ≤ max n f)) := by
  cases s <;> simp [full]

end Go.Proofs.Ytohdmmfmjadipaa

/-
  The contracts of package lsn: all but See and Rises.
-/
namespace Go.Proofs.Ytohdmmfmjadipaa
open Go.RowKit
set_option linter.unusedVariables false

theorem wrap_up (n : Nat) (h : n < 4611686018427387904) : IntKind.u64.wrap ((n : Int) + 1) = ((n + 1 : Nat) : Int) := by
  simp only [IntKind.wrap, IntKind.bits, IntKind.signed]
  simp
  omega

theorem full_top (n f : Nat) (s : Bool) : full n f s = true ↔ (if s then maxL else topL) ≤ max n f := by
  rw [full_iff]
  cases s
  · simp only [maxL, topL, true_and, Bool.false_eq_true, if_false]
    omega
  · simp [maxL]

end Go.Proofs.Ytohdmmfmjadipaa

/-
  The code's log in memory: its block, its clock, its tape, its records' row, the frames that wait.
-/
namespace Go.Proofs.Ytohdmmfmjadipaa
open Go.RowKit
set_option linter.unusedVariables false

/-- Bytes in a row of their own. -/
def WB (B : Nat) (w : World) (wa : Option Addr) (wc : Nat) (bs : List UInt8) : Prop := w.ownsRow B 5 1 (.slice wa bs.length wc) bs.length (toV bs)
theorem WB.kind {B : Nat} {w : World} {wa : Option Addr} {wc : Nat} {bs : List UInt8} (h : WB B w wa wc bs) : ∀ k, blk wa k → B ≤ k ∧ ∃ cs, RowAt w k 5 cs := by
  rintro k ⟨off, rfl⟩
  rcases h.2 with ⟨e, _⟩ | ⟨g, c, cur, e, hb, hg, _⟩
  · cases e
  · injection e with e1
    injection e1 with e1
    injection e1 with e1
    subst e1
    exact ⟨hb, cur, hg⟩
theorem WB.keep {B : Nat} {w x : World} {wa : Option Addr} {wc : Nat} {bs : List UInt8} (h : WB B w wa wc bs) (hk : ∀ k, blk wa k → x.heap[k]? = w.heap[k]?) : WB B x wa wc bs := by
  refine ⟨h.1, ?_⟩
  rcases h.2 with h4 | ⟨g, c, cur, e, hb, hg, hc⟩
  · exact .inl h4
  · refine .inr ⟨g, c, cur, e, hb, ?_, hc⟩
    injection e with e1
    rw [hk g ⟨0, e1⟩]
    exact hg
theorem WB.nil (B : Nat) (w : World) : WB B w none 0 [] := World.ownsRow_nil _ _ _ _

def lvA (gc gt : Nat) (a : Option Addr) (cap : Nat) (wa : Option Addr) (wn wc : Nat) (g : Lg) : Array Value :=
  #[.pointer (some ⟨gc, 0, none⟩), .pointer (some ⟨gt, 0, none⟩), .slice a g.l.length cap, .int .i64 (g.fa : Int), .int .i64 (g.on : Int), .slice wa wn wc, .int .u64 (g.du : Int), .int .i64 (g.hd : Int)]
/-- Its blocks. -/
def FC (gl gc gt gb : Nat) (a wa : Option Addr) (k : Nat) : Prop := k = gl ∨ k = gc ∨ k = gt ∨ k = gb ∨ blk a k ∨ blk wa k
section
variable {B : Nat} {w x : World} {gl gc gt gb : Nat} {a : Option Addr} {cap : Nat} {ms : List Rm} {wa : Option Addr} {wc : Nat} {bs : List UInt8} {g : Lg}
theorem RB.kind {ms : List Rm} (h : RB B w a cap ms) : ∀ k, blk a k → B ≤ k ∧ ∃ cs, RowAt w k 30 cs := by
  intro k ⟨off, e⟩
  rcases h.1 with ⟨h1, _⟩ | ⟨b, off', cs, h1, h2, h3, _⟩
  · rw [h1] at e
    cases e
  · rw [h1] at e
    injection e with e
    injection e with e
    subst e
    exact ⟨h2, cs, h3⟩
/-- The blocks are apart. -/
structure LVapart (gl gc gt gb : Nat) (a wa : Option Addr) : Prop where
  lc : gl ≠ gc
  lt : gl ≠ gt
  lb : gl ≠ gb
  la : ¬ blk a gl
  lw : ¬ blk wa gl
  ct : gc ≠ gt
  cb : gc ≠ gb
  ca : ¬ blk a gc
  cw : ¬ blk wa gc
  ta : ¬ blk a gt
  tw : ¬ blk wa gt
  ba : ¬ blk a gb
  aw : ∀ k, blk a k → ¬ blk wa k
theorem Turn.tn {gt gb : Nat} {w x : World} (p : Turn gt gb w x) : Tn (fun k => k = gt ∨ k = gb) w x := ⟨p.os, p.tape, p.output, p.size, fun k hk hn => p.block k hk (fun e => hn (.inl e)) (fun e => hn (.inr e))⟩
end
/-- A record's LSN. -/
theorem RB.lsnAt {B : Nat} {w : World} {a : Option Addr} {cap : Nat} {ms : List Rm} (h : RB B w a cap ms) {i : Nat} (hi : i < ms.length) : ∃ b off, a = some ⟨b, off, none⟩ ∧ w.cell? ⟨b, off + i * 14 + 1, none⟩ = some (.int .u64 ((ms.getD i rcZ).1.l : Int)) := by
  rcases h.1 with ⟨_, rfl, _⟩ | ⟨b, off, cs, rfl, _, _, _, _, h5⟩
  · exact absurd hi (by simp)
  · exact ⟨b, off, rfl, h5 i hi 1 _ rfl⟩
end Go.Proofs.Ytohdmmfmjadipaa

/-
  Plain facts on what bytes tell of a page: the page cell by cell, of no program.
-/
namespace Go.Proofs.Ytohdmmfmjadipaa
open Go.RowKit
set_option linter.unusedVariables false

/-- The first cells of the page that bytes tell. -/
def prefP (bs : List UInt8) (j : Nat) : Pg := ⟨beAt bs 0 8, fun i => decide (i < j) && usedAt (taleOf bs) i, fun i => if i < j then cutAt (taleOf bs) i else ⟨#[]⟩⟩

theorem pref_full (bs : List UInt8) : (prefP bs 8).same (scanP bs) := by
  refine ⟨rfl, fun i hi => ⟨?_, ?_⟩⟩
  · show (decide (i < 8) && usedAt (taleOf bs) i) = usedAt (taleOf bs) i
    simp [hi]
  · show (if i < 8 then cutAt (taleOf bs) i else ⟨#[]⟩) = cutAt (taleOf bs) i
    rw [if_pos hi]

theorem pref_zero (bs : List UInt8) : pgA (prefP bs 0) = pgA ⟨beAt bs 0 8, Pg.zero.u, Pg.zero.s⟩ := by
  refine same_pgA ⟨rfl, fun i hi => ⟨?_, ?_⟩⟩
  · show (decide (i < 0) && usedAt (taleOf bs) i) = false
    simp
  · show (if i < 0 then cutAt (taleOf bs) i else ⟨#[]⟩) = _
    rw [if_neg (by omega)]
    rfl

theorem cut_unused (t : List UInt8) (j : Nat) (h : usedAt t j = false) : cutAt t j = ⟨#[]⟩ := by
  unfold cutAt lenAt
  rw [h]
  simp

theorem pref_skip (bs : List UInt8) (j : Nat) (h : usedAt (taleOf bs) j = false) : pgA (prefP bs (j + 1)) = pgA (prefP bs j) := by
  refine same_pgA ⟨rfl, fun i hi => ⟨?_, ?_⟩⟩
  · show (decide (i < j + 1) && usedAt (taleOf bs) i) = (decide (i < j) && usedAt (taleOf bs) i)
    by_cases hij : i = j
    · subst hij
      simp [h]
    · have e : decide (i < j + 1) = decide (i < j) := decide_eq_decide.2 (by omega)
      rw [e]
  · show (if i < j + 1 then cutAt (taleOf bs) i else ⟨#[]⟩) = if i < j then cutAt (taleOf bs) i else ⟨#[]⟩
    by_cases hij : i = j
    · subst hij
      rw [if_pos (by omega), if_neg (by omega), cut_unused _ _ h]
    · by_cases h2 : i < j
      · rw [if_pos (by omega), if_pos h2]
      · rw [if_neg (by omega), if_neg h2]

theorem pgA_set (p : Pg) (j : Nat) (hj : j < 8) (b : Bool) (s : ByteArray) :
    ((pgA p).setIfInBounds (1 + j * 2) (.bool b)).setIfInBounds (1 + j * 2 + 1) (.string s) = pgA ⟨p.l, fun i => if i = j then b else p.u i, fun i => if i = j then s else p.s i⟩ := by
  rcases lt8 hj with rfl | rfl | rfl | rfl | rfl | rfl | rfl | rfl <;> simp [pgA]

theorem pref_more (bs : List UInt8) (j : Nat) (h : usedAt (taleOf bs) j = true) :
    pgA ⟨(prefP bs j).l, fun i => if i = j then true else (prefP bs j).u i, fun i => if i = j then cutAt (taleOf bs) j else (prefP bs j).s i⟩ = pgA (prefP bs (j + 1)) := by
  refine same_pgA ⟨rfl, fun i hi => ⟨?_, ?_⟩⟩
  · show (if i = j then true else (decide (i < j) && usedAt (taleOf bs) i)) = (decide (i < j + 1) && usedAt (taleOf bs) i)
    by_cases hij : i = j
    · subst hij
      simp [h]
    · have e : decide (i < j + 1) = decide (i < j) := decide_eq_decide.2 (by omega)
      rw [e, if_neg hij]
  · show (if i = j then cutAt (taleOf bs) j else if i < j then cutAt (taleOf bs) i else ⟨#[]⟩) = if i < j + 1 then cutAt (taleOf bs) i else ⟨#[]⟩
    by_cases hij : i = j
    · subst hij
      rw [if_pos rfl, if_pos (by omega)]
    · rw [if_neg hij]
      by_cases h2 : i < j
      · rw [if_pos h2, if_pos (by omega)]
      · rw [if_neg h2, if_neg (by omega)]

theorem pos_le (t : List UInt8) (j : Nat) (h : ∀ k, k < j → lenAt t k ≤ 20) : posAt t j ≤ 10 + 20 * j := by
  induction j with
  | zero => exact Nat.le_refl _
  | succ j ih =>
    have h1 := ih (fun k hk => h k (by omega))
    have h2 := h j (by omega)
    rw [posAt]
    omega

theorem cut_size (t : List UInt8) (j : Nat) (ht : t.length = 240) : (cutAt t j).size = min (lenAt t j) (240 - posAt t j) := by
  unfold cutAt
  rw [size_mk, List.length_take, List.length_drop, ht]

/-- A cell's byte between 21 and 254: no right page. -/
theorem scan_wrong (bs : List UInt8) (j : Nat) (hb : bs.length = 256) (hj : j < 8) (h : ∀ k, k < j → lenAt (taleOf bs) k ≤ 20) (hl : 20 < lenAt (taleOf bs) j) : ¬ (scanP bs).right := by
  intro hr
  have h1 := (hr.2 j hj).1
  have h2 := cut_size (taleOf bs) j (taleOf_length bs hb)
  have h3 := pos_le (taleOf bs) j h
  have h4 : (scanP bs).s j = cutAt (taleOf bs) j := rfl
  rw [h4, h2] at h1
  omega

theorem nAt_str (s : ByteArray) (T : ByteArray) (hT : T = ⟨(taleOf s.data.toList).toArray⟩) (j : Nat) (h : 2 + j < T.size) : T[2 + j].toNat = nAt (taleOf s.data.toList) j := by
  unfold nAt
  rw [← getD_str T (2 + j) h, hT]

theorem cut_str (s : ByteArray) (T : ByteArray) (hT : T = ⟨(taleOf s.data.toList).toArray⟩) (j : Nat) (h : posAt (taleOf s.data.toList) j + lenAt (taleOf s.data.toList) j ≤ T.size) :
    T.extract (posAt (taleOf s.data.toList) j) (posAt (taleOf s.data.toList) j + lenAt (taleOf s.data.toList) j) = cutAt (taleOf s.data.toList) j := by
  rw [extract_eq T _ _ h, hT]
  rfl
theorem len_used (t : List UInt8) (j m : Nat) (hm : nAt t j = m) (h : m ≠ 255) : lenAt t j = m ∧ usedAt t j = true := by
  have hu : usedAt t j = true := by unfold usedAt; rw [hm]; simp [h]
  exact ⟨by unfold lenAt; rw [hu, if_pos rfl, hm], hu⟩
theorem len_unused (t : List UInt8) (j : Nat) (hm : nAt t j = 255) : lenAt t j = 0 ∧ usedAt t j = false := by
  have hu : usedAt t j = false := by unfold usedAt; rw [hm]; simp
  exact ⟨by unfold lenAt; rw [hu]; simp, hu⟩

/-- What 'Decode' answers behind the sum. -/
theorem dec_last (id : Int) (bs : List UInt8) (h0 : 0 ≤ id ∧ id ≤ 31) (hb : bs.length = 256) (ht : tornB bs = false) (hs : leN ((taleOf bs).drop 236) = crc ((taleOf bs).take 236)) :
    decE id bs = if (scanP bs).right ∧ imageB id.toNat (scanP bs) = bs then 0 else 2 := by
  unfold decE
  rw [if_neg (by simpa using h0), if_neg (by omega), if_neg (by omega), if_neg (by simp [ht]), if_neg (by simp [hs])]
end Go.Proofs.Ytohdmmfmjadipaa

/-
  What 'Apply' finds and leaves in memory, and what it answers: of no program's function.
-/
namespace Go.Proofs.Ytohdmmfmjadipaa
open Go.RowKit
set_option linter.unusedVariables false

/-- What stands at the entry: the page, the change, the result. -/
def AppIn (w : World) (gc gr : Nat) (p : Pg) (c : Ch) (x : World) : Prop :=
  PgAt x w.heap.size p ∧ ChAt x gc c ∧ PgAt x gr Pg.zero ∧ Below w.heap.size w x ∧ w.heap.size < gc ∧ gc < gr
theorem AppIn.later {w x y : World} {gc gr : Nat} {p : Pg} {c : Ch} (h : AppIn w gc gr p c x) (hb : Below x.heap.size x y) : AppIn w gc gr p c y := by
  have l0 : w.heap.size < x.heap.size := (Array.getElem?_eq_some_iff.1 h.1).1
  have l1 := h.2.1.lt
  have l2 : gr < x.heap.size := (Array.getElem?_eq_some_iff.1 h.2.2.1).1
  exact ⟨h.1.below hb l0, h.2.1.below hb l1, h.2.2.1.below hb l2, h.2.2.2.1.trans (hb.mono (Nat.le_of_lt l0)), h.2.2.2.2⟩

theorem app_in (w : World) (p : Pg) (c : Ch) : AppIn w (w.heap.size + 1) (w.heap.size + 1 + 1) p c (((w.alloc (.cells (pgA p) 77)).alloc (.cells (chA c) 26)).alloc (.cells (pgA Pg.zero) 77)) := by
  have e1 : (w.alloc (.cells (pgA p) 77)).heap.size = w.heap.size + 1 := by simp
  have e2 : ((w.alloc (.cells (pgA p) 77)).alloc (.cells (chA c) 26)).heap.size = w.heap.size + 1 + 1 := by simp
  have b1 := (Below.refl w.heap.size w).alloc (Nat.le_refl _) (.cells (pgA p) 77)
  have b2 := (Below.refl _ (w.alloc (.cells (pgA p) 77))).alloc (Nat.le_refl _) (.cells (chA c) 26)
  have b3 := (Below.refl _ ((w.alloc (.cells (pgA p) 77)).alloc (.cells (chA c) 26))).alloc (Nat.le_refl _) (.cells (pgA Pg.zero) 77)
  have r0 : RowAt (w.alloc (.cells (pgA p) 77)) w.heap.size 77 (pgA p) := RowAt.new _ _ _
  have r1 : RowAt ((w.alloc (.cells (pgA p) 77)).alloc (.cells (chA c) 26)) (w.heap.size + 1) 26 (chA c) := by
    have h := RowAt.new (w.alloc (.cells (pgA p) 77)) 26 (chA c)
    rw [e1] at h
    exact h
  have r2 : RowAt (((w.alloc (.cells (pgA p) 77)).alloc (.cells (chA c) 26)).alloc (.cells (pgA Pg.zero) 77)) (w.heap.size + 1 + 1) 77 (pgA Pg.zero) := by
    have h := RowAt.new ((w.alloc (.cells (pgA p) 77)).alloc (.cells (chA c) 26)) 77 (pgA Pg.zero)
    rw [e2] at h
    exact h
  exact ⟨(r0.later b2).later b3, r1.later b3, r2, b1.trans ((b2.mono b1.size).trans (b3.mono (by omega))), by omega, by omega⟩

/-- The page behind the change, in memory. -/
theorem put_mem {w x : World} {gc gr i : Nat} {p : Pg} {c : Ch} (h : AppIn w gc gr p c x) (hi : i < 8) (l : Nat) (u : Bool) (s : ByteArray) :
    PgAt (((x.setCell ⟨w.heap.size, 1 + i * 2, none⟩ (.bool u)).setCell ⟨w.heap.size, 1 + i * 2 + 1, none⟩ (.string s)).setCell ⟨w.heap.size, 0, none⟩ (.int .u64 (l : Int))) w.heap.size (p.put l i u s) ∧
    PgAt (((x.setCell ⟨w.heap.size, 1 + i * 2, none⟩ (.bool u)).setCell ⟨w.heap.size, 1 + i * 2 + 1, none⟩ (.string s)).setCell ⟨w.heap.size, 0, none⟩ (.int .u64 (l : Int))) gr Pg.zero ∧
    Below w.heap.size w (((x.setCell ⟨w.heap.size, 1 + i * 2, none⟩ (.bool u)).setCell ⟨w.heap.size, 1 + i * 2 + 1, none⟩ (.string s)).setCell ⟨w.heap.size, 0, none⟩ (.int .u64 (l : Int))) ∧ w.heap.size < gr := by
  have hg : w.heap.size < gr := by have := h.2.2.2.2; omega
  have h1 := heap_setCell_same x w.heap.size (1 + i * 2) _ _ (.bool u) h.1
  have h2 := heap_setCell_same _ w.heap.size (1 + i * 2 + 1) _ _ (.string s) h1
  rw [pgA_set _ i hi] at h2
  have h3 := heap_setCell_same _ w.heap.size 0 _ _ (.int .u64 (l : Int)) h2
  refine ⟨h3, ((h.2.2.1.other _ _ (by simp; omega)).other _ _ (by simp; omega)).other _ _ (by simp; omega), ?_, hg⟩
  exact ((h.2.2.2.1.setCell (by show w.heap.size ≤ w.heap.size; omega) _).setCell (by show w.heap.size ≤ w.heap.size; omega) _).setCell (by show w.heap.size ≤ w.heap.size; omega) _

/-- What 'Apply' answers, once its arguments are right. -/
theorem app_at (p : Pg) (c : Ch) (l : Nat) (hp : p.right) (hc : c.right) (hl : l ≤ maxP) (hl2 : p.l < l) (i : Nat) (hi : c.at = i) :
    (p.u i = true ∧ c.wantU = false → appE p c l = 6 ∧ appP p c l = Pg.zero) ∧ (p.u i = false ∧ c.wantU = true → appE p c l = 5 ∧ appP p c l = Pg.zero) ∧
    (p.u i = c.wantU → p.s i ≠ c.wantV → appE p c l = 2 ∧ appP p c l = Pg.zero) ∧ (p.u i = c.wantU → p.s i = c.wantV → appE p c l = 0 ∧ appP p c l = p.put l i c.makeU c.makeV) := by
  subst hi
  have hbase : appE p c l = if p.u c.at = true ∧ c.wantU = false then 6 else if p.u c.at = false ∧ c.wantU = true then 5 else if p.s c.at ≠ c.wantV then 2 else 0 := by
    unfold appE
    rw [if_neg (fun h => h ⟨hp, hc, hl⟩), if_neg (by omega)]
  refine ⟨fun h => ?_, fun h => ?_, fun h1 h2 => ?_, fun h1 h2 => ?_⟩
  · have e : appE p c l = 6 := by rw [hbase, if_pos h]
    exact ⟨e, app_no _ _ _ (by rw [e]; decide)⟩
  · have e : appE p c l = 5 := by rw [hbase, if_neg (by rw [h.1]; simp), if_pos h]
    exact ⟨e, app_no _ _ _ (by rw [e]; decide)⟩
  · have e : appE p c l = 2 := by rw [hbase, if_neg (by rw [h1]; intro h; rw [h.1] at h; cases h.2), if_neg (by rw [h1]; intro h; rw [h.1] at h; cases h.2), if_pos h2]
    exact ⟨e, app_no _ _ _ (by rw [e]; decide)⟩
  · have e : appE p c l = 0 := (app_yes p c l).2 ⟨hp, hc, hl, hl2, h1, h2⟩
    exact ⟨e, by unfold appP; rw [if_pos e]⟩
end Go.Proofs.Ytohdmmfmjadipaa

/-
  A struct's block that is loaded; a page's cell that is stored.
-/
namespace Go.Proofs.Ytohdmmfmjadipaa
open Go.RowKit
set_option linter.unusedVariables false

theorem load_row {P : Program} {b : Nat} {t : TypeId} {cs : Array Value} {d : TypeDesc} (x : World) (h : RowAt x b t cs) (hu : P.underlying t = some d) (hd : (match d with | .struct _ | .array _ _ => true | _ => false) = true) (hi : (P.info? t).map (·.size) = some cs.size) :
    (Instr.loadAt t (.pointer (some ⟨b, 0, none⟩))).run P x = .ok (.agg cs) x := by
  have h1 := run_loadVar_row (P := P) x b t t cs (0, 0) d h hu hd hi
  simp only [Instr.loadAt, Instr.sureAddr, Sem.run_bind, Sem.run_pure, Result.andThen_ok, h1]

theorem put_cell {x : World} {g i : Nat} {p : Pg} (h : PgAt x g p) (hi : i < 8) (u : Bool) (s : ByteArray) : PgAt ((x.setCell ⟨g, 1 + i * 2, none⟩ (.bool u)).setCell ⟨g, 1 + i * 2 + 1, none⟩ (.string s)) g (p.put p.l i u s) := by
  have h1 := heap_setCell_same x g (1 + i * 2) _ _ (.bool u) h
  have h2 := heap_setCell_same _ g (1 + i * 2 + 1) _ _ (.string s) h1
  rw [pgA_set _ i hi] at h2
  exact h2

/-- A cell stored into a page. -/
theorem wpList_store_ce {ops : Array Oper} {rest : List Oper} {o : Oper} {a : Act} {w : World} {Q : Exit → Act → World → Prop} (hgd : o.guard = none) (x y : Operand) (ho : o.op = .store 63 x y)
    (g i : Nat) (hi : i < 8) (p : Pg) (u : Bool) (s : ByteArray) (hx : a.eval x = .pointer (some ⟨g, 1 + i * 2, none⟩)) (hy : a.eval y = .agg (ceA u s)) (hg : PgAt w g p)
    (h : ∀ w2, PgAt w2 g (p.put p.l i u s) → (∀ B w0, Below B w0 w → B ≤ g → Below B w0 w2) → (∀ k t' c', k ≠ g → RowAt w k t' c' → RowAt w2 k t' c') → wpList Try.prog ops Q rest (a.put o.dst undef) w2) : wpList Try.prog ops Q (o :: rest) a w := by
  have q1 := hg.used i hi
  have q2 := hg.val i hi
  have s1 := hg.free (1 + i * 2)
  have s2 := hg.free (1 + i * 2 + 1)
  have h2 := h _ (put_cell hg hi u s) (fun B w0 hb hB => ((hb.setCell (by exact hB) _).setCell (by exact hB) _)) (fun k t' c' hk hr => (hr.other _ _ hk).other _ _ hk)
  refine wpList_step fun K hK => ?_
  have hw : Region.wanted o (yielded ops a.tmps) = true := by unfold Region.wanted; rw [hgd]
  simp only [hw, if_true]
  have hK2 := hK _ _ h2
  clear h h2 hK hg
  unfold Oper.wp execOp
  simp only [ho, hx, hy, ceA]
  go_simp
  exact hK2
end Go.Proofs.Ytohdmmfmjadipaa

/-
  The contracts of cmp.Compare, package wal's order, slices.BinarySearchFunc at a log's records.
-/
namespace Go.Proofs.Ytohdmmfmjadipaa
open Go.RowKit
set_option linter.unusedVariables false

set_option maxRecDepth 4000 in
set_option maxHeartbeats 400000 in
theorem nan9 (x : Nat) (w : World) : Calls Try.prog 65 #[.int .u64 (x : Int)] w fun e w' => e = .returned (.bool false) ∧ w = w' := by
  go_enter Try.func65, Try.ntmps65
  go_wp2
  go_ret
  simp
/-- What Compare answers. -/
def cmpI (x y : Nat) : Int := if x < y then -1 else if y < x then 1 else 0
set_option maxRecDepth 4000 in
set_option maxHeartbeats 400000 in
theorem cmp9 (x y : Nat) (w : World) : Calls Try.prog 49 #[.int .u64 (x : Int), .int .u64 (y : Int)] w fun e w' => e = .returned (.int .i64 (cmpI x y)) ∧ w = w' := by
  have HN := hide (fun z w => nan9 z w)
  unfold cmpI
  by_cases h1 : x < y
  · rw [if_pos h1]
    have i1 : (x : Int) < (y : Int) := by omega
    go_enter Try.func49, Try.ntmps49
    go_wp2_with fail
    refine (HN.out x w).mono ?_
    rintro e w1 ⟨rfl, rfl⟩
    go_wp2_with fail
    refine (HN.out y w).mono ?_
    rintro e w1 ⟨rfl, rfl⟩
    go_wp2
    go_ret
    exact ⟨rfl, rfl⟩
  · rw [if_neg h1]
    by_cases h2 : y < x
    · rw [if_pos h2]
      have i1 : ¬ (x : Int) < (y : Int) := by omega
      have i2 : (y : Int) < (x : Int) := by omega
      go_enter Try.func49, Try.ntmps49
      go_wp2_with fail
      refine (HN.out x w).mono ?_
      rintro e w1 ⟨rfl, rfl⟩
      go_wp2_with fail
      refine (HN.out y w).mono ?_
      rintro e w1 ⟨rfl, rfl⟩
      go_wp2
      go_ret
      exact ⟨rfl, rfl⟩
    · rw [if_neg h2]
      have i1 : ¬ (x : Int) < (y : Int) := by omega
      have i2 : ¬ (y : Int) < (x : Int) := by omega
      go_enter Try.func49, Try.ntmps49
      go_wp2_with fail
      refine (HN.out x w).mono ?_
      rintro e w1 ⟨rfl, rfl⟩
      go_wp2_with fail
      refine (HN.out y w).mono ?_
      rintro e w1 ⟨rfl, rfl⟩
      go_wp2
      go_ret
      exact ⟨rfl, rfl⟩
/-- Where a number stands, or would. -/
theorem cmpI_lt (x y : Nat) : (cmpI x y < 0 ↔ x < y) ∧ (cmpI x y = 0 ↔ x = y) := by
  unfold cmpI
  split
  · constructor <;> omega
  · split
    · constructor <;> omega
    · constructor <;> omega

/-- What the search tells. -/
def Found9 (ms : List Rm) (n : Nat) (w : World) (e : Ending) (w' : World) : Prop := ∃ i : Nat, ∃ q : Bool, e = .returned (.tuple #[.int .i64 (i : Int), .bool q]) ∧ (q = true → i < ms.length ∧ (ms.getD i rcZ).1.l = n) ∧ (q = false → ∀ j, j < ms.length → (ms.getD j rcZ).1.l ≠ n) ∧ Below w.heap.size w w'
end Go.Proofs.Ytohdmmfmjadipaa

/-
  The contract of txn.find: where a number stands in a log.
-/
namespace Go.Proofs.Ytohdmmfmjadipaa
open Go.RowKit
set_option linter.unusedVariables false

theorem rise_get15 : ∀ (l : List Rec) (a : Nat), Rise a l → ∀ p q, p < q → q < l.length → (l.getD p Rec.zero).l < (l.getD q Rec.zero).l
  | [], _, _, _, _, _, h => absurd h (by simp)
  | r :: rs, a, h, 0, q + 1, _, hq => by
    have hm : rs.getD q Rec.zero ∈ rs := getD_mem _ _ _ (by simpa using hq)
    have := (rise_mem15 rs r.l h.2.2 _ hm).1
    simpa [List.getD] using this
  | r :: rs, a, h, p + 1, q + 1, hpq, hq => by
    have := rise_get15 rs r.l h.2.2 p q (by omega) (by simpa using hq)
    simpa [List.getD] using this
  | r :: rs, a, h, p, 0, hpq, _ => absurd hpq (by omega)
set_option maxRecDepth 4000 in
set_option maxHeartbeats 400000 in
theorem order15 (r : Rec) (va vb : Value) (n : Nat) (w : World) : Calls Try.prog 48 #[.agg (rcA r va vb), .int .u64 (n : Int)] w fun e w' => e = .returned (.int .i64 (cmpI r.l n)) ∧ Below w.heap.size w w' := by
  have c1 := (RowAt.new w 30 (rcA r va vb)).cell 1 (.int .u64 (r.l : Int)) rfl
  have HB := hide ((Below.refl w.heap.size w).alloc (Nat.le_refl _) (.cells (rcA r va vb) 30))
  have HC := hide (fun w => cmp9 r.l n w)
  generalize cmpI r.l n = c at *
  generalize rcA r va vb = A at *
  go_enter Try.func48, Try.ntmps48
  go_wp2_with fail
  refine (HC.out _).mono ?_
  rintro e w1 ⟨rfl, rfl⟩
  go_wp2
  go_ret
  exact ⟨rfl, HB.out⟩
/-- What the search tells. -/
def Found15 (ms : List (Rec × Value × Value)) (n : Nat) (w : World) (e : Ending) (w' : World) : Prop := ∃ i : Nat, ∃ q : Bool, e = .returned (.tuple #[.int .i64 (i : Int), .bool q]) ∧ (q = true → i < ms.length ∧ (ms.getD i rcZ).1.l = n) ∧ (q = false → ∀ j, j < ms.length → (ms.getD j rcZ).1.l ≠ n) ∧ Below w.heap.size w w'
set_option maxRecDepth 8000 in
set_option maxHeartbeats 1600000 in
theorem search15 (a : Option Addr) (cap : Nat) (ms : List (Rec × Value × Value)) (n : Nat) (w : World) (h : RsIn w (.slice a ms.length cap) ms) (hm : ∀ p q, p < q → q < ms.length → (ms.getD p rcZ).1.l < (ms.getD q rcZ).1.l) (hl : ms.length ≤ 100000) (hcap : ms.length ≤ cap) :
    Calls Try.prog 47 #[.slice a ms.length cap, .int .u64 (n : Int), .func (.func 48) #[] #[]] w (Found15 ms n w) := by
  have H := hide h
  have HM := hide hm
  obtain ⟨ln, hln⟩ : ∃ ln, ln = ms.length := ⟨_, rfl⟩
  rw [← hln] at H HM hl hcap ⊢
  have HLN := hide hln
  clear hln h hm
  go_enter Try.func47, Try.ntmps47
  go_wp2
  go_loopw [9, 10, 11] (fun i j _ wr => ∃ p q : Nat, p ≤ q ∧ q ≤ ln ∧ i = .int .i64 (p : Int) ∧ j = .int .i64 (q : Int) ∧ Hid ((∀ k, k < p → (ms.getD k rcZ).1.l < n) ∧ (∀ k, q ≤ k → k < ln → n ≤ (ms.getD k rcZ).1.l)) ∧ Hid (Below w.heap.size w wr)) (fun i j _ _ => (intOf j).toNat - (intOf i).toNat)
  case atStart => exact ⟨0, ln, Nat.zero_le _, Nat.le_refl _, rfl, rfl, ⟨fun k hk => absurd hk (Nat.not_lt_zero _), fun k h1 h2 => absurd h1 (by omega)⟩, Below.refl _ _⟩
  case round =>
    obtain ⟨p, q, hpq, hq, rfl, rfl, HPQ, HB⟩ := hrel
    by_cases hlt : p < q
    · have ipq : (p : Int) < (q : Int) := by omega
      obtain ⟨hh, hhd⟩ : ∃ hh, hh = (p + q) / 2 := ⟨_, rfl⟩
      have eh : ((p : Int) + (q : Int)) / 2 = (hh : Int) := by omega
      have h1 : p ≤ hh := by omega
      have h2 : hh < q := by omega
      have hhl : (hh : Int) < (ln : Int) := by omega
      obtain ⟨b, off, rfl, hbl, hrg, hft, hin⟩ := H.out.at (i := hh) (by have := HLN.out; omega)
      obtain ⟨m, hm⟩ : ∃ m, m = ms.getD hh rcZ := ⟨_, rfl⟩
      rw [← hm] at hrg
      have HMM := hide hm
      clear hm hft hin hhd
      have HLD := hide (load_mid wr b (off + hh * 14) m (rangeAt_below hrg HB.out hbl))
      clear hrg
      by_cases hlo : m.1.l < n
      · have ilo : cmpI m.1.l n < 0 := (cmpI_lt _ _).1.2 hlo
        have HO := hide (fun w => order15 m.1 m.2.1 m.2.2 n w)
        generalize cmpI m.1.l n = c at *
        go_wp2_with (refine wpList_load_val rfl 30 (.tmp 27) rfl _ _ rfl HLD.out ?_)
        refine (HO.out wr).mono ?_
        rintro e w1 ⟨rfl, hb1⟩
        have HB1 := hide (HB.out.trans (hb1.mono HB.out.size))
        clear hb1 HB HLD HO
        go_wp2
        go_roundw
        case rel =>
          refine ⟨hh + 1, q, by omega, hq, by go_num, rfl, ⟨fun k hk => ?_, HPQ.out.2⟩, HB1.out⟩
          rcases Nat.lt_or_ge k hh with hk2 | hk2
          · have := HM.out k hh hk2 (by omega)
            rw [← HMM.out] at this
            omega
          · obtain rfl : k = hh := by omega
            rw [← HMM.out]
            exact hlo
        case measure => simp [intOf]; omega
      · have ilo : ¬ cmpI m.1.l n < 0 := fun h => hlo ((cmpI_lt _ _).1.1 h)
        have HO := hide (fun w => order15 m.1 m.2.1 m.2.2 n w)
        generalize cmpI m.1.l n = c at *
        go_wp2_with (refine wpList_load_val rfl 30 (.tmp 27) rfl _ _ rfl HLD.out ?_)
        refine (HO.out wr).mono ?_
        rintro e w1 ⟨rfl, hb1⟩
        have HB1 := hide (HB.out.trans (hb1.mono HB.out.size))
        clear hb1 HB HLD HO
        go_wp2
        go_roundw
        case rel =>
          refine ⟨p, hh, h1, by omega, rfl, rfl, ⟨HPQ.out.1, fun k hk hk2 => ?_⟩, HB1.out⟩
          rcases Nat.lt_or_ge hh k with hk3 | hk3
          · have := HM.out hh k hk3 hk2
            rw [← HMM.out] at this
            omega
          · obtain rfl : k = hh := by omega
            rw [← HMM.out]
            omega
        case measure => simp [intOf]; omega
    · obtain rfl : p = q := by omega
      by_cases hpl : p < ln
      · have ipl : (p : Int) < (ln : Int) := by omega
        obtain ⟨b, off, rfl, hbl, hrg, hft, hin⟩ := H.out.at (i := p) (by have := HLN.out; omega)
        obtain ⟨m, hm⟩ : ∃ m, m = ms.getD p rcZ := ⟨_, rfl⟩
        rw [← hm] at hrg
        have HMM := hide hm
        clear hm hft hin
        have HLD := hide (load_mid wr b (off + p * 14) m (rangeAt_below hrg HB.out hbl))
        clear hrg
        have HO := hide (fun w => order15 m.1 m.2.1 m.2.2 n w)
        by_cases heq : m.1.l = n
        · have ieq : (cmpI m.1.l n == 0) = true := by rw [beq_iff_eq]; exact (cmpI_lt _ _).2.2 heq
          generalize cmpI m.1.l n = c at *
          go_wp2_with (refine wpList_load_val rfl 30 (.tmp 43) rfl _ _ rfl HLD.out ?_)
          refine (HO.out wr).mono ?_
          rintro e w1 ⟨rfl, hb1⟩
          have HB1 := hide (HB.out.trans (hb1.mono HB.out.size))
          clear hb1 HB HLD HO
          go_wp2
          go_ret2
          exact ⟨p, true, rfl, fun _ => ⟨by have := HLN.out; omega, by rw [← HMM.out]; exact heq⟩, fun h => (nomatch h), HB1.out⟩
        · have ieq : (cmpI m.1.l n == 0) = false := by rw [beq_eq_false_iff_ne]; exact fun h => heq ((cmpI_lt _ _).2.1 h)
          generalize cmpI m.1.l n = c at *
          go_wp2_with (refine wpList_load_val rfl 30 (.tmp 43) rfl _ _ rfl HLD.out ?_)
          refine (HO.out wr).mono ?_
          rintro e w1 ⟨rfl, hb1⟩
          have HB1 := hide (HB.out.trans (hb1.mono HB.out.size))
          clear hb1 HB HLD HO
          go_wp2
          go_ret2
          refine ⟨p, false, rfl, fun h => (nomatch h), fun _ j hj => ?_, HB1.out⟩
          rcases Nat.lt_trichotomy j p with h3 | h3 | h3
          · have := HPQ.out.1 j h3
            omega
          · rw [h3, ← HMM.out]
            exact heq
          · have h4 := HM.out p j h3 (by have := HLN.out; omega)
            have h5 := HPQ.out.2 p (Nat.le_refl _) hpl
            omega
      · have ipl : ¬ (p : Int) < (ln : Int) := by omega
        go_wp2
        go_ret2
        refine ⟨p, false, rfl, fun h => (nomatch h), fun _ j hj => ?_, HB.out⟩
        have := HPQ.out.1 j (by have := HLN.out; omega)
        omega
/-- A log's record of a number, by its place. -/
def At15 (ms : List (Rec × Value × Value)) (n : Nat) (w : World) (e : Ending) (w' : World) : Prop := ∃ i : Nat, ∃ q : Bool, e = .returned (.tuple #[.int .i64 (i : Int), .bool q]) ∧ ((q = true ∧ i < ms.length ∧ (ms.getD i rcZ).1.l = n) ∨ (q = false ∧ ∀ r ∈ msR ms, r.l ≠ n)) ∧ Below w.heap.size w w'
theorem mem_get15 {ms : List (Rec × Value × Value)} {r : Rec} (h : r ∈ msR ms) : ∃ j, j < ms.length ∧ (ms.getD j rcZ).1 = r := by
  obtain ⟨j, hj, rfl⟩ := List.mem_iff_getElem.1 h
  rw [msR_len] at hj
  refine ⟨j, hj, ?_⟩
  rw [← msR_get, List.getD_eq_getElem?_getD, List.getElem?_eq_getElem (by rw [msR_len]; exact hj)]
  rfl
set_option maxRecDepth 4000 in
theorem find15 (v : Value) (ms : List (Rec × Value × Value)) (n : Nat) (w : World) (h : LogIn w v ms) (hr : Rise 0 (msR ms)) :
    Calls Try.prog 31 #[v, .int .u64 (n : Int)] w (At15 ms n w) := by
  obtain ⟨a, c, rfl, hlc⟩ := h.slice
  have HF := hide (search15 a c ms n w h.rs (fun p q hpq hq => by
    rw [← msR_get, ← msR_get]
    exact rise_get15 _ 0 hr p q hpq (by rw [msR_len]; exact hq)) (by have := h.few; omega) hlc)
  clear h hr hlc
  generalize hln : ms.length = ln at *
  have HN := hide hln
  clear hln
  go_enter Try.func31, Try.ntmps31
  go_wp2_with fail
  refine HF.out.mono ?_
  rintro e w1 ⟨i, q, rfl, h1, h2, hb⟩
  have H := hide (And.intro h1 (And.intro h2 hb))
  clear h1 h2 hb HF
  go_wp2
  go_ret2
  refine ⟨i, q, rfl, ?_, H.out.2.2⟩
  cases q with
  | true => exact .inl ⟨rfl, H.out.1 rfl⟩
  | false =>
    refine .inr ⟨rfl, fun r hr => ?_⟩
    obtain ⟨j, h3, h4⟩ := mem_get15 hr
    rw [← h4]
    exact H.out.2.1 rfl j h3
end Go.Proofs.Ytohdmmfmjadipaa

/-
  The contract of txn.next: the way from record to record.
-/
namespace Go.Proofs.Ytohdmmfmjadipaa
open Go.RowKit
set_option linter.unusedVariables false

/-- What of a record is looked at. -/
theorem rec_cells {x : World} {b o : Nat} {m : Rec × Value × Value} (h : x.rangeAt b o (rcF m).toList) : x.cell? ⟨b, o, none⟩ = some (.int .i64 m.1.k) ∧ x.cell? ⟨b, o + 2, none⟩ = some (.int .i64 m.1.t) ∧ x.cell? ⟨b, o + 3, none⟩ = some (.int .u64 (m.1.p : Int)) ∧ x.cell? ⟨b, o + 9, none⟩ = some (.int .u64 (m.1.n : Int)) := ⟨h 0 _ rfl, h 2 _ rfl, h 3 _ rfl, h 9 _ rfl⟩
set_option maxRecDepth 8000 in
set_option maxHeartbeats 3200000 in
theorem next15 (v : Value) (ms : List (Rec × Value × Value)) (n : Nat) (w : World) (h : LogIn w v ms) (hr : Rise 0 (msR ms)) :
    Calls Try.prog 30 #[v, .int .u64 (n : Int)] w fun e w' => e = .returned (.int .u64 (nextT (msR ms) n : Int)) ∧ Below w.heap.size w w' := by
  have HA := hide h
  have HR := hide hr
  obtain ⟨aa, ca, rfl, hlc⟩ := h.slice
  have hl := h.few
  have HF := hide (fun k x (hx : Below w.heap.size w x) => find15 _ ms k x (h.below hx) hr)
  clear h hr
  obtain ⟨ln, hln⟩ : ∃ ln, ln = ms.length := ⟨_, rfl⟩
  rw [← hln] at HA HF hl hlc ⊢
  have HN := hide hln
  clear hln
  obtain ⟨q, hq⟩ : ∃ q, q = nextT (msR ms) n := ⟨_, rfl⟩
  have HQ := hide hq
  rw [← hq]
  clear hq
  go_enter Try.func30, Try.ntmps30
  go_wp2
  go_step3
  go_wp2
  go_step3
  go_wp2
  go_loopw [1] (fun i wr => ∃ (j : Nat), i = .int .u64 (j : Int) ∧ Hid (q = nextT (msR ms) j) ∧ Hid (Below w.heap.size w wr)) (fun i _ => (intOf i).toNat)
  case atStart => exact ⟨n, rfl, HQ.out, Below.refl _ _⟩
  case round =>
    obtain ⟨j, rfl, HQJ, HBR⟩ := hrel
    have HC := hide (HF.out j wr HBR.out)
    go_wp2_with fail
    refine HC.out.mono ?_
    rintro e w1 ⟨i, f, rfl, hcase, hb1⟩
    have HB1 := hide (HBR.out.trans (hb1.mono HBR.out.size))
    clear hb1 HBR HC
    rcases hcase with ⟨rfl, hi, he⟩ | ⟨rfl, hno⟩
    · obtain ⟨b, off, rfl, hf, hm0, hx⟩ := HA.out.mid hi
      have hmem := msR_mem hi
      obtain ⟨m, hm⟩ : ∃ m, m = ms.getD i rcZ := ⟨_, rfl⟩
      rw [← hm] at hf hx hm0 hmem he
      have hmR := rise_right _ 0 HR.out _ hmem
      have HST := hide (show nextT (msR ms) m.1.l = stepT (msR ms) m.1 from nextT_step HR.out hmem)
      have HJ := hide he
      have hlp := right_prev hmR
      have hln2 := right_next hmR
      obtain ⟨c0, c2, c3, c9⟩ := rec_cells (hx w1 HB1.out).1
      rw [he] at HST hlp hln2
      have ij : (i : Int) < (ln : Int) := by have := HN.out; omega
      clear hf hx hm0 hm hmem hmR he hi
      by_cases k1 : m.1.k = 1
      · go_wp2
        (try rw [Exit.noGoto_ret])
        go_ret
        refine ⟨?_, HB1.out⟩
        rw [HQJ.out, HST.out, stepT, if_pos k1, HJ.out]
        rfl
      · by_cases k2 : m.1.k = 2
        · go_wp2
          go_roundw
          case rel =>
            refine ⟨m.1.n, rfl, ?_, HB1⟩
            rw [HQJ.out, HST.out, stepT, if_neg k1, if_pos k2]
            exact rfl
          case measure => simp [intOf] <;> omega
        · go_wp2
          go_roundw
          case rel =>
            refine ⟨m.1.p, rfl, ?_, HB1⟩
            rw [HQJ.out, HST.out, stepT, if_neg k1, if_neg k2]
            exact rfl
          case measure => simp [intOf] <;> omega
    · go_wp2
      (try rw [Exit.noGoto_ret])
      go_ret
      refine ⟨?_, HB1.out⟩
      rw [HQJ.out, nextT_none hno]
      rfl
end Go.Proofs.Ytohdmmfmjadipaa

/-
  The contracts of package page's Right and of what it calls.
-/
namespace Go.Proofs.Ytohdmmfmjadipaa
open Go.RowKit
set_option linter.unusedVariables false

set_option maxRecDepth 4000 in
set_option maxHeartbeats 400000 in
theorem rightCell_any (u : Bool) (s : ByteArray) (w : World) :
    Calls Try.prog 69 #[.agg (ceA u s)] w fun e w' => e = .returned (.bool (decide (cellOk u s))) ∧ Below w.heap.size w w' := by
  have hb0 : Below w.heap.size w (w.alloc (.cells (ceA u s) 63)) := (Below.refl _ _).alloc (Nat.le_refl _) _
  have hr := RowAt.new w 63 (ceA u s)
  have c0 := hr.cell 0 (.bool u) rfl
  have c1 := hr.cell 1 (.string s) rfl
  clear hr
  cases u with
  | true =>
    have e : decide (cellOk true s) = decide ((s.size : Int) ≤ 20) := decide_eq_decide.2 ⟨fun h => by have := h.1; omega, fun h => ⟨by omega, by simp⟩⟩
    have HE := hide e
    clear e
    go_enter Try.func69, Try.ntmps69
    go_wp2
    go_ret
    rw [HE.out]
    exact ⟨rfl, hb0⟩
  | false =>
    have e : decide (cellOk false s) = s.toList.isEmpty := by
      rw [Bool.eq_iff_iff, empty_iff, decide_eq_true_eq]
      exact ⟨fun h => h.2 rfl, fun h => ⟨by omega, fun _ => h⟩⟩
    have HE := hide e
    clear e
    go_enter Try.func69, Try.ntmps69
    go_wp2
    go_ret
    rw [HE.out]
    exact ⟨rfl, hb0⟩

/-- The cells' test. -/
abbrev Pg.cellsOk (p : Pg) : Prop := ∀ i, i < 8 → cellOk (p.u i) (p.s i)
theorem cells_no (p : Pg) (j : Nat) (hj : j < 8) (h : ¬ cellOk (p.u j) (p.s j)) : decide p.cellsOk = false := by
  rw [decide_eq_false_iff_not]
  intro hp
  exact h (hp j hj)
theorem cells_more {p : Pg} {j : Nat} (h : ∀ k, k < j → cellOk (p.u k) (p.s k)) (hj : cellOk (p.u j) (p.s j)) : ∀ k, k < j + 1 → cellOk (p.u k) (p.s k) := by
  intro k hk
  by_cases hkj : k = j
  · subst hkj
    exact hj
  · exact h k (by omega)

set_option maxRecDepth 4000 in
set_option maxHeartbeats 400000 in
theorem rightCells_any (p : Pg) (w : World) :
    Calls Try.prog 56 #[.agg (csA p)] w fun e w' => e = .returned (.bool (decide p.cellsOk)) ∧ Below w.heap.size w w' := by
  have hb0 : Below w.heap.size w (w.alloc (.cells (csA p) 75)) := (Below.refl _ _).alloc (Nat.le_refl _) _
  have hr := hide (RowAt.new w 75 (csA p))
  go_enter Try.func56, Try.ntmps56
  go_wp2_with (refine wpList_load_at rfl 75 (.tmp 1) rfl w.heap.size rfl (csA p) hr.out _ Try.underlying75 rfl infoCs ?_)
  go_loopw [6] (fun i wr => ∃ j : Nat, j ≤ 8 ∧ i = .int .i64 j ∧ Below w.heap.size w wr ∧ ∀ k, k < j → cellOk (p.u k) (p.s k)) (fun i _ => 8 - (intOf i).toNat)
  case atStart => exact ⟨0, Nat.zero_le _, rfl, hb0, fun k hk => absurd hk (by omega)⟩
  case round =>
    obtain ⟨j, hj, rfl, hbr, hok⟩ := hrel
    clear hb0 hr
    by_cases hlt : j < 8
    · have R := rightCell_any (p.u j) (p.s j)
      have HK := hide hok
      clear hok
      by_cases hc : cellOk (p.u j) (p.s j)
      · have HR := hide (fun w => (show Calls Try.prog 69 #[.agg (ceA (p.u j) (p.s j))] w fun e w' => e = .returned (.bool true) ∧ Below w.heap.size w w' by have := R w; rwa [decide_eq_true hc] at this))
        have HY := hide (cells_more HK.out hc)
        clear R hc HK
        go_wp2_with (first | (refine wpList_index_cs rfl (.tmp 5) (.tmp 6) rfl p j hlt rfl rfl ?_) | (refine wpList_store_at rfl 63 (.tmp 4) (.tmp 8) rfl wr.heap.size (ceA false ⟨#[]⟩) (ceA (p.u j) (p.s j)) rfl rfl (RowAt.new wr 63 _) infoCe rfl (ceA_one _ _) ?_))
        intro w2 hr2 hk2 _
        have d2 := hk2 _ _ (hbr.alloc hbr.size _) hbr.size
        have HR2 := hide hr2
        clear hr2 hk2 hbr
        go_wp2_with (refine wpList_load_at rfl 63 (.tmp 4) rfl wr.heap.size rfl (ceA (p.u j) (p.s j)) HR2.out _ Try.underlying63 rfl infoCe ?_)
        refine (HR.out _).mono ?_
        rintro e w3 ⟨rfl, hb3⟩
        have d3 := d2.trans (hb3.mono d2.size)
        clear d2 hb3 HR HR2
        go_wp2
        go_roundw
        case rel => exact ⟨j + 1, by omega, by go_num, d3, HY.out⟩
        case measure => simp [intOf]; omega
      · have HR := hide (fun w => (show Calls Try.prog 69 #[.agg (ceA (p.u j) (p.s j))] w fun e w' => e = .returned (.bool false) ∧ Below w.heap.size w w' by have := R w; rwa [decide_eq_false hc] at this))
        have HN := hide (cells_no p j hlt hc)
        clear R hc HK
        go_wp2_with (first | (refine wpList_index_cs rfl (.tmp 5) (.tmp 6) rfl p j hlt rfl rfl ?_) | (refine wpList_store_at rfl 63 (.tmp 4) (.tmp 8) rfl wr.heap.size (ceA false ⟨#[]⟩) (ceA (p.u j) (p.s j)) rfl rfl (RowAt.new wr 63 _) infoCe rfl (ceA_one _ _) ?_))
        intro w2 hr2 hk2 _
        have d2 := hk2 _ _ (hbr.alloc hbr.size _) hbr.size
        have HR2 := hide hr2
        clear hr2 hk2 hbr
        go_wp2_with (refine wpList_load_at rfl 63 (.tmp 4) rfl wr.heap.size rfl (ceA (p.u j) (p.s j)) HR2.out _ Try.underlying63 rfl infoCe ?_)
        refine (HR.out _).mono ?_
        rintro e w3 ⟨rfl, hb3⟩
        have d3 := d2.trans (hb3.mono d2.size)
        clear d2 hb3 HR HR2
        go_wp2
        go_ret
        rw [HN.out]
        exact ⟨rfl, d3⟩
    · obtain rfl : j = 8 := by omega
      have HE := hide (decide_eq_true (show p.cellsOk from hok))
      clear hok
      go_wp2
      go_ret
      rw [HE.out]
      exact ⟨rfl, hbr⟩

set_option maxRecDepth 4000 in
set_option maxHeartbeats 400000 in
theorem right_any (p : Pg) (w : World) :
    Calls Try.prog 35 #[.agg (pgA p)] w fun e w' => e = .returned (.bool (decide p.right)) ∧ Below w.heap.size w w' := by
  have hP : PgAt (w.alloc (.cells (pgA p) 77)) w.heap.size p := heap_alloc_new w _
  have hb0 : Below w.heap.size w (w.alloc (.cells (pgA p) 77)) := (Below.refl _ _).alloc (Nat.le_refl _) _
  have c0 := hP.lsn
  have HP := hide hP
  clear hP
  have e2 : maxP = 4611686018427387904 := rfl
  by_cases h : (p.l : Int) ≤ 4611686018427387904
  · have e : decide p.right = decide p.cellsOk := decide_eq_decide.2 ⟨fun h => h.2, fun g => ⟨by omega, g⟩⟩
    have HR := hide (rightCells_any p)
    rw [e]
    clear e e2
    generalize decide p.cellsOk = r at *
    go_enter Try.func35, Try.ntmps35
    go_wp2_with (refine wpList_load_cs rfl (.tmp 7) rfl w.heap.size rfl p HP.out ?_)
    refine (HR.out _).mono ?_
    rintro e w1 ⟨rfl, hb1⟩
    have d1 := hb0.trans (hb1.mono hb0.size)
    clear hb0 hb1 HR HP c0
    go_wp2
    go_ret
    exact ⟨rfl, d1⟩
  · have e : decide p.right = false := by
      rw [decide_eq_false_iff_not]
      intro h1
      have := h1.1
      omega
    rw [e]
    clear e e2
    have h1 : ((p.l : Int) ≤ 4611686018427387904) = False := by simpa using h
    clear h
    go_enter Try.func35, Try.ntmps35
    go_wp2
    go_ret
    exact ⟨rfl, hb0⟩
end Go.Proofs.Ytohdmmfmjadipaa

/-
  The contract of package change's Apply.
-/
namespace Go.Proofs.Ytohdmmfmjadipaa
open Go.RowKit
set_option linter.unusedVariables false

theorem load_ch {b : Nat} {c : Ch} (x : World) (h : ChAt x b c) : (Instr.loadAt 26 (.pointer (some ⟨b, 0, none⟩))).run Try.prog x = .ok (.agg (chA c)) x := by
  have h1 := run_loadVar_row (P := Try.prog) x b 26 26 (chA c) (0, 0) _ h Try.underlying26 rfl infoCh
  simp only [Instr.loadAt, Instr.sureAddr, Sem.run_bind, Sem.run_pure, Result.andThen_ok, h1]
theorem pg_ext (p : Pg) (i : Nat) (hi : i < 8) : ((pgA p).extract (1 + i * 2) (1 + i * 2 + 2)).toList = (ceA (p.u i) (p.s i)).toList := by
  rcases lt8 hi with rfl | rfl | rfl | rfl | rfl | rfl | rfl | rfl <;> simp [pgA, ceA]
theorem load_ce {b : Nat} {p : Pg} (x : World) (i : Nat) (hi : i < 8) (h : PgAt x b p) : (Instr.loadAt 63 (.pointer (some ⟨b, 1 + i * 2, none⟩))).run Try.prog x = .ok (.agg (ceA (p.u i) (p.s i))) x := by
  have hr := World.rangeAt_of_block h (1 + i * 2) 2
  rw [pg_ext p i hi] at hr
  have h1 := run_loadAt_mid (P := Try.prog) x b (1 + i * 2) 63 _ _ hr Try.underlying63 rfl infoCe
  rwa [Array.toArray_toList] at h1
theorem load_slot {b : Nat} {c : Ch} (x : World) (i : Nat) (hi : c.sl = (i : Int)) (h : ChAt x b c) : (Instr.loadAt 3 (.pointer (some ⟨b, 2, none⟩))).run Try.prog x = .ok (.int .i64 (i : Int)) x := by
  have h1 := h.all.2.2.1
  rw [hi] at h1
  go_simp

/-- What 'Apply' answers, once its arguments are right: by 'refusal'. -/
theorem app_ref (p : Pg) (c : Ch) (l : Nat) (hp : p.right) (hc : c.right) (hl : l ≤ maxP) (hl2 : p.l < l) : appE p c l = refE (p.u c.at) (p.s c.at) c := by
  have hv : c.k = 1 → c.o = ⟨#[]⟩ := fun h => by
    rcases hc.2 with h1 | h1 | h1
    · exact size0 _ h1.2
    · omega
    · omega
  unfold appE refE Ch.wantU Ch.wantV
  rw [if_neg (fun h => h ⟨hp, hc, hl⟩), if_neg (by omega)]
  by_cases k : c.k = 1
  · rw [if_pos k, if_pos k, hv k]
    cases p.u c.at <;> simp [k]
  · rw [if_neg k, if_neg k]
    cases p.u c.at <;> simp [k]

theorem AppIn.drew {w x : World} {gc gr : Nat} {p : Pg} {c : Ch} (h : AppIn w gc gr p c x) : AppIn w gc gr p c x.drew := ⟨h.1, h.2.1, h.2.2.1, below_dn h.2.2.2.1 1, h.2.2.2.2⟩

set_option maxRecDepth 4000 in
set_option maxHeartbeats 1600000 in
theorem app_go (p : Pg) (c : Ch) (l : Nat) (w : World) (hp : p.right) (hc : c.right) (hl : l ≤ maxP) (hl2 : p.l < l) :
    Calls Try.prog 26 #[.agg (pgA p), .agg (chA c), .int .u64 l] w fun e w' => e = .returned (.tuple #[.agg (pgA (appP p c l)), .int .i64 (appE p c l)]) ∧ Below w.heap.size w w' := by
  have H0 := hide (app_in w p c)
  have HR1 := hide (fun w => right_any p w)
  have HR2 := hide (fun w => cright_at c w true (hide (decide_eq_true hc)))
  rw [decide_eq_true hp] at HR1
  have i1 : ((4611686018427387904 : Int) < (l : Int)) = False := eq_false (by unfold maxP at hl; omega)
  have i2 : ¬ (l : Int) ≤ (p.l : Int) := by omega
  obtain ⟨i, hi⟩ := Int.eq_ofNat_of_zero_le hc.1.2.2.1
  have hi8 : i < 8 := by have := hc.1.2.2.2.1; omega
  have hat : c.at = i := by unfold Ch.at; rw [hi]; rfl
  have HF := hide (fun w => refuse_at (p.u i) (p.s i) c w (appE p c l) (hide (by rw [app_ref p c l hp hc hl hl2, hat])))
  have HE0 := hide (fun h : appE p c l = 0 => show appP p c l = p.put l i c.makeU c.makeV by unfold appP; rw [if_pos h, hat])
  have HE1 := hide (app_no p c l)
  clear hp hc hl hl2 hat
  generalize appE p c l = er at *
  generalize appP p c l = rp at *
  go_enter Try.func26, Try.ntmps26
  obtain ⟨gc, h1⟩ : ∃ g, g = w.heap.size + 1 := ⟨_, rfl⟩
  obtain ⟨gr, h2⟩ : ∃ g, g = w.heap.size + 1 + 1 := ⟨_, rfl⟩
  rw [← h2, ← h1] at H0
  go_wp2_with (refine wpList_load_page rfl _ rfl w.heap.size rfl p H0.out.1 ?_)
  rw [← h2, ← h1]
  refine gen_calls (fun x => Hid (AppIn w gc gr p c x)) H0 ?_
  clear H0 h1 h2
  intro w0 H0
  refine (HR1.out _).mono ?_
  rintro e w1 ⟨rfl, hb1⟩
  have H1 := hide (H0.out.later hb1)
  clear H0 hb1 HR1
  go_wp2_with (refine wpList_load_at rfl 26 _ rfl gc rfl (chA c) H1.out.2.1 _ Try.underlying26 rfl infoCh ?_)
  refine (HR2.out _).mono ?_
  rintro e w2 ⟨rfl, hb2⟩
  have H2 := hide (H1.out.later hb2)
  clear H1 hb2 HR2
  have a0 := H2.out.1.lsn
  go_wp2_with fail
  clear a0 i1 i2
  refine wp_region_in (fun x => AppIn w gc gr p c x) (by kernel_rfl) (by kernel_rfl) H2.out.drew ?_
  clear H2
  have j1 : (i : Int) < 8 := by omega
  repeat (first
    | go_big_quiet_skip
    | (refine wpQuiet_load rfl 3 (.tmp 27) rfl _ (.int .i64 (i : Int)) rfl (fun y hy => load_slot y i hi hy.2.1) ?_; simp only [Act.put, Array.setIfInBounds, List.size_toArray, List.length_cons, List.length_nil, Nat.reduceAdd, Nat.reduceLT, ↓reduceDIte, List.set_toArray, List.set_cons_succ, List.set_cons_zero])
    | (refine wpQuiet_load rfl 63 (.tmp 30) rfl _ (.agg (ceA (p.u i) (p.s i))) rfl (fun y hy => load_ce y i hi8 hy.1) ?_; simp only [Act.put, Array.setIfInBounds, List.size_toArray, List.length_cons, List.length_nil, Nat.reduceAdd, Nat.reduceLT, ↓reduceDIte, List.set_toArray, List.set_cons_succ, List.set_cons_zero])
    | (refine wpQuiet_load rfl 26 (.tmp 4) rfl _ (.agg (chA c)) rfl (fun y hy => load_ch y hy.2.1) ?_; simp only [Act.put, Array.setIfInBounds, List.size_toArray, List.length_cons, List.length_nil, Nat.reduceAdd, Nat.reduceLT, ↓reduceDIte, List.set_toArray, List.set_cons_succ, List.set_cons_zero])
    | (refine wpQuiet_call rfl 37 #[.agg (ceA (p.u i) (p.s i)), .agg (chA c)] (.int .i64 er) ?_ (fun x hC => (HF.out x).mono fun e x' h => ⟨h.1, hC.later h.2⟩) ?_; (intro x; go_simp); simp only [Act.put, Array.setIfInBounds, List.size_toArray, List.length_cons, List.length_nil, Nat.reduceAdd, Nat.reduceLT, ↓reduceDIte, List.set_toArray, List.set_cons_succ, List.set_cons_zero])
    | (refine wpQuiet_plain rfl (fun K hK => ?_); go_simp; refine hK _ ?_; clear hK K))
  refine wpQuiet_nil ?_
  intro w3 h3
  have H3 := hide h3
  clear h3 HF
  by_cases h0 : er = 0
  · obtain rfl := HE0.out h0
    subst h0
    clear HE0 HE1
    go_wp2_with fail
    refine wp_region_noPanic ?_
    refine wp_region_held_drew (S := fun x => ChAt x gc c) (by kernel_rfl) H3.out.drew.2.1 (fun hHeld => ?_)
    refine wpAnyH_take (i := 0) (v := .pointer (some ⟨gc, 2, none⟩)) rfl (by kernel_rfl) (by kernel_rfl) (by kernel_rfl) (fun _ _ _ h => h) (Or.inl ⟨by kernel_rfl, fun w hSw => by go_simp⟩) hHeld ?_
    try simp only [Act.put]
    refine wpAnyH_take (i := 1) (v := .int .i64 (i : Int)) rfl (by kernel_rfl) (by kernel_rfl) (by kernel_rfl) (fun _ _ _ h => h) (yields_load (by kernel_rfl) 3 (.tmp 38) rfl _ _ rfl (fun y hy => load_slot y i hi hy)) hHeld ?_
    try simp only [Act.put]
    refine wpAnyH_take (i := 2) (v := .agg (chA c)) rfl (by kernel_rfl) (by kernel_rfl) (by kernel_rfl) (fun _ _ _ h => h) (yields_load (by kernel_rfl) 26 (.tmp 4) rfl _ _ rfl (fun y hy => load_ch y hy)) hHeld ?_
    try simp only [Act.put]
    refine wpAnyH_take (i := 4) (v := .pointer (some ⟨w.heap.size, 1, none⟩)) rfl (by kernel_rfl) (by kernel_rfl) (by kernel_rfl) (fun _ _ _ h => h) (Or.inl ⟨by kernel_rfl, fun w hSw => by go_simp⟩) hHeld ?_
    try simp only [Act.put]
    refine wpAnyH_ready (rs := [3]) (by kernel_rfl) (by simp) ?_
    refine AllReadyH.cons rfl (fun K hK => ?_) AllReadyH.nil
    go_simp
    refine (made_any c _).mono ?_
    rintro e w5 ⟨rfl, hb5⟩
    have H5 := hide (H3.out.drew.later hb5)
    clear hb5 H3
    go_wp2_with fail
    refine hK.out _ _ H5.out.2.1 (fun hHeld5 => ?_)
    clear hK K
    try simp only [Act.put]
    refine wpAnyH_take (i := 5) (v := .pointer (some ⟨w.heap.size, 1 + i * 2, none⟩)) rfl (by kernel_rfl) (by kernel_rfl) (by kernel_rfl) (fun _ _ _ h => h) (Or.inl ⟨by kernel_rfl, fun w hSw => by go_simp⟩) hHeld5 ?_
    try simp only [Act.put]
    have q1 := H5.out.1.used i hi8
    have q2 := H5.out.1.val i hi8
    have s1 := H5.out.1.free (1 + i * 2)
    have s2 := H5.out.1.free (1 + i * 2 + 1)
    have HN := hide (put_mem H5.out hi8 l c.makeU c.makeV)
    have hHeld6 := hide (show ChAt ((w5.setCell ⟨w.heap.size, 1 + i * 2, none⟩ (.bool c.makeU)).setCell ⟨w.heap.size, 1 + i * 2 + 1, none⟩ (.string c.makeV)) gc c from (RowAt.other (RowAt.other (show RowAt _ gc 26 (chA c) from H5.out.2.1) _ _ (by have := H5.out.2.2.2.2; simp; omega)) _ _ (by have := H5.out.2.2.2.2; simp; omega)))
    simp only [ceA]
    refine wpAnyH_ready (rs := [6]) (by kernel_rfl) (by simp) ?_
    refine AllReadyH.cons rfl (fun K hK => ?_) AllReadyH.nil
    go_simp
    refine hK.out _ _ hHeld6.out (fun _ => ?_)
    clear hK K
    try simp only [Act.put]
    refine wpAnyH_done (by kernel_rfl) ?_ _
    refine NoPanic.normal ?_
    have t3 := H5.out.1.free 0
    have t4 := H5.out.1.lsn
    clear hHeld hHeld5 hHeld6 H5
    go_wp2_with (first | (refine wpList_load_page ?hw (.tmp 3) ?ho w.heap.size ?hx (p.put l i c.makeU c.makeV) ?hg ?_; (case ho => rfl); (case hw => rfl); (case hx => rfl); (case hg => exact HN.out.1)) | (refine wpList_store_page ?hw (.tmp 6) (.tmp 46) ?ho gr Pg.zero (p.put l i c.makeU c.makeV) ?hx ?hy ?hg ?_; (case ho => rfl); (case hw => rfl); (case hx => rfl); (case hy => rfl); (case hg => exact HN.out.2.1)))
    intro w7 hP7 hk
    have HP7 := hide hP7
    have d7 := hk _ _ HN.out.2.2.1 (by have := HN.out.2.2.2; omega)
    clear hP7 hk HN q1 q2 s1 s2 t3 t4
    go_wp2
    exact bodyPost_ret (res_page rfl _ _ gr _ rfl HP7.out) rfl ⟨rfl, d7⟩
  · have hz := HE1.out h0
    subst hz
    have k0 : (er == 0) = false := by simpa using h0
    clear HE0 HE1 h0
    go_wp2_with (refine wpList_store_page rfl _ _ rfl gr Pg.zero Pg.zero rfl rfl H3.out.2.2.1 ?_)
    intro w7 hP7 hk
    have HP7 := hide hP7
    have d7 := hk _ _ H3.out.2.2.2.1 (by have := H3.out.2.2.2.2; omega)
    clear hP7 hk H3
    go_wp2
    exact bodyPost_ret (res_page rfl _ _ gr Pg.zero rfl HP7.out) rfl ⟨rfl, d7⟩
end Go.Proofs.Ytohdmmfmjadipaa

/-
  The contract of package change's Inverse.
-/
namespace Go.Proofs.Ytohdmmfmjadipaa
open Go.RowKit
set_option linter.unusedVariables false

set_option maxRecDepth 4000 in
set_option maxHeartbeats 400000 in
theorem invKind_any (k : Int) (w : World) (hk : k = 1 ∨ k = 2 ∨ k = 3) :
    Calls Try.prog 66 #[.int .i64 k] w fun e w' => e = .returned (.int .i64 (4 - k)) ∧ w = w' := by
  rcases hk with rfl | rfl | rfl
  all_goals
    go_enter Try.func66, Try.ntmps66
    go_wp2
    go_ret
    exact ⟨rfl, rfl⟩

/-- A change's fields. -/
theorem load_int {b : Nat} (x : World) (j : Nat) (v : Int) (h : x.cell? ⟨b, j, none⟩ = some (.int .i64 v)) : (Instr.loadAt 3 (.pointer (some ⟨b, j, none⟩))).run Try.prog x = .ok (.int .i64 v) x := by go_simp
theorem load_str {b : Nat} (x : World) (j : Nat) (s : ByteArray) (h : x.cell? ⟨b, j, none⟩ = some (.string s)) : (Instr.loadAt 9 (.pointer (some ⟨b, j, none⟩))).run Try.prog x = .ok (.string s) x := by go_simp

def InvIn (w : World) (gr : Nat) (c : Ch) (x : World) : Prop := RowAt x w.heap.size 26 (chA c) ∧ RowAt x gr 26 (chA Ch.zero) ∧ Below w.heap.size w x ∧ w.heap.size < gr
theorem InvIn.later {w x y : World} {gr : Nat} {c : Ch} (h : InvIn w gr c x) (hb : Below x.heap.size x y) : InvIn w gr c y :=
  ⟨h.1.later hb, h.2.1.later hb, h.2.2.1.trans (hb.mono (Nat.le_of_lt h.1.lt)), h.2.2.2⟩
theorem InvIn.drew {w x : World} {gr : Nat} {c : Ch} (h : InvIn w gr c x) : InvIn w gr c x.drew := ⟨h.1, h.2.1, below_dn h.2.2.1 1, h.2.2.2⟩

set_option maxRecDepth 4000 in
set_option maxHeartbeats 3200000 in
theorem inverse_any (c : Ch) (w : World) :
    Calls Try.prog 50 #[.agg (chA c)] w fun e w' => e = .returned (.tuple #[.agg (chA (invC c)), .int .i64 (invE c)]) ∧ Below w.heap.size w w' := by
  have HP : Hid (InvIn w (w.heap.size + 1) c ((w.alloc (.cells (chA c) 26)).alloc (.cells #[.int .i64 0, .int .i64 0, .int .i64 0, .string ⟨#[]⟩, .string ⟨#[]⟩] 26))) := by
    obtain ⟨h1, h2, h3⟩ := two_new w (chA c) #[.int .i64 0, .int .i64 0, .int .i64 0, .string ⟨#[]⟩, .string ⟨#[]⟩] 26 26
    exact ⟨h1, h2, h3, by omega⟩
  go_enter Try.func50, Try.ntmps50
  obtain ⟨gr, hg⟩ : ∃ g, g = w.heap.size + 1 := ⟨_, rfl⟩
  rw [← hg] at HP
  by_cases h : c.right
  · have HR := hide (fun w => cright_at c w true (hide (decide_eq_true h)))
    have e1 : invE c = 0 := by unfold invE; rw [if_pos h]
    have e2 : invC c = ⟨4 - c.k, c.pg, c.sl, c.n, c.o⟩ := by unfold invC; rw [if_pos h]
    have HK := hide (fun w => invKind_any c.k w (by rcases h.2 with h | h | h <;> omega))
    rw [e1, e2]
    clear e1 e2 h
    go_wp2_with (refine wpList_load_at rfl 26 (.tmp 1) rfl w.heap.size rfl (chA c) HP.out.1 _ Try.underlying26 rfl infoCh ?_)
    rw [← hg]
    refine gen_calls (fun x => Hid (InvIn w gr c x)) HP ?_
    clear HP hg
    intro w0 H0
    refine (HR.out _).mono ?_
    rintro e w1 ⟨rfl, hb1⟩
    have H1 := hide (H0.out.later hb1)
    clear H0 hb1 HR
    go_wp2_with fail
    obtain ⟨a0, a1, a2, a3, a4⟩ := ChAt.all (show ChAt w1 w.heap.size c from H1.out.1)
    have lw : w.heap.size < w1.heap.size := H1.out.1.lt
    have n1 : ¬ w1.heap.size = w.heap.size := by omega
    have n2 : ¬ w.heap.size = w1.heap.size := by omega
    generalize ek : c.k = k at *
    generalize epg : c.pg = pg at *
    generalize esl : c.sl = sl at *
    generalize eo : c.o = o at *
    generalize en : c.n = n at *
    go_region_held3 (fun x => x.cell? ⟨w.heap.size, 0, none⟩ = some (.int .i64 k) ∧ x.cell? ⟨w.heap.size, 1, none⟩ = some (.int .i64 pg) ∧ x.cell? ⟨w.heap.size, 2, none⟩ = some (.int .i64 sl) ∧ x.cell? ⟨w.heap.size, 3, none⟩ = some (.string o) ∧ x.cell? ⟨w.heap.size, 4, none⟩ = some (.string n)) (go_keep)
      (first | (go_at_call 66; refine (HK.out _).mono ?_; rintro e w5 ⟨rfl, rfl⟩))
    all_goals
      have HN : Hid (RowAt (w1.alloc (.cells #[.int .i64 (4 - k), .int .i64 pg, .int .i64 sl, .string n, .string o] 26)).drew w1.heap.size 26 (chA ⟨4 - k, pg, sl, n, o⟩) ∧ RowAt (w1.alloc (.cells #[.int .i64 (4 - k), .int .i64 pg, .int .i64 sl, .string n, .string o] 26)).drew gr 26 (chA Ch.zero) ∧ Below w.heap.size w (w1.alloc (.cells #[.int .i64 (4 - k), .int .i64 pg, .int .i64 sl, .string n, .string o] 26)).drew ∧ w.heap.size < gr) := ⟨RowAt.new w1 26 (chA ⟨4 - k, pg, sl, n, o⟩), (H1.out.later ((Below.refl w1.heap.size w1).alloc (Nat.le_refl _) _)).drew.2⟩
      clear H1 a0 a1 a2 a3 a4 n1 n2 HK
      go_wp2_with (first | (refine wpList_load_at rfl 26 (.tmp 4) rfl w1.heap.size rfl (chA ⟨4 - k, pg, sl, n, o⟩) HN.out.1 _ Try.underlying26 rfl infoCh ?_) | (refine wpList_store_at rfl 26 (.tmp 2) (.tmp 21) rfl gr (chA Ch.zero) (chA ⟨4 - k, pg, sl, n, o⟩) rfl rfl HN.out.2.1 infoCh rfl (chA_one _) ?_))
      intro w2 hr2 hk2 _
      have d2 := hk2 _ _ HN.out.2.2.1 (by have := HN.out.2.2.2; omega)
      have HR2 := hide hr2
      clear hr2 hk2 HN
      go_wp2
      refine bodyPost_ret (res_at rfl _ _ gr (chA ⟨4 - k, pg, sl, n, o⟩) _ rfl HR2.out Try.underlying26 rfl infoCh) rfl ⟨?_, d2⟩
      rw [ek, epg, esl, eo, en]
      rfl
  · have HR := hide (fun w => cright_at c w false (hide (decide_eq_false h)))
    have e1 : invE c = 1 := by unfold invE; rw [if_neg h]
    have e2 : invC c = Ch.zero := by unfold invC; rw [if_neg h]
    rw [e1, e2]
    clear e1 e2 h
    go_wp2_with (refine wpList_load_at rfl 26 (.tmp 1) rfl w.heap.size rfl (chA c) HP.out.1 _ Try.underlying26 rfl infoCh ?_)
    rw [← hg]
    refine gen_calls (fun x => Hid (InvIn w gr c x)) HP ?_
    clear HP hg
    intro w0 H0
    refine (HR.out _).mono ?_
    rintro e w1 ⟨rfl, hb1⟩
    have H1 := hide (H0.out.later hb1)
    clear H0 hb1 HR
    go_wp2_with (refine wpList_store_at rfl 26 (.tmp 2) (.tmp 8) rfl gr (chA Ch.zero) (chA Ch.zero) rfl rfl H1.out.2.1 infoCh rfl (chA_one _) ?_)
    intro w2 hr2 hk2 _
    have d2 := hk2 _ _ H1.out.2.2.1 (by have := H1.out.2.2.2; omega)
    have HR2 := hide hr2
    clear hr2 hk2 H1
    go_wp2
    exact bodyPost_ret (res_at rfl _ _ gr (chA Ch.zero) _ rfl HR2.out Try.underlying26 rfl infoCh) rfl ⟨rfl, d2⟩
end Go.Proofs.Ytohdmmfmjadipaa

/-
  The contract of txn.clr: the record that takes a change back.
-/
namespace Go.Proofs.Ytohdmmfmjadipaa
open Go.RowKit
set_option linter.unusedVariables false

set_option maxRecDepth 8000 in
set_option maxHeartbeats 3200000 in
theorem clr15 (v : Value) (ms : List (Rec × Value × Value)) (i : Nat) (w : World) (h : LogIn w v ms) (hr : Rise 0 (msR ms)) (hi : i < ms.length) :
    Calls Try.prog 32 #[v, .int .i64 (i : Int)] w fun e w' => e = .returned (.agg (rcF (clrM (msR ms) (ms.getD i rcZ).1))) ∧ Below w.heap.size w w' := by
  have hb0 : Below w.heap.size w (w.alloc (.cells zeroA 30)) := (Below.refl _ _).alloc (Nat.le_refl _) _
  obtain ⟨gR, hgR⟩ : ∃ g, g = w.heap.size := ⟨_, rfl⟩
  have H0 : Hid (RowAt (w.alloc (.cells zeroA 30)) gR 30 zeroA ∧ Below w.heap.size w (w.alloc (.cells zeroA 30))) := by
    rw [hgR]
    exact ⟨RowAt.new w _ _, hb0⟩
  clear hb0
  have HA := hide h
  obtain ⟨aa, ca, rfl, hlc⟩ := h.slice
  have hl := h.few
  obtain ⟨b, off, rfl, hf, _, hx⟩ := h.mid hi
  obtain ⟨ln, hln⟩ : ∃ ln, ln = ms.length := ⟨_, rfl⟩
  have HNX := hide (fun x k (hb : Below w.heap.size w x) => next15 _ ms k x (h.below hb) hr)
  clear h hr
  rw [← hln] at HA HNX hl hlc hi ⊢
  have HN := hide hln
  clear hln
  obtain ⟨m, hm⟩ : ∃ m, m = ms.getD i rcZ := ⟨_, rfl⟩
  rw [← hm] at hx ⊢
  clear hm hf
  have ij : (i : Int) < (ln : Int) := by omega
  have i0 : ¬ (i : Int) < 0 := by omega
  have HX := hide hx
  clear hx
  have HGR := hide hgR
  have HI := hide (fun w => inverse_any m.1.c w)
  go_enter Try.func32, Try.ntmps32
  go_wp2_with (refine wpList_load_val rfl 26 (.tmp 11) rfl _ (.agg (chA m.1.c)) rfl (load_chg _ b (off + i * 14) m (HX.out _ H0.out.2).1) ?_)
  rw [← hgR]
  refine gen_calls (fun x => RowAt x gR 30 zeroA ∧ Below w.heap.size w x) H0.out ?_
  intro y HY
  have HYY := hide HY
  clear HY H0 hgR
  refine (HI.out y).mono ?_
  rintro e w1 ⟨rfl, hb1⟩
  have H1 := hide (And.intro (HYY.out.1.later hb1) (HYY.out.2.trans (hb1.mono HYY.out.2.size)))
  clear hb1 HYY HI
  obtain ⟨c, hc⟩ : ∃ c, c = invC m.1.c := ⟨_, rfl⟩
  rw [← hc]
  have HC := hide hc
  clear hc
  have hb2 : Below w1.heap.size w1 (w1.alloc (.cells (chA Ch.zero) 26)) := (Below.refl _ _).alloc (Nat.le_refl _) _
  obtain ⟨gC, hgC⟩ : ∃ g, g = w1.heap.size := ⟨_, rfl⟩
  have HZ : Hid (RowAt (w1.alloc (.cells (chA Ch.zero) 26)) gC 26 (chA Ch.zero) ∧ RowAt (w1.alloc (.cells (chA Ch.zero) 26)) gR 30 zeroA ∧ Below w.heap.size w (w1.alloc (.cells (chA Ch.zero) 26)) ∧ w.heap.size ≤ gC) := by
    rw [hgC]
    exact ⟨RowAt.new w1 _ _, H1.out.1.later hb2, H1.out.2.trans (hb2.mono H1.out.2.size), H1.out.2.size⟩
  have HGC := hide hgC
  clear hb2 hgC
  go_wp2_with (refine wpList_store_at rfl 26 (.tmp 5) (.tmp 14) rfl gC (chA Ch.zero) (chA c) ?h1 rfl HZ.out.1 infoCh rfl (chA_one _) ?_; (case h1 => rw [HGC.out]; rfl); intro w2 hr2 hk2 hrow2; refine stop10 ?_)
  have hb2 := hk2 _ _ HZ.out.2.2.1 HZ.out.2.2.2
  have H2 : Hid (RowAt w2 gC 26 (chA c) ∧ RowAt w2 gR 30 zeroA ∧ Below w.heap.size w w2 ∧ gR ≠ gC) := by
    have hne : gR ≠ gC := fun e => by
      have h1 := HZ.out.1
      rw [← e] at h1
      exact absurd (row_kind h1 HZ.out.2.1) (by decide)
    exact ⟨hr2, hrow2 gR _ _ hne HZ.out.2.1, hb2, hne⟩
  clear hr2 hk2 hrow2 hb2 HZ H1
  refine unstop10 ?_
  go_wp2_with fail
  rw [← HGC.out]
  have HD : Hid (RowAt w2.drew gC 26 (chA c) ∧ RowAt w2.drew gR 30 zeroA ∧ Below w.heap.size w w2.drew) := hide ⟨H2.out.1, H2.out.2.1, below_dn H2.out.2.2.1 1⟩
  have HGO := hide H2.out.2.2.2
  clear H2
  refine wp_region_noPanic ?_
  refine wp_region_held_drew (S := fun z => RowAt z gC 26 (chA c) ∧ z.rangeAt b (off + i * 14) (rcF m).toList) (by kernel_rfl) (⟨HD.out.1, (HX.out _ HD.out.2.2).1⟩) (fun hHeld => ?_)
  refine hand_take 0 (some 16) (.slice (some ⟨b, off, none⟩) ln ca) rfl rfl (by kernel_rfl) (by kernel_rfl) (by kernel_rfl) (fun _ _ _ h => h) (Or.inl ⟨by kernel_rfl, fun x hSx => by go_simp⟩) hHeld ?_
  try simp only [Act.put, List.setIfInBounds_toArray, List.set_cons_zero, List.set_cons_succ]
  refine hand_take 1 (some 17) (.int .i64 (i : Int)) rfl rfl (by kernel_rfl) (by kernel_rfl) (by kernel_rfl) (fun _ _ _ h => h) (Or.inl ⟨by kernel_rfl, fun x hSx => by go_simp⟩) hHeld ?_
  try simp only [Act.put, List.setIfInBounds_toArray, List.set_cons_zero, List.set_cons_succ]
  refine hand_take 2 (some 18) (.pointer (some ⟨b, off + i * 14, none⟩)) rfl rfl (by kernel_rfl) (by kernel_rfl) (by kernel_rfl) (fun _ _ _ h => h) (Or.inl ⟨by kernel_rfl, fun x hSx => by go_simp⟩) hHeld ?_
  try simp only [Act.put, List.setIfInBounds_toArray, List.set_cons_zero, List.set_cons_succ]
  refine hand_take 3 (some 19) (.pointer (some ⟨b, off + i * 14 + 2, none⟩)) rfl rfl (by kernel_rfl) (by kernel_rfl) (by kernel_rfl) (fun _ _ _ h => h) (Or.inl ⟨by kernel_rfl, fun x hSx => by go_simp⟩) hHeld ?_
  try simp only [Act.put, List.setIfInBounds_toArray, List.set_cons_zero, List.set_cons_succ]
  refine hand_take 4 (some 20) (.int .i64 m.1.t) rfl rfl (by kernel_rfl) (by kernel_rfl) (by kernel_rfl) (fun _ _ _ h => h) (Or.inl ⟨by kernel_rfl, fun x hSx => by have h := (rec_cells hSx.2).2.1; go_simp⟩) hHeld ?_
  try simp only [Act.put, List.setIfInBounds_toArray, List.set_cons_zero, List.set_cons_succ]
  refine hand_take 5 (some 21) (.agg #[.int .i64 c.k, .int .i64 c.pg, .int .i64 c.sl, .string c.o, .string c.n]) rfl rfl (by kernel_rfl) (by kernel_rfl) (by kernel_rfl) (fun _ _ _ h => h) (yieldsIf_load_run (by kernel_rfl) 26 _ rfl (.pointer (some ⟨gC, 0, none⟩)) rfl _ (fun x hSx => load_ch15 x gC c hSx.1)) hHeld ?_
  try simp only [Act.put, List.setIfInBounds_toArray, List.set_cons_zero, List.set_cons_succ]
  refine hand_take 6 (some 22) (.slice (some ⟨b, off, none⟩) ln ca) rfl rfl (by kernel_rfl) (by kernel_rfl) (by kernel_rfl) (fun _ _ _ h => h) (Or.inl ⟨by kernel_rfl, fun x hSx => by go_simp⟩) hHeld ?_
  try simp only [Act.put, List.setIfInBounds_toArray, List.set_cons_zero, List.set_cons_succ]
  refine hand_take 7 (some 23) (.slice (some ⟨b, off, none⟩) ln ca) rfl rfl (by kernel_rfl) (by kernel_rfl) (by kernel_rfl) (fun _ _ _ h => h) (Or.inl ⟨by kernel_rfl, fun x hSx => by go_simp⟩) hHeld ?_
  try simp only [Act.put, List.setIfInBounds_toArray, List.set_cons_zero, List.set_cons_succ]
  refine hand_take 8 (some 24) (.int .i64 (i : Int)) rfl rfl (by kernel_rfl) (by kernel_rfl) (by kernel_rfl) (fun _ _ _ h => h) (Or.inl ⟨by kernel_rfl, fun x hSx => by go_simp⟩) hHeld ?_
  try simp only [Act.put, List.setIfInBounds_toArray, List.set_cons_zero, List.set_cons_succ]
  refine hand_take 9 (some 25) (.pointer (some ⟨b, off + i * 14, none⟩)) rfl rfl (by kernel_rfl) (by kernel_rfl) (by kernel_rfl) (fun _ _ _ h => h) (Or.inl ⟨by kernel_rfl, fun x hSx => by go_simp⟩) hHeld ?_
  try simp only [Act.put, List.setIfInBounds_toArray, List.set_cons_zero, List.set_cons_succ]
  refine hand_take 10 (some 26) (.pointer (some ⟨b, off + i * 14 + 3, none⟩)) rfl rfl (by kernel_rfl) (by kernel_rfl) (by kernel_rfl) (fun _ _ _ h => h) (Or.inl ⟨by kernel_rfl, fun x hSx => by go_simp⟩) hHeld ?_
  try simp only [Act.put, List.setIfInBounds_toArray, List.set_cons_zero, List.set_cons_succ]
  refine hand_take 11 (some 27) (.int .u64 (m.1.p : Int)) rfl rfl (by kernel_rfl) (by kernel_rfl) (by kernel_rfl) (fun _ _ _ h => h) (Or.inl ⟨by kernel_rfl, fun x hSx => by have h := (rec_cells hSx.2).2.2.1; go_simp⟩) hHeld ?_
  try simp only [Act.put, List.setIfInBounds_toArray, List.set_cons_zero, List.set_cons_succ]
  refine hand_one 12 (by kernel_rfl) ?_
  refine hand_call (some 28) rfl rfl rfl 30 #[.slice (some ⟨b, off, none⟩) ln ca, .int .u64 (m.1.p : Int)] ?he ((HNX.out _ m.1.p HD.out.2.2).mono ?_)
  (case he => go_simp)
  rintro e w3 ⟨rfl, hb3⟩
  have H3 : Hid (RowAt w3 gC 26 (chA c) ∧ RowAt w3 gR 30 zeroA ∧ Below w.heap.size w w3) := hide ⟨HD.out.1.later hb3, HD.out.2.1.later hb3, HD.out.2.2.trans (hb3.mono HD.out.2.2.size)⟩
  obtain ⟨q, hq⟩ : ∃ q, q = nextT (msR ms) m.1.p := ⟨_, rfl⟩
  rw [← hq]
  have HQ := hide hq
  clear hb3 hq
  refine ⟨_, rfl, ⟨H3.out.1, (HX.out _ H3.out.2.2).1⟩, ?_⟩
  try simp only [Act.put, List.setIfInBounds_toArray, List.set_cons_zero, List.set_cons_succ]
  have hHeld := (show RowAt w3 gC 26 (chA c) ∧ w3.rangeAt b (off + i * 14) (rcF m).toList from ⟨H3.out.1, (HX.out _ H3.out.2.2).1⟩)
  refine hand_take 13 (some 29) (.agg #[.int .i64 2, .int .u64 0, .int .i64 m.1.t, .int .u64 0, .int .i64 c.k, .int .i64 c.pg, .int .i64 c.sl, .string c.o, .string c.n, .int .u64 (q : Int), .int .i64 0, .int .u64 0, .slice none 0 0, .slice none 0 0]) rfl rfl (by kernel_rfl) (by kernel_rfl) (by kernel_rfl) (fun _ _ _ h => h) (Or.inl ⟨by kernel_rfl, fun x hSx => by go_simp⟩) hHeld ?_
  try simp only [Act.put, List.setIfInBounds_toArray, List.set_cons_zero, List.set_cons_succ]
  refine hand_one 14 (by kernel_rfl) ?_
  refine hand_store rfl rfl rfl 30 (.tmp 4) (.tmp 29) rfl gR 0 30 zeroA #[.int .i64 2, .int .u64 0, .int .i64 m.1.t, .int .u64 0, .int .i64 c.k, .int .i64 c.pg, .int .i64 c.sl, .string c.o, .string c.n, .int .u64 (q : Int), .int .i64 0, .int .u64 0, .slice none 0 0, .slice none 0 0] ?hp rfl H3.out.2.1 infoRc (by simp [zeroA]) (by simp [Value.oneCell']) ?_
  (case hp => rw [HGR.out]; rfl)
  intro w4 hr4 ho4
  have hpa := partA_all zeroA #[.int .i64 2, .int .u64 0, .int .i64 m.1.t, .int .u64 0, .int .i64 c.k, .int .i64 c.pg, .int .i64 c.sl, .string c.o, .string c.n, .int .u64 (q : Int), .int .i64 0, .int .u64 0, .slice none 0 0, .slice none 0 0] rfl
  rw [hpa] at hr4
  have H4 : Hid (RowAt w4 gR 30 #[.int .i64 2, .int .u64 0, .int .i64 m.1.t, .int .u64 0, .int .i64 c.k, .int .i64 c.pg, .int .i64 c.sl, .string c.o, .string c.n, .int .u64 (q : Int), .int .i64 0, .int .u64 0, .slice none 0 0, .slice none 0 0] ∧ Below w.heap.size w w4) := hide ⟨hr4, ho4.below H3.out.2.2 (by rw [HGR.out]; exact Nat.le_refl _)⟩
  refine ⟨⟨ho4.row H3.out.1 (fun e => HGO.out e.symm), (HX.out _ H4.out.2).1⟩, ?_⟩
  clear hr4 ho4
  try simp only [Act.put, List.setIfInBounds_toArray, List.set_cons_zero, List.set_cons_succ]
  refine wpAnyH_done (by kernel_rfl) ?_ _
  refine NoPanic.normal ?_
  go_wp2
  refine bodyPost_ret (res_one rfl _ _ gR _ _ ?hp H4.out.1 Try.underlying30 rfl infoRc) rfl ⟨?_, H4.out.2⟩
  (case hp => rw [HGR.out]; rfl)
  rw [HQ.out, HC.out]
  rfl
end Go.Proofs.Ytohdmmfmjadipaa

/-
  The contracts of txn.Next and txn.Clr.
-/
namespace Go.Proofs.Ytohdmmfmjadipaa
open Go.RowKit
set_option linter.unusedVariables false

set_option maxRecDepth 8000 in
set_option maxHeartbeats 3200000 in
theorem Next15 (v : Value) (ms : List (Rec × Value × Value)) (n : Nat) (w : World) (h : LogIn w v ms) :
    Calls Try.prog 17 #[v, .int .u64 (n : Int)] w fun e w' => ((Rise 0 (msR ms) ∧ e = .returned (.tuple #[.int .u64 (nextT (msR ms) n : Int), .int .i64 0])) ∨ (¬ Rise 0 (msR ms) ∧ e = .returned (.tuple #[.int .u64 0, .int .i64 2]))) ∧ Below w.heap.size w w' := by
  have HG := hide (good15 v ms w h)
  have HA := hide h
  by_cases hr : Rise 0 (msR ms)
  · rw [(riseB_iff _ _).2 hr] at HG
    have HR := hide hr
    clear h hr
    go_enter Try.func17, Try.ntmps17
    go_wp2_with fail
    refine HG.out.mono ?_
    rintro e w1 ⟨rfl, hb1⟩
    have HN := hide (next15 v ms n w1 (HA.out.below hb1) HR.out)
    have HB := hide hb1
    clear hb1 HG
    go_wp2_with fail
    refine HN.out.mono ?_
    rintro e w2 ⟨rfl, hb2⟩
    have HB2 := hide (HB.out.trans (hb2.mono HB.out.size))
    clear hb2 HN HB
    go_wp2
    go_ret2
    exact ⟨.inl ⟨HR.out, rfl⟩, HB2.out⟩
  · rw [riseB_no hr] at HG
    have HR := hide hr
    clear h hr
    go_enter Try.func17, Try.ntmps17
    go_wp2_with fail
    refine HG.out.mono ?_
    rintro e w1 ⟨rfl, hb1⟩
    have HB := hide hb1
    clear hb1 HG
    go_wp2
    go_ret2
    exact ⟨.inr ⟨HR.out, rfl⟩, HB.out⟩

set_option maxRecDepth 8000 in
set_option maxHeartbeats 3200000 in
theorem Clr15 (v : Value) (ms : List (Rec × Value × Value)) (n : Nat) (w : World) (h : LogIn w v ms) :
    Calls Try.prog 18 #[v, .int .u64 (n : Int)] w fun e w' => ((Rise 0 (msR ms) ∧ e = .returned (.tuple #[.agg (rcF (clrA (msR ms) n).1), .int .i64 (clrA (msR ms) n).2])) ∨ (¬ Rise 0 (msR ms) ∧ e = .returned (.tuple #[.agg (rcF rcZ), .int .i64 2]))) ∧ Below w.heap.size w w' := by
  have hb0 : Below w.heap.size w (w.alloc (.cells zeroA 30)) := (Below.refl _ _).alloc (Nat.le_refl _) _
  obtain ⟨gR, hgR⟩ : ∃ g, g = w.heap.size := ⟨_, rfl⟩
  have H0 : Hid (RowAt (w.alloc (.cells zeroA 30)) gR 30 zeroA ∧ Below w.heap.size w (w.alloc (.cells zeroA 30))) := by
    rw [hgR]
    exact ⟨RowAt.new w _ _, hb0⟩
  clear hb0
  have HG := hide (fun x (hx : Below w.heap.size w x) => good15 v ms x (h.below hx))
  have HA := hide h
  obtain ⟨aa, ca, rfl, hlc⟩ := h.slice
  have hl := h.few
  have HGR := hide hgR
  have hall0 : zeroA.all (·.oneCell') = true := by simp [zeroA, Value.oneCell']
  clear h
  by_cases hr : Rise 0 (msR ms)
  · rw [(riseB_iff _ _).2 hr] at HG
    have HR := hide hr
    have HF := hide (fun x (hx : Below w.heap.size w x) => find15 _ ms n x (HA.out.below hx) hr)
    have HC := hide (fun i x (hx : Below w.heap.size w x) (hi : i < ms.length) => clr15 _ ms i x (HA.out.below hx) hr hi)
    clear hr
    obtain ⟨ln, hln⟩ : ∃ ln, ln = ms.length := ⟨_, rfl⟩
    rw [← hln] at HA HF HC HG hl hlc ⊢
    have HN := hide hln
    clear hln
    go_enter Try.func18, Try.ntmps18
    go_wp2_with fail
    rw [← hgR]
    refine gen_calls (fun x => RowAt x gR 30 zeroA ∧ Below w.heap.size w x) H0.out ?_
    intro y HY
    have HYY := hide HY
    clear HY H0 hgR
    refine (HG.out y HYY.out.2).mono ?_
    rintro e w1 ⟨rfl, hb1⟩
    have H1 := hide (And.intro (HYY.out.1.later hb1) (HYY.out.2.trans (hb1.mono HYY.out.2.size)))
    clear hb1 HYY HG
    go_wp2_with fail
    refine (HF.out w1 H1.out.2).mono ?_
    rintro e w2 ⟨i, q, rfl, hcase, hb2⟩
    have H2 := hide (And.intro (H1.out.1.later hb2) (H1.out.2.trans (hb2.mono H1.out.2.size)))
    clear hb2 H1 HF
    rcases hcase with ⟨rfl, hi, he⟩ | ⟨rfl, hno⟩
    · obtain ⟨b, off, rfl, hf, _, hx⟩ := HA.out.mid hi
      have hmem := msR_mem hi
      have ij : (i : Int) < (ln : Int) := by have := HN.out; omega
      have HCC := hide (fun x (hx : Below w.heap.size w x) => HC.out i x hx (by have := HN.out; omega))
      clear HC
      obtain ⟨m, hm⟩ : ∃ m, m = ms.getD i rcZ := ⟨_, rfl⟩
      rw [← hm] at hx hmem he HCC
      clear hm hf
      obtain ⟨c0, -⟩ := rec_cells (hx w2 H2.out.2).1
      clear hx hi
      by_cases hk : m.1.k = 1
      · have HE := hide (show clrA (msR ms) n = (clrM (msR ms) m.1, 0) by rw [← he]; exact clrA_yes HR.out hmem hk)
        have hall : (rcF (clrM (msR ms) m.1)).all (·.oneCell') = true := all15 (clrM_in _ _ w)
        clear hmem he
        go_wp2_with fail
        refine (HCC.out w2 H2.out.2).mono ?_
        rintro e w3 ⟨rfl, hb3⟩
        have H3 := hide (And.intro (H2.out.1.later hb3) (H2.out.2.trans (hb3.mono H2.out.2.size)))
        clear hb3 H2 HCC
        go_wp2_with (refine wpList_store_at rfl 30 (.tmp 4) (.tmp 31) rfl gR zeroA (rcF (clrM (msR ms) m.1)) rfl rfl H3.out.1 infoRc rfl hall ?_; intro w4 hr4 hk4 hrow4; refine stop10 ?_)
        have hb4 := hk4 _ _ H3.out.2 (by rw [HGR.out]; exact Nat.le_refl _)
        have H4 := hide (And.intro hr4 hb4)
        clear hr4 hk4 hrow4 hb4 H3
        refine unstop10 ?_
        go_wp2
        refine bodyPost_ret (res_at rfl _ _ gR _ _ rfl H4.out.1 Try.underlying30 rfl infoRc) rfl ⟨.inl ⟨HR.out, ?_⟩, H4.out.2⟩
        rw [HE.out]
        rfl
      · have HE := hide (show clrA (msR ms) n = (rcZ, 5) by rw [← he]; exact clrA_no HR.out hmem hk)
        have hk' : (m.1.k == 1) = false := by simpa using hk
        clear hmem he
        go_wp2_with (refine wpList_store_at rfl 30 (.tmp 4) (.tmp 28) rfl gR zeroA zeroA rfl rfl H2.out.1 infoRc rfl hall0 ?_; intro w4 hr4 hk4 hrow4; refine stop10 ?_)
        have hb4 := hk4 _ _ H2.out.2 (by rw [HGR.out]; exact Nat.le_refl _)
        have H4 := hide (And.intro hr4 hb4)
        clear hr4 hk4 hrow4 hb4 H2
        refine unstop10 ?_
        go_wp2
        refine bodyPost_ret (res_at rfl _ _ gR _ _ rfl H4.out.1 Try.underlying30 rfl infoRc) rfl ⟨.inl ⟨HR.out, ?_⟩, H4.out.2⟩
        rw [HE.out]
        rfl
    · have HE := hide (clrA_none hno)
      go_wp2_with (refine wpList_store_at rfl 30 (.tmp 4) (.tmp 28) rfl gR zeroA zeroA rfl rfl H2.out.1 infoRc rfl hall0 ?_; intro w4 hr4 hk4 hrow4; refine stop10 ?_)
      have hb4 := hk4 _ _ H2.out.2 (by rw [HGR.out]; exact Nat.le_refl _)
      have H4 := hide (And.intro hr4 hb4)
      clear hr4 hk4 hrow4 hb4 H2
      refine unstop10 ?_
      go_wp2
      refine bodyPost_ret (res_at rfl _ _ gR _ _ rfl H4.out.1 Try.underlying30 rfl infoRc) rfl ⟨.inl ⟨HR.out, ?_⟩, H4.out.2⟩
      rw [HE.out]
      rfl
  · rw [riseB_no hr] at HG
    have HR := hide hr
    clear hr
    obtain ⟨ln, hln⟩ : ∃ ln, ln = ms.length := ⟨_, rfl⟩
    rw [← hln] at HA HG hl hlc ⊢
    clear hln
    go_enter Try.func18, Try.ntmps18
    go_wp2_with fail
    rw [← hgR]
    refine gen_calls (fun x => RowAt x gR 30 zeroA ∧ Below w.heap.size w x) H0.out ?_
    intro y HY
    have HYY := hide HY
    clear HY H0 hgR
    refine (HG.out y HYY.out.2).mono ?_
    rintro e w1 ⟨rfl, hb1⟩
    have H1 := hide (And.intro (HYY.out.1.later hb1) (HYY.out.2.trans (hb1.mono HYY.out.2.size)))
    clear hb1 HYY HG
    go_wp2_with (refine wpList_store_at rfl 30 (.tmp 4) (.tmp 11) rfl gR zeroA zeroA rfl rfl H1.out.1 infoRc rfl hall0 ?_; intro w4 hr4 hk4 hrow4; refine stop10 ?_)
    have hb4 := hk4 _ _ H1.out.2 (by rw [HGR.out]; exact Nat.le_refl _)
    have H4 := hide (And.intro hr4 hb4)
    clear hr4 hk4 hrow4 hb4 H1
    refine unstop10 ?_
    go_wp2
    refine bodyPost_ret (res_at rfl _ _ gR _ _ rfl H4.out.1 Try.underlying30 rfl infoRc) rfl ⟨.inr ⟨HR.out, rfl⟩, H4.out.2⟩
end Go.Proofs.Ytohdmmfmjadipaa

/-
  The contracts of Last: the program's, from the end, and the document's.
-/
namespace Go.Proofs.Ytohdmmfmjadipaa
open Go.RowKit
set_option linter.unusedVariables false

theorem last_cells {x : World} {b o : Nat} {m : Rec × Value × Value} (h : x.rangeAt b o (rcF m).toList) : x.cell? ⟨b, o + 1, none⟩ = some (.int .u64 (m.1.l : Int)) ∧ x.cell? ⟨b, o + 2, none⟩ = some (.int .i64 m.1.t) := ⟨h 1 _ rfl, h 2 _ rfl⟩
theorem lastT_back (l : List Rec) (t : Int) : ∀ (m : List Rec), (∀ r ∈ m, r.t ≠ t) → lastT (l ++ m) t = lastT l t := by
  intro m
  induction m using snoc_ind with
  | h0 => intro _; rw [List.append_nil]
  | h1 m s ih =>
    intro h
    rw [← List.append_assoc, lastT_snoc, if_neg (fun x => h s (by simp) x.2)]
    exact ih (fun r hr => h r (List.mem_append.2 (.inl hr)))
set_option maxRecDepth 8000 in
set_option maxHeartbeats 3200000 in
theorem last15 (v : Value) (ms : List (Rec × Value × Value)) (t : Int) (w : World) (h : LogIn w v ms) :
    Calls Try.prog 13 #[v, .int .i64 t] w fun e w' => e = .returned (.int .u64 (lastT (msR ms) t : Int)) ∧ Below w.heap.size w w' := by
  by_cases ht : t < 1
  · rw [lastT_none _ _ (fun r hr x => by omega)]
    go_enter Try.func13, Try.ntmps13
    go_wp2
    go_ret
    exact ⟨rfl, Below.refl _ _⟩
  · have HA := hide h
    obtain ⟨aa, ca, rfl, hlc⟩ := h.slice
    have hl := h.few
    clear h
    obtain ⟨ln, hln⟩ : ∃ ln, ln = ms.length := ⟨_, rfl⟩
    rw [← hln] at HA hl hlc ⊢
    have HN := hide hln
    clear hln
    obtain ⟨q, hq⟩ : ∃ q, q = lastT (msR ms) t := ⟨_, rfl⟩
    have HQ := hide hq
    rw [← hq]
    clear hq
    go_enter Try.func13, Try.ntmps13
    go_wp2
    go_loopw [5] (fun i wr => ∃ (j : Nat), j ≤ ln ∧ i = .int .i64 ((j : Int) - 1) ∧ Hid (q = lastT ((msR ms).take j) t) ∧ Hid (Below w.heap.size w wr)) (fun i _ => (intOf i + 1).toNat)
    case atStart => exact ⟨ln, Nat.le_refl _, rfl, by show q = _; rw [HQ.out, HN.out, ← msR_len, List.take_length], Below.refl _ _⟩
    case round =>
      obtain ⟨j, hj, rfl, HTK, HBR⟩ := hrel
      cases j with
      | zero =>
        have i0 : ¬ (0 : Int) ≤ ((0 : Nat) : Int) - 1 := by omega
        go_wp2
        go_ret
        refine ⟨?_, HBR.out⟩
        have h1 := HTK.out
        rw [List.take_zero] at h1
        rw [h1]
        rfl
      | succ j =>
        have hjm : j < ms.length := by rw [← HN.out]; omega
        have HS := hide (msR_take_succ hjm)
        obtain ⟨b, off, rfl, hf, _, hx⟩ := HA.out.mid hjm
        obtain ⟨m, hm⟩ : ∃ m, m = ms.getD j rcZ := ⟨_, rfl⟩
        rw [← hm] at hf hx HS
        clear hm
        obtain ⟨c1, c2⟩ := last_cells (hx wr HBR.out).1
        clear hf hx
        have e0 : (((j + 1 : Nat) : Int) - 1) = (j : Int) := by omega
        rw [e0]
        have ij : (j : Int) < (ln : Int) := by omega
        have i1 : (0 : Int) ≤ (j : Int) := by omega
        by_cases hm : m.1.t = t
        · go_wp2
          go_ret
          refine ⟨?_, HBR.out⟩
          have h1 := HTK.out
          rw [HS.out, lastT_snoc, if_pos ⟨by omega, hm⟩] at h1
          rw [h1]
          rfl
        · go_wp2
          go_roundw
          case rel =>
            refine ⟨j, by omega, rfl, ?_, HBR⟩
            have h1 := HTK.out
            rw [HS.out, lastT_snoc, if_neg (fun x => hm x.2)] at h1
            exact h1
          case measure => simp [intOf]
set_option maxRecDepth 8000 in
set_option maxHeartbeats 3200000 in
theorem rlast15 (v : Value) (ms : List (Rec × Value × Value)) (t : Int) (w : World) (h : LogIn w v ms) :
    Calls Try.prog 14 #[v, .int .i64 t] w fun e w' => e = .returned (.int .u64 (lastT (msR ms) t : Int)) ∧ Below w.heap.size w w' := by
  have HA := hide h
  obtain ⟨aa, ca, rfl, hlc⟩ := h.slice
  have hl := h.few
  clear h
  obtain ⟨ln, hln⟩ : ∃ ln, ln = ms.length := ⟨_, rfl⟩
  rw [← hln] at HA hl hlc ⊢
  have HN := hide hln
  clear hln
  go_enter Try.func14, Try.ntmps14
  go_wp2
  go_loopw [5, 9] (fun v i wr => ∃ (j ll : Nat), j ≤ ln ∧ i = .int .i64 (j : Int) ∧ v = .int .u64 (ll : Int) ∧ Hid (ll = lastT ((msR ms).take j) t) ∧ Hid (Below w.heap.size w wr)) (fun _ i _ => ln - (intOf i).toNat)
  case atStart => exact ⟨0, 0, Nat.zero_le _, rfl, rfl, by rw [List.take_zero]; rfl, Below.refl _ _⟩
  case round =>
    obtain ⟨j, ll, hj, rfl, rfl, HLL, HBR⟩ := hrel
    by_cases hlt : j < ln
    · have hjm : j < ms.length := by rw [← HN.out]; exact hlt
      have HS := hide (msR_take_succ hjm)
      obtain ⟨b, off, rfl, hf, _, hx⟩ := HA.out.mid hjm
      obtain ⟨m, hm⟩ : ∃ m, m = ms.getD j rcZ := ⟨_, rfl⟩
      rw [← hm] at hf hx HS
      clear hm
      have ij : (j : Int) < (ln : Int) := by omega
      obtain ⟨c1, c2⟩ := last_cells (hx wr HBR.out).1
      clear hf hx
      by_cases ht : 1 ≤ t
      · by_cases hm : m.1.t = t
        · go_wp2
          go_roundw
          case rel =>
            refine ⟨j + 1, m.1.l, by omega, by go_num, rfl, ?_, HBR⟩
            rw [HS.out, lastT_snoc, if_pos ⟨ht, hm⟩]
            exact rfl
          case measure => simp [intOf]; omega
        · go_wp2
          go_roundw
          case rel =>
            refine ⟨j + 1, ll, by omega, by go_num, rfl, ?_, HBR⟩
            rw [HS.out, lastT_snoc, if_neg (fun x => hm x.2)]
            exact HLL.out
          case measure => simp [intOf]; omega
      · go_wp2
        go_roundw
        case rel =>
          refine ⟨j + 1, ll, by omega, by go_num, rfl, ?_, HBR⟩
          rw [HS.out, lastT_snoc, if_neg (fun x => ht x.1)]
          exact HLL.out
        case measure => simp [intOf]; omega
    · obtain rfl : j = ln := by omega
      go_wp2
      go_ret
      refine ⟨?_, HBR.out⟩
      have h1 := HLL.out
      rw [HN.out, ← msR_len, List.take_length] at h1
      rw [h1]
      rfl
end Go.Proofs.Ytohdmmfmjadipaa

/-
  The contract of txn.Plan: all records that take a transaction back.
-/
namespace Go.Proofs.Ytohdmmfmjadipaa
open Go.RowKit
set_option linter.unusedVariables false

/-- Its cells, letter by letter. -/
def clrCells (t : Int) (c : Ch) (q : Nat) : Array Value := #[.int .i64 2, .int .u64 0, .int .i64 t, .int .u64 0, .int .i64 c.k, .int .i64 c.pg, .int .i64 c.sl, .string c.o, .string c.n, .int .u64 (q : Int), .int .i64 0, .int .u64 0, .slice none 0 0, .slice none 0 0]
theorem clr_cells (l : List Rec) (r : Rec) : rcF (bareM (clrOf l r)) = clrCells r.t (invC r.c) (nextT l r.p) := rfl
/-- A plan that is being made: what there is, and what is still to come. -/
structure Pl (w wr : World) (l : List Rec) (all : List Rec) (u : Nat) (v : Value) (j : Nat) (ps : List Rec) : Prop where
  all : all = ps ++ planL l j u
  next : nextT l j = j
  own : OwnL wr w.heap.size v ps
  bel : Below w.heap.size w wr
theorem own_lt15 {w : World} {B n sz k : Nat} {e : TypeId} {v : Value} {xs : List Value} (h : w.ownsRow B e sz v n xs) (hk : v.ownBlock = some k) : k < w.heap.size := by
  rcases h.2 with ⟨rfl, _⟩ | ⟨g, cap, cur, rfl, _, h1, _⟩
  · cases hk
  · injection hk with hk
    subst hk
    exact (show RowAt w g e cur from h1).lt
theorem plan_few {l : List Rec} (hl : Rise 0 l) (u : Nat) : ∀ (f n : Nat), n ≤ f → nextT l n = n → (planL l n u).length ≤ l.length := by
  intro f
  induction l using snoc_ind generalizing f with
  | h0 => intro n _ _; rw [planL_nil]; exact Nat.zero_le _
  | h1 l s ih =>
    intro n hn h
    obtain ⟨h1, h2, h3⟩ := rise_last15 hl
    rw [planL_snoc, List.length_append, List.length_singleton]
    by_cases e : s.l = n
    · rw [if_pos e]
      by_cases hu : u < n ∧ s.k = 1
      · rw [if_pos hu, List.length_cons]
        have := ih h1 (nextT l s.p) _ (Nat.le_refl _) (nextT_again h1 s.p)
        omega
      · rw [if_neg hu]
        exact Nat.zero_le _
    · rw [if_neg e]
      rw [nextT_snoc, if_neg e] at h
      have := ih h1 f n hn h
      omega
set_option maxRecDepth 8000 in
set_option maxHeartbeats 3200000 in
theorem Plan15 (v : Value) (ms : List (Rec × Value × Value)) (t : Int) (u : Nat) (w : World) (h : LogIn w v ms) :
    Calls Try.prog 21 #[v, .int .i64 t, .int .u64 (u : Int)] w fun e w' => ((Rise 0 (msR ms) ∧ ∃ vp, e = .returned (.tuple #[vp, .int .i64 0]) ∧ OwnL w' w.heap.size vp (planT (msR ms) t u)) ∨ (¬ Rise 0 (msR ms) ∧ e = .returned (.tuple #[.slice none 0 0, .int .i64 2]))) ∧ Below w.heap.size w w' := by
  have HG := hide (good15 v ms w h)
  have HA := hide h
  obtain ⟨aa, ca, rfl, hlc⟩ := h.slice
  have hl := h.few
  clear h
  by_cases hr : Rise 0 (msR ms)
  · rw [(riseB_iff _ _).2 hr] at HG
    have HR := hide hr
    have HF := hide (fun n x (hx : Below w.heap.size w x) => find15 _ ms n x (HA.out.below hx) hr)
    have HC := hide (fun i x (hx : Below w.heap.size w x) (hi : i < ms.length) => clr15 _ ms i x (HA.out.below hx) hr hi)
    have HL := hide (fun x (hx : Below w.heap.size w x) => last15 _ ms t x (HA.out.below hx))
    have HX := hide (fun n x (hx : Below w.heap.size w x) => next15 _ ms n x (HA.out.below hx) hr)
    clear hr
    have HLL := hide hl
    obtain ⟨ln, hln⟩ : ∃ ln, ln = ms.length := ⟨_, rfl⟩
    rw [← hln] at HA HF HC HG HL HX hl hlc ⊢
    have HN := hide hln
    clear hln
    obtain ⟨all, hall⟩ : ∃ all, all = planT (msR ms) t u := ⟨_, rfl⟩
    rw [← hall]
    have HALL := hide hall
    clear hall
    go_enter Try.func21, Try.ntmps21
    go_wp2_with fail
    refine HG.out.mono ?_
    rintro e w1 ⟨rfl, hb1⟩
    have H1 := hide hb1
    clear hb1 HG
    go_wp2_with fail
    refine (HL.out w1 H1.out).mono ?_
    rintro e w2 ⟨rfl, hb2⟩
    have H2 := hide (H1.out.trans (hb2.mono H1.out.size))
    clear hb2 H1 HL
    go_wp2_with fail
    refine (HX.out _ w2 H2.out).mono ?_
    rintro e w3 ⟨rfl, hb3⟩
    have H3 := hide (H2.out.trans (hb3.mono H2.out.size))
    clear hb3 H2 HX
    have H0 : Hid (Pl w w3 (msR ms) all u (.slice none 0 0) (nextT (msR ms) (lastT (msR ms) t)) []) := ⟨by rw [HALL.out]; rfl, nextT_again HR.out _, OwnL.nil _ _, H3.out⟩
    have HAL : Hid (all.length ≤ 1000) := by
      have h1 := plan_few HR.out u _ (nextT (msR ms) (lastT (msR ms) t)) (Nat.le_refl _) (nextT_again HR.out _)
      rw [msR_len] at h1
      have h2 := HLL.out
      show all.length ≤ 1000
      rw [HALL.out]
      unfold planT
      omega
    generalize nextT (msR ms) (lastT (msR ms) t) = n0 at *
    clear H3 HLL
    go_wp2
    go_loopw [8, 9] (fun p n wr => ∃ (j : Nat) (ps : List Rec) (vp : Value), vp = p ∧ n = .int .u64 (j : Int) ∧ Hid (Pl w wr (msR ms) all u vp j ps)) (fun _ n _ => (intOf n).toNat)
    case atStart => exact ⟨n0, [], _, rfl, rfl, H0.out⟩
    case round =>
      obtain ⟨j, ps, vp, rfl, rfl, HP⟩ := hrel
      clear H0
      by_cases hlt : u < j
      · have iu : (u : Int) < (j : Int) := by omega
        rcases planL_next HR.out j u HP.out.next with ⟨h1, _⟩ | ⟨r, hr1, hr2, hr3, _, hr4⟩
        · omega
        · have HE := hide hr4
          have HRM := hide hr1
          have HRR := hide (rise_right _ 0 HR.out r hr1)
          have hless := clr_less HR.out hr1
          rw [hr2] at hless
          have HK := hide hr3
          have HRJ := hide hr2
          clear hr4 hr1 hr2 hr3
          go_wp2_with fail
          refine (HF.out j wr HP.out.bel).mono ?_
          rintro e w4 ⟨i, q, rfl, hcase, hb4⟩
          have H4 := hide (And.intro (HP.out.own.later hb4) (HP.out.bel.trans (hb4.mono HP.out.bel.size)))
          clear hb4
          rcases hcase with ⟨rfl, hi, he⟩ | ⟨rfl, hno⟩
          · have ij : (i : Int) < (ln : Int) := by have := HN.out; omega
            have hir : (ms.getD i rcZ).1 = r := by
              have h1 := msR_mem hi
              have h2 := getT_mem HR.out h1
              have h3 := getT_mem HR.out HRM.out
              rw [he] at h2
              rw [HRJ.out] at h3
              rw [h2] at h3
              injection h3
            have HCC := hide (HC.out i w4 H4.out.2 (by have := HN.out; omega))
            rw [hir] at HCC
            clear he hi hir
            go_wp2_with fail
            refine HCC.out.mono ?_
            rintro e w5 ⟨rfl, hb5⟩
            have hb6 : Below w5.heap.size w5 (w5.alloc (.cells zeroA 30)) := (Below.refl _ _).alloc (Nat.le_refl _) _
            have H5 : Hid (OwnL w5 w.heap.size vp ps ∧ Below w.heap.size w w5 ∧ RowAt (w5.alloc (.cells zeroA 30)) w5.heap.size 30 zeroA ∧ Below w5.heap.size w5 (w5.alloc (.cells zeroA 30))) := by
              have a1 := H4.out.2.trans (hb5.mono H4.out.2.size)
              exact ⟨H4.out.1.later hb5, a1, RowAt.new w5 _ _, hb6⟩
            clear hb5 hb6 H4 HCC
            have HB : Hid (rcF (clrM (msR ms) r) = clrCells r.t (invC r.c) (nextT (msR ms) r.p) ∧ (clrOf (msR ms) r).n = nextT (msR ms) r.p ∧ (clrOf (msR ms) r).bare) := ⟨rfl, rfl, clr_bare HRR.out HK.out⟩
            rw [HB.out.1]
            have hlq : nextT (msR ms) r.p < j := by rw [← HB.out.2.1]; exact hless
            generalize nextT (msR ms) r.p = q at *
            generalize invC r.c = c at *
            generalize r.t = tt at *
            have hps : ps.length ≤ 1000 := by
              have h1 := HAL.out
              rw [HP.out.all, List.length_append] at h1
              omega
            go_wp2_with (refine wpList_store_at rfl 30 (.tmp 12) (.tmp 32) rfl w5.heap.size zeroA (clrCells tt c q) rfl rfl H5.out.2.2.1 infoRc rfl (by simp [clrCells, Value.oneCell']) ?_; intro w6 hr6 hk6 hrow6; refine stop10 ?_)
            have hb6 := hk6 _ _ H5.out.2.2.2 (Nat.le_refl _)
            obtain ⟨g5, hg5⟩ : ∃ g, g = w5.heap.size := ⟨_, rfl⟩
            have H6 : Hid (OwnL w6 w.heap.size vp ps ∧ Below w.heap.size w w6 ∧ RowAt w6 g5 30 (clrCells tt c q) ∧ ∀ k, vp.ownBlock = some k → k ≠ g5) := by
              rw [hg5]
              exact ⟨H5.out.1.later hb6, H5.out.2.1.trans (hb6.mono H5.out.2.1.size), hr6, fun k hk => by have := own_lt15 H5.out.1.1 hk; omega⟩
            rw [← hg5]
            clear hr6 hk6 hrow6 hb6 H5 hg5
            refine unstop10 ?_
            go_wp2_with (first | (refine wpList_load_at rfl 30 (.tmp 12) rfl g5 rfl #[.int .i64 2, .int .u64 0, .int .i64 tt, .int .u64 0, .int .i64 c.k, .int .i64 c.pg, .int .i64 c.sl, .string c.o, .string c.n, .int .u64 (q : Int), .int .i64 0, .int .u64 0, .slice none 0 0, .slice none 0 0] H6.out.2.2.1 _ Try.underlying30 rfl infoRc ?_) | (refine wpList_append_one _ 22 30 14 160 (.agg zeroA) Try.underlying22 infoRc3 rfl (by decide) (by decide) rfl (.tmp 33) (.tmp 35) rfl w.heap.size vp ps.length (flatR (bareMs ps)) rfl (ow_later H6.out.1.1 ((Below.refl w6.heap.size w6).alloc (Nat.le_refl _) _)) w6.heap.size #[.int .i64 2, .int .u64 0, .int .i64 tt, .int .u64 0, .int .i64 c.k, .int .i64 c.pg, .int .i64 c.sl, .string c.o, .string c.n, .int .u64 (q : Int), .int .i64 0, .int .u64 0, .slice none 0 0, .slice none 0 0] rfl (RowAt.new w6 30 #[.int .i64 2, .int .u64 0, .int .i64 tt, .int .u64 0, .int .i64 c.k, .int .i64 c.pg, .int .i64 c.sl, .string c.o, .string c.n, .int .u64 (q : Int), .int .i64 0, .int .u64 0, .slice none 0 0, .slice none 0 0]) rfl (by simp [Value.oneCell']) hps (Nat.le_trans H6.out.2.1.size (by simp)) ?_; intro v' w7 ho7 hg7; refine stop10 ?_))
            have hba : Below w6.heap.size w6 (w6.alloc (.cells #[.int .i64 2, .int .u64 0, .int .i64 tt, .int .u64 0, .int .i64 c.k, .int .i64 c.pg, .int .i64 c.sl, .string c.o, .string c.n, .int .u64 (q : Int), .int .i64 0, .int .u64 0, .slice none 0 0, .slice none 0 0] 30)) := (Below.refl _ _).alloc (Nat.le_refl _) _
            have H7 : Hid (OwnL w7 w.heap.size v' (ps ++ [clrOf (msR ms) r]) ∧ Below w.heap.size w w7 ∧ RowAt w7 g5 30 (clrCells tt c q)) := by
              refine ⟨OwnL.push ?_ H6.out.1.2 HB.out.2.2, ?_, ?_⟩
              · show w7.ownsRow _ _ _ _ _ (_ ++ (rcF (clrM (msR ms) r)).toList)
                rw [HB.out.1]
                exact ho7
              · exact ow_below (ow_later H6.out.1.1 hba) (Nat.le_refl _) (H6.out.2.1.trans (hba.mono H6.out.2.1.size)) (Nat.le_trans H6.out.2.1.size hba.size) hg7
              · have h1 := H6.out.2.2.1.later hba
                exact (hg7.block g5 h1.lt (fun e => H6.out.2.2.2 g5 e.symm rfl)).trans h1
            clear ho7 hg7 hba H6
            refine unstop10 ?_
            have c9 := H7.out.2.2.cell 9 (.int .u64 (q : Int)) rfl
            go_wp2
            go_roundw
            case rel =>
              refine ⟨q, ps ++ [clrOf (msR ms) r], v', rfl, rfl, ⟨?_, ?_, H7.out.1, H7.out.2.1⟩⟩
              · rw [HP.out.all, HE.out, HB.out.2.1, List.append_assoc]
                rfl
              · rw [← HB.out.2.1]
                exact clr_again HR.out r
            case measure => simp [intOf] <;> omega
          · exact absurd HRJ.out (hno r HRM.out)
      · have iu : ¬ (u : Int) < (j : Int) := by omega
        go_wp2
        go_ret2
        refine ⟨.inl ⟨HR.out, vp, rfl, ?_⟩, HP.out.bel⟩
        have h1 := HP.out.all
        rcases planL_next HR.out j u HP.out.next with ⟨_, h2⟩ | ⟨r, _, _, _, h3, _⟩
        · rw [h2, List.append_nil] at h1
          rw [h1]
          exact HP.out.own
        · omega
  · rw [riseB_no hr] at HG
    have HR := hide hr
    clear hr
    obtain ⟨ln, hln⟩ : ∃ ln, ln = ms.length := ⟨_, rfl⟩
    rw [← hln] at HA HG hl hlc ⊢
    clear hln
    go_enter Try.func21, Try.ntmps21
    go_wp2_with fail
    refine HG.out.mono ?_
    rintro e w1 ⟨rfl, hb1⟩
    have HB := hide hb1
    clear hb1 HG
    go_wp2
    go_ret2
    exact ⟨.inr ⟨HR.out, rfl⟩, HB.out⟩
end Go.Proofs.Ytohdmmfmjadipaa

/-
  The contract of quaysidelaw15.awake.
-/
namespace Go.Proofs.Ytohdmmfmjadipaa
open Go.RowKit
set_option linter.unusedVariables false

def awC15 : Ch := ⟨1, 0, 0, ⟨#[]⟩, ⟨#[97]⟩⟩
def awR15 : Rec := ⟨1, 3, 1, 0, awC15, 0, 0, 0, [], []⟩
def awS15 : Rec := ⟨6, 4, 1, 3, Ch.zero, 0, 1, 0, [], []⟩
theorem awC15_right : awC15.right := ⟨by decide, .inl ⟨rfl, rfl⟩⟩
theorem awR15_right : awR15.right := by
  refine ⟨by decide, by decide, by decide, by decide, fun _ => by decide, fun h => absurd h (by decide), fun _ => awC15_right, fun h => absurd h (by decide), fun h => absurd h (by decide), fun _ => rfl, fun h => absurd h (by decide), fun _ => rfl, fun h => absurd h (by decide), fun _ => ⟨rfl, rfl, rfl⟩⟩
theorem awS15_right : awS15.right := by
  refine ⟨by decide, by decide, by decide, by decide, fun _ => by decide, fun h => absurd h (by decide), fun h => absurd h (by decide), fun _ => rfl, fun h => absurd h (by decide), fun _ => rfl, fun _ => by decide, fun h => absurd rfl h, fun h => absurd h (by decide), fun _ => ⟨rfl, rfl, rfl⟩⟩
def awL15 : List Rec := [awR15, awS15]
theorem awL15_rise : Rise 0 awL15 := ⟨awR15_right, by decide, awS15_right, by decide, trivial⟩
theorem awL15_next : nextT awL15 4 = 3 := by simp [nextT, awL15, nextR, awR15, awS15]
theorem awL15_last : lastT awL15 1 = 4 := by simp [lastT, awL15, awR15, awS15]
theorem awL15_plan : planT awL15 1 0 = [clrOf [] awR15] := by
  unfold planT
  rw [awL15_last, awL15_next]
  simp [planL, planR, awL15, awR15, awS15]
theorem rec_fits15 {r : Rec} (h : r.c.fits) (h1 : r.ts = []) (h2 : r.ds = []) : r.fits := by
  refine ⟨h, by rw [h1]; exact Nat.zero_le _, by rw [h2]; exact Nat.zero_le _, fun x hx => ?_, fun x hx => ?_⟩
  · rw [h1] at hx
    cases hx
  · rw [h2] at hx
    cases hx
def awA15 : Array Value := #[.int .i64 1, .int .u64 3, .int .i64 1, .int .u64 0, .int .i64 1, .int .i64 0, .int .i64 0, .string ⟨#[]⟩, .string ⟨#[97]⟩, .int .u64 0, .int .i64 0, .int .u64 0, .slice none 0 0, .slice none 0 0,
  .int .i64 6, .int .u64 4, .int .i64 1, .int .u64 3, .int .i64 0, .int .i64 0, .int .i64 0, .string ⟨#[]⟩, .string ⟨#[]⟩, .int .u64 0, .int .i64 1, .int .u64 0, .slice none 0 0, .slice none 0 0]
theorem awL15_log (x : World) (g : Nat) (h : RowAt x g 30 awA15) : LogIn x (.slice (some ⟨g, 0, none⟩) 2 2) (bareMs awL15) := by
  have b1 : awR15.bare := ⟨rfl, rfl, rec_fits15 (ch_fits15 awC15_right) rfl rfl⟩
  have b2 : awS15.bare := ⟨rfl, rfl, rec_fits15 ⟨by decide, by decide, by decide, by show (0 : Nat) ≤ maxLen; omega, by show (0 : Nat) ≤ maxLen; omega⟩ rfl rfl⟩
  refine ⟨⟨⟨some ⟨g, 0, none⟩, 2, rfl, fun _ => ⟨g, 0, rfl, h.lt, fun i hi => ?_⟩⟩, fun m hm => ?_⟩, by decide, fun a l c e => ?_⟩
  · have hi2 : i < 2 := hi
    rcases (show i = 0 ∨ i = 1 by omega) with rfl | rfl
    · intro j u hu
      have hj : j < 14 := (List.getElem?_eq_some_iff.1 hu).1
      refine (h.cell (0 + 0 * 14 + j) u ?_)
      rw [← hu]
      rcases (show j = 0 ∨ j = 1 ∨ j = 2 ∨ j = 3 ∨ j = 4 ∨ j = 5 ∨ j = 6 ∨ j = 7 ∨ j = 8 ∨ j = 9 ∨ j = 10 ∨ j = 11 ∨ j = 12 ∨ j = 13 by omega) with rfl | rfl | rfl | rfl | rfl | rfl | rfl | rfl | rfl | rfl | rfl | rfl | rfl | rfl <;> rfl
    · intro j u hu
      have hj : j < 14 := (List.getElem?_eq_some_iff.1 hu).1
      refine (h.cell (0 + 1 * 14 + j) u ?_)
      rw [← hu]
      rcases (show j = 0 ∨ j = 1 ∨ j = 2 ∨ j = 3 ∨ j = 4 ∨ j = 5 ∨ j = 6 ∨ j = 7 ∨ j = 8 ∨ j = 9 ∨ j = 10 ∨ j = 11 ∨ j = 12 ∨ j = 13 by omega) with rfl | rfl | rfl | rfl | rfl | rfl | rfl | rfl | rfl | rfl | rfl | rfl | rfl | rfl <;> rfl
  · simp only [bareMs, awL15, List.map_cons, List.map_nil, List.mem_cons, List.not_mem_nil, or_false] at hm
    rcases hm with rfl | rfl
    · exact ⟨b1.2.2, bareM_in b1 x⟩
    · exact ⟨b2.2.2, bareM_in b2 x⟩
  · injection e with e1 e2 e3
    omega
/-- The first cell of a list of one's own. -/
theorem own_first15 {w : World} {base : Nat} {v : Value} {r : Rec} (h : OwnL w base v [r]) : ∃ b c, v = .slice (some ⟨b, 0, none⟩) 1 c ∧ w.cell? ⟨b, 0, none⟩ = some (.int .i64 r.k) := by
  obtain ⟨a, c, hv, _, h3⟩ := ow_shape h.1
  obtain ⟨b, rfl, _⟩ := h3 (Nat.zero_lt_succ _)
  have h4 := h.rs
  rw [hv] at h4
  obtain ⟨b', off, h5, _, h6, _⟩ := h4.at (i := 0) (Nat.zero_lt_succ _)
  injection h5 with h5
  injection h5 with h5 h7
  subst h5 h7
  exact ⟨b, c, hv, h6 0 _ rfl⟩
set_option maxRecDepth 8000 in
set_option maxHeartbeats 3200000 in
theorem awake15 (w : World) : Calls Try.prog 9 #[] w fun e w' => e = .returned (.bool true) ∧ Below w.heap.size w w' := by
  have hb0 : Below w.heap.size w (w.alloc (.cells (chA Ch.zero) 26)) := (Below.refl _ _).alloc (Nat.le_refl _) _
  have HZ := hide (And.intro (RowAt.new w 26 (chA Ch.zero)) hb0)
  have HNX := hide (fun x g (h : RowAt x g 30 awA15) => Next15 _ _ 4 x (awL15_log x g h))
  have HPL := hide (fun x g (h : RowAt x g 30 awA15) => Plan15 _ _ 1 0 x (awL15_log x g h))
  have HGO := hide (fun x g (h : RowAt x g 30 awA15) => good15 _ _ x (awL15_log x g h))
  rw [bareMs_R, awL15_next] at HNX
  rw [bareMs_R, awL15_plan] at HPL
  rw [bareMs_R, (riseB_iff _ _).2 awL15_rise] at HGO
  clear hb0
  go_enter Try.func9, Try.ntmps9
  go_wp2_with (refine wpList_store_at rfl 26 (.tmp 1) (.tmp 7) rfl w.heap.size (chA Ch.zero) (chA awC15) rfl rfl HZ.out.1 infoCh rfl (chA_one _) ?_; intro w2 hr2 hk2 hrow2; refine stop10 ?_)
  have hb2 := hk2 _ _ HZ.out.2 (Nat.le_refl _)
  have H2 := hide (And.intro hr2 hb2)
  clear hr2 hk2 hrow2 hb2 HZ
  refine unstop10 ?_
  go_wp2_with (refine wpList_load_at rfl 26 (.tmp 1) rfl w.heap.size rfl #[.int .i64 1, .int .i64 0, .int .i64 0, .string ⟨#[]⟩, .string ⟨#[97]⟩] H2.out.1 _ Try.underlying26 rfl infoCh ?_)
  have hb3 : Below w2.heap.size w2 (w2.alloc (.cells awA15 30)) := (Below.refl _ _).alloc (Nat.le_refl _) _
  obtain ⟨g, hg⟩ : ∃ g, g = w2.heap.size := ⟨_, rfl⟩
  have H3 : Hid (RowAt (w2.alloc (.cells awA15 30)) g 30 awA15 ∧ Below w.heap.size w (w2.alloc (.cells awA15 30))) := by
    rw [hg]
    exact ⟨RowAt.new w2 _ _, H2.out.2.trans (hb3.mono H2.out.2.size)⟩
  rw [← hg]
  clear hb3 hg H2
  refine gen_calls (fun x => RowAt x g 30 awA15 ∧ Below w.heap.size w x) H3.out ?_
  intro y HY
  have HYY := hide HY
  clear HY H3
  refine (HNX.out y g HYY.out.1).mono ?_
  rintro e w4 ⟨hcase, hb4⟩
  obtain rfl : e = .returned (.tuple #[.int .u64 3, .int .i64 0]) := by
    rcases hcase with ⟨_, h1⟩ | ⟨h1, _⟩
    · exact h1
    · exact absurd awL15_rise h1
  have H4 := hide (And.intro (HYY.out.1.later hb4) (HYY.out.2.trans (hb4.mono HYY.out.2.size)))
  clear hcase hb4 HYY HNX
  go_wp2_with fail
  refine (HPL.out w4 g H4.out.1).mono ?_
  rintro e w5 ⟨hcase, hb5⟩
  obtain ⟨vp, rfl, hown⟩ : ∃ vp, e = .returned (.tuple #[vp, .int .i64 0]) ∧ OwnL w5 w4.heap.size vp [clrOf [] awR15] := by
    rcases hcase with ⟨_, h1⟩ | ⟨h1, _⟩
    · exact h1
    · exact absurd awL15_rise h1
  have H5 := hide (And.intro (H4.out.1.later hb5) (H4.out.2.trans (hb5.mono H4.out.2.size)))
  obtain ⟨b, c, rfl, hc0⟩ := own_first15 hown
  have hc1 : w5.cell? ⟨b, 0, none⟩ = some (.int .i64 2) := hc0
  clear hcase hb5 H4 HPL hown hc0
  go_wp2_with fail
  refine (HGO.out w5 g H5.out.1).mono ?_
  rintro e w6 ⟨rfl, hb6⟩
  have HB6 := hide (H5.out.2.trans (hb6.mono H5.out.2.size))
  clear hb6 H5 HGO hc1
  go_wp2
  go_ret
  exact ⟨rfl, HB6.out⟩
end Go.Proofs.Ytohdmmfmjadipaa

/-
  A plan as far as a number is the first part of the whole plan. Of no program.
-/
namespace Go.Proofs.Ytohdmmfmjadipaa
open Go.RowKit
set_option linter.unusedVariables false

/-- Where a plan stands behind its first i records. -/
def atOf (n : Nat) (p : List Rec) (i : Nat) : Nat := if i = 0 then n else (p.getD (i - 1) Rec.zero).n
theorem atOf_zero (n : Nat) (p : List Rec) : atOf n p 0 = n := rfl
theorem atOf_next (n : Nat) (p : List Rec) (i : Nat) : atOf n p (i + 1) = (p.getD i Rec.zero).n := rfl
theorem atOf_cons (n : Nat) (c : Rec) (p : List Rec) (i : Nat) : atOf n (c :: p) (i + 1) = atOf c.n p i := by
  cases i with
  | zero => rfl
  | succ i => rfl
structure Part15 (n u : Nat) (p q : List Rec) : Prop where
  pre : q = p.take q.length
  len : q.length ≤ p.length
  le : ∀ i, i ≤ p.length → atOf n p i ≤ n
  pos : ∀ i, i < p.length → atOf n p i ≠ 0
  cut : ∀ i, i < p.length → (u < atOf n p i ↔ i < q.length)
  fin : atOf n p p.length = 0
theorem parts15 {l : List Rec} (hl : Rise 0 l) (u : Nat) : ∀ f n, n ≤ f → nextT l n = n → Part15 n u (planL l n 0) (planL l n u) := by
  intro f
  induction f with
  | zero =>
    intro n hn _
    obtain rfl : n = 0 := by omega
    rw [planL_zero hl, planL_zero hl]
    exact ⟨rfl, Nat.le_refl _, fun i hi => by have : i = 0 := by simpa using hi
                                              rw [this]; exact Nat.le_refl _, fun i hi => absurd hi (by simp), fun i hi => absurd hi (by simp), rfl⟩
  | succ f ih =>
    intro n hn hx
    rcases planL_next hl n 0 hx with ⟨h0, e⟩ | ⟨r, hr, h2, h3, h4, e⟩
    · obtain rfl : n = 0 := by omega
      rw [planL_zero hl, planL_zero hl]
      exact ⟨rfl, Nat.le_refl _, fun i hi => by have : i = 0 := by simpa using hi
                                                rw [this]; exact Nat.le_refl _, fun i hi => absurd hi (by simp), fun i hi => absurd hi (by simp), rfl⟩
    · have hless := clr_less hl hr
      have P := ih (clrOf l r).n (by omega) (clr_again hl r)
      rw [e]
      obtain ⟨c, hc⟩ : ∃ c, c = clrOf l r := ⟨_, rfl⟩
      rw [← hc] at P hless ⊢
      obtain ⟨p, hp⟩ : ∃ p, p = planL l c.n 0 := ⟨_, rfl⟩
      rw [← hp] at P ⊢
      have le : ∀ i, i ≤ (c :: p).length → atOf n (c :: p) i ≤ n := fun i hi => by
        cases i with
        | zero => exact Nat.le_refl _
        | succ i =>
          rw [atOf_cons]
          have := P.le i (by rw [List.length_cons] at hi; omega)
          omega
      have pos : ∀ i, i < (c :: p).length → atOf n (c :: p) i ≠ 0 := fun i hi => by
        cases i with
        | zero =>
          show n ≠ 0
          omega
        | succ i =>
          rw [atOf_cons]
          exact P.pos i (by rw [List.length_cons] at hi; omega)
      have fin : atOf n (c :: p) (c :: p).length = 0 := by
        rw [List.length_cons, atOf_cons]
        exact P.fin
      rcases planL_next hl n u hx with ⟨h5, e2⟩ | ⟨r2, hr2, h6, h7, h8, e2⟩
      · rw [e2]
        refine ⟨rfl, Nat.zero_le _, le, pos, fun i hi => ?_, fin⟩
        have := le i (by omega)
        constructor
        · intro h
          omega
        · intro h
          exact absurd h (by simp)
      · have hrr : r2 = r := by
          have a := getT_mem hl hr
          rw [h2, ← h6, getT_mem hl hr2] at a
          injection a
        rw [hrr, ← hc] at e2
        rw [e2]
        refine ⟨?_, ?_, le, pos, fun i hi => ?_, fin⟩
        · rw [List.length_cons, List.take_succ_cons, ← P.pre]
        · rw [List.length_cons, List.length_cons]
          have := P.len
          omega
        · cases i with
          | zero =>
            rw [atOf_zero, List.length_cons]
            constructor
            · intro _
              omega
            · intro _
              exact h8
          | succ i =>
            rw [atOf_cons, List.length_cons]
            have := P.cut i (by rw [List.length_cons] at hi; omega)
            constructor
            · intro h
              have := this.1 h
              omega
            · intro h
              exact this.2 (by omega)
end Go.Proofs.Ytohdmmfmjadipaa

/-
  How long a slice of a bounded bulk is.
-/
namespace Go.Proofs.Ytohdmmfmjadipaa
open Go.ChangeShapes Go.WideShapes Go.ChangeAt Go.RowKit Go.Deep Go.Joins
set_option linter.unusedVariables false

section
variable {H : Type}
theorem bulk_pos (d : DataW H) : 1 ≤ Rows.uptoBulk d := by
  cases d with
  | lit l => cases l <;> simp [Rows.uptoBulk]
  | _ => simp [Rows.uptoBulk]
theorem bulk_all : ∀ (l : List (DataW H)), l.length ≤ Rows.uptoBulkAll l
  | [] => by simp
  | d :: l => by
    have h1 := bulk_pos d
    have h2 := bulk_all l
    simp only [Rows.uptoBulkAll, List.length_cons]
    omega
theorem SlForm.small {d : DataW H} {len cap : Nat} (h : SlForm d len cap) : len ≤ Rows.uptoBulk d := by
  rcases h with ⟨_, rfl, _⟩ | ⟨es, sp, rfl, h1, h2⟩
  · omega
  · have := bulk_all es
    simp only [Rows.uptoBulk]
    omega
end
end Go.Proofs.Ytohdmmfmjadipaa

/-
  A list of records as an argument, opened.
-/
namespace Go.Proofs.Ytohdmmfmjadipaa
open Go.ChangeShapes Go.WideShapes Go.ChangeAt Go.RowKit Go.Deep Go.Joins
set_option linter.unusedVariables false

section
variable {H : Type} {enc : TypeId × Value → H} {W : World}

set_option maxRecDepth 40000 in
theorem recs_form {v : Value} {d : DataW H} {p : List MemPlace} {r : Reach} {b0 : Nat} (hv : Value.okWide Try.prog W r b0 22 v) (h : DataW.Trod enc Try.prog W 0 (fun _ => true) true 22 v d p) : ∃ a len cap, v = .slice a len cap ∧ SlForm d len cap ∧ len ≤ cap ∧ (a = none → cap = 0) := by
  obtain ⟨a, len, cap, f, h1, h2, h3, h4, _, _⟩ := @open_rows H enc Try.prog W (Rec × Value × Value) ⟨rcZ⟩ 22 30 14 v d p r b0 (fun m k => (rcF m).toList.getD k (.bool false)) (fun _ => True) (fun n cs y hy => by
    obtain ⟨m, rfl, _⟩ := elem_rec n cs y hy
    refine ⟨m, trivial, fun k hk => ?_⟩
    rw [List.getD_eq_getElem?_getD, List.getElem?_eq_getElem (by rw [Array.length_toList]; exact hk)]
    rfl) Try.underlying22 (by kernel_rfl) (by decide) hv h
  exact ⟨a, len, cap, h1, h2, h3, h4⟩
set_option maxRecDepth 40000 in
theorem op_recs_arg {v : Value} {d : DataW H} {p : List MemPlace} {r : Reach} {b0 : Nat} (hv : Value.okWide Try.prog W r b0 22 v) (h : DataW.Trod enc Try.prog W 0 (fun _ => true) true 22 v d p) :
    ∃ ms : List (Rec × Value × Value), RsIn W v ms ∧ ms.length ≤ maxLen ∧ ∀ a len cap, v = .slice a len cap → len ≤ cap := by
  obtain ⟨a, len, cap, rfl, _, hc, _⟩ := recs_form hv h
  obtain ⟨fuel, hf⟩ := h
  have hf2 : DataW.trod enc Try.prog W 0 (fun _ => true) true fuel 22 [.slice a len cap] = some (d, p) := hf
  obtain ⟨ms, h1, h2, h3⟩ := op_recs Try.underlying22 hf2
  refine ⟨ms, ⟨h1, h3⟩, h2, fun a' l' c' e => ?_⟩
  injection e with e1 e2 e3
  omega
set_option maxRecDepth 40000 in
/-- With a bound by the list's bulk. -/
theorem op_recs_few {v : Value} {d : DataW H} {p : List MemPlace} {r : Reach} {b0 N : Nat} (hv : Value.okWide Try.prog W r b0 22 v) (h : DataW.Trod enc Try.prog W 0 (fun _ => true) true 22 v d p) (hs : ∀ len cap, SlForm d len cap → len ≤ N) :
    ∃ ms : List (Rec × Value × Value), RsIn W v ms ∧ ms.length ≤ N ∧ ∀ a len cap, v = .slice a len cap → len ≤ cap ∧ (a = none → cap = 0) := by
  obtain ⟨a, len, cap, rfl, hsl, hc, hnl⟩ := recs_form hv h
  obtain ⟨fuel, hf⟩ := h
  have hf2 : DataW.trod enc Try.prog W 0 (fun _ => true) true fuel 22 [.slice a len cap] = some (d, p) := hf
  obtain ⟨ms, h1, h2, h3⟩ := op_recs Try.underlying22 hf2
  have hl : ms.length = len := by
    obtain ⟨a', c', e, _⟩ := h1
    injection e with e1 e2 e3
    exact e2.symm
  refine ⟨ms, ⟨h1, h3⟩, by rw [hl]; exact hs _ _ hsl, fun a' l' c' e => ?_⟩
  injection e with e1 e2 e3
  subst e1 e2 e3
  exact ⟨hc, hnl⟩
end
end Go.Proofs.Ytohdmmfmjadipaa

/-
  A row of records behind another, in a row of one's own.
-/
namespace Go.Proofs.Ytohdmmfmjadipaa
open Go.RowKit
set_option linter.unusedVariables false

theorem bareMs_append (a b : List Rec) : bareMs (a ++ b) = bareMs a ++ bareMs b := by unfold bareMs; rw [List.map_append]
theorem flat_one15 (l : List Rec) : ∀ u ∈ flatR (bareMs l), u.oneCell' = true := by
  intro u hu
  unfold flatR bareMs at hu
  rw [List.mem_flatMap] at hu
  obtain ⟨m, hm, hu⟩ := hu
  obtain ⟨r, _, rfl⟩ := List.mem_map.1 hm
  have h1 : (rcF (bareM r)).all (·.oneCell') = true := by simp [rcF, rcA, bareM, Value.oneCell']
  rw [Array.all_eq_true'] at h1
  exact h1 u (by simpa using hu)
theorem flat_len15 (l : List Rec) : (flatR (bareMs l)).length = l.length * 14 := by
  induction l using snoc_ind with
  | h0 => rfl
  | h1 l s ih =>
    rw [bareMs_snoc, flatR_snoc15, List.length_append, ih, List.length_append, List.length_singleton, Nat.add_mul]
    rfl
theorem OwnL.join {B B2 : Nat} {y : World} {v v2 : Value} {l l2 : List Rec} (h : OwnL y B v l) (h2 : OwnL y B2 v2 l2) (hB : B ≤ y.heap.size) (hl : l.length + l2.length ≤ 2000) (ty : TypeId) :
    ∃ v' y', (Builtin.append_ #[22, 22] ty #[v, v2]).run Try.prog y = .ok v' y' ∧ OwnL y' B v' (l ++ l2) ∧ Tn (fun k => v.ownBlock = some k) y y' := by
  obtain ⟨i, hi0, hi1⟩ := Option.map_eq_some_iff.1 infoRc3
  simp only [Prod.mk.injEq] at hi1
  rcases h2.1.2 with ⟨rfl, h0⟩ | ⟨g2, cap2, cur2, rfl, hb2, hr2, hn2, hm2, hs2, ht2⟩
  · obtain rfl := List.eq_nil_of_length_eq_zero h0
    rw [List.append_nil]
    refine ⟨v, y, ?_, h, Tn.refl _ _⟩
    rcases h.1.2 with ⟨rfl, _⟩ | ⟨g', cap, cur, rfl, hb, hr, hn, _⟩
    · simp [Builtin.append_, run_underlying (P := Try.prog) Try.underlying22, sizeOf, typeInfo, hi0, Builtin.lenOf, Builtin.firstCells]
    · simp [Builtin.append_, run_underlying (P := Try.prog) Try.underlying22, sizeOf, typeInfo, hi0, Builtin.lenOf, Builtin.firstCells, hn, storeCells]
  · have hr2' : RowAt y g2 30 cur2 := hr2
    obtain ⟨v', y', r1, r2, r3, _⟩ := run_append_own_at (P := Try.prog) (w := y) B 22 ty 30 i (.agg zeroA) 14 160 Try.underlying22 hi0 hi1.1 hi1.2.1 hi1.2.2 rfl (by omega) v l.length (flatR (bareMs l)) h.1 ⟨g2, 0, none⟩ l2.length cap2 (flatR (bareMs l2)) (flat_len15 l2) (fun j u hu => by
      rw [Addr.add_lit, Nat.zero_add]
      refine hr2'.cell j u ?_
      rw [← ht2, List.getElem?_take] at hu
      split at hu
      · rwa [Array.getElem?_toList] at hu
      · cases hu) (flat_one15 l2) (by unfold maxLen; omega) (by omega) hB
    refine ⟨v', y', r1, ⟨?_, fun r hr => ?_⟩, Tn.of_grown r3 (fun k hk => hk)⟩
    · rw [List.length_append, bareMs_append, flatR_append]
      exact r2
    · rcases List.mem_append.1 hr with hr | hr
      · exact h.2 r hr
      · exact h2.2 r hr
end Go.Proofs.Ytohdmmfmjadipaa

/-
  A log with the first records of a transaction's plan behind it. Of no program.
-/
namespace Go.Proofs.Ytohdmmfmjadipaa
open Go.RowKit
set_option linter.unusedVariables false

def bhR (out : List Rec) (r : Rec) : Rec := ⟨r.k, lastL 0 out + 1, r.t, lastT out r.t, r.c, r.n, r.s, r.b, r.ts, r.ds⟩
def behR (l p : List Rec) (k : Nat) : List Rec := (p.take k).foldl (fun o r => o ++ [bhR o r]) l
theorem behR_zero (l p : List Rec) : behR l p 0 = l := rfl
theorem behR_next (l p : List Rec) (k : Nat) (h : k < p.length) : behR l p (k + 1) = behR l p k ++ [bhR (behR l p k) (p.getD k Rec.zero)] := by
  unfold behR
  rw [List.take_add_one, List.getElem?_eq_getElem h, List.getD_eq_getElem?_getD, List.getElem?_eq_getElem h, List.foldl_append]
  rfl
theorem lastL_snoc15 : ∀ (l : List Rec) (a : Nat) (e : Rec), lastL a (l ++ [e]) = e.l
  | [], _, _ => rfl
  | r :: l, _, e => lastL_snoc15 l r.l e
theorem lastT_most {l : List Rec} (hl : Rise 0 l) (t : Int) : lastT l t ≤ lastL 0 l := by
  rcases lastT_is l t with h | ⟨r, h1, h2, _⟩
  · omega
  · have := (rise_mem15 l 0 hl r h1).2
    omega
theorem behR_len (l p : List Rec) : ∀ k, k ≤ p.length → (behR l p k).length = l.length + k
  | 0, _ => rfl
  | k + 1, h => by rw [behR_next l p k (by omega), List.length_append, List.length_singleton, behR_len l p k (by omega)]; omega
structure Beh (l p : List Rec) (t : Int) (k n : Nat) : Prop where
  rise : Rise 0 (behR l p k)
  same : ∀ m, m ≤ lastL 0 l → nextT (behR l p k) m = nextT l m ∧ planL (behR l p k) m 0 = planL l m 0
  from' : lastL 0 l ≤ lastL 0 (behR l p k)
  to : lastL 0 (behR l p k) ≤ lastL 0 l + k
  next : nextT (behR l p k) (lastT (behR l p k) t) = n
  at' : n ≤ lastL 0 l
  still : nextT l n = n
  link : Linked l t n
  rest : planL l n 0 = p.drop k
theorem beh15 {l : List Rec} (hl : Rise 0 l) (ch : ∀ r ∈ l, Linked l r.t r.p ∧ Linked l r.t r.n) (hm : lastL 0 l ≤ 100000) (t : Int) (ht : 1 ≤ t) : ∀ k, k ≤ (planT l t 0).length → k ≤ 100000 → ∃ n, Beh l (planT l t 0) t k n := by
  obtain ⟨p, hp⟩ : ∃ p, p = planT l t 0 := ⟨_, rfl⟩
  rw [← hp]
  intro k
  induction k with
  | zero =>
    intro _ _
    have a : Linked l t (lastT l t) := by
      rcases lastT_is l t with h4 | ⟨q, h4, h5, h6, _⟩
      · exact .inl h4
      · exact .inr ⟨q, h4, h5, h6⟩
    have b := lastT_most hl t
    have c := nextT_le hl (lastT l t)
    exact ⟨nextT l (lastT l t), hl, fun m _ => ⟨rfl, rfl⟩, Nat.le_refl _, Nat.le_refl _, rfl, by omega, nextT_again hl _, nextT_linked hl ch t _ _ (Nat.le_refl _) a, by rw [hp]; rfl⟩
  | succ k ih =>
    intro hk hk2
    obtain ⟨n, B⟩ := ih (by omega) (by omega)
    have hd : p.drop k = p.getD k Rec.zero :: p.drop (k + 1) := by
      rw [List.drop_eq_getElem_cons (show k < p.length by omega), List.getD_eq_getElem?_getD, List.getElem?_eq_getElem (show k < p.length by omega)]
      rfl
    have hrest := B.rest
    rcases planL_next hl n 0 B.still with ⟨_, e⟩ | ⟨r, hr, h2, h3, h4, e⟩
    · rw [e, hd] at hrest
      exact absurd hrest (by simp)
    rw [e, hd] at hrest
    injection hrest with q1 q2
    have hrR := rise_right _ 0 hl r hr
    have hrt : r.t = t := by
      rcases B.link with h5 | ⟨q, h5, h6, h7⟩
      · omega
      · have a := getT_mem hl hr
        rw [h2, ← h6, getT_mem hl h5] at a
        injection a with a
        rw [← a]
        exact h7
    have hless := clr_less hl hr
    have hrl := (rise_mem15 l 0 hl r hr).2
    have hcn : nextT l (clrOf l r).n = (clrOf l r).n := clr_again hl r
    obtain ⟨m, hmm⟩ : ∃ m, m = (clrOf l r).n := ⟨_, rfl⟩
    have hlink : Linked l t m := by
      have a := nextT_linked hl ch r.t _ _ (Nat.le_refl _) (ch r hr).1
      rw [hrt] at a
      rw [hmm]
      exact a
    rw [← hmm] at hless hcn q2
    obtain ⟨out, hout⟩ : ∃ o, o = behR l p k := ⟨_, rfl⟩
    have hnext := behR_next l p k (by omega)
    have B1 := B.rise
    have B2 := B.same
    have B3 := B.from'
    have B4 := B.to
    rw [← hout] at hnext B1 B2 B3 B4
    obtain ⟨L, hL⟩ : ∃ L, L = lastL 0 out + 1 := ⟨_, rfl⟩
    have he : bhR out (p.getD k Rec.zero) = ⟨2, L, t, lastT out t, invC r.c, m, 0, 0, [], []⟩ := by
      rw [← q1]
      show (⟨2, lastL 0 out + 1, r.t, lastT out r.t, invC r.c, (clrOf l r).n, 0, 0, [], []⟩ : Rec) = _
      rw [hrt, ← hL, ← hmm]
    rw [he] at hnext
    have hown := hrR.own (by omega)
    rw [hrt] at hown
    have hlt := lastT_most B1 t
    have right : (⟨2, L, t, lastT out t, invC r.c, m, 0, 0, [], []⟩ : Rec).right :=
      turn_right (.inr rfl) (inv_right r.c (hrR.ch (by omega))).1 (by unfold maxP; omega) ⟨hown.1, hown.2.1⟩ (by omega) (fun _ => by omega) (fun q => absurd q (by decide))
    refine ⟨m, ?_, fun x hx => ?_, ?_, ?_, ?_, by omega, hcn, hlink, q2⟩
    · rw [hnext, rise_snoc]
      exact ⟨B1, right, by show lastL 0 out < L; omega⟩
    · rw [hnext, nextT_snoc, if_neg (by show ¬ L = x; omega), planL_push _ _ (by show x ≠ L; omega)]
      exact B2 x hx
    · rw [hnext, lastL_snoc15]
      show lastL 0 l ≤ L
      omega
    · rw [hnext, lastL_snoc15]
      show L ≤ lastL 0 l + (k + 1)
      omega
    · rw [hnext, lastT_snoc, if_pos ⟨ht, rfl⟩]
      show nextT _ L = m
      rw [nextT_snoc, if_pos rfl, if_neg (by show ¬ (2 : Int) = 1; decide), if_pos (by show (2 : Int) = 2; rfl)]
      show nextT out m = m
      rw [(B2 m (by omega)).1]
      exact hcn
/-- With the first records of its plan behind the log, its plan is the rest. -/
theorem again15 {l : List Rec} (hl : Rise 0 l) (ch : ∀ r ∈ l, Linked l r.t r.p ∧ Linked l r.t r.n) (hm : lastL 0 l ≤ 100000) (t : Int) (k : Nat) (hk : k ≤ (planT l t 0).length) (hk2 : k ≤ 100000) : Rise 0 (behR l (planT l t 0) k) ∧ planT (behR l (planT l t 0) k) t 0 = (planT l t 0).drop k := by
  by_cases ht : 1 ≤ t
  · obtain ⟨n, B⟩ := beh15 hl ch hm t ht k hk hk2
    refine ⟨B.rise, ?_⟩
    have e : planT (behR l (planT l t 0) k) t 0 = planL (behR l (planT l t 0) k) n 0 := by
      show planL _ (nextT _ (lastT _ t)) 0 = _
      rw [B.next]
    rw [e, (B.same n B.at').2]
    exact B.rest
  · have e : planT l t 0 = [] := by
      unfold planT
      rw [lastT_none _ _ (fun r hr x => ht x.1), nextT_zero hl]
      exact planL_zero hl 0
    rw [e] at hk ⊢
    obtain rfl : k = 0 := by simpa using hk
    refine ⟨hl, ?_⟩
    rw [behR_zero, e]
    rfl
end Go.Proofs.Ytohdmmfmjadipaa
