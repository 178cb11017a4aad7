/-
  The contract of the code's Append.
-/
import Derived.Test.YtkdlmblkckmhaaaTapeLook
import Derived.Test.YtkdlmblkckmhaaaQuietIn
import Derived.Test.YtkdlmblkckmhaaaAppendC
import Derived.Test.YtkdlmblkckmhaaaInfo8
import Derived.Laws.OwnMore
namespace Go.Proofs.Ytkdlmblkckmhaaa
open Go.RowKit
set_option linter.unusedVariables false

theorem load8_sl {b j : Nat} (x : World) (a : Option Addr) (n c : Nat) (h : x.cell? ⟨b, j, none⟩ = some (.slice a n c)) : (Instr.loadAt 29 (.pointer (some ⟨b, j, none⟩))).run Try.prog x = .ok (.slice a n c) x := by
  go_simp
theorem load8_n {b j : Nat} (x : World) (v : Int) (h : x.cell? ⟨b, j, none⟩ = some (.int .i64 v)) : (Instr.loadAt 3 (.pointer (some ⟨b, j, none⟩))).run Try.prog x = .ok (.int .i64 v) x := by
  go_simp
theorem TpV.drew {w : World} {gt gb cap : Nat} {a : Option Addr} {t : Tp} (h : TpV w gt gb cap a t) : TpV w.drew gt gb cap a t := h.keep rfl rfl

/-- Bytes put behind bytes of the call's own: in their place, or in a new row. -/
theorem run_app8 {P : Program} (w : World) (t ty e : TypeId) (ht : P.underlying t = some (.slice e)) (hi : (P.info? e).map (fun i => (i.zero, i.size, i.bytes)) = some (some (.int .u8 0), 1, 1)) (a : Option Addr) (n cap : Nat) (xs : List UInt8) (hown : w.ownsRow 0 e 1 (.slice a n cap) n (toV xs))
    (ad : Option Addr) (m c : Nat) (ys : List UInt8) (hB : IsB w ad m ys) (hnil : ad = none → c = 0) (hz : n + m ≤ 140737488355328) :
    ∃ a' c' w', (Builtin.append_ #[t, t] ty #[.slice a n cap, .slice ad m c]).run P w = .ok (.slice a' (n + m) c') w' ∧ w'.ownsRow 0 e 1 (.slice a' (n + m) c') (n + m) (toV (xs ++ ys)) ∧ w.grownBy w' (Value.slice a n cap).ownBlock ∧ (a' = a ∨ ∃ g, a' = some ⟨g, 0, none⟩ ∧ w.heap.size ≤ g) := by
  obtain ⟨i, hi0, hi1⟩ := Option.map_eq_some_iff.1 hi
  simp only [Prod.mk.injEq] at hi1
  have hyl := hB.1
  have hxl : xs.length = n := by
    have := hown.1
    rw [toV_length] at this
    omega
  cases ad with
  | none =>
    obtain rfl : m = 0 := by
      by_cases hm : 0 < m
      · obtain ⟨b, off, h1, _⟩ := hB.2 hm
        cases h1
      · omega
    obtain rfl := List.eq_nil_of_length_eq_zero hyl
    obtain rfl := hnil rfl
    exact ⟨a, cap, w, run_append_owned_none (P := P) w 0 t ty e i 1 ht hi0 _ n (toV xs) hown, by simpa using hown, ⟨rfl, rfl, rfl, Nat.le_refl _, fun _ _ _ => rfl⟩, .inl rfl⟩
  | some b =>
    have hcells : ∀ j u, (toV ys)[j]? = some u → w.cell? (b.add j) = some u := by
      intro j u hu
      have hj : j < ys.length := by
        have := (List.getElem?_eq_some_iff.1 hu).1
        rwa [toV_length] at this
      obtain ⟨b', off', hb, _, hc⟩ := hB.2 (by omega)
      cases hb
      rw [Addr.add_lit, hc j (by omega), ← toV_get ys j hj]
      exact hu
    have fresh : ∀ v' w', w'.ownsRow w.heap.size e 1 v' (n + m) (toV xs ++ toV ys) → w.grownBy w' none → v' = .slice none 0 0 ∧ a = none ∧ n + m = 0 ∨ (∃ g c', v' = .slice (some ⟨g, 0, none⟩) (n + m) c' ∧ w.heap.size ≤ g) → ∃ a' c', v' = .slice a' (n + m) c' ∧ w'.ownsRow 0 e 1 (.slice a' (n + m) c') (n + m) (toV (xs ++ ys)) ∧ w.grownBy w' (Value.slice a n cap).ownBlock ∧ (a' = a ∨ ∃ g, a' = some ⟨g, 0, none⟩ ∧ w.heap.size ≤ g) := by
      intro v' w' h1 h2 h3
      have h4 : w.grownBy w' (Value.slice a n cap).ownBlock := ⟨h2.os, h2.tape, h2.output, h2.size, fun k hk _ => h2.block k hk (by simp)⟩
      have h5 : w'.ownsRow 0 e 1 v' (n + m) (toV (xs ++ ys)) := by
        rw [toV_append]
        refine ⟨h1.1, ?_⟩
        rcases h1.2 with h6 | ⟨g, c', cur, q1, _, q2⟩
        · exact .inl h6
        · exact .inr ⟨g, c', cur, q1, Nat.zero_le _, q2⟩
      rcases h3 with ⟨rfl, h6, h7⟩ | ⟨g, c', rfl, h6⟩
      · exact ⟨none, 0, by rw [h7], by rw [h7] at h5 ⊢; exact h5, h4, .inl h6.symm⟩
      · exact ⟨_, _, rfl, h5, h4, .inr ⟨g, rfl, h6⟩⟩
    rcases hown.2 with ⟨e1, h0⟩ | ⟨g, c0, cur, e1, _, hg, hc, hm, hs, htk⟩
    · injection e1 with e1 e2 e3
      subst e1 e2 e3
      obtain rfl : xs = [] := List.eq_nil_of_length_eq_zero hxl
      obtain ⟨v', w', r1, r2, r3, r4⟩ := run_append_own (P := P) w w.heap.size t ty e i (.int .u8 0) 1 1 ht hi0 hi1.1 hi1.2.1 hi1.2.2 rfl (by omega) (.slice none 0 0) 0 (toV []) (World.ownsRow_nil _ _ _ _) b m c (toV ys) (by rw [toV_length, hyl, Nat.mul_one]) hcells (toV_one ys) (by unfold maxLen; omega) (by omega) (Nat.le_refl _)
      obtain ⟨a', c', rfl, q⟩ := fresh v' w' r2 r3 (by
        rcases r2.2 with ⟨h5, h6⟩ | ⟨g, c', cur, q1, q2, _⟩
        · exact .inl ⟨h5, rfl, h6⟩
        · exact .inr ⟨g, c', q1, q2⟩)
      exact ⟨a', c', w', r1, q⟩
    · injection e1 with e1 e2 e3
      subst e1 e3
      by_cases hr : n + m ≤ cap
      · have r1 := run_append_room (P := P) w t ty e i ht hi0 g n cap cur hg b m c (toV ys) (by rw [toV_length, hyl, hi1.2.1, Nat.mul_one]) hcells (toV_one ys) hr (by rw [toV_length, hyl, hi1.2.1, hs]; omega)
        refine ⟨_, _, _, r1, ⟨by rw [toV_length, List.length_append, hxl, hyl, Nat.mul_one], .inr ⟨g, cap, _, rfl, Nat.zero_le _, setRow_heap w g cur _ e _ hg, hr, hm, ?_, ?_⟩⟩, ⟨rfl, rfl, rfl, by simp, fun k _ hk => setRow_other w g k _ (fun e => hk (by simp [Value.ownBlock, e]))⟩, .inl rfl⟩
        · simp only [List.size_toArray, List.length_append, List.length_take, List.length_drop, Array.length_toList, toV_length, hi1.2.1, hs, hyl]
          omega
        · rw [Nat.mul_one] at htk
          rw [hi1.2.1, Nat.mul_one, Nat.mul_one, htk, ← toV_append]
          have hl2 : (toV (xs ++ ys)).length = n + m := by rw [toV_length, List.length_append, hxl, hyl]
          rw [← hl2]
          exact List.take_left
      · obtain ⟨v', w', r1, r2, r3⟩ := run_append_arg_grows (P := P) w t ty e i (.int .u8 0) 1 1 ht hi0 hi1.1 hi1.2.1 hi1.2.2 rfl (by omega) ⟨g, 0, none⟩ n cap (toV xs) (by rw [toV_length, hxl, Nat.mul_one]) (hown.cells (g := g) rfl) b m c (toV ys) (by rw [toV_length, hyl, Nat.mul_one]) hcells (by omega) (by unfold maxLen; omega) (by omega)
        obtain ⟨a', c', rfl, q⟩ := fresh v' w' r2 r3 (by
          rcases r2.2 with ⟨h5, h6⟩ | ⟨g, c', cur, q1, q2, _⟩
          · omega
          · exact .inr ⟨g, c', q1, q2⟩)
        exact ⟨a', c', w', r1, q⟩

/-- A tape whose bytes are another row now. -/
theorem TpV.put {w x : World} {gt gb cap n c' : Nat} {a a' : Option Addr} {t : Tp} {bs : List UInt8} (h : TpV w gt gb cap a t) (hb : bs.length = n) (ho : x.ownsRow 0 5 1 (.slice a' (t.b.size + n) c') (t.b.size + n) (toV (t.b.data.toList ++ bs))) (hg : w.grownBy x (Value.slice a t.b.size cap).ownBlock) (hs : a' = a ∨ ∃ g, a' = some ⟨g, 0, none⟩ ∧ w.heap.size ≤ g) :
    RowAt x gt 32 #[.slice a t.b.size cap, .int .i64 (t.f : Int), .int .u64 (t.s : Int), .int .i64 (t.m : Int)] ∧ ∃ gb', TpAt (x.setCell ⟨gt, 0, none⟩ (.slice a' (t.b.size + n) c')) gt gb' { t with b := t.b ++ ⟨bs.toArray⟩ } ∧ Turn gt gb w (x.setCell ⟨gt, 0, none⟩ (.slice a' (t.b.size + n) c')) ∧ (gb' = gb ∨ w.heap.size ≤ gb') := by
  have hrow : ∀ k, (Value.slice a t.b.size cap).ownBlock = some k → k = gb ∧ gt ≠ gb := by
    intro k hk
    rcases h.own with ⟨rfl, _⟩ | ⟨rfl, h2, _⟩
    · cases hk
    · injection hk with hk
      exact ⟨hk.symm, h2⟩
  have hR : RowAt x gt 32 #[.slice a t.b.size cap, .int .i64 (t.f : Int), .int .u64 (t.s : Int), .int .i64 (t.m : Int)] := (hg.block gt h.1.lt (fun e => by
    obtain ⟨q1, q2⟩ := hrow gt e.symm
    exact q2 q1)).trans h.1
  have hz : (t.b ++ (⟨bs.toArray⟩ : ByteArray)).size = t.b.size + n := by
    have := size_mk bs
    rw [ByteArray.size_append]
    omega
  have hd : (t.b ++ (⟨bs.toArray⟩ : ByteArray)).data.toList = t.b.data.toList ++ bs := by
    rw [str_append]
  have hT : Turn gt gb w (x.setCell ⟨gt, 0, none⟩ (.slice a' (t.b.size + n) c')) := ((Turn.refl gt gb w).grown hg (fun k hk => .inl (hrow k hk).1)).set 0 _
  have hown : ∀ g, a' = some ⟨g, 0, none⟩ → g ≠ gt → (x.setCell ⟨gt, 0, none⟩ (.slice a' (t.b.size + n) c')).ownsRow 0 5 1 (.slice a' (t.b.size + n) c') (t.b.size + n) (toV (t.b.data.toList ++ bs)) := by
    intro g e hne
    subst e
    refine ⟨ho.1, ?_⟩
    rcases ho.2 with ⟨h5, _⟩ | ⟨g', c2, cur, q1, q2, q3, q4⟩
    · cases h5
    · injection q1 with q1 _ q5
      injection q1 with q1
      injection q1 with q1
      subst q1 q5
      exact .inr ⟨g, c', cur, rfl, q2, (heap_setCell_other x ⟨gt, 0, none⟩ g _ hne).trans q3, q4⟩
  have fin : ∀ gb', (a' = none ∧ gb' = gt ∨ a' = some ⟨gb', 0, none⟩ ∧ gb' ≠ gt) → TpAt (x.setCell ⟨gt, 0, none⟩ (.slice a' (t.b.size + n) c')) gt gb' { t with b := t.b ++ ⟨bs.toArray⟩ } := by
    intro gb' hq
    refine ⟨c', a', ?_, ?_, ?_⟩
    · show RowAt _ gt _ #[.slice a' (t.b ++ (⟨bs.toArray⟩ : ByteArray)).size c', _, _, _]
      rw [hz]
      exact RowAt.set hR 0 _
    · show World.ownsRow _ 0 _ 1 (.slice a' (t.b ++ (⟨bs.toArray⟩ : ByteArray)).size c') (t.b ++ (⟨bs.toArray⟩ : ByteArray)).size (toV (t.b ++ (⟨bs.toArray⟩ : ByteArray)).data.toList)
      rw [hz, hd]
      rcases hq with ⟨rfl, _⟩ | ⟨e, hne⟩
      · refine ⟨ho.1, .inl ?_⟩
        rcases ho.2 with h5 | ⟨g', c2, cur, q1, _⟩
        · exact h5
        · cases q1
      · exact hown _ e hne
    · rcases hq with h5 | ⟨e, _⟩
      · exact .inl h5
      · exact .inr e
  refine ⟨hR, ?_⟩
  rcases hs with rfl | ⟨g, e, hge⟩
  · rcases h.own with ⟨rfl, q, _⟩ | ⟨q, h2, _⟩
    · exact ⟨gb, fin gb (.inl ⟨rfl, q⟩), hT, .inl rfl⟩
    · exact ⟨gb, fin gb (.inr ⟨q, fun e => h2 e.symm⟩), hT, .inl rfl⟩
  · exact ⟨g, fin g (.inr ⟨e, by have := h.1.lt; omega⟩), hT, .inr hge⟩

set_option maxRecDepth 4000 in
set_option maxHeartbeats 800000 in
theorem app8_no (gt gb cap : Nat) (a : Option Addr) (t : Tp) (ad : Option Addr) (n c : Nat) (w : World) (h : TpV w gt gb cap a t) (ok : t.ok) (hn : t.m < t.b.size + n) (hs : n ≤ 70000) :
    Calls Try.prog 16 #[.pointer (some ⟨gt, 0, none⟩), .slice ad n c] w fun e w' => e = .returned (.int .i64 7) ∧ TpV w' gt gb cap a t ∧ Turn gt gb w w' := by
  have H := hide h
  have hz := ok.few
  have hy := ok.room
  have h1 : (t.m : Int) - (t.b.size : Int) < (n : Int) := by omega
  have ew : IntKind.i64.wrap ((t.m : Int) - (t.b.size : Int)) = (t.m : Int) - (t.b.size : Int) := by rw [IntKind.wrap_i64]; omega
  clear h ok
  go_enter Try.func16, Try.ntmps16
  go_wp2_with fail
  refine wp_region_in (fun x => TpV x gt gb cap a t ∧ Turn gt gb w x) (by kernel_rfl) (by kernel_rfl) ⟨H.out.drew, (Turn.refl gt gb w).drew⟩ ?_
  repeat (first
    | go_big_quiet_skip
    | (refine wpQuiet_load rfl 3 _ rfl _ (.int .i64 (t.m : Int)) rfl (fun y hy => load8_n y _ (hy.1.1.cell 3 _ rfl)) ?_; simp only [Act.put, Array.setIfInBounds, List.size_toArray, List.length_cons, List.length_nil, Nat.reduceAdd, Nat.reduceLT, ↓reduceDIte, List.set_toArray, List.set_cons_succ, List.set_cons_zero])
    | (refine wpQuiet_load rfl 29 _ rfl _ (.slice a t.b.size cap) rfl (fun y hy => load8_sl y _ _ _ (hy.1.1.cell 0 _ rfl)) ?_; simp only [Act.put, Array.setIfInBounds, List.size_toArray, List.length_cons, List.length_nil, Nat.reduceAdd, Nat.reduceLT, ↓reduceDIte, List.set_toArray, List.set_cons_succ, List.set_cons_zero])
    | (refine wpQuiet_plain rfl (fun K hK => ?_); go_simp; (try simp only [ew]); refine hK _ ?_; clear hK K))
  refine wpQuiet_nil ?_
  intro x hx
  have HX := hide hx
  clear hx
  go_wp2
  go_ret
  exact ⟨rfl, HX.out⟩
set_option maxRecDepth 4000 in
set_option maxHeartbeats 800000 in
theorem app8_yes (gt gb cap : Nat) (a : Option Addr) (t : Tp) (ad : Option Addr) (n c : Nat) (bs : List UInt8) (w : World) (h : TpV w gt gb cap a t) (ok : t.ok) (hB : IsB w ad n bs) (hnil : ad = none → c = 0) (hn : ¬ t.m < t.b.size + n) :
    Calls Try.prog 16 #[.pointer (some ⟨gt, 0, none⟩), .slice ad n c] w fun e w' => e = .returned (.int .i64 0) ∧ ∃ gb', TpAt w' gt gb' { t with b := t.b ++ ⟨bs.toArray⟩ } ∧ Turn gt gb w w' ∧ (gb' = gb ∨ w.heap.size ≤ gb') := by
  have H := hide h
  have hz := ok.few
  have hy := ok.room
  have h1 : ¬ (t.m : Int) - (t.b.size : Int) < (n : Int) := by omega
  have ew : IntKind.i64.wrap ((t.m : Int) - (t.b.size : Int)) = (t.m : Int) - (t.b.size : Int) := by rw [IntKind.wrap_i64]; omega
  have HB := hide hB
  have HN := hide hnil
  clear h ok hB hnil
  go_enter Try.func16, Try.ntmps16
  go_wp2_with fail
  refine wp_region_in (fun x => TpV x gt gb cap a t ∧ Turn gt gb w x ∧ IsB x ad n bs) (by kernel_rfl) (by kernel_rfl) ⟨H.out.drew, (Turn.refl gt gb w).drew, HB.out⟩ ?_
  repeat (first
    | go_big_quiet_skip
    | (refine wpQuiet_load rfl 3 _ rfl _ (.int .i64 (t.m : Int)) rfl (fun y hy => load8_n y _ (hy.1.1.cell 3 _ rfl)) ?_; simp only [Act.put, Array.setIfInBounds, List.size_toArray, List.length_cons, List.length_nil, Nat.reduceAdd, Nat.reduceLT, ↓reduceDIte, List.set_toArray, List.set_cons_succ, List.set_cons_zero])
    | (refine wpQuiet_load rfl 29 _ rfl _ (.slice a t.b.size cap) rfl (fun y hy => load8_sl y _ _ _ (hy.1.1.cell 0 _ rfl)) ?_; simp only [Act.put, Array.setIfInBounds, List.size_toArray, List.length_cons, List.length_nil, Nat.reduceAdd, Nat.reduceLT, ↓reduceDIte, List.set_toArray, List.set_cons_succ, List.set_cons_zero])
    | (refine wpQuiet_plain rfl (fun K hK => ?_); go_simp; (try simp only [ew]); refine hK _ ?_; clear hK K))
  refine wpQuiet_nil ?_
  intro x hx
  have HX := hide hx
  have c0 := hx.1.1.cell 0 _ rfl
  have f0 := hx.1.1.free 0
  clear hx
  obtain ⟨a', c', w2, q1, q2, q3, q4⟩ := run_app8 x 29 29 5 Try.underlying29 info8 a t.b.size cap t.b.data.toList HX.out.1.2.1 ad n c bs HX.out.2.2 HN.out (by omega)
  obtain ⟨hR, gb', r1, r2, r3⟩ := TpV.put HX.out.1 HX.out.2.2.1 q2 q3 q4
  have HR := hide (And.intro r1 (And.intro (HX.out.2.1.trans r2) (show gb' = gb ∨ w.heap.size ≤ gb' from r3.imp id fun h => Nat.le_trans HX.out.2.1.size h)))
  have c2 := hR.cell 0 _ rfl
  have f2 := hR.free 0
  clear HX q2 q3 q4 r1 r2 r3 HB HN H hR
  go_wp2_with (at_builtin; refine wpList_append_run rfl (.tmp 24) (.tmp 25) 29 29 rfl _ _ _ rfl rfl q1 ?_)
  go_ret
  exact ⟨rfl, gb', HR.out⟩
/-- Append, whole. -/
theorem app8_any (gt gb : Nat) (t : Tp) (ad : Option Addr) (n c : Nat) (bs : List UInt8) (w : World) (h : TpAt w gt gb t) (ok : t.ok) (hB : IsB w ad n bs) (hnil : ad = none → c = 0) (hs : n ≤ 70000) :
    Calls Try.prog 16 #[.pointer (some ⟨gt, 0, none⟩), .slice ad n c] w fun e w' => e = .returned (.int .i64 (t.app ⟨bs.toArray⟩).2) ∧ ∃ gb', TpAt w' gt gb' (t.app ⟨bs.toArray⟩).1 ∧ Turn gt gb w w' ∧ (gb' = gb ∨ w.heap.size ≤ gb') := by
  obtain ⟨cap, a, h⟩ := h
  have hsz : (⟨bs.toArray⟩ : ByteArray).size = n := (size_mk bs).trans hB.1
  unfold Tp.app
  rw [hsz]
  by_cases hn : t.m < t.b.size + n
  · rw [if_pos hn]
    exact (app8_no gt gb cap a t ad n c w h ok hn hs).mono fun e w' he => ⟨he.1, gb, ⟨cap, a, he.2.1⟩, he.2.2, .inl rfl⟩
  · rw [if_neg hn]
    exact app8_yes gt gb cap a t ad n c bs w h ok hB hnil hn
end Go.Proofs.Ytkdlmblkckmhaaa
