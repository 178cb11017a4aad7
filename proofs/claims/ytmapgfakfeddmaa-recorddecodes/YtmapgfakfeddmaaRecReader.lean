/-
  The reader of package record: number, text, kind, count.
-/
import Derived.Test.YtmapgfakfeddmaaRecRefReader
import Derived.Test.YtmapgfakfeddmaaRecRight
import Derived.Test.YtmapgfakfeddmaaRecWriter
import Derived.Test.YtmapgfakfeddmaaPackTakeText
import Derived.Test.YtmapgfakfeddmaaRecCut
namespace Go.Proofs.Ytmapgfakfeddmaa
open Go.RowKit
set_option linter.unusedVariables false

/-- A reader's cells: its bytes, how far they are read, the first error, the record so far. -/
def rdB (v : Value) (k : Nat) (e : Int) (r : Rec) (va vb : Value) : Array Value := #[v, .int .i64 (k : Int), .int .i64 e, .int .i64 r.k, .int .u64 (r.l : Int), .int .i64 r.t, .int .u64 (r.p : Int), .int .i64 r.c.k, .int .i64 r.c.pg, .int .i64 r.c.sl, .string r.c.o, .string r.c.n, .int .u64 (r.n : Int), .int .i64 r.s, .int .u64 (r.b : Int), va, vb]
/-- A reader in memory, and what is left to read. -/
structure RbAt (w : World) (g : Nat) (a : Option Addr) (len cap : Nat) (bs : List UInt8) (s : St) (r : Rec) (va vb : Value) : Prop where
  row : ∃ k : Nat, RowAt w g 57 (rdB (.slice a len cap) k s.e r va vb) ∧ k ≤ bs.length ∧ (s.e = 0 → bs.drop k = s.l)
  bytes : IsB w a len bs
  room : len ≤ 140737488355328 ∧ len ≤ cap
  apart : 0 < len → ∀ x, a = some x → x.block < g

theorem isB_grown {w x : World} {a : Option Addr} {len g : Nat} {bs : List UInt8} (h : IsB w a len bs) (hg : w.grownBy x (some g)) (hn : 0 < len → ∀ y, a = some y → y.block ≠ g) : IsB x a len bs := by
  refine ⟨h.1, fun hp => ?_⟩
  obtain ⟨b, off, ha, hlt, hc⟩ := h.2 hp
  refine ⟨b, off, ha, Nat.lt_of_lt_of_le hlt hg.size, fun j hj => ?_⟩
  rw [World.cell?_of_block (a := ⟨b, off + j, none⟩) (hg.block b hlt (fun e => hn hp _ ha (by cases e; rfl)))]
  exact hc j hj
theorem apart_ne {len g : Nat} {a : Option Addr} (h : 0 < len → ∀ x, a = some x → x.block < g) : 0 < len → ∀ x, a = some x → x.block ≠ g := fun hp x hx => Nat.ne_of_lt (h hp x hx)
theorem row_grown {w x : World} {g k : Nat} {t : TypeId} {cs : Array Value} (h : RowAt w k t cs) (hg : w.grownBy x (some g)) (hn : k ≠ g) : RowAt x k t cs := (hg.block k h.lt (fun e => hn (by cases e; rfl))).trans h
theorem grown_none {w x : World} (h : w.grownBy x none) : Below w.heap.size w x := ⟨h.os, h.tape, h.output, h.size, fun k hk => h.block k hk (by simp)⟩
theorem of_below {w x : World} {o : Option Nat} (h : Below w.heap.size w x) : w.grownBy x o := ⟨h.os, h.tape, h.output, h.size, fun k hk _ => h.block k hk⟩

theorem num_zero {k : Nat} {s : St} (h : (pNum k s).2.e ≠ 0) : (pNum k s).1 = 0 := by
  unfold pNum at h ⊢
  by_cases he : s.e ≠ 0
  · rw [if_pos he]
  · rw [if_neg he] at h ⊢
    by_cases hk : k ≤ s.l.length
    · rw [if_pos hk] at h
      exact absurd rfl h
    · rw [if_neg hk]
theorem text_zero {s : St} (h : (pText s).2.e ≠ 0) : (pText s).1 = ⟨#[]⟩ := by
  unfold pText at h ⊢
  by_cases he : s.e ≠ 0
  · rw [if_pos he]
  · rw [if_neg he] at h ⊢
    cases hs : s.l with
    | nil => rfl
    | cons b l =>
      rw [hs] at h
      simp only at h ⊢
      by_cases hk : b.toNat ≤ l.length
      · rw [if_pos hk] at h
        exact absurd rfl h
      · rw [if_neg hk]

set_option maxRecDepth 4000 in
set_option maxHeartbeats 1600000 in
theorem bnum_any (g : Nat) (a : Option Addr) (len cap : Nat) (bs : List UInt8) (s : St) (r : Rec) (va vb : Value) (k : Nat) (w : World) (hk : 1 ≤ k ∧ k ≤ 8) (h : RbAt w g a len cap bs s r va vb) :
    Calls Try.prog 45 #[.pointer (some ⟨g, 0, none⟩), .int .i64 (k : Int)] w fun e w' => e = .returned (.int .u64 ((pNum k s).1 : Int)) ∧ RbAt w' g a len cap bs (pNum k s).2 r va vb ∧ w.grownBy w' (some g) := by
  obtain ⟨p, hr, hp, hs⟩ := h.row
  have HBY := hide h.bytes
  have HRM := hide h.room
  have HAP := hide h.apart
  have c2 := hr.cell 2 (.int .i64 s.e) rfl
  have HR := hide hr
  have hbl := h.bytes.1
  clear hr h
  by_cases he : s.e = 0
  · obtain ⟨hl⟩ := And.intro (hs he) trivial
    obtain ⟨t1, t2, t3⟩ := num_take ⟨bs.toArray⟩ s p k hk he (by rw [size_mk]; exact hp) hl
    have HT := hide (fun w hB => take_any a len cap bs (p : Int) (k : Int) w hB (by have := HRM.out.1; omega) (by have := HRM.out.1; omega))
    rw [show (⟨bs.toArray⟩ : ByteArray).data.toList = bs from rfl] at t1 t2 t3
    rw [size_mk] at t3
    rw [t1, t2] at HT
    have H3 := hide t3
    have HZ := hide (num_zero (k := k) (s := s))
    have ew : IntKind.i64.wrap ((p : Int) + (k : Int)) = (p : Int) + (k : Int) := by rw [IntKind.wrap_i64]; have := HRM.out.1; omega
    clear t1 t2 t3
    rw [he] at c2 HR
    clear hs hl he
    generalize pNum k s = ns at *
    obtain ⟨n, s'⟩ := ns
    simp only at HT H3 HZ
    go_enter Try.func45, Try.ntmps45
    go_wp2_with fail
    refine wp_region_in (fun x => w.grownBy x none ∧ RowAt x g 57 (rdB (.slice a len cap) p 0 r va vb) ∧ IsB x a len bs) (by kernel_rfl) (by kernel_rfl) ⟨grown_drew (grown_refl w none), HR.out, HBY.out⟩ ?_
    clear HR c2
    repeat (first
      | go_big_quiet_skip
      | (refine wpQuiet_load rfl 30 (.tmp 15) rfl _ (.slice a len cap) rfl (fun y hy => load_b8 y _ a len cap rfl (hy.2.1.cell 0 _ rfl)) ?_; simp only [Act.put, Array.setIfInBounds, List.size_toArray, List.length_cons, List.length_nil, Nat.reduceAdd, Nat.reduceLT, ↓reduceDIte, List.set_toArray, List.set_cons_succ, List.set_cons_zero])
      | (refine wpQuiet_load rfl 3 (.tmp 19) rfl _ (.int .i64 (p : Int)) rfl (fun y hy => load_i64 y (p : Int) (hy.2.1.cell 1 (.int .i64 (p : Int)) rfl)) ?_; simp only [Act.put, Array.setIfInBounds, List.size_toArray, List.length_cons, List.length_nil, Nat.reduceAdd, Nat.reduceLT, ↓reduceDIte, List.set_toArray, List.set_cons_succ, List.set_cons_zero])
      | (refine wpQuiet_call rfl 59 #[.slice a len cap, .int .i64 (p : Int), .int .i64 (k : Int)] (.tuple #[.int .u64 (n : Int), .int .i64 s'.e]) ?_ (fun x hC => (HT.out x hC.2.2).mono fun e x' h => ⟨h.1, h.2 ▸ hC⟩) ?_; (intro x; go_simp); simp only [Act.put, Array.setIfInBounds, List.size_toArray, List.length_cons, List.length_nil, Nat.reduceAdd, Nat.reduceLT, ↓reduceDIte, List.set_toArray, List.set_cons_succ, List.set_cons_zero])
      | (refine wpQuiet_plain rfl (fun K hK => ?_); go_simp; refine hK _ ?_; clear hK K))
    refine wpQuiet_nil ?_
    intro x hx
    have q1 := hx.2.1.cell 1 (.int .i64 (p : Int)) rfl
    have q2 := hx.2.1.cell 2 (.int .i64 0) rfl
    have f1 := hx.2.1.free 1
    have f2 := hx.2.1.free 2
    have HG := hide (grown_any (o := some g) hx.1)
    by_cases h0 : s'.e = 0
    · have HX : Hid (RbAt (x.setCell ⟨g, 1, none⟩ (.int .i64 ((p : Int) + (k : Int)))) g a len cap bs s' r va vb ∧ w.grownBy (x.setCell ⟨g, 1, none⟩ (.int .i64 ((p : Int) + (k : Int)))) (some g)) := by
        have hg := grown_set (j := 1) (.int .i64 ((p : Int) + (k : Int))) HG.out
        refine ⟨⟨⟨p + k, ?_, (H3.out h0).1, fun _ => (H3.out h0).2⟩, isB_grown HBY.out hg (apart_ne HAP.out), HRM.out, HAP.out⟩, hg⟩
        rw [h0]
        have h := hx.2.1.set 1 (.int .i64 ((p + k : Nat) : Int))
        rw [show ((p + k : Nat) : Int) = (p : Int) + (k : Int) by omega] at h
        unfold rdB at h ⊢
        rw [show ((p + k : Nat) : Int) = (p : Int) + (k : Int) by omega]
        exact h
      rw [h0]
      clear hx HT H3 HZ HG HBY HRM HAP h0
      go_wp2
      go_ret
      exact ⟨rfl, HX.out.1, HX.out.2⟩
    · have HX : Hid (RbAt (x.setCell ⟨g, 2, none⟩ (.int .i64 s'.e)) g a len cap bs s' r va vb ∧ w.grownBy (x.setCell ⟨g, 2, none⟩ (.int .i64 s'.e)) (some g)) := by
        have hg := grown_set (j := 2) (.int .i64 s'.e) HG.out
        exact ⟨⟨⟨p, hx.2.1.set 2 (.int .i64 s'.e), hp, fun h => absurd h h0⟩, isB_grown HBY.out hg (apart_ne HAP.out), HRM.out, HAP.out⟩, hg⟩
      have n0 := HZ.out h0
      have k0 : (s'.e == 0) = false := by rw [beq_eq_false_iff_ne]; exact h0
      have k1 : (s'.e != 0) = true := by rw [bne, k0]; rfl
      clear hx HT H3 HZ HG HBY HRM HAP h0
      have HN := hide n0
      clear n0
      generalize s'.e = es at *
      go_wp2
      go_ret
      exact ⟨by rw [HN.out]; rfl, HX.out.1, HX.out.2⟩
  · have e : pNum k s = (0, s) := by unfold pNum; rw [if_pos he]
    rw [e]
    have k0 : (s.e == 0) = false := by rw [beq_eq_false_iff_ne]; exact he
    have k1 : (s.e != 0) = true := by rw [bne, k0]; rfl
    have HP := hide (show RbAt w g a len cap bs s r va vb from ⟨⟨p, HR.out, hp, hs⟩, HBY.out, HRM.out, HAP.out⟩)
    clear HR he hs e
    generalize s.e = es at *
    go_enter Try.func45, Try.ntmps45
    go_wp2
    go_ret
    exact ⟨rfl, HP.out, grown_refl _ _⟩

set_option maxRecDepth 4000 in
set_option maxHeartbeats 1600000 in
theorem btext_any (g : Nat) (a : Option Addr) (len cap : Nat) (bs : List UInt8) (s : St) (r : Rec) (va vb : Value) (w : World) (h : RbAt w g a len cap bs s r va vb) :
    Calls Try.prog 60 #[.pointer (some ⟨g, 0, none⟩)] w fun e w' => e = .returned (.string (pText s).1) ∧ RbAt w' g a len cap bs (pText s).2 r va vb ∧ w.grownBy w' (some g) := by
  obtain ⟨p, hr, hp, hs⟩ := h.row
  have HBY := hide h.bytes
  have HRM := hide h.room
  have HAP := hide h.apart
  have c2 := hr.cell 2 (.int .i64 s.e) rfl
  have HR := hide hr
  have hbl := h.bytes.1
  clear hr h
  by_cases he : s.e = 0
  · obtain ⟨hl⟩ := And.intro (hs he) trivial
    obtain ⟨k2, t1, t2, t3, t4, t5⟩ := text_take ⟨bs.toArray⟩ s p he (by rw [size_mk]; exact hp) hl
    have HT := hide (fun w hB => ttext_any a len cap bs (p : Int) w hB (by have := HRM.out.1; omega) HRM.out.2 (by have := HRM.out.1; omega))
    rw [show (⟨bs.toArray⟩ : ByteArray).data.toList = bs from rfl] at t1 t3 t4 t5
    rw [size_mk] at t2
    rw [t1, t3, t4] at HT
    have H3 := hide (fun h => And.intro t2 (t5 h))
    have HZ := hide (text_zero (s := s))
    clear t1 t2 t3 t4 t5
    rw [he] at c2 HR
    clear hs hl he
    generalize pText s = ns at *
    obtain ⟨n, s'⟩ := ns
    simp only at HT H3 HZ
    go_enter Try.func60, Try.ntmps60
    go_wp2_with fail
    refine wp_region_in (fun x => w.grownBy x none ∧ RowAt x g 57 (rdB (.slice a len cap) p 0 r va vb) ∧ IsB x a len bs) (by kernel_rfl) (by kernel_rfl) ⟨grown_drew (grown_refl w none), HR.out, HBY.out⟩ ?_
    clear HR c2
    repeat (first
      | go_big_quiet_skip
      | (refine wpQuiet_load rfl 30 (.tmp 14) rfl _ (.slice a len cap) rfl (fun y hy => load_b8 y _ a len cap rfl (hy.2.1.cell 0 _ rfl)) ?_; simp only [Act.put, Array.setIfInBounds, List.size_toArray, List.length_cons, List.length_nil, Nat.reduceAdd, Nat.reduceLT, ↓reduceDIte, List.set_toArray, List.set_cons_succ, List.set_cons_zero])
      | (refine wpQuiet_load rfl 3 (.tmp 18) rfl _ (.int .i64 (p : Int)) rfl (fun y hy => load_i64 y (p : Int) (hy.2.1.cell 1 (.int .i64 (p : Int)) rfl)) ?_; simp only [Act.put, Array.setIfInBounds, List.size_toArray, List.length_cons, List.length_nil, Nat.reduceAdd, Nat.reduceLT, ↓reduceDIte, List.set_toArray, List.set_cons_succ, List.set_cons_zero])
      | (refine wpQuiet_call rfl 63 #[.slice a len cap, .int .i64 (p : Int)] (.tuple #[.string n, .int .i64 (k2 : Int), .int .i64 s'.e]) ?_ (fun x hC => (HT.out x hC.2.2).mono fun e x' h => ⟨h.1, h.2 ▸ hC⟩) ?_; (intro x; go_simp); simp only [Act.put, Array.setIfInBounds, List.size_toArray, List.length_cons, List.length_nil, Nat.reduceAdd, Nat.reduceLT, ↓reduceDIte, List.set_toArray, List.set_cons_succ, List.set_cons_zero])
      | (refine wpQuiet_plain rfl (fun K hK => ?_); go_simp; refine hK _ ?_; clear hK K))
    refine wpQuiet_nil ?_
    intro x hx
    have q1 := hx.2.1.cell 1 (.int .i64 (p : Int)) rfl
    have q2 := hx.2.1.cell 2 (.int .i64 0) rfl
    have f1 := hx.2.1.free 1
    have f2 := hx.2.1.free 2
    have HG := hide (grown_any (o := some g) hx.1)
    by_cases h0 : s'.e = 0
    · have HX : Hid (RbAt (x.setCell ⟨g, 1, none⟩ (.int .i64 (k2 : Int))) g a len cap bs s' r va vb ∧ w.grownBy (x.setCell ⟨g, 1, none⟩ (.int .i64 (k2 : Int))) (some g)) := by
        have hg := grown_set (j := 1) (.int .i64 ((k2 : Int))) HG.out
        refine ⟨⟨⟨k2, ?_, (H3.out h0).1, fun _ => (H3.out h0).2⟩, isB_grown HBY.out hg (apart_ne HAP.out), HRM.out, HAP.out⟩, hg⟩
        rw [h0]
        have h := hx.2.1.set 1 (.int .i64 ((k2 : Nat) : Int))
        skip
        skip
        skip
        exact h
      rw [h0]
      clear hx HT H3 HZ HG HBY HRM HAP h0
      go_wp2
      go_ret
      exact ⟨rfl, HX.out.1, HX.out.2⟩
    · have HX : Hid (RbAt (x.setCell ⟨g, 2, none⟩ (.int .i64 s'.e)) g a len cap bs s' r va vb ∧ w.grownBy (x.setCell ⟨g, 2, none⟩ (.int .i64 s'.e)) (some g)) := by
        have hg := grown_set (j := 2) (.int .i64 s'.e) HG.out
        exact ⟨⟨⟨p, hx.2.1.set 2 (.int .i64 s'.e), hp, fun h => absurd h h0⟩, isB_grown HBY.out hg (apart_ne HAP.out), HRM.out, HAP.out⟩, hg⟩
      have n0 := HZ.out h0
      have k0 : (s'.e == 0) = false := by rw [beq_eq_false_iff_ne]; exact h0
      have k1 : (s'.e != 0) = true := by rw [bne, k0]; rfl
      clear hx HT H3 HZ HG HBY HRM HAP h0
      have HN := hide n0
      clear n0
      generalize s'.e = es at *
      go_wp2
      go_ret
      exact ⟨by rw [HN.out]; rfl, HX.out.1, HX.out.2⟩
  · have e : pText s = (⟨#[]⟩, s) := by unfold pText; rw [if_pos he]
    rw [e]
    have k0 : (s.e == 0) = false := by rw [beq_eq_false_iff_ne]; exact he
    have k1 : (s.e != 0) = true := by rw [bne, k0]; rfl
    have HP := hide (show RbAt w g a len cap bs s r va vb from ⟨⟨p, HR.out, hp, hs⟩, HBY.out, HRM.out, HAP.out⟩)
    clear HR he hs e
    generalize s.e = es at *
    go_enter Try.func60, Try.ntmps60
    go_wp2
    go_ret
    exact ⟨rfl, HP.out, grown_refl _ _⟩

theorem num_lt (k : Nat) (s : St) : (pNum k s).1 < 256 ^ k := by
  have hp : 0 < 256 ^ k := Nat.pow_pos (by omega)
  unfold pNum
  by_cases he : s.e ≠ 0
  · rw [if_pos he]
    exact hp
  · rw [if_neg he]
    by_cases hk : k ≤ s.l.length
    · rw [if_pos hk]
      have h := be_lt (s.l.take k)
      rw [List.length_take, Nat.min_eq_left hk] at h
      exact h
    · rw [if_neg hk]
      exact hp
theorem in_val (lo hi : Nat) (s : St) : (pIn lo hi s).1 = (pNum 1 s).1 := by
  unfold pIn
  split <;> rfl

set_option maxRecDepth 4000 in
set_option maxHeartbeats 1600000 in
theorem bkind_any (g : Nat) (a : Option Addr) (len cap : Nat) (bs : List UInt8) (s : St) (r : Rec) (va vb : Value) (w : World) (h : RbAt w g a len cap bs s r va vb) :
    Calls Try.prog 44 #[.pointer (some ⟨g, 0, none⟩)] w fun e w' => e = .returned (.int .i64 ((pIn 1 8 s).1 : Int)) ∧ RbAt w' g a len cap bs (pIn 1 8 s).2 r va vb ∧ w.grownBy w' (some g) := by
  have HN := hide (bnum_any g a len cap bs s r va vb 1 w (by omega) h)
  have hn := num_lt 1 s
  have HI : Hid ((pIn 1 8 s).2 = (if (pNum 1 s).2.e = 0 ∧ ((pNum 1 s).1 < 1 ∨ 8 < (pNum 1 s).1) then ⟨(pNum 1 s).2.l, 2⟩ else (pNum 1 s).2)) := by
    show (pIn 1 8 s).2 = _
    unfold pIn
    split <;> rfl
  rw [in_val]
  generalize pNum 1 s = ns at *
  obtain ⟨n, s'⟩ := ns
  simp only at HN HI hn ⊢
  have ew : IntKind.i64.wrap (n : Int) = (n : Int) := by rw [IntKind.wrap_i64]; omega
  clear h
  go_enter Try.func44, Try.ntmps44
  go_wp2_with fail
  refine HN.out.mono ?_
  rintro e w1 ⟨rfl, hrb, hg⟩
  have HRB := hide hrb
  have HG := hide hg
  clear HN hrb hg
  obtain ⟨p, hr, hp, hs⟩ := HRB.out.row
  have c2 := hr.cell 2 (.int .i64 s'.e) rfl
  have f2 := hr.free 2
  have HRO := hide hr
  have HHP := hide hp
  clear hr hp hs
  by_cases h0 : s'.e = 0
  · rw [h0] at c2
    by_cases hb : n < 1 ∨ 8 < n
    · have HX : Hid (RbAt (w1.setCell ⟨g, 2, none⟩ (.int .i64 2)) g a len cap bs (pIn 1 8 s).2 r va vb ∧ w.grownBy (w1.setCell ⟨g, 2, none⟩ (.int .i64 2)) (some g)) := by
        rw [HI.out, if_pos ⟨h0, hb⟩]
        have hg := grown_set (j := 2) (.int .i64 2) HG.out
        have hg1 := grown_set (j := 2) (.int .i64 2) (grown_refl w1 (some g))
        exact ⟨⟨⟨p, HRO.out.set 2 (.int .i64 2), HHP.out, fun h => absurd h (by simp)⟩, isB_grown HRB.out.bytes hg1 (apart_ne HRB.out.apart), HRB.out.room, HRB.out.apart⟩, hg⟩
      clear HRB HG HI HRO HHP h0
      by_cases h1 : (n : Int) < 1
      · clear hb
        go_wp2
        go_ret
        exact ⟨rfl, HX.out.1, HX.out.2⟩
      · have h8 : (8 : Int) < (n : Int) := by omega
        clear hb
        go_wp2
        go_ret
        exact ⟨rfl, HX.out.1, HX.out.2⟩
    · have HX : Hid (RbAt w1 g a len cap bs (pIn 1 8 s).2 r va vb ∧ w.grownBy w1 (some g)) := by
        rw [HI.out, if_neg (fun h => hb h.2)]
        exact ⟨HRB.out, HG.out⟩
      have h1 : ¬ (n : Int) < 1 := by omega
      have h8 : ¬ (8 : Int) < (n : Int) := by omega
      clear HRB HG HI HRO HHP h0 hb
      go_wp2
      go_ret
      exact ⟨rfl, HX.out.1, HX.out.2⟩
  · have HX : Hid (RbAt w1 g a len cap bs (pIn 1 8 s).2 r va vb ∧ w.grownBy w1 (some g)) := by
      rw [HI.out, if_neg (fun h => h0 h.1)]
      exact ⟨HRB.out, HG.out⟩
    have k0 : (s'.e == 0) = false := by rw [beq_eq_false_iff_ne]; exact h0
    clear HRB HG HI HRO HHP h0
    generalize s'.e = es at *
    go_wp2
    go_ret
    exact ⟨rfl, HX.out.1, HX.out.2⟩

/-- How many rows are read. -/
def cntN (m : Nat) (s : St) : Nat := if (pIn 0 m s).2.e = 0 then (pIn 0 m s).1 else 0
set_option maxRecDepth 4000 in
set_option maxHeartbeats 1600000 in
theorem bcount_any (g : Nat) (a : Option Addr) (len cap : Nat) (bs : List UInt8) (s : St) (r : Rec) (va vb : Value) (m : Nat) (w : World) (hm : m ≤ 255) (h : RbAt w g a len cap bs s r va vb) :
    Calls Try.prog 61 #[.pointer (some ⟨g, 0, none⟩), .int .i64 (m : Int)] w fun e w' => e = .returned (.int .i64 (cntN m s : Int)) ∧ RbAt w' g a len cap bs (pIn 0 m s).2 r va vb ∧ w.grownBy w' (some g) := by
  have HN := hide (bnum_any g a len cap bs s r va vb 1 w (by omega) h)
  have hn := num_lt 1 s
  have HI : Hid (pIn 0 m s = (if (pNum 1 s).2.e = 0 ∧ ((pNum 1 s).1 < 0 ∨ m < (pNum 1 s).1) then ((pNum 1 s).1, ⟨(pNum 1 s).2.l, 2⟩) else pNum 1 s)) := rfl
  have HZ := hide (num_zero (k := 1) (s := s))
  unfold cntN
  generalize pNum 1 s = ns at *
  obtain ⟨n, s'⟩ := ns
  simp only at HN HI HZ hn ⊢
  have ew : IntKind.i64.wrap (n : Int) = (n : Int) := by rw [IntKind.wrap_i64]; omega
  clear h
  by_cases hb : m < n
  · have h0 : s'.e = 0 := by
      by_cases h : s'.e = 0
      · exact h
      · have := HZ.out h
        omega
    have hi : pIn 0 m s = (n, ⟨s'.l, 2⟩) := by rw [HI.out, if_pos ⟨h0, .inr hb⟩]
    rw [hi]
    have i1 : (m : Int) < (n : Int) := by omega
    clear HI hi HZ h0 hb
    go_enter Try.func61, Try.ntmps61
    go_wp2_with fail
    refine HN.out.mono ?_
    rintro e w1 ⟨rfl, hrb, hg⟩
    obtain ⟨p, hr, hp, hs⟩ := hrb.row
    have c2 := hr.cell 2 (.int .i64 s'.e) rfl
    have f2 := hr.free 2
    have HX : Hid (RbAt (w1.setCell ⟨g, 2, none⟩ (.int .i64 2)) g a len cap bs ⟨s'.l, 2⟩ r va vb ∧ w.grownBy (w1.setCell ⟨g, 2, none⟩ (.int .i64 2)) (some g)) := by
      have hg' := grown_set (j := 2) (.int .i64 2) hg
      have hg1 := grown_set (j := 2) (.int .i64 2) (grown_refl w1 (some g))
      exact ⟨⟨⟨p, hr.set 2 (.int .i64 2), hp, fun h => absurd h (by simp)⟩, isB_grown hrb.bytes hg1 (apart_ne hrb.apart), hrb.room, hrb.apart⟩, hg'⟩
    clear hrb hg hr hp hs HN
    generalize s'.e = es at *
    go_wp2
    go_ret
    exact ⟨rfl, HX.out.1, HX.out.2⟩
  · have hi : pIn 0 m s = (n, s') := by rw [HI.out, if_neg (fun h => by omega)]
    rw [hi]
    have hc : (if s'.e = 0 then n else 0) = n := by
      by_cases h : s'.e = 0
      · rw [if_pos h]
      · rw [if_neg h, HZ.out h]
    simp only
    rw [hc]
    have i1 : ¬ (m : Int) < (n : Int) := by omega
    clear HI hi HZ hb hc
    go_enter Try.func61, Try.ntmps61
    go_wp2_with fail
    refine HN.out.mono ?_
    rintro e w1 ⟨rfl, hrb, hg⟩
    have HX : Hid (RbAt w1 g a len cap bs s' r va vb ∧ w.grownBy w1 (some g)) := ⟨hrb, hg⟩
    clear hrb hg HN
    go_wp2
    go_ret
    exact ⟨rfl, HX.out.1, HX.out.2⟩
end Go.Proofs.Ytmapgfakfeddmaa
