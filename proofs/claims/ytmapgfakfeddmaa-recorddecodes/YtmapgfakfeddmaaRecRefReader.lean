/-
  The contracts of quaysideref06's reader.
-/
import Derived.Test.YtmapgfakfeddmaaRecLoad
import Derived.Test.YtmapgfakfeddmaaPackRefTake
import Derived.Test.YtmapgfakfeddmaaPackRefTakeText
import Derived.Test.YtmapgfakfeddmaaRecRound
namespace Go.Proofs.Ytmapgfakfeddmaa
open Go.RowKit
set_option linter.unusedVariables false

def rdA (b : ByteArray) (k : Nat) (e : Int) : Array Value := #[.string b, .int .i64 (k : Int), .int .i64 e]
/-- A reader in memory: its bytes, and what is left of them. -/
def RdAt (w : World) (g : Nat) (b : ByteArray) (s : St) : Prop :=
  ∃ k : Nat, RowAt w g 60 (rdA b k s.e) ∧ k ≤ b.size + 8 ∧ (s.e = 0 → k ≤ b.size ∧ b.data.toList.drop k = s.l)

theorem grown_refl (w : World) (o : Option Nat) : w.grownBy w o := ⟨rfl, rfl, rfl, Nat.le_refl _, fun _ _ _ => rfl⟩
theorem grown_drew {w x : World} {o : Option Nat} (h : w.grownBy x o) : w.grownBy x.drew o := ⟨h.os, h.tape, h.output, h.size, h.block⟩
theorem grown_set {w x : World} {g j : Nat} (v : Value) (h : w.grownBy x (some g)) : w.grownBy (x.setCell ⟨g, j, none⟩ v) (some g) := by
  have hb : Below 0 x (x.setCell ⟨g, j, none⟩ v) := (Below.refl 0 x).setCell (Nat.zero_le _) _
  refine ⟨hb.os.trans h.os, hb.tape.trans h.tape, hb.output.trans h.output, Nat.le_trans h.size hb.size, fun k hk hn => ?_⟩
  rw [heap_setCell_other x ⟨g, j, none⟩ k v (fun e => hn (by rw [e]))]
  exact h.block k hk hn
theorem grown_any {w x : World} {o : Option Nat} (h : w.grownBy x none) : w.grownBy x o := ⟨h.os, h.tape, h.output, h.size, fun k hk _ => h.block k hk (by simp)⟩
theorem rd_set {w : World} {g : Nat} {b : ByteArray} {k : Nat} {e : Int} (h : RowAt w g 60 (rdA b k e)) (k2 : Nat) (e2 : Int) : RowAt ((w.setCell ⟨g, 2, none⟩ (.int .i64 e2)).setCell ⟨g, 1, none⟩ (.int .i64 (k2 : Int))) g 60 (rdA b k2 e2) := (h.set 2 (.int .i64 e2)).set 1 (.int .i64 (k2 : Int))
theorem load_s {b j : Nat} (x : World) (s : ByteArray) (h : x.cell? ⟨b, j, none⟩ = some (.string s)) : (Instr.loadAt 9 (.pointer (some ⟨b, j, none⟩))).run Try.prog x = .ok (.string s) x := by go_simp

/-- What 'num' answers, by what 'Take' answers. -/
theorem num_take (b : ByteArray) (s : St) (k w : Nat) (hw : 1 ≤ w ∧ w ≤ 8) (he : s.e = 0) (hk : k ≤ b.size) (hl : b.data.toList.drop k = s.l) :
    (takeS b.data.toList (k : Int) (w : Int)).1 = ((pNum w s).1 : Int) ∧ (takeS b.data.toList (k : Int) (w : Int)).2 = (pNum w s).2.e ∧ ((pNum w s).2.e = 0 → k + w ≤ b.size ∧ b.data.toList.drop (k + w) = (pNum w s).2.l) := by
  have hz := data_length b
  have hll : s.l.length = b.size - k := by rw [← hl, List.length_drop, hz]
  unfold pNum
  rw [if_neg (by simpa using he)]
  by_cases h : w ≤ s.l.length
  · rw [if_pos h, takeS_ok _ _ _ (by omega) (by rw [hz]; omega)]
    refine ⟨?_, rfl, fun _ => ⟨by omega, ?_⟩⟩
    · show ((beAt b.data.toList (k : Int).toNat (w : Int).toNat : Nat) : Int) = ((be (s.l.take w) : Nat) : Int)
      rw [Int.toNat_natCast, Int.toNat_natCast, ← hl]
      rfl
    · show _ = s.l.drop w
      rw [← hl, List.drop_drop]
  · rw [if_neg h, takeS_short _ _ _ (by omega) (by rw [hz]; omega)]
    exact ⟨rfl, rfl, fun h => by cases h⟩

set_option maxRecDepth 4000 in
set_option maxHeartbeats 1600000 in
theorem rnum_any (g : Nat) (b : ByteArray) (s : St) (k : Nat) (w : World) (hk : 1 ≤ k ∧ k ≤ 8) (hb : b.size ≤ 140737488355328) (h : RdAt w g b s) :
    Calls Try.prog 30 #[.pointer (some ⟨g, 0, none⟩), .int .i64 (k : Int)] w fun e w' => e = .returned (.int .u64 ((pNum k s).1 : Int)) ∧ RdAt w' g b (pNum k s).2 ∧ w.grownBy w' (some g) := by
  obtain ⟨p, hr, hp, hs⟩ := h
  have c0 := hr.cell 0 (.string b) rfl
  have c1 := hr.cell 1 (.int .i64 (p : Int)) rfl
  have c2 := hr.cell 2 (.int .i64 s.e) rfl
  have HR := hide hr
  clear hr
  by_cases he : s.e = 0
  · obtain ⟨hp2, hl⟩ := hs he
    obtain ⟨t1, t2, t3⟩ := num_take b s p k hk he hp2 hl
    have HT := hide (fun w => rtake_any b (p : Int) (k : Int) w (by omega))
    rw [t1, t2] at HT
    have H3 := hide t3
    rw [he] at c2 HR
    have ew : IntKind.i64.wrap ((p : Int) + (k : Int)) = (p : Int) + (k : Int) := by rw [IntKind.wrap_i64]; omega
    clear t1 t2 t3 hs hl he
    generalize pNum k s = ns at *
    obtain ⟨n, s'⟩ := ns
    simp only at HT H3
    go_enter Try.func30, Try.ntmps30
    go_wp2_with fail
    refine wp_region_in (fun x => w.grownBy x none ∧ RowAt x g 60 (rdA b p 0)) (by kernel_rfl) (by kernel_rfl) ⟨grown_drew (grown_refl w none), HR.out⟩ ?_
    clear HR c0 c1 c2
    repeat (first
      | go_big_quiet_skip
      | (refine wpQuiet_load rfl 9 (.tmp 15) rfl _ (.string b) rfl (fun y hy => load_s y b (hy.2.cell 0 (.string b) rfl)) ?_; simp only [Act.put, Array.setIfInBounds, List.size_toArray, List.length_cons, List.length_nil, Nat.reduceAdd, Nat.reduceLT, ↓reduceDIte, List.set_toArray, List.set_cons_succ, List.set_cons_zero])
      | (refine wpQuiet_load rfl 3 (.tmp 19) rfl _ (.int .i64 (p : Int)) rfl (fun y hy => load_i64 y (p : Int) (hy.2.cell 1 (.int .i64 (p : Int)) rfl)) ?_; simp only [Act.put, Array.setIfInBounds, List.size_toArray, List.length_cons, List.length_nil, Nat.reduceAdd, Nat.reduceLT, ↓reduceDIte, List.set_toArray, List.set_cons_succ, List.set_cons_zero])
      | (refine wpQuiet_call rfl 49 #[.string b, .int .i64 (p : Int), .int .i64 (k : Int)] (.tuple #[.int .u64 (n : Int), .int .i64 s'.e]) ?_ (fun x hC => (HT.out x).mono fun e x' h => ⟨h.1, h.2 ▸ hC⟩) ?_; (intro x; go_simp); simp only [Act.put, Array.setIfInBounds, List.size_toArray, List.length_cons, List.length_nil, Nat.reduceAdd, Nat.reduceLT, ↓reduceDIte, List.set_toArray, List.set_cons_succ, List.set_cons_zero])
      | (refine wpQuiet_plain rfl (fun K hK => ?_); go_simp; refine hK _ ?_; clear hK K))
    refine wpQuiet_nil ?_
    intro x hx
    have q1 := hx.2.cell 1 (.int .i64 (p : Int)) rfl
    have q2 := hx.2.cell 2 (.int .i64 0) rfl
    have f1 := hx.2.free 1
    have f2 := hx.2.free 2
    have HX : Hid (RdAt ((x.setCell ⟨g, 2, none⟩ (.int .i64 s'.e)).setCell ⟨g, 1, none⟩ (.int .i64 ((p : Int) + (k : Int)))) g b s' ∧ w.grownBy ((x.setCell ⟨g, 2, none⟩ (.int .i64 s'.e)).setCell ⟨g, 1, none⟩ (.int .i64 ((p : Int) + (k : Int)))) (some g)) :=
      ⟨⟨p + k, by have h := rd_set hx.2 (p + k) s'.e; rw [show ((p + k : Nat) : Int) = (p : Int) + (k : Int) by omega] at h; unfold rdA at h ⊢; rw [show ((p + k : Nat) : Int) = (p : Int) + (k : Int) by omega]; exact h, by omega, H3.out⟩, grown_set _ (grown_set _ (grown_any hx.1))⟩
    clear hx HT H3
    generalize s'.e = es at *
    go_wp2
    go_ret
    exact ⟨rfl, HX.out.1, HX.out.2⟩
  · have e : pNum k s = (0, s) := by unfold pNum; rw [if_pos he]
    rw [e]
    have k0 : (s.e == 0) = false := by rw [beq_eq_false_iff_ne]; exact he
    have k1 : (s.e != 0) = true := by rw [bne, k0]; rfl
    have HP := hide (show RdAt w g b s from ⟨p, HR.out, hp, fun h => absurd h he⟩)
    clear HR he hs e
    generalize s.e = es at *
    go_enter Try.func30, Try.ntmps30
    go_wp2
    go_ret
    exact ⟨rfl, HP.out, grown_refl _ _⟩

/-- What 'text' answers, by what 'TakeText' answers. -/
theorem text_take (b : ByteArray) (s : St) (k : Nat) (he : s.e = 0) (hk : k ≤ b.size) (hl : b.data.toList.drop k = s.l) :
    ∃ k2 : Nat, (textS b.data.toList (k : Int)).2.1 = (k2 : Int) ∧ k2 ≤ b.size ∧ (⟨(textS b.data.toList (k : Int)).1.toArray⟩ : ByteArray) = (pText s).1 ∧ (textS b.data.toList (k : Int)).2.2 = (pText s).2.e ∧ ((pText s).2.e = 0 → b.data.toList.drop k2 = (pText s).2.l) := by
  have hz := data_length b
  unfold pText
  rw [if_neg (by simpa using he)]
  cases hs : s.l with
  | nil =>
    have hkk : b.size ≤ k := by
      have h := congrArg List.length hl
      rw [hs, List.length_drop, hz] at h
      simp only [List.length_nil] at h
      omega
    rw [textS_short _ _ (by omega) (by rw [hz]; omega)]
    exact ⟨0, rfl, by omega, rfl, rfl, fun h => by cases h⟩
  | cons x l =>
    have hlen : k < b.size := by
      have h := congrArg List.length hl
      rw [hs, List.length_drop, hz, List.length_cons] at h
      omega
    have hll : l.length = b.size - k - 1 := by
      have h := congrArg List.length hl
      rw [hs, List.length_drop, hz, List.length_cons] at h
      omega
    have hx : b.data.toList.getD k 0 = x := by
      have h : (b.data.toList.drop k)[0]? = some x := by rw [hl, hs]; rfl
      rw [List.getElem?_drop, Nat.add_zero] at h
      rw [List.getD, h]
      rfl
    have hd : b.data.toList.drop (k + 1) = l := by
      have h : (b.data.toList.drop k).drop 1 = l := by rw [hl, hs]; rfl
      rwa [List.drop_drop] at h
    simp only
    by_cases hb : x.toNat ≤ l.length
    · rw [if_pos hb, textS_ok _ k x.toNat (by rw [hz]; omega) (by rw [hx]) (by rw [hz]; omega)]
      refine ⟨k + 1 + x.toNat, by show (k : Int) + 1 + (x.toNat : Int) = _; omega, by omega, by rw [hd], rfl, fun _ => ?_⟩
      show _ = l.drop x.toNat
      rw [← hd, List.drop_drop]
    · rw [if_neg hb, textS_few _ k x.toNat (by rw [hz]; omega) (by rw [hx]) (by rw [hz]; omega)]
      exact ⟨0, rfl, by omega, rfl, rfl, fun h => by cases h⟩

set_option maxRecDepth 4000 in
set_option maxHeartbeats 1600000 in
theorem rtext_any (g : Nat) (b : ByteArray) (s : St) (w : World) (hb : b.size ≤ 140737488355328) (h : RdAt w g b s) :
    Calls Try.prog 31 #[.pointer (some ⟨g, 0, none⟩)] w fun e w' => e = .returned (.string (pText s).1) ∧ RdAt w' g b (pText s).2 ∧ w.grownBy w' (some g) := by
  obtain ⟨p, hr, hp, hs⟩ := h
  have c0 := hr.cell 0 (.string b) rfl
  have c1 := hr.cell 1 (.int .i64 (p : Int)) rfl
  have c2 := hr.cell 2 (.int .i64 s.e) rfl
  have HR := hide hr
  clear hr
  by_cases he : s.e = 0
  · obtain ⟨hp2, hl⟩ := hs he
    obtain ⟨k2, t0, tz, t1, t2, t3⟩ := text_take b s p he hp2 hl
    have HT := hide (fun w => rttext_any b (p : Int) w hb)
    rw [t0, t1, t2] at HT
    have H3 := hide (And.intro tz t3)
    rw [he] at c2 HR
    clear t0 tz t1 t2 t3 hs hl he
    generalize pText s = ns at *
    obtain ⟨n, s'⟩ := ns
    simp only at HT H3
    go_enter Try.func31, Try.ntmps31
    go_wp2_with fail
    refine wp_region_in (fun x => w.grownBy x none ∧ RowAt x g 60 (rdA b p 0)) (by kernel_rfl) (by kernel_rfl) ⟨grown_drew (grown_refl w none), HR.out⟩ ?_
    clear HR c0 c1 c2
    repeat (first
      | go_big_quiet_skip
      | (refine wpQuiet_load rfl 9 (.tmp 14) rfl _ (.string b) rfl (fun y hy => load_s y b (hy.2.cell 0 (.string b) rfl)) ?_; simp only [Act.put, Array.setIfInBounds, List.size_toArray, List.length_cons, List.length_nil, Nat.reduceAdd, Nat.reduceLT, ↓reduceDIte, List.set_toArray, List.set_cons_succ, List.set_cons_zero])
      | (refine wpQuiet_load rfl 3 (.tmp 18) rfl _ (.int .i64 (p : Int)) rfl (fun y hy => load_i64 y (p : Int) (hy.2.cell 1 (.int .i64 (p : Int)) rfl)) ?_; simp only [Act.put, Array.setIfInBounds, List.size_toArray, List.length_cons, List.length_nil, Nat.reduceAdd, Nat.reduceLT, ↓reduceDIte, List.set_toArray, List.set_cons_succ, List.set_cons_zero])
      | (refine wpQuiet_call rfl 50 #[.string b, .int .i64 (p : Int)] (.tuple #[.string n, .int .i64 (k2 : Int), .int .i64 s'.e]) ?_ (fun x hC => (HT.out x).mono fun e x' h => ⟨h.1, h.2 ▸ hC⟩) ?_; (intro x; go_simp); simp only [Act.put, Array.setIfInBounds, List.size_toArray, List.length_cons, List.length_nil, Nat.reduceAdd, Nat.reduceLT, ↓reduceDIte, List.set_toArray, List.set_cons_succ, List.set_cons_zero])
      | (refine wpQuiet_plain rfl (fun K hK => ?_); go_simp; refine hK _ ?_; clear hK K))
    refine wpQuiet_nil ?_
    intro x hx
    have q1 := hx.2.cell 1 (.int .i64 (p : Int)) rfl
    have q2 := hx.2.cell 2 (.int .i64 0) rfl
    have f1 := hx.2.free 1
    have f2 := hx.2.free 2
    have HX : Hid (RdAt ((x.setCell ⟨g, 2, none⟩ (.int .i64 s'.e)).setCell ⟨g, 1, none⟩ (.int .i64 (k2 : Int))) g b s' ∧ w.grownBy ((x.setCell ⟨g, 2, none⟩ (.int .i64 s'.e)).setCell ⟨g, 1, none⟩ (.int .i64 (k2 : Int))) (some g)) :=
      ⟨⟨k2, rd_set hx.2 k2 s'.e, by have := H3.out.1; omega, fun h => ⟨H3.out.1, H3.out.2 h⟩⟩, grown_set _ (grown_set _ (grown_any hx.1))⟩
    clear hx HT H3
    generalize s'.e = es at *
    go_wp2
    go_ret
    exact ⟨rfl, HX.out.1, HX.out.2⟩
  · have e : pText s = (⟨#[]⟩, s) := by unfold pText; rw [if_pos he]
    rw [e]
    have k0 : (s.e == 0) = false := by rw [beq_eq_false_iff_ne]; exact he
    have k1 : (s.e != 0) = true := by rw [bne, k0]; rfl
    have HP := hide (show RdAt w g b s from ⟨p, HR.out, hp, fun h => absurd h he⟩)
    clear HR he hs e
    generalize s.e = es at *
    go_enter Try.func31, Try.ntmps31
    go_wp2
    go_ret
    exact ⟨rfl, HP.out, grown_refl _ _⟩

theorem grown_trans {w x y : World} {o : Option Nat} (h : w.grownBy x o) (g : x.grownBy y o) : w.grownBy y o :=
  ⟨g.os.trans h.os, g.tape.trans h.tape, g.output.trans h.output, Nat.le_trans h.size g.size, fun k hk hn => (g.block k (Nat.lt_of_lt_of_le hk h.size) hn).trans (h.block k hk hn)⟩

set_option maxRecDepth 4000 in
set_option maxHeartbeats 1600000 in
theorem rmany_any (g : Nat) (b : ByteArray) (s : St) (m : Nat) (w : World) (hb : b.size ≤ 140737488355328) (h : RdAt w g b s) :
    Calls Try.prog 32 #[.pointer (some ⟨g, 0, none⟩), .int .u64 (m : Int)] w fun e w' => e = .returned (.int .u64 ((pIn 0 m s).1 : Int)) ∧ RdAt w' g b (pIn 0 m s).2 ∧ w.grownBy w' (some g) := by
  have HN := hide (rnum_any g b s 1 w (by omega) hb h)
  have ei : pIn 0 m s = if (pNum 1 s).2.e = 0 ∧ ((pNum 1 s).1 < 0 ∨ m < (pNum 1 s).1) then ((pNum 1 s).1, ⟨(pNum 1 s).2.l, 2⟩) else pNum 1 s := rfl
  have HE := hide ei
  clear h ei
  generalize pIn 0 m s = r at *
  generalize pNum 1 s = ns at *
  obtain ⟨n, s'⟩ := ns
  simp only at HN HE
  go_enter Try.func32, Try.ntmps32
  go_wp2_with fail
  refine HN.out.mono ?_
  rintro e w1 ⟨rfl, hr, hg⟩
  clear HN
  obtain ⟨p, hr1, hp, hs⟩ := hr
  have c2 := hr1.cell 2 (.int .i64 s'.e) rfl
  have f2 := hr1.free 2
  by_cases he : s'.e = 0
  · by_cases hm : m < n
    · have er : r = (n, ⟨s'.l, 2⟩) := by rw [HE.out, if_pos ⟨he, .inr hm⟩]
      subst er
      have i1 : (m : Int) < (n : Int) := by omega
      have HX : Hid (RdAt (w1.setCell ⟨g, 2, none⟩ (.int .i64 2)) g b ⟨s'.l, 2⟩ ∧ w.grownBy (w1.setCell ⟨g, 2, none⟩ (.int .i64 2)) (some g)) := ⟨⟨p, hr1.set 2 (.int .i64 2), hp, fun h => by cases h⟩, grown_set _ hg⟩
      rw [he] at c2
      clear HE hr1 hs hg hm
      go_wp2
      go_ret
      exact ⟨rfl, HX.out.1, HX.out.2⟩
    · have er : r = (n, s') := by rw [HE.out, if_neg (by omega)]
      subst er
      have i1 : ¬ (m : Int) < (n : Int) := by omega
      have HX : Hid (RdAt w1 g b s' ∧ w.grownBy w1 (some g)) := ⟨⟨p, hr1, hp, hs⟩, hg⟩
      rw [he] at c2
      clear HE hr1 hs hg hm
      go_wp2
      go_ret
      exact ⟨rfl, HX.out.1, HX.out.2⟩
  · have er : r = (n, s') := by rw [HE.out, if_neg (fun h => he h.1)]
    subst er
    have k0 : (s'.e == 0) = false := by rw [beq_eq_false_iff_ne]; exact he
    have HX : Hid (RdAt w1 g b s' ∧ w.grownBy w1 (some g)) := ⟨⟨p, hr1, hp, hs⟩, hg⟩
    clear HE hr1 hs hg he
    generalize s'.e = es at *
    go_wp2
    go_ret
    exact ⟨rfl, HX.out.1, HX.out.2⟩
end Go.Proofs.Ytmapgfakfeddmaa
