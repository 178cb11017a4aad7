/-
  The contract of the code's Cut.
-/
import Derived.Test.YtkdlmblkckmhaaaTapeBytes
import Derived.Test.YtkdlmblkckmhaaaTapeChop
namespace Go.Proofs.Ytkdlmblkckmhaaa
open Go.RowKit
set_option linter.unusedVariables false

set_option maxRecDepth 4000 in
set_option maxHeartbeats 800000 in
theorem cut8_no (gt gb : Nat) (t : Tp) (n : Int) (w : World) (h : TpAt w gt gb t) (hn : n < 0 ∨ (t.f : Int) < n) :
    Calls Try.prog 20 #[.pointer (some ⟨gt, 0, none⟩), .int .i64 n] w fun e w' => e = .returned (.int .i64 1) ∧ w = w' := by
  obtain ⟨cap, a, h⟩ := h
  have c1 := h.1.cell 1 _ rfl
  clear h
  by_cases h1 : n < 0
  · clear hn
    go_enter Try.func20, Try.ntmps20
    go_wp2
    go_ret
    exact ⟨rfl, rfl⟩
  · have h2 : (t.f : Int) < n := by omega
    clear hn
    go_enter Try.func20, Try.ntmps20
    go_wp2
    go_ret
    exact ⟨rfl, rfl⟩

/-- The rest moves to the front. -/
theorem TpV.move {w : World} {gt gb cap : Nat} {a : Option Addr} {t : Tp} (h : TpV w gt gb cap a t) (n : Nat) (hn : n ≤ t.b.size) (a2 : Option Addr) (c2 m : Nat) (hm : t.b.size - n = m) (hs : m = 0 ∨ a = some ⟨gb, 0, none⟩ ∧ a2 = some ⟨gb, n, none⟩) :
    ∃ w2, (Builtin.copy_ #[29, 29] 3 #[.slice a t.b.size cap, .slice a2 m c2]).run Try.prog w = .ok (.int .i64 (m : Int)) w2 ∧ RowAt w2 gt 32 #[.slice a t.b.size cap, .int .i64 (t.f : Int), .int .u64 (t.s : Int), .int .i64 (t.m : Int)] ∧ Turn gt gb w w2 ∧ TpV (w2.setCell ⟨gt, 0, none⟩ (.slice a m cap)) gt gb cap a { t with b := t.b.extract n t.b.size } := by
  subst hm
  have hz : (t.b.extract n t.b.size).size = t.b.size - n := by rw [ByteArray.size_extract]; omega
  have hd : (t.b.extract n t.b.size).data.toList = t.b.data.toList.drop n := by
    have e := extract_eq t.b n (t.b.size - n) (by omega)
    rw [show n + (t.b.size - n) = t.b.size by omega] at e
    rw [e]
    exact List.take_of_length_le (by rw [List.length_drop, data_length]; omega)
  have fin : ∀ w2, RowAt w2 gt 32 #[.slice a t.b.size cap, .int .i64 (t.f : Int), .int .u64 (t.s : Int), .int .i64 (t.m : Int)] → (w2.setCell ⟨gt, 0, none⟩ (.slice a (t.b.size - n) cap)).ownsRow 0 5 1 (.slice a (t.b.size - n) cap) (t.b.size - n) (toV (t.b.data.toList.drop n)) → TpV (w2.setCell ⟨gt, 0, none⟩ (.slice a (t.b.size - n) cap)) gt gb cap a { t with b := t.b.extract n t.b.size } := by
    intro w2 h1 h2
    refine ⟨?_, ?_, h.2.2⟩
    · show RowAt _ gt _ #[.slice a (t.b.extract n t.b.size).size cap, _, _, _]
      rw [hz]
      exact RowAt.set h1 0 _
    · show World.ownsRow _ 0 _ 1 (.slice a (t.b.extract n t.b.size).size cap) (t.b.extract n t.b.size).size (toV (t.b.extract n t.b.size).data.toList)
      rw [hz, hd]
      exact h2
  have hdl : (t.b.data.toList.drop n).length = t.b.size - n := by rw [List.length_drop, data_length]
  rcases Nat.eq_zero_or_pos (t.b.size - n) with h0 | hp
  · refine ⟨w, ?_, h.1, Turn.refl _ _ _, fin w h.1 ?_⟩
    · rw [h0]
      exact run_copy_none (P := Try.prog) w 29 29 3 5 a a2 t.b.size cap 0 c2 Try.underlying29 info8s (Nat.zero_min _)
    · have hnil : t.b.data.toList.drop n = [] := List.eq_nil_of_length_eq_zero (by omega)
      rw [h0, hnil]
      rcases h.own with ⟨rfl, _, _, rfl⟩ | ⟨rfl, h2, h3, h4, h5, cur, h6, h7, h8⟩
      · exact World.ownsRow_nil _ _ _ _
      · exact ⟨rfl, .inr ⟨gb, cap, cur, rfl, Nat.zero_le _, (heap_setCell_other w ⟨gt, 0, none⟩ gb _ (fun e => h2 e.symm)).trans h6, Nat.zero_le _, h5, by simpa using h7, by simp [toV]⟩⟩
  · obtain ⟨ha, rfl⟩ : a = some ⟨gb, 0, none⟩ ∧ a2 = some ⟨gb, n, none⟩ := by
      rcases hs with h1 | h1
      · omega
      · exact h1
    rcases h.own with ⟨e, _⟩ | ⟨_, h2, h3, h4, h5, cur, h6, h7, h8⟩
    · rw [ha] at e
      cases e
    subst ha
    have hB := h.isB
    have r1 := run_copy_row Try.prog w 29 29 3 5 gb 0 t.b.size cap ⟨gb, n, none⟩ (t.b.size - n) c2 cur 5 (toV (t.b.data.toList.drop n)) Try.underlying29 info8s h6 (by rw [toV_length, hdl]; exact (Nat.min_eq_left (Nat.sub_le _ _)).symm) (fun j v hv => by
      obtain ⟨g1, rfl⟩ := toV_some _ j v hv
      rw [Addr.add_lit]
      obtain ⟨b', off', hb', _, hc⟩ := hB.2 (by omega)
      cases hb'
      have := hc (n + j) (by omega)
      rw [Nat.zero_add] at this
      rw [this]
      simp only [List.getD_eq_getElem?_getD, List.getElem?_drop]) (by rw [toV_length, hdl, h7]; omega) (toV_one _)
    rw [toV_length, hdl] at r1
    refine ⟨_, r1, (setRow_other w gb gt _ h2).trans h.1, ⟨rfl, rfl, rfl, by simp, fun k _ _ hk => setRow_other w gb k _ hk⟩, fin _ ((setRow_other w gb gt _ h2).trans h.1) ⟨by rw [toV_length, hdl, Nat.mul_one], .inr ⟨gb, cap, _, rfl, Nat.zero_le _, (heap_setCell_other _ ⟨gt, 0, none⟩ gb _ (fun e => h2 e.symm)).trans (setRow_heap w gb cur _ 5 _ h6), by omega, h5, ?_, ?_⟩⟩⟩
    · simp only [List.size_toArray, List.length_append, List.length_take, List.length_drop, Array.length_toList, toV_length, h7]
      have := data_length t.b
      rw [Array.length_toList] at this
      omega
    · rw [Nat.mul_one]
      simp only [List.take_zero, List.nil_append]
      have e2 : t.b.size - n = (toV (t.b.data.toList.drop n)).length := by rw [toV_length, hdl]
      rw [e2]
      exact List.take_left

theorem TpV.sets {w : World} {gt gb cap : Nat} {a : Option Addr} {t : Tp} (h : TpV w gt gb cap a t) (s : Int) (n : Nat) (hf : s = (n : Int)) : TpV (w.setCell ⟨gt, 2, none⟩ (.int .u64 s)) gt gb cap a { t with s := n } := by
  subst hf
  refine ⟨RowAt.set h.1 2 _, ?_, h.2.2⟩
  rcases h.own with ⟨rfl, _, h2, rfl⟩ | ⟨rfl, h2, h3, h4, h5, cur, h6, h7, h8⟩
  · show World.ownsRow _ 0 5 1 (.slice none t.b.size 0) t.b.size (toV t.b.data.toList)
    have hd : t.b.data.toList = [] := List.eq_nil_of_length_eq_zero (by rw [data_length, h2])
    rw [h2, hd]
    exact World.ownsRow_nil _ _ _ _
  · exact ⟨h.2.1.1, .inr ⟨gb, cap, cur, rfl, Nat.zero_le _, (heap_setCell_other w ⟨gt, 2, none⟩ gb _ (fun e => h2 e.symm)).trans h6, h4, h5, by simpa using h7, by simpa using h8⟩⟩

/-- What Cut leaves of a tape. -/
theorem TpV.cut {w2 : World} {gt gb cap m : Nat} {a : Option Addr} {t : Tp} {n : Nat} (h : TpV (w2.setCell ⟨gt, 0, none⟩ (.slice a m cap)) gt gb cap a { t with b := t.b.extract n t.b.size }) (f s : Int) (hf : f = ((t.f - n : Nat) : Int)) (hs : s = (((t.s + n) % 18446744073709551616 : Nat) : Int)) :
    TpV (((w2.setCell ⟨gt, 0, none⟩ (.slice a m cap)).setCell ⟨gt, 1, none⟩ (.int .i64 f)).setCell ⟨gt, 2, none⟩ (.int .u64 s)) gt gb cap a ⟨t.b.extract n t.b.size, t.f - n, t.m, (t.s + n) % 18446744073709551616⟩ := (h.setf f _ hf).sets s _ hs

set_option maxRecDepth 4000 in
set_option maxHeartbeats 1600000 in
theorem cut8_go (gt gb cap : Nat) (a : Option Addr) (t : Tp) (n : Nat) (w : World) (h : TpV w gt gb cap a t) (ok : t.ok) (hn : n ≤ t.f) (hc : ¬ cap = n) (hcap : t.b.size ≤ cap) (ha : a = some ⟨gb, 0, none⟩) :
    Calls Try.prog 20 #[.pointer (some ⟨gt, 0, none⟩), .int .i64 (n : Int)] w fun e w' => e = .returned (.int .i64 0) ∧ TpAt w' gt gb ⟨t.b.extract n t.b.size, t.f - n, t.m, (t.s + n) % 18446744073709551616⟩ ∧ Turn gt gb w w' := by
  subst ha
  have h3 : n ≤ t.b.size := Nat.le_trans hn ok.fast
  have hz := ok.few
  have hy := ok.room
  have hx := ok.fast
  have hs := ok.went
  obtain ⟨w2, q1, q2, q3, q4⟩ := h.drew.move n h3 (some ⟨gb, n, none⟩) (cap - n) (t.b.size - n) rfl (.inr ⟨rfl, rfl⟩)
  have H := hide (And.intro q3 q4)
  have c0 := h.1.cell 0 (.slice (some ⟨gb, 0, none⟩) t.b.size cap) rfl
  have c1 := h.1.cell 1 _ rfl
  have d0 := q2.cell 0 (.slice (some ⟨gb, 0, none⟩) t.b.size cap) rfl
  have d1 := q2.cell 1 _ rfl
  have d2 := q2.cell 2 _ rfl
  have e0 := q2.free 0
  have e1 := q2.free 1
  have e2 := q2.free 2
  have h1 : ¬ (n : Int) < 0 := by omega
  have h2 : ¬ (t.f : Int) < (n : Int) := by omega
  have q5 : (Builtin.copy_ #[29, 29] 3 #[.slice (some ⟨gb, 0, none⟩) t.b.size cap, .slice (some ⟨gb, n, none⟩) (t.b.size - n) (cap - n)]).run Try.prog w.drew = .ok (.int .i64 ((t.b.size - n : Nat) : Int)) w2 := by
    first | exact q1 | (rw [hsz] at q1; exact q1)
  clear h ok q2 q3 q4 q1
  go_enter Try.func20, Try.ntmps20
  go_wp2_with fail
  go_region_law (refine step_copy_run rfl (.tmp 23) (.tmp 29) 29 29 rfl (.slice (some ⟨gb, 0, none⟩) t.b.size cap) (.slice (some ⟨gb, n, none⟩) (t.b.size - n) (cap - n)) (.int .i64 ((t.b.size - n : Nat) : Int)) w2 ?h1 ?h2 q5 ?_; (case h1 => simp [Act.eval, Act.put]); (case h2 => simp [Act.eval, Act.put]))
  all_goals
    go_wp2
    go_ret
    exact ⟨rfl, ⟨cap, _, H.out.2.cut _ _ (by omega) (by rw [IntKind.wrap_u64]; omega)⟩, (((((Turn.refl gt gb w).drew).trans H.out.1).set 0 _).set 1 _).set 2 _⟩

set_option maxRecDepth 4000 in
set_option maxHeartbeats 1600000 in
theorem cut8_full (gt gb : Nat) (t : Tp) (n : Nat) (w : World) (h : TpV w gt gb n (some ⟨gb, 0, none⟩) t) (ok : t.ok) (hn : n ≤ t.f) (hsz : t.b.size = n) :
    Calls Try.prog 20 #[.pointer (some ⟨gt, 0, none⟩), .int .i64 (n : Int)] w fun e w' => e = .returned (.int .i64 0) ∧ TpAt w' gt gb ⟨t.b.extract n t.b.size, t.f - n, t.m, (t.s + n) % 18446744073709551616⟩ ∧ Turn gt gb w w' := by
  have hz := ok.few
  have hy := ok.room
  have hx := ok.fast
  have hs := ok.went
  obtain ⟨w2, q1, q2, q3, q4⟩ := h.drew.move n (by omega) (some ⟨gb, 0, none⟩) 0 0 (by omega) (.inl rfl)
  have H := hide (And.intro q3 q4)
  have c0 := h.1.cell 0 (.slice (some ⟨gb, 0, none⟩) n n) (by rw [hsz]; rfl)
  have c1 := h.1.cell 1 _ rfl
  have d0 := q2.cell 0 (.slice (some ⟨gb, 0, none⟩) n n) (by rw [hsz]; rfl)
  have d1 := q2.cell 1 _ rfl
  have d2 := q2.cell 2 _ rfl
  have e0 := q2.free 0
  have e1 := q2.free 1
  have e2 := q2.free 2
  have h1 : ¬ (n : Int) < 0 := by omega
  have h2 : ¬ (t.f : Int) < (n : Int) := by omega
  have q5 : (Builtin.copy_ #[29, 29] 3 #[.slice (some ⟨gb, 0, none⟩) n n, .slice (some ⟨gb, 0, none⟩) 0 0]).run Try.prog w.drew = .ok (.int .i64 (0)) w2 := by
    first | exact q1 | (rw [hsz] at q1; exact q1)
  have HS := hide hsz
  clear h ok q2 q3 q4 q1 hsz
  go_enter Try.func20, Try.ntmps20
  go_wp2_with fail
  go_region_law (refine step_copy_run rfl (.tmp 23) (.tmp 29) 29 29 rfl (.slice (some ⟨gb, 0, none⟩) n n) (.slice (some ⟨gb, 0, none⟩) 0 0) (.int .i64 (0)) w2 ?h1 ?h2 q5 ?_; (case h1 => simp [Act.eval, Act.put]); (case h2 => simp [Act.eval, Act.put]))
  all_goals
    go_wp2
    go_ret
    exact ⟨rfl, ⟨n, _, H.out.2.cut _ _ (by have := HS.out; omega) (by rw [IntKind.wrap_u64]; omega)⟩, (((((Turn.refl gt gb w).drew).trans H.out.1).set 0 _).set 1 _).set 2 _⟩

set_option maxRecDepth 4000 in
set_option maxHeartbeats 1600000 in
theorem cut8_none (gt gb : Nat) (t : Tp) (w : World) (h : TpV w gt gb 0 none t) (ok : t.ok) (hsz : t.b.size = 0) :
    Calls Try.prog 20 #[.pointer (some ⟨gt, 0, none⟩), .int .i64 (0 : Int)] w fun e w' => e = .returned (.int .i64 0) ∧ TpAt w' gt gb ⟨t.b.extract 0 t.b.size, t.f - 0, t.m, (t.s + 0) % 18446744073709551616⟩ ∧ Turn gt gb w w' := by
  have hz := ok.few
  have hy := ok.room
  have hx := ok.fast
  have hs := ok.went
  obtain ⟨w2, q1, q2, q3, q4⟩ := h.drew.move 0 (by omega) none 0 0 (by omega) (.inl rfl)
  have H := hide (And.intro q3 q4)
  have c0 := h.1.cell 0 (.slice none 0 0) (by rw [hsz]; rfl)
  have c1 := h.1.cell 1 _ rfl
  have d0 := q2.cell 0 (.slice none 0 0) (by rw [hsz]; rfl)
  have d1 := q2.cell 1 _ rfl
  have d2 := q2.cell 2 _ rfl
  have e0 := q2.free 0
  have e1 := q2.free 1
  have e2 := q2.free 2
  have h1 : ¬ (0 : Int) < 0 := by omega
  have h2 : ¬ (t.f : Int) < (0 : Int) := by omega
  have q5 : (Builtin.copy_ #[29, 29] 3 #[.slice none 0 0, .slice none 0 0]).run Try.prog w.drew = .ok (.int .i64 (0)) w2 := by
    first | exact q1 | (rw [hsz] at q1; exact q1)
  have HS := hide hsz
  clear h ok q2 q3 q4 q1 hsz
  go_enter Try.func20, Try.ntmps20
  go_wp2_with fail
  go_region_law (refine step_copy_run rfl (.tmp 23) (.tmp 29) 29 29 rfl (.slice none 0 0) (.slice none 0 0) (.int .i64 (0)) w2 ?h1 ?h2 q5 ?_; (case h1 => simp [Act.eval, Act.put]); (case h2 => simp [Act.eval, Act.put]))
  all_goals
    go_wp2
    go_ret
    exact ⟨rfl, ⟨0, _, H.out.2.cut _ _ (by have := HS.out; omega) (by omega)⟩, (((((Turn.refl gt gb w).drew).trans H.out.1).set 0 _).set 1 _).set 2 _⟩

theorem cut8_any (gt gb : Nat) (t : Tp) (n : Int) (w : World) (h : TpAt w gt gb t) (ok : t.ok) :
    Calls Try.prog 20 #[.pointer (some ⟨gt, 0, none⟩), .int .i64 n] w fun e w' => e = .returned (.int .i64 (t.cut n).2) ∧ TpAt w' gt gb (t.cut n).1 ∧ Turn gt gb w w' := by
  unfold Tp.cut
  by_cases hn : n < 0 ∨ (t.f : Int) < n
  · rw [if_pos hn]
    refine (cut8_no gt gb t n w h hn).mono ?_
    rintro e w' ⟨rfl, rfl⟩
    exact ⟨rfl, h, Turn.refl _ _ _⟩
  · rw [if_neg hn]
    obtain ⟨m, rfl⟩ := Int.eq_ofNat_of_zero_le (show 0 ≤ n by omega)
    have hx := ok.fast
    obtain ⟨cap, a, h⟩ := h
    rcases h.own with ⟨rfl, _, h2, rfl⟩ | ⟨rfl, _, _, h2, _⟩
    · obtain rfl : m = 0 := by omega
      exact cut8_none gt gb t w h ok h2
    · by_cases hc : cap = m
      · subst hc
        exact cut8_full gt gb t cap w h ok (by omega) (by omega)
      · exact cut8_go gt gb cap _ t m w h ok (by omega) hc h2 rfl
end Go.Proofs.Ytkdlmblkckmhaaa
