/-
  The contracts of Free and Holds: all locks of somebody taken back; the mode in which somebody has a thing.
-/
import Derived.Test.YtmlbghloddiflaaLkStop
namespace Go.Proofs.Ytmlbghloddiflaa
open Go.RowKit
set_option linter.unusedVariables false

theorem TAt.congr {w : World} {g : Nat} {p q : Pt} {S : Nat → Sl} (h : TAt w g p S) (he : ∀ s, s < 576 → q.sl s = p.sl s) : TAt w g q S := by
  have e : tabA q.sl S = tabA p.sl S := by
    unfold tabA
    congr 1
    funext s
    rw [he s.1 s.2]
  exact ⟨by rw [e]; exact h.row, fun s hs => by rw [he s hs]; exact h.has s hs, h.one⟩
def Pt.dropped (p : Pt) (who : Int) : Pt := { p with had := fun x => awayL (p.had x) who }
def Pt.dropTo (p : Pt) (who : Int) (x : Nat) : Pt := { p with had := fun y => if y < x then awayL (p.had y) who else p.had y }
theorem dropTo_next (p : Pt) (who : Int) (x : Nat) : (p.dropTo who x).setHad x (awayL ((p.dropTo who x).had x) who) = p.dropTo who (x + 1) := by
  show (⟨setF (fun y => if y < x then awayL (p.had y) who else p.had y) x (awayL (if x < x then awayL (p.had x) who else p.had x) who), p.row⟩ : Pt) = ⟨fun y => if y < x + 1 then awayL (p.had y) who else p.had y, p.row⟩
  congr 1
  funext y
  unfold setF
  by_cases e : y = x
  · subst e
    rw [if_pos rfl, if_neg (Nat.lt_irrefl _), if_pos (by omega)]
  · rw [if_neg e]
    show (if y < x then awayL (p.had y) who else p.had y) = _
    by_cases h : y < x
    · rw [if_pos h, if_pos (by omega)]
    · rw [if_neg h, if_neg (by omega)]
theorem dropTo_ok {p : Pt} {N : Nat} (h : p.ok N) (who : Int) (x : Nat) : (p.dropTo who x).ok N := by
  refine ⟨fun y hy => ?_, fun y hy => ?_⟩
  · show SortW (if y < x then awayL (p.had y) who else p.had y)
    split
    · exact sort_away (h.srt y hy) who
    · exact h.srt y hy
  · show (if y < x then awayL (p.had y) who else p.had y).length + (p.row y).length ≤ N
    have h1 := h.len y hy
    have h2 : (awayL (p.had y) who).length ≤ (p.had y).length := List.length_filter_le _ _
    split <;> omega
theorem dropped_ok {p : Pt} {N : Nat} (h : p.ok N) (who : Int) : (p.dropped who).ok N :=
  ⟨fun y hy => sort_away (h.srt y hy) who, fun y hy => by
    have h1 := h.len y hy
    have h2 : (awayL (p.had y) who).length ≤ (p.had y).length := List.length_filter_le _ _
    show (awayL (p.had y) who).length + (p.row y).length ≤ N
    omega⟩
theorem dropTo_all (p : Pt) (who : Int) : ∀ s, s < 576 → (p.dropped who).sl s = (p.dropTo who 288).sl s := fun s hs => by
  unfold Pt.sl
  split
  · show awayL (p.had (s / 2)) who = if s / 2 < 288 then awayL (p.had (s / 2)) who else p.had (s / 2)
    rw [if_pos (by omega)]
  · rfl
section
variable {w : World} {g : Nat} {p : Pt} {S : Nat → Sl}
set_option maxRecDepth 8000 in
set_option maxHeartbeats 3200000 in
theorem free13 (h : TAt w g p S) {N : Nat} (hok : p.ok N) (hN : N ≤ 100000) (hfx : ∀ x q, x < 288 → q ∈ p.row x → q.fine ∧ q.x = (x : Int)) (hd : ∀ x, x < 288 → (p.row x).Pairwise fun a b => a.w ≠ b.w) (who : Int) :
    Calls Try.prog 23 #[.pointer (some ⟨g, 0, none⟩), .int .i64 who] w fun e w' => ∃ v p1, Stopped (p.dropped who) who p1 ∧ e = .returned v ∧ OwnI w.heap.size w' v (lookAll p1).2 ∧ Aft w g S (lookAll p1).1 w' := by
  have HOK := hide hok
  have HFX := hide hfx
  have HDI := hide hd
  have H := hide h
  have HS := hide (fun y => size13 ⟨g, 0, none⟩ y)
  clear h hok hfx hd
  go_enter Try.func23, Try.ntmps23
  go_wp2_with fail
  refine (HS.out _).mono ?_
  rintro e w0 ⟨rfl, rfl⟩
  go_wp2
  go_loopw [8] (fun q wr => ∃ x : Nat, x ≤ 288 ∧ q = .int .i64 x ∧ Hid (Aft w g S (p.dropTo who x) wr)) (fun q _ => 288 - (intOf q).toNat)
  case atStart => exact ⟨0, Nat.zero_le _, rfl, show Aft w g S (p.dropTo who 0) w from Aft.same (show TAt w g (p.dropTo who 0) S from H.out.congr (fun s _ => by
      unfold Pt.sl
      split
      · rfl
      · rfl)) (Below.refl _ _)⟩
  case round =>
    obtain ⟨x, hx, rfl, HR⟩ := hrel
    obtain ⟨S', hT', hTn, hF'⟩ := HR.out
    by_cases hlt : x < 288
    · have i1 : (x : Int) < 288 := by omega
      have hk := dropTo_ok HOK.out who x
      have HB := hide (back13 hT' hlt (hk.srt x hlt) (by have := hk.len x hlt; omega) who)
      rw [dropTo_next] at HB
      have HF := hide (And.intro hTn hF')
      clear hT' hTn hF' hk HR
      go_wp2_with fail
      refine HB.out.mono ?_
      rintro e w4 ⟨⟨v, rfl⟩, hA⟩
      have HR2 := hide (show Aft w g S (p.dropTo who (x + 1)) w4 from by
        obtain ⟨S4, a, b, c, _⟩ := hA
        exact ⟨S4, a, HF.out.1.trans b HF.out.2, fun k hk => by
          rcases c k hk with h | h
          · exact HF.out.2 k h
          · exact .inr (Nat.le_trans HF.out.1.size h)⟩)
      clear hA
      go_wp2
      go_roundw
      case rel => exact ⟨x + 1, by omega, by go_num, HR2⟩
      case measure => simp [intOf]; omega
    · have i1 : ¬ (x : Int) < 288 := by omega
      have ex : x = 288 := by omega
      rw [ex] at hT'
      have hT2 : TAt wr g (p.dropped who) S' := hT'.congr (dropTo_all p who)
      have HST := hide (stop13 hT2 (dropped_ok HOK.out who) hN HFX.out HDI.out who)
      have HF := hide (And.intro hTn hF')
      clear hT' hT2 hTn hF' HR ex
      go_wp2_with fail
      refine HST.out.mono ?_
      rintro e w4 ⟨v, p1, hp1, rfl, hO, hA⟩
      have HE := hide (show Stopped (p.dropped who) who p1 ∧ OwnI w.heap.size w4 v (lookAll p1).2 ∧ Aft w g S (lookAll p1).1 w4 from ⟨hp1, hO.weak HF.out.1.size, by
        obtain ⟨S4, a, b, c⟩ := hA
        exact ⟨S4, a, HF.out.1.trans b HF.out.2, fun k hk => by
          rcases c k hk with h | h
          · exact HF.out.2 k h
          · exact .inr (Nat.le_trans HF.out.1.size h)⟩⟩)
      clear hp1 hO hA
      go_wp2
      go_ret
      exact ⟨_, p1, HE.out.1, rfl, HE.out.2⟩
set_option maxRecDepth 4000 in
set_option maxHeartbeats 800000 in
theorem tholds13 (h : TAt w g p S) (hs : ∀ x, x < 288 → SortW (p.had x)) (hl : ∀ x, x < 288 → (p.had x).length ≤ 1000000) (who thing : Int) : Calls Try.prog 17 #[.pointer (some ⟨g, 0, none⟩), .int .i64 who, .int .i64 thing] w fun e w' => e = .returned (.int .i64 (if 0 ≤ thing ∧ thing < 288 then atW (p.had thing.toNat) who else 0)) ∧ Below w.heap.size w w' := by
  by_cases ht : 0 ≤ thing ∧ thing < 288
  · rw [if_pos ht]
    obtain ⟨x, rfl⟩ : ∃ x : Nat, thing = (x : Int) := ⟨thing.toNat, by omega⟩
    have hx : x < 288 := by omega
    have HA := hide (at13 g w x hx)
    have HH := hide (holds13 h hx (hs x hx) (hl x hx) who)
    have et : ((x : Int)).toNat = x := by omega
    rw [et]
    clear h hs hl ht et
    generalize atW (p.had x) who = m at *
    go_enter Try.func17, Try.ntmps17
    go_wp2_with fail
    refine HA.out.mono ?_
    rintro e w1 ⟨rfl, rfl⟩
    go_wp2_with fail
    refine HH.out.mono ?_
    rintro e w1 ⟨rfl, hb⟩
    have HB := hide hb
    clear hb
    go_wp2
    go_ret
    exact ⟨rfl, HB.out⟩
  · rw [if_neg ht]
    have HA := hide (at13_no (.pointer (some ⟨g, 0, none⟩)) w 288 (.inr ⟨⟨_, rfl⟩, rfl⟩) thing ht)
    clear h hs hl ht
    go_enter Try.func17, Try.ntmps17
    go_wp2_with fail
    refine HA.out.mono ?_
    rintro e w1 ⟨rfl, rfl⟩
    go_wp2
    go_ret
    exact ⟨rfl, Below.refl _ _⟩
end
end Go.Proofs.Ytmlbghloddiflaa
