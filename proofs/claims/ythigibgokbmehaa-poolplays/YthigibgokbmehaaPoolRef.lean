/-
  The document's pool (quaysideref11) in memory: its calls on one page. (gen11/ref.py)
-/
import Derived.Test.YthigibgokbmehaaPoolMem
import Derived.Test.YthigibgokbmehaaPackMath
import Derived.Test.YthigibgokbmehaaProg
import Derived.Deep.QuietTactic
import Derived.BigQuiet
import Derived.BigRegion
namespace Go.Proofs.Ythigibgokbmehaa
open Go.RowKit
set_option linter.unusedVariables false

abbrev PD (w : World) (g gr : Nat) (p : Po) : Prop := PAt dfL 70 72 w g gr p
theorem PAt.dix {tp tf : TypeId} {w : World} {g gr : Nat} {p : Po} (h : PAt dfL tp tf w g gr p) {i : Nat} (hi : i < p.n) :
    w.cell? ⟨gr, i * 6, none⟩ = some (.int .i64 (if (p.fr i).u = true then (p.fr i).id else -1)) ∧ w.cell? ⟨gr, i * 6 + 1, none⟩ = some (p.fr i).x ∧ w.cell? ⟨gr, i * 6 + 2, none⟩ = some (.bool (p.fr i).m) ∧ w.cell? ⟨gr, i * 6 + 3, none⟩ = some (.int .i64 ((p.fr i).f : Int)) ∧ w.cell? ⟨gr, i * 6 + 4, none⟩ = some (.bool (decide ((p.fr i).r ≠ 0))) ∧ w.cell? ⟨gr, i * 6 + 5, none⟩ = some (.int .u64 (p.fr i).r) :=
  ⟨h.cell hi 0 _ rfl, h.cell hi 1 _ rfl, h.cell hi 2 _ rfl, h.cell hi 3 _ rfl, h.cell hi 4 _ rfl, h.cell hi 5 _ rfl⟩
theorem infoD11f : (Try.prog.info? 72).map (·.size) = some 6 := by kernel_rfl
/-- A frame's place as the document tells it. -/
def atI (o : Option Nat) : Int := match o with
  | none => -1
  | some i => (i : Int)
theorem page_is {p : Po} {b j : Nat} (h : p.ok b) (hj : j < p.n) (id : Int) (h0 : 0 ≤ id) : (if (p.fr j).u = true then (p.fr j).id else -1) = id ↔ ((p.fr j).u = true ∧ (p.fr j).id = id) := by
  cases e : (p.fr j).u with
  | true => simp
  | false => simp; omega
theorem page_gap {p : Po} {b j : Nat} (h : p.ok b) (hj : j < p.n) : (if (p.fr j).u = true then (p.fr j).id else -1) < 0 ↔ (p.fr j).u = false := by
  cases e : (p.fr j).u with
  | true => simp; have := (h.ids j hj e).1; omega
  | false => simp
section
variable {w : World} {g gr b : Nat} {p : Po}
set_option maxRecDepth 4000 in
set_option maxHeartbeats 800000 in
theorem rat11 (id : Int) (ho : p.ok b) (h : PD w g gr p) : Calls Try.prog 60 #[.pointer (some ⟨g, 0, none⟩), .int .i64 id] w fun e w' => e = .returned (.int .i64 (atI (p.at id))) ∧ w = w' := by
  have HH := hide h
  have HO := hide ho
  have hn := ho.n16
  obtain ⟨cap, c0, c1, hc, hc2⟩ := h.c0
  clear h ho
  by_cases hid : id < 0
  · have hid2 : ¬ 0 ≤ id := by omega
    have HN := hide (show p.at id = none from Po.at_none.2 (fun k hk g => by
      have := (HO.out.ids k hk g.1).1
      rw [g.2] at this
      omega))
    go_enter Try.func60, Try.ntmps60
    go_wp2
    go_loopw [11] (fun v wr => ∃ j : Nat, j ≤ p.n ∧ v = .int .i64 j ∧ wr = w) (fun v _ => p.n - (intOf v).toNat)
    case atStart => exact ⟨0, Nat.zero_le _, rfl, rfl⟩
    case round =>
      obtain ⟨j, hj, rfl, rfl⟩ := hrel
      by_cases hlt : j < p.n
      · have i1 : (j : Int) < p.n := by omega
        go_wp2
        go_roundw
        case rel => exact ⟨j + 1, by omega, by go_num, by first | rfl | trivial⟩
        case measure => simp [intOf]; omega
      · have i1 : ¬ (j : Int) < p.n := by omega
        go_wp2
        go_ret
        exact ⟨by rw [HN.out]; rfl, rfl⟩
  · have hid2 : 0 ≤ id := by omega
    go_enter Try.func60, Try.ntmps60
    go_wp2
    go_loopw [11] (fun v wr => ∃ j : Nat, j ≤ p.n ∧ v = .int .i64 j ∧ wr = w ∧ Hid (∀ k, k < j → ¬ ((p.fr k).u = true ∧ (p.fr k).id = id))) (fun v _ => p.n - (intOf v).toNat)
    case atStart => exact ⟨0, Nat.zero_le _, rfl, rfl, fun m hm => absurd hm (Nat.not_lt_zero _)⟩
    case round =>
      obtain ⟨j, hj, rfl, rfl, HNo⟩ := hrel
      by_cases hlt : j < p.n
      · have i1 : (j : Int) < p.n := by omega
        have d0 := (HH.out.dix hlt).1
        have HP := hide (page_is HO.out hlt id hid2)
        generalize (if (p.fr j).u = true then (p.fr j).id else -1) = z at *
        by_cases hz : z = id
        · have hz2 : (z == id) = true := by simpa using hz
          have HT := hide (show p.at id = some j from Po.at_some.2 ⟨hlt, HP.out.1 hz, HNo.out⟩)
          clear hz HP
          go_wp2
          go_ret
          exact ⟨by rw [HT.out]; rfl, rfl⟩
        · have hz2 : (z == id) = false := by simpa using hz
          have HNo2 := hide (show ∀ m, m < j + 1 → ¬ ((p.fr m).u = true ∧ (p.fr m).id = id) from fun m hm g => by
            by_cases e : m = j
            · rw [e] at g
              exact hz (HP.out.2 g)
            · exact HNo.out m (by omega) g)
          clear hz HP HNo
          go_wp2
          go_roundw
          case rel => exact ⟨j + 1, by omega, by go_num, by first | rfl | trivial, HNo2⟩
          case measure => simp [intOf]; omega
      · have i1 : ¬ (j : Int) < p.n := by omega
        have HT := hide (show p.at id = none from Po.at_none.2 (fun k hk => HNo.out k (by omega)))
        go_wp2
        go_ret
        exact ⟨by rw [HT.out]; rfl, rfl⟩
set_option maxRecDepth 4000 in
set_option maxHeartbeats 800000 in
theorem rget11 (id : Int) (hz : p.z = .string ⟨#[]⟩) (ho : p.ok b) (h : PD w g gr p) : Calls Try.prog 36 #[.pointer (some ⟨g, 0, none⟩), .int .i64 id] w fun e w' => e = .returned (.tuple #[p.getX id, .bool (p.has id)]) ∧ PD w' g gr (p.get id) ∧ Tn (FP g gr) w w' := by
  have HF := hide (rat11 id ho h)
  have HZ := hide hz
  clear hz
  unfold Po.getX Po.has Po.get
  cases e : p.at id with
  | none =>
    rw [e] at HF
    have HH := hide h
    clear h e ho
    go_enter Try.func36, Try.ntmps36
    go_wp2_with fail
    refine HF.out.mono ?_
    rintro e w1 ⟨rfl, rfl⟩
    simp only [atI]
    go_wp2
    go_ret2
    exact ⟨by simp only [HZ.out]; rfl, HH.out, Tn.refl _ _⟩
  | some i =>
    rw [e] at HF
    have hi := Po.at_lt e
    have HI := hide hi
    obtain ⟨d0, d1, d2, d3, d4, d5⟩ := h.dix hi
    obtain ⟨cap, c0, c1, hc, hc2⟩ := h.c0
    have f1 := (h.free (i * 6 + 1)).1
    have f2 := (h.free (i * 6 + 2)).1
    have f3 := (h.free (i * 6 + 3)).1
    have f4 := (h.free (i * 6 + 4)).1
    have f5 := (h.free (i * 6 + 5)).1
    have ne1 := h.apart
    have ne2 : ¬ gr = g := fun e => ne1 e.symm
    have hn := ho.n16
    have i1 : (i : Int) < p.n := by omega
    have i2 : ¬ (i : Int) < 0 := by omega
    have HH := hide h
    clear e ho
    clear h
    go_enter Try.func36, Try.ntmps36
    go_wp2_with fail
    refine HF.out.mono ?_
    rintro e w1 ⟨rfl, rfl⟩
    simp only [atI]
    go_wp2
    go_ret2
    exact ⟨rfl, HH.out.one HI.out 2 _ _ (by decide) rfl, HH.out.tn _ _⟩
set_option maxRecDepth 4000 in
set_option maxHeartbeats 800000 in
theorem rset11 (id : Int) (s : ByteArray) (r : Int) (ho : p.ok b) (h : PD w g gr p) : Calls Try.prog 38 #[.pointer (some ⟨g, 0, none⟩), .int .i64 id, .string s, .int .u64 r] w fun e w' => e = .returned (.int .i64 (p.noE id)) ∧ PD w' g gr (p.setP id (.string s) r) ∧ Tn (FP g gr) w w' := by
  have HF := hide (rat11 id ho h)
  unfold Po.noE Po.has Po.setP
  cases e : p.at id with
  | none =>
    rw [e] at HF
    have HH := hide h
    clear h e ho
    go_enter Try.func38, Try.ntmps38
    go_wp2_with fail
    refine HF.out.mono ?_
    rintro e w1 ⟨rfl, rfl⟩
    simp only [atI]
    go_wp2
    go_ret
    exact ⟨rfl, HH.out, Tn.refl _ _⟩
  | some i =>
    rw [e] at HF
    have hi := Po.at_lt e
    have HI := hide hi
    obtain ⟨d0, d1, d2, d3, d4, d5⟩ := h.dix hi
    obtain ⟨cap, c0, c1, hc, hc2⟩ := h.c0
    have f1 := (h.free (i * 6 + 1)).1
    have f2 := (h.free (i * 6 + 2)).1
    have f3 := (h.free (i * 6 + 3)).1
    have f4 := (h.free (i * 6 + 4)).1
    have f5 := (h.free (i * 6 + 5)).1
    have ne1 := h.apart
    have ne2 : ¬ gr = g := fun e => ne1 e.symm
    have hn := ho.n16
    have i1 : (i : Int) < p.n := by omega
    have i2 : ¬ (i : Int) < 0 := by omega
    have HH := hide h
    clear e ho
    clear h
    have HO := hide (HH.out.one HI.out 1 (.string s) { p.fr i with x := .string s } (by decide) rfl)
    by_cases hr : r = 0
    · have hr2 : (r != 0) = false := by simpa using hr
      have hr3 : (r == 0) = true := by simpa using hr
      have HE := hide (show (⟨(p.fr i).u, (p.fr i).id, .string s, (p.fr i).m, (p.fr i).f, if (p.fr i).r = 0 then r else (p.fr i).r⟩ : Fr) = ⟨(p.fr i).u, (p.fr i).id, .string s, (p.fr i).m, (p.fr i).f, (p.fr i).r⟩ from by
        by_cases g : (p.fr i).r = 0
        · rw [if_pos g, hr, ← g]
        · rw [if_neg g])
      show Calls Try.prog 38 #[.pointer (some ⟨g, 0, none⟩), .int .i64 id, .string s, .int .u64 r] w fun e w' => e = .returned (.int .i64 0) ∧ PD w' g gr (p.set i ⟨(p.fr i).u, (p.fr i).id, .string s, (p.fr i).m, (p.fr i).f, if (p.fr i).r = 0 then r else (p.fr i).r⟩) ∧ Tn (FP g gr) w w'
      rw [HE.out]
      clear hr
      go_enter Try.func38, Try.ntmps38
      go_wp2_with fail
      refine HF.out.mono ?_
      rintro e w1 ⟨rfl, rfl⟩
      simp only [atI]
      go_wp2
      go_ret
      exact ⟨rfl, HO.out, HH.out.tn _ _⟩
    · have hr2 : (r != 0) = true := by simpa using hr
      have hr3 : (r == 0) = false := by simpa using hr
      have HR := hide hr
      by_cases hq : (p.fr i).r = 0
      · simp only [hq, if_true]
        have hq2 : decide ((p.fr i).r ≠ 0) = false := by simp [hq]
        rw [hq2] at d4
        have HQ := hide hq
        clear hq hq2 hr
        go_enter Try.func38, Try.ntmps38
        go_wp2_with fail
        refine HF.out.mono ?_
        rintro e w1 ⟨rfl, rfl⟩
        simp only [atI]
        go_wp2
        go_ret
        refine ⟨rfl, ?_, ((HH.out.tn _ _).set _ _ _ (.inr rfl)).set _ _ _ (.inr rfl)⟩
        have h1 := HO.out
        obtain ⟨cap', cs', k1, k2, k3, k4⟩ := h1
        refine ⟨cap', _, (k1.other _ _ ne1).other _ _ ne1, (k2.set _ _).set _ _, ?_, k4⟩
        have k5 := FB.two k3 (i := i) HI.out 4 5 (.bool true) (.int .u64 r) { p.fr i with x := .string s, r := r } (by decide) (by decide) (by rw [Po.set_same]; simp [dfL, HR.out])
        rw [Po.set_set] at k5
        exact k5
      · have hq2 : decide ((p.fr i).r ≠ 0) = true := by simp [hq]
        rw [hq2] at d4
        simp only [hq, if_false]
        clear hq hr
        go_enter Try.func38, Try.ntmps38
        go_wp2_with fail
        refine HF.out.mono ?_
        rintro e w1 ⟨rfl, rfl⟩
        simp only [atI]
        go_wp2
        go_ret
        exact ⟨rfl, HO.out, HH.out.tn _ _⟩
set_option maxRecDepth 4000 in
set_option maxHeartbeats 800000 in
theorem rclean11 (id : Int) (ho : p.ok b) (h : PD w g gr p) : Calls Try.prog 39 #[.pointer (some ⟨g, 0, none⟩), .int .i64 id] w fun e w' => e = .returned (.int .i64 (p.noE id)) ∧ PD w' g gr (p.clean id) ∧ Tn (FP g gr) w w' := by
  have HF := hide (rat11 id ho h)
  unfold Po.noE Po.has Po.clean
  cases e : p.at id with
  | none =>
    rw [e] at HF
    have HH := hide h
    clear h e ho
    go_enter Try.func39, Try.ntmps39
    go_wp2_with fail
    refine HF.out.mono ?_
    rintro e w1 ⟨rfl, rfl⟩
    simp only [atI]
    go_wp2
    go_ret
    exact ⟨rfl, HH.out, Tn.refl _ _⟩
  | some i =>
    rw [e] at HF
    have hi := Po.at_lt e
    have HI := hide hi
    obtain ⟨d0, d1, d2, d3, d4, d5⟩ := h.dix hi
    obtain ⟨cap, c0, c1, hc, hc2⟩ := h.c0
    have f1 := (h.free (i * 6 + 1)).1
    have f2 := (h.free (i * 6 + 2)).1
    have f3 := (h.free (i * 6 + 3)).1
    have f4 := (h.free (i * 6 + 4)).1
    have f5 := (h.free (i * 6 + 5)).1
    have ne1 := h.apart
    have ne2 : ¬ gr = g := fun e => ne1 e.symm
    have hn := ho.n16
    have i1 : (i : Int) < p.n := by omega
    have i2 : ¬ (i : Int) < 0 := by omega
    have HH := hide h
    clear e ho
    clear h
    go_enter Try.func39, Try.ntmps39
    go_wp2_with fail
    refine HF.out.mono ?_
    rintro e w1 ⟨rfl, rfl⟩
    simp only [atI]
    go_wp2
    go_ret
    refine ⟨rfl, ?_, (HH.out.tn _ _).set _ _ _ (.inr rfl)⟩
    obtain ⟨cap', cs', k1, k2, k3, k4⟩ := HH.out
    refine ⟨cap', _, (k1.other _ _ ne1).other _ _ ne1, (k2.set _ _).set _ _, ?_, k4⟩
    exact FB.two k3 (i := i) HI.out 4 5 (.bool false) (.int .u64 0) { p.fr i with r := 0 } (by decide) (by decide) rfl
set_option maxRecDepth 4000 in
set_option maxHeartbeats 800000 in
theorem rfix11 (id : Int) (hb : ∀ i, i < p.n → (p.fr i).f ≤ 100000) (ho : p.ok b) (h : PD w g gr p) : Calls Try.prog 40 #[.pointer (some ⟨g, 0, none⟩), .int .i64 id, .int .i64 1] w fun e w' => e = .returned (.int .i64 (p.noE id)) ∧ PD w' g gr (p.fix id) ∧ Tn (FP g gr) w w' := by
  have HF := hide (rat11 id ho h)
  unfold Po.noE Po.has Po.fix
  cases e : p.at id with
  | none =>
    rw [e] at HF
    have HH := hide h
    clear h e ho
    go_enter Try.func40, Try.ntmps40
    go_wp2_with fail
    refine HF.out.mono ?_
    rintro e w1 ⟨rfl, rfl⟩
    simp only [atI]
    go_wp2
    go_ret
    exact ⟨rfl, HH.out, Tn.refl _ _⟩
  | some i =>
    rw [e] at HF
    have hi := Po.at_lt e
    have HI := hide hi
    obtain ⟨d0, d1, d2, d3, d4, d5⟩ := h.dix hi
    obtain ⟨cap, c0, c1, hc, hc2⟩ := h.c0
    have f1 := (h.free (i * 6 + 1)).1
    have f2 := (h.free (i * 6 + 2)).1
    have f3 := (h.free (i * 6 + 3)).1
    have f4 := (h.free (i * 6 + 4)).1
    have f5 := (h.free (i * 6 + 5)).1
    have ne1 := h.apart
    have ne2 : ¬ gr = g := fun e => ne1 e.symm
    have hn := ho.n16
    have i1 : (i : Int) < p.n := by omega
    have i2 : ¬ (i : Int) < 0 := by omega
    have HH := hide h
    clear e ho
    have hb' := hb i HI.out
    clear h hb
    have ew : IntKind.i64.wrap (((p.fr i).f : Int) + 1) = ((p.fr i).f : Int) + 1 := by rw [IntKind.wrap_i64]; omega
    have hge : ¬ ((p.fr i).f : Int) + 1 < 0 := by omega
    go_enter Try.func40, Try.ntmps40
    go_wp2_with fail
    refine HF.out.mono ?_
    rintro e w1 ⟨rfl, rfl⟩
    simp only [atI]
    go_wp2_with fail
    go_region
    go_wp2
    go_ret
    exact ⟨rfl, HH.out.one HI.out 3 _ _ (by decide) (by simp [dfL]), (HH.out.tn _ _).drew⟩
set_option maxRecDepth 4000 in
set_option maxHeartbeats 800000 in
theorem runfix11 (id : Int) (hb : ∀ i, i < p.n → (p.fr i).f ≤ 100000) (ho : p.ok b) (h : PD w g gr p) : Calls Try.prog 40 #[.pointer (some ⟨g, 0, none⟩), .int .i64 id, .int .i64 (-1)] w fun e w' => e = .returned (.int .i64 (p.unfixE id)) ∧ PD w' g gr (p.unfix id) ∧ Tn (FP g gr) w w' := by
  have HF := hide (rat11 id ho h)
  unfold Po.unfixE Po.unfix
  cases e : p.at id with
  | none =>
    rw [e] at HF
    have HH := hide h
    clear h e ho
    go_enter Try.func40, Try.ntmps40
    go_wp2_with fail
    refine HF.out.mono ?_
    rintro e w1 ⟨rfl, rfl⟩
    simp only [atI]
    go_wp2
    go_ret
    exact ⟨rfl, HH.out, Tn.refl _ _⟩
  | some i =>
    rw [e] at HF
    have hi := Po.at_lt e
    have HI := hide hi
    obtain ⟨d0, d1, d2, d3, d4, d5⟩ := h.dix hi
    obtain ⟨cap, c0, c1, hc, hc2⟩ := h.c0
    have f1 := (h.free (i * 6 + 1)).1
    have f2 := (h.free (i * 6 + 2)).1
    have f3 := (h.free (i * 6 + 3)).1
    have f4 := (h.free (i * 6 + 4)).1
    have f5 := (h.free (i * 6 + 5)).1
    have ne1 := h.apart
    have ne2 : ¬ gr = g := fun e => ne1 e.symm
    have hn := ho.n16
    have i1 : (i : Int) < p.n := by omega
    have i2 : ¬ (i : Int) < 0 := by omega
    have HH := hide h
    clear e ho
    have hb' := hb i HI.out
    clear h hb
    by_cases hf : (p.fr i).f = 0
    · simp only [hf, if_true]
      rw [hf] at d3
      clear hf hb'
      go_enter Try.func40, Try.ntmps40
      go_wp2_with fail
      refine HF.out.mono ?_
      rintro e w1 ⟨rfl, rfl⟩
      simp only [atI]
      go_wp2
      go_ret
      exact ⟨rfl, HH.out, Tn.refl _ _⟩
    · simp only [hf, if_false]
      have ew : IntKind.i64.wrap (((p.fr i).f : Int) + -1) = ((p.fr i).f : Int) + -1 := by rw [IntKind.wrap_i64]; omega
      have hge : ¬ ((p.fr i).f : Int) + -1 < 0 := by omega
      have HS := hide (show dfL { p.fr i with f := (p.fr i).f - 1 } = (dfL (p.fr i)).set 3 (.int .i64 (((p.fr i).f : Int) + -1)) from by simp [dfL]; omega)
      clear hf
      go_enter Try.func40, Try.ntmps40
      go_wp2_with fail
      refine HF.out.mono ?_
      rintro e w1 ⟨rfl, rfl⟩
      simp only [atI]
      go_wp2_with fail
      go_region
      go_wp2
      go_ret
      exact ⟨rfl, HH.out.one HI.out 3 _ _ (by decide) HS.out, (HH.out.tn _ _).drew⟩
set_option maxRecDepth 4000 in
set_option maxHeartbeats 800000 in
theorem rdrop11 (id : Int) (hz : p.z = .string ⟨#[]⟩) (ho : p.ok b) (h : PD w g gr p) : Calls Try.prog 42 #[.pointer (some ⟨g, 0, none⟩), .int .i64 id] w fun e w' => e = .returned (.int .i64 (p.dropE id)) ∧ PD w' g gr (p.drop id) ∧ Tn (FP g gr) w w' := by
  have HF := hide (rat11 id ho h)
  have HZ := hide hz
  clear hz
  unfold Po.dropE Po.drop
  cases e : p.at id with
  | none =>
    rw [e] at HF
    have HH := hide h
    clear h e ho
    go_enter Try.func42, Try.ntmps42
    go_wp2_with fail
    refine HF.out.mono ?_
    rintro e w1 ⟨rfl, rfl⟩
    simp only [atI]
    go_wp2
    go_ret
    exact ⟨rfl, HH.out, Tn.refl _ _⟩
  | some i =>
    rw [e] at HF
    have hi := Po.at_lt e
    have HI := hide hi
    obtain ⟨d0, d1, d2, d3, d4, d5⟩ := h.dix hi
    obtain ⟨cap, c0, c1, hc, hc2⟩ := h.c0
    have f1 := (h.free (i * 6 + 1)).1
    have f2 := (h.free (i * 6 + 2)).1
    have f3 := (h.free (i * 6 + 3)).1
    have f4 := (h.free (i * 6 + 4)).1
    have f5 := (h.free (i * 6 + 5)).1
    have ne1 := h.apart
    have ne2 : ¬ gr = g := fun e => ne1 e.symm
    have hn := ho.n16
    have i1 : (i : Int) < p.n := by omega
    have i2 : ¬ (i : Int) < 0 := by omega
    have HH := hide h
    clear e ho
    clear d0 d1 d2 d4 d5
    by_cases hf : (p.fr i).f = 0
    · simp only [hf, if_true]
      rw [hf] at d3
      obtain ⟨cap2, cs, hA, hB, hC, hD⟩ := h
      have HB := hide hB
      have HS := hide (show i * 6 + 6 ≤ cs.size from by have := hC.size; have := HI.out; omega)
      have HP := hide (show ∀ w2, RowAt w2 gr 72 (partA cs (i * 6) (dfL (Fr.empty p.z))) → Only gr w w2 → PD w2 g gr (p.set i (Fr.empty p.z)) from fun w2 h1 h2 => ⟨cap2, _, h2.row hA HH.out.apart, h1, hC.part HI.out _, hD⟩)
      rw [HZ.out] at HP
      clear hf hA hB hC hD
      go_enter Try.func42, Try.ntmps42
      go_wp2_with fail
      refine HF.out.mono ?_
      rintro e w1 ⟨rfl, rfl⟩
      simp only [atI]
      go_wp2_with (refine wpList_store_part rfl 72 _ _ rfl gr (i * 6) 72 cs (dfL (Fr.empty (.string ⟨#[]⟩))).toArray rfl rfl HB.out infoD11f HS.out ?_ ?_)
      · exact dfL_one _ rfl
      intro w2 hP hO
      have HQ := hide (HP.out w2 hP hO)
      have HT := hide (Tn.of_only (F := FP g gr) hO (.inr rfl))
      clear hP hO
      go_wp2
      go_ret
      exact ⟨rfl, by rw [HZ.out]; exact HQ.out, HT.out⟩
    · simp only [hf, if_false]
      have hf2 : (0 : Int) < ((p.fr i).f : Int) := by omega
      clear h
      go_enter Try.func42, Try.ntmps42
      go_wp2_with fail
      refine HF.out.mono ?_
      rintro e w1 ⟨rfl, rfl⟩
      simp only [atI]
      go_wp2
      go_ret
      exact ⟨rfl, HH.out, Tn.refl _ _⟩
set_option maxRecDepth 4000 in
set_option maxHeartbeats 800000 in
theorem rrec11 (id : Int) (ho : p.ok b) (h : PD w g gr p) : Calls Try.prog 43 #[.pointer (some ⟨g, 0, none⟩), .int .i64 id] w fun e w' => e = .returned (.tuple #[.int .u64 (p.recN id), .bool (decide (p.recN id ≠ 0))]) ∧ w = w' := by
  have HF := hide (rat11 id ho h)
  unfold Po.recN
  cases e : p.at id with
  | none =>
    rw [e] at HF
    have HH := hide h
    clear h e ho
    go_enter Try.func43, Try.ntmps43
    go_wp2_with fail
    refine HF.out.mono ?_
    rintro e w1 ⟨rfl, rfl⟩
    simp only [atI]
    go_wp2
    go_ret2
    exact ⟨rfl, rfl⟩
  | some i =>
    rw [e] at HF
    have hi := Po.at_lt e
    have HI := hide hi
    obtain ⟨d0, d1, d2, d3, d4, d5⟩ := h.dix hi
    obtain ⟨cap, c0, c1, hc, hc2⟩ := h.c0
    have f1 := (h.free (i * 6 + 1)).1
    have f2 := (h.free (i * 6 + 2)).1
    have f3 := (h.free (i * 6 + 3)).1
    have f4 := (h.free (i * 6 + 4)).1
    have f5 := (h.free (i * 6 + 5)).1
    have ne1 := h.apart
    have ne2 : ¬ gr = g := fun e => ne1 e.symm
    have hn := ho.n16
    have i1 : (i : Int) < p.n := by omega
    have i2 : ¬ (i : Int) < 0 := by omega
    have HH := hide h
    clear e ho
    clear h
    by_cases hr : (p.fr i).r = 0
    · have hd : decide ((p.fr i).r ≠ 0) = false := by simp [hr]
      rw [hd] at d4
      simp only [hr]
      clear hr hd
      go_enter Try.func43, Try.ntmps43
      go_wp2_with fail
      refine HF.out.mono ?_
      rintro e w1 ⟨rfl, rfl⟩
      simp only [atI]
      go_wp2
      go_ret2
      exact ⟨rfl, rfl⟩
    · have hd : decide ((p.fr i).r ≠ 0) = true := by simp [hr]
      rw [hd] at d4
      simp only [hd]
      clear hr hd
      go_enter Try.func43, Try.ntmps43
      go_wp2_with fail
      refine HF.out.mono ?_
      rintro e w1 ⟨rfl, rfl⟩
      simp only [atI]
      go_wp2
      go_ret2
      exact ⟨rfl, rfl⟩
end
end Go.Proofs.Ythigibgokbmehaa
