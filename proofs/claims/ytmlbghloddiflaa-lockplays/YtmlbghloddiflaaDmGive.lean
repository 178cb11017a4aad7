/-
  The contract of the document's give. (gen13/dgive.py)
-/
import Derived.Test.YtmlbghloddiflaaRowMem
import Derived.Test.YtmlbghloddiflaaLkRows
import Derived.Test.YtmlbghloddiflaaModeRefBoth
import Derived.Maps.AppendAt
import Derived.BigRegion
section
namespace Go.Proofs.Ytmlbghloddiflaa
open Go.RowKit
set_option linter.unusedVariables false

section
variable {P : Program}
theorem results_one {fn : Func} {p : Tmp} {t : TypeId} (h : fn.results = #[.cell p t]) (tmps : Array Value) (P : Program) (w : World) :
    (results fn tmps).run P w = ((asAddr (tmps.getD p undef)).run P w).andThen fun a w₁ => (loadVar t a).run P w₁ := by
  simp only [results, h]
  simp [Sem.run_bind, Result.andThen]
theorem res_one {fn : Func} {p : Tmp} {t : TypeId} (h : fn.results = #[.cell p t]) (tmps : Array Value) (w : World) (g : Nat) (cs : Array Value) (d : TypeDesc) (hp : tmps.getD p undef = .pointer (some ⟨g, 0, none⟩)) (hg : RowAt w g t cs)
    (hu : P.underlying t = some d) (hd : (match d with | .struct _ | .array _ _ => true | _ => false) = true) (hi : (P.info? t).map (·.size) = some cs.size) :
    (results fn tmps).run P w = .ok (.agg cs) w := by
  have h1 := run_loadVar_row (P := P) w g t t cs (0, 0) d hg hu hd hi
  rw [results_one h, hp]
  simp only [asAddr, Sem.run_pure, Result.andThen_ok, h1]
end
end Go.Proofs.Ytmlbghloddiflaa
end
section
namespace Go.Proofs.Ytmlbghloddiflaa
open Go.RowKit
set_option linter.unusedVariables false

/-- A list of the document's locks in memory of one's own. -/
def OwnR (B : Nat) (y : World) (v : Value) (l : List Hd) : Prop := y.ownsRow B 64 3 v l.length (flatH l)
theorem infoR : (Try.prog.info? 64).map (fun i => (i.zero, i.size, i.bytes)) = some (some (.agg #[.int .i64 0, .int .i64 0, .int .i64 0]), 3, 24) := by kernel_rfl
theorem infoRs : (Try.prog.info? 64).map (·.size) = some 3 := by kernel_rfl
theorem OwnR.nil (B : Nat) (y : World) : OwnR B y (.slice none 0 0) [] := World.ownsRow_nil _ _ _ _
theorem OwnR.later {B : Nat} {y z : World} {v : Value} {l : List Hd} (h : OwnR B y v l) (q : Below y.heap.size y z) : OwnR B z v l := by
  obtain ⟨h1, h2⟩ := h
  refine ⟨h1, h2.imp id ?_⟩
  rintro ⟨g, cap, cur, a, b, c, d⟩
  exact ⟨g, cap, cur, a, b, RowAt.later (show RowAt y g _ cur from c) q, d⟩
theorem OwnR.turned {F : Nat → Prop} {B : Nat} {y z : World} {v : Value} {l : List Hd} (h : OwnR B y v l) (q : Tn F y z) (hF : ∀ k, F k → ¬ v.ownBlock = some k) : OwnR B z v l := by
  obtain ⟨h1, h2⟩ := h
  refine ⟨h1, h2.imp id ?_⟩
  rintro ⟨g, cap, cur, rfl, b, c, d⟩
  have c' : RowAt y g _ cur := c
  exact ⟨g, cap, cur, rfl, b, q.row c' (fun hf => hF g hf rfl), d⟩
theorem OwnR.weak {B C : Nat} {y : World} {v : Value} {l : List Hd} (h : OwnR B y v l) (hc : C ≤ B) : OwnR C y v l := by
  obtain ⟨h1, h2⟩ := h
  refine ⟨h1, h2.imp id ?_⟩
  rintro ⟨g, cap, cur, a, b, c, d⟩
  exact ⟨g, cap, cur, a, Nat.le_trans hc b, c, d⟩
theorem OwnR.block {B : Nat} {y : World} {v : Value} {l : List Hd} (h : OwnR B y v l) {k : Nat} (hk : v.ownBlock = some k) : B ≤ k ∧ ∃ cs, RowAt y k 64 cs := by
  rcases h.2 with ⟨rfl, _⟩ | ⟨g', cap, cur, rfl, hb, hr, _⟩
  · cases hk
  · have := Option.some.inj hk
    subst this
    exact ⟨hb, cur, hr⟩
theorem OwnR.shape {B : Nat} {y : World} {v : Value} {l : List Hd} (h : OwnR B y v l) : ∃ a c, v = .slice a l.length c ∧ l.length ≤ c ∧ c ≤ maxLen := by
  rcases h.2 with ⟨rfl, h0⟩ | ⟨g', cap, cur, rfl, hb, hr, hn, hm, _⟩
  · exact ⟨none, 0, by rw [h0], by omega, by unfold maxLen; omega⟩
  · exact ⟨_, _, rfl, hn, hm⟩
theorem OwnR.at {B : Nat} {y : World} {a : Option Addr} {m c : Nat} {l : List Hd} (h : OwnR B y (.slice a m c) l) {j : Nat} {k : Hd} (hj : l[j]? = some k) : ∃ b, a = some ⟨b, 0, none⟩ ∧ y.cell? ⟨b, j * 3, none⟩ = some (.int .i64 k.w) ∧ y.cell? ⟨b, j * 3 + 1, none⟩ = some (.int .i64 k.x) ∧ y.cell? ⟨b, j * 3 + 2, none⟩ = some (.int .i64 k.m) := by
  have hjl := (List.getElem?_eq_some_iff.1 hj).1
  rcases h.2 with ⟨_, h0⟩ | ⟨g', cap, cur, e, hb, hr, hn, hm, hs, ht⟩
  · omega
  · injection e with e1 e2 e3
    have hr' : RowAt y g' 64 cur := hr
    have key : ∀ i u, (hdL k)[i]? = some u → i < 3 → y.cell? ⟨g', j * 3 + i, none⟩ = some u := fun i u hu hi => hr'.cell _ u (by
      have h2 := flatH_get l j i k hj hi
      rw [← ht, List.getElem?_take] at h2
      split at h2
      · rw [Array.getElem?_toList] at h2
        rw [h2, hu]
      · rw [hu] at h2; cases h2)
    exact ⟨g', e1, key 0 _ rfl (by omega), key 1 _ rfl (by omega), key 2 _ rfl (by omega)⟩
/-- The document's table. -/
structure RT (B : Nat) (w : World) (h : Nat) (vH vR : Value) (t : Tb) : Prop where
  blk : RowAt w h 29 #[vH, vR]
  has : OwnR B w vH t.has
  row : OwnR B w vR t.row
  off : ∀ k, vH.ownBlock = some k → ¬ vR.ownBlock = some k
  new : B ≤ h
  len : t.has.length ≤ 3000 ∧ t.row.length ≤ 3000
theorem RT.later {B : Nat} {w x : World} {h : Nat} {vH vR : Value} {t : Tb} (q : RT B w h vH vR t) (b : Below w.heap.size w x) : RT B x h vH vR t := ⟨q.blk.later b, q.has.later b, q.row.later b, q.off, q.new, q.len⟩
theorem RT.head {B : Nat} {w : World} {h : Nat} {vH vR : Value} {t : Tb} (q : RT B w h vH vR t) : w.cell? ⟨h, 0, none⟩ = some vH ∧ w.cell? ⟨h, 1, none⟩ = some vR := ⟨q.blk.cell 0 _ rfl, q.blk.cell 1 _ rfl⟩
section
set_option maxRecDepth 4000 in
set_option maxHeartbeats 400000 in
theorem rwho13 (x : Int) (w : World) : Calls Try.prog 52 #[.int .i64 x] w fun e w' => e = .returned (.bool (whoOk x)) ∧ w = w' := by
  unfold whoOk
  by_cases h1 : 1 ≤ x
  · have e1 : decide (1 ≤ x) = true := by simpa using h1
    by_cases h2 : x ≤ 8388607
    · have e2 : decide (x ≤ 8388607) = true := by simpa using h2
      rw [e1, e2]
      go_enter Try.func52, Try.ntmps52
      go_wp2
      go_ret
      exact ⟨rfl, rfl⟩
    · have e2 : decide (x ≤ 8388607) = false := by simpa using h2
      rw [e1, e2]
      go_enter Try.func52, Try.ntmps52
      go_wp2
      go_ret
      exact ⟨rfl, rfl⟩
  · have e1 : decide (1 ≤ x) = false := by simpa using h1
    rw [e1]
    go_enter Try.func52, Try.ntmps52
    go_wp2
    go_ret
    exact ⟨rfl, rfl⟩
set_option maxRecDepth 4000 in
set_option maxHeartbeats 400000 in
theorem rthing13 (x : Int) (w : World) : Calls Try.prog 53 #[.int .i64 x] w fun e w' => e = .returned (.bool (thingOk x)) ∧ w = w' := by
  unfold thingOk
  by_cases h1 : 0 ≤ x
  · have e1 : decide (0 ≤ x) = true := by simpa using h1
    by_cases h2 : x < 288
    · have e2 : decide (x < 288) = true := by simpa using h2
      rw [e1, e2]
      go_enter Try.func53, Try.ntmps53
      go_wp2
      go_ret
      exact ⟨rfl, rfl⟩
    · have e2 : decide (x < 288) = false := by simpa using h2
      rw [e1, e2]
      go_enter Try.func53, Try.ntmps53
      go_wp2
      go_ret
      exact ⟨rfl, rfl⟩
  · have e1 : decide (0 ≤ x) = false := by simpa using h1
    rw [e1]
    go_enter Try.func53, Try.ntmps53
    go_wp2
    go_ret
    exact ⟨rfl, rfl⟩
end
theorem drop_at {α : Type} (l : List α) (j : Nat) (m : α) (h : l[j]? = some m) : l.drop j = m :: l.drop (j + 1) := by
  obtain ⟨h1, rfl⟩ := List.getElem?_eq_some_iff.1 h
  exact List.drop_eq_getElem_cons h1
section
variable {B : Nat} {w : World} {h : Nat} {vH vR : Value} {t : Tb}
set_option maxRecDepth 4000 in
set_option maxHeartbeats 1600000 in
theorem rholds13 (q : RT B w h vH vR t) (who x : Int) : Calls Try.prog 31 #[.pointer (some ⟨h, 0, none⟩), .int .i64 who, .int .i64 x] w fun e w' => e = .returned (.int .i64 (t.at who x)) ∧ w = w' := by
  obtain ⟨aH, cH, rfl, hc, hc2⟩ := q.has.shape
  have c0 := q.head.1
  have hl := q.len.1
  have HQ := hide q
  obtain ⟨n, hn⟩ : ∃ n, n = t.has.length := ⟨_, rfl⟩
  rw [← hn] at c0 hc hl
  have HN := hide hn
  clear q hn
  go_enter Try.func31, Try.ntmps31
  go_wp2
  go_loopw [13] (fun v wr => ∃ j : Nat, j ≤ n ∧ v = .int .i64 j ∧ wr = w ∧ Hid (atL (t.has.drop j) who x = t.at who x)) (fun v _ => n - (intOf v).toNat)
  case atStart => exact ⟨0, Nat.zero_le _, rfl, rfl, rfl⟩
  case round =>
    obtain ⟨j, hj, rfl, rfl, HR⟩ := hrel
    by_cases hlt : j < n
    · have i1 : (j : Int) < (n : Int) := by omega
      obtain ⟨m, hm⟩ : ∃ m, t.has[j]? = some m := ⟨_, List.getElem?_eq_getElem (by have := HN.out; omega)⟩
      obtain ⟨b, rfl, d0, d1, d2⟩ := HQ.out.has.at hm
      have HD := hide (drop_at _ _ _ hm)
      clear hm
      by_cases hw : m.w = who
      · have e1 : (m.w == who) = true := by rw [beq_iff_eq]; exact hw
        by_cases hx : m.x = x
        · have e2 : (m.x == x) = true := by rw [beq_iff_eq]; exact hx
          have HA := hide (show m.m = t.at who x from by
            rw [← HR.out, HD.out]
            unfold atL
            rw [if_pos ⟨hw, hx⟩])
          clear hw hx
          go_wp2
          go_ret
          rw [← HA.out]
          exact ⟨rfl, rfl⟩
        · have e2 : (m.x == x) = false := by rw [beq_eq_false_iff_ne]; exact hx
          have HA := hide (show atL (t.has.drop (j + 1)) who x = t.at who x from by
            rw [← HR.out, HD.out]
            conv => rhs; unfold atL
            rw [if_neg (fun e => hx e.2)])
          clear hw hx
          go_wp2
          go_roundw
          case rel => exact ⟨j + 1, by omega, by go_num, by first | rfl | trivial, HA⟩
          case measure => simp [intOf]; omega
      · have e1 : (m.w == who) = false := by rw [beq_eq_false_iff_ne]; exact hw
        have HA := hide (show atL (t.has.drop (j + 1)) who x = t.at who x from by
          rw [← HR.out, HD.out]
          conv => rhs; unfold atL
          rw [if_neg (fun e => hw e.1)])
        clear hw
        go_wp2
        go_roundw
        case rel => exact ⟨j + 1, by omega, by go_num, by first | rfl | trivial, HA⟩
        case measure => simp [intOf]; omega
    · have i1 : ¬ (j : Int) < (n : Int) := by omega
      have HA := hide (show t.at who x = 0 from by
        rw [← HR.out, List.drop_of_length_le (by have := HN.out; omega)]
        rfl)
      go_wp2
      go_ret
      rw [HA.out]
      exact ⟨rfl, rfl⟩
set_option maxRecDepth 4000 in
set_option maxHeartbeats 1600000 in
theorem rwaits13 (q : RT B w h vH vR t) (who : Int) : Calls Try.prog 32 #[.pointer (some ⟨h, 0, none⟩), .int .i64 who] w fun e w' => e = .returned (.tuple #[.agg (hdA ((t.wt who).getD hdZ)), .bool (t.wt who).isSome]) ∧ Below w.heap.size w w' := by
  obtain ⟨aR, cR, rfl, hc, hc2⟩ := q.row.shape
  have hb : Below w.heap.size w (w.alloc (.cells zeroH 64)) := (Below.refl _ _).alloc (Nat.le_refl _) _
  have HB := hide hb
  have HNW := hide (RowAt.new w 64 zeroH)
  have HQ := hide (q.later hb)
  have c0 := HQ.out.head.2
  have hl := q.len.2
  obtain ⟨n, hn⟩ : ∃ n, n = t.row.length := ⟨_, rfl⟩
  rw [← hn] at c0 hc hl
  have HN := hide hn
  have c0' := c0
  simp only [zeroH] at c0'
  clear q hn hb
  go_enter Try.func32, Try.ntmps32
  go_wp2
  clear c0'
  go_loopw [12] (fun v wr => ∃ j : Nat, j ≤ n ∧ v = .int .i64 j ∧ wr = w.alloc (.cells zeroH 64) ∧ Hid (wtL (t.row.drop j) who = t.wt who)) (fun v _ => n - (intOf v).toNat)
  case atStart => exact ⟨0, Nat.zero_le _, rfl, rfl, rfl⟩
  case round =>
    obtain ⟨j, hj, rfl, rfl, HR⟩ := hrel
    by_cases hlt : j < n
    · have i1 : (j : Int) < (n : Int) := by omega
      obtain ⟨m, hm⟩ : ∃ m, t.row[j]? = some m := ⟨_, List.getElem?_eq_getElem (by have := HN.out; omega)⟩
      obtain ⟨b, rfl, d0, d1, d2⟩ := HQ.out.row.at hm
      have HD := hide (drop_at _ _ _ hm)
      clear hm
      by_cases hw : m.w = who
      · have e1 : (m.w == who) = true := by rw [beq_iff_eq]; exact hw
        have HA := hide (show t.wt who = some m from by
          rw [← HR.out, HD.out]
          unfold wtL
          rw [if_pos hw])
        clear hw
        go_wp2_with (refine wpList_store_at rfl 64 (.tmp 4) (.tmp 31) rfl w.heap.size zeroH (hdA m) rfl rfl HNW.out infoRs rfl (hdA_one m) ?_)
        intro w2 hr2 hk2 _
        have HR2 := hide hr2
        have HB2 := hide (hk2 _ _ HB.out (Nat.le_refl _))
        clear hr2 hk2
        go_wp2
        rw [HA.out]
        exact bodyPost_ret (res_at rfl _ _ w.heap.size _ _ rfl HR2.out Try.underlying64 rfl infoRs) rfl ⟨rfl, HB2.out⟩
      · have e1 : (m.w == who) = false := by rw [beq_eq_false_iff_ne]; exact hw
        have HA := hide (show wtL (t.row.drop (j + 1)) who = t.wt who from by
          rw [← HR.out, HD.out]
          conv => rhs; unfold wtL
          rw [if_neg hw])
        clear hw
        go_wp2
        go_roundw
        case rel => exact ⟨j + 1, by omega, by go_num, by first | rfl | trivial, HA⟩
        case measure => simp [intOf]; omega
    · have i1 : ¬ (j : Int) < (n : Int) := by omega
      have HA := hide (show t.wt who = none from by
        rw [← HR.out, List.drop_of_length_le (by have := HN.out; omega)]
        rfl)
      go_wp2_with (refine wpList_store_at rfl 64 (.tmp 4) (.tmp 33) rfl w.heap.size zeroH (hdA hdZ) rfl rfl HNW.out infoRs rfl (hdA_one hdZ) ?_)
      intro w2 hr2 hk2 _
      have HR2 := hide hr2
      have HB2 := hide (hk2 _ _ HB.out (Nat.le_refl _))
      clear hr2 hk2
      go_wp2
      rw [HA.out]
      exact bodyPost_ret (res_at rfl _ _ w.heap.size _ _ rfl HR2.out Try.underlying64 rfl infoRs) rfl ⟨rfl, HB2.out⟩
end
end Go.Proofs.Ytmlbghloddiflaa
end
section
namespace Go.Proofs.Ytmlbghloddiflaa
open Go.RowKit
set_option linter.unusedVariables false

section
variable {B : Nat} {w : World} {h : Nat} {vH vR : Value} {t : Tb}
set_option maxRecDepth 4000 in
set_option maxHeartbeats 1600000 in
theorem rfits13 (q : RT B w h vH vR t) (who x md : Int) : Calls Try.prog 57 #[.pointer (some ⟨h, 0, none⟩), .int .i64 who, .int .i64 x, .int .i64 md] w fun e w' => e = .returned (.bool (t.fits who x md)) ∧ Below w.heap.size w w' := by
  obtain ⟨aH, cH, rfl, hc, hc2⟩ := q.has.shape
  have c0 := q.head.1
  have hl := q.len.1
  have HQ := hide q
  obtain ⟨n, hn⟩ : ∃ n, n = t.has.length := ⟨_, rfl⟩
  rw [← hn] at c0 hc hl
  have HN := hide hn
  clear q hn
  go_enter Try.func57, Try.ntmps57
  go_wp2
  go_loopw [16] (fun v wr => ∃ j : Nat, j ≤ n ∧ v = .int .i64 j ∧ Hid (Below w.heap.size w wr ∧ fitsL (t.has.drop j) who x md = t.fits who x md)) (fun v _ => n - (intOf v).toNat)
  case atStart => exact ⟨0, Nat.zero_le _, rfl, Below.refl _ _, rfl⟩
  case round =>
    obtain ⟨j, hj, rfl, HR⟩ := hrel
    by_cases hlt : j < n
    · have i1 : (j : Int) < (n : Int) := by omega
      obtain ⟨m, hm⟩ : ∃ m, t.has[j]? = some m := ⟨_, List.getElem?_eq_getElem (by have := HN.out; omega)⟩
      have HQ2 := hide (HQ.out.later HR.out.1)
      obtain ⟨b, rfl, d0, d1, d2⟩ := HQ2.out.has.at hm
      have c1 := HQ2.out.head.1
      rw [← HN.out] at c1
      have HD := hide (drop_at _ _ _ hm)
      clear hm c0
      obtain ⟨W, hW⟩ : ∃ W, W = wr.alloc (.cells #[.int .i64 m.w, .int .i64 m.x, .int .i64 m.m] 64) := ⟨_, rfl⟩
      have hb : Below wr.heap.size wr W := by rw [hW]; exact (Below.refl _ _).alloc (Nat.le_refl _) _
      have hN : RowAt W wr.heap.size 64 #[.int .i64 m.w, .int .i64 m.x, .int .i64 m.m] := by rw [hW]; exact RowAt.new wr _ _
      have b0 := hN.cell 0 _ rfl
      have b1 := hN.cell 1 _ rfl
      have b2 := hN.cell 2 _ rfl
      have HB := hide (HR.out.1.trans (hb.mono HR.out.1.size))
      subst hW
      clear hb hN HQ2
      by_cases hx : m.x = x
      · have e1 : (m.x == x) = true := by rw [beq_iff_eq]; exact hx
        by_cases hw : m.w = who
        · have e2 : (m.w != who) = false := by simpa using hw
          have HA := hide (show fitsL (t.has.drop (j + 1)) who x md = t.fits who x md from by
            rw [← HR.out.2, HD.out]
            conv => rhs; unfold fitsL
            simp [hw])
          clear hw hx HR
          go_wp2
          go_roundw
          case rel => exact ⟨j + 1, by omega, by go_num, HB.out, HA.out⟩
          case measure => simp [intOf]; omega
        · have e2 : (m.w != who) = true := by simpa using hw
          have e3 : ¬ m.w = who := hw
          cases hf : fit m.m md with
          | true =>
            have T := rfits12 m.m md (wr.alloc (.cells #[.int .i64 m.w, .int .i64 m.x, .int .i64 m.m] 64))
            rw [hf] at T
            have HT := hide T
            have HA := hide (show fitsL (t.has.drop (j + 1)) who x md = t.fits who x md from by
              rw [← HR.out.2, HD.out]
              conv => rhs; unfold fitsL
              simp [hf])
            clear hw hx HR hf T
            go_wp2_with fail
            refine HT.out.mono ?_
            rintro e w1 ⟨rfl, hbF⟩
            have HB2 := hide (HB.out.trans (hbF.mono HB.out.size))
            clear hbF
            go_wp2
            go_roundw
            case rel => exact ⟨j + 1, by omega, by go_num, HB2.out, HA.out⟩
            case measure => simp [intOf]; omega
          | false =>
            have T := rfits12 m.m md (wr.alloc (.cells #[.int .i64 m.w, .int .i64 m.x, .int .i64 m.m] 64))
            rw [hf] at T
            have HT := hide T
            have HA := hide (show t.fits who x md = false from by
              rw [← HR.out.2, HD.out]
              unfold fitsL
              simp [hf, hx, hw])
            clear hw hx HR hf T
            go_wp2_with fail
            refine HT.out.mono ?_
            rintro e w1 ⟨rfl, hbF⟩
            have HB2 := hide (HB.out.trans (hbF.mono HB.out.size))
            clear hbF
            go_wp2
            go_ret
            rw [HA.out]
            exact ⟨rfl, HB2.out⟩
      · have e1 : (m.x == x) = false := by rw [beq_eq_false_iff_ne]; exact hx
        have HA := hide (show fitsL (t.has.drop (j + 1)) who x md = t.fits who x md from by
          rw [← HR.out.2, HD.out]
          conv => rhs; unfold fitsL
          simp [hx])
        clear hx HR
        go_wp2
        go_roundw
        case rel => exact ⟨j + 1, by omega, by go_num, HB.out, HA.out⟩
        case measure => simp [intOf]; omega
    · have i1 : ¬ (j : Int) < (n : Int) := by omega
      have HA := hide (show t.fits who x md = true from by
        rw [← HR.out.2, List.drop_of_length_le (by have := HN.out; omega)]
        rfl)
      go_wp2
      go_ret
      rw [HA.out]
      exact ⟨rfl, HR.out.1⟩
set_option maxRecDepth 8000 in
set_option maxHeartbeats 3200000 in
theorem rbeh13 (q : RT B w h vH vR t) (a b : Int) : Calls Try.prog 64 #[.pointer (some ⟨h, 0, none⟩), .int .i64 a, .int .i64 b] w fun e w' => e = .returned (.bool (t.beh a b)) ∧ Below w.heap.size w w' := by
  have T := rwaits13 q a
  have HQ := hide q
  obtain ⟨R, hR⟩ : ∃ R, t.beh a b = R := ⟨_, rfl⟩
  rw [hR]
  have HRR := hide hR
  clear hR q
  cases ew : t.wt a with
  | none =>
    rw [ew] at T
    have HT := hide T
    have HF := hide (show R = false from by rw [← HRR.out]; unfold Tb.beh; rw [ew])
    clear ew T
    go_enter Try.func64, Try.ntmps64
    go_wp2_with fail
    refine HT.out.mono ?_
    rintro e w1 ⟨rfl, hb⟩
    have HB := hide hb
    clear hb
    simp only [Option.getD_none, Option.isSome_none, hdA, hdZ]
    have HB2 := hide (HB.out.alloc HB.out.size (.cells #[.int .i64 0, .int .i64 0, .int .i64 0] 64))
    go_wp2
    go_ret
    rw [HF.out]
    exact ⟨rfl, HB2.out⟩
  | some k =>
    rw [ew] at T
    have HT := hide T
    have HEQ := hide (show R = (decide (a ≠ b) && ((decide (t.at b k.x ≠ 0) && !fit (t.at b k.x) k.m) || aheadL t.row a b k.x)) from by rw [← HRR.out]; unfold Tb.beh; rw [ew])
    clear T ew HRR
    go_enter Try.func64, Try.ntmps64
    go_wp2_with fail
    refine HT.out.mono ?_
    rintro e w1 ⟨rfl, hb⟩
    simp only [Option.getD_some, Option.isSome_some, hdA]
    obtain ⟨W, hW⟩ : ∃ W, W = w1.alloc (.cells #[.int .i64 k.w, .int .i64 k.x, .int .i64 k.m] 64) := ⟨_, rfl⟩
    have hbW : Below w1.heap.size w1 W := by rw [hW]; exact (Below.refl _ _).alloc (Nat.le_refl _) _
    have hN : RowAt W w1.heap.size 64 #[.int .i64 k.w, .int .i64 k.x, .int .i64 k.m] := by rw [hW]; exact RowAt.new w1 _ _
    have b0 := hN.cell 0 _ rfl
    have b1 := hN.cell 1 _ rfl
    have b2 := hN.cell 2 _ rfl
    have HB := hide (hb.trans (hbW.mono hb.size))
    have HQ2 := hide (HQ.out.later HB.out)
    have HNR := hide hN
    clear hb hbW hN HT
    subst hW
    by_cases hab : a = b
    · have e1 : (a == b) = true := by simpa using hab
      have HF := hide (show R = false from by rw [HEQ.out]; simp [hab])
      clear hab
      go_wp2
      go_ret
      rw [HF.out]
      exact ⟨rfl, HB.out⟩
    · have e1 : (a == b) = false := by simpa using hab
      have HAB := hide hab
      clear hab
      have T := rholds13 HQ2.out b k.x
      obtain ⟨hs, hhs⟩ : ∃ hs, t.at b k.x = hs := ⟨_, rfl⟩
      rw [hhs] at T
      have HHS := hide hhs
      clear hhs
      have HT := hide T
      clear T
      go_wp2_with fail
      refine HT.out.mono ?_
      rintro e w2 ⟨rfl, rfl⟩
      clear HT
      have key : (hs ≠ 0 ∧ fit hs k.m = false) ∨ ((hs = 0 ∨ (hs ≠ 0 ∧ fit hs k.m = true)) ∧ R = aheadL t.row a b k.x) := by
        by_cases h0 : hs = 0
        · right
          refine ⟨.inl h0, ?_⟩
          rw [HEQ.out, HHS.out]
          simp [h0, HAB.out]
        · cases hf : fit hs k.m with
          | false => exact .inl ⟨h0, rfl⟩
          | true =>
            right
            refine ⟨.inr ⟨h0, rfl⟩, ?_⟩
            rw [HEQ.out, HHS.out]
            simp [hf, HAB.out]
      rcases key with ⟨h0, hf⟩ | ⟨hcase, hRR⟩
      · have e2 : (hs != 0) = true := by simpa using h0
        have T := rfits12 hs k.m (w1.alloc (.cells #[.int .i64 k.w, .int .i64 k.x, .int .i64 k.m] 64))
        rw [hf] at T
        have HT := hide T
        have HF := hide (show R = true from by rw [HEQ.out, HHS.out]; simp [h0, hf, HAB.out])
        clear T h0 hf
        go_wp2_with fail
        refine HT.out.mono ?_
        rintro e w2 ⟨rfl, hbF⟩
        have HB2 := hide (HB.out.trans (hbF.mono HB.out.size))
        clear hbF
        go_wp2
        go_ret
        rw [HF.out]
        exact ⟨rfl, HB2.out⟩
      · have HRX := hide hRR
        clear hRR HEQ HHS
        obtain ⟨aR, cR, rfl, hc, hc2⟩ := HQ2.out.row.shape
        have c0 := HQ2.out.head.2
        have hl := HQ2.out.len.2
        obtain ⟨n, hn⟩ : ∃ n, n = t.row.length := ⟨_, rfl⟩
        rw [← hn] at c0 hc hl
        have HN := hide hn
        clear hn
        rcases hcase with h0 | ⟨h0, hf⟩
        · have e2 : (hs != 0) = false := by simpa using h0
          clear h0
          go_wp2
          go_loopw [43] (fun v wr => ∃ j : Nat, j ≤ n ∧ v = .int .i64 j ∧ Hid (Below (w1.alloc (.cells #[.int .i64 k.w, .int .i64 k.x, .int .i64 k.m] 64)).heap.size (w1.alloc (.cells #[.int .i64 k.w, .int .i64 k.x, .int .i64 k.m] 64)) wr ∧ aheadL (t.row.drop j) a b k.x = R)) (fun v _ => n - (intOf v).toNat)
          case atStart => exact ⟨0, Nat.zero_le _, rfl, Below.refl _ _, HRX.out.symm⟩
          case round =>
            obtain ⟨j, hj, rfl, HR⟩ := hrel
            by_cases hlt : j < n
            · have i1 : (j : Int) < (n : Int) := by omega
              obtain ⟨m, hm⟩ : ∃ m, t.row[j]? = some m := ⟨_, List.getElem?_eq_getElem (by have := HN.out; omega)⟩
              have HQ3 := hide (HQ2.out.later HR.out.1)
              obtain ⟨bb, rfl, d0, d1, d2⟩ := HQ3.out.row.at hm
              have c1 := HQ3.out.head.2
              rw [← HN.out] at c1
              have HNR2 := hide (HNR.out.later HR.out.1)
              have g1 := HNR2.out.cell 1 _ rfl
              have HD := hide (drop_at _ _ _ hm)
              have HBX := hide (HB.out.trans (HR.out.1.mono HB.out.size))
              clear hm c0 b0 b1 b2
              by_cases ha : m.w = a
              · have e3 : (m.w == a) = true := by rw [beq_iff_eq]; exact ha
                have HF := hide (show R = false from by
                  rw [← HR.out.2, HD.out]
                  unfold aheadL
                  rw [if_pos ha])
                clear ha HR
                go_wp2
                go_ret
                rw [HF.out]
                exact ⟨rfl, HBX.out⟩
              · have e3 : (m.w == a) = false := by rw [beq_eq_false_iff_ne]; exact ha
                by_cases hbx : m.w = b
                · have e4 : (m.w == b) = true := by rw [beq_iff_eq]; exact hbx
                  by_cases hxx : m.x = k.x
                  · have e5 : (m.x == k.x) = true := by rw [beq_iff_eq]; exact hxx
                    have HF := hide (show R = true from by
                      rw [← HR.out.2, HD.out]
                      unfold aheadL
                      rw [if_neg ha, if_pos ⟨hbx, hxx⟩])
                    clear ha hbx hxx HR
                    go_wp2_with fail
                    go_quiet (fail)
                    go_wp2
                    go_ret
                    rw [HF.out]
                    exact ⟨rfl, below_dn HBX.out _⟩
                  · have e5 : (m.x == k.x) = false := by rw [beq_eq_false_iff_ne]; exact hxx
                    have HF := hide (show aheadL (t.row.drop (j + 1)) a b k.x = R from by
                      rw [← HR.out.2, HD.out]
                      conv => rhs; unfold aheadL
                      rw [if_neg ha, if_neg (fun e => hxx e.2)])
                    have HR1 := hide HR.out.1
                    clear ha hbx hxx HR
                    go_wp2_with fail
                    go_quiet (fail)
                    go_wp2
                    go_roundw
                    case rel => exact ⟨j + 1, by omega, by go_num, below_dn HR1.out _, HF.out⟩
                    case measure => simp [intOf]; omega
                · have e4 : (m.w == b) = false := by rw [beq_eq_false_iff_ne]; exact hbx
                  have HF := hide (show aheadL (t.row.drop (j + 1)) a b k.x = R from by
                    rw [← HR.out.2, HD.out]
                    conv => rhs; unfold aheadL
                    rw [if_neg ha, if_neg (fun e => hbx e.1)])
                  have HR1 := hide HR.out.1
                  clear ha hbx HR
                  go_wp2_with fail
                  go_quiet (fail)
                  go_wp2
                  go_roundw
                  case rel => exact ⟨j + 1, by omega, by go_num, below_dn HR1.out _, HF.out⟩
                  case measure => simp [intOf]; omega
            · have i1 : ¬ (j : Int) < (n : Int) := by omega
              have HF := hide (show R = false from by
                rw [← HR.out.2, List.drop_of_length_le (by have := HN.out; omega)]
                rfl)
              have HBX := hide (HB.out.trans (HR.out.1.mono HB.out.size))
              go_wp2
              go_ret
              rw [HF.out]
              exact ⟨rfl, HBX.out⟩
        · have e2 : (hs != 0) = true := by simpa using h0
          have T := rfits12 hs k.m (w1.alloc (.cells #[.int .i64 k.w, .int .i64 k.x, .int .i64 k.m] 64))
          rw [hf] at T
          have HT := hide T
          clear T h0 hf
          go_wp2_with fail
          refine HT.out.mono ?_
          rintro e w2 ⟨rfl, hbF⟩
          have HQ4 := hide (HQ2.out.later hbF)
          have HNR4 := hide (HNR.out.later hbF)
          have HB4 := hide (HB.out.trans (hbF.mono HB.out.size))
          clear HT hbF c0 b0 b1 b2 HQ2 HNR HB
          have HQ2 := hide HQ4.out
          have HNR := hide HNR4.out
          have HB := hide HB4.out
          have c0 := HQ2.out.head.2
          rw [← HN.out] at c0
          clear HQ4 HNR4 HB4
          go_wp2
          go_loopw [43] (fun v wr => ∃ j : Nat, j ≤ n ∧ v = .int .i64 j ∧ Hid (Below w2.heap.size w2 wr ∧ aheadL (t.row.drop j) a b k.x = R)) (fun v _ => n - (intOf v).toNat)
          case atStart => exact ⟨0, Nat.zero_le _, rfl, Below.refl _ _, HRX.out.symm⟩
          case round =>
            obtain ⟨j, hj, rfl, HR⟩ := hrel
            by_cases hlt : j < n
            · have i1 : (j : Int) < (n : Int) := by omega
              obtain ⟨m, hm⟩ : ∃ m, t.row[j]? = some m := ⟨_, List.getElem?_eq_getElem (by have := HN.out; omega)⟩
              have HQ3 := hide (HQ2.out.later HR.out.1)
              obtain ⟨bb, rfl, d0, d1, d2⟩ := HQ3.out.row.at hm
              have c1 := HQ3.out.head.2
              rw [← HN.out] at c1
              have HNR2 := hide (HNR.out.later HR.out.1)
              have g1 := HNR2.out.cell 1 _ rfl
              have HD := hide (drop_at _ _ _ hm)
              have HBX := hide (HB.out.trans (HR.out.1.mono HB.out.size))
              clear hm c0
              by_cases ha : m.w = a
              · have e3 : (m.w == a) = true := by rw [beq_iff_eq]; exact ha
                have HF := hide (show R = false from by
                  rw [← HR.out.2, HD.out]
                  unfold aheadL
                  rw [if_pos ha])
                clear ha HR
                go_wp2
                go_ret
                rw [HF.out]
                exact ⟨rfl, HBX.out⟩
              · have e3 : (m.w == a) = false := by rw [beq_eq_false_iff_ne]; exact ha
                by_cases hbx : m.w = b
                · have e4 : (m.w == b) = true := by rw [beq_iff_eq]; exact hbx
                  by_cases hxx : m.x = k.x
                  · have e5 : (m.x == k.x) = true := by rw [beq_iff_eq]; exact hxx
                    have HF := hide (show R = true from by
                      rw [← HR.out.2, HD.out]
                      unfold aheadL
                      rw [if_neg ha, if_pos ⟨hbx, hxx⟩])
                    clear ha hbx hxx HR
                    go_wp2_with fail
                    go_quiet (fail)
                    go_wp2
                    go_ret
                    rw [HF.out]
                    exact ⟨rfl, below_dn HBX.out _⟩
                  · have e5 : (m.x == k.x) = false := by rw [beq_eq_false_iff_ne]; exact hxx
                    have HF := hide (show aheadL (t.row.drop (j + 1)) a b k.x = R from by
                      rw [← HR.out.2, HD.out]
                      conv => rhs; unfold aheadL
                      rw [if_neg ha, if_neg (fun e => hxx e.2)])
                    have HR1 := hide HR.out.1
                    clear ha hbx hxx HR
                    go_wp2_with fail
                    go_quiet (fail)
                    go_wp2
                    go_roundw
                    case rel => exact ⟨j + 1, by omega, by go_num, below_dn HR1.out _, HF.out⟩
                    case measure => simp [intOf]; omega
                · have e4 : (m.w == b) = false := by rw [beq_eq_false_iff_ne]; exact hbx
                  have HF := hide (show aheadL (t.row.drop (j + 1)) a b k.x = R from by
                    rw [← HR.out.2, HD.out]
                    conv => rhs; unfold aheadL
                    rw [if_neg ha, if_neg (fun e => hbx e.1)])
                  have HR1 := hide HR.out.1
                  clear ha hbx HR
                  go_wp2_with fail
                  go_quiet (fail)
                  go_wp2
                  go_roundw
                  case rel => exact ⟨j + 1, by omega, by go_num, below_dn HR1.out _, HF.out⟩
                  case measure => simp [intOf]; omega
            · have i1 : ¬ (j : Int) < (n : Int) := by omega
              have HF := hide (show R = false from by
                rw [← HR.out.2, List.drop_of_length_le (by have := HN.out; omega)]
                rfl)
              have HBX := hide (HB.out.trans (HR.out.1.mono HB.out.size))
              go_wp2
              go_ret
              rw [HF.out]
              exact ⟨rfl, HBX.out⟩
end
end Go.Proofs.Ytmlbghloddiflaa
end
section
namespace Go.Proofs.Ytmlbghloddiflaa
open Go.RowKit
set_option linter.unusedVariables false

theorem intsV_append (l m : List Int) : intsV (l ++ m) = intsV l ++ intsV m := by simp [intsV]
/-- Numbers that lie somewhere, behind numbers of one's own. -/
theorem OwnI.part {B : Nat} {y : World} {v : Value} {l : List Int} (h : OwnI B y v l) (m : List Int) (a : Option Addr) (c : Nat) (hs : (a = none ∧ m = [] ∧ c = 0) ∨ ∃ b o, a = some ⟨b, o, none⟩ ∧ ∀ j, j < m.length → y.cell? ⟨b, o + j, none⟩ = some (.int .i64 (m.getD j 0))) (hB : B ≤ y.heap.size) (hl : l.length + m.length ≤ 100000000) (ty : TypeId) :
    ∃ v' y', (Builtin.append_ #[50, 50] ty #[v, .slice a m.length c]).run Try.prog y = .ok v' y' ∧ OwnI B y' v' (l ++ m) ∧ Tn (fun k => v.ownBlock = some k) y y' := by
  obtain ⟨i, hi0, hi1⟩ := Option.map_eq_some_iff.1 infoI13
  simp only [Prod.mk.injEq] at hi1
  rcases hs with ⟨rfl, rfl, rfl⟩ | ⟨b, o, rfl, hc⟩
  · rw [List.append_nil]
    exact ⟨v, y, run_append_owned_none (P := Try.prog) (w := y) B 50 ty 3 i 1 Try.underlying50 hi0 v l.length (intsV l) h, h, Tn.refl _ _⟩
  · obtain ⟨v', y', r1, r2, r3, _⟩ := run_append_own (P := Try.prog) y B 50 ty 3 i (.int .i64 0) 1 8 Try.underlying50 hi0 hi1.1 hi1.2.1 hi1.2.2 rfl (by omega) v l.length (intsV l) h ⟨b, o, none⟩ m.length c (intsV m) (by rw [intsV_len]; omega) (fun j u hu => by
      have hj : j < m.length := by
        have := (List.getElem?_eq_some_iff.1 hu).1
        rwa [intsV_len] at this
      rw [intsV_get _ _ hj] at hu
      rw [Addr.add_lit]
      rw [← hu]
      exact hc j hj) (fun u hu => by
      obtain ⟨n, _, rfl⟩ := List.mem_map.1 hu
      rfl) (by unfold maxLen; omega) (by omega) hB
    refine ⟨v', y', r1, ?_, Tn.of_grown r3 (fun k hk => hk)⟩
    unfold OwnI
    rw [intsV_append, List.length_append]
    exact r2
theorem OwnI.own {B : Nat} {y z : World} {v : Value} {l : List Int} (h : OwnI B y v l) {w : World} (hw : Below B w y) (hB : B ≤ y.heap.size) (q : Tn (fun k => v.ownBlock = some k) y z) : Below B w z := hw.trans (q.below (fun k hk => (h.block hk).1) hB)
theorem into_skip (n : Int) : ∀ (l : List Int) (k : Nat), k ≤ l.length → (∀ i, i < k → l.getD i 0 < n) → intoL l n = l.take k ++ intoL (l.drop k) n
  | l, 0, _, _ => rfl
  | [], k + 1, h, _ => absurd h (by simp)
  | a :: l, k + 1, h, hs => by
    have ha : a < n := hs 0 (Nat.succ_pos k)
    have ih := into_skip n l k (by simpa using h) (fun i hi => hs (i + 1) (by omega))
    rw [List.take_succ_cons, List.drop_succ_cons, List.cons_append, ← ih]
    conv => lhs; unfold intoL
    rw [if_pos ha]
theorem into_here (n : Int) (l : List Int) (k : Nat) (h : k < l.length) (hs : ∀ i, i < k → l.getD i 0 < n) (hn : ¬ l.getD k 0 < n) : intoL l n = if l.getD k 0 = n then l else l.take k ++ n :: l.drop k := by
  rw [into_skip n l k (by omega) hs]
  have e : l.drop k = l.getD k 0 :: l.drop (k + 1) := by
    rw [List.drop_eq_getElem_cons h, List.getD_eq_getElem?_getD, List.getElem?_eq_getElem h]
    rfl
  by_cases q : l.getD k 0 = n
  · rw [if_pos q]
    conv => rhs; rw [← List.take_append_drop k l]
    rw [e]
    unfold intoL
    rw [if_neg hn, if_pos q]
  · rw [if_neg q, e]
    unfold intoL
    rw [if_neg hn, if_neg q]
theorem into_end (n : Int) (l : List Int) (hs : ∀ i, i < l.length → l.getD i 0 < n) : intoL l n = l.take l.length ++ n :: l.drop l.length := by
  rw [into_skip n l l.length (Nat.le_refl _) hs, List.drop_length]
  rfl
theorem into_len (n : Int) : ∀ l : List Int, (intoL l n).length ≤ l.length + 1
  | [] => Nat.le_refl _
  | a :: l => by
    have := into_len n l
    unfold intoL
    split
    · simp only [List.length_cons]; omega
    · split
      · simp only [List.length_cons]; omega
      · simp only [List.length_cons]; omega
section
variable {B : Nat} {w : World} {v : Value} {l : List Int}
set_option maxRecDepth 4000 in
set_option maxHeartbeats 1600000 in
theorem rinto13 (h : OwnI B w v l) (hB : B ≤ w.heap.size) (hl : l.length ≤ 10000) (n : Int) : Calls Try.prog 66 #[v, .int .i64 n] w fun e w' => ∃ v', e = .returned v' ∧ OwnI B w' v' (intoL l n) ∧ Below w.heap.size w w' := by
  obtain ⟨I, hI⟩ : ∃ I, intoL l n = I := ⟨_, rfl⟩
  rw [hI]
  have HI := hide hI
  clear hI
  rcases h.2 with ⟨rfl, h0⟩ | ⟨b, c, cur, rfl, hb, hr, hn, hm, hs, ht⟩
  · obtain rfl := List.eq_nil_of_length_eq_zero h0
    have b5 : Below w.heap.size w (w.alloc (.cells #[.int .i64 n] 3)) := (Below.refl w.heap.size w).alloc (Nat.le_refl _) _
    have hcell : (w.alloc (.cells #[.int .i64 n] 3)).cell? ⟨w.heap.size, 0, none⟩ = some (.int .i64 n) := (RowAt.new w 3 #[.int .i64 n]).cell 0 _ rfl
    obtain ⟨v1, y1, r1, o1, t1⟩ := (OwnI.nil w.heap.size (w.alloc (.cells #[.int .i64 n] 3))).push n w.heap.size 1 hcell b5.size (by simp) 50
    have hb1 := (OwnI.nil w.heap.size _).own b5 b5.size t1
    obtain ⟨i, hi0, hi1⟩ := Option.map_eq_some_iff.1 infoI13
    have r0 := run_append_owned_none (P := Try.prog) (w := w) w.heap.size 50 50 3 i 1 Try.underlying50 hi0 (.slice none 0 0) 0 [] (World.ownsRow_nil _ _ _ _)
    have r2 := run_append_owned_none (P := Try.prog) (w := y1) w.heap.size 50 50 3 i 1 Try.underlying50 hi0 v1 _ _ o1
    have HE := hide (show OwnI B y1 v1 I ∧ Below w.heap.size w y1 from ⟨by rw [← HI.out]; exact OwnI.weak o1 hB, hb1⟩)
    clear b5 hcell o1 t1 hb1 hi0 hi1 h hB h0
    go_enter Try.func66, Try.ntmps66
    go_wp2
    go_loopw [5] (fun q wr => q = .int .i64 0 ∧ wr = w) (fun _ _ => 0)
    case atStart => exact ⟨rfl, rfl⟩
    case round =>
      obtain ⟨rfl, rfl⟩ := hrel
      go_wp2_with (with_reducible refine stop_at 38 rfl ?_)
      refine unstop10 ?_
      refine Lib.wpList_append_run _ rfl _ _ _ _ rfl _ _ rfl rfl _ _ r0 ?_
      go_wp2_with (with_reducible refine stop_at 42 rfl ?_)
      refine unstop10 ?_
      refine Lib.wpList_append_run _ rfl _ _ _ _ rfl _ _ rfl rfl _ _ r1 ?_
      go_wp2_with (with_reducible refine stop_at 47 rfl ?_)
      refine unstop10 ?_
      refine Lib.wpList_append_run _ rfl _ _ _ _ rfl _ _ rfl rfl _ _ r2 ?_
      go_wp2
      go_ret
      exact ⟨_, rfl, HE.out⟩
  · have HH := hide h
    obtain ⟨ln, hln⟩ : ∃ ln, l.length = ln := ⟨_, rfl⟩
    have HLN := hide hln
    rw [hln] at hn hl ⊢
    have HB := hide hB
    clear h hB hb hr hs ht hln
    go_enter Try.func66, Try.ntmps66
    go_wp2
    go_loopw [5] (fun q wr => ∃ k : Nat, k ≤ ln ∧ q = .int .i64 k ∧ wr = w ∧ Hid (∀ i, i < k → l.getD i 0 < n)) (fun q _ => ln - (intOf q).toNat)
    case atStart => exact ⟨0, Nat.zero_le _, rfl, rfl, fun i hi => absurd hi (Nat.not_lt_zero _)⟩
    case round =>
      obtain ⟨k, hk, rfl, rfl, HS⟩ := hrel
      by_cases hlt : k < ln
      · have i1 : (k : Int) < (ln : Int) := by omega
        obtain ⟨z, hz⟩ : ∃ z, l.getD k 0 = z := ⟨_, rfl⟩
        have HZ := hide hz
        have c0 : wr.cell? ⟨b, k, none⟩ = some (.int .i64 z) := by
          obtain ⟨b', e, q⟩ := HH.out.at (j := k) (by rw [HLN.out]; exact hlt)
          injection e with e
          injection e with e
          subst e
          rw [← hz]
          exact q
        clear hz
        by_cases hzn : z < n
        · have HS2 := hide (show ∀ i, i < k + 1 → l.getD i 0 < n from fun i hi => by
            by_cases e : i = k
            · rw [e, HZ.out]; exact hzn
            · exact HS.out i (by omega))
          go_wp2
          go_roundw
          case rel => exact ⟨k + 1, by omega, by go_num, by first | rfl | trivial, HS2⟩
          case measure => simp [intOf]; omega
        · by_cases hzn2 : z = n
          · have e1 : (z == n) = true := by rw [beq_iff_eq]; exact hzn2
            have HE := hide (show I = l from by
              rw [← HI.out, into_here n l k (by rw [HLN.out]; exact hlt) HS.out (by rw [HZ.out]; exact hzn), if_pos (HZ.out.trans hzn2)])
            clear hzn2
            go_wp2
            go_ret
            rw [HE.out]
            exact ⟨_, rfl, by rw [← HLN.out]; exact HH.out, Below.refl _ _⟩
          · have e1 : (z == n) = false := by rw [beq_eq_false_iff_ne]; exact hzn2
            have HE := hide (show I = l.take k ++ n :: l.drop k from by
              rw [← HI.out, into_here n l k (by rw [HLN.out]; exact hlt) HS.out (by rw [HZ.out]; exact hzn), if_neg (by rw [HZ.out]; exact hzn2)])
            have hck : ¬ c = k := by omega
            clear hzn2
            have elt : (l.take k).length = k := by rw [List.length_take, HLN.out]; omega
            obtain ⟨v0, y0, r0, o0, t0⟩ := (OwnI.nil wr.heap.size wr).part (l.take k) (some ⟨b, 0, none⟩) c (.inr ⟨b, 0, rfl, fun j hj => by
              obtain ⟨b', e, q⟩ := HH.out.at (j := j) (by rw [HLN.out]; rw [elt] at hj; omega)
              injection e with e
              injection e with e
              subst e
              rw [Nat.zero_add, q, List.getD_eq_getElem?_getD, List.getD_eq_getElem?_getD, List.getElem?_take, if_pos (by rw [elt] at hj; exact hj)]⟩) (Nat.le_refl _) (by rw [elt, List.length_nil]; omega) 50
            rw [elt] at r0
            have hb0 := (OwnI.nil wr.heap.size wr).own (Below.refl _ _) (Nat.le_refl _) t0
            rw [List.nil_append] at o0
            have b5 : Below y0.heap.size y0 (y0.alloc (.cells #[.int .i64 n] 3)) := (Below.refl y0.heap.size y0).alloc (Nat.le_refl _) _
            have hcell : (y0.alloc (.cells #[.int .i64 n] 3)).cell? ⟨y0.heap.size, 0, none⟩ = some (.int .i64 n) := (RowAt.new y0 3 #[.int .i64 n]).cell 0 _ rfl
            have hb5 := hb0.trans (b5.mono hb0.size)
            obtain ⟨v1, y1, r1, o1, t1⟩ := (o0.later b5).push n y0.heap.size 1 hcell hb5.size (by rw [elt]; omega) 50
            have hb1 := (o0.later b5).own hb5 hb5.size t1
            have eld : (l.drop k).length = ln - k := by rw [List.length_drop, HLN.out]
            obtain ⟨v2, y2, r2, o2, t2⟩ := o1.part (l.drop k) (some ⟨b, k, none⟩) (c - k) (.inr ⟨b, k, rfl, fun j hj => by
              obtain ⟨b', e, q⟩ := (HH.out.later hb1).at (j := k + j) (by rw [HLN.out]; rw [eld] at hj; omega)
              injection e with e
              injection e with e
              subst e
              rw [q, List.getD_eq_getElem?_getD, List.getD_eq_getElem?_getD, List.getElem?_drop]⟩) hb1.size (by simp only [List.length_append, List.length_singleton, elt, eld]; omega) 50
            rw [eld] at r2
            have hb2 := o1.own hb1 hb1.size t2
            have HF := hide (show OwnI B y2 v2 I ∧ Below wr.heap.size wr y2 from ⟨by
              rw [HE.out]
              refine OwnI.weak ?_ HB.out
              have q := o2
              skip
              simpa using q, hb2⟩)
            clear elt o0 o1 o2 t0 t1 t2 hb0 hb1 hb2 hb5 b5 hcell eld
            go_wp2_with (with_reducible refine stop_at 38 rfl ?_)
            refine unstop10 ?_
            refine Lib.wpList_append_run _ rfl _ _ _ _ rfl _ _ rfl rfl _ _ r0 ?_
            go_wp2_with (with_reducible refine stop_at 42 rfl ?_)
            refine unstop10 ?_
            refine Lib.wpList_append_run _ rfl _ _ _ _ rfl _ _ rfl rfl _ _ r1 ?_
            go_wp2_with (with_reducible refine stop_at 47 rfl ?_)
            refine unstop10 ?_
            refine Lib.wpList_append_run _ rfl _ _ _ _ rfl _ _ rfl rfl _ _ r2 ?_
            go_wp2
            go_ret
            exact ⟨_, rfl, HF.out⟩
      · have i1 : ¬ (k : Int) < (ln : Int) := by omega
        have HE := hide (show I = l.take k ++ n :: l.drop k from by
          have e : k = l.length := by have := HLN.out; omega
          rw [← HI.out, e, into_end n l (fun i hi => HS.out i (by omega))])
        by_cases hck : c = k
        · have e1 : k = ln := by omega
          have e2 : c = ln := by omega
          subst e1
          subst e2
          have elt : (l.take c).length = c := by rw [List.length_take, HLN.out]; omega
          obtain ⟨v0, y0, r0, o0, t0⟩ := (OwnI.nil wr.heap.size wr).part (l.take c) (some ⟨b, 0, none⟩) c (.inr ⟨b, 0, rfl, fun j hj => by
            obtain ⟨b', e, q⟩ := HH.out.at (j := j) (by rw [HLN.out]; rw [elt] at hj; omega)
            injection e with e
            injection e with e
            subst e
            rw [Nat.zero_add, q, List.getD_eq_getElem?_getD, List.getD_eq_getElem?_getD, List.getElem?_take, if_pos (by rw [elt] at hj; exact hj)]⟩) (Nat.le_refl _) (by rw [elt, List.length_nil]; omega) 50
          rw [elt] at r0
          have hb0 := (OwnI.nil wr.heap.size wr).own (Below.refl _ _) (Nat.le_refl _) t0
          rw [List.nil_append] at o0
          have b5 : Below y0.heap.size y0 (y0.alloc (.cells #[.int .i64 n] 3)) := (Below.refl y0.heap.size y0).alloc (Nat.le_refl _) _
          have hcell : (y0.alloc (.cells #[.int .i64 n] 3)).cell? ⟨y0.heap.size, 0, none⟩ = some (.int .i64 n) := (RowAt.new y0 3 #[.int .i64 n]).cell 0 _ rfl
          have hb5 := hb0.trans (b5.mono hb0.size)
          obtain ⟨v1, y1, r1, o1, t1⟩ := (o0.later b5).push n y0.heap.size 1 hcell hb5.size (by rw [elt]; omega) 50
          have hb1 := (o0.later b5).own hb5 hb5.size t1
          obtain ⟨v2, y2, r2, o2, t2⟩ := o1.part [] (some ⟨b, 0, none⟩) 0 (.inr ⟨b, 0, rfl, fun j hj => absurd hj (by simp)⟩) hb1.size (by simp only [List.length_append, List.length_singleton, elt, List.length_nil]; omega) 50
          have hb2 := o1.own hb1 hb1.size t2
          have HF := hide (show OwnI B y2 v2 I ∧ Below wr.heap.size wr y2 from ⟨by
            rw [HE.out]
            refine OwnI.weak ?_ HB.out
            have q := o2
            rw [show l.drop c = [] from List.drop_of_length_le (by rw [HLN.out]; omega)]
            simpa using q, hb2⟩)
          clear elt o0 o1 o2 t0 t1 t2 hb0 hb1 hb2 hb5 b5 hcell 
          go_wp2_with (with_reducible refine stop_at 38 rfl ?_)
          refine unstop10 ?_
          refine Lib.wpList_append_run _ rfl _ _ _ _ rfl _ _ rfl rfl _ _ r0 ?_
          go_wp2_with (with_reducible refine stop_at 42 rfl ?_)
          refine unstop10 ?_
          refine Lib.wpList_append_run _ rfl _ _ _ _ rfl _ _ rfl rfl _ _ r1 ?_
          go_wp2_with (with_reducible refine stop_at 47 rfl ?_)
          refine unstop10 ?_
          refine Lib.wpList_append_run _ rfl _ _ _ _ rfl _ _ rfl rfl _ _ r2 ?_
          go_wp2
          go_ret
          exact ⟨_, rfl, HF.out⟩
        · skip
          have elt : (l.take k).length = k := by rw [List.length_take, HLN.out]; omega
          obtain ⟨v0, y0, r0, o0, t0⟩ := (OwnI.nil wr.heap.size wr).part (l.take k) (some ⟨b, 0, none⟩) c (.inr ⟨b, 0, rfl, fun j hj => by
            obtain ⟨b', e, q⟩ := HH.out.at (j := j) (by rw [HLN.out]; rw [elt] at hj; omega)
            injection e with e
            injection e with e
            subst e
            rw [Nat.zero_add, q, List.getD_eq_getElem?_getD, List.getD_eq_getElem?_getD, List.getElem?_take, if_pos (by rw [elt] at hj; exact hj)]⟩) (Nat.le_refl _) (by rw [elt, List.length_nil]; omega) 50
          rw [elt] at r0
          have hb0 := (OwnI.nil wr.heap.size wr).own (Below.refl _ _) (Nat.le_refl _) t0
          rw [List.nil_append] at o0
          have b5 : Below y0.heap.size y0 (y0.alloc (.cells #[.int .i64 n] 3)) := (Below.refl y0.heap.size y0).alloc (Nat.le_refl _) _
          have hcell : (y0.alloc (.cells #[.int .i64 n] 3)).cell? ⟨y0.heap.size, 0, none⟩ = some (.int .i64 n) := (RowAt.new y0 3 #[.int .i64 n]).cell 0 _ rfl
          have hb5 := hb0.trans (b5.mono hb0.size)
          obtain ⟨v1, y1, r1, o1, t1⟩ := (o0.later b5).push n y0.heap.size 1 hcell hb5.size (by rw [elt]; omega) 50
          have hb1 := (o0.later b5).own hb5 hb5.size t1
          have eld : (l.drop k).length = ln - k := by rw [List.length_drop, HLN.out]
          obtain ⟨v2, y2, r2, o2, t2⟩ := o1.part (l.drop k) (some ⟨b, k, none⟩) (c - k) (.inr ⟨b, k, rfl, fun j hj => by
            obtain ⟨b', e, q⟩ := (HH.out.later hb1).at (j := k + j) (by rw [HLN.out]; rw [eld] at hj; omega)
            injection e with e
            injection e with e
            subst e
            rw [q, List.getD_eq_getElem?_getD, List.getD_eq_getElem?_getD, List.getElem?_drop]⟩) hb1.size (by simp only [List.length_append, List.length_singleton, elt, eld]; omega) 50
          rw [eld] at r2
          have hb2 := o1.own hb1 hb1.size t2
          have HF := hide (show OwnI B y2 v2 I ∧ Below wr.heap.size wr y2 from ⟨by
            rw [HE.out]
            refine OwnI.weak ?_ HB.out
            have q := o2
            skip
            simpa using q, hb2⟩)
          clear elt o0 o1 o2 t0 t1 t2 hb0 hb1 hb2 hb5 b5 hcell eld
          go_wp2_with (with_reducible refine stop_at 38 rfl ?_)
          refine unstop10 ?_
          refine Lib.wpList_append_run _ rfl _ _ _ _ rfl _ _ rfl rfl _ _ r0 ?_
          go_wp2_with (with_reducible refine stop_at 42 rfl ?_)
          refine unstop10 ?_
          refine Lib.wpList_append_run _ rfl _ _ _ _ rfl _ _ rfl rfl _ _ r1 ?_
          go_wp2_with (with_reducible refine stop_at 47 rfl ?_)
          refine unstop10 ?_
          refine Lib.wpList_append_run _ rfl _ _ _ _ rfl _ _ rfl rfl _ _ r2 ?_
          go_wp2
          go_ret
          exact ⟨_, rfl, HF.out⟩
end
end Go.Proofs.Ytmlbghloddiflaa
end
section
namespace Go.Proofs.Ytmlbghloddiflaa
open Go.RowKit
set_option linter.unusedVariables false

theorem own_len : ∀ (l : List Hd) (s : List Int), (ownL l s).length ≤ s.length + l.length
  | [], s => Nat.le_refl _
  | h :: l, s => by
    have := own_len l (intoL s h.w)
    have := into_len h.w s
    unfold ownL
    simp only [List.length_cons]
    omega
theorem owners_len (t : Tb) : t.owners.length ≤ t.has.length + t.row.length := by
  have h1 := own_len t.row (ownL t.has [])
  have h2 := own_len t.has []
  unfold Tb.owners
  simp only [List.length_nil] at h2
  omega
section
variable {B : Nat} {w : World} {h : Nat} {vH vR : Value} {t : Tb}
set_option maxRecDepth 4000 in
set_option maxHeartbeats 1600000 in
theorem rowners13 (q : RT B w h vH vR t) : Calls Try.prog 38 #[.pointer (some ⟨h, 0, none⟩)] w fun e w' => ∃ v, e = .returned v ∧ OwnI w.heap.size w' v t.owners ∧ Below w.heap.size w w' := by
  obtain ⟨aH, cH, rfl, hc, hc2⟩ := q.has.shape
  obtain ⟨aR, cR, rfl, hd, hd2⟩ := q.row.shape
  have c0 := q.head.1
  have hl := q.len
  have HQ := hide q
  obtain ⟨n, hn⟩ : ∃ n, n = t.has.length := ⟨_, rfl⟩
  obtain ⟨n2, hn2⟩ : ∃ n2, n2 = t.row.length := ⟨_, rfl⟩
  rw [← hn] at c0 hc hl
  rw [← hn2] at hd hl
  have HN := hide hn
  have HN2 := hide hn2
  clear q hn hn2
  go_enter Try.func38, Try.ntmps38
  go_wp2
  clear c0
  go_loopw [3, 11] (fun v q wr => ∃ j : Nat, j ≤ n ∧ q = .int .i64 j ∧ Hid (∃ s, OwnI w.heap.size wr v s ∧ ownL (t.has.drop j) s = ownL t.has [] ∧ s.length ≤ j ∧ Below w.heap.size w wr)) (fun _ q _ => n - (intOf q).toNat)
  case atStart => exact ⟨0, Nat.zero_le _, rfl, [], OwnI.nil _ _, rfl, Nat.le_refl _, Below.refl _ _⟩
  case round =>
    obtain ⟨j, hj, rfl, HR⟩ := hrel
    by_cases hlt : j < n
    · have i1 : (j : Int) < (n : Int) := by omega
      obtain ⟨m, hm⟩ : ∃ m, t.has[j]? = some m := ⟨_, List.getElem?_eq_getElem (by have := HN.out; omega)⟩
      obtain ⟨s, hO, hE, hsl, hbl⟩ := HR.out
      have HQ2 := hide (HQ.out.later hbl)
      obtain ⟨b, rfl, d0, d1, d2⟩ := HQ2.out.has.at hm
      have c1 := HQ2.out.head.1
      rw [← HN.out] at c1
      have HT := hide (rinto13 hO hbl.size (by omega) m.w)
      have HX := hide (show ∀ s2, s2 = intoL s m.w → ownL (t.has.drop (j + 1)) s2 = ownL t.has [] ∧ s2.length ≤ j + 1 from fun s2 e => by
        rw [e]
        refine ⟨?_, Nat.le_trans (into_len _ _) (by omega)⟩
        rw [← hE, drop_at _ _ _ hm]
        rfl)
      have HBL := hide hbl
      clear hm hO hE hsl hbl HR
      go_wp2_with fail
      refine HT.out.mono ?_
      rintro e w1 ⟨v1, rfl, hO1, hb1⟩
      have HE := hide (show ∃ s, OwnI w.heap.size w1 v1 s ∧ ownL (t.has.drop (j + 1)) s = ownL t.has [] ∧ s.length ≤ j + 1 ∧ Below w.heap.size w w1 from ⟨_, hO1, (HX.out _ rfl).1, (HX.out _ rfl).2, HBL.out.trans (hb1.mono HBL.out.size)⟩)
      clear hO1 hb1 HT HX d0 d1 d2 c1 HQ2
      go_wp2
      go_roundw
      case rel => exact ⟨j + 1, by omega, by go_num, HE⟩
      case measure => simp [intOf]; omega
    · have i1 : ¬ (j : Int) < (n : Int) := by omega
      obtain ⟨s, hO, hE, hsl, hbl⟩ := HR.out
      have HR2 := hide (show ∃ s, OwnI w.heap.size wr _ s ∧ ownL (t.row.drop 0) s = t.owners ∧ s.length ≤ 3000 + 0 ∧ Below w.heap.size w wr from ⟨s, hO, by
        rw [List.drop_of_length_le (by have := HN.out; omega)] at hE
        unfold Tb.owners
        rw [← hE]
        rfl, by omega, hbl⟩)
      have HQ2 := hide (HQ.out.later hbl)
      have c1 := HQ2.out.head.2
      rw [← HN2.out] at c1
      clear hO hE hsl hbl HR HQ2
      go_wp2
      clear c1
      go_loopw [3, 30] (fun v q wr => ∃ j : Nat, j ≤ n2 ∧ q = .int .i64 j ∧ Hid (∃ s, OwnI w.heap.size wr v s ∧ ownL (t.row.drop j) s = t.owners ∧ s.length ≤ 3000 + j ∧ Below w.heap.size w wr)) (fun _ q _ => n2 - (intOf q).toNat)
      case atStart => exact ⟨0, Nat.zero_le _, rfl, HR2⟩
      case round =>
        obtain ⟨j, hj, rfl, HR⟩ := hrel
        by_cases hlt : j < n2
        · have i2 : (j : Int) < (n2 : Int) := by omega
          obtain ⟨m, hm⟩ : ∃ m, t.row[j]? = some m := ⟨_, List.getElem?_eq_getElem (by have := HN2.out; omega)⟩
          obtain ⟨s, hO, hE, hsl, hbl⟩ := HR.out
          have HQ2 := hide (HQ.out.later hbl)
          obtain ⟨b, rfl, d0, d1, d2⟩ := HQ2.out.row.at hm
          have c1 := HQ2.out.head.2
          rw [← HN2.out] at c1
          have HT := hide (rinto13 hO hbl.size (by omega) m.w)
          have HX := hide (show ∀ s2, s2 = intoL s m.w → ownL (t.row.drop (j + 1)) s2 = t.owners ∧ s2.length ≤ 3000 + (j + 1) from fun s2 e => by
            rw [e]
            refine ⟨?_, Nat.le_trans (into_len _ _) (by omega)⟩
            rw [← hE, drop_at _ _ _ hm]
            rfl)
          have HBL := hide hbl
          clear hm hO hE hsl hbl HR
          go_wp2_with fail
          refine HT.out.mono ?_
          rintro e w1 ⟨v1, rfl, hO1, hb1⟩
          have HE := hide (show ∃ s, OwnI w.heap.size w1 v1 s ∧ ownL (t.row.drop (j + 1)) s = t.owners ∧ s.length ≤ 3000 + (j + 1) ∧ Below w.heap.size w w1 from ⟨_, hO1, (HX.out _ rfl).1, (HX.out _ rfl).2, HBL.out.trans (hb1.mono HBL.out.size)⟩)
          clear hO1 hb1 HT HX d0 d1 d2 c1 HQ2
          go_wp2
          go_roundw
          case rel => exact ⟨j + 1, by omega, by go_num, HE⟩
          case measure => simp [intOf]; omega
        · have i2 : ¬ (j : Int) < (n2 : Int) := by omega
          go_wp2
          go_ret
          obtain ⟨s, hO, hE, hsl, hbl⟩ := HR.out
          refine ⟨_, rfl, ?_, hbl⟩
          rw [List.drop_of_length_le (by have := HN2.out; omega)] at hE
          rw [← hE]
          exact hO
theorem filter_snoc (f : Int → Bool) (l : List Int) (j : Nat) (h : j < l.length) : (l.take (j + 1)).filter f = if f (l.getD j 0) = true then (l.take j).filter f ++ [l.getD j 0] else (l.take j).filter f := by
  rw [List.take_succ_eq_append_getElem h, List.filter_append, List.getD_eq_getElem?_getD, List.getElem?_eq_getElem h, Option.getD_some]
  by_cases q : f l[j] = true
  · rw [if_pos q]; simp [q]
  · rw [if_neg q]; simp [q]
set_option maxRecDepth 4000 in
set_option maxHeartbeats 1600000 in
theorem rbehind13 (q : RT B w h vH vR t) (who : Int) : Calls Try.prog 34 #[.pointer (some ⟨h, 0, none⟩), .int .i64 who] w fun e w' => ∃ v, e = .returned v ∧ OwnI w.heap.size w' v (t.behL who) ∧ Below w.heap.size w w' := by
  have HQ := hide q
  have HT := hide (rowners13 q)
  have hol := owners_len t
  have hl := q.len
  clear q
  go_enter Try.func34, Try.ntmps34
  go_wp2_with fail
  refine HT.out.mono ?_
  rintro e w1 ⟨v1, rfl, hO, hb1⟩
  obtain ⟨a1, c1, rfl⟩ := hO.shape
  have HO := hide hO
  have HB1 := hide hb1
  have hcap : t.owners.length ≤ c1 := by
    rcases hO.2 with ⟨e, h0⟩ | ⟨g', cap, cur, e, _, _, hn, _⟩
    · rw [h0]; exact Nat.zero_le _
    · injection e with _ _ e3
      rw [e3]
      exact hn
  obtain ⟨n, hn⟩ : ∃ n, t.owners.length = n := ⟨_, rfl⟩
  have HN := hide hn
  have hn3 : n ≤ 6000 := by omega
  rw [hn] at hcap ⊢
  clear hO hb1 HT hn hol hl
  go_wp2
  go_loopw [5, 12] (fun v q wr => ∃ j : Nat, j ≤ n ∧ q = .int .i64 j ∧ Hid (OwnI w1.heap.size wr v ((t.owners.take j).filter fun b => t.beh who b) ∧ Below w1.heap.size w1 wr)) (fun _ q _ => n - (intOf q).toNat)
  case atStart => exact ⟨0, Nat.zero_le _, rfl, OwnI.nil _ _, Below.refl _ _⟩
  case round =>
    obtain ⟨j, hj, rfl, HR⟩ := hrel
    by_cases hlt : j < n
    · have i1 : (j : Int) < (n : Int) := by omega
      obtain ⟨b, rfl, d0⟩ := (HO.out.later HR.out.2).at (j := j) (by rw [HN.out]; exact hlt)
      have HQ2 := hide (HQ.out.later (HB1.out.trans (HR.out.2.mono HB1.out.size)))
      obtain ⟨z, hz⟩ : ∃ z, t.owners.getD j 0 = z := ⟨_, rfl⟩
      have HSN := hide (filter_snoc (fun b => t.beh who b) t.owners j (by rw [HN.out]; exact hlt))
      rw [hz] at d0 HSN
      have HD := hide (show ∀ y, Below w1.heap.size w1 y → y.cell? ⟨b, j, none⟩ = some (.int .i64 z) from fun y hy => by
        obtain ⟨b', e, q⟩ := (HO.out.later hy).at (j := j) (by rw [HN.out]; exact hlt)
        injection e with e
        injection e with e
        subst e
        rw [hz] at q
        exact q)
      have T := rbeh13 HQ2.out who z
      clear hz HQ2
      cases hq : t.beh who z with
      | false =>
        rw [hq] at T
        have HT := hide T
        have HE := hide (show (t.owners.take (j + 1)).filter (fun b => t.beh who b) = (t.owners.take j).filter fun b => t.beh who b from by rw [HSN.out, if_neg (by rw [hq]; decide)])
        clear T hq HSN
        go_wp2_with fail
        refine HT.out.mono ?_
        rintro e w2 ⟨rfl, hb2⟩
        have HR2 := hide (show OwnI w1.heap.size w2 _ ((t.owners.take (j + 1)).filter fun b => t.beh who b) ∧ Below w1.heap.size w1 w2 from ⟨by rw [HE.out]; exact HR.out.1.later hb2, HR.out.2.trans (hb2.mono HR.out.2.size)⟩)
        clear hb2 HT d0 HR
        go_wp2
        go_roundw
        case rel => exact ⟨j + 1, by omega, by go_num, HR2⟩
        case measure => simp [intOf]; omega
      | true =>
        rw [hq] at T
        have HT := hide T
        have HE := hide (show (t.owners.take (j + 1)).filter (fun b => t.beh who b) = ((t.owners.take j).filter fun b => t.beh who b) ++ [z] from by rw [HSN.out, if_pos hq])
        clear T hq HSN
        go_wp2_with fail
        refine HT.out.mono ?_
        rintro e w2 ⟨rfl, hb2⟩
        have hb3 := HR.out.2.trans (hb2.mono HR.out.2.size)
        have d1 := HD.out w2 hb3
        have b5 : Below w2.heap.size w2 (w2.alloc (.cells #[.int .i64 z] 3)) := (Below.refl w2.heap.size w2).alloc (Nat.le_refl _) _
        have hcell : (w2.alloc (.cells #[.int .i64 z] 3)).cell? ⟨w2.heap.size, 0, none⟩ = some (.int .i64 z) := (RowAt.new w2 3 #[.int .i64 z]).cell 0 _ rfl
        have hb5 := hb3.trans (b5.mono hb3.size)
        have hO5 := (HR.out.1.later hb2).later b5
        obtain ⟨v3, w3, r3, o3, t3⟩ := hO5.push z w2.heap.size 1 hcell hb5.size (by
          have := List.length_filter_le (fun b => t.beh who b) (t.owners.take j)
          rw [List.length_take] at this
          omega) 50
        have HR2 := hide (show OwnI w1.heap.size w3 v3 ((t.owners.take (j + 1)).filter fun b => t.beh who b) ∧ Below w1.heap.size w1 w3 from ⟨by rw [HE.out]; exact o3, hO5.own hb5 hb5.size t3⟩)
        clear hb2 HT d0 HR b5 hcell hb5 hO5 o3 t3 hb3
        go_wp2_with (with_reducible refine stop_at 28 rfl ?_)
        refine unstop10 ?_
        refine Lib.wpList_append_run _ rfl _ _ _ _ rfl _ _ rfl rfl _ _ r3 ?_
        clear d1
        go_wp2
        go_roundw
        case rel => exact ⟨j + 1, by omega, by go_num, HR2⟩
        case measure => simp [intOf]; omega
    · have i1 : ¬ (j : Int) < (n : Int) := by omega
      go_wp2
      go_ret
      refine ⟨_, rfl, ?_, HB1.out.trans (HR.out.2.mono HB1.out.size)⟩
      have q := HR.out.1
      rw [List.take_of_length_le (by rw [HN.out]; omega)] at q
      exact q.weak HB1.out.size
end
end Go.Proofs.Ytmlbghloddiflaa
end
section
namespace Go.Proofs.Ytmlbghloddiflaa
open Go.RowKit
set_option linter.unusedVariables false

/-- Locks that lie somewhere, behind locks of one's own. -/
theorem OwnR.part {B : Nat} {y : World} {v : Value} {l : List Hd} (h : OwnR B y v l) (m : List Hd) (a : Option Addr) (c : Nat) (hs : (a = none ∧ m = [] ∧ c = 0) ∨ ∃ b o, a = some ⟨b, o, none⟩ ∧ ∀ j u, (flatH m)[j]? = some u → y.cell? ⟨b, o + j, none⟩ = some u) (hB : B ≤ y.heap.size) (hl : l.length + m.length ≤ 1000000) (ty : TypeId) :
    ∃ v' y', (Builtin.append_ #[27, 27] ty #[v, .slice a m.length c]).run Try.prog y = .ok v' y' ∧ OwnR B y' v' (l ++ m) ∧ Tn (fun k => v.ownBlock = some k) y y' := by
  obtain ⟨i, hi0, hi1⟩ := Option.map_eq_some_iff.1 infoR
  simp only [Prod.mk.injEq] at hi1
  rcases hs with ⟨rfl, rfl, rfl⟩ | ⟨b, o, rfl, hc⟩
  · rw [List.append_nil]
    exact ⟨v, y, run_append_owned_none (P := Try.prog) (w := y) B 27 ty 64 i 3 Try.underlying27 hi0 v l.length (flatH l) h, h, Tn.refl _ _⟩
  · obtain ⟨v', y', r1, r2, r3, _⟩ := run_append_own (P := Try.prog) y B 27 ty 64 i (.agg zeroH) 3 24 Try.underlying27 hi0 hi1.1 hi1.2.1 hi1.2.2 rfl (by omega) v l.length (flatH l) h ⟨b, o, none⟩ m.length c (flatH m) (flatH_len m) (fun j u hu => by
      rw [Addr.add_lit]
      exact hc j u hu) (flatH_ones m) (by unfold maxLen; omega) (by omega) hB
    refine ⟨v', y', r1, ?_, Tn.of_grown r3 (fun k hk => hk)⟩
    unfold OwnR
    rw [flatH_append, List.length_append]
    exact r2
/-- One lock more. -/
theorem OwnR.push {B : Nat} {y : World} {v : Value} {l : List Hd} (h : OwnR B y v l) (k : Hd) (hB : B ≤ y.heap.size) (hl : l.length ≤ 100000) :
    ∃ v' y', (Builtin.append_ #[27, 27] 27 #[v, .slice (some ⟨y.heap.size, 0, none⟩) 1 1]).run Try.prog (y.alloc (.cells #[.int .i64 k.w, .int .i64 k.x, .int .i64 k.m] 64)) = .ok v' y' ∧ OwnR B y' v' (l ++ [k]) ∧ Tn (fun k => v.ownBlock = some k) y y' := by
  have b5 : Below y.heap.size y (y.alloc (.cells #[.int .i64 k.w, .int .i64 k.x, .int .i64 k.m] 64)) := (Below.refl y.heap.size y).alloc (Nat.le_refl _) _
  have hr := RowAt.new y 64 #[.int .i64 k.w, .int .i64 k.x, .int .i64 k.m]
  obtain ⟨v', y', r1, r2, r3⟩ := (h.later b5).part [k] (some ⟨y.heap.size, 0, none⟩) 1 (.inr ⟨y.heap.size, 0, rfl, fun j u hu => by
    rw [Nat.zero_add]
    refine hr.cell j u ?_
    rw [flatH_one] at hu
    rw [← hu, show #[Value.int .i64 k.w, .int .i64 k.x, .int .i64 k.m] = (hdL k).toArray from rfl, List.getElem?_toArray]⟩) (Nat.le_trans hB b5.size) (by simp; omega) 27
  exact ⟨v', y', r1, r2, (Tn.of_below b5).then r3⟩
theorem OwnR.own {B : Nat} {y z : World} {v : Value} {l : List Hd} (h : OwnR B y v l) {w : World} (hw : Below B w y) (hB : B ≤ y.heap.size) (q : Tn (fun k => v.ownBlock = some k) y z) : Below B w z := hw.trans (q.below (fun k hk => (h.block hk).1) hB)
theorem filter_take {α : Type} (f : α → Bool) (l : List α) (j : Nat) (m : α) (h : l[j]? = some m) : (l.take (j + 1)).filter f = if f m = true then (l.take j).filter f ++ [m] else (l.take j).filter f := by
  obtain ⟨h1, rfl⟩ := List.getElem?_eq_some_iff.1 h
  rw [List.take_succ_eq_append_getElem h1, List.filter_append]
  by_cases q : f l[j] = true
  · rw [if_pos q]; simp [q]
  · rw [if_neg q]; simp [q]
/-- The blocks of the document's table. -/
def RF (h : Nat) (vH vR : Value) (k : Nat) : Prop := k = h ∨ vH.ownBlock = some k ∨ vR.ownBlock = some k
/-- Behind a call. -/
def RAft (B : Nat) (w : World) (h : Nat) (vH vR : Value) (t' : Tb) (w' : World) : Prop := ∃ vH' vR', RT B w' h vH' vR' t' ∧ Tn (RF h vH vR) w w' ∧ ∀ k, RF h vH' vR' k → RF h vH vR k ∨ w.heap.size ≤ k
theorem RAft.same {B : Nat} {w w' : World} {h : Nat} {vH vR : Value} {t : Tb} (q : RT B w h vH vR t) (b : Below w.heap.size w w') : RAft B w h vH vR t w' := ⟨vH, vR, q.later b, Tn.of_below b, fun k hk => .inl hk⟩
theorem RAft.then {B : Nat} {w x y : World} {h : Nat} {vH vR vH' vR' : Value} {t2 : Tb} (p : Tn (RF h vH vR) w x) (o : ∀ k, RF h vH' vR' k → RF h vH vR k ∨ w.heap.size ≤ k) (r : RAft B x h vH' vR' t2 y) : RAft B w h vH vR t2 y := by
  obtain ⟨a, b, c, d, e⟩ := r
  refine ⟨a, b, c, p.trans d o, fun k hk => ?_⟩
  rcases e k hk with q | q
  · exact o k q
  · exact .inr (Nat.le_trans p.size q)
section
variable {B : Nat} {w : World} {h : Nat} {vH vR : Value} {t : Tb}
/-- The row stored anew. -/
theorem RT.setRow {x : World} (q : RT B w h vH vR t) (b : Below w.heap.size w x) {v : Value} {l : List Hd} (ho : OwnR w.heap.size x v l) (hB : B ≤ w.heap.size) (hl : l.length ≤ 3000) : RAft B w h vH vR { t with row := l } (x.setCell ⟨h, 1, none⟩ v) := by
  have hne : ∀ k, v.ownBlock = some k → w.heap.size ≤ k := fun k hk => (ho.block hk).1
  have hlt := q.blk.lt
  have ht : Tn (Is h) x (x.setCell ⟨h, 1, none⟩ v) := (Tn.refl _ _).set h _ _ rfl
  have hbk := (q.later b).blk.set 1 v
  refine ⟨vH, v, ⟨?_, (q.has.later b).turned ht (fun k hk e => ?_), (OwnR.weak ho hB).turned ht (fun k hk e => ?_), fun k hk e => ?_, q.new, ⟨q.len.1, hl⟩⟩, ?_, fun k hk => ?_⟩
  · simpa using hbk
  · obtain ⟨_, cs, r⟩ := q.has.block e
    rw [show k = h from hk] at r
    exact absurd (row_kind q.blk r) (by decide)
  · have := hne k e
    rw [show k = h from hk] at this
    omega
  · obtain ⟨_, cs, r⟩ := q.has.block hk
    have := r.lt
    have := hne k e
    omega
  · exact (Tn.of_below b).trans ht (fun k hk => .inl (.inl hk))
  · rcases hk with e | e | e
    · exact .inl (.inl e)
    · exact .inl (.inr (.inl e))
    · exact .inr (hne k e)
theorem RT.setHas {x : World} (q : RT B w h vH vR t) (b : Below w.heap.size w x) {v : Value} {l : List Hd} (ho : OwnR w.heap.size x v l) (hB : B ≤ w.heap.size) (hl : l.length ≤ 3000) : RAft B w h vH vR { t with has := l } (x.setCell ⟨h, 0, none⟩ v) := by
  have hne : ∀ k, v.ownBlock = some k → w.heap.size ≤ k := fun k hk => (ho.block hk).1
  have hlt := q.blk.lt
  have ht : Tn (Is h) x (x.setCell ⟨h, 0, none⟩ v) := (Tn.refl _ _).set h _ _ rfl
  have hbk := (q.later b).blk.set 0 v
  refine ⟨v, vR, ⟨?_, (OwnR.weak ho hB).turned ht (fun k hk e => ?_), (q.row.later b).turned ht (fun k hk e => ?_), fun k hk e => ?_, q.new, ⟨hl, q.len.2⟩⟩, ?_, fun k hk => ?_⟩
  · simpa using hbk
  · have := hne k e
    rw [show k = h from hk] at this
    omega
  · obtain ⟨_, cs, r⟩ := q.row.block e
    rw [show k = h from hk] at r
    exact absurd (row_kind q.blk r) (by decide)
  · obtain ⟨_, cs, r⟩ := q.row.block e
    have := r.lt
    have := hne k hk
    omega
  · exact (Tn.of_below b).trans ht (fun k hk => .inl (.inl hk))
  · rcases hk with e | e | e
    · exact .inl (.inl e)
    · exact .inr (hne k e)
    · exact .inl (.inr (.inr e))
set_option maxRecDepth 4000 in
set_option maxHeartbeats 1600000 in
theorem rqueueL13 (q : RT B w h vH vR t) (x : Int) : Calls Try.prog 36 #[.pointer (some ⟨h, 0, none⟩), .int .i64 x] w fun e w' => ∃ v, e = .returned v ∧ OwnR w.heap.size w' v (t.que x) ∧ Below w.heap.size w w' := by
  obtain ⟨aR, cR, hvR, hc, hc2⟩ := q.row.shape
  subst hvR
  have c0 := q.head.2
  have hl := q.len.2
  have HQ := hide q
  obtain ⟨n, hn⟩ : ∃ n, n = t.row.length := ⟨_, rfl⟩
  rw [← hn] at c0 hc hl
  have HN := hide hn
  clear q hn
  go_enter Try.func36, Try.ntmps36
  go_wp2
  clear c0
  go_loopw [5, 12] (fun v q wr => ∃ j : Nat, j ≤ n ∧ q = .int .i64 j ∧ Hid (OwnR w.heap.size wr v ((t.row.take j).filter (fun k : Hd => decide (k.x = x))) ∧ Below w.heap.size w wr)) (fun _ q _ => n - (intOf q).toNat)
  case atStart => exact ⟨0, Nat.zero_le _, rfl, OwnR.nil _ _, Below.refl _ _⟩
  case round =>
    obtain ⟨j, hj, rfl, HR⟩ := hrel
    by_cases hlt : j < n
    · have i1 : (j : Int) < (n : Int) := by omega
      obtain ⟨m, hm⟩ : ∃ m, t.row[j]? = some m := ⟨_, List.getElem?_eq_getElem (by have := HN.out; omega)⟩
      have HQ2 := hide (HQ.out.later HR.out.2)
      obtain ⟨b, rfl, d0, d1, d2⟩ := HQ2.out.row.at hm
      have c1 := HQ2.out.head.2
      rw [← HN.out] at c1
      have HSN := hide (filter_take (fun k : Hd => decide (k.x = x)) t.row j m hm)
      clear hm HQ2
      by_cases hx : m.x = x
      · have e1 : (m.x == x) = true := by rw [beq_iff_eq]; exact hx
        have HE := hide (show (t.row.take (j + 1)).filter (fun k : Hd => decide (k.x = x)) = (t.row.take j).filter (fun k : Hd => decide (k.x = x)) ++ [m] from by rw [HSN.out, if_pos (by simpa using hx)])
        obtain ⟨v3, w3, r3, o3, t3⟩ := HR.out.1.push m HR.out.2.size (by
          have := List.length_filter_le (fun k : Hd => decide (k.x = x)) (t.row.take j)
          rw [List.length_take] at this
          omega)
        have HR2 := hide (show OwnR w.heap.size w3 v3 ((t.row.take (j + 1)).filter (fun k : Hd => decide (k.x = x))) ∧ Below w.heap.size w w3 from ⟨by rw [HE.out]; exact o3, HR.out.1.own HR.out.2 HR.out.2.size t3⟩)
        clear hx o3 t3 HSN HR
        go_wp2_with (with_reducible refine stop_at 34 rfl ?_)
        refine unstop10 ?_
        refine Lib.wpList_append_run _ rfl _ _ _ _ rfl _ _ rfl rfl _ _ r3 ?_
        clear d0 d1 d2 c1
        go_wp2
        go_roundw
        case rel => exact ⟨j + 1, by omega, by go_num, HR2⟩
        case measure => simp [intOf]; omega
      · have e1 : (m.x == x) = false := by rw [beq_eq_false_iff_ne]; exact hx
        have HE := hide (show (t.row.take (j + 1)).filter (fun k : Hd => decide (k.x = x)) = (t.row.take j).filter (fun k : Hd => decide (k.x = x)) from by rw [HSN.out, if_neg (by simpa using hx)])
        have HR2 := hide (show OwnR w.heap.size wr _ ((t.row.take (j + 1)).filter (fun k : Hd => decide (k.x = x))) ∧ Below w.heap.size w wr from ⟨by rw [HE.out]; exact HR.out.1, HR.out.2⟩)
        clear hx HSN HR
        go_wp2
        go_roundw
        case rel => exact ⟨j + 1, by omega, by go_num, HR2⟩
        case measure => simp [intOf]; omega
    · have i1 : ¬ (j : Int) < (n : Int) := by omega
      have HF := hide (show OwnR w.heap.size wr _ (t.row.filter (fun k : Hd => decide (k.x = x))) ∧ Below w.heap.size w wr from by
        have q := HR.out
        rw [List.take_of_length_le (by have := HN.out; omega)] at q
        exact q)
      have HLL := hide (show (t.row.filter (fun k : Hd => decide (k.x = x))).length ≤ 3000 from Nat.le_trans (List.length_filter_le _ _) HQ.out.len.2)
      clear HR
      go_wp2
      go_ret
      exact ⟨_, rfl, HF.out⟩
set_option maxRecDepth 4000 in
set_option maxHeartbeats 1600000 in
theorem raway13 (q : RT B w h vH vR t) (hB : B ≤ w.heap.size) (who : Int) : Calls Try.prog 61 #[.pointer (some ⟨h, 0, none⟩), .int .i64 who] w fun e w' => e = .returned (.tuple #[]) ∧ RAft B w h vH vR (t.away who) w' := by
  obtain ⟨aR, cR, hvR, hc, hc2⟩ := q.row.shape
  subst hvR
  have c0 := q.head.2
  have hl := q.len.2
  have HQ := hide q
  obtain ⟨n, hn⟩ : ∃ n, n = t.row.length := ⟨_, rfl⟩
  rw [← hn] at c0 hc hl
  have HN := hide hn
  clear q hn
  go_enter Try.func61, Try.ntmps61
  go_wp2
  clear c0
  go_loopw [4, 11] (fun v q wr => ∃ j : Nat, j ≤ n ∧ q = .int .i64 j ∧ Hid (OwnR w.heap.size wr v ((t.row.take j).filter (fun k : Hd => decide (k.w ≠ who))) ∧ Below w.heap.size w wr)) (fun _ q _ => n - (intOf q).toNat)
  case atStart => exact ⟨0, Nat.zero_le _, rfl, OwnR.nil _ _, Below.refl _ _⟩
  case round =>
    obtain ⟨j, hj, rfl, HR⟩ := hrel
    by_cases hlt : j < n
    · have i1 : (j : Int) < (n : Int) := by omega
      obtain ⟨m, hm⟩ : ∃ m, t.row[j]? = some m := ⟨_, List.getElem?_eq_getElem (by have := HN.out; omega)⟩
      have HQ2 := hide (HQ.out.later HR.out.2)
      obtain ⟨b, rfl, d0, d1, d2⟩ := HQ2.out.row.at hm
      have c1 := HQ2.out.head.2
      rw [← HN.out] at c1
      have HSN := hide (filter_take (fun k : Hd => decide (k.w ≠ who)) t.row j m hm)
      clear hm HQ2
      by_cases hx : ¬ m.w = who
      · have e1 : (m.w != who) = true := by simpa using hx
        have HE := hide (show (t.row.take (j + 1)).filter (fun k : Hd => decide (k.w ≠ who)) = (t.row.take j).filter (fun k : Hd => decide (k.w ≠ who)) ++ [m] from by rw [HSN.out, if_pos (by simpa using hx)])
        obtain ⟨v3, w3, r3, o3, t3⟩ := HR.out.1.push m HR.out.2.size (by
          have := List.length_filter_le (fun k : Hd => decide (k.w ≠ who)) (t.row.take j)
          rw [List.length_take] at this
          omega)
        have HR2 := hide (show OwnR w.heap.size w3 v3 ((t.row.take (j + 1)).filter (fun k : Hd => decide (k.w ≠ who))) ∧ Below w.heap.size w w3 from ⟨by rw [HE.out]; exact o3, HR.out.1.own HR.out.2 HR.out.2.size t3⟩)
        clear hx o3 t3 HSN HR
        go_wp2_with (with_reducible refine stop_at 33 rfl ?_)
        refine unstop10 ?_
        refine Lib.wpList_append_run _ rfl _ _ _ _ rfl _ _ rfl rfl _ _ r3 ?_
        clear d0 d1 d2 c1
        go_wp2
        go_roundw
        case rel => exact ⟨j + 1, by omega, by go_num, HR2⟩
        case measure => simp [intOf]; omega
      · have e1 : (m.w != who) = false := by simpa using hx
        have HE := hide (show (t.row.take (j + 1)).filter (fun k : Hd => decide (k.w ≠ who)) = (t.row.take j).filter (fun k : Hd => decide (k.w ≠ who)) from by rw [HSN.out, if_neg (by simpa using hx)])
        have HR2 := hide (show OwnR w.heap.size wr _ ((t.row.take (j + 1)).filter (fun k : Hd => decide (k.w ≠ who))) ∧ Below w.heap.size w wr from ⟨by rw [HE.out]; exact HR.out.1, HR.out.2⟩)
        clear hx HSN HR
        go_wp2
        go_roundw
        case rel => exact ⟨j + 1, by omega, by go_num, HR2⟩
        case measure => simp [intOf]; omega
    · have i1 : ¬ (j : Int) < (n : Int) := by omega
      have HF := hide (show OwnR w.heap.size wr _ (t.row.filter (fun k : Hd => decide (k.w ≠ who))) ∧ Below w.heap.size w wr from by
        have q := HR.out
        rw [List.take_of_length_le (by have := HN.out; omega)] at q
        exact q)
      have HLL := hide (show (t.row.filter (fun k : Hd => decide (k.w ≠ who))).length ≤ 3000 from Nat.le_trans (List.length_filter_le _ _) HQ.out.len.2)
      clear HR
      have f1 := (HQ.out.later HF.out.2).blk.free 1
      have c1 := (HQ.out.later HF.out.2).head.2
      have HG := hide (HQ.out.setRow HF.out.2 HF.out.1 hB HLL.out)
      obtain ⟨a9, c9, e9, -, -⟩ := HF.out.1.shape
      subst e9
      obtain ⟨nl, hnl⟩ : ∃ nl, (t.row.filter (fun k : Hd => decide (k.w ≠ who))).length = nl := ⟨_, rfl⟩
      rw [hnl] at HG ⊢
      clear hB hnl HF HLL
      go_wp2
      refine bodyPost_end (results_none rfl _ _ _) rfl ?_
      exact ⟨rfl, HG.out⟩
end
end Go.Proofs.Ytmlbghloddiflaa
end
section
namespace Go.Proofs.Ytmlbghloddiflaa
open Go.RowKit
set_option linter.unusedVariables false

/-- One lock more, and where it lies then. -/
theorem OwnR.push_at {B : Nat} {y : World} {v : Value} {l : List Hd} (h : OwnR B y v l) (k : Hd) (hB : B ≤ y.heap.size) (hl : l.length ≤ 100000) :
    ∃ v' y', (Builtin.append_ #[27, 27] 27 #[v, .slice (some ⟨y.heap.size, 0, none⟩) 1 1]).run Try.prog (y.alloc (.cells #[.int .i64 k.w, .int .i64 k.x, .int .i64 k.m] 64)) = .ok v' y' ∧ OwnR B y' v' (l ++ [k]) ∧ Tn (fun k => v.ownBlock = some k) y y' ∧ ∀ q, v'.ownBlock = some q → v.ownBlock = some q ∨ y.heap.size ≤ q := by
  have b5 : Below y.heap.size y (y.alloc (.cells #[.int .i64 k.w, .int .i64 k.x, .int .i64 k.m] 64)) := (Below.refl y.heap.size y).alloc (Nat.le_refl _) _
  have hr := RowAt.new y 64 #[.int .i64 k.w, .int .i64 k.x, .int .i64 k.m]
  obtain ⟨i, hi0, hi1⟩ := Option.map_eq_some_iff.1 infoR
  simp only [Prod.mk.injEq] at hi1
  obtain ⟨v', y', r1, r2, r3, _, r5⟩ := run_append_own_at (P := Try.prog) (y.alloc (.cells #[.int .i64 k.w, .int .i64 k.x, .int .i64 k.m] 64)) B 27 27 64 i (.agg zeroH) 3 24 Try.underlying27 hi0 hi1.1 hi1.2.1 hi1.2.2 rfl (by omega) v l.length (flatH l) (h.later b5) ⟨y.heap.size, 0, none⟩ 1 1 (flatH [k]) (flatH_len [k]) (fun j u hu => by
    rw [Addr.add_lit, Nat.zero_add]
    refine hr.cell j u ?_
    rw [flatH_one] at hu
    rw [← hu, show #[Value.int .i64 k.w, .int .i64 k.x, .int .i64 k.m] = (hdL k).toArray from rfl, List.getElem?_toArray]) (flatH_ones [k]) (by unfold maxLen; omega) (by omega) (Nat.le_trans hB b5.size)
  refine ⟨v', y', r1, ?_, (Tn.of_below b5).then (Tn.of_grown r3 (fun k hk => hk)), fun q hq => ?_⟩
  · unfold OwnR
    rw [flatH_append, List.length_append]
    exact r2
  · rcases r5 with e | e
    · rw [e] at hq; exact .inl hq
    · rw [e] at hq
      injection hq with hq
      exact .inr (by rw [← hq]; exact b5.size)
/-- A lock turned in its place. -/
theorem OwnR.set {B : Nat} {y : World} {b n c : Nat} {l : List Hd} (h : OwnR B y (.slice (some ⟨b, 0, none⟩) n c) l) {j : Nat} (hj : j < l.length) (k : Hd) :
    OwnR B (((y.setCell ⟨b, j * 3, none⟩ (.int .i64 k.w)).setCell ⟨b, j * 3 + 1, none⟩ (.int .i64 k.x)).setCell ⟨b, j * 3 + 2, none⟩ (.int .i64 k.m)) (.slice (some ⟨b, 0, none⟩) n c) (l.set j k) := by
  rcases h.2 with ⟨e, _⟩ | ⟨g', cap, cur, e, hb, hr, hn, hm, hs, ht⟩
  · cases e
  · injection e with e1 e2 e3
    injection e1 with e1
    injection e1 with e1
    subst e1
    have hr' : RowAt y b 64 cur := hr
    refine ⟨by rw [flatH_len], .inr ⟨b, cap, ((cur.setIfInBounds (j * 3) (.int .i64 k.w)).setIfInBounds (j * 3 + 1) (.int .i64 k.x)).setIfInBounds (j * 3 + 2) (.int .i64 k.m), by rw [e2, e3, List.length_set], hb, ((hr'.set _ _).set _ _).set _ _, by rw [List.length_set]; exact hn, hm, by simp only [Array.size_setIfInBounds]; exact hs, ?_⟩⟩
    rw [List.length_set]
    have hsz : l.length * 3 ≤ cur.size := by
      have := congrArg List.length ht
      rw [List.length_take, flatH_len, Array.length_toList] at this
      omega
    apply List.ext_getElem?
    intro p
    rw [List.getElem?_take]
    by_cases hp : p < l.length * 3
    · rw [if_pos hp, Array.getElem?_toList]
      obtain ⟨i, r, rfl, hr3⟩ : ∃ i r, p = i * 3 + r ∧ r < 3 := ⟨p / 3, p % 3, by omega, by omega⟩
      have hi : i < l.length := by omega
      by_cases eij : i = j
      · subst eij
        rw [flatH_get (l.set i k) i r k (by rw [List.getElem?_set_self hi]) hr3]
        rcases r with _ | _ | _ | r
        · rw [Array.getElem?_setIfInBounds_ne (by omega), Array.getElem?_setIfInBounds_ne (by omega), Nat.add_zero, Array.getElem?_setIfInBounds_self_of_lt (by omega)]
          rfl
        · rw [Array.getElem?_setIfInBounds_ne (by omega), Array.getElem?_setIfInBounds_self_of_lt (by simp only [Array.size_setIfInBounds]; omega)]
          rfl
        · rw [Array.getElem?_setIfInBounds_self_of_lt (by simp only [Array.size_setIfInBounds]; omega)]
          rfl
        · omega
      · rw [flatH_get (l.set j k) i r l[i] (by rw [List.getElem?_set_ne (fun e => eij e.symm), List.getElem?_eq_getElem hi]) hr3]
        rw [Array.getElem?_setIfInBounds_ne (by omega), Array.getElem?_setIfInBounds_ne (by omega), Array.getElem?_setIfInBounds_ne (by omega)]
        have h2 := flatH_get l i r l[i] (List.getElem?_eq_getElem hi) hr3
        rw [← ht, List.getElem?_take, if_pos hp, Array.getElem?_toList] at h2
        exact h2
    · rw [if_neg hp, List.getElem?_eq_none (by rw [flatH_len, List.length_set]; omega)]
theorem give_skip (k : Hd) : ∀ (l : List Hd) (j : Nat) (m : Hd), l[j]? = some m → ¬ (m.w = k.w ∧ m.x = k.x) → l.take j ++ giveL (l.drop j) k = l.take (j + 1) ++ giveL (l.drop (j + 1)) k
  | l, j, m, hm, hn => by
    rw [take_snoc l j m hm, drop_at l j m hm]
    conv => lhs; unfold giveL
    rw [if_neg hn]
    simp
theorem give_here (k : Hd) (l : List Hd) (j : Nat) (m : Hd) (hm : l[j]? = some m) (hn : m.w = k.w ∧ m.x = k.x) : l.take j ++ giveL (l.drop j) k = l.set j k := by
  obtain ⟨h1, rfl⟩ := List.getElem?_eq_some_iff.1 hm
  rw [drop_at l j _ hm]
  unfold giveL
  rw [if_pos hn, List.set_eq_take_append_cons_drop, if_pos h1]
section
variable {B : Nat} {w : World} {h : Nat} {vH vR : Value} {t : Tb}
/-- One lock more in what is had. -/
theorem RT.grow {x : World} (q : RT B w h vH vR t) {v : Value} {l : List Hd} (ho : OwnR B x v l) (ht : Tn (fun k => vH.ownBlock = some k) w x) (hv : ∀ k, v.ownBlock = some k → vH.ownBlock = some k ∨ w.heap.size ≤ k) (hl : l.length ≤ 3000) : RAft B w h vH vR { t with has := l } (x.setCell ⟨h, 0, none⟩ v) := by
  have hne : ¬ vH.ownBlock = some h := fun e => by
    obtain ⟨_, cs, r⟩ := q.has.block e
    exact absurd (row_kind q.blk r) (by decide)
  have hlt := q.blk.lt
  have hs : Tn (Is h) x (x.setCell ⟨h, 0, none⟩ v) := (Tn.refl _ _).set h _ _ rfl
  have hbk := (ht.row q.blk hne).set 0 v
  refine ⟨v, vR, ⟨by simpa using hbk, ho.turned hs (fun k hk e => ?_), (q.row.turned ht (fun k hk e => q.off k hk e)).turned hs (fun k hk e => ?_), fun k hk e => ?_, q.new, ⟨hl, q.len.2⟩⟩, ?_, fun k hk => ?_⟩
  · rw [show k = h from hk] at e
    rcases hv h e with e | e
    · exact hne e
    · omega
  · rw [show k = h from hk] at e
    obtain ⟨_, cs, r⟩ := q.row.block e
    exact absurd (row_kind q.blk r) (by decide)
  · rcases hv k hk with e2 | e2
    · exact q.off k e2 e
    · obtain ⟨_, cs, r⟩ := q.row.block e
      have := r.lt
      omega
  · exact (ht.weak (fun k hk => .inr (.inl hk))).trans hs (fun k hk => .inl (.inl hk))
  · rcases hk with e | e | e
    · exact .inl (.inl e)
    · rcases hv k e with e2 | e2
      · exact .inl (.inr (.inl e2))
      · exact .inr e2
    · exact .inl (.inr (.inr e))
/-- A lock turned in its place. -/
theorem RT.setAt {b n c : Nat} (q : RT B w h (.slice (some ⟨b, 0, none⟩) n c) vR t) {j : Nat} (hj : j < t.has.length) (k : Hd) : RAft B w h (.slice (some ⟨b, 0, none⟩) n c) vR { t with has := t.has.set j k } (((w.setCell ⟨b, j * 3, none⟩ (.int .i64 k.w)).setCell ⟨b, j * 3 + 1, none⟩ (.int .i64 k.x)).setCell ⟨b, j * 3 + 2, none⟩ (.int .i64 k.m)) := by
  have hne : ¬ h = b := fun e => by
    obtain ⟨_, cs, r⟩ := q.has.block (k := b) rfl
    rw [← e] at r
    exact absurd (row_kind q.blk r) (by decide)
  have ht : Tn (Is b) w (((w.setCell ⟨b, j * 3, none⟩ (.int .i64 k.w)).setCell ⟨b, j * 3 + 1, none⟩ (.int .i64 k.x)).setCell ⟨b, j * 3 + 2, none⟩ (.int .i64 k.m)) := (((Tn.refl (Is b) w).set b _ _ rfl).set b _ _ rfl).set b _ _ rfl
  refine ⟨_, vR, ⟨ht.row q.blk hne, q.has.set hj k, q.row.turned ht (fun x hx e => ?_), q.off, q.new, ⟨by rw [List.length_set]; exact q.len.1, q.len.2⟩⟩, ht.weak (fun x hx => .inr (.inl ?_)), fun x hx => .inl hx⟩
  · rw [show x = b from hx] at e
    exact q.off b rfl e
  · rw [show x = b from hx]
    rfl
set_option maxRecDepth 8000 in
set_option maxHeartbeats 3200000 in
theorem rgive13 (q : RT B w h vH vR t) (hB : B ≤ w.heap.size) (k : Hd) (hl3 : t.has.length + 1 ≤ 3000) : Calls Try.prog 58 #[.pointer (some ⟨h, 0, none⟩), .agg (hdA k)] w fun e w' => e = .returned (.tuple #[]) ∧ RAft B w h vH vR (t.give k) w' := by
  obtain ⟨W, hW⟩ : ∃ W, W = w.alloc (.cells (hdA k) 64) := ⟨_, rfl⟩
  have hb : Below w.heap.size w W := by rw [hW]; exact (Below.refl _ _).alloc (Nat.le_refl _) _
  have HBX := hide (show RowAt W w.heap.size 64 (hdA k) from by rw [hW]; exact RowAt.new w _ _)
  have HQ := hide (q.later hb)
  have HLT := hide q
  have hbx : (Instr.box 64 (.agg (hdA k))).run Try.prog w = .ok (.pointer (some ⟨w.heap.size, 0, none⟩)) (w.alloc (.cells (hdA k) 64)) := rfl
  have HB := hide hb
  have HB0 := hide hB
  obtain ⟨aH, cH, rfl, hc, hc2⟩ := q.has.shape
  have c0 := HQ.out.head.1
  have hl := q.len.1
  obtain ⟨n, hn⟩ : ∃ n, n = t.has.length := ⟨_, rfl⟩
  rw [← hn] at c0 hc hl hl3
  have HN := hide hn
  have c0' : (w.alloc (.cells (hdA k) 64)).cell? ⟨h, 0, none⟩ = some (.slice aH n cH) := by rw [← hW]; exact c0
  have HWE := hide hW
  clear q hn hb hW hB c0
  go_enter Try.func58, Try.ntmps58
  go_wp2
  clear c0' hbx
  go_loopw [10] (fun v wr => ∃ j : Nat, j ≤ n ∧ v = .int .i64 j ∧ Hid (Below W.heap.size W wr ∧ giveL t.has k = t.has.take j ++ giveL (t.has.drop j) k)) (fun v _ => n - (intOf v).toNat)
  case atStart => exact ⟨0, Nat.zero_le _, rfl, by rw [HWE.out]; exact Below.refl _ _, rfl⟩
  case round =>
    obtain ⟨j, hj, rfl, HR⟩ := hrel
    have HQ2 := hide (HQ.out.later HR.out.1)
    have HX2 := hide (HBX.out.later HR.out.1)
    have b0 := HX2.out.cell 0 (.int .i64 k.w) rfl
    have b1 := HX2.out.cell 1 (.int .i64 k.x) rfl
    have b2 := HX2.out.cell 2 (.int .i64 k.m) rfl
    have c1 := HQ2.out.head.1
    rw [← HN.out] at c1
    by_cases hlt : j < n
    · have i1 : (j : Int) < (n : Int) := by omega
      obtain ⟨m, hm⟩ : ∃ m, t.has[j]? = some m := ⟨_, List.getElem?_eq_getElem (by have := HN.out; omega)⟩
      obtain ⟨b, rfl, d0, d1, d2⟩ := HQ2.out.has.at hm
      by_cases hmk : m.w = k.w ∧ m.x = k.x
      · have e1 : (m.w == k.w) = true := by rw [beq_iff_eq]; exact hmk.1
        have e2 : (m.x == k.x) = true := by rw [beq_iff_eq]; exact hmk.2
        have HE := hide (show t.give k = { t with has := t.has.set j k } from by
          show ({ t with has := giveL t.has k } : Tb) = _
          rw [HR.out.2, give_here k t.has j m hm hmk])
        obtain ⟨cs, hrb⟩ := (HQ2.out.has.block (k := b) rfl).2
        have f0 := hrb.free (j * 3)
        have f1 := hrb.free (j * 3 + 1)
        have f2 := hrb.free (j * 3 + 2)
        have HQF := hide (fun nq => (HQ2.out.later (below_dn (Below.refl _ _) nq)).setAt (j := j) (by have := HN.out; omega) k)
        have HBW := hide (HB.out.trans (HR.out.1.mono HB.out.size))
        clear hmk hm hrb
        go_wp2_with fail
        go_quiet (fail)
        go_wp2_with fail
        go_region
        go_wp2
        refine bodyPost_ret (results_none rfl _ _ _) rfl ?_
        rw [HE.out]
        exact ⟨rfl, RAft.then (Tn.of_below (below_dn HBW.out _)) (fun k hk => .inl hk) (HQF.out _)⟩
      · have HE := hide (show giveL t.has k = t.has.take (j + 1) ++ giveL (t.has.drop (j + 1)) k from by rw [HR.out.2]; exact give_skip k t.has j m hm hmk)
        have HR1 := hide HR.out.1
        by_cases hmw : m.w = k.w
        · have e1 : (m.w == k.w) = true := by rw [beq_iff_eq]; exact hmw
          have e2 : (m.x == k.x) = false := by rw [beq_eq_false_iff_ne]; exact fun e => hmk ⟨hmw, e⟩
          clear hmk hm hmw HR
          go_wp2_with fail
          go_quiet (fail)
          go_wp2
          go_roundw
          case rel => exact ⟨j + 1, by omega, by go_num, below_dn HR1.out _, HE.out⟩
          case measure => simp [intOf]; omega
        · have e1 : (m.w == k.w) = false := by rw [beq_eq_false_iff_ne]; exact hmw
          clear hmk hm hmw HR
          go_wp2_with fail
          go_quiet (fail)
          go_wp2
          go_roundw
          case rel => exact ⟨j + 1, by omega, by go_num, below_dn HR1.out _, HE.out⟩
          case measure => simp [intOf]; omega
    · have i1 : ¬ (j : Int) < (n : Int) := by omega
      have hbd : Below wr.heap.size wr wr.drew := (Below.refl _ _).drew
      have HQ3 := hide (HQ2.out.later hbd)
      have hB3 : B ≤ wr.drew.heap.size := Nat.le_trans HB0.out (Nat.le_trans HB.out.size (Nat.le_trans HR.out.1.size hbd.size))
      obtain ⟨v3, w3, r3, o3, t3, q3⟩ := HQ3.out.has.push_at k hB3 (by have := HN.out; omega)
      have HE := hide (show t.give k = { t with has := t.has ++ [k] } from by
        show ({ t with has := giveL t.has k } : Tb) = _
        rw [HR.out.2, List.take_of_length_le (by have := HN.out; omega), List.drop_of_length_le (by have := HN.out; omega)]
        rfl)
      have HG := hide (RAft.then (Tn.of_below ((HB.out.trans (HR.out.1.mono HB.out.size)).trans (hbd.mono (Nat.le_trans HB.out.size HR.out.1.size)))) (fun k hk => .inl hk) (HQ3.out.grow o3 t3 q3 (by rw [List.length_append, List.length_singleton, ← HN.out]; exact hl3)))
      have hne3 : ¬ (Value.slice aH t.has.length cH).ownBlock = some h := fun e => by
        obtain ⟨_, cs, r⟩ := HQ3.out.has.block e
        exact absurd (row_kind HQ3.out.blk r) (by decide)
      have f3 := (t3.row HQ3.out.blk hne3).free 0
      have g3 := (t3.row HQ3.out.blk hne3).cell 0 _ rfl
      obtain ⟨a3, c3, e3, -, -⟩ := o3.shape
      rw [← HN.out] at r3
      clear hbd o3 t3 q3 HR hne3 hB3
      subst e3
      obtain ⟨n3, hn3⟩ : ∃ n3, (t.has ++ [k]).length = n3 := ⟨_, rfl⟩
      rw [hn3] at r3 HG
      clear hn3
      have r4 : (Builtin.append_ #[27, 27] 27 #[.slice aH n cH, .slice (some ⟨wr.heap.size, 0, none⟩) 1 1]).run Try.prog (wr.alloc (.cells #[.int .i64 k.w, .int .i64 k.x, .int .i64 k.m] 64)).drew = .ok (.slice a3 n3 c3) w3 := r3
      have c4 : (wr.alloc (.cells #[.int .i64 k.w, .int .i64 k.x, .int .i64 k.m] 64)).cell? ⟨h, 0, none⟩ = some (.slice aH n cH) := by
        have z := (HQ2.out.later ((Below.refl wr.heap.size wr).alloc (Nat.le_refl _) (.cells #[.int .i64 k.w, .int .i64 k.x, .int .i64 k.m] 64))).head.1
        rw [← HN.out] at z
        exact z
      clear r3
      go_wp2_with fail
      go_region_law (refine step_append_run rfl (.tmp 49) (.tmp 51) 27 27 rfl (.slice aH n cH) (.slice (some ⟨wr.heap.size, 0, none⟩) 1 1) (.slice a3 n3 c3) w3 ?h1 ?h2 r4 ?_; (case h1 => simp [Act.eval]); (case h2 => simp [Act.eval]))
      all_goals
        go_wp2
        refine bodyPost_end (results_none rfl _ _ _) rfl ?_
        rw [HE.out]
        exact ⟨rfl, HG.out⟩
end
end Go.Proofs.Ytmlbghloddiflaa
end
