/-
  The contract of package page's plain: the 236 bytes of a page.
-/
import Derived.Test.YtkbigineepohnaaPageCells
import Derived.Test.YtkbigineepohnaaPackPut
import Derived.Test.YtkbigineepohnaaAppendO
namespace Go.Proofs.Ytkbigineepohnaa
open Go.RowKit
set_option linter.unusedVariables false

def toldN (u : Bool) (s : ByteArray) : Nat := if u then s.size else 255
theorem toldN_lt (u : Bool) (s : ByteArray) (h : cellOk u s) : toldN u s < 256 := by
  have := h.1
  unfold toldN
  split <;> omega
theorem beB_one (n : Nat) : beB 1 n = [UInt8.ofNat n] := by simp [beB]
theorem toldN_be (u : Bool) (s : ByteArray) : beB 1 (toldN u s) = [lenB u s] := by
  rw [beB_one]
  unfold toldN lenB
  cases u <;> rfl
theorem val_all (u : Bool) (s : ByteArray) (h : cellOk u s) : s.data.toList = valB u s := by
  unfold valB
  cases u with
  | true => rfl
  | false => exact List.eq_nil_of_length_eq_zero (by rw [Array.length_toList]; exact h.2 rfl)

set_option maxHeartbeats 400000 in
theorem toldSize_any (u : Bool) (s : ByteArray) (w : World) (h : cellOk u s) :
    Calls Try.prog 35 #[.agg (ceA u s)] w fun e w' => e = .returned (.int .u64 (toldN u s : Nat)) ∧ Below w.heap.size w w' := by
  have hb0 : Below w.heap.size w (w.alloc (.cells (ceA u s) 24)) := (Below.refl _ _).alloc (Nat.le_refl _) _
  have hr := RowAt.new w 24 (ceA u s)
  have c0 := hr.cell 0 (.bool u) rfl
  have c1 := hr.cell 1 (.string s) rfl
  have hz := h.1
  clear hr h
  cases u with
  | true =>
    go_enter Try.func35, Try.ntmps35
    go_wp2
    go_ret
    exact ⟨rfl, hb0⟩
  | false =>
    go_enter Try.func35, Try.ntmps35
    go_wp2
    go_ret
    exact ⟨rfl, hb0⟩

theorem ownsRow_down {w : World} {base b n size : Nat} {e : TypeId} {v : Value} {xs : List Value} (h : w.ownsRow base e size v n xs) (hb : b ≤ base) : w.ownsRow b e size v n xs := by
  refine ⟨h.1, ?_⟩
  rcases h.2 with hn | ⟨g, cap, cur, hv, hbg, rest⟩
  · exact .inl hn
  · exact .inr ⟨g, cap, cur, hv, Nat.le_trans hb hbg, rest⟩

theorem lens_next (p : Pg) (id j : Nat) : beB 2 id ++ lensB p j ++ beB 1 (toldN (p.u j) (p.s j)) = beB 2 id ++ lensB p (j + 1) := by
  rw [toldN_be, lensB_succ, List.append_assoc]
theorem vals_next (p : Pg) (id j : Nat) (h : cellOk (p.u j) (p.s j)) : beB 2 id ++ (lensB p 8 ++ (valsB p j ++ (p.s j).data.toList)) = beB 2 id ++ (lensB p 8 ++ valsB p (j + 1)) := by
  rw [val_all _ _ h, valsB_succ]

set_option maxHeartbeats 800000 in
theorem plain_any (id : Nat) (p : Pg) (w : World) (hid : id < 32) (hp : p.right) :
    Calls Try.prog 22 #[.int .i64 id, .agg (csA p)] w fun e w' => ∃ v, e = .returned v ∧ w'.ownsRow w.heap.size 5 1 v 236 (toV (bodyB id p)) ∧ Below w.heap.size w w' := by
  have hb0 : Below w.heap.size w (w.alloc (.cells (csA p) 25)) := (Below.refl _ _).alloc (Nat.le_refl _) _
  have hr := hide (RowAt.new w 25 (csA p))
  have P1 := put_ok none 0 0 2 id [] (w.alloc (.cells (csA p) 25)) (IsB.nil _) (by omega) (by omega) (by omega) (by omega)
  rw [List.nil_append] at P1
  have H1 := hide P1
  have HP := hide hp
  clear P1 hp
  go_enter Try.func22, Try.ntmps22
  go_wp2_with fail
  refine H1.out.mono ?_
  rintro e w1 ⟨rfl, hown1, hb1⟩
  have hr1 := hide (hr.out.later hb1)
  have d1 := hb0.trans (hb1.mono hb0.size)
  have ho1 := ownsRow_down hown1 hb0.size
  have e0 : beB 2 id = beB 2 id ++ lensB p 0 := by simp [lensB]
  rw [e0] at ho1
  have HO1 := hide ho1
  clear hown1 hb1 hb0 hr H1 e0 ho1
  go_wp2_with (refine wpList_load_at rfl 25 (.tmp 3) rfl w.heap.size rfl (csA p) hr1.out _ Try.underlying25 rfl infoCs ?_)
  go_loopw [5, 18] (fun v i wr => ∃ j : Nat, j ≤ 8 ∧ i = .int .i64 j ∧ wr.ownsRow w.heap.size 5 1 v (2 + j) (toV (beB 2 id ++ lensB p j)) ∧ Below w.heap.size w wr ∧ RowAt wr w.heap.size 25 (csA p)) (fun _ i _ => 8 - (intOf i).toNat)
  case atStart => exact ⟨0, Nat.zero_le _, rfl, by simpa using HO1.out, d1, hr1.out⟩
  case round =>
    obtain ⟨j, hj, rfl, hown, hbr, hrow⟩ := hrel
    clear d1 hr1 HO1
    by_cases hlt : j < 8
    · have hc := HP.out.2 j hlt
      obtain ⟨a, cap, rfl, hcap, hB⟩ := shape_isB hown
      have HT := hide (fun w => toldSize_any (p.u j) (p.s j) w hc)
      have hn := toldN_lt _ _ hc
      have HPut := hide (fun w' (h : IsB w' a (2 + j) (beB 2 id ++ lensB p j)) => put_ok a (2 + j) cap 1 (toldN (p.u j) (p.s j)) _ w' h (by omega) (by omega) (by omega) (by omega))
      have HN := hide (lens_next p id j)
      have HB := hide hB
      have HR := hide hrow
      clear hown hc hB hrow
      go_wp2_with (first | (refine wpList_index_cs rfl (.tmp 17) (.tmp 18) rfl p j hlt rfl rfl ?_) | (refine wpList_store_at rfl 24 (.tmp 8) (.tmp 20) rfl wr.heap.size (ceA false ⟨#[]⟩) (ceA (p.u j) (p.s j)) rfl rfl (RowAt.new wr 24 _) infoCe rfl (ceA_one _ _) ?_))
      intro w2 hr2 hk2 _
      have s2 := hk2 _ _ ((Below.refl wr.heap.size wr).alloc (Nat.le_refl _) _) (Nat.le_refl _)
      have HR2 := hide hr2
      clear hr2 hk2
      go_wp2_with (refine wpList_load_at rfl 24 (.tmp 8) rfl wr.heap.size rfl (ceA (p.u j) (p.s j)) HR2.out _ Try.underlying24 rfl infoCe ?_)
      refine (HT.out _).mono ?_
      rintro e w3 ⟨rfl, hb3⟩
      have s3 := s2.trans (hb3.mono s2.size)
      have HB3 := hide (HB.out.below s3)
      clear hb3 HR2 HT HB s2
      generalize toldN (p.u j) (p.s j) = tn at *
      go_wp2_with fail
      refine (HPut.out _ HB3.out).mono ?_
      rintro e w4 ⟨rfl, hown4, hb4⟩
      have s4 := s3.trans (hb4.mono s3.size)
      have d4 := hbr.trans (s4.mono hbr.size)
      have HR4 := hide (HR.out.later s4)
      have ho4 := ownsRow_down hown4 (Nat.le_trans hbr.size s3.size)
      rw [HN.out] at ho4
      have HO4 := hide ho4
      clear hown4 hb4 s4 s3 ho4 HPut HB3 HR hbr HN
      go_wp2
      go_roundw
      case rel => exact ⟨j + 1, by omega, by go_num, HO4.out, d4, HR4.out⟩
      case measure => simp [intOf]; omega
    · obtain rfl : j = 8 := by omega
      have HR := hide hrow
      have HO := hide hown
      clear hrow hown
      go_wp2_with (refine wpList_load_at rfl 25 (.tmp 3) rfl w.heap.size rfl (csA p) HR.out _ Try.underlying25 rfl infoCs ?_)
      go_loopw [5, 30] (fun v i wr => ∃ j n : Nat, j ≤ 8 ∧ i = .int .i64 j ∧ n ≤ 10 + 20 * j ∧ wr.ownsRow w.heap.size 5 1 v n (toV (beB 2 id ++ (lensB p 8 ++ valsB p j))) ∧ Below w.heap.size w wr) (fun _ i _ => 8 - (intOf i).toNat)
      case atStart => exact ⟨0, 10, Nat.zero_le _, rfl, by omega, by simpa [valsB] using HO.out, hbr⟩
      case round =>
        obtain ⟨j, n, hj, rfl, hn, hown, hbr⟩ := hrel
        clear HR HO
        by_cases hlt : j < 8
        · have hc := HP.out.2 j hlt
          have hz := hc.1
          have HN := hide (vals_next p id j hc)
          have HO := hide hown
          clear hc hown
          go_wp2_with (first | (refine wpList_index_cs rfl (.tmp 29) (.tmp 30) rfl p j hlt rfl rfl ?_) | (refine wpList_store_at rfl 24 (.tmp 10) (.tmp 32) rfl wr.heap.size (ceA false ⟨#[]⟩) (ceA (p.u j) (p.s j)) rfl rfl (RowAt.new wr 24 _) infoCe rfl (ceA_one _ _) ?_))
          intro w2 hr2 hk2 _
          have s2 := hk2 _ _ ((Below.refl wr.heap.size wr).alloc (Nat.le_refl _) _) (Nat.le_refl _)
          have c1 := hr2.cell 1 (.string (p.s j)) rfl
          have HO2 := hide (ownsRow_below HO.out s2)
          have d2 := hbr.trans (s2.mono hbr.size)
          clear hr2 hk2 s2 HO
          generalize p.s j = s at *
          go_wp2_with (at_builtin; refine wpList_append_os _ rfl (.tmp 33) (.tmp 35) 29 9 rfl 5 Try.underlying29 Try.underlying9 info8 w.heap.size _ n _ rfl HO2.out s rfl (by omega) d2.size ?_)
          intro v4 w4 hown4 hg4
          rw [HN.out] at hown4
          have d4 := d2.grown hg4 d2.size (fun k hk => (HO2.out.lt k hk).1)
          have HO4 := hide hown4
          clear hown4 hg4 d2 HO2 c1 HN
          go_wp2
          go_roundw
          case rel => exact ⟨j + 1, n + s.size, by omega, by go_num, by omega, HO4.out, d4⟩
          case measure => simp [intOf]; omega
        · obtain rfl : j = 8 := by omega
          obtain ⟨a, cap, rfl, hcap, hB⟩ := shape_isB hown
          have hl := hB.1
          have HO := hide hown
          have HL := hide hl
          have e8 : 236 - n = 236 - (headB id p).length := by
            rw [← hl, headB, List.append_assoc]
          have HE := hide (show beB 2 id ++ (lensB p 8 ++ (valsB p 8 ++ List.replicate (236 - n) 0)) = bodyB id p by rw [e8, bodyB]; simp only [headB, List.append_assoc])
          obtain ⟨k, hk⟩ : ∃ k, k = 236 - n := ⟨_, rfl⟩
          rw [← hk] at HE
          have e9 : n + k = 236 := by omega
          have e10 : (236 : Int) - (n : Int) = (k : Int) := by omega
          clear hown hl hB e8
          go_wp2_with (at_builtin; refine wpList_append_oz _ rfl (.tmp 38) (.tmp 41) 29 3 rfl 5 .i64 Try.underlying29 Try.underlying3 info8 w.heap.size _ n _ rfl HO.out k ?hx (by omega) (by omega) hbr.size ?_; (case hx => simp [Act.eval]; omega))
          intro v4 w4 hown4 hg4
          rw [← hk, HE.out, e9] at hown4
          have d4 := hbr.grown hg4 hbr.size (fun k hk => (HO.out.lt k hk).1)
          have HO4 := hide hown4
          clear hown4 hg4 hbr HO HE HL
          go_wp2
          go_ret
          exact ⟨_, rfl, HO4.out, d4⟩
end Go.Proofs.Ytkbigineepohnaa
