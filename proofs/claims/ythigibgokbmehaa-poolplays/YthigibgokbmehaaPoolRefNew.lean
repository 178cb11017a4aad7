/-
  The document's pool in memory: New.
-/
import Derived.Test.YthigibgokbmehaaPoolRef2
import Derived.Test.YthigibgokbmehaaPoolNew
import Derived.Test.YthigibgokbmehaaPoolSame
namespace Go.Proofs.Ythigibgokbmehaa
open Go.RowKit
set_option linter.unusedVariables false

def emD : List Value := dfL (Fr.empty (.string ⟨#[]⟩))
def reps (k : Nat) : List Value := (List.replicate k emD).flatten
theorem reps_snoc (k : Nat) : reps (k + 1) = reps k ++ emD := by
  unfold reps
  rw [List.replicate_succ', List.flatten_append]
  simp
theorem reps_get : ∀ (k i j : Nat), i < k → j < 6 → (reps k)[i * 6 + j]? = emD[j]?
  | 0, i, j, h, _ => absurd h (Nat.not_lt_zero _)
  | k + 1, i, j, h, hj => by
    have hs : reps (k + 1) = emD ++ reps k := by
      unfold reps
      rw [List.replicate_succ, List.flatten_cons]
    rw [hs]
    cases i with
    | zero => rw [List.getElem?_append_left (by show 0 * 6 + j < 6; omega), Nat.zero_mul, Nat.zero_add]
    | succ i =>
      rw [List.getElem?_append_right (by show 6 ≤ (i + 1) * 6 + j; omega)]
      have : (i + 1) * 6 + j - emD.length = i * 6 + j := by
        show (i + 1) * 6 + j - 6 = _
        omega
      rw [this]
      exact reps_get k i j (by omega) hj
theorem infoF11d : (Try.prog.info? 72).map (fun i => (i.zero, i.size, i.bytes)) = some (some (.agg (#[.int .i64 0, .string ⟨#[]⟩, .bool false, .int .i64 0, .bool false, .int .u64 0])), 6, 56) := by kernel_rfl
theorem own_pd {x : World} {B g k : Nat} {v : Value} (h : x.ownsRow B 72 6 v k (reps k)) (hk : 1 ≤ k) (hr : RowAt x g 70 #[v, .int .i64 0]) : ∃ gr, B ≤ gr ∧ PD x g gr (Po.newN (.string ⟨#[]⟩) k) := by
  rcases h.2 with ⟨_, h0⟩ | ⟨gr, cap, cur, rfl, hB, hrow, h1, h2, h3, h4⟩
  · omega
  · refine ⟨gr, hB, cap, cur, hr, hrow, ⟨dfL_len, ?_, fun i hi => ?_⟩, h1, h2, by decide⟩
    · show 6 * k ≤ cur.size
      rw [h3]
      omega
    · intro j hj
      have hi' : i < k := hi
      have hj6 : j < 6 := hj
      have := reps_get k i j hi' hj6
      rw [← h4, List.getElem?_take, if_pos (by omega), Array.getElem?_toList] at this
      exact this
set_option maxRecDepth 4000 in
set_option maxHeartbeats 1600000 in
theorem rnew11_go (f : Int) (k : Nat) (w : World) (hk : k ≤ 16) (hk1 : 1 ≤ k) (q : Int) (hq : (if 16 < f then 16 else f) = q) (hp : (if 1 < q then q else 1) = (k : Int)) :
    Calls Try.prog 11 #[.int .i64 f] w fun e w' => ∃ g gr, e = .returned (.pointer (some ⟨g, 0, none⟩)) ∧ PD w' g gr (Po.newN (.string ⟨#[]⟩) k) ∧ w.heap.size ≤ g ∧ w.heap.size ≤ gr ∧ Below w.heap.size w w' := by
  have h0 := RowAt.new w 70 #[.slice none 0 0, .int .i64 0]
  have hb0 : Below w.heap.size w (w.alloc (.cells #[.slice none 0 0, .int .i64 0] 70)) := (Below.refl _ _).alloc (Nat.le_refl _) _
  have hsz : (w.alloc (.cells #[.slice none 0 0, .int .i64 0] 70)).heap.size = w.heap.size + 1 := World.size_alloc _ _
  have H0 := hide (And.intro h0 (And.intro hb0 hsz))
  clear h0 hb0 hsz
  go_enter Try.func11, Try.ntmps11
  go_wp2
  go_loopw [4] (fun u wr => ∃ (j : Nat) (v : Value), j ≤ k ∧ u = .int .i64 j ∧ Hid (RowAt wr w.heap.size 70 #[v, .int .i64 0] ∧ wr.ownsRow (w.heap.size + 1) 72 6 v j (reps j) ∧ Below w.heap.size w wr ∧ w.heap.size + 1 ≤ wr.heap.size)) (fun u _ => k - (intOf u).toNat)
  case atStart => exact ⟨0, _, Nat.zero_le _, rfl, H0.out.1, World.ownsRow_nil _ _ _ _, H0.out.2.1, Nat.le_of_eq H0.out.2.2.symm⟩
  case round =>
    obtain ⟨j, v, hj, rfl, HR⟩ := hrel
    clear H0
    by_cases hlt : j < k
    · have i1 : (j : Int) < k := by omega
      have c0 := HR.out.1.cell 0 _ rfl
      have hbA : Below wr.heap.size wr (wr.alloc (.cells #[.int .i64 (-1), .string ⟨#[]⟩, .bool false, .int .i64 0, .bool false, .int .u64 0] 72)) := (Below.refl _ _).alloc (Nat.le_refl _) _
      have HO := hide (own11_later HR.out.2.1 hbA)
      have HB := hide (HR.out.2.2.1.trans (hbA.mono HR.out.2.2.1.size))
      have HS := hide (Nat.le_trans HR.out.2.2.2 hbA.size)
      have HG := hide (HR.out.1.later hbA)
      have hN := RowAt.new wr 72 #[.int .i64 (-1), .string ⟨#[]⟩, .bool false, .int .i64 0, .bool false, .int .u64 0]
      have hone : (#[Value.int .i64 (-1), .string ⟨#[]⟩, .bool false, .int .i64 0, .bool false, .int .u64 0]).all (·.oneCell') = true := by simp [Value.oneCell']
      clear hbA HR
      go_wp2_with (refine wpList_append_st _ 68 72 6 56 (.agg (#[.int .i64 0, .string ⟨#[]⟩, .bool false, .int .i64 0, .bool false, .int .u64 0])) Try.underlying68 infoF11d rfl (by decide) (by decide) rfl _ _ rfl (w.heap.size + 1) v j (reps j) rfl HO.out wr.heap.size #[.int .i64 (-1), .string ⟨#[]⟩, .bool false, .int .i64 0, .bool false, .int .u64 0] rfl hN rfl hone (by omega) HS.out ?_)
      intro v' w2 h1 h2
      have hlo : w.heap.size < (wr.alloc (.cells #[.int .i64 (-1), .string ⟨#[]⟩, .bool false, .int .i64 0, .bool false, .int .u64 0] 72)).heap.size := HS.out
      have h3 : RowAt w2 w.heap.size 70 #[v, .int .i64 0] := (h2.block _ hlo (fun e => by have := (HO.out.lt _ e.symm).1; omega)).trans HG.out
      have h4 : Below w.heap.size w w2 := own11_below (B := w.heap.size) (by
        obtain ⟨q1, q2⟩ := HO.out
        exact ⟨q1, q2.imp id (fun ⟨g, cap, cur, a, b, c⟩ => ⟨g, cap, cur, a, by omega, c⟩)⟩) HB.out HB.out.size h2
      have f0 := h3.free 0
      have c0' := h3.cell 0 _ rfl
      obtain ⟨a', cp', rfl, -, -⟩ := own11_shape h1
      have HQ := hide (And.intro h3 (And.intro h1 (And.intro h4 (Nat.le_trans HS.out h2.size))))
      clear h1 h2 h3 h4 hlo HO HB HS HG hN c0
      go_wp2
      go_roundw
      case rel =>
        refine ⟨j + 1, .slice a' (j + 1) cp', by omega, by go_num, ?_, ?_, ?_, ?_⟩
        · have := HQ.out.1.set 0 (.slice a' (j + 1) cp')
          simpa using this
        · rw [reps_snoc]
          exact own11_turn (F := Is w.heap.size) HQ.out.2.1 ((Tn.refl _ _).set _ _ _ rfl) (fun k hk => by have hk : k = w.heap.size := hk; omega)
        · exact HQ.out.2.2.1.setCell (Nat.le_refl _) _
        · rw [World.size_setCell]
          exact HQ.out.2.2.2
      case measure => simp [intOf]; omega
    · have i1 : ¬ (j : Int) < k := by omega
      obtain rfl : j = k := by omega
      go_wp2
      go_ret
      obtain ⟨gr, hgr, hpd⟩ := own_pd HR.out.2.1 hk1 HR.out.1
      exact ⟨_, rfl, gr, hpd, Nat.le_refl _, by omega, HR.out.2.2.1⟩
theorem rnew11 (f : Int) (w : World) : Calls Try.prog 11 #[.int .i64 f] w fun e w' => ∃ g gr, e = .returned (.pointer (some ⟨g, 0, none⟩)) ∧ PD w' g gr (Po.new (.string ⟨#[]⟩) f) ∧ w.heap.size ≤ g ∧ w.heap.size ≤ gr ∧ Below w.heap.size w w' := by
  have hk : (min (max f 1) 16).toNat ≤ 16 ∧ 1 ≤ (min (max f 1) 16).toNat := by omega
  refine rnew11_go f (min (max f 1) 16).toNat w hk.1 hk.2 (min f 16) ?_ ?_
  · by_cases h : 16 < f
    · rw [if_pos h]; omega
    · rw [if_neg h]; omega
  · by_cases h : 1 < min f 16
    · rw [if_pos h]; omega
    · rw [if_neg h]; omega
end Go.Proofs.Ythigibgokbmehaa
