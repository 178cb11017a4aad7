/-
  The contract of quaysidelaw11.played.
-/
import Derived.Test.YthigibgokbmehaaPoolTextsT
import Derived.Test.YthigibgokbmehaaPoolScr
namespace Go.Proofs.Ythigibgokbmehaa
open Go.RowKit
set_option linter.unusedVariables false

set_option maxRecDepth 4000 in
set_option maxHeartbeats 800000 in
theorem played11 {w0 x : World} (f : Int) {a : Option Addr} {len cap : Nat} {cs : List Pc} (h : Scr11 w0 (.slice a len cap) cs) (hl : len ≤ 300) (hb : Below w0.heap.size w0 x) : Calls Try.prog 25 #[.int .i64 f, .slice a len cap] x fun e y => ∃ g gr p, e = .returned (.pointer (some ⟨g, 0, none⟩)) ∧ K11 w0 y g gr p 300 := by
  have hcap := h.cap _ _ _ rfl
  have HL := hide h.len
  have HS := hide h
  have HB := hide hb
  clear h hb
  go_enter Try.func25, Try.ntmps25
  go_wp2_with fail
  refine (knew11 (w0 := w0) f HB.out).mono ?_
  rintro e w1 ⟨g, gr, rfl, h1, -⟩
  have H1 := hide h1
  clear h1
  go_wp2
  go_loopw [11] (fun v wr => ∃ (j : Nat) (p : Po), j ≤ len ∧ v = .int .i64 j ∧ Hid (K11 w0 wr g gr p j)) (fun v _ => len - (intOf v).toNat)
  case atStart => exact ⟨0, _, Nat.zero_le _, rfl, H1⟩
  case round =>
    obtain ⟨j, p, hj, rfl, HK⟩ := hrel
    clear H1
    by_cases hlt : j < len
    · have i1 : (j : Int) < len := by omega
      obtain ⟨b, off, rfl, -, k, i, s, n, -, hld, -, -, hsz, -, -⟩ := HS.out.at HK.out.bel (j := j) (by rw [← HL.out]; exact hlt)
      have HLD := hide hld
      clear hld HS
      go_wp2_with (refine wpList_load_run11 rfl 30 _ rfl _ _ rfl HLD.out ?_)
      refine (texts11 k i s n hsz (by omega) HK.out).mono ?_
      rintro e w2 ⟨rfl, h2, -⟩
      have H2 := hide h2
      clear h2 HK HLD
      go_wp2
      go_roundw
      case rel => exact ⟨j + 1, _, by omega, by go_num, H2⟩
      case measure => simp [intOf]; omega
    · have i1 : ¬ (j : Int) < len := by omega
      go_wp2
      go_ret
      exact ⟨g, rfl, gr, p, HK.out.mono (by omega)⟩
end Go.Proofs.Ythigibgokbmehaa
