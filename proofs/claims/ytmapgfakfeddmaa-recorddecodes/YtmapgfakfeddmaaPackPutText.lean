/-
  The contract of pack.PutText.
-/
import Derived.Test.YtmapgfakfeddmaaPackPut
import Derived.Room.AppendFits
namespace Go.Proofs.Ytmapgfakfeddmaa
open Go.RowKit
set_option linter.unusedVariables false

set_option maxHeartbeats 400000 in
theorem puttext_no (a : Option Addr) (len cap : Nat) (s : ByteArray) (w : World) (h : 255 < (s.size : Int)) :
    Calls Try.prog 53 #[.slice a len cap, .string s] w fun e w' => e = .returned (.tuple #[.slice none 0 0, .int .i64 1]) ∧ w = w' := by
  go_enter Try.func53, Try.ntmps53
  go_wp2
  go_ret2
  exact ⟨rfl, rfl⟩

theorem text_row {w : World} {base g len cap : Nat} {e : TypeId} {bs : List UInt8} {s : ByteArray} (h : s.size ≤ 255)
    (hw : w.ownsRow base e 1 (.slice (some ⟨g, 0, none⟩) (len + 1 + s.size) cap) (len + 1 + s.size) (toV bs ++ Value.int .u8 (s.size : Int) :: Lib.strCells s)) :
    w.ownsRow base e 1 (.slice (some ⟨g, 0, none⟩) (len + (1 + s.size)) cap) (len + (1 + s.size)) (toV (bs ++ textB s.data.toList)) := by
  have e1 : toV (bs ++ textB s.data.toList) = toV bs ++ Value.int .u8 (s.size : Int) :: Lib.strCells s := by
    have e2 : ((UInt8.ofNat s.data.toList.length).toNat : Int) = (s.size : Int) := by
      rw [toNat_ofNat]
      simp
      omega
    simp only [toV, textB, List.map_append, List.map_cons, e2, Lib.strCells]
  rw [e1, ← Nat.add_assoc]
  exact hw

set_option maxHeartbeats 400000 in
theorem puttext_ok (a : Option Addr) (len cap : Nat) (bs : List UInt8) (s : ByteArray) (w : World) (hB : IsB w a len bs) (hl : len + 256 ≤ 281474976710656) (h : s.size ≤ 255) :
    Calls Try.prog 53 #[.slice a len cap, .string s] w fun e w' => e = .returned (.tuple #[.slice (some ⟨w.heap.size, 0, none⟩) (len + (1 + s.size)) (len + (1 + s.size)), .int .i64 0]) ∧
      w'.ownsRow w.heap.size 5 1 (.slice (some ⟨w.heap.size, 0, none⟩) (len + (1 + s.size)) (len + (1 + s.size))) (len + (1 + s.size)) (toV (bs ++ textB s.data.toList)) ∧ Below w.heap.size w w' := by
  obtain ⟨i0, hi, hz0, hz1, hz2⟩ := info_parts info8
  have h1 : ¬ 255 < (s.size : Int) := by omega
  go_enter Try.func53, Try.ntmps53
  go_wp2_with fail
  rw [show (1 : Int) + (s.size : Int) = ((1 + s.size : Nat) : Int) from by omega]
  refine (longer_any a len cap (1 + s.size) bs _ hB (by omega)).mono ?_
  rintro e w1 ⟨rfl, hown, hbel⟩
  go_wp2_with (at_builtin; refine wpList_append_fits _ rfl (.tmp 15) (.tmp 19) 30 rfl w.heap.size 5 i0 1 Try.underlying30 hi hz1 w.heap.size len (len + (1 + s.size)) _ rfl (hown.alloc _) ⟨w1.heap.size, 0, none⟩ 1 1 [.int .u8 (s.size : Int)] rfl rfl (cell_one_new _ _ _) (by simp [Value.oneCell']) (by omega) ?_)
  intro w2 hown2 hgr
  have hb2 : Below w.heap.size w w2 := (hbel.alloc hbel.size _).grown hgr (by simp; have := hbel.size; omega) (by simp)
  clear hgr hown
  go_wp2_with (at_builtin; refine Lib.wpList_append_fits_string _ rfl (.tmp 21) (.tmp 22) 30 9 rfl w.heap.size 5 i0 Try.underlying30 Try.underlying9 hi hz1 (some ⟨w.heap.size, 0, none⟩) (len + 1) (len + (1 + s.size)) _ rfl hown2 s rfl (by omega) (by omega) ?_)
  intro w3 hown3 hgr3
  have hb3 : Below w.heap.size w w3 := hb2.grown hgr3 hb2.size (by simp [Value.ownBlock])
  have hown4 := text_row (bs := bs) (s := s) h hown3
  clear hgr3 hown2 hown3
  go_wp2
  go_ret2
  exact ⟨by simp [Nat.add_assoc], hown4, hb3⟩
end Go.Proofs.Ytmapgfakfeddmaa
