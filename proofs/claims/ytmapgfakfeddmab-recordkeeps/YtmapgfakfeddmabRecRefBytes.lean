/-
  A number that is loaded.
-/
import Derived.Test.YtmapgfakfeddmabRecLoad
import Derived.Test.YtmapgfakfeddmabRecRefOwn
namespace Go.Proofs.Ytmapgfakfeddmab
open Go.RowKit
set_option linter.unusedVariables false

theorem load_u64 {b j : Nat} (x : World) (v : Int) (h : x.cell? ⟨b, j, none⟩ = some (.int .u64 v)) : (Instr.loadAt 22 (.pointer (some ⟨b, j, none⟩))).run Try.prog x = .ok (.int .u64 v) x := by go_simp
end Go.Proofs.Ytmapgfakfeddmab
