/-
  What the program says of bytes.
-/
import Derived.Test.YtkdlmblkckmhaaaProg
import Derived.WalkSpells
namespace Go.Proofs.Ytkdlmblkckmhaaa
open Go.RowKit

theorem info8 : (Try.prog.info? 5).map (fun i => (i.zero, i.size, i.bytes)) = some (some (.int .u8 0), 1, 1) := by kernel_rfl
theorem info8s : (Try.prog.info? 5).map (·.size) = some 1 := by kernel_rfl
end Go.Proofs.Ytkdlmblkckmhaaa
