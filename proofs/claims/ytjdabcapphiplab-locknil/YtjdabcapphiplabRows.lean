/-
  No cell of these rows narrows 'for every input' (looked for: loops, veiled, ifaces, maps, wideKeys, modest, calm, conditions, laid).
  DERIVED. THE GIVEN ROWS OF THIS SEAT. 2 by the template 'for every input the law returns true; each argument reads behind the call as it read before'; 0 by the template 'total and deterministic' (their statements: YtjdabcapphiplabTotals.lean).
  GIVEN WITH THE SEED: the statements are not yours to turn. If you find one false, say at which input.
  Laid BY PROGRAM, IN A SANDBOX (cutbox-rows.mjs): the forced cells as the released guide's own fill.sh prints them over the translation e4b370748b335f3e… (all of the seat's roots in one cut). By AI agents, Wed Nov 11 2026. No macro, syntax, notation, axiom, sorry.
-/
import Derived.Test.YtjdabcapphiplabChecked
import GoSem.Claim
import GoSem.ClaimJoined
import GoSem.ClaimMapViews
import Derived.JoinedTies
import Derived.KernelRfl
namespace Go.Proofs.Ytjdabcapphiplab
/- THE CELL 'sum', in the pinned program and in every row, IS THE sha256 OF THE DUMP (.gsa) THAT YtjdabcapphiplabProg.lean LOADS. Nothing in Lean hashes anything: it is a label: what it is worth is what the hold of that sum in a sandbox is worth. -/
noncomputable def Try.pinned : Pinned := { name := "ytjdabcapphiplab", sum := "e4b370748b335f3efeba96ce3b7c9ff098fd0911ea4a965fc0cb73392c28d8a6", checked := Try.checked }
namespace Rows
def none {H : Type} : Left H := { results := [], args := [] }

/-- 'quaysidelaw13.LockNil': WHATEVER THE INPUT: true; the input reads as it did. -/
def lockNilSpec : ChangeSpec := { name := "lockNil", fn := fun _ => fun
  | [d] => { results := [.lit (.bool true)], args := [d] }
  | _ => none }
def lockNilRow : OpenClaim := { program := "ytjdabcapphiplab", sum := "e4b370748b335f3efeba96ce3b7c9ff098fd0911ea4a965fc0cb73392c28d8a6", func := "quayside/quaysidelaw13.LockNil", spec := "lockNil", inPlace := ["slices.overlaps[quayside/lock.Hold]"], unfollowed := true, recurses := true, apart := false }
def LockNilSaid : Prop := lockNilRow.holds Try.pinned (OpenSpec.ofChange lockNilSpec)

/-- ITS FALSE NEIGHBOUR: 'it returns false'. Refute it at one input. -/
def lockNilWrong : ChangeSpec := { name := "lockNil", fn := fun _ => fun
  | [d] => { results := [.lit (.bool false)], args := [d] }
  | _ => none }
def LockNilWrongFalsely : Prop := lockNilRow.holds Try.pinned (OpenSpec.ofChange lockNilWrong)

/-- 'quaysidelaw13.LockIdle': WHATEVER THE INPUT: true; the input reads as it did. -/
def lockIdleSpec : ChangeSpec := { name := "lockIdle", fn := fun _ => fun
  | [d1, d2] => { results := [.lit (.bool true)], args := [d1, d2] }
  | _ => none }
def lockIdleRow : OpenClaim := { program := "ytjdabcapphiplab", sum := "e4b370748b335f3efeba96ce3b7c9ff098fd0911ea4a965fc0cb73392c28d8a6", func := "quayside/quaysidelaw13.LockIdle", spec := "lockIdle", inPlace := ["slices.overlaps[quayside/lock.Hold]"], unfollowed := true, recurses := true, apart := false }
def LockIdleSaid : Prop := lockIdleRow.holds Try.pinned (OpenSpec.ofChange lockIdleSpec)

/-- ITS FALSE NEIGHBOUR: 'it returns false'. Refute it at one input. -/
def lockIdleWrong : ChangeSpec := { name := "lockIdle", fn := fun _ => fun
  | [d1, d2] => { results := [.lit (.bool false)], args := [d1, d2] }
  | _ => none }
def LockIdleWrongFalsely : Prop := lockIdleRow.holds Try.pinned (OpenSpec.ofChange lockIdleWrong)

/- THE SECOND FORM. 'bulk': how many values and letters a reading holds, each counted each time it is reached (what is shared counts as often as it is met; a slice's spare places count too). A statement '..UptoSaid' is the law's where the arguments, and the package variables that the reading takes, are together of bulk at most 1048576: NARROWER than '..Said'. Prove '..Said' where nothing that the law and all that it calls make is longer than what came in: it says more and counts as full. Else prove '..UptoSaid'. A law counts once. -/
mutual
def uptoBulk {H : Type} : DataW H → Nat
  | .lit (.string bytes) => bytes.length + 1
  | .lit _ => 1
  | .nil => 1
  | .ptr d => uptoBulk d + 1
  | .slice elems spare => uptoBulkAll elems + uptoBulkAll spare + 1
  | .agg parts => uptoBulkAll parts + 1
  | .iface _ d => uptoBulk d + 1
  | .map entries => uptoBulkEntries entries + 1
  | .held _ => 1
def uptoBulkAll {H : Type} : List (DataW H) → Nat
  | [] => 0
  | d :: r => uptoBulk d + uptoBulkAll r
def uptoBulkEntries {H : Type} : List (Lit × DataW H) → Nat
  | [] => 0
  | x :: r => uptoBulkEntry x + uptoBulkEntries r
def uptoBulkEntry {H : Type} : Lit × DataW H → Nat
  | (.string bytes, d) => bytes.length + uptoBulk d + 1
  | (_, d) => uptoBulk d + 1
 end
def uptoSmall : (H : Type) → List (DataW H) → Bool := fun _ ds => decide (uptoBulkAll ds ≤ 1048576)
def OpenSpec.upto (s : _root_.Go.ChangeSpec) : _root_.Go.OpenSpec := { _root_.Go.OpenSpec.ofChange s with cond := some uptoSmall }

/-- 'quaysidelaw13.LockNil', WHERE WHAT IT READS IS OF BULK AT MOST 1048576: true; the input reads as it did. -/
def lockNilUptoRow : OpenClaim := { program := "ytjdabcapphiplab", sum := "e4b370748b335f3efeba96ce3b7c9ff098fd0911ea4a965fc0cb73392c28d8a6", func := "quayside/quaysidelaw13.LockNil", spec := "lockNil", inPlace := ["slices.overlaps[quayside/lock.Hold]"], unfollowed := true, recurses := true, apart := false, narrowed := true }
def LockNilUptoSaid : Prop := lockNilUptoRow.holds Try.pinned (OpenSpec.upto lockNilSpec)

/-- 'quaysidelaw13.LockIdle', WHERE WHAT IT READS IS OF BULK AT MOST 1048576: true; the input reads as it did. -/
def lockIdleUptoRow : OpenClaim := { program := "ytjdabcapphiplab", sum := "e4b370748b335f3efeba96ce3b7c9ff098fd0911ea4a965fc0cb73392c28d8a6", func := "quayside/quaysidelaw13.LockIdle", spec := "lockIdle", inPlace := ["slices.overlaps[quayside/lock.Hold]"], unfollowed := true, recurses := true, apart := false, narrowed := true }
def LockIdleUptoSaid : Prop := lockIdleUptoRow.holds Try.pinned (OpenSpec.upto lockIdleSpec)

end Rows
end Go.Proofs.Ytjdabcapphiplab
