/-
  No cell of these rows narrows 'for every input' (looked for: loops, veiled, ifaces, maps, wideKeys, modest, calm, conditions, laid).
  DERIVED. THE GIVEN ROWS OF THIS SEAT. 6 by the template 'for every input the law returns true; each argument reads behind the call as it read before'; 0 by the template 'total and deterministic' (their statements: YtmlbghloddiflaaTotals.lean).
  GIVEN WITH THE SEED: the statements are not yours to turn. If you find one false, say at which input.
  Laid BY PROGRAM, IN A SANDBOX (cutbox-rows.mjs): the forced cells as the released guide's own fill.sh prints them over the translation d4132715fc9aee3c… (all of the seat's roots in one cut). By AI agents, Wed Nov 11 2026. No macro, syntax, notation, axiom, sorry.
-/
import Derived.Test.YtmlbghloddiflaaChecked
import GoSem.Claim
import GoSem.ClaimJoined
import GoSem.ClaimMapViews
import Derived.JoinedTies
import Derived.KernelRfl
namespace Go.Proofs.Ytmlbghloddiflaa
/- THE CELL 'sum', in the pinned program and in every row, IS THE sha256 OF THE DUMP (.gsa) THAT YtmlbghloddiflaaProg.lean LOADS. Nothing in Lean hashes anything: it is a label: what it is worth is what the hold of that sum in a sandbox is worth. -/
noncomputable def Try.pinned : Pinned := { name := "ytmlbghloddiflaa", sum := "d4132715fc9aee3c736485174c63afbe49d850ff67d171555e4ccf0ebda0fdfe", checked := Try.checked }
namespace Rows
def none {H : Type} : Left H := { results := [], args := [] }

/-- 'quaysidelaw13.LockPlays': WHATEVER THE INPUT: true; the input reads as it did. -/
def lockPlaysSpec : ChangeSpec := { name := "lockPlays", fn := fun _ => fun
  | [d1, d2] => { results := [.lit (.bool true)], args := [d1, d2] }
  | _ => none }
def lockPlaysRow : OpenClaim := { program := "ytmlbghloddiflaa", sum := "d4132715fc9aee3c736485174c63afbe49d850ff67d171555e4ccf0ebda0fdfe", func := "quayside/quaysidelaw13.LockPlays", spec := "lockPlays", inPlace := ["slices.overlaps[quayside/lock.Hold]"], unfollowed := true, recurses := true, apart := false }
def LockPlaysSaid : Prop := lockPlaysRow.holds Try.pinned (OpenSpec.ofChange lockPlaysSpec)

/-- ITS FALSE NEIGHBOUR: 'it returns false'. Refute it at one input. -/
def lockPlaysWrong : ChangeSpec := { name := "lockPlays", fn := fun _ => fun
  | [d1, d2] => { results := [.lit (.bool false)], args := [d1, d2] }
  | _ => none }
def LockPlaysWrongFalsely : Prop := lockPlaysRow.holds Try.pinned (OpenSpec.ofChange lockPlaysWrong)

/-- 'quaysidelaw13.LockFits': WHATEVER THE INPUT: true; the input reads as it did. -/
def lockFitsSpec : ChangeSpec := { name := "lockFits", fn := fun _ => fun
  | [d] => { results := [.lit (.bool true)], args := [d] }
  | _ => none }
def lockFitsRow : OpenClaim := { program := "ytmlbghloddiflaa", sum := "d4132715fc9aee3c736485174c63afbe49d850ff67d171555e4ccf0ebda0fdfe", func := "quayside/quaysidelaw13.LockFits", spec := "lockFits", inPlace := ["slices.overlaps[quayside/lock.Hold]"], unfollowed := true, recurses := true, apart := false }
def LockFitsSaid : Prop := lockFitsRow.holds Try.pinned (OpenSpec.ofChange lockFitsSpec)

/-- ITS FALSE NEIGHBOUR: 'it returns false'. Refute it at one input. -/
def lockFitsWrong : ChangeSpec := { name := "lockFits", fn := fun _ => fun
  | [d] => { results := [.lit (.bool false)], args := [d] }
  | _ => none }
def LockFitsWrongFalsely : Prop := lockFitsRow.holds Try.pinned (OpenSpec.ofChange lockFitsWrong)

/-- 'quaysidelaw13.LockRings': WHATEVER THE INPUT: true; the input reads as it did. -/
def lockRingsSpec : ChangeSpec := { name := "lockRings", fn := fun _ => fun
  | [d] => { results := [.lit (.bool true)], args := [d] }
  | _ => none }
def lockRingsRow : OpenClaim := { program := "ytmlbghloddiflaa", sum := "d4132715fc9aee3c736485174c63afbe49d850ff67d171555e4ccf0ebda0fdfe", func := "quayside/quaysidelaw13.LockRings", spec := "lockRings", inPlace := ["slices.overlaps[quayside/lock.Hold]"], unfollowed := true, recurses := true, apart := false }
def LockRingsSaid : Prop := lockRingsRow.holds Try.pinned (OpenSpec.ofChange lockRingsSpec)

/-- ITS FALSE NEIGHBOUR: 'it returns false'. Refute it at one input. -/
def lockRingsWrong : ChangeSpec := { name := "lockRings", fn := fun _ => fun
  | [d] => { results := [.lit (.bool false)], args := [d] }
  | _ => none }
def LockRingsWrongFalsely : Prop := lockRingsRow.holds Try.pinned (OpenSpec.ofChange lockRingsWrong)

/-- 'quaysidelaw13.LockRows': WHATEVER THE INPUT: true; the input reads as it did. -/
def lockRowsSpec : ChangeSpec := { name := "lockRows", fn := fun _ => fun
  | [d1, d2] => { results := [.lit (.bool true)], args := [d1, d2] }
  | _ => none }
def lockRowsRow : OpenClaim := { program := "ytmlbghloddiflaa", sum := "d4132715fc9aee3c736485174c63afbe49d850ff67d171555e4ccf0ebda0fdfe", func := "quayside/quaysidelaw13.LockRows", spec := "lockRows", inPlace := ["slices.overlaps[quayside/lock.Hold]"], unfollowed := true, recurses := true, apart := false }
def LockRowsSaid : Prop := lockRowsRow.holds Try.pinned (OpenSpec.ofChange lockRowsSpec)

/-- ITS FALSE NEIGHBOUR: 'it returns false'. Refute it at one input. -/
def lockRowsWrong : ChangeSpec := { name := "lockRows", fn := fun _ => fun
  | [d1, d2] => { results := [.lit (.bool false)], args := [d1, d2] }
  | _ => none }
def LockRowsWrongFalsely : Prop := lockRowsRow.holds Try.pinned (OpenSpec.ofChange lockRowsWrong)

/-- 'quaysidelaw13.LockFree': WHATEVER THE INPUT: true; the input reads as it did. -/
def lockFreeSpec : ChangeSpec := { name := "lockFree", fn := fun _ => fun
  | [d] => { results := [.lit (.bool true)], args := [d] }
  | _ => none }
def lockFreeRow : OpenClaim := { program := "ytmlbghloddiflaa", sum := "d4132715fc9aee3c736485174c63afbe49d850ff67d171555e4ccf0ebda0fdfe", func := "quayside/quaysidelaw13.LockFree", spec := "lockFree", inPlace := ["slices.overlaps[quayside/lock.Hold]"], unfollowed := true, recurses := true, apart := false }
def LockFreeSaid : Prop := lockFreeRow.holds Try.pinned (OpenSpec.ofChange lockFreeSpec)

/-- ITS FALSE NEIGHBOUR: 'it returns false'. Refute it at one input. -/
def lockFreeWrong : ChangeSpec := { name := "lockFree", fn := fun _ => fun
  | [d] => { results := [.lit (.bool false)], args := [d] }
  | _ => none }
def LockFreeWrongFalsely : Prop := lockFreeRow.holds Try.pinned (OpenSpec.ofChange lockFreeWrong)

/-- 'quaysidelaw13.LockStays': WHATEVER THE INPUT: true; the input reads as it did. -/
def lockStaysSpec : ChangeSpec := { name := "lockStays", fn := fun _ => fun
  | [d1, d2] => { results := [.lit (.bool true)], args := [d1, d2] }
  | _ => none }
def lockStaysRow : OpenClaim := { program := "ytmlbghloddiflaa", sum := "d4132715fc9aee3c736485174c63afbe49d850ff67d171555e4ccf0ebda0fdfe", func := "quayside/quaysidelaw13.LockStays", spec := "lockStays", inPlace := ["slices.overlaps[quayside/lock.Hold]"], unfollowed := true, recurses := true, apart := false }
def LockStaysSaid : Prop := lockStaysRow.holds Try.pinned (OpenSpec.ofChange lockStaysSpec)

/-- ITS FALSE NEIGHBOUR: 'it returns false'. Refute it at one input. -/
def lockStaysWrong : ChangeSpec := { name := "lockStays", fn := fun _ => fun
  | [d1, d2] => { results := [.lit (.bool false)], args := [d1, d2] }
  | _ => none }
def LockStaysWrongFalsely : Prop := lockStaysRow.holds Try.pinned (OpenSpec.ofChange lockStaysWrong)

/- THE SECOND FORM. 'bulk': how many values and letters a reading holds, each counted each time it is reached (what is shared counts as often as it is met; a slice's spare places count too). A statement '..UptoSaid' is the law's where the arguments, and the package variables that the reading takes, are together of bulk at most 1048576: NARROWER than '..Said'. Prove '..Said' where nothing that the law and all that it calls make is longer than what came in: it says more and counts as full. Else prove '..UptoSaid'. A law counts once. -/
mutual
def uptoBulk {H : Type} : DataW H → Nat
  | .lit (.string bytes) => bytes.length + 1
  | .lit _ => 1
  | .nil => 1
  | .ptr d => uptoBulk d + 1
  | .slice elems spare => uptoBulkAll elems + uptoBulkAll spare + 1
  | .agg parts => uptoBulkAll parts + 1
  | .iface _ d => uptoBulk d + 1
  | .map entries => uptoBulkEntries entries + 1
  | .held _ => 1
def uptoBulkAll {H : Type} : List (DataW H) → Nat
  | [] => 0
  | d :: r => uptoBulk d + uptoBulkAll r
def uptoBulkEntries {H : Type} : List (Lit × DataW H) → Nat
  | [] => 0
  | x :: r => uptoBulkEntry x + uptoBulkEntries r
def uptoBulkEntry {H : Type} : Lit × DataW H → Nat
  | (.string bytes, d) => bytes.length + uptoBulk d + 1
  | (_, d) => uptoBulk d + 1
 end
def uptoSmall : (H : Type) → List (DataW H) → Bool := fun _ ds => decide (uptoBulkAll ds ≤ 1048576)
def OpenSpec.upto (s : _root_.Go.ChangeSpec) : _root_.Go.OpenSpec := { _root_.Go.OpenSpec.ofChange s with cond := some uptoSmall }

/-- 'quaysidelaw13.LockPlays', WHERE WHAT IT READS IS OF BULK AT MOST 1048576: true; the input reads as it did. -/
def lockPlaysUptoRow : OpenClaim := { program := "ytmlbghloddiflaa", sum := "d4132715fc9aee3c736485174c63afbe49d850ff67d171555e4ccf0ebda0fdfe", func := "quayside/quaysidelaw13.LockPlays", spec := "lockPlays", inPlace := ["slices.overlaps[quayside/lock.Hold]"], unfollowed := true, recurses := true, apart := false, narrowed := true }
def LockPlaysUptoSaid : Prop := lockPlaysUptoRow.holds Try.pinned (OpenSpec.upto lockPlaysSpec)

/-- 'quaysidelaw13.LockFits', WHERE WHAT IT READS IS OF BULK AT MOST 1048576: true; the input reads as it did. -/
def lockFitsUptoRow : OpenClaim := { program := "ytmlbghloddiflaa", sum := "d4132715fc9aee3c736485174c63afbe49d850ff67d171555e4ccf0ebda0fdfe", func := "quayside/quaysidelaw13.LockFits", spec := "lockFits", inPlace := ["slices.overlaps[quayside/lock.Hold]"], unfollowed := true, recurses := true, apart := false, narrowed := true }
def LockFitsUptoSaid : Prop := lockFitsUptoRow.holds Try.pinned (OpenSpec.upto lockFitsSpec)

/-- 'quaysidelaw13.LockRings', WHERE WHAT IT READS IS OF BULK AT MOST 1048576: true; the input reads as it did. -/
def lockRingsUptoRow : OpenClaim := { program := "ytmlbghloddiflaa", sum := "d4132715fc9aee3c736485174c63afbe49d850ff67d171555e4ccf0ebda0fdfe", func := "quayside/quaysidelaw13.LockRings", spec := "lockRings", inPlace := ["slices.overlaps[quayside/lock.Hold]"], unfollowed := true, recurses := true, apart := false, narrowed := true }
def LockRingsUptoSaid : Prop := lockRingsUptoRow.holds Try.pinned (OpenSpec.upto lockRingsSpec)

/-- 'quaysidelaw13.LockRows', WHERE WHAT IT READS IS OF BULK AT MOST 1048576: true; the input reads as it did. -/
def lockRowsUptoRow : OpenClaim := { program := "ytmlbghloddiflaa", sum := "d4132715fc9aee3c736485174c63afbe49d850ff67d171555e4ccf0ebda0fdfe", func := "quayside/quaysidelaw13.LockRows", spec := "lockRows", inPlace := ["slices.overlaps[quayside/lock.Hold]"], unfollowed := true, recurses := true, apart := false, narrowed := true }
def LockRowsUptoSaid : Prop := lockRowsUptoRow.holds Try.pinned (OpenSpec.upto lockRowsSpec)

/-- 'quaysidelaw13.LockFree', WHERE WHAT IT READS IS OF BULK AT MOST 1048576: true; the input reads as it did. -/
def lockFreeUptoRow : OpenClaim := { program := "ytmlbghloddiflaa", sum := "d4132715fc9aee3c736485174c63afbe49d850ff67d171555e4ccf0ebda0fdfe", func := "quayside/quaysidelaw13.LockFree", spec := "lockFree", inPlace := ["slices.overlaps[quayside/lock.Hold]"], unfollowed := true, recurses := true, apart := false, narrowed := true }
def LockFreeUptoSaid : Prop := lockFreeUptoRow.holds Try.pinned (OpenSpec.upto lockFreeSpec)

/-- 'quaysidelaw13.LockStays', WHERE WHAT IT READS IS OF BULK AT MOST 1048576: true; the input reads as it did. -/
def lockStaysUptoRow : OpenClaim := { program := "ytmlbghloddiflaa", sum := "d4132715fc9aee3c736485174c63afbe49d850ff67d171555e4ccf0ebda0fdfe", func := "quayside/quaysidelaw13.LockStays", spec := "lockStays", inPlace := ["slices.overlaps[quayside/lock.Hold]"], unfollowed := true, recurses := true, apart := false, narrowed := true }
def LockStaysUptoSaid : Prop := lockStaysUptoRow.holds Try.pinned (OpenSpec.upto lockStaysSpec)

end Rows
end Go.Proofs.Ytmlbghloddiflaa
