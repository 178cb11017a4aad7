/-
  No cell of these rows narrows 'for every input' (looked for: loops, veiled, ifaces, maps, wideKeys, modest, calm, conditions, laid).
  DERIVED. THE GIVEN ROWS OF THIS SEAT. 4 by the template 'for every input the law returns true; each argument reads behind the call as it read before'; 0 by the template 'total and deterministic' (their statements: YtmdhnfeepadfaaaTotals.lean).
  GIVEN WITH THE SEED: the statements are not yours to turn. If you find one false, say at which input.
  Laid BY PROGRAM, IN A SANDBOX (cutbox-rows.mjs): the forced cells as the released guide's own fill.sh prints them over the translation c24b7a38ac2cb79c… (all of the seat's roots in one cut). By AI agents, Wed Nov 11 2026. No macro, syntax, notation, axiom, sorry.
-/
import Derived.Test.YtmdhnfeepadfaaaChecked
import GoSem.Claim
import GoSem.ClaimJoined
import GoSem.ClaimMapViews
import Derived.JoinedTies
import Derived.KernelRfl
namespace Go.Proofs.Ytmdhnfeepadfaaa
/- THE CELL 'sum', in the pinned program and in every row, IS THE sha256 OF THE DUMP (.gsa) THAT YtmdhnfeepadfaaaProg.lean LOADS. Nothing in Lean hashes anything: it is a label: what it is worth is what the hold of that sum in a sandbox is worth. -/
noncomputable def Try.pinned : Pinned := { name := "ytmdhnfeepadfaaa", sum := "c24b7a38ac2cb79c3f7b383822c282fa01add0b7a22ce65a21d6cee319ad88e7", checked := Try.checked }
namespace Rows
def none {H : Type} : Left H := { results := [], args := [] }

/-- 'quaysidelaw09.WalKeeps': WHATEVER THE INPUT: true; the input reads as it did. -/
def walKeepsSpec : ChangeSpec := { name := "walKeeps", fn := fun _ => fun
  | [d] => { results := [.lit (.bool true)], args := [d] }
  | _ => none }
def walKeepsRow : OpenClaim := { program := "ytmdhnfeepadfaaa", sum := "c24b7a38ac2cb79c3f7b383822c282fa01add0b7a22ce65a21d6cee319ad88e7", func := "quayside/quaysidelaw09.WalKeeps", spec := "walKeeps", unfollowed := true, recurses := true, apart := false }
def WalKeepsSaid : Prop := walKeepsRow.holds Try.pinned (OpenSpec.ofChange walKeepsSpec)

/-- ITS FALSE NEIGHBOUR: 'it returns false'. Refute it at one input. -/
def walKeepsWrong : ChangeSpec := { name := "walKeeps", fn := fun _ => fun
  | [d] => { results := [.lit (.bool false)], args := [d] }
  | _ => none }
def WalKeepsWrongFalsely : Prop := walKeepsRow.holds Try.pinned (OpenSpec.ofChange walKeepsWrong)

/-- 'quaysidelaw09.WalNil': WHATEVER THE INPUT: true; the input reads as it did. -/
def walNilSpec : ChangeSpec := { name := "walNil", fn := fun _ => fun
  | [d] => { results := [.lit (.bool true)], args := [d] }
  | _ => none }
def walNilRow : OpenClaim := { program := "ytmdhnfeepadfaaa", sum := "c24b7a38ac2cb79c3f7b383822c282fa01add0b7a22ce65a21d6cee319ad88e7", func := "quayside/quaysidelaw09.WalNil", spec := "walNil", unfollowed := true, recurses := true, apart := false }
def WalNilSaid : Prop := walNilRow.holds Try.pinned (OpenSpec.ofChange walNilSpec)

/-- ITS FALSE NEIGHBOUR: 'it returns false'. Refute it at one input. -/
def walNilWrong : ChangeSpec := { name := "walNil", fn := fun _ => fun
  | [d] => { results := [.lit (.bool false)], args := [d] }
  | _ => none }
def WalNilWrongFalsely : Prop := walNilRow.holds Try.pinned (OpenSpec.ofChange walNilWrong)

/-- 'quaysidelaw09.WalLater': WHATEVER THE INPUT: true; the input reads as it did. -/
def walLaterSpec : ChangeSpec := { name := "walLater", fn := fun _ => fun
  | [d1, d2] => { results := [.lit (.bool true)], args := [d1, d2] }
  | _ => none }
def walLaterRow : OpenClaim := { program := "ytmdhnfeepadfaaa", sum := "c24b7a38ac2cb79c3f7b383822c282fa01add0b7a22ce65a21d6cee319ad88e7", func := "quayside/quaysidelaw09.WalLater", spec := "walLater", unfollowed := true, recurses := true, apart := false }
def WalLaterSaid : Prop := walLaterRow.holds Try.pinned (OpenSpec.ofChange walLaterSpec)

/-- ITS FALSE NEIGHBOUR: 'it returns false'. Refute it at one input. -/
def walLaterWrong : ChangeSpec := { name := "walLater", fn := fun _ => fun
  | [d1, d2] => { results := [.lit (.bool false)], args := [d1, d2] }
  | _ => none }
def WalLaterWrongFalsely : Prop := walLaterRow.holds Try.pinned (OpenSpec.ofChange walLaterWrong)

/-- 'quaysidetop.TopTapes': WHATEVER THE INPUT: true; the input reads as it did. -/
def topTapesSpec : ChangeSpec := { name := "topTapes", fn := fun _ => fun
  | [d] => { results := [.lit (.bool true)], args := [d] }
  | _ => none }
def topTapesRow : OpenClaim := { program := "ytmdhnfeepadfaaa", sum := "c24b7a38ac2cb79c3f7b383822c282fa01add0b7a22ce65a21d6cee319ad88e7", func := "quayside/quaysidetop.TopTapes", spec := "topTapes", unfollowed := true, recurses := true, apart := false }
def TopTapesSaid : Prop := topTapesRow.holds Try.pinned (OpenSpec.ofChange topTapesSpec)

/-- ITS FALSE NEIGHBOUR: 'it returns false'. Refute it at one input. -/
def topTapesWrong : ChangeSpec := { name := "topTapes", fn := fun _ => fun
  | [d] => { results := [.lit (.bool false)], args := [d] }
  | _ => none }
def TopTapesWrongFalsely : Prop := topTapesRow.holds Try.pinned (OpenSpec.ofChange topTapesWrong)

/- THE SECOND FORM. 'bulk': how many values and letters a reading holds, each counted each time it is reached (what is shared counts as often as it is met; a slice's spare places count too). A statement '..UptoSaid' is the law's where the arguments, and the package variables that the reading takes, are together of bulk at most 1048576: NARROWER than '..Said'. Prove '..Said' where nothing that the law and all that it calls make is longer than what came in: it says more and counts as full. Else prove '..UptoSaid'. A law counts once. -/
mutual
def uptoBulk {H : Type} : DataW H → Nat
  | .lit (.string bytes) => bytes.length + 1
  | .lit _ => 1
  | .nil => 1
  | .ptr d => uptoBulk d + 1
  | .slice elems spare => uptoBulkAll elems + uptoBulkAll spare + 1
  | .agg parts => uptoBulkAll parts + 1
  | .iface _ d => uptoBulk d + 1
  | .map entries => uptoBulkEntries entries + 1
  | .held _ => 1
def uptoBulkAll {H : Type} : List (DataW H) → Nat
  | [] => 0
  | d :: r => uptoBulk d + uptoBulkAll r
def uptoBulkEntries {H : Type} : List (Lit × DataW H) → Nat
  | [] => 0
  | x :: r => uptoBulkEntry x + uptoBulkEntries r
def uptoBulkEntry {H : Type} : Lit × DataW H → Nat
  | (.string bytes, d) => bytes.length + uptoBulk d + 1
  | (_, d) => uptoBulk d + 1
 end
def uptoSmall : (H : Type) → List (DataW H) → Bool := fun _ ds => decide (uptoBulkAll ds ≤ 1048576)
def OpenSpec.upto (s : _root_.Go.ChangeSpec) : _root_.Go.OpenSpec := { _root_.Go.OpenSpec.ofChange s with cond := some uptoSmall }

/-- 'quaysidelaw09.WalKeeps', WHERE WHAT IT READS IS OF BULK AT MOST 1048576: true; the input reads as it did. -/
def walKeepsUptoRow : OpenClaim := { program := "ytmdhnfeepadfaaa", sum := "c24b7a38ac2cb79c3f7b383822c282fa01add0b7a22ce65a21d6cee319ad88e7", func := "quayside/quaysidelaw09.WalKeeps", spec := "walKeeps", unfollowed := true, recurses := true, apart := false, narrowed := true }
def WalKeepsUptoSaid : Prop := walKeepsUptoRow.holds Try.pinned (OpenSpec.upto walKeepsSpec)

/-- 'quaysidelaw09.WalNil', WHERE WHAT IT READS IS OF BULK AT MOST 1048576: true; the input reads as it did. -/
def walNilUptoRow : OpenClaim := { program := "ytmdhnfeepadfaaa", sum := "c24b7a38ac2cb79c3f7b383822c282fa01add0b7a22ce65a21d6cee319ad88e7", func := "quayside/quaysidelaw09.WalNil", spec := "walNil", unfollowed := true, recurses := true, apart := false, narrowed := true }
def WalNilUptoSaid : Prop := walNilUptoRow.holds Try.pinned (OpenSpec.upto walNilSpec)

/-- 'quaysidelaw09.WalLater', WHERE WHAT IT READS IS OF BULK AT MOST 1048576: true; the input reads as it did. -/
def walLaterUptoRow : OpenClaim := { program := "ytmdhnfeepadfaaa", sum := "c24b7a38ac2cb79c3f7b383822c282fa01add0b7a22ce65a21d6cee319ad88e7", func := "quayside/quaysidelaw09.WalLater", spec := "walLater", unfollowed := true, recurses := true, apart := false, narrowed := true }
def WalLaterUptoSaid : Prop := walLaterUptoRow.holds Try.pinned (OpenSpec.upto walLaterSpec)

/-- 'quaysidetop.TopTapes', WHERE WHAT IT READS IS OF BULK AT MOST 1048576: true; the input reads as it did. -/
def topTapesUptoRow : OpenClaim := { program := "ytmdhnfeepadfaaa", sum := "c24b7a38ac2cb79c3f7b383822c282fa01add0b7a22ce65a21d6cee319ad88e7", func := "quayside/quaysidetop.TopTapes", spec := "topTapes", unfollowed := true, recurses := true, apart := false, narrowed := true }
def TopTapesUptoSaid : Prop := topTapesUptoRow.holds Try.pinned (OpenSpec.upto topTapesSpec)

end Rows
end Go.Proofs.Ytmdhnfeepadfaaa
