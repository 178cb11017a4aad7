/-
  No cell of these rows narrows 'for every input' (looked for: loops, veiled, ifaces, maps, wideKeys, modest, calm, conditions, laid).
  DERIVED. THE GIVEN ROWS OF THIS SEAT. 6 by the template 'for every input the law returns true; each argument reads behind the call as it read before'; 0 by the template 'total and deterministic' (their statements: YtohdmmfmjadipaaTotals.lean).
  GIVEN WITH THE SEED: the statements are not yours to turn. If you find one false, say at which input.
  Laid BY PROGRAM, IN A SANDBOX (cutbox-rows.mjs): the forced cells as the released guide's own fill.sh prints them over the translation 77a6413fb4be43d9… (all of the seat's roots in one cut). By AI agents, Wed Nov 11 2026. No macro, syntax, notation, axiom, sorry.
-/
import Derived.Test.YtohdmmfmjadipaaChecked
import GoSem.Claim
import GoSem.ClaimJoined
import GoSem.ClaimMapViews
import Derived.JoinedTies
import Derived.KernelRfl
namespace Go.Proofs.Ytohdmmfmjadipaa
/- THE CELL 'sum', in the pinned program and in every row, IS THE sha256 OF THE DUMP (.gsa) THAT YtohdmmfmjadipaaProg.lean LOADS. Nothing in Lean hashes anything: it is a label: what it is worth is what the hold of that sum in a sandbox is worth. -/
noncomputable def Try.pinned : Pinned := { name := "ytohdmmfmjadipaa", sum := "77a6413fb4be43d939f4a2c0ff095bff90821135f3f249b66b20ba8d3ead9169", checked := Try.checked }
namespace Rows
def none {H : Type} : Left H := { results := [], args := [] }

/-- 'quaysidelaw15.TxnGets': WHATEVER THE INPUT: true; the input reads as it did. -/
def txnGetsSpec : ChangeSpec := { name := "txnGets", fn := fun _ => fun
  | [d1, d2, d3] => { results := [.lit (.bool true)], args := [d1, d2, d3] }
  | _ => none }
def txnGetsRow : OpenClaim := { program := "ytohdmmfmjadipaa", sum := "77a6413fb4be43d939f4a2c0ff095bff90821135f3f249b66b20ba8d3ead9169", func := "quayside/quaysidelaw15.TxnGets", spec := "txnGets", unfollowed := true, recurses := true, apart := false }
def TxnGetsSaid : Prop := txnGetsRow.holds Try.pinned (OpenSpec.ofChange txnGetsSpec)

/-- ITS FALSE NEIGHBOUR: 'it returns false'. Refute it at one input. -/
def txnGetsWrong : ChangeSpec := { name := "txnGets", fn := fun _ => fun
  | [d1, d2, d3] => { results := [.lit (.bool false)], args := [d1, d2, d3] }
  | _ => none }
def TxnGetsWrongFalsely : Prop := txnGetsRow.holds Try.pinned (OpenSpec.ofChange txnGetsWrong)

/-- 'quaysidelaw15.TxnNexts': WHATEVER THE INPUT: true; the input reads as it did. -/
def txnNextsSpec : ChangeSpec := { name := "txnNexts", fn := fun _ => fun
  | [d1, d2] => { results := [.lit (.bool true)], args := [d1, d2] }
  | _ => none }
def txnNextsRow : OpenClaim := { program := "ytohdmmfmjadipaa", sum := "77a6413fb4be43d939f4a2c0ff095bff90821135f3f249b66b20ba8d3ead9169", func := "quayside/quaysidelaw15.TxnNexts", spec := "txnNexts", unfollowed := true, recurses := true, apart := false }
def TxnNextsSaid : Prop := txnNextsRow.holds Try.pinned (OpenSpec.ofChange txnNextsSpec)

/-- ITS FALSE NEIGHBOUR: 'it returns false'. Refute it at one input. -/
def txnNextsWrong : ChangeSpec := { name := "txnNexts", fn := fun _ => fun
  | [d1, d2] => { results := [.lit (.bool false)], args := [d1, d2] }
  | _ => none }
def TxnNextsWrongFalsely : Prop := txnNextsRow.holds Try.pinned (OpenSpec.ofChange txnNextsWrong)

/-- 'quaysidelaw15.TxnPlans': WHATEVER THE INPUT: true; the input reads as it did. -/
def txnPlansSpec : ChangeSpec := { name := "txnPlans", fn := fun _ => fun
  | [d1, d2, d3] => { results := [.lit (.bool true)], args := [d1, d2, d3] }
  | _ => none }
def txnPlansRow : OpenClaim := { program := "ytohdmmfmjadipaa", sum := "77a6413fb4be43d939f4a2c0ff095bff90821135f3f249b66b20ba8d3ead9169", func := "quayside/quaysidelaw15.TxnPlans", spec := "txnPlans", unfollowed := true, recurses := true, apart := false }
def TxnPlansSaid : Prop := txnPlansRow.holds Try.pinned (OpenSpec.ofChange txnPlansSpec)

/-- ITS FALSE NEIGHBOUR: 'it returns false'. Refute it at one input. -/
def txnPlansWrong : ChangeSpec := { name := "txnPlans", fn := fun _ => fun
  | [d1, d2, d3] => { results := [.lit (.bool false)], args := [d1, d2, d3] }
  | _ => none }
def TxnPlansWrongFalsely : Prop := txnPlansRow.holds Try.pinned (OpenSpec.ofChange txnPlansWrong)

/-- 'quaysidelaw15.TxnAgain': WHATEVER THE INPUT: true; the input reads as it did. -/
def txnAgainSpec : ChangeSpec := { name := "txnAgain", fn := fun _ => fun
  | [d1, d2, d3, d4] => { results := [.lit (.bool true)], args := [d1, d2, d3, d4] }
  | _ => none }
def txnAgainRow : OpenClaim := { program := "ytohdmmfmjadipaa", sum := "77a6413fb4be43d939f4a2c0ff095bff90821135f3f249b66b20ba8d3ead9169", func := "quayside/quaysidelaw15.TxnAgain", spec := "txnAgain", unfollowed := true, recurses := true, apart := false }
def TxnAgainSaid : Prop := txnAgainRow.holds Try.pinned (OpenSpec.ofChange txnAgainSpec)

/-- ITS FALSE NEIGHBOUR: 'it returns false'. Refute it at one input. -/
def txnAgainWrong : ChangeSpec := { name := "txnAgain", fn := fun _ => fun
  | [d1, d2, d3, d4] => { results := [.lit (.bool false)], args := [d1, d2, d3, d4] }
  | _ => none }
def TxnAgainWrongFalsely : Prop := txnAgainRow.holds Try.pinned (OpenSpec.ofChange txnAgainWrong)

/-- 'quaysidelaw15.TxnParts': WHATEVER THE INPUT: true; the input reads as it did. -/
def txnPartsSpec : ChangeSpec := { name := "txnParts", fn := fun _ => fun
  | [d1, d2, d3, d4] => { results := [.lit (.bool true)], args := [d1, d2, d3, d4] }
  | _ => none }
def txnPartsRow : OpenClaim := { program := "ytohdmmfmjadipaa", sum := "77a6413fb4be43d939f4a2c0ff095bff90821135f3f249b66b20ba8d3ead9169", func := "quayside/quaysidelaw15.TxnParts", spec := "txnParts", unfollowed := true, recurses := true, apart := false }
def TxnPartsSaid : Prop := txnPartsRow.holds Try.pinned (OpenSpec.ofChange txnPartsSpec)

/-- ITS FALSE NEIGHBOUR: 'it returns false'. Refute it at one input. -/
def txnPartsWrong : ChangeSpec := { name := "txnParts", fn := fun _ => fun
  | [d1, d2, d3, d4] => { results := [.lit (.bool false)], args := [d1, d2, d3, d4] }
  | _ => none }
def TxnPartsWrongFalsely : Prop := txnPartsRow.holds Try.pinned (OpenSpec.ofChange txnPartsWrong)

/-- 'quaysidelaw15.TxnUndoes': WHATEVER THE INPUT: true; the input reads as it did. -/
def txnUndoesSpec : ChangeSpec := { name := "txnUndoes", fn := fun _ => fun
  | [d1, d2, d3] => { results := [.lit (.bool true)], args := [d1, d2, d3] }
  | _ => none }
def txnUndoesRow : OpenClaim := { program := "ytohdmmfmjadipaa", sum := "77a6413fb4be43d939f4a2c0ff095bff90821135f3f249b66b20ba8d3ead9169", func := "quayside/quaysidelaw15.TxnUndoes", spec := "txnUndoes", unfollowed := true, recurses := true, apart := false }
def TxnUndoesSaid : Prop := txnUndoesRow.holds Try.pinned (OpenSpec.ofChange txnUndoesSpec)

/-- ITS FALSE NEIGHBOUR: 'it returns false'. Refute it at one input. -/
def txnUndoesWrong : ChangeSpec := { name := "txnUndoes", fn := fun _ => fun
  | [d1, d2, d3] => { results := [.lit (.bool false)], args := [d1, d2, d3] }
  | _ => none }
def TxnUndoesWrongFalsely : Prop := txnUndoesRow.holds Try.pinned (OpenSpec.ofChange txnUndoesWrong)

/- THE SECOND FORM. 'bulk': how many values and letters a reading holds, each counted each time it is reached (what is shared counts as often as it is met; a slice's spare places count too). A statement '..UptoSaid' is the law's where the arguments, and the package variables that the reading takes, are together of bulk at most 1048576: NARROWER than '..Said'. Prove '..Said' where nothing that the law and all that it calls make is longer than what came in: it says more and counts as full. Else prove '..UptoSaid'. A law counts once. -/
mutual
def uptoBulk {H : Type} : DataW H → Nat
  | .lit (.string bytes) => bytes.length + 1
  | .lit _ => 1
  | .nil => 1
  | .ptr d => uptoBulk d + 1
  | .slice elems spare => uptoBulkAll elems + uptoBulkAll spare + 1
  | .agg parts => uptoBulkAll parts + 1
  | .iface _ d => uptoBulk d + 1
  | .map entries => uptoBulkEntries entries + 1
  | .held _ => 1
def uptoBulkAll {H : Type} : List (DataW H) → Nat
  | [] => 0
  | d :: r => uptoBulk d + uptoBulkAll r
def uptoBulkEntries {H : Type} : List (Lit × DataW H) → Nat
  | [] => 0
  | x :: r => uptoBulkEntry x + uptoBulkEntries r
def uptoBulkEntry {H : Type} : Lit × DataW H → Nat
  | (.string bytes, d) => bytes.length + uptoBulk d + 1
  | (_, d) => uptoBulk d + 1
 end
def uptoSmall : (H : Type) → List (DataW H) → Bool := fun _ ds => decide (uptoBulkAll ds ≤ 1048576)
def OpenSpec.upto (s : _root_.Go.ChangeSpec) : _root_.Go.OpenSpec := { _root_.Go.OpenSpec.ofChange s with cond := some uptoSmall }

/-- 'quaysidelaw15.TxnGets', WHERE WHAT IT READS IS OF BULK AT MOST 1048576: true; the input reads as it did. -/
def txnGetsUptoRow : OpenClaim := { program := "ytohdmmfmjadipaa", sum := "77a6413fb4be43d939f4a2c0ff095bff90821135f3f249b66b20ba8d3ead9169", func := "quayside/quaysidelaw15.TxnGets", spec := "txnGets", unfollowed := true, recurses := true, apart := false, narrowed := true }
def TxnGetsUptoSaid : Prop := txnGetsUptoRow.holds Try.pinned (OpenSpec.upto txnGetsSpec)

/-- 'quaysidelaw15.TxnNexts', WHERE WHAT IT READS IS OF BULK AT MOST 1048576: true; the input reads as it did. -/
def txnNextsUptoRow : OpenClaim := { program := "ytohdmmfmjadipaa", sum := "77a6413fb4be43d939f4a2c0ff095bff90821135f3f249b66b20ba8d3ead9169", func := "quayside/quaysidelaw15.TxnNexts", spec := "txnNexts", unfollowed := true, recurses := true, apart := false, narrowed := true }
def TxnNextsUptoSaid : Prop := txnNextsUptoRow.holds Try.pinned (OpenSpec.upto txnNextsSpec)

/-- 'quaysidelaw15.TxnPlans', WHERE WHAT IT READS IS OF BULK AT MOST 1048576: true; the input reads as it did. -/
def txnPlansUptoRow : OpenClaim := { program := "ytohdmmfmjadipaa", sum := "77a6413fb4be43d939f4a2c0ff095bff90821135f3f249b66b20ba8d3ead9169", func := "quayside/quaysidelaw15.TxnPlans", spec := "txnPlans", unfollowed := true, recurses := true, apart := false, narrowed := true }
def TxnPlansUptoSaid : Prop := txnPlansUptoRow.holds Try.pinned (OpenSpec.upto txnPlansSpec)

/-- 'quaysidelaw15.TxnAgain', WHERE WHAT IT READS IS OF BULK AT MOST 1048576: true; the input reads as it did. -/
def txnAgainUptoRow : OpenClaim := { program := "ytohdmmfmjadipaa", sum := "77a6413fb4be43d939f4a2c0ff095bff90821135f3f249b66b20ba8d3ead9169", func := "quayside/quaysidelaw15.TxnAgain", spec := "txnAgain", unfollowed := true, recurses := true, apart := false, narrowed := true }
def TxnAgainUptoSaid : Prop := txnAgainUptoRow.holds Try.pinned (OpenSpec.upto txnAgainSpec)

/-- 'quaysidelaw15.TxnParts', WHERE WHAT IT READS IS OF BULK AT MOST 1048576: true; the input reads as it did. -/
def txnPartsUptoRow : OpenClaim := { program := "ytohdmmfmjadipaa", sum := "77a6413fb4be43d939f4a2c0ff095bff90821135f3f249b66b20ba8d3ead9169", func := "quayside/quaysidelaw15.TxnParts", spec := "txnParts", unfollowed := true, recurses := true, apart := false, narrowed := true }
def TxnPartsUptoSaid : Prop := txnPartsUptoRow.holds Try.pinned (OpenSpec.upto txnPartsSpec)

/-- 'quaysidelaw15.TxnUndoes', WHERE WHAT IT READS IS OF BULK AT MOST 1048576: true; the input reads as it did. -/
def txnUndoesUptoRow : OpenClaim := { program := "ytohdmmfmjadipaa", sum := "77a6413fb4be43d939f4a2c0ff095bff90821135f3f249b66b20ba8d3ead9169", func := "quayside/quaysidelaw15.TxnUndoes", spec := "txnUndoes", unfollowed := true, recurses := true, apart := false, narrowed := true }
def TxnUndoesUptoSaid : Prop := txnUndoesUptoRow.holds Try.pinned (OpenSpec.upto txnUndoesSpec)

end Rows
end Go.Proofs.Ytohdmmfmjadipaa
