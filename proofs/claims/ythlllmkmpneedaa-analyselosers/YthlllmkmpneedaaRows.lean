/-
  No cell of these rows narrows 'for every input' (looked for: loops, veiled, ifaces, maps, wideKeys, modest, calm, conditions, laid).
  DERIVED. THE GIVEN ROWS OF THIS SEAT. 6 by the template 'for every input the law returns true; each argument reads behind the call as it read before'; 0 by the template 'total and deterministic' (their statements: YthlllmkmpneedaaTotals.lean).
  GIVEN WITH THE SEED: the statements are not yours to turn. If you find one false, say at which input.
  Laid BY PROGRAM, IN A SANDBOX (cutbox-rows.mjs): the forced cells as the released guide's own fill.sh prints them over the translation 21398a53a3229529… (all of the seat's roots in one cut). By AI agents, Wed Nov 11 2026. No macro, syntax, notation, axiom, sorry.
-/
import Derived.Test.YthlllmkmpneedaaChecked
import GoSem.Claim
import GoSem.ClaimJoined
import GoSem.ClaimMapViews
import Derived.JoinedTies
import Derived.KernelRfl
namespace Go.Proofs.Ythlllmkmpneedaa
/- THE CELL 'sum', in the pinned program and in every row, IS THE sha256 OF THE DUMP (.gsa) THAT YthlllmkmpneedaaProg.lean LOADS. Nothing in Lean hashes anything: it is a label: what it is worth is what the hold of that sum in a sandbox is worth. -/
noncomputable def Try.pinned : Pinned := { name := "ythlllmkmpneedaa", sum := "21398a53a3229529fae4b710cca4858a7176bc09b4bc4fbcb16dd7e18eb4b943", checked := Try.checked }
namespace Rows
def none {H : Type} : Left H := { results := [], args := [] }

/-- 'quaysidelaw16.AnalyseTells': WHATEVER THE INPUT: true; the input reads as it did. -/
def analyseTellsSpec : ChangeSpec := { name := "analyseTells", fn := fun _ => fun
  | [d] => { results := [.lit (.bool true)], args := [d] }
  | _ => none }
def analyseTellsRow : OpenClaim := { program := "ythlllmkmpneedaa", sum := "21398a53a3229529fae4b710cca4858a7176bc09b4bc4fbcb16dd7e18eb4b943", func := "quayside/quaysidelaw16.AnalyseTells", spec := "analyseTells", inPlace := ["slices.overlaps[quayside/api.TxnRow]", "slices.overlaps[quayside/api.DirtyRow]"], unfollowed := true, recurses := true, apart := false }
def AnalyseTellsSaid : Prop := analyseTellsRow.holds Try.pinned (OpenSpec.ofChange analyseTellsSpec)

/-- ITS FALSE NEIGHBOUR: 'it returns false'. Refute it at one input. -/
def analyseTellsWrong : ChangeSpec := { name := "analyseTells", fn := fun _ => fun
  | [d] => { results := [.lit (.bool false)], args := [d] }
  | _ => none }
def AnalyseTellsWrongFalsely : Prop := analyseTellsRow.holds Try.pinned (OpenSpec.ofChange analyseTellsWrong)

/-- 'quaysidelaw16.AnalyseMores': WHATEVER THE INPUT: true; the input reads as it did. -/
def analyseMoresSpec : ChangeSpec := { name := "analyseMores", fn := fun _ => fun
  | [d1, d2, d3, d4] => { results := [.lit (.bool true)], args := [d1, d2, d3, d4] }
  | _ => none }
def analyseMoresRow : OpenClaim := { program := "ythlllmkmpneedaa", sum := "21398a53a3229529fae4b710cca4858a7176bc09b4bc4fbcb16dd7e18eb4b943", func := "quayside/quaysidelaw16.AnalyseMores", spec := "analyseMores", inPlace := ["slices.overlaps[quayside/api.TxnRow]", "slices.overlaps[quayside/api.DirtyRow]"], unfollowed := true, recurses := true, apart := false }
def AnalyseMoresSaid : Prop := analyseMoresRow.holds Try.pinned (OpenSpec.ofChange analyseMoresSpec)

/-- ITS FALSE NEIGHBOUR: 'it returns false'. Refute it at one input. -/
def analyseMoresWrong : ChangeSpec := { name := "analyseMores", fn := fun _ => fun
  | [d1, d2, d3, d4] => { results := [.lit (.bool false)], args := [d1, d2, d3, d4] }
  | _ => none }
def AnalyseMoresWrongFalsely : Prop := analyseMoresRow.holds Try.pinned (OpenSpec.ofChange analyseMoresWrong)

/-- 'quaysidelaw16.AnalyseParts': WHATEVER THE INPUT: true; the input reads as it did. -/
def analysePartsSpec : ChangeSpec := { name := "analyseParts", fn := fun _ => fun
  | [d1, d2] => { results := [.lit (.bool true)], args := [d1, d2] }
  | _ => none }
def analysePartsRow : OpenClaim := { program := "ythlllmkmpneedaa", sum := "21398a53a3229529fae4b710cca4858a7176bc09b4bc4fbcb16dd7e18eb4b943", func := "quayside/quaysidelaw16.AnalyseParts", spec := "analyseParts", inPlace := ["slices.overlaps[quayside/api.TxnRow]", "slices.overlaps[quayside/api.DirtyRow]"], unfollowed := true, recurses := true, apart := false }
def AnalysePartsSaid : Prop := analysePartsRow.holds Try.pinned (OpenSpec.ofChange analysePartsSpec)

/-- ITS FALSE NEIGHBOUR: 'it returns false'. Refute it at one input. -/
def analysePartsWrong : ChangeSpec := { name := "analyseParts", fn := fun _ => fun
  | [d1, d2] => { results := [.lit (.bool false)], args := [d1, d2] }
  | _ => none }
def AnalysePartsWrongFalsely : Prop := analysePartsRow.holds Try.pinned (OpenSpec.ofChange analysePartsWrong)

/-- 'quaysidelaw16.AnalyseSkips': WHATEVER THE INPUT: true; the input reads as it did. -/
def analyseSkipsSpec : ChangeSpec := { name := "analyseSkips", fn := fun _ => fun
  | [d1, d2, d3] => { results := [.lit (.bool true)], args := [d1, d2, d3] }
  | _ => none }
def analyseSkipsRow : OpenClaim := { program := "ythlllmkmpneedaa", sum := "21398a53a3229529fae4b710cca4858a7176bc09b4bc4fbcb16dd7e18eb4b943", func := "quayside/quaysidelaw16.AnalyseSkips", spec := "analyseSkips", inPlace := ["slices.overlaps[quayside/api.TxnRow]", "slices.overlaps[quayside/api.DirtyRow]"], unfollowed := true, recurses := true, apart := false }
def AnalyseSkipsSaid : Prop := analyseSkipsRow.holds Try.pinned (OpenSpec.ofChange analyseSkipsSpec)

/-- ITS FALSE NEIGHBOUR: 'it returns false'. Refute it at one input. -/
def analyseSkipsWrong : ChangeSpec := { name := "analyseSkips", fn := fun _ => fun
  | [d1, d2, d3] => { results := [.lit (.bool false)], args := [d1, d2, d3] }
  | _ => none }
def AnalyseSkipsWrongFalsely : Prop := analyseSkipsRow.holds Try.pinned (OpenSpec.ofChange analyseSkipsWrong)

/-- 'quaysidelaw16.AnalyseLosers': WHATEVER THE INPUT: true; the input reads as it did. -/
def analyseLosersSpec : ChangeSpec := { name := "analyseLosers", fn := fun _ => fun
  | [d1, d2] => { results := [.lit (.bool true)], args := [d1, d2] }
  | _ => none }
def analyseLosersRow : OpenClaim := { program := "ythlllmkmpneedaa", sum := "21398a53a3229529fae4b710cca4858a7176bc09b4bc4fbcb16dd7e18eb4b943", func := "quayside/quaysidelaw16.AnalyseLosers", spec := "analyseLosers", inPlace := ["slices.overlaps[quayside/api.TxnRow]", "slices.overlaps[quayside/api.DirtyRow]"], unfollowed := true, recurses := true, apart := false }
def AnalyseLosersSaid : Prop := analyseLosersRow.holds Try.pinned (OpenSpec.ofChange analyseLosersSpec)

/-- ITS FALSE NEIGHBOUR: 'it returns false'. Refute it at one input. -/
def analyseLosersWrong : ChangeSpec := { name := "analyseLosers", fn := fun _ => fun
  | [d1, d2] => { results := [.lit (.bool false)], args := [d1, d2] }
  | _ => none }
def AnalyseLosersWrongFalsely : Prop := analyseLosersRow.holds Try.pinned (OpenSpec.ofChange analyseLosersWrong)

/-- 'quaysidelaw16.AnalyseKeeps': WHATEVER THE INPUT: true; the input reads as it did. -/
def analyseKeepsSpec : ChangeSpec := { name := "analyseKeeps", fn := fun _ => fun
  | [d] => { results := [.lit (.bool true)], args := [d] }
  | _ => none }
def analyseKeepsRow : OpenClaim := { program := "ythlllmkmpneedaa", sum := "21398a53a3229529fae4b710cca4858a7176bc09b4bc4fbcb16dd7e18eb4b943", func := "quayside/quaysidelaw16.AnalyseKeeps", spec := "analyseKeeps", inPlace := ["slices.overlaps[quayside/api.TxnRow]", "slices.overlaps[quayside/api.DirtyRow]"], unfollowed := true, recurses := true, apart := false }
def AnalyseKeepsSaid : Prop := analyseKeepsRow.holds Try.pinned (OpenSpec.ofChange analyseKeepsSpec)

/-- ITS FALSE NEIGHBOUR: 'it returns false'. Refute it at one input. -/
def analyseKeepsWrong : ChangeSpec := { name := "analyseKeeps", fn := fun _ => fun
  | [d] => { results := [.lit (.bool false)], args := [d] }
  | _ => none }
def AnalyseKeepsWrongFalsely : Prop := analyseKeepsRow.holds Try.pinned (OpenSpec.ofChange analyseKeepsWrong)

/- THE SECOND FORM. 'bulk': how many values and letters a reading holds, each counted each time it is reached (what is shared counts as often as it is met; a slice's spare places count too). A statement '..UptoSaid' is the law's where the arguments, and the package variables that the reading takes, are together of bulk at most 1048576: NARROWER than '..Said'. Prove '..Said' where nothing that the law and all that it calls make is longer than what came in: it says more and counts as full. Else prove '..UptoSaid'. A law counts once. -/
mutual
def uptoBulk {H : Type} : DataW H → Nat
  | .lit (.string bytes) => bytes.length + 1
  | .lit _ => 1
  | .nil => 1
  | .ptr d => uptoBulk d + 1
  | .slice elems spare => uptoBulkAll elems + uptoBulkAll spare + 1
  | .agg parts => uptoBulkAll parts + 1
  | .iface _ d => uptoBulk d + 1
  | .map entries => uptoBulkEntries entries + 1
  | .held _ => 1
def uptoBulkAll {H : Type} : List (DataW H) → Nat
  | [] => 0
  | d :: r => uptoBulk d + uptoBulkAll r
def uptoBulkEntries {H : Type} : List (Lit × DataW H) → Nat
  | [] => 0
  | x :: r => uptoBulkEntry x + uptoBulkEntries r
def uptoBulkEntry {H : Type} : Lit × DataW H → Nat
  | (.string bytes, d) => bytes.length + uptoBulk d + 1
  | (_, d) => uptoBulk d + 1
 end
def uptoSmall : (H : Type) → List (DataW H) → Bool := fun _ ds => decide (uptoBulkAll ds ≤ 1048576)
def OpenSpec.upto (s : _root_.Go.ChangeSpec) : _root_.Go.OpenSpec := { _root_.Go.OpenSpec.ofChange s with cond := some uptoSmall }

/-- 'quaysidelaw16.AnalyseTells', WHERE WHAT IT READS IS OF BULK AT MOST 1048576: true; the input reads as it did. -/
def analyseTellsUptoRow : OpenClaim := { program := "ythlllmkmpneedaa", sum := "21398a53a3229529fae4b710cca4858a7176bc09b4bc4fbcb16dd7e18eb4b943", func := "quayside/quaysidelaw16.AnalyseTells", spec := "analyseTells", inPlace := ["slices.overlaps[quayside/api.TxnRow]", "slices.overlaps[quayside/api.DirtyRow]"], unfollowed := true, recurses := true, apart := false, narrowed := true }
def AnalyseTellsUptoSaid : Prop := analyseTellsUptoRow.holds Try.pinned (OpenSpec.upto analyseTellsSpec)

/-- 'quaysidelaw16.AnalyseMores', WHERE WHAT IT READS IS OF BULK AT MOST 1048576: true; the input reads as it did. -/
def analyseMoresUptoRow : OpenClaim := { program := "ythlllmkmpneedaa", sum := "21398a53a3229529fae4b710cca4858a7176bc09b4bc4fbcb16dd7e18eb4b943", func := "quayside/quaysidelaw16.AnalyseMores", spec := "analyseMores", inPlace := ["slices.overlaps[quayside/api.TxnRow]", "slices.overlaps[quayside/api.DirtyRow]"], unfollowed := true, recurses := true, apart := false, narrowed := true }
def AnalyseMoresUptoSaid : Prop := analyseMoresUptoRow.holds Try.pinned (OpenSpec.upto analyseMoresSpec)

/-- 'quaysidelaw16.AnalyseParts', WHERE WHAT IT READS IS OF BULK AT MOST 1048576: true; the input reads as it did. -/
def analysePartsUptoRow : OpenClaim := { program := "ythlllmkmpneedaa", sum := "21398a53a3229529fae4b710cca4858a7176bc09b4bc4fbcb16dd7e18eb4b943", func := "quayside/quaysidelaw16.AnalyseParts", spec := "analyseParts", inPlace := ["slices.overlaps[quayside/api.TxnRow]", "slices.overlaps[quayside/api.DirtyRow]"], unfollowed := true, recurses := true, apart := false, narrowed := true }
def AnalysePartsUptoSaid : Prop := analysePartsUptoRow.holds Try.pinned (OpenSpec.upto analysePartsSpec)

/-- 'quaysidelaw16.AnalyseSkips', WHERE WHAT IT READS IS OF BULK AT MOST 1048576: true; the input reads as it did. -/
def analyseSkipsUptoRow : OpenClaim := { program := "ythlllmkmpneedaa", sum := "21398a53a3229529fae4b710cca4858a7176bc09b4bc4fbcb16dd7e18eb4b943", func := "quayside/quaysidelaw16.AnalyseSkips", spec := "analyseSkips", inPlace := ["slices.overlaps[quayside/api.TxnRow]", "slices.overlaps[quayside/api.DirtyRow]"], unfollowed := true, recurses := true, apart := false, narrowed := true }
def AnalyseSkipsUptoSaid : Prop := analyseSkipsUptoRow.holds Try.pinned (OpenSpec.upto analyseSkipsSpec)

/-- 'quaysidelaw16.AnalyseLosers', WHERE WHAT IT READS IS OF BULK AT MOST 1048576: true; the input reads as it did. -/
def analyseLosersUptoRow : OpenClaim := { program := "ythlllmkmpneedaa", sum := "21398a53a3229529fae4b710cca4858a7176bc09b4bc4fbcb16dd7e18eb4b943", func := "quayside/quaysidelaw16.AnalyseLosers", spec := "analyseLosers", inPlace := ["slices.overlaps[quayside/api.TxnRow]", "slices.overlaps[quayside/api.DirtyRow]"], unfollowed := true, recurses := true, apart := false, narrowed := true }
def AnalyseLosersUptoSaid : Prop := analyseLosersUptoRow.holds Try.pinned (OpenSpec.upto analyseLosersSpec)

/-- 'quaysidelaw16.AnalyseKeeps', WHERE WHAT IT READS IS OF BULK AT MOST 1048576: true; the input reads as it did. -/
def analyseKeepsUptoRow : OpenClaim := { program := "ythlllmkmpneedaa", sum := "21398a53a3229529fae4b710cca4858a7176bc09b4bc4fbcb16dd7e18eb4b943", func := "quayside/quaysidelaw16.AnalyseKeeps", spec := "analyseKeeps", inPlace := ["slices.overlaps[quayside/api.TxnRow]", "slices.overlaps[quayside/api.DirtyRow]"], unfollowed := true, recurses := true, apart := false, narrowed := true }
def AnalyseKeepsUptoSaid : Prop := analyseKeepsUptoRow.holds Try.pinned (OpenSpec.upto analyseKeepsSpec)

end Rows
end Go.Proofs.Ythlllmkmpneedaa
