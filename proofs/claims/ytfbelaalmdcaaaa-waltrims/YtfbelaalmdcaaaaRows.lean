/-
  No cell of these rows narrows 'for every input' (looked for: loops, veiled, ifaces, maps, wideKeys, modest, calm, conditions, laid).
  DERIVED. THE GIVEN ROWS OF THIS SEAT. 4 by the template 'for every input the law returns true; each argument reads behind the call as it read before'; 0 by the template 'total and deterministic' (their statements: YtfbelaalmdcaaaaTotals.lean).
  GIVEN WITH THE SEED: the statements are not yours to turn. If you find one false, say at which input.
  Laid BY PROGRAM, IN A SANDBOX (cutbox-rows.mjs): the forced cells as the released guide's own fill.sh prints them over the translation 994ec4db6029895f… (all of the seat's roots in one cut). By AI agents, Wed Nov 11 2026. No macro, syntax, notation, axiom, sorry.
-/
import Derived.Test.YtfbelaalmdcaaaaChecked
import GoSem.Claim
import GoSem.ClaimJoined
import GoSem.ClaimMapViews
import Derived.JoinedTies
import Derived.KernelRfl
namespace Go.Proofs.Ytfbelaalmdcaaaa
/- THE CELL 'sum', in the pinned program and in every row, IS THE sha256 OF THE DUMP (.gsa) THAT YtfbelaalmdcaaaaProg.lean LOADS. Nothing in Lean hashes anything: it is a label: what it is worth is what the hold of that sum in a sandbox is worth. -/
noncomputable def Try.pinned : Pinned := { name := "ytfbelaalmdcaaaa", sum := "994ec4db6029895f356da5960a8d3eb58783773b685bbc9cb2debcf1d844561b", checked := Try.checked }
namespace Rows
def none {H : Type} : Left H := { results := [], args := [] }

/-- 'quaysidelaw09.WalCrashes': WHATEVER THE INPUT: true; the input reads as it did. -/
def walCrashesSpec : ChangeSpec := { name := "walCrashes", fn := fun _ => fun
  | [d1, d2, d3] => { results := [.lit (.bool true)], args := [d1, d2, d3] }
  | _ => none }
def walCrashesRow : OpenClaim := { program := "ytfbelaalmdcaaaa", sum := "994ec4db6029895f356da5960a8d3eb58783773b685bbc9cb2debcf1d844561b", func := "quayside/quaysidelaw09.WalCrashes", spec := "walCrashes", unfollowed := true, recurses := true, apart := false }
def WalCrashesSaid : Prop := walCrashesRow.holds Try.pinned (OpenSpec.ofChange walCrashesSpec)

/-- ITS FALSE NEIGHBOUR: 'it returns false'. Refute it at one input. -/
def walCrashesWrong : ChangeSpec := { name := "walCrashes", fn := fun _ => fun
  | [d1, d2, d3] => { results := [.lit (.bool false)], args := [d1, d2, d3] }
  | _ => none }
def WalCrashesWrongFalsely : Prop := walCrashesRow.holds Try.pinned (OpenSpec.ofChange walCrashesWrong)

/-- 'quaysidelaw09.WalHolds': WHATEVER THE INPUT: true; the input reads as it did. -/
def walHoldsSpec : ChangeSpec := { name := "walHolds", fn := fun _ => fun
  | [d1, d2] => { results := [.lit (.bool true)], args := [d1, d2] }
  | _ => none }
def walHoldsRow : OpenClaim := { program := "ytfbelaalmdcaaaa", sum := "994ec4db6029895f356da5960a8d3eb58783773b685bbc9cb2debcf1d844561b", func := "quayside/quaysidelaw09.WalHolds", spec := "walHolds", unfollowed := true, recurses := true, apart := false }
def WalHoldsSaid : Prop := walHoldsRow.holds Try.pinned (OpenSpec.ofChange walHoldsSpec)

/-- ITS FALSE NEIGHBOUR: 'it returns false'. Refute it at one input. -/
def walHoldsWrong : ChangeSpec := { name := "walHolds", fn := fun _ => fun
  | [d1, d2] => { results := [.lit (.bool false)], args := [d1, d2] }
  | _ => none }
def WalHoldsWrongFalsely : Prop := walHoldsRow.holds Try.pinned (OpenSpec.ofChange walHoldsWrong)

/-- 'quaysidelaw09.WalRises': WHATEVER THE INPUT: true; the input reads as it did. -/
def walRisesSpec : ChangeSpec := { name := "walRises", fn := fun _ => fun
  | [d1, d2] => { results := [.lit (.bool true)], args := [d1, d2] }
  | _ => none }
def walRisesRow : OpenClaim := { program := "ytfbelaalmdcaaaa", sum := "994ec4db6029895f356da5960a8d3eb58783773b685bbc9cb2debcf1d844561b", func := "quayside/quaysidelaw09.WalRises", spec := "walRises", unfollowed := true, recurses := true, apart := false }
def WalRisesSaid : Prop := walRisesRow.holds Try.pinned (OpenSpec.ofChange walRisesSpec)

/-- ITS FALSE NEIGHBOUR: 'it returns false'. Refute it at one input. -/
def walRisesWrong : ChangeSpec := { name := "walRises", fn := fun _ => fun
  | [d1, d2] => { results := [.lit (.bool false)], args := [d1, d2] }
  | _ => none }
def WalRisesWrongFalsely : Prop := walRisesRow.holds Try.pinned (OpenSpec.ofChange walRisesWrong)

/-- 'quaysidelaw09.WalTrims': WHATEVER THE INPUT: true; the input reads as it did. -/
def walTrimsSpec : ChangeSpec := { name := "walTrims", fn := fun _ => fun
  | [d1, d2] => { results := [.lit (.bool true)], args := [d1, d2] }
  | _ => none }
def walTrimsRow : OpenClaim := { program := "ytfbelaalmdcaaaa", sum := "994ec4db6029895f356da5960a8d3eb58783773b685bbc9cb2debcf1d844561b", func := "quayside/quaysidelaw09.WalTrims", spec := "walTrims", unfollowed := true, recurses := true, apart := false }
def WalTrimsSaid : Prop := walTrimsRow.holds Try.pinned (OpenSpec.ofChange walTrimsSpec)

/-- ITS FALSE NEIGHBOUR: 'it returns false'. Refute it at one input. -/
def walTrimsWrong : ChangeSpec := { name := "walTrims", fn := fun _ => fun
  | [d1, d2] => { results := [.lit (.bool false)], args := [d1, d2] }
  | _ => none }
def WalTrimsWrongFalsely : Prop := walTrimsRow.holds Try.pinned (OpenSpec.ofChange walTrimsWrong)

/- THE SECOND FORM. 'bulk': how many values and letters a reading holds, each counted each time it is reached (what is shared counts as often as it is met; a slice's spare places count too). A statement '..UptoSaid' is the law's where the arguments, and the package variables that the reading takes, are together of bulk at most 1048576: NARROWER than '..Said'. Prove '..Said' where nothing that the law and all that it calls make is longer than what came in: it says more and counts as full. Else prove '..UptoSaid'. A law counts once. -/
mutual
def uptoBulk {H : Type} : DataW H → Nat
  | .lit (.string bytes) => bytes.length + 1
  | .lit _ => 1
  | .nil => 1
  | .ptr d => uptoBulk d + 1
  | .slice elems spare => uptoBulkAll elems + uptoBulkAll spare + 1
  | .agg parts => uptoBulkAll parts + 1
  | .iface _ d => uptoBulk d + 1
  | .map entries => uptoBulkEntries entries + 1
  | .held _ => 1
def uptoBulkAll {H : Type} : List (DataW H) → Nat
  | [] => 0
  | d :: r => uptoBulk d + uptoBulkAll r
def uptoBulkEntries {H : Type} : List (Lit × DataW H) → Nat
  | [] => 0
  | x :: r => uptoBulkEntry x + uptoBulkEntries r
def uptoBulkEntry {H : Type} : Lit × DataW H → Nat
  | (.string bytes, d) => bytes.length + uptoBulk d + 1
  | (_, d) => uptoBulk d + 1
 end
def uptoSmall : (H : Type) → List (DataW H) → Bool := fun _ ds => decide (uptoBulkAll ds ≤ 1048576)
def OpenSpec.upto (s : _root_.Go.ChangeSpec) : _root_.Go.OpenSpec := { _root_.Go.OpenSpec.ofChange s with cond := some uptoSmall }

/-- 'quaysidelaw09.WalCrashes', WHERE WHAT IT READS IS OF BULK AT MOST 1048576: true; the input reads as it did. -/
def walCrashesUptoRow : OpenClaim := { program := "ytfbelaalmdcaaaa", sum := "994ec4db6029895f356da5960a8d3eb58783773b685bbc9cb2debcf1d844561b", func := "quayside/quaysidelaw09.WalCrashes", spec := "walCrashes", unfollowed := true, recurses := true, apart := false, narrowed := true }
def WalCrashesUptoSaid : Prop := walCrashesUptoRow.holds Try.pinned (OpenSpec.upto walCrashesSpec)

/-- 'quaysidelaw09.WalHolds', WHERE WHAT IT READS IS OF BULK AT MOST 1048576: true; the input reads as it did. -/
def walHoldsUptoRow : OpenClaim := { program := "ytfbelaalmdcaaaa", sum := "994ec4db6029895f356da5960a8d3eb58783773b685bbc9cb2debcf1d844561b", func := "quayside/quaysidelaw09.WalHolds", spec := "walHolds", unfollowed := true, recurses := true, apart := false, narrowed := true }
def WalHoldsUptoSaid : Prop := walHoldsUptoRow.holds Try.pinned (OpenSpec.upto walHoldsSpec)

/-- 'quaysidelaw09.WalRises', WHERE WHAT IT READS IS OF BULK AT MOST 1048576: true; the input reads as it did. -/
def walRisesUptoRow : OpenClaim := { program := "ytfbelaalmdcaaaa", sum := "994ec4db6029895f356da5960a8d3eb58783773b685bbc9cb2debcf1d844561b", func := "quayside/quaysidelaw09.WalRises", spec := "walRises", unfollowed := true, recurses := true, apart := false, narrowed := true }
def WalRisesUptoSaid : Prop := walRisesUptoRow.holds Try.pinned (OpenSpec.upto walRisesSpec)

/-- 'quaysidelaw09.WalTrims', WHERE WHAT IT READS IS OF BULK AT MOST 1048576: true; the input reads as it did. -/
def walTrimsUptoRow : OpenClaim := { program := "ytfbelaalmdcaaaa", sum := "994ec4db6029895f356da5960a8d3eb58783773b685bbc9cb2debcf1d844561b", func := "quayside/quaysidelaw09.WalTrims", spec := "walTrims", unfollowed := true, recurses := true, apart := false, narrowed := true }
def WalTrimsUptoSaid : Prop := walTrimsUptoRow.holds Try.pinned (OpenSpec.upto walTrimsSpec)

end Rows
end Go.Proofs.Ytfbelaalmdcaaaa
