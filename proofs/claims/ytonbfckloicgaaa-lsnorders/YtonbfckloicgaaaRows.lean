/-
  No cell of these rows narrows 'for every input' (looked for: loops, veiled, ifaces, maps, wideKeys, modest, calm, conditions, laid).
  DERIVED. THE GIVEN ROWS OF THIS SEAT. 6 by the template 'for every input the law returns true; each argument reads behind the call as it read before'; 0 by the template 'total and deterministic' (their statements: YtonbfckloicgaaaTotals.lean).
  GIVEN WITH THE SEED: the statements are not yours to turn. If you find one false, say at which input.
  Laid BY PROGRAM, IN A SANDBOX (cutbox-rows.mjs): the forced cells as the released guide's own fill.sh prints them over the translation f6578d452b42708a… (all of the seat's roots in one cut). By AI agents, Wed Nov 11 2026. No macro, syntax, notation, axiom, sorry.
-/
import Derived.Test.YtonbfckloicgaaaChecked
import GoSem.Claim
import GoSem.ClaimJoined
import GoSem.ClaimMapViews
import Derived.JoinedTies
import Derived.KernelRfl
namespace Go.Proofs.Ytonbfckloicgaaa
/- THE CELL 'sum', in the pinned program and in every row, IS THE sha256 OF THE DUMP (.gsa) THAT YtonbfckloicgaaaProg.lean LOADS. Nothing in Lean hashes anything: it is a label: what it is worth is what the hold of that sum in a sandbox is worth. -/
noncomputable def Try.pinned : Pinned := { name := "ytonbfckloicgaaa", sum := "f6578d452b42708a0c9b5f2dd28d1848a283a98a5b0c06bcb17925b1234eec72", checked := Try.checked }
namespace Rows
def none {H : Type} : Left H := { results := [], args := [] }

/-- 'quaysidelaw03.LsnTicks': WHATEVER THE INPUT: true; the input reads as it did. -/
def lsnTicksSpec : ChangeSpec := { name := "lsnTicks", fn := fun _ => fun
  | [d1, d2, d3] => { results := [.lit (.bool true)], args := [d1, d2, d3] }
  | _ => none }
def lsnTicksRow : OpenClaim := { program := "ytonbfckloicgaaa", sum := "f6578d452b42708a0c9b5f2dd28d1848a283a98a5b0c06bcb17925b1234eec72", func := "quayside/quaysidelaw03.LsnTicks", spec := "lsnTicks", apart := false }
def LsnTicksSaid : Prop := lsnTicksRow.holds Try.pinned (OpenSpec.ofChange lsnTicksSpec)

/-- ITS FALSE NEIGHBOUR: 'it returns false'. Refute it at one input. -/
def lsnTicksWrong : ChangeSpec := { name := "lsnTicks", fn := fun _ => fun
  | [d1, d2, d3] => { results := [.lit (.bool false)], args := [d1, d2, d3] }
  | _ => none }
def LsnTicksWrongFalsely : Prop := lsnTicksRow.holds Try.pinned (OpenSpec.ofChange lsnTicksWrong)

/-- 'quaysidelaw03.LsnRises': WHATEVER THE INPUT: true; the input reads as it did. -/
def lsnRisesSpec : ChangeSpec := { name := "lsnRises", fn := fun _ => fun
  | [d1, d2] => { results := [.lit (.bool true)], args := [d1, d2] }
  | _ => none }
def lsnRisesRow : OpenClaim := { program := "ytonbfckloicgaaa", sum := "f6578d452b42708a0c9b5f2dd28d1848a283a98a5b0c06bcb17925b1234eec72", func := "quayside/quaysidelaw03.LsnRises", spec := "lsnRises", apart := false }
def LsnRisesSaid : Prop := lsnRisesRow.holds Try.pinned (OpenSpec.ofChange lsnRisesSpec)

/-- ITS FALSE NEIGHBOUR: 'it returns false'. Refute it at one input. -/
def lsnRisesWrong : ChangeSpec := { name := "lsnRises", fn := fun _ => fun
  | [d1, d2] => { results := [.lit (.bool false)], args := [d1, d2] }
  | _ => none }
def LsnRisesWrongFalsely : Prop := lsnRisesRow.holds Try.pinned (OpenSpec.ofChange lsnRisesWrong)

/-- 'quaysidelaw03.LsnTwo': WHATEVER THE INPUT: true; the input reads as it did. -/
def lsnTwoSpec : ChangeSpec := { name := "lsnTwo", fn := fun _ => fun
  | [d1, d2, d3] => { results := [.lit (.bool true)], args := [d1, d2, d3] }
  | _ => none }
def lsnTwoRow : OpenClaim := { program := "ytonbfckloicgaaa", sum := "f6578d452b42708a0c9b5f2dd28d1848a283a98a5b0c06bcb17925b1234eec72", func := "quayside/quaysidelaw03.LsnTwo", spec := "lsnTwo", apart := false }
def LsnTwoSaid : Prop := lsnTwoRow.holds Try.pinned (OpenSpec.ofChange lsnTwoSpec)

/-- ITS FALSE NEIGHBOUR: 'it returns false'. Refute it at one input. -/
def lsnTwoWrong : ChangeSpec := { name := "lsnTwo", fn := fun _ => fun
  | [d1, d2, d3] => { results := [.lit (.bool false)], args := [d1, d2, d3] }
  | _ => none }
def LsnTwoWrongFalsely : Prop := lsnTwoRow.holds Try.pinned (OpenSpec.ofChange lsnTwoWrong)

/-- 'quaysidelaw03.LsnOrders': WHATEVER THE INPUT: true; the input reads as it did. -/
def lsnOrdersSpec : ChangeSpec := { name := "lsnOrders", fn := fun _ => fun
  | [d1, d2, d3, d4, d5, d6] => { results := [.lit (.bool true)], args := [d1, d2, d3, d4, d5, d6] }
  | _ => none }
def lsnOrdersRow : OpenClaim := { program := "ytonbfckloicgaaa", sum := "f6578d452b42708a0c9b5f2dd28d1848a283a98a5b0c06bcb17925b1234eec72", func := "quayside/quaysidelaw03.LsnOrders", spec := "lsnOrders", apart := false }
def LsnOrdersSaid : Prop := lsnOrdersRow.holds Try.pinned (OpenSpec.ofChange lsnOrdersSpec)

/-- ITS FALSE NEIGHBOUR: 'it returns false'. Refute it at one input. -/
def lsnOrdersWrong : ChangeSpec := { name := "lsnOrders", fn := fun _ => fun
  | [d1, d2, d3, d4, d5, d6] => { results := [.lit (.bool false)], args := [d1, d2, d3, d4, d5, d6] }
  | _ => none }
def LsnOrdersWrongFalsely : Prop := lsnOrdersRow.holds Try.pinned (OpenSpec.ofChange lsnOrdersWrong)

/-- 'quaysidelaw03.LsnLists': WHATEVER THE INPUT: true; the input reads as it did. -/
def lsnListsSpec : ChangeSpec := { name := "lsnLists", fn := fun _ => fun
  | [d1, d2] => { results := [.lit (.bool true)], args := [d1, d2] }
  | _ => none }
def lsnListsRow : OpenClaim := { program := "ytonbfckloicgaaa", sum := "f6578d452b42708a0c9b5f2dd28d1848a283a98a5b0c06bcb17925b1234eec72", func := "quayside/quaysidelaw03.LsnLists", spec := "lsnLists", apart := false }
def LsnListsSaid : Prop := lsnListsRow.holds Try.pinned (OpenSpec.ofChange lsnListsSpec)

/-- ITS FALSE NEIGHBOUR: 'it returns false'. Refute it at one input. -/
def lsnListsWrong : ChangeSpec := { name := "lsnLists", fn := fun _ => fun
  | [d1, d2] => { results := [.lit (.bool false)], args := [d1, d2] }
  | _ => none }
def LsnListsWrongFalsely : Prop := lsnListsRow.holds Try.pinned (OpenSpec.ofChange lsnListsWrong)

/-- 'quaysidelaw03.LsnNil': WHATEVER THE INPUT: true; the input reads as it did. -/
def lsnNilSpec : ChangeSpec := { name := "lsnNil", fn := fun _ => fun
  | [d] => { results := [.lit (.bool true)], args := [d] }
  | _ => none }
def lsnNilRow : OpenClaim := { program := "ytonbfckloicgaaa", sum := "f6578d452b42708a0c9b5f2dd28d1848a283a98a5b0c06bcb17925b1234eec72", func := "quayside/quaysidelaw03.LsnNil", spec := "lsnNil", apart := false }
def LsnNilSaid : Prop := lsnNilRow.holds Try.pinned (OpenSpec.ofChange lsnNilSpec)

/-- ITS FALSE NEIGHBOUR: 'it returns false'. Refute it at one input. -/
def lsnNilWrong : ChangeSpec := { name := "lsnNil", fn := fun _ => fun
  | [d] => { results := [.lit (.bool false)], args := [d] }
  | _ => none }
def LsnNilWrongFalsely : Prop := lsnNilRow.holds Try.pinned (OpenSpec.ofChange lsnNilWrong)

/- THE SECOND FORM. 'bulk': how many values and letters a reading holds, each counted each time it is reached (what is shared counts as often as it is met; a slice's spare places count too). A statement '..UptoSaid' is the law's where the arguments, and the package variables that the reading takes, are together of bulk at most 1048576: NARROWER than '..Said'. Prove '..Said' where nothing that the law and all that it calls make is longer than what came in: it says more and counts as full. Else prove '..UptoSaid'. A law counts once. -/
mutual
def uptoBulk {H : Type} : DataW H → Nat
  | .lit (.string bytes) => bytes.length + 1
  | .lit _ => 1
  | .nil => 1
  | .ptr d => uptoBulk d + 1
  | .slice elems spare => uptoBulkAll elems + uptoBulkAll spare + 1
  | .agg parts => uptoBulkAll parts + 1
  | .iface _ d => uptoBulk d + 1
  | .map entries => uptoBulkEntries entries + 1
  | .held _ => 1
def uptoBulkAll {H : Type} : List (DataW H) → Nat
  | [] => 0
  | d :: r => uptoBulk d + uptoBulkAll r
def uptoBulkEntries {H : Type} : List (Lit × DataW H) → Nat
  | [] => 0
  | x :: r => uptoBulkEntry x + uptoBulkEntries r
def uptoBulkEntry {H : Type} : Lit × DataW H → Nat
  | (.string bytes, d) => bytes.length + uptoBulk d + 1
  | (_, d) => uptoBulk d + 1
 end
def uptoSmall : (H : Type) → List (DataW H) → Bool := fun _ ds => decide (uptoBulkAll ds ≤ 1048576)
def OpenSpec.upto (s : _root_.Go.ChangeSpec) : _root_.Go.OpenSpec := { _root_.Go.OpenSpec.ofChange s with cond := some uptoSmall }

/-- 'quaysidelaw03.LsnTicks', WHERE WHAT IT READS IS OF BULK AT MOST 1048576: true; the input reads as it did. -/
def lsnTicksUptoRow : OpenClaim := { program := "ytonbfckloicgaaa", sum := "f6578d452b42708a0c9b5f2dd28d1848a283a98a5b0c06bcb17925b1234eec72", func := "quayside/quaysidelaw03.LsnTicks", spec := "lsnTicks", apart := false, narrowed := true }
def LsnTicksUptoSaid : Prop := lsnTicksUptoRow.holds Try.pinned (OpenSpec.upto lsnTicksSpec)

/-- 'quaysidelaw03.LsnRises', WHERE WHAT IT READS IS OF BULK AT MOST 1048576: true; the input reads as it did. -/
def lsnRisesUptoRow : OpenClaim := { program := "ytonbfckloicgaaa", sum := "f6578d452b42708a0c9b5f2dd28d1848a283a98a5b0c06bcb17925b1234eec72", func := "quayside/quaysidelaw03.LsnRises", spec := "lsnRises", apart := false, narrowed := true }
def LsnRisesUptoSaid : Prop := lsnRisesUptoRow.holds Try.pinned (OpenSpec.upto lsnRisesSpec)

/-- 'quaysidelaw03.LsnTwo', WHERE WHAT IT READS IS OF BULK AT MOST 1048576: true; the input reads as it did. -/
def lsnTwoUptoRow : OpenClaim := { program := "ytonbfckloicgaaa", sum := "f6578d452b42708a0c9b5f2dd28d1848a283a98a5b0c06bcb17925b1234eec72", func := "quayside/quaysidelaw03.LsnTwo", spec := "lsnTwo", apart := false, narrowed := true }
def LsnTwoUptoSaid : Prop := lsnTwoUptoRow.holds Try.pinned (OpenSpec.upto lsnTwoSpec)

/-- 'quaysidelaw03.LsnOrders', WHERE WHAT IT READS IS OF BULK AT MOST 1048576: true; the input reads as it did. -/
def lsnOrdersUptoRow : OpenClaim := { program := "ytonbfckloicgaaa", sum := "f6578d452b42708a0c9b5f2dd28d1848a283a98a5b0c06bcb17925b1234eec72", func := "quayside/quaysidelaw03.LsnOrders", spec := "lsnOrders", apart := false, narrowed := true }
def LsnOrdersUptoSaid : Prop := lsnOrdersUptoRow.holds Try.pinned (OpenSpec.upto lsnOrdersSpec)

/-- 'quaysidelaw03.LsnLists', WHERE WHAT IT READS IS OF BULK AT MOST 1048576: true; the input reads as it did. -/
def lsnListsUptoRow : OpenClaim := { program := "ytonbfckloicgaaa", sum := "f6578d452b42708a0c9b5f2dd28d1848a283a98a5b0c06bcb17925b1234eec72", func := "quayside/quaysidelaw03.LsnLists", spec := "lsnLists", apart := false, narrowed := true }
def LsnListsUptoSaid : Prop := lsnListsUptoRow.holds Try.pinned (OpenSpec.upto lsnListsSpec)

/-- 'quaysidelaw03.LsnNil', WHERE WHAT IT READS IS OF BULK AT MOST 1048576: true; the input reads as it did. -/
def lsnNilUptoRow : OpenClaim := { program := "ytonbfckloicgaaa", sum := "f6578d452b42708a0c9b5f2dd28d1848a283a98a5b0c06bcb17925b1234eec72", func := "quayside/quaysidelaw03.LsnNil", spec := "lsnNil", apart := false, narrowed := true }
def LsnNilUptoSaid : Prop := lsnNilUptoRow.holds Try.pinned (OpenSpec.upto lsnNilSpec)

end Rows
end Go.Proofs.Ytonbfckloicgaaa
