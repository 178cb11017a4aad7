/-
  Texts that lean on one another, one behind the other: each opens with its own remark.
-/
import Derived.Test.YtohdmmfmjadipabK01

namespace Go.Proofs.Ytohdmmfmjadipab
open Go.RowKit
set_option linter.unusedVariables false
set_option maxRecDepth 8000
set_option maxHeartbeats 25600000
theorem bne_yes {a b : Int} (h : ¬ a = b) : (a != b) = true := by rw [bne, Qkf h]; rfl
theorem bne_no {a b : Int} (h : a = b) : (a != b) = false := by rw [bne, Qyd h]; rfl
def Rec.flat (a b : Rec) : Prop := a.k = b.k /\ a.l = b.l /\ a.t = b.t /\ a.p = b.p /\ a.c = b.c /\ a.n = b.n /\ a.s = b.s /\ a.b = b.b
end Go.Proofs.Ytohdmmfmjadipab
