/-
  The contract of quaysideref06.Decode.
-/
import Derived.Test.YtmapgfakfeddmaaRecRefDecE
import Derived.Test.YtmapgfakfeddmaaRecRefDec1
import Derived.Test.YtmapgfakfeddmaaRecRefDec2
import Derived.Test.YtmapgfakfeddmaaRecRefDec6
import Derived.Test.YtmapgfakfeddmaaRecRefDec8
import Derived.Test.YtmapgfakfeddmaaRecRefDecB
import Derived.Test.YtmapgfakfeddmaaRecRefDecS
namespace Go.Proofs.Ytmapgfakfeddmaa
open Go.RowKit
set_option linter.unusedVariables false

/-- THE CONTRACT. -/
theorem rdec_any (b : ByteArray) (w : World) (hb : b.size ≤ 140737488355328) :
    Calls Try.prog 16 #[.string b] w fun e w' => Ans w b.data.toList e w' := by
  by_cases he : (pNum 1 (⟨b.data.toList, 0⟩ : St)).2.e = 0
  · by_cases hk : (pNum 1 (⟨b.data.toList, 0⟩ : St)).1 < 1 ∨ 8 < (pNum 1 (⟨b.data.toList, 0⟩ : St)).1
    · exact rdec_bad b w hb ⟨he, hk⟩
    by_cases k1 : (pNum 1 (⟨b.data.toList, 0⟩ : St)).1 = 1
    · exact rdec_1 b w hb ⟨he, k1⟩
    by_cases k2 : (pNum 1 (⟨b.data.toList, 0⟩ : St)).1 = 2
    · exact rdec_2 b w hb ⟨he, k2⟩
    by_cases k6 : (pNum 1 (⟨b.data.toList, 0⟩ : St)).1 = 6
    · exact rdec_6 b w hb ⟨he, k6⟩
    by_cases k8 : (pNum 1 (⟨b.data.toList, 0⟩ : St)).1 = 8
    · exact rdec_8 b w hb ⟨he, k8⟩
    exact rdec_end b w hb ⟨he, by omega⟩
  · exact rdec_short b w hb he
end Go.Proofs.Ytmapgfakfeddmaa
