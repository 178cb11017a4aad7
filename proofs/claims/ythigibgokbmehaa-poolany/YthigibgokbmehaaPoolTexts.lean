/-
  What a call of a script does to a pool. Of no program.
-/
import Derived.Test.YthigibgokbmehaaPoolMath
namespace Go.Proofs.Ythigibgokbmehaa
open Go.RowKit
set_option linter.unusedVariables false

def Po.did (p : Po) (k i : Int) (x : Value) (n : Int) : Po := if k = 1 then p.get i else if k = 2 then p.put i x else if k = 3 then p.setP i x n else if k = 4 then p.clean i else if k = 5 then p.fix i else if k = 6 then p.unfix i else if k = 7 then p.vic.1 else if k = 8 then p.drop i else p
def Po.didI (p : Po) (k : Int) : Int := if k = 7 then p.vicI else 0
def Po.didE (p : Po) (k i : Int) : Int := if k = 2 then p.putE i else if k = 3 then p.noE i else if k = 4 then p.noE i else if k = 5 then p.noE i else if k = 6 then p.unfixE i else if k = 7 then p.vicE else if k = 8 then p.dropE i else 0
end Go.Proofs.Ythigibgokbmehaa
