/-
  What the claim stands on, part 18.
-/
import Derived.Test.YtgfppohfgconeaaGreatDoorP10
set_option linter.unusedVariables false
set_option linter.unusedSimpArgs false
namespace Go.AM
set_option maxRecDepth 1000000
open Go Go.Conc Go.Proofs
theorem afu:rO 9=true:=aM
theorem abV:rO 10=true:=aM
theorem abU:rO 11=true:=aM
end Go.AM
