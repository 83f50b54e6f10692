/-
  What the claim stands on, part 18.
-/
import Derived.Test.YtgfppohfgconeaaGreatDoorK10
set_option linter.unusedVariables false
set_option linter.unusedSimpArgs false
namespace Go.AM
set_option maxRecDepth 1000000
open Go Go.Conc Go.Proofs
theorem abD:qn 6=true:=aY
theorem abC:qn 7=true:=aY
theorem abB:qn 8=true:=aY
end Go.AM
