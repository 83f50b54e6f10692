/-
  What the claim stands on, part 19.
-/
import Derived.Test.YtgfppohfgconeaaGreatDoorK10
set_option linter.unusedVariables false
set_option linter.unusedSimpArgs false
namespace Go.AM
set_option maxRecDepth 1000000
open Go Go.Conc Go.Proofs
theorem abA:qn 9=true:=aY
theorem XZ:qn 10=true:=aY
theorem XY:qn 11=true:=aY
end Go.AM
