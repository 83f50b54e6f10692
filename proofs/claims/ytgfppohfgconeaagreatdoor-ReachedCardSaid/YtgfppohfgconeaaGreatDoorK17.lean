/-
  What the claim stands on, part 17.
-/
import Derived.Test.YtgfppohfgconeaaGreatDoorK10
set_option linter.unusedVariables false
set_option linter.unusedSimpArgs false
namespace Go.AM
set_option maxRecDepth 1000000
open Go Go.Conc Go.Proofs
theorem abG:qn 3=true:=aY
theorem abF:qn 4=true:=aY
theorem abE:qn 5=true:=aY
end Go.AM
