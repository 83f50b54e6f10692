/-
  What the claim stands on, part 16.
-/
import Derived.Test.YtgfppohfgconeaaGreatDoorK10
set_option linter.unusedVariables false
set_option linter.unusedSimpArgs false
namespace Go.AM
set_option maxRecDepth 1000000
open Go Go.Conc Go.Proofs
theorem abJ:qn 0=true:=aY
theorem abI:qn 1=true:=aY
theorem abH:qn 2=true:=aY
end Go.AM
