/-
  What the claim stands on, part 14.
-/
import Derived.Test.YtgfppohfgconeaaGreatDoorH11
set_option linter.unusedVariables false
set_option linter.unusedSimpArgs false
namespace Go.AM
set_option maxRecDepth 1000000
open Go Go.Conc Go.Proofs
theorem aaJ:qj 6=true:=aU
theorem aaI:qj 7=true:=aU
theorem aaH:qj 8=true:=aU
end Go.AM
