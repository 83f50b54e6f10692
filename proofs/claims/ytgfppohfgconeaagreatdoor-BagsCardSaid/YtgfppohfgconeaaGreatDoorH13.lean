/-
  What the claim stands on, part 13.
-/
import Derived.Test.YtgfppohfgconeaaGreatDoorH11
set_option linter.unusedVariables false
set_option linter.unusedSimpArgs false
namespace Go.AM
set_option maxRecDepth 1000000
open Go Go.Conc Go.Proofs
theorem aaM:qj 3=true:=aU
theorem aaL:qj 4=true:=aU
theorem aaK:qj 5=true:=aU
end Go.AM
