/-
  What the claim stands on, part 12.
-/
import Derived.Test.YtgfppohfgconeaaGreatDoorH11
set_option linter.unusedVariables false
set_option linter.unusedSimpArgs false
namespace Go.AM
set_option maxRecDepth 1000000
open Go Go.Conc Go.Proofs
theorem aaP:qj 0=true:=aU
theorem aaO:qj 1=true:=aU
theorem aaN:qj 2=true:=aU
end Go.AM
