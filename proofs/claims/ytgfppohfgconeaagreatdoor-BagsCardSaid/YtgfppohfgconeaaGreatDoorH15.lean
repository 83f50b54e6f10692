/-
  What the claim stands on, part 15.
-/
import Derived.Test.YtgfppohfgconeaaGreatDoorH11
set_option linter.unusedVariables false
set_option linter.unusedSimpArgs false
namespace Go.AM
set_option maxRecDepth 1000000
open Go Go.Conc Go.Proofs
theorem aaG:qj 9=true:=aU
theorem Wp:qj 10=true:=aU
theorem Wo:qj 11=true:=aU
end Go.AM
