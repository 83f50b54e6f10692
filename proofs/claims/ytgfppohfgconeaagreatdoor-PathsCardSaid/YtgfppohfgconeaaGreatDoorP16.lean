/-
  What the claim stands on, part 16.
-/
import Derived.Test.YtgfppohfgconeaaGreatDoorP10
set_option linter.unusedVariables false
set_option linter.unusedSimpArgs false
namespace Go.AM
set_option maxRecDepth 1000000
open Go Go.Conc Go.Proofs
theorem afA:rO 3=true:=aM
theorem afz:rO 4=true:=aM
theorem afy:rO 5=true:=aM
end Go.AM
