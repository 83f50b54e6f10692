/-
  What the claim stands on, part 15.
-/
import Derived.Test.YtgfppohfgconeaaGreatDoorP10
set_option linter.unusedVariables false
set_option linter.unusedSimpArgs false
namespace Go.AM
set_option maxRecDepth 1000000
open Go Go.Conc Go.Proofs
theorem afD:rO 0=true:=aM
theorem afC:rO 1=true:=aM
theorem afB:rO 2=true:=aM
end Go.AM
