/-
  What the claim stands on, part 17.
-/
import Derived.Test.YtgfppohfgconeaaGreatDoorP10
set_option linter.unusedVariables false
set_option linter.unusedSimpArgs false
namespace Go.AM
set_option maxRecDepth 1000000
open Go Go.Conc Go.Proofs
theorem afx:rO 6=true:=aM
theorem afw:rO 7=true:=aM
theorem afv:rO 8=true:=aM
end Go.AM
