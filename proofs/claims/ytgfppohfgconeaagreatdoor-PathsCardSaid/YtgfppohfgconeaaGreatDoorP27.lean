/-
  What the claim stands on, part 27.
-/
import Derived.Test.YtgfppohfgconeaaGreatDoorP10
set_option linter.unusedVariables false
set_option linter.unusedSimpArgs false
namespace Go.AM
set_option maxRecDepth 1000000
open Go Go.Conc Go.Proofs
theorem aaA:(aS 8 0).fact=true:=aM
theorem aaz:(aS 8 1).fact=true:=aM
theorem aay:(aS 8 2).fact=true:=aM
theorem aax:(aS 8 3).fact=true:=aM
theorem aaw:(aS 8 4).fact=true:=aM
theorem aav:(aS 8 5).fact=true:=aM
theorem aau:(aS 8 6).fact=true:=aM
theorem aat:(aS 8 7).fact=true:=aM
theorem aas:(aS 8 8).fact=true:=aM
theorem aar:(aS 8 9).fact=true:=aM
theorem U0:(aS 8 10).fact=true:=aM
theorem UZ:(aS 8 11).fact=true:=aM
end Go.AM
