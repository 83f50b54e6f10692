/-
  What the claim stands on, part 22.
-/
import Derived.Test.YtgfppohfgconeaaGreatDoorP10
set_option linter.unusedVariables false
set_option linter.unusedSimpArgs false
namespace Go.AM
set_option maxRecDepth 1000000
open Go Go.Conc Go.Proofs
theorem abo:(aS 3 0).fact=true:=aM
theorem abn:(aS 3 1).fact=true:=aM
theorem abm:(aS 3 2).fact=true:=aM
theorem abl:(aS 3 3).fact=true:=aM
theorem abk:(aS 3 4).fact=true:=aM
theorem abj:(aS 3 5).fact=true:=aM
theorem abi:(aS 3 6).fact=true:=aM
theorem abh:(aS 3 7).fact=true:=aM
theorem abg:(aS 3 8).fact=true:=aM
theorem abf:(aS 3 9).fact=true:=aM
theorem U':(aS 3 10).fact=true:=aM
theorem U9:(aS 3 11).fact=true:=aM
end Go.AM
