/-
  What the claim stands on, part 20.
-/
import Derived.Test.YtgfppohfgconeaaGreatDoorP10
set_option linter.unusedVariables false
set_option linter.unusedSimpArgs false
namespace Go.AM
set_option maxRecDepth 1000000
open Go Go.Conc Go.Proofs
theorem abJ:(aS 1 0).fact=true:=aM
theorem abI:(aS 1 1).fact=true:=aM
theorem abH:(aS 1 2).fact=true:=aM
theorem abG:(aS 1 3).fact=true:=aM
theorem abF:(aS 1 4).fact=true:=aM
theorem abE:(aS 1 5).fact=true:=aM
theorem abD:(aS 1 6).fact=true:=aM
theorem abC:(aS 1 7).fact=true:=aM
theorem abB:(aS 1 8).fact=true:=aM
theorem abA:(aS 1 9).fact=true:=aM
theorem Ve:(aS 1 10).fact=true:=aM
theorem Vd:(aS 1 11).fact=true:=aM
end Go.AM
