/-
  What the claim stands on, part 23.
-/
import Derived.Test.YtgfppohfgconeaaGreatDoorP10
set_option linter.unusedVariables false
set_option linter.unusedSimpArgs false
namespace Go.AM
set_option maxRecDepth 1000000
open Go Go.Conc Go.Proofs
theorem abe:(aS 4 0).fact=true:=aM
theorem abd:(aS 4 1).fact=true:=aM
theorem abc:(aS 4 2).fact=true:=aM
theorem abb:(aS 4 3).fact=true:=aM
theorem aba:(aS 4 4).fact=true:=aM
theorem aa9:(aS 4 5).fact=true:=aM
theorem aa8:(aS 4 6).fact=true:=aM
theorem aa7:(aS 4 7).fact=true:=aM
theorem aa6:(aS 4 8).fact=true:=aM
theorem aa5:(aS 4 9).fact=true:=aM
theorem U8:(aS 4 10).fact=true:=aM
theorem U7:(aS 4 11).fact=true:=aM
end Go.AM
