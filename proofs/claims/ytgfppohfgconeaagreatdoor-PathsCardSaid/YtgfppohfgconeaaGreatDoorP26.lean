/-
  What the claim stands on, part 26.
-/
import Derived.Test.YtgfppohfgconeaaGreatDoorP10
set_option linter.unusedVariables false
set_option linter.unusedSimpArgs false
namespace Go.AM
set_option maxRecDepth 1000000
open Go Go.Conc Go.Proofs
theorem aaK:(aS 7 0).fact=true:=aM
theorem aaJ:(aS 7 1).fact=true:=aM
theorem aaI:(aS 7 2).fact=true:=aM
theorem aaH:(aS 7 3).fact=true:=aM
theorem aaG:(aS 7 4).fact=true:=aM
theorem aaF:(aS 7 5).fact=true:=aM
theorem aaE:(aS 7 6).fact=true:=aM
theorem aaD:(aS 7 7).fact=true:=aM
theorem aaC:(aS 7 8).fact=true:=aM
theorem aaB:(aS 7 9).fact=true:=aM
theorem U2:(aS 7 10).fact=true:=aM
theorem U1:(aS 7 11).fact=true:=aM
end Go.AM
