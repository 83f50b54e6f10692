/-
  What the claim stands on, part 28.
-/
import Derived.Test.YtgfppohfgconeaaGreatDoorP10
set_option linter.unusedVariables false
set_option linter.unusedSimpArgs false
namespace Go.AM
set_option maxRecDepth 1000000
open Go Go.Conc Go.Proofs
theorem aaq:(aS 9 0).fact=true:=aM
theorem aap:(aS 9 1).fact=true:=aM
theorem aao:(aS 9 2).fact=true:=aM
theorem aan:(aS 9 3).fact=true:=aM
theorem aam:(aS 9 4).fact=true:=aM
theorem aal:(aS 9 5).fact=true:=aM
theorem aak:(aS 9 6).fact=true:=aM
theorem aaj:(aS 9 7).fact=true:=aM
theorem aai:(aS 9 8).fact=true:=aM
theorem aah:(aS 9 9).fact=true:=aM
theorem UY:(aS 9 10).fact=true:=aM
theorem UX:(aS 9 11).fact=true:=aM
end Go.AM
