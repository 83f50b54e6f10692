/-
  What the claim stands on, part 24.
-/
import Derived.Test.YtgfppohfgconeaaGreatDoorP10
set_option linter.unusedVariables false
set_option linter.unusedSimpArgs false
namespace Go.AM
set_option maxRecDepth 1000000
open Go Go.Conc Go.Proofs
theorem aa4:(aS 5 0).fact=true:=aM
theorem aa3:(aS 5 1).fact=true:=aM
theorem aa2:(aS 5 2).fact=true:=aM
theorem aa1:(aS 5 3).fact=true:=aM
theorem aa0:(aS 5 4).fact=true:=aM
theorem aaZ:(aS 5 5).fact=true:=aM
theorem aaY:(aS 5 6).fact=true:=aM
theorem aaX:(aS 5 7).fact=true:=aM
theorem aaW:(aS 5 8).fact=true:=aM
theorem aaV:(aS 5 9).fact=true:=aM
theorem U6:(aS 5 10).fact=true:=aM
theorem U5:(aS 5 11).fact=true:=aM
end Go.AM
