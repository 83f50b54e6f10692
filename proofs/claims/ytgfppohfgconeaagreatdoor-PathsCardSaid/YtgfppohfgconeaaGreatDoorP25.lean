/-
  What the claim stands on, part 25.
-/
import Derived.Test.YtgfppohfgconeaaGreatDoorP10
set_option linter.unusedVariables false
set_option linter.unusedSimpArgs false
namespace Go.AM
set_option maxRecDepth 1000000
open Go Go.Conc Go.Proofs
theorem aaU:(aS 6 0).fact=true:=aM
theorem aaT:(aS 6 1).fact=true:=aM
theorem aaS:(aS 6 2).fact=true:=aM
theorem aaR:(aS 6 3).fact=true:=aM
theorem aaQ:(aS 6 4).fact=true:=aM
theorem aaP:(aS 6 5).fact=true:=aM
theorem aaO:(aS 6 6).fact=true:=aM
theorem aaN:(aS 6 7).fact=true:=aM
theorem aaM:(aS 6 8).fact=true:=aM
theorem aaL:(aS 6 9).fact=true:=aM
theorem U4:(aS 6 10).fact=true:=aM
theorem U3:(aS 6 11).fact=true:=aM
end Go.AM
