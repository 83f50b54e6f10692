/-
  What the claim stands on, part 19.
-/
import Derived.Test.YtgfppohfgconeaaGreatDoorP10
set_option linter.unusedVariables false
set_option linter.unusedSimpArgs false
namespace Go.AM
set_option maxRecDepth 1000000
open Go Go.Conc Go.Proofs
theorem abT:(aS 0 0).fact=true:=aM
theorem abS:(aS 0 1).fact=true:=aM
theorem abR:(aS 0 2).fact=true:=aM
theorem abQ:(aS 0 3).fact=true:=aM
theorem abP:(aS 0 4).fact=true:=aM
theorem abO:(aS 0 5).fact=true:=aM
theorem abN:(aS 0 6).fact=true:=aM
theorem abM:(aS 0 7).fact=true:=aM
theorem abL:(aS 0 8).fact=true:=aM
theorem abK:(aS 0 9).fact=true:=aM
theorem VA:(aS 0 10).fact=true:=aM
theorem Vz:(aS 0 11).fact=true:=aM
theorem NR:UW.fact=true:=aM
end Go.AM
