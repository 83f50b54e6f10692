/-
  What the claim stands on, part 21.
-/
import Derived.Test.YtgfppohfgconeaaGreatDoorP10
set_option linter.unusedVariables false
set_option linter.unusedSimpArgs false
namespace Go.AM
set_option maxRecDepth 1000000
open Go Go.Conc Go.Proofs
theorem abz:(aS 2 0).fact=true:=aM
theorem aby:(aS 2 1).fact=true:=aM
theorem abx:(aS 2 2).fact=true:=aM
theorem abw:(aS 2 3).fact=true:=aM
theorem abv:(aS 2 4).fact=true:=aM
theorem abu:(aS 2 5).fact=true:=aM
theorem abt:(aS 2 6).fact=true:=aM
theorem abr:(aS 2 7).fact=true:=aM
theorem abq:(aS 2 8).fact=true:=aM
theorem abp:(aS 2 9).fact=true:=aM
theorem Vb:(aS 2 10).fact=true:=aM
theorem Va:(aS 2 11).fact=true:=aM
end Go.AM
