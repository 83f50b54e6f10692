/-
  What the claim stands on, part 30.
-/
import Derived.Test.YtgfppohfgconeaaGreatDoorP10
set_option linter.unusedVariables false
set_option linter.unusedSimpArgs false
namespace Go.AM
set_option maxRecDepth 1000000
open Go Go.Conc Go.Proofs
theorem Vo:(aS 11 0).fact=true:=aM
theorem Vn:(aS 11 1).fact=true:=aM
theorem Vm:(aS 11 2).fact=true:=aM
theorem Vl:(aS 11 3).fact=true:=aM
theorem Vk:(aS 11 4).fact=true:=aM
theorem Vj:(aS 11 5).fact=true:=aM
theorem Vi:(aS 11 6).fact=true:=aM
theorem Vh:(aS 11 7).fact=true:=aM
theorem Vg:(aS 11 8).fact=true:=aM
theorem Vf:(aS 11 9).fact=true:=aM
theorem R5:(aS 11 10).fact=true:=aM
theorem R4:(aS 11 11).fact=true:=aM
end Go.AM
