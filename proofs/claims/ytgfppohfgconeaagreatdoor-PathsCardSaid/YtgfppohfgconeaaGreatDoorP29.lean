/-
  What the claim stands on, part 29.
-/
import Derived.Test.YtgfppohfgconeaaGreatDoorP10
set_option linter.unusedVariables false
set_option linter.unusedSimpArgs false
namespace Go.AM
set_option maxRecDepth 1000000
open Go Go.Conc Go.Proofs
theorem Vy:(aS 10 0).fact=true:=aM
theorem Vx:(aS 10 1).fact=true:=aM
theorem Vw:(aS 10 2).fact=true:=aM
theorem Vv:(aS 10 3).fact=true:=aM
theorem Vu:(aS 10 4).fact=true:=aM
theorem Vt:(aS 10 5).fact=true:=aM
theorem Vs:(aS 10 6).fact=true:=aM
theorem Vr:(aS 10 7).fact=true:=aM
theorem Vq:(aS 10 8).fact=true:=aM
theorem Vp:(aS 10 9).fact=true:=aM
theorem R7:(aS 10 10).fact=true:=aM
theorem R6:(aS 10 11).fact=true:=aM
end Go.AM
