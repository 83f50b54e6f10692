/-
  What the claim stands on, part 14.
-/
import Derived.Test.YtgfppohfgconeaaGreatDoorK10
set_option linter.unusedVariables false
set_option linter.unusedSimpArgs false
namespace Go.AM
set_option maxRecDepth 1000000
open Go Go.Conc Go.Proofs
theorem Xr:(fJ 3 0).fact=true:=aY
theorem Xq:(fJ 3 1).fact=true:=aY
theorem Xp:(fJ 3 2).fact=true:=aY
theorem Xo:(fJ 3 3).fact=true:=aY
theorem Xn:(fJ 3 4).fact=true:=aY
theorem Xm:(fJ 3 5).fact=true:=aY
theorem Xl:(fJ 3 6).fact=true:=aY
theorem Xk:(fJ 3 7).fact=true:=aY
theorem Xj:(fJ 3 8).fact=true:=aY
theorem Xi:(fJ 3 9).fact=true:=aY
theorem SW:(fJ 3 10).fact=true:=aY
theorem SV:(fJ 3 11).fact=true:=aY
end Go.AM
