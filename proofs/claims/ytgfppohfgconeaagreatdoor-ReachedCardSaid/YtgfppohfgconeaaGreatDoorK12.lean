/-
  What the claim stands on, part 12.
-/
import Derived.Test.YtgfppohfgconeaaGreatDoorK10
set_option linter.unusedVariables false
set_option linter.unusedSimpArgs false
namespace Go.AM
set_option maxRecDepth 1000000
open Go Go.Conc Go.Proofs
theorem XL:(fJ 1 0).fact=true:=aY
theorem XK:(fJ 1 1).fact=true:=aY
theorem XJ:(fJ 1 2).fact=true:=aY
theorem XI:(fJ 1 3).fact=true:=aY
theorem XH:(fJ 1 4).fact=true:=aY
theorem XG:(fJ 1 5).fact=true:=aY
theorem XF:(fJ 1 6).fact=true:=aY
theorem XE:(fJ 1 7).fact=true:=aY
theorem XD:(fJ 1 8).fact=true:=aY
theorem XC:(fJ 1 9).fact=true:=aY
theorem S1:(fJ 1 10).fact=true:=aY
theorem S0:(fJ 1 11).fact=true:=aY
end Go.AM
