/-
  What the claim stands on, part 11.
-/
import Derived.Test.YtgfppohfgconeaaGreatDoorK10
set_option linter.unusedVariables false
set_option linter.unusedSimpArgs false
namespace Go.AM
set_option maxRecDepth 1000000
open Go Go.Conc Go.Proofs
theorem XW:(fJ 0 0).fact=true:=aY
theorem XV:(fJ 0 1).fact=true:=aY
theorem XU:(fJ 0 2).fact=true:=aY
theorem XT:(fJ 0 3).fact=true:=aY
theorem XS:(fJ 0 4).fact=true:=aY
theorem XQ:(fJ 0 5).fact=true:=aY
theorem XP:(fJ 0 6).fact=true:=aY
theorem XO:(fJ 0 7).fact=true:=aY
theorem XN:(fJ 0 8).fact=true:=aY
theorem XM:(fJ 0 9).fact=true:=aY
theorem S3:(fJ 0 10).fact=true:=aY
theorem S2:(fJ 0 11).fact=true:=aY
end Go.AM
