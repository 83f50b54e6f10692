/-
  What the claim stands on, part 13.
-/
import Derived.Test.YtgfppohfgconeaaGreatDoorK10
set_option linter.unusedVariables false
set_option linter.unusedSimpArgs false
namespace Go.AM
set_option maxRecDepth 1000000
open Go Go.Conc Go.Proofs
theorem XB:(fJ 2 0).fact=true:=aY
theorem XA:(fJ 2 1).fact=true:=aY
theorem Xz:(fJ 2 2).fact=true:=aY
theorem Xy:(fJ 2 3).fact=true:=aY
theorem Xx:(fJ 2 4).fact=true:=aY
theorem Xw:(fJ 2 5).fact=true:=aY
theorem Xv:(fJ 2 6).fact=true:=aY
theorem Xu:(fJ 2 7).fact=true:=aY
theorem Xt:(fJ 2 8).fact=true:=aY
theorem Xs:(fJ 2 9).fact=true:=aY
theorem SZ:(fJ 2 10).fact=true:=aY
theorem SY:(fJ 2 11).fact=true:=aY
end Go.AM
