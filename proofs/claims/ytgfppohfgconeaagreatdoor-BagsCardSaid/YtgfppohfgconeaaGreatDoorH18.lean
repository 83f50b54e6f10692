/-
  What the claim stands on, part 18.
-/
import Derived.Test.YtgfppohfgconeaaGreatDoorH17
import Derived.Test.YtgfppohfgconeaaGreatDoorCards
import Derived.Conc.HoldsTime
import Derived.KernelRfl
set_option linter.unusedVariables false
set_option linter.unusedSimpArgs false
namespace Go.Proofs.YtgfppohfgconeaaGreatDoor
set_option maxRecDepth 1000000
open Go Go.AM
theorem eG:(Rows.bagsRow.inPlace==Tryz.pinned.checked.prog.inPlace 9)=true:=aU
theorem b11:(Rows.bagsRow.unfollowed==Tryz.pinned.checked.prog.unfollowed 9)=true:=aU
theorem b12:(Rows.bagsRow.recurses==Tryz.pinned.checked.prog.recurses 9)=true:=aU
theorem b13:(Rows.bagsRow.named==Tryz.pinned.checked.prog.varsNamed 9)=true:=aU
theorem Jm:joinedFacts Tryz.pinned.checked.prog 9 Tryz.f9 Rows.bagsSpec Rows.bagsRow=true:=by
 unfold joinedFacts;rw[eG,b11,b12,b13]
 kernel_rfl
end Go.Proofs.YtgfppohfgconeaaGreatDoor
