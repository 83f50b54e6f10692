/-
  What the claim stands on, part 13.
-/
import Derived.Test.YtgfppohfgconeaaGreatDoorP10
import Derived.Test.YtgfppohfgconeaaGreatDoorCards
import Derived.Conc.HoldsTime
import Derived.KernelRfl
set_option linter.unusedVariables false
set_option linter.unusedSimpArgs false
namespace Go.Proofs.YtgfppohfgconeaaGreatDoor
set_option maxRecDepth 1000000
open Go Go.AM
theorem YC:(Rows.pathsRow.inPlace==Tryz.pinned.checked.prog.inPlace 6)=true:=aM
theorem e11:(Rows.pathsRow.unfollowed==Tryz.pinned.checked.prog.unfollowed 6)=true:=aM
theorem YB:(Rows.pathsRow.recurses==Tryz.pinned.checked.prog.recurses 6)=true:=aM
theorem e13:(Rows.pathsRow.named==Tryz.pinned.checked.prog.varsNamed 6)=true:=aM
theorem I9:joinedFacts Tryz.pinned.checked.prog 6 Tryz.f6 Rows.pathsSpec Rows.pathsRow=true:=by
 unfold joinedFacts;rw[YC,e11,YB,e13]
 kernel_rfl
end Go.Proofs.YtgfppohfgconeaaGreatDoor
