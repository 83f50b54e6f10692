/-
  What the claim stands on, part 22.
-/
import Derived.Test.YtgfppohfgconeaaGreatDoorK21
import Derived.Test.YtgfppohfgconeaaGreatDoorCards
import Derived.Conc.HoldsTime
import Derived.KernelRfl
set_option linter.unusedVariables false
set_option linter.unusedSimpArgs false
namespace Go.Proofs.YtgfppohfgconeaaGreatDoor
set_option maxRecDepth 1000000
open Go Go.AM
theorem MT:(Rows.reachedRow.inPlace==Tryz.pinned.checked.prog.inPlace 5)=true:=aY
theorem e11:(Rows.reachedRow.unfollowed==Tryz.pinned.checked.prog.unfollowed 5)=true:=aY
theorem VF:(Rows.reachedRow.recurses==Tryz.pinned.checked.prog.recurses 5)=true:=aY
theorem e13:(Rows.reachedRow.named==Tryz.pinned.checked.prog.varsNamed 5)=true:=aY
theorem Cx:joinedFacts Tryz.pinned.checked.prog 5 Tryz.f5 Rows.reachedSpec Rows.reachedRow=true:=by
 unfold joinedFacts;rw[MT,e11,VF,e13]
 kernel_rfl
end Go.Proofs.YtgfppohfgconeaaGreatDoor
