/-
  What the claim stands on, part 18.
-/
import Derived.Test.YtgfppohfgconeaaGreatDoorN17
import Derived.Test.YtgfppohfgconeaaGreatDoorCards
import Derived.Conc.HoldsTime
import Derived.KernelRfl
set_option linter.unusedVariables false
set_option linter.unusedSimpArgs false
namespace Go.Proofs.YtgfppohfgconeaaGreatDoor
set_option maxRecDepth 1000000
open Go Go.AM
theorem Qm:(Rows.countedRow.inPlace==Tryz.pinned.checked.prog.inPlace 4)=true:=bG
theorem e11:(Rows.countedRow.unfollowed==Tryz.pinned.checked.prog.unfollowed 4)=true:=bG
theorem e12:(Rows.countedRow.recurses==Tryz.pinned.checked.prog.recurses 4)=true:=bG
theorem e13:(Rows.countedRow.named==Tryz.pinned.checked.prog.varsNamed 4)=true:=bG
theorem B5:joinedFacts Tryz.pinned.checked.prog 4 Tryz.f4 Rows.countedSpec Rows.countedRow=true:=by
 unfold joinedFacts;rw[Qm,e11,e12,e13]
 kernel_rfl
end Go.Proofs.YtgfppohfgconeaaGreatDoor
