/-
  What the claim stands on, part 13.
-/
import Derived.Test.YtgfppohfgconeaaGreatDoorG12
import Derived.Test.YtgfppohfgconeaaGreatDoorCards
import Derived.Conc.HoldsTime
import Derived.KernelRfl
set_option linter.unusedVariables false
set_option linter.unusedSimpArgs false
namespace Go.Proofs.YtgfppohfgconeaaGreatDoor
set_option maxRecDepth 1000000
open Go Go.AM
theorem r10:(Rows.reckonedRow.inPlace==Tryz.pinned.checked.prog.inPlace 8)=true:=bp
theorem r11:(Rows.reckonedRow.unfollowed==Tryz.pinned.checked.prog.unfollowed 8)=true:=bp
theorem r12:(Rows.reckonedRow.recurses==Tryz.pinned.checked.prog.recurses 8)=true:=bp
theorem r13:(Rows.reckonedRow.named==Tryz.pinned.checked.prog.varsNamed 8)=true:=bp
theorem zL:joinedFacts Tryz.pinned.checked.prog 8 Tryz.f8 Rows.reckonedSpec Rows.reckonedRow=true:=by
 unfold joinedFacts;rw[r10,r11,r12,r13]
 kernel_rfl
end Go.Proofs.YtgfppohfgconeaaGreatDoor
