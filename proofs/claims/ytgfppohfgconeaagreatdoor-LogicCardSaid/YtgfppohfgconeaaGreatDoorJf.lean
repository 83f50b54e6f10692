/-
  THE CLOSED FACTS OF THE ROW OF 'Logic', the great ones each on its own.
-/
import Derived.Test.YtgfppohfgconeaaGreatDoorCards
import Derived.Conc.HoldsTime
import Derived.KernelRfl
set_option maxRecDepth 1000000
namespace Go.Proofs.YtgfppohfgconeaaGreatDoor
open Go
theorem j10 : (Rows.logicRow.inPlace == Tryz.pinned.checked.prog.inPlace 7) = true := by kernel_rfl
theorem j11 : (Rows.logicRow.unfollowed == Tryz.pinned.checked.prog.unfollowed 7) = true := by kernel_rfl
theorem j12 : (Rows.logicRow.recurses == Tryz.pinned.checked.prog.recurses 7) = true := by kernel_rfl
theorem j13 : (Rows.logicRow.named == Tryz.pinned.checked.prog.varsNamed 7) = true := by kernel_rfl
theorem joined_logic : joinedFacts Tryz.pinned.checked.prog 7 Tryz.f7 Rows.logicSpec Rows.logicRow = true := by
  unfold joinedFacts
  rw [j10, j11, j12, j13]
  kernel_rfl
end Go.Proofs.YtgfppohfgconeaaGreatDoor
