/-
  THE ROW OF 'known', by the kernel.
-/
import Derived.Test.YtgfppohfgconeaaGreatDoorA8
set_option maxRecDepth 1000000
namespace Go.AM
open Go Go.Conc Go.Proofs
theorem krow_fact : krow.fact Ct = true := by kernel_rfl
end Go.AM
