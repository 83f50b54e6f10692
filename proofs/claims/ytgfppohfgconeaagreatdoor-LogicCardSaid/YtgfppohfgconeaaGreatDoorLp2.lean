/-
  THE LOOP OF 'Logic', by the kernel: the first truth is number 2.
-/
import Derived.Test.YtgfppohfgconeaaGreatDoorB3
set_option maxRecDepth 1000000
namespace Go.AM
open Go Go.Conc Go.Proofs
theorem lp_2_0_0 (x y z : Value) : okEnd (cF 216 lR (callL rowsL) ⟨tl6 x y z (truthS 2) (truthS 0) (truthS 0), mK3, []⟩) = true := by kernel_rfl
theorem lp_2_0_1 (x y z : Value) : okEnd (cF 216 lR (callL rowsL) ⟨tl6 x y z (truthS 2) (truthS 0) (truthS 1), mK3, []⟩) = true := by kernel_rfl
theorem lp_2_0_2 (x y z : Value) : okEnd (cF 216 lR (callL rowsL) ⟨tl6 x y z (truthS 2) (truthS 0) (truthS 2), mK3, []⟩) = true := by kernel_rfl
theorem lp_2_1_0 (x y z : Value) : okEnd (cF 216 lR (callL rowsL) ⟨tl6 x y z (truthS 2) (truthS 1) (truthS 0), mK3, []⟩) = true := by kernel_rfl
theorem lp_2_1_1 (x y z : Value) : okEnd (cF 216 lR (callL rowsL) ⟨tl6 x y z (truthS 2) (truthS 1) (truthS 1), mK3, []⟩) = true := by kernel_rfl
theorem lp_2_1_2 (x y z : Value) : okEnd (cF 216 lR (callL rowsL) ⟨tl6 x y z (truthS 2) (truthS 1) (truthS 2), mK3, []⟩) = true := by kernel_rfl
theorem lp_2_2_0 (x y z : Value) : okEnd (cF 216 lR (callL rowsL) ⟨tl6 x y z (truthS 2) (truthS 2) (truthS 0), mK3, []⟩) = true := by kernel_rfl
theorem lp_2_2_1 (x y z : Value) : okEnd (cF 216 lR (callL rowsL) ⟨tl6 x y z (truthS 2) (truthS 2) (truthS 1), mK3, []⟩) = true := by kernel_rfl
theorem lp_2_2_2 (x y z : Value) : okEnd (cF 216 lR (callL rowsL) ⟨tl6 x y z (truthS 2) (truthS 2) (truthS 2), mK3, []⟩) = true := by kernel_rfl
end Go.AM
