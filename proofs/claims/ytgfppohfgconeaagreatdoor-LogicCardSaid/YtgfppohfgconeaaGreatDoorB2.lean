/-
  A WORLD THAT FITS THE ROW OF 'Logic': the listed variables laid.
-/
import Derived.Test.YtgfppohfgconeaaGreatDoorB1
import Derived.Lay
import Derived.WideWitness
set_option linter.unusedVariables false
set_option linter.unusedSimpArgs false
set_option maxRecDepth 1000000
namespace Go.AM
open Go Go.Conc Go.Proofs Go.Proofs.YtgfppohfgconeaaGreatDoor

def zeros3 : Array Value := #[.int .i64 0, .int .i64 0, .int .i64 0]
theorem laid_fits (os : Os) : (World.holding Tryz.prog os ⟨#[], #[], []⟩).layFits Tryz.prog Rows.logicRow.laid [] = true := by kernel_rfl
theorem laid_ifaces (os : Os) : (World.holding Tryz.prog os ⟨#[], #[], []⟩).layIfaces Tryz.prog Rows.logicRow.laid (World.laidAll Tryz.prog os Rows.logicRow.laid) = true := by kernel_rfl
theorem laid_start (os : Os) : laidMetH Tryz.prog Rows.logicRow.laid ((World.laidAll Tryz.prog os Rows.logicRow.laid).forCall (fun _ _ => 0) ⟨#[], zeros3, []⟩).memory := by
  have hf : (Rows.logicRow.laid.filter fun x => x.2.handleName?.isSome) = [] := by kernel_rfl
  unfold laidMetH
  rw [hf]
  exact laidMet_laidAll zeros3 (laid_fits os) (laid_ifaces os)
theorem laid_shaped (os : Os) : ((World.laidAll Tryz.prog os Rows.logicRow.laid).forCall (fun _ _ => 0) ⟨#[], zeros3, []⟩).Shaped Tryz.checked.prog := World.shaped_of_ZipB (by kernel_rfl) (by kernel_rfl)
theorem laid_ok (os : Os) : Input.okWideB Tryz.checked.prog ((World.laidAll Tryz.prog os Rows.logicRow.laid).forCall (fun _ _ => 0) ⟨#[], zeros3, []⟩) 7 ⟨#[], zeros3, []⟩ = true := by kernel_rfl
section
variable {H : Type} {enc : TypeId × Value → H}
theorem logic_witness (os : Os) : ∃ (w : World) (tape : Tape) (i : Input), w.os = os ∧ (w.forCall tape i).Shaped Tryz.checked.prog ∧ i.vars = [] ∧ Input.okWide Tryz.checked.prog (w.forCall tape i) .any w.heap.size 7 i ∧
      Rows.logicRow.pre enc Tryz.prog Tryz.f7 (OpenSpec.ofChange Rows.logicSpec) (w.forCall tape i).memory i.args ∧ Rows.logicRow.assume.holds Tryz.checked.prog (lone (Frame.enter Tryz.checked.prog 7 i.args .normal) [] (w.forCall tape i)) :=
  ⟨World.laidAll Tryz.prog os Rows.logicRow.laid, fun _ _ => 0, ⟨#[], zeros3, []⟩, World.laidAll_os _ _ _, laid_shaped os, (Input.okWide_of_okWideB (base := 0) (laid_ok os)).1, (Input.okWide_of_okWideB (laid_ok os)).2,
    ⟨⟨ChangeSpec.pre_of_preB (fuel := 8) (by kernel_rfl), laid_start os⟩, sizedMet_of_sizedB (fuel := 8) (by kernel_rfl)⟩, by
    simp only [Assume.holds]
    exact ⟨fun h => (by cases h), fun _ _ _ _ => rfl, fun h => (by cases h), fun d h => (by cases h), fun d h => (by cases h), fun h => (by cases h)⟩⟩
end
end Go.AM
