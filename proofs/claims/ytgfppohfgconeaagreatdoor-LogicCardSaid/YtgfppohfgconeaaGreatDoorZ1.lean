/-
  WHATEVER THE THREE NUMBERS, 'lineagekeep.Logic' RETURNS true, on every schedule, without a race: the row, and its tied card. Its conditions: the listed package-level variables start as the program's text lays them; the clock's draws are calm.
-/
import Derived.Test.YtgfppohfgconeaaGreatDoorB2
import Derived.Test.YtgfppohfgconeaaGreatDoorB3
import Derived.Test.YtgfppohfgconeaaGreatDoorLp0
import Derived.Test.YtgfppohfgconeaaGreatDoorLp1
import Derived.Test.YtgfppohfgconeaaGreatDoorLp2
import Derived.Test.YtgfppohfgconeaaGreatDoorJf
import Derived.SevenTiedAt
set_option linter.unusedVariables false
set_option linter.unusedSimpArgs false
set_option maxRecDepth 1000000
namespace Go.Proofs.YtgfppohfgconeaaGreatDoor
open Go Go.AM

theorem loop_ok : LoopOk rowsL := by
  intro i j k hi hj hk x y z
  rcases hi with rfl | rfl | rfl <;> rcases hj with rfl | rfl | rfl <;> rcases hk with rfl | rfl | rfl
  · exact lp_0_0_0 x y z
  · exact lp_0_0_1 x y z
  · exact lp_0_0_2 x y z
  · exact lp_0_1_0 x y z
  · exact lp_0_1_1 x y z
  · exact lp_0_1_2 x y z
  · exact lp_0_2_0 x y z
  · exact lp_0_2_1 x y z
  · exact lp_0_2_2 x y z
  · exact lp_1_0_0 x y z
  · exact lp_1_0_1 x y z
  · exact lp_1_0_2 x y z
  · exact lp_1_1_0 x y z
  · exact lp_1_1_1 x y z
  · exact lp_1_1_2 x y z
  · exact lp_1_2_0 x y z
  · exact lp_1_2_1 x y z
  · exact lp_1_2_2 x y z
  · exact lp_2_0_0 x y z
  · exact lp_2_0_1 x y z
  · exact lp_2_0_2 x y z
  · exact lp_2_1_0 x y z
  · exact lp_2_1_1 x y z
  · exact lp_2_1_2 x y z
  · exact lp_2_2_0 x y z
  · exact lp_2_2_1 x y z
  · exact lp_2_2_2 x y z
theorem logic_holds : Rows.LogicSaid :=
  OpenClaim.holds_of_wide_leaving_time 7 Tryz.f7 rfl rfl rfl rfl rfl rfl rfl ⟨rfl, rfl, rfl, rfl, rfl⟩ rfl rfl rfl rfl rfl (by kernel_rfl) Tryz.func7 joined_logic
    (of_decide_eq_true (by kernel_rfl)) (by unfold Func.isWrapper; first | (rw [if_pos (by decide +kernel)]; kernel_rfl) | (rw [if_neg (by decide +kernel)]; exact ⟨rfl, rfl⟩))
    (fun os started H enc _ F => logic_lifted rowsL_ok loop_ok os started F (logic_witness os))
theorem logic_card_holds : Rows.LogicCardSaid := by
  have h6 : Claim7.isSixth { stood := { row := Rows.logicRow, standIns := [], harness := (true, "35b17491dc82a8a7615720e653dac1e843e8de90c48b8eebe93d6693a71c5f0f"), looks := true }, kinds := [] } = false := by kernel_rfl
  have hl : ∀ f fn, Tryz.pinned.checked.prog.funcNamed Rows.logicRow.func = some f → Tryz.pinned.checked.prog.funcs[f]? = some fn → true = Tryz.pinned.checked.prog.looks [] ∧ ∀ (j : Nat) t, fn.params[j]? = some t → Tryz.pinned.checked.prog.wantsStandIn t = false := by
    intro f fn hf hfn
    have e7 : Tryz.pinned.checked.prog.funcNamed Rows.logicRow.func = some 7 := by kernel_rfl
    rw [e7] at hf
    cases hf
    have ef : fn = Tryz.f7 := (Option.some.inj (Tryz.func7.symm.trans hfn)).symm
    subst ef
    refine ⟨by kernel_rfl, fun j t ht => ?_⟩
    rw [Tryz.params7] at ht
    have h3 : t = 3 := by
      rcases j with _ | _ | _ | j
      · simpa using ht.symm
      · simpa using ht.symm
      · simpa using ht.symm
      · simp at ht
    subst h3
    exact (show Tryz.pinned.checked.prog.wantsStandIn 3 = false by kernel_rfl)
  exact ⟨Claim7.tied_new_at .later [.data, .data, .data, .data, .sentinel, .sentinel, .data, .data, .data, .pinned, .pinned] true
      (Claim7.new_of_sixth logic_holds (true, "35b17491dc82a8a7615720e653dac1e843e8de90c48b8eebe93d6693a71c5f0f") true rfl ⟨rfl, rfl⟩ (by kernel_rfl) h6 hl) (by kernel_rfl),
    fun D hD => (by cases hD), logic_row_tie, fun h => (by cases h), (by kernel_rfl)⟩
#print axioms logic_card_holds
end Go.Proofs.YtgfppohfgconeaaGreatDoor
