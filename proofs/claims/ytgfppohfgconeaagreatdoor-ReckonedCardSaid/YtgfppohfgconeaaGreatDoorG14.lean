/-
  WHATEVER THE THREE NUMBERS, 'lineagekeep.Reckoned' RETURNS true, on every schedule, without a race: the row, and its tied card. Its conditions: the listed package-level variables start as the program's text lays them; the clock's draws are calm.
-/
import Derived.Test.YtgfppohfgconeaaGreatDoorG13
import Derived.SevenTiedAt
set_option linter.unusedVariables false
set_option linter.unusedSimpArgs false
namespace Go.Proofs.YtgfppohfgconeaaGreatDoor
set_option maxRecDepth 1000000
open Go Go.AM
theorem AP:Rows.ReckonedSaid:=
 OpenClaim.holds_of_wide_leaving_time 8 Tryz.f8 rfl rfl rfl rfl rfl rfl rfl ⟨rfl,rfl,rfl,rfl,rfl⟩ rfl rfl rfl rfl rfl bp Tryz.func8 zL
  (of_decide_eq_true bp) (by unfold Func.isWrapper;first |(rw[bL (by decide+kernel)];kernel_rfl)|(rw[bT (by decide+kernel)];exact⟨rfl,rfl⟩))
  (fun os started H enc _ F=>Jq os started F (GM os))
theorem reckoned_card_holds:Rows.ReckonedCardSaid:=by
 have h6:Claim7.isSixth {stood:={row:=Rows.reckonedRow,standIns:=[],harness:=(true,"35b17491dc82a8a7615720e653dac1e843e8de90c48b8eebe93d6693a71c5f0f"),looks:=true},kinds:=[]}=false:=bp;have hl:∀f fn,Tryz.pinned.checked.prog.funcNamed Rows.reckonedRow.func=some f->Tryz.pinned.checked.prog.funcs[f]?=some fn->true=Tryz.pinned.checked.prog.looks []/\∀(j:Nat) t,fn.params[j]?=some t->Tryz.pinned.checked.prog.wantsStandIn t=false:=by
  intro f fn hf Ga;have e8:Tryz.pinned.checked.prog.funcNamed Rows.reckonedRow.func=some 8:=bp;rw[e8]at hf;cases hf;have ef:fn=Tryz.f8:=(Option.some.inj (Tryz.func8.symm.trans Ga)).symm;subst ef;refine⟨bp,fun j t ht=>?_⟩;rw[Tryz.params8]at ht;have h3:t=3:=by
   rcases j with _|_|_|j
   ·simpa using ht.symm
   ·simpa using ht.symm
   ·simpa using ht.symm
   ·simp at ht
  subst h3;exact(show Tryz.pinned.checked.prog.wantsStandIn 3=false by kernel_rfl)
 exact⟨Claim7.tied_new_at .later [.data,.data,.data,.data,.sentinel,.sentinel,.data,.data,.data,.pinned,.pinned] true
   (Claim7.new_of_sixth AP (true,"35b17491dc82a8a7615720e653dac1e843e8de90c48b8eebe93d6693a71c5f0f") true rfl ⟨rfl,rfl⟩ bp h6 hl) bp,
  fun D hD=>(by cases hD),reckoned_row_tie,fun h=>(by cases h),bp⟩
#print axioms reckoned_card_holds
end Go.Proofs.YtgfppohfgconeaaGreatDoor
