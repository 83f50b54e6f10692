/-
  WHATEVER THE LIST AND THE NUMBERS, 'lineagekeep.Reached' RETURNS true, on every schedule, without a race: the row, and its tied card. Its conditions: the listed package-level variables start as the program's text lays them; the clock's draws are calm.
-/
import Derived.Test.YtgfppohfgconeaaGreatDoorK22
import Derived.SevenTiedAt
set_option linter.unusedVariables false
set_option linter.unusedSimpArgs false
namespace Go.Proofs.YtgfppohfgconeaaGreatDoor
set_option maxRecDepth 1000000
open Go Go.AM
theorem Ei:Rows.ReachedSaid:=
 OpenClaim.holds_of_wide_leaving_time 5 Tryz.f5 rfl rfl rfl rfl rfl rfl rfl ⟨rfl,rfl,rfl,rfl,rfl⟩ rfl rfl rfl rfl rfl aY Tryz.func5 Cx
  (of_decide_eq_true aY) (by unfold Func.isWrapper;first |(rw[bC (by decide+kernel)];kernel_rfl)|(rw[bS (by decide+kernel)];exact⟨rfl,rfl⟩))
  (fun os started H enc _ F=>LK os started F (IP os))
theorem reached_card_holds:Rows.ReachedCardSaid:=by
 have h6:Claim7.isSixth {stood:={row:=Rows.reachedRow,standIns:=[],harness:=(true,"35b17491dc82a8a7615720e653dac1e843e8de90c48b8eebe93d6693a71c5f0f"),looks:=true},kinds:=[]}=false:=aY;have hl:∀f fn,Tryz.pinned.checked.prog.funcNamed Rows.reachedRow.func=some f->Tryz.pinned.checked.prog.funcs[f]?=some fn->true=Tryz.pinned.checked.prog.looks []/\∀(j:Nat) t,fn.params[j]?=some t->Tryz.pinned.checked.prog.wantsStandIn t=false:=by
  intro f fn hf QM;have e9:Tryz.pinned.checked.prog.funcNamed Rows.reachedRow.func=some 5:=aY;rw[e9]at hf;cases hf;have ef:fn=Tryz.f5:=(Option.some.inj (Tryz.func5.symm.trans QM)).symm;subst ef;refine⟨aY,fun j t ht=>?_⟩;rw[Tryz.params5]at ht;have h3:t=22\/t=3:=by
   rcases j with _|_|_|j
   ·exact .inl (by simpa using ht.symm)
   ·exact .inr (by simpa using ht.symm)
   ·exact .inr (by simpa using ht.symm)
   ·simp at ht
  rcases h3 with rfl|rfl
  ·exact(show Tryz.pinned.checked.prog.wantsStandIn 22=false by kernel_rfl)
  ·exact(show Tryz.pinned.checked.prog.wantsStandIn 3=false by kernel_rfl)
 exact⟨Claim7.tied_new_at .later [.data,.data,.data,.data,.sentinel,.sentinel,.data,.data,.data,.pinned,.pinned] true
   (Claim7.new_of_sixth Ei (true,"35b17491dc82a8a7615720e653dac1e843e8de90c48b8eebe93d6693a71c5f0f") true rfl ⟨rfl,rfl⟩ aY h6 hl) aY,
  fun D hD=>(by cases hD),reached_row_tie,fun h=>(by cases h),aY⟩
#print axioms reached_card_holds
end Go.Proofs.YtgfppohfgconeaaGreatDoor
