/-
  WHATEVER THE LIST AND THE NUMBER, 'lineagekeep.Bags' RETURNS true, on every schedule, without a race: the row, and its tied card. Its conditions: the listed package-level variables start as the program's text lays them; the clock's draws are calm.
-/
import Derived.Test.YtgfppohfgconeaaGreatDoorH18
import Derived.SevenTiedAt
set_option linter.unusedVariables false
set_option linter.unusedSimpArgs false
namespace Go.Proofs.YtgfppohfgconeaaGreatDoor
set_option maxRecDepth 1000000
open Go Go.AM
theorem MX:Rows.BagsSaid:=
 OpenClaim.holds_of_wide_leaving_time 9 Tryz.f9 rfl rfl rfl rfl rfl rfl rfl ⟨rfl,rfl,rfl,rfl,rfl⟩ rfl rfl rfl rfl rfl aU Tryz.func9 Jm
  (of_decide_eq_true aU) (by unfold Func.isWrapper;first |(rw[bj (by decide+kernel)];kernel_rfl)|(rw[bW (by decide+kernel)];exact⟨rfl,rfl⟩))
  (fun os started H enc _ F=>MY os started F (Kl os))
theorem bags_card_holds:Rows.BagsCardSaid:=by
 have h6:Claim7.isSixth {stood:={row:=Rows.bagsRow,standIns:=[],harness:=(true,"35b17491dc82a8a7615720e653dac1e843e8de90c48b8eebe93d6693a71c5f0f"),looks:=true},kinds:=[]}=false:=aU;have hl:∀f fn,Tryz.pinned.checked.prog.funcNamed Rows.bagsRow.func=some f->Tryz.pinned.checked.prog.funcs[f]?=some fn->true=Tryz.pinned.checked.prog.looks []/\∀(j:Nat) t,fn.params[j]?=some t->Tryz.pinned.checked.prog.wantsStandIn t=false:=by
  intro f fn hf Qh;have e9:Tryz.pinned.checked.prog.funcNamed Rows.bagsRow.func=some 9:=aU;rw[e9]at hf;cases hf;have ef:fn=Tryz.f9:=(Option.some.inj (Tryz.func9.symm.trans Qh)).symm;subst ef;refine⟨aU,fun j t ht=>?_⟩;rw[Tryz.params9]at ht;have h3:t=22\/t=3:=by
   rcases j with _|_|j
   ·exact .inl (by simpa using ht.symm)
   ·exact .inr (by simpa using ht.symm)
   ·simp at ht
  rcases h3 with rfl|rfl
  ·exact(show Tryz.pinned.checked.prog.wantsStandIn 22=false by kernel_rfl)
  ·exact(show Tryz.pinned.checked.prog.wantsStandIn 3=false by kernel_rfl)
 exact⟨Claim7.tied_new_at .later [.data,.data,.data,.data,.sentinel,.sentinel,.data,.data,.data,.pinned,.pinned] true
   (Claim7.new_of_sixth MX (true,"35b17491dc82a8a7615720e653dac1e843e8de90c48b8eebe93d6693a71c5f0f") true rfl ⟨rfl,rfl⟩ aU h6 hl) aU,
  fun D hD=>(by cases hD),bags_row_tie,fun h=>(by cases h),aU⟩
#print axioms bags_card_holds
end Go.Proofs.YtgfppohfgconeaaGreatDoor
