/-
  WHATEVER THE NUMBERS, 'lineagekeep.Counted' RETURNS true, on every schedule, without a race: the row, and its tied card. Its conditions: the listed package-level variables start as the program's text lays them; the clock's draws are calm.
-/
import Derived.Test.YtgfppohfgconeaaGreatDoorN18
import Derived.SevenTiedAt
set_option linter.unusedVariables false
set_option linter.unusedSimpArgs false
namespace Go.Proofs.YtgfppohfgconeaaGreatDoor
set_option maxRecDepth 1000000
open Go Go.AM
theorem Ea:Rows.CountedSaid:=
 OpenClaim.holds_of_wide_leaving_time 4 Tryz.f4 rfl rfl rfl rfl rfl rfl rfl ⟨rfl,rfl,rfl,rfl,rfl⟩ rfl rfl rfl rfl rfl bG Tryz.func4 B5
  (of_decide_eq_true bG) (by unfold Func.isWrapper;first |(rw[bK (by decide+kernel)];kernel_rfl)|(rw[bZ (by decide+kernel)];exact⟨rfl,rfl⟩))
  (fun os started H enc _ F=>Mw os started F)
theorem counted_card_holds:Rows.CountedCardSaid:=by
 have h6:Claim7.isSixth {stood:={row:=Rows.countedRow,standIns:=[],harness:=(true,"35b17491dc82a8a7615720e653dac1e843e8de90c48b8eebe93d6693a71c5f0f"),looks:=true},kinds:=[]}=false:=bG;have hl:∀f fn,Tryz.pinned.checked.prog.funcNamed Rows.countedRow.func=some f->Tryz.pinned.checked.prog.funcs[f]?=some fn->true=Tryz.pinned.checked.prog.looks []/\∀(j:Nat) t,fn.params[j]?=some t->Tryz.pinned.checked.prog.wantsStandIn t=false:=by
  intro f fn hf GY;have e9:Tryz.pinned.checked.prog.funcNamed Rows.countedRow.func=some 4:=bG;rw[e9]at hf;cases hf;have ef:fn=Tryz.f4:=(Option.some.inj (Tryz.func4.symm.trans GY)).symm;subst ef;refine⟨bG,fun j t ht=>?_⟩;rw[Tryz.params4]at ht;have h3:t=3\/t=4:=by
   rcases j with _|_|_|_|j
   ·exact .inl (by simpa using ht.symm)
   ·exact .inl (by simpa using ht.symm)
   ·exact .inl (by simpa using ht.symm)
   ·exact .inr (by simpa using ht.symm)
   ·simp at ht
  rcases h3 with rfl|rfl
  ·exact(show Tryz.pinned.checked.prog.wantsStandIn 3=false by kernel_rfl)
  ·exact(show Tryz.pinned.checked.prog.wantsStandIn 4=false by kernel_rfl)
 exact⟨Claim7.tied_new_at .later [.data,.data,.data,.data,.sentinel,.sentinel,.data,.data,.data,.pinned,.pinned] true
   (Claim7.new_of_sixth Ea (true,"35b17491dc82a8a7615720e653dac1e843e8de90c48b8eebe93d6693a71c5f0f") true rfl ⟨rfl,rfl⟩ bG h6 hl) bG,
  fun D hD=>(by cases hD),counted_row_tie,fun h=>(by cases h),bG⟩
#print axioms counted_card_holds
end Go.Proofs.YtgfppohfgconeaaGreatDoor
