/-
  What the claim stands on, part 17.
-/
import Derived.Test.YtgfppohfgconeaaGreatDoorH16
import Derived.Lay
import Derived.WideWitness
set_option linter.unusedVariables false
set_option linter.unusedSimpArgs false
open Go.Proofs.Tryz renaming prog → ab
open Go renaming Value → ae, World → ao, TypeId → aO
namespace Go.AM
set_option maxRecDepth 1000000
open Go Go.Conc Go.Proofs Go.Proofs.YtgfppohfgconeaaGreatDoor
def zt:Array ae:=#[.slice none 0 0,.int .i64 0]
theorem MT (os:Os):(ao.holding ab os ⟨#[],#[],[]⟩).layFits ab Rows.bagsRow.laid []=true:=aU
theorem HD (os:Os):(ao.holding ab os ⟨#[],#[],[]⟩).layIfaces ab Rows.bagsRow.laid (ao.laidAll ab os Rows.bagsRow.laid)=true:=aU
theorem Ki (os:Os):laidMetH ab Rows.bagsRow.laid ((ao.laidAll ab os Rows.bagsRow.laid).forCall (fun _ _=>0) ⟨#[],zt,[]⟩).memory:=by
 have hf:(Rows.bagsRow.laid.filter fun x=>x.2.handleName?.isSome)=[]:=aU;unfold laidMetH;rw[hf];exact laidMet_laidAll zt (MT os) (HD os)
theorem HB (os:Os):((ao.laidAll ab os Rows.bagsRow.laid).forCall (fun _ _=>0) ⟨#[],zt,[]⟩).Shaped Tryz.checked.prog:=ao.shaped_of_ZipB aU aU
theorem Kj (os:Os):Input.okWideB Tryz.checked.prog ((ao.laidAll ab os Rows.bagsRow.laid).forCall (fun _ _=>0) ⟨#[],zt,[]⟩) 9 ⟨#[],zt,[]⟩=true:=aU
section
variable {H:Type}{enc:aO×ae->H}
theorem Kl (os:Os):∃(w:ao) (tape:Tape) (i:Input),w.os=os/\(w.forCall tape i).Shaped Tryz.checked.prog/\i.vars=[]/\Input.okWide Tryz.checked.prog (w.forCall tape i) .any w.heap.size 9 i/\
   Rows.bagsRow.pre enc ab Tryz.f9 (OpenSpec.ofChange Rows.bagsSpec) (w.forCall tape i).memory i.args/\Rows.bagsRow.assume.holds Tryz.checked.prog (lone (Frame.enter Tryz.checked.prog 9 i.args .normal) [] (w.forCall tape i)):=
 ⟨ao.laidAll ab os Rows.bagsRow.laid,fun _ _=>0,⟨#[],zt,[]⟩,ao.laidAll_os _ _ _,HB os,(Input.okWide_of_okWideB (base:=0) (Kj os)).1,(Input.okWide_of_okWideB (Kj os)).2,
  ⟨⟨ChangeSpec.pre_of_preB (fuel:=8) aU,Ki os⟩,sizedMet_of_sizedB (fuel:=8) aU⟩,by
  simp only[Assume.holds];exact⟨fun h=>(by cases h),fun _ _ _ _=>rfl,fun h=>(by cases h),fun d h=>(by cases h),fun d h=>(by cases h),fun h=>(by cases h)⟩⟩
end
end Go.AM
