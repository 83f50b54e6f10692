/-
  What the claim stands on, part 21.
-/
import Derived.Test.YtgfppohfgconeaaGreatDoorK20
import Derived.Lay
import Derived.WideWitness
set_option linter.unusedVariables false
set_option linter.unusedSimpArgs false
open Go.Proofs.Tryz renaming prog → ab
open Go renaming Value → ae, World → au, TypeId → aM
namespace Go.AM
set_option maxRecDepth 1000000
open Go Go.Conc Go.Proofs Go.Proofs.YtgfppohfgconeaaGreatDoor
def yS:Array ae:=#[.slice none 0 0,.int .i64 0,.int .i64 0]
theorem LH (os:Os):(au.holding ab os ⟨#[],#[],[]⟩).layFits ab Rows.reachedRow.laid []=true:=aY
theorem GH (os:Os):(au.holding ab os ⟨#[],#[],[]⟩).layIfaces ab Rows.reachedRow.laid (au.laidAll ab os Rows.reachedRow.laid)=true:=aY
theorem IH (os:Os):laidMetH ab Rows.reachedRow.laid ((au.laidAll ab os Rows.reachedRow.laid).forCall (fun _ _=>0) ⟨#[],yS,[]⟩).memory:=by
 have hf:(Rows.reachedRow.laid.filter fun x=>x.2.handleName?.isSome)=[]:=aY;unfold laidMetH;rw[hf];exact laidMet_laidAll yS (LH os) (GH os)
theorem GG (os:Os):((au.laidAll ab os Rows.reachedRow.laid).forCall (fun _ _=>0) ⟨#[],yS,[]⟩).Shaped Tryz.checked.prog:=au.shaped_of_ZipB aY aY
theorem II (os:Os):Input.okWideB Tryz.checked.prog ((au.laidAll ab os Rows.reachedRow.laid).forCall (fun _ _=>0) ⟨#[],yS,[]⟩) 5 ⟨#[],yS,[]⟩=true:=aY
section
variable {H:Type}{enc:aM×ae->H}
theorem IP (os:Os):∃(w:au) (tape:Tape) (i:Input),w.os=os/\(w.forCall tape i).Shaped Tryz.checked.prog/\i.vars=[]/\Input.okWide Tryz.checked.prog (w.forCall tape i) .any w.heap.size 5 i/\
   Rows.reachedRow.pre enc ab Tryz.f5 (OpenSpec.ofChange Rows.reachedSpec) (w.forCall tape i).memory i.args/\Rows.reachedRow.assume.holds Tryz.checked.prog (lone (Frame.enter Tryz.checked.prog 5 i.args .normal) [] (w.forCall tape i)):=
 ⟨au.laidAll ab os Rows.reachedRow.laid,fun _ _=>0,⟨#[],yS,[]⟩,au.laidAll_os _ _ _,GG os,(Input.okWide_of_okWideB (base:=0) (II os)).1,(Input.okWide_of_okWideB (II os)).2,
  ⟨⟨ChangeSpec.pre_of_preB (fuel:=8) aY,IH os⟩,sizedMet_of_sizedB (fuel:=8) aY⟩,by
  simp only[Assume.holds];exact⟨fun h=>(by cases h),fun _ _ _ _=>rfl,fun h=>(by cases h),fun d h=>(by cases h),fun d h=>(by cases h),fun h=>(by cases h)⟩⟩
end
end Go.AM
