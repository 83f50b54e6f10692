/-
  What the claim stands on, part 12.
-/
import Derived.Test.YtgfppohfgconeaaGreatDoorG11
import Derived.Lay
import Derived.WideWitness
set_option linter.unusedVariables false
set_option linter.unusedSimpArgs false
open Go.Proofs.Tryz renaming prog → ae
open Go renaming Value → af, World → aA, TypeId → aW
namespace Go.AM
set_option maxRecDepth 1000000
open Go Go.Conc Go.Proofs Go.Proofs.YtgfppohfgconeaaGreatDoor
def xN:Array af:=#[.int .i64 0,.int .i64 0,.int .i64 0]
theorem Jm (os:Os):(aA.holding ae os ⟨#[],#[],[]⟩).layFits ae Rows.reckonedRow.laid []=true:=bp
theorem EH (os:Os):(aA.holding ae os ⟨#[],#[],[]⟩).layIfaces ae Rows.reckonedRow.laid (aA.laidAll ae os Rows.reckonedRow.laid)=true:=bp
theorem GF (os:Os):laidMetH ae Rows.reckonedRow.laid ((aA.laidAll ae os Rows.reckonedRow.laid).forCall (fun _ _=>0) ⟨#[],xN,[]⟩).memory:=by
 have hf:(Rows.reckonedRow.laid.filter fun x=>x.2.handleName?.isSome)=[]:=bp;unfold laidMetH;rw[hf];exact laidMet_laidAll xN (Jm os) (EH os)
theorem EG (os:Os):((aA.laidAll ae os Rows.reckonedRow.laid).forCall (fun _ _=>0) ⟨#[],xN,[]⟩).Shaped Tryz.checked.prog:=aA.shaped_of_ZipB bp bp
theorem GG (os:Os):Input.okWideB Tryz.checked.prog ((aA.laidAll ae os Rows.reckonedRow.laid).forCall (fun _ _=>0) ⟨#[],xN,[]⟩) 8 ⟨#[],xN,[]⟩=true:=bp
section
variable {H:Type}{enc:aW×af->H}
theorem GM (os:Os):∃(w:aA) (tape:Tape) (i:Input),w.os=os/\(w.forCall tape i).Shaped Tryz.checked.prog/\i.vars=[]/\Input.okWide Tryz.checked.prog (w.forCall tape i) .any w.heap.size 8 i/\
   Rows.reckonedRow.pre enc ae Tryz.f8 (OpenSpec.ofChange Rows.reckonedSpec) (w.forCall tape i).memory i.args/\Rows.reckonedRow.assume.holds Tryz.checked.prog (lone (Frame.enter Tryz.checked.prog 8 i.args .normal) [] (w.forCall tape i)):=
 ⟨aA.laidAll ae os Rows.reckonedRow.laid,fun _ _=>0,⟨#[],xN,[]⟩,aA.laidAll_os _ _ _,EG os,(Input.okWide_of_okWideB (base:=0) (GG os)).1,(Input.okWide_of_okWideB (GG os)).2,
  ⟨⟨ChangeSpec.pre_of_preB (fuel:=8) bp,GF os⟩,sizedMet_of_sizedB (fuel:=8) bp⟩,by
  simp only[Assume.holds];exact⟨fun h=>(by cases h),fun _ _ _ _=>rfl,fun h=>(by cases h),fun d h=>(by cases h),fun d h=>(by cases h),fun h=>(by cases h)⟩⟩
end
end Go.AM
