/-
  What the claim stands on, part 14.
-/
import Derived.Test.YtgfppohfgconeaaGreatDoorP10
import Derived.Lay
import Derived.WideWitness
set_option linter.unusedVariables false
set_option linter.unusedSimpArgs false
open Go renaming Value → ab, World → ar, TypeId → aT
open Go.Proofs.Tryz renaming prog → ae
namespace Go.AM
set_option maxRecDepth 1000000
open Go Go.Conc Go.Proofs Go.Proofs.YtgfppohfgconeaaGreatDoor
def Aa:Array ab:=#[.slice none 0 0,.int .i64 0,.int .i64 0]
theorem NW (os:Os):(ar.holding ae os ⟨#[],#[],[]⟩).layFits ae Rows.pathsRow.laid []=true:=aM
theorem IG (os:Os):(ar.holding ae os ⟨#[],#[],[]⟩).layIfaces ae Rows.pathsRow.laid (ar.laidAll ae os Rows.pathsRow.laid)=true:=aM
theorem Ld (os:Os):laidMetH ae Rows.pathsRow.laid ((ar.laidAll ae os Rows.pathsRow.laid).forCall (λ_ _=>0) ⟨#[],Aa,[]⟩).memory:=by
 have a:(Rows.pathsRow.laid.filter λx=>x.2.handleName?.isSome)=[]:=aM;unfold laidMetH;rw[a];exact laidMet_laidAll Aa (NW os) (IG os)
theorem IF (os:Os):((ar.laidAll ae os Rows.pathsRow.laid).forCall (λ_ _=>0) ⟨#[],Aa,[]⟩).Shaped Tryz.checked.prog:=ar.shaped_of_ZipB aM aM
theorem Le (os:Os):Input.okWideB Tryz.checked.prog ((ar.laidAll ae os Rows.pathsRow.laid).forCall (λ_ _=>0) ⟨#[],Aa,[]⟩) 6 ⟨#[],Aa,[]⟩=true:=aM
section
variable {H:Type}{enc:aT×ab->H}
theorem Lc (os:Os):∃(w:ar) (tape:Tape) (i:Input),w.os=os/\(w.forCall tape i).Shaped Tryz.checked.prog/\i.vars=[]/\Input.okWide Tryz.checked.prog (w.forCall tape i) .any w.heap.size 6 i/\
   Rows.pathsRow.pre enc ae Tryz.f6 (OpenSpec.ofChange Rows.pathsSpec) (w.forCall tape i).memory i.args/\Rows.pathsRow.assume.holds Tryz.checked.prog (lone (Frame.enter Tryz.checked.prog 6 i.args .normal) [] (w.forCall tape i)):=
 ⟨ar.laidAll ae os Rows.pathsRow.laid,λ_ _=>0,⟨#[],Aa,[]⟩,ar.laidAll_os _ _ _,IF os,(Input.okWide_of_okWideB (base:=0) (Le os)).1,(Input.okWide_of_okWideB (Le os)).2,
  ⟨⟨ChangeSpec.pre_of_preB (fuel:=8) aM,Ld os⟩,sizedMet_of_sizedB (fuel:=8) aM⟩,by
  simp only[Assume.holds];exact⟨λh=>(by cases h),λ_ _ _ _=>rfl,λh=>(by cases h),λd h=>(by cases h),λd h=>(by cases h),λh=>(by cases h)⟩⟩
end
end Go.AM
