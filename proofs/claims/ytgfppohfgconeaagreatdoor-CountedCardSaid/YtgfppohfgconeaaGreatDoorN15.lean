/-
  What the claim stands on, part 15.
-/
import Derived.Test.YtgfppohfgconeaaGreatDoorN12
set_option linter.unusedVariables false
set_option linter.unusedSimpArgs false
namespace Go.AM
set_option maxRecDepth 1000000
open Go Go.Conc Go.Proofs
theorem Uk:LF true false false 1 1:={}
theorem Uj:LF true false false 1 2:={}
theorem Ui:LF true false false 1 3:={}
theorem Uh:LF true false false 1 4:={}
theorem Ug:LF true false false 2 2:={}
theorem Uf:LF true false false 2 3:={}
theorem Ue:LF true false false 2 4:={}
theorem Ud:LF true false false 3 3:={}
theorem Uc:LF true false false 3 4:={}
theorem TT:LF true true true 1 1:={}
theorem TS:LF true true true 2 1:={}
theorem TR:LF true true true 2 2:={}
theorem TQ:LF true true true 3 1:={}
theorem TN:LF true true true 3 2:={}
theorem TM:LF true true true 3 3:={}
theorem TL:LF true true true 4 1:={}
theorem TK:LF true true true 4 2:={}
theorem TJ:LF true true true 4 3:={}
theorem TH:LF true true true 4 4:={}
end Go.AM
