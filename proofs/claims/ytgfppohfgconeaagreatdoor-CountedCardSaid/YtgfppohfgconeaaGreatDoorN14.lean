/-
  What the claim stands on, part 14.
-/
import Derived.Test.YtgfppohfgconeaaGreatDoorN12
set_option linter.unusedVariables false
set_option linter.unusedSimpArgs false
namespace Go.AM
set_option maxRecDepth 1000000
open Go Go.Conc Go.Proofs
theorem UK:LF false true false 1 1:={}
theorem UJ:LF false true false 1 2:={}
theorem UI:LF false true false 1 3:={}
theorem UH:LF false true false 1 4:={}
theorem UG:LF false true false 2 1:={}
theorem UF:LF false true false 2 2:={}
theorem UE:LF false true false 2 3:={}
theorem UD:LF false true false 2 4:={}
theorem UC:LF false true false 3 1:={}
theorem UB:LF false true false 3 2:={}
theorem UA:LF false true false 3 3:={}
theorem Uz:LF false true false 3 4:={}
theorem Uy:LF false true false 4 1:={}
theorem Ux:LF false true false 4 2:={}
theorem Uw:LF false true false 4 3:={}
theorem Uv:LF false true false 4 4:={}
end Go.AM
