/-
  What the claim stands on, part 13.
-/
import Derived.Test.YtgfppohfgconeaaGreatDoorN12
set_option linter.unusedVariables false
set_option linter.unusedSimpArgs false
namespace Go.AM
set_option maxRecDepth 1000000
open Go Go.Conc Go.Proofs
theorem UT:LF false false false 1 1:={}
theorem US:LF false false false 1 2:={}
theorem UR:LF false false false 1 3:={}
theorem UQ:LF false false false 1 4:={}
theorem UP:LF false false false 2 2:={}
theorem UO:LF false false false 2 3:={}
theorem UN:LF false false false 2 4:={}
theorem UM:LF false false false 3 3:={}
theorem UL:LF false false false 3 4:={}
theorem Uu:LF false true true 1 1:={}
theorem Ut:LF false true true 2 1:={}
theorem Us:LF false true true 2 2:={}
theorem Ur:LF false true true 3 1:={}
theorem Uq:LF false true true 3 2:={}
theorem Up:LF false true true 3 3:={}
theorem Uo:LF false true true 4 1:={}
theorem Un:LF false true true 4 2:={}
theorem Um:LF false true true 4 3:={}
theorem Ul:LF false true true 4 4:={}
end Go.AM
