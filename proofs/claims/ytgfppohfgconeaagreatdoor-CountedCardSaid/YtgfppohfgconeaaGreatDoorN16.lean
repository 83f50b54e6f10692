/-
  What the claim stands on, part 16.
-/
import Derived.Test.YtgfppohfgconeaaGreatDoorN12
set_option linter.unusedVariables false
set_option linter.unusedSimpArgs false
namespace Go.AM
set_option maxRecDepth 1000000
open Go Go.Conc Go.Proofs
theorem Ub:LF true true false 1 1:={}
theorem Ua:LF true true false 1 2:={}
theorem T9:LF true true false 1 3:={}
theorem T7:LF true true false 1 4:={}
theorem T6:LF true true false 2 1:={}
theorem T5:LF true true false 2 2:={}
theorem T4:LF true true false 2 3:={}
theorem T3:LF true true false 2 4:={}
theorem T2:LF true true false 3 1:={}
theorem T0:LF true true false 3 2:={}
theorem TZ:LF true true false 3 3:={}
theorem TY:LF true true false 3 4:={}
theorem TX:LF true true false 4 1:={}
theorem TW:LF true true false 4 2:={}
theorem TV:LF true true false 4 3:={}
theorem TU:LF true true false 4 4:={}
end Go.AM
