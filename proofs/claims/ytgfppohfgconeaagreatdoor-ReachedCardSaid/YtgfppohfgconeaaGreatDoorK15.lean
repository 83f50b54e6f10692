/-
  What the claim stands on, part 15.
-/
import Derived.Test.YtgfppohfgconeaaGreatDoorK10
set_option linter.unusedVariables false
set_option linter.unusedSimpArgs false
namespace Go.AM
set_option maxRecDepth 1000000
open Go Go.Conc Go.Proofs
theorem Sa (s:Nat)(o:Option Nat):(fK (wD 0 s) o).Fact (fK (wD 0 s) o).J:=by cases o<;>exact⟨aY,aY,aY⟩
theorem R9 (s:Nat)(o:Option Nat):(fK (wD 1 s) o).Fact (fK (wD 1 s) o).J:=by cases o<;>exact⟨aY,aY,aY⟩
theorem R8 (s:Nat)(o:Option Nat):(fK (wD 2 s) o).Fact (fK (wD 2 s) o).J:=by cases o<;>exact⟨aY,aY,aY⟩
theorem R7 (s:Nat)(o:Option Nat):(fK (wD 3 s) o).Fact (fK (wD 3 s) o).J:=by cases o<;>exact⟨aY,aY,aY⟩
end Go.AM
