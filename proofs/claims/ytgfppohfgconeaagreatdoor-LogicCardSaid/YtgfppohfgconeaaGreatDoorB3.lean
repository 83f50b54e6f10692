/-
  ALL THE ROWS OF 'Logic'.
-/
import Derived.Test.YtgfppohfgconeaaGreatDoorA9
import Derived.Test.YtgfppohfgconeaaGreatDoorR0
import Derived.Test.YtgfppohfgconeaaGreatDoorR1
import Derived.Test.YtgfppohfgconeaaGreatDoorR2
import Derived.Test.YtgfppohfgconeaaGreatDoorR3
import Derived.Test.YtgfppohfgconeaaGreatDoorR4
import Derived.Test.YtgfppohfgconeaaGreatDoorR5
import Derived.Test.YtgfppohfgconeaaGreatDoorR6
import Derived.Test.YtgfppohfgconeaaGreatDoorR7
import Derived.Test.YtgfppohfgconeaaGreatDoorR8
import Derived.Test.YtgfppohfgconeaaGreatDoorR9
set_option linter.unusedVariables false
set_option linter.unusedSimpArgs false
set_option maxRecDepth 1000000
namespace Go.AM
open Go Go.Conc Go.Proofs

def rowsL : List Row := qs0 ++ (qs1 ++ (qs2 ++ (qs3 ++ (qs4 ++ (qs5 ++ (qs6 ++ (qs7 ++ (qs8 ++ (qs9 ++ (qs10 ++ (qs11 ++ (qs12 ++ (qs13 ++ (qs14 ++ (qs15 ++ (qs16 ++ (qs17 ++ (qs18 ++ (qs19 ++ (qs20 ++ (qs21 ++ (qs22 ++ (qs23 ++ (qs24 ++ (qs25 ++ (qs26 ++ (qs27 ++ (qs28 ++ (qs29 ++ (qs30 ++ (qs31 ++ (qs32 ++ (qs33 ++ (qs34 ++ (qs35)))))))))))))))))))))))))))))))))))
theorem all_app {l r : List Row} (h : (l.all fun x => x.fact Ct) = true) (k : (r.all fun x => x.fact Ct) = true) : ((l ++ r).all fun x => x.fact Ct) = true := by
  rw [List.all_append, h, k]
  rfl
theorem rowsL_fact : (rowsL.all fun x => x.fact Ct) = true :=
  all_app qs0_fact (all_app qs1_fact (all_app qs2_fact (all_app qs3_fact (all_app qs4_fact (all_app qs5_fact (all_app qs6_fact (all_app qs7_fact (all_app qs8_fact (all_app qs9_fact (all_app qs10_fact (all_app qs11_fact (all_app qs12_fact (all_app qs13_fact (all_app qs14_fact (all_app qs15_fact (all_app qs16_fact (all_app qs17_fact (all_app qs18_fact (all_app qs19_fact (all_app qs20_fact (all_app qs21_fact (all_app qs22_fact (all_app qs23_fact (all_app qs24_fact (all_app qs25_fact (all_app qs26_fact (all_app qs27_fact (all_app qs28_fact (all_app qs29_fact (all_app qs30_fact (all_app qs31_fact (all_app qs32_fact (all_app qs33_fact (all_app qs34_fact qs35_fact))))))))))))))))))))))))))))))))))
theorem rowsL_body : ((krow :: rowsL).all fun x => bodied Tryz.prog x.f) = true := by kernel_rfl
theorem rowsL_ok : ∀ r ∈ krow :: rowsL, r.fact Ct = true ∧ bodied Tryz.prog r.f = true := fun r hr =>
  ⟨(List.mem_cons.1 hr).elim (fun e => e ▸ krow_fact) fun h => List.all_eq_true.1 rowsL_fact r h, List.all_eq_true.1 rowsL_body r hr⟩
end Go.AM
