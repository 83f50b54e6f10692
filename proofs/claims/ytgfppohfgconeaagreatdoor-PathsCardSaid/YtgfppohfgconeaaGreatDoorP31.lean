/-
  What the claim stands on, part 31.
-/
import Derived.Test.YtgfppohfgconeaaGreatDoorP12
import Derived.Test.YtgfppohfgconeaaGreatDoorP13
import Derived.Test.YtgfppohfgconeaaGreatDoorP14
import Derived.Test.YtgfppohfgconeaaGreatDoorP15
import Derived.Test.YtgfppohfgconeaaGreatDoorP16
import Derived.Test.YtgfppohfgconeaaGreatDoorP17
import Derived.Test.YtgfppohfgconeaaGreatDoorP18
import Derived.Test.YtgfppohfgconeaaGreatDoorP19
import Derived.Test.YtgfppohfgconeaaGreatDoorP20
import Derived.Test.YtgfppohfgconeaaGreatDoorP21
import Derived.Test.YtgfppohfgconeaaGreatDoorP22
import Derived.Test.YtgfppohfgconeaaGreatDoorP23
import Derived.Test.YtgfppohfgconeaaGreatDoorP24
import Derived.Test.YtgfppohfgconeaaGreatDoorP25
import Derived.Test.YtgfppohfgconeaaGreatDoorP26
import Derived.Test.YtgfppohfgconeaaGreatDoorP27
import Derived.Test.YtgfppohfgconeaaGreatDoorP28
import Derived.Test.YtgfppohfgconeaaGreatDoorP29
import Derived.Test.YtgfppohfgconeaaGreatDoorP30
set_option linter.unusedVariables false
set_option linter.unusedSimpArgs false
open List renaming all_eq_true → aB, mem_cons → aN
namespace Go.AM
set_option maxRecDepth 1000000
open Go Go.Conc Go.Proofs
theorem alO {s:Nat}(h:s<12):s=0\/s=1\/s=2\/s=3\/s=4\/s=5\/s=6\/s=7\/s=8\/s=9\/s=10\/s=11:=ai
theorem R9 {a b:Nat}(d:a<12)(c:b<12):(F7 a b).fact=true:=by
 have h:rO a=true:=by
  obtain rfl|rfl|rfl|rfl|rfl|rfl|rfl|rfl|rfl|rfl|rfl|rfl:a=0\/a=1\/a=2\/a=3\/a=4\/a=5\/a=6\/a=7\/a=8\/a=9\/a=10\/a=11:=ai
  .exact afD
  .exact afC
  .exact afB
  .exact afA
  .exact afz
  .exact afy
  .exact afx
  .exact afw
  .exact afv
  .exact afu
  .exact abV
  .exact abU
 unfold rO at h;exact aB.1 h b (List.mem_range.2 c)
theorem aft:∀{j:Nat},j<12->(aS 0 j).fact=true
 |0,_=>abT
 |1,_=>abS
 |2,_=>abR
 |3,_=>abQ
 |4,_=>abP
 |5,_=>abO
 |6,_=>abN
 |7,_=>abM
 |8,_=>abL
 |9,_=>abK
 |10,_=>VA
 |11,_=>Vz
 |_+12,h=>absurd h ai
theorem afs:∀{j:Nat},j<12->(aS 1 j).fact=true
 |0,_=>abJ
 |1,_=>abI
 |2,_=>abH
 |3,_=>abG
 |4,_=>abF
 |5,_=>abE
 |6,_=>abD
 |7,_=>abC
 |8,_=>abB
 |9,_=>abA
 |10,_=>Ve
 |11,_=>Vd
 |_+12,h=>absurd h ai
theorem afr:∀{j:Nat},j<12->(aS 2 j).fact=true
 |0,_=>abz
 |1,_=>aby
 |2,_=>abx
 |3,_=>abw
 |4,_=>abv
 |5,_=>abu
 |6,_=>abt
 |7,_=>abr
 |8,_=>abq
 |9,_=>abp
 |10,_=>Vb
 |11,_=>Va
 |_+12,h=>absurd h ai
theorem afq:∀{j:Nat},j<12->(aS 3 j).fact=true
 |0,_=>abo
 |1,_=>abn
 |2,_=>abm
 |3,_=>abl
 |4,_=>abk
 |5,_=>abj
 |6,_=>abi
 |7,_=>abh
 |8,_=>abg
 |9,_=>abf
 |10,_=>U'
 |11,_=>U9
 |_+12,h=>absurd h ai
theorem afp:∀{j:Nat},j<12->(aS 4 j).fact=true
 |0,_=>abe
 |1,_=>abd
 |2,_=>abc
 |3,_=>abb
 |4,_=>aba
 |5,_=>aa9
 |6,_=>aa8
 |7,_=>aa7
 |8,_=>aa6
 |9,_=>aa5
 |10,_=>U8
 |11,_=>U7
 |_+12,h=>absurd h ai
theorem afo:∀{j:Nat},j<12->(aS 5 j).fact=true
 |0,_=>aa4
 |1,_=>aa3
 |2,_=>aa2
 |3,_=>aa1
 |4,_=>aa0
 |5,_=>aaZ
 |6,_=>aaY
 |7,_=>aaX
 |8,_=>aaW
 |9,_=>aaV
 |10,_=>U6
 |11,_=>U5
 |_+12,h=>absurd h ai
theorem afn:∀{j:Nat},j<12->(aS 6 j).fact=true
 |0,_=>aaU
 |1,_=>aaT
 |2,_=>aaS
 |3,_=>aaR
 |4,_=>aaQ
 |5,_=>aaP
 |6,_=>aaO
 |7,_=>aaN
 |8,_=>aaM
 |9,_=>aaL
 |10,_=>U4
 |11,_=>U3
 |_+12,h=>absurd h ai
theorem afm:∀{j:Nat},j<12->(aS 7 j).fact=true
 |0,_=>aaK
 |1,_=>aaJ
 |2,_=>aaI
 |3,_=>aaH
 |4,_=>aaG
 |5,_=>aaF
 |6,_=>aaE
 |7,_=>aaD
 |8,_=>aaC
 |9,_=>aaB
 |10,_=>U2
 |11,_=>U1
 |_+12,h=>absurd h ai
theorem afl:∀{j:Nat},j<12->(aS 8 j).fact=true
 |0,_=>aaA
 |1,_=>aaz
 |2,_=>aay
 |3,_=>aax
 |4,_=>aaw
 |5,_=>aav
 |6,_=>aau
 |7,_=>aat
 |8,_=>aas
 |9,_=>aar
 |10,_=>U0
 |11,_=>UZ
 |_+12,h=>absurd h ai
theorem afk:∀{j:Nat},j<12->(aS 9 j).fact=true
 |0,_=>aaq
 |1,_=>aap
 |2,_=>aao
 |3,_=>aan
 |4,_=>aam
 |5,_=>aal
 |6,_=>aak
 |7,_=>aaj
 |8,_=>aai
 |9,_=>aah
 |10,_=>UY
 |11,_=>UX
 |_+12,h=>absurd h ai
theorem aag:∀{j:Nat},j<12->(aS 10 j).fact=true
 |0,_=>Vy
 |1,_=>Vx
 |2,_=>Vw
 |3,_=>Vv
 |4,_=>Vu
 |5,_=>Vt
 |6,_=>Vs
 |7,_=>Vr
 |8,_=>Vq
 |9,_=>Vp
 |10,_=>R7
 |11,_=>R6
 |_+12,h=>absurd h ai
theorem aaf:∀{j:Nat},j<12->(aS 11 j).fact=true
 |0,_=>Vo
 |1,_=>Vn
 |2,_=>Vm
 |3,_=>Vl
 |4,_=>Vk
 |5,_=>Vj
 |6,_=>Vi
 |7,_=>Vh
 |8,_=>Vg
 |9,_=>Vf
 |10,_=>R5
 |11,_=>R4
 |_+12,h=>absurd h ai
theorem NQ {i j:Nat}(hi:i<12)(a:j<12):(aS i j).fact=true:=by
 obtain rfl|rfl|rfl|rfl|rfl|rfl|rfl|rfl|rfl|rfl|rfl|rfl:=alO hi
 .exact aft a
 .exact afs a
 .exact afr a
 .exact afq a
 .exact afp a
 .exact afo a
 .exact afn a
 .exact afm a
 .exact afl a
 .exact afk a
 .exact aag a
 .exact aaf a
def KP:List gv:=UW::(List.range 144).map λk=>aS (k / 12) (k%12)
theorem US:D8 ((Bg KP).map gv.text)=true:=aM
theorem rS:JV KP:=⟨λh=>by
 rcases aN.1 h with rfl|h
 .exact⟨NR,rfl,rfl,_,rfl⟩
 .obtain⟨k,a,rfl⟩:=List.mem_map.1 h;have a:=List.mem_range.1 a;exact⟨NQ ai (Nat.mod_lt _ eJ),rfl,rfl,_,rfl⟩,US,R9⟩
theorem R2 {i j:Nat}(hi:i<12)(a:j<12):aS i j∈Bg KP:=by
 refine List.mem_append.2 (.inl (.tail _ (.tail _ (List.mem_map.2 ⟨i*12+j,List.mem_range.2 ai,?_⟩))))
 show aS ((i*12+j) / 12) ((i*12+j)%12)=_
 rw[show(i*12+j) / 12=i by omega,show(i*12+j)%12=j by omega]
theorem R3:UW∈Bg KP:=List.mem_append.2 (.inl (.tail _ (.head _)))
end Go.AM
