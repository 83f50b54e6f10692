/-
  What the claim stands on, part 7.
-/
import Derived.Test.YtgfppohfgconeaaGreatDoorK6
import Derived.Sort.LotD3
import Derived.Sort.LotD5
import Derived.Sort.LotC
import Derived.Sort.LotA
import Derived.Sort.LotB
set_option linter.unusedVariables false
set_option linter.unusedSimpArgs false
open Go.Proofs.Tryz renaming prog → ab
open Go renaming Value → ae, TypeId → aM, IntKind → cf
open Nat renaming le_of_ble_eq_true → af, le_refl → ai, eq_of_beq_eq_true → aA, lt_of_lt_of_le → aW, le_trans → cp
open Bool renaming and_eq_true → ag
open Option.some renaming injEq → ah
open Prod.mk renaming injEq → ay
open List renaming all_eq_true → aB, mem_cons → aI
open Option renaming bind_some → a9, map_some → cN
namespace Go.AM
set_option maxRecDepth 1000000
open Go Go.Conc Go.Proofs
def cd (b:Bool):V:=⟨3,0,.empty,b⟩
def ag2 (n:Int):V:=⟨1,n,.empty,false⟩
def yU (a b:Int):Int:=cf.i64.wrap (a.tdiv b)
def LI (a b:Int):Int:=a.tmod b
def PR (a b:Int):Int×Bool:=(fg a b,qE (fg a b) a==qE b 0)
def adR (a b:Int):Int×Bool:=(oF a b,gB (oF a b) a==qE b 0)
def Fh (a b:Int):Int×Bool:=if a=0\/b=0 then(0,true)else(oK a b,decide (yU (oK a b) b=a)&&(gB (oK a b) 0== !(gB a 0==gB b 0)))
def LL (a b:Int):Int×Bool:=if b=0\/(a= -9223372036854775808/\b= -1)then(0,false)else(yU a b,true)
def Td (a b:Int):Int×Bool:=if b=0 then(0,false)else(LI a b,true)
def Ds (op a b:Int):Int×Bool:=if op=17 then PR a b else if op=18 then adR a b else if op=10 then Fh a b else if op=19 then LL a b else Td a b
def mj (op a b:Int):V×Int:=if(Ds op a b).2=true then(ag2 (Ds op a b).1,0)else(cV,8)
def Ag (a b:ByteArray):V×Int:=if 250<a.size+b.size then(cV,8)else(⟨2,0,a++b,false⟩,0)
def uk (op o:Int):Bool:=if op=11 then dd o 0 else if op=12 then tB o 0 else if op=13 then gB o 0 else if op=14 then Yu o 0 else if op=15 then qE o 0 else EE o 0
def vm (v:V):V:=if v.k=0 then cV else cd (!v.b)
def EH (l r d:V):V:=if l.beq d=true\/r.beq d=true then d else if l.k=0\/r.k=0 then cV else vm d
def sM (op:Int)(l r:V):V×Int:=
 if op=23\/op=37 then(EH l r (cd (dd op 37)),0)else if l.k=0\/r.k=0 then(cV,0)else
 if op=17\/op=18\/op=10\/op=19\/op=20 then mj op l.n r.n else if op=21 then Ag l.s r.s else(cd (uk op (kB l r)),0)
theorem eq4 (cx cy a b:Bool):jZ ab .eql 4 cx cy (.bool a) (.bool b)=some (.bool (a==b)):=by cases cx<;>cases cy<;>cases a<;>cases b<;>kernel_rfl
theorem ne4 (cx cy a b:Bool):jZ ab .neq 4 cx cy (.bool a) (.bool b)=some (.bool (!(a==b))):=by cases cx<;>cases cy<;>cases a<;>cases b<;>kernel_rfl
theorem abO (cx cy:Bool)(a b:Int)(hb:b≠0):jZ ab .quo 3 cx cy (vI a) (vI b)=some (vI (yU a b)):=by
 refine zY rfl ?_ rfl;rw[gY]
 show(Op.intDiv .quo .i64 a b).aH ab=_
 unfold Op.intDiv;simp only[hb,if_false];rfl
theorem abL (cx cy:Bool)(a b:Int)(hb:b≠0):jZ ab .rem 3 cx cy (vI a) (vI b)=some (vI (LI a b)):=by
 refine zY rfl ?_ rfl;rw[gY]
 show(Op.intDiv .rem .i64 a b).aH ab=_
 unfold Op.intDiv;simp only[hb,if_false];rfl
theorem Q0 (a b:Int)(hb:b≠0):kK Nat.div .i64 a b (jZ ab .quo 3 false false (vI a) (vI b))=some (vI (yU a b)):=by
 rw[abO _ _ a b hb];unfold kK
 split
 ·rename_i i
  split
  ·rename_i j
   split
   ·rename_i h;have h:i<9223372036854775808:=Nat.lt_of_succ_le (af h);have e:yU (.ofNat i) (.ofNat (j+1))=((i / (j+1):Nat):Int):=by
     unfold yU;rw[show Int.tdiv (.ofNat i) (.ofNat (j+1))=((i / (j+1):Nat):Int)from rfl];have h2:=Nat.div_le_self i (j+1);generalize i / (j+1)=d at h2;exact r7 ⟨aj,aj⟩
    rw[e];rfl
   ·rfl
  ·rfl
 ·rfl
theorem VH (a b:Int)(hb:b≠0):kK Nat.mod .i64 a b (jZ ab .rem 3 false false (vI a) (vI b))=some (vI (LI a b)):=by
 rw[abL _ _ a b hb];unfold kK
 split
 ·rename_i i
  split
  ·rename_i j
   split
   ·rename_i h;have h:i<9223372036854775808:=Nat.lt_of_succ_le (af h);have e:LI (.ofNat i) (.ofNat (j+1))=((i%(j+1):Nat):Int):=by
     rfl
    rw[e];rfl
   ·rfl
  ·rfl
 ·rfl
section
variable {K:gS}{m:Mem}
theorem ajW (b:Bool)(bZ:Nat):Path 278 [.bool b]
 [dN nY bZ,
  jK bZ 0 [vI 3,vI 0,qZ,.bool b],
  rY 49 bZ (.agg #[vI 3,vI 0,qZ,.bool b])]
 (.agg #[vI 3,vI 0,qZ,.bool b]):=fB
theorem ajV (v:V)(bZ:Nat):Path 332 [bQ v]
 [dN (qj v) bZ,
  .mem (aP bZ 0) (vI v.k)]
 (.bool (dd v.k 0)):=fB
theorem agb (v:V)(bZ dG:Nat):Path 336 [bQ v]
 [dN (qj v) bZ,
  dN nY dG,
  iR 4 bZ (bQ v),
  .call 332 [bQ v] (.bool true),
  oZ,
  jK dG 0 [vI 0,vI 0,qZ,.bool false],
  rY 49 dG (.agg #[vI 0,vI 0,qZ,.bool false])]
 (.agg #[vI 0,vI 0,qZ,.bool false]):=fB
theorem agc (v u:V)(bZ dG:Nat):Path 336 [bQ v]
 [dN (qj v) bZ,
  dN nY dG,
  iR 4 bZ (bQ v),
  .call 332 [bQ v] (.bool false),
  eE,
  .mem (aP bZ 3) (.bool v.b),
  .call 278 [.bool (!v.b)] (bQ u),
  jK dG 0 (sR u),
  rY 49 dG (bQ u)]
 (bQ u):=fB
theorem ajR (v u:V)(b:Bool)(bZ dG:Nat):Path 350 [bQ v]
 [dN (qj v) bZ,
  dN nY dG,
  iR 4 bZ (bQ v),
  .call 332 [bQ v] (.bool b),
  .call 278 [.bool b] (bQ u),
  jK dG 0 (sR u),
  rY 49 dG (bQ u)]
 (bQ u):=fB
theorem ajX (v u:V)(b:Bool)(bZ Ny:Nat):Path 273 [bQ v]
 [dN (qj v) bZ,
  iR 4 bZ (bQ v),
  .mem (gk (vP bZ 0)) (vI Ny),
  oY,
  .call 278 [.bool true] (bQ u),
  .mem (cZ (vI Ny) (vP bZ 0) (eI ab 49 (vP bZ 0))) undef,
  .val (jZ ab .eql 49 false false (bQ v) (bQ u)) (.bool b)]
 (.bool b):=fB
theorem agl (l r d:V)(bZ dG im Ge:Nat):Path 331 [bQ l,bQ r,bQ d]
 [dN (qj l) bZ,
  dN (qj r) dG,
  dN (qj d) im,
  dN nY Ge,
  iR 4 bZ (bQ l),
  iR 4 im (bQ d),
  .val (jZ ab .eql 49 false false (bQ l) (bQ d)) (.bool true),
  oZ,
  oZ,
  oZ,
  oZ,
  oZ,
  iR 4 im (bQ d),
  jK Ge 0 (sR d),
  rY 49 Ge (bQ d)]
 (bQ d):=fB
theorem agi (l r d:V)(bZ dG im Ge:Nat):Path 331 [bQ l,bQ r,bQ d]
 [dN (qj l) bZ,
  dN (qj r) dG,
  dN (qj d) im,
  dN nY Ge,
  iR 4 bZ (bQ l),
  iR 4 im (bQ d),
  .val (jZ ab .eql 49 false false (bQ l) (bQ d)) (.bool false),
  eE,
  iR 4 dG (bQ r),
  eE,
  iR 4 im (bQ d),
  eE,
  .val (jZ ab .eql 49 false false (bQ r) (bQ d)) (.bool true),
  eE,
  oZ,
  iR 4 im (bQ d),
  jK Ge 0 (sR d),
  rY 49 Ge (bQ d)]
 (bQ d):=fB
theorem agj (l r d:V)(bZ dG im Ge:Nat):Path 331 [bQ l,bQ r,bQ d]
 [dN (qj l) bZ,
  dN (qj r) dG,
  dN (qj d) im,
  dN nY Ge,
  iR 4 bZ (bQ l),
  iR 4 im (bQ d),
  .val (jZ ab .eql 49 false false (bQ l) (bQ d)) (.bool false),
  eE,
  iR 4 dG (bQ r),
  eE,
  iR 4 im (bQ d),
  eE,
  .val (jZ ab .eql 49 false false (bQ r) (bQ d)) (.bool false),
  eE,
  eE,
  iR 4 bZ (bQ l),
  .call 332 [bQ l] (.bool true),
  oZ,
  oZ,
  oZ,
  oZ,
  jK Ge 0 [vI 0,vI 0,qZ,.bool false],
  rY 49 Ge (.agg #[vI 0,vI 0,qZ,.bool false])]
 (.agg #[vI 0,vI 0,qZ,.bool false]):=fB
theorem agk (l r d:V)(bZ dG im Ge:Nat):Path 331 [bQ l,bQ r,bQ d]
 [dN (qj l) bZ,
  dN (qj r) dG,
  dN (qj d) im,
  dN nY Ge,
  iR 4 bZ (bQ l),
  iR 4 im (bQ d),
  .val (jZ ab .eql 49 false false (bQ l) (bQ d)) (.bool false),
  eE,
  iR 4 dG (bQ r),
  eE,
  iR 4 im (bQ d),
  eE,
  .val (jZ ab .eql 49 false false (bQ r) (bQ d)) (.bool false),
  eE,
  eE,
  iR 4 bZ (bQ l),
  .call 332 [bQ l] (.bool false),
  eE,
  iR 4 dG (bQ r),
  eE,
  .call 332 [bQ r] (.bool true),
  eE,
  oZ,
  jK Ge 0 [vI 0,vI 0,qZ,.bool false],
  rY 49 Ge (.agg #[vI 0,vI 0,qZ,.bool false])]
 (.agg #[vI 0,vI 0,qZ,.bool false]):=fB
theorem agm (l r d u:V)(bZ dG im Ge:Nat):Path 331 [bQ l,bQ r,bQ d]
 [dN (qj l) bZ,
  dN (qj r) dG,
  dN (qj d) im,
  dN nY Ge,
  iR 4 bZ (bQ l),
  iR 4 im (bQ d),
  .val (jZ ab .eql 49 false false (bQ l) (bQ d)) (.bool false),
  eE,
  iR 4 dG (bQ r),
  eE,
  iR 4 im (bQ d),
  eE,
  .val (jZ ab .eql 49 false false (bQ r) (bQ d)) (.bool false),
  eE,
  eE,
  iR 4 bZ (bQ l),
  .call 332 [bQ l] (.bool false),
  eE,
  iR 4 dG (bQ r),
  eE,
  .call 332 [bQ r] (.bool false),
  eE,
  eE,
  iR 4 im (bQ d),
  .call 336 [bQ d] (bQ u),
  jK Ge 0 (sR u),
  rY 49 Ge (bQ u)]
 (bQ u):=fB
theorem ajU (a b:Int)(b1:Bool):Path 338 [vI a,vI b]
 [.val (jZ ab .eql 4 false false (.bool (qE (fg a b) a)) (.bool (qE b 0))) (.bool b1)]
 (.tuple #[vI (fg a b),.bool b1]):=fB
theorem ajT (a b:Int)(b1:Bool):Path 339 [vI a,vI b]
 [.val (jZ ab .eql 4 false false (.bool (gB (oF a b) a)) (.bool (qE b 0))) (.bool b1)]
 (.tuple #[vI (oF a b),.bool b1]):=fB
theorem af7 (a b:Int):Path 340 [vI a,vI b]
 [bP (dd a 0) true,
  bP (dd a 0) true,
  bP (dd a 0) true,
  oZ]
 (.tuple #[vI 0,.bool true]):=fB
theorem af8 (a b:Int):Path 340 [vI a,vI b]
 [bP (dd a 0) false,
  bP (dd a 0) false,
  bP (dd a 0) false,
  bP (dd b 0) true]
 (.tuple #[vI 0,.bool true]):=fB
theorem aga (a b:Int)(b1:Bool)(x1:Int):Path 340 [vI a,vI b]
 [bP (dd a 0) false,
  bP (dd a 0) false,
  bP (dd a 0) false,
  bP (dd b 0) false,
  .val (jZ ab .neq 4 false false (.bool (gB a 0)) (.bool (gB b 0))) (.bool b1),
  .val (kK Nat.div .i64 (oK a b) b (jZ ab .quo 3 false false (vI (oK a b)) (vI b))) (vI x1),
  bP (dd x1 a) false,
  bP (dd x1 a) false,
  bP (dd x1 a) false,
  bP (dd x1 a) false,
  bP (dd x1 a) false]
 (.tuple #[vI (oK a b),.bool false]):=fB
theorem af9 (a b:Int)(b1 b2:Bool)(x1:Int):Path 340 [vI a,vI b]
 [bP (dd a 0) false,
  bP (dd a 0) false,
  bP (dd a 0) false,
  bP (dd b 0) false,
  .val (jZ ab .neq 4 false false (.bool (gB a 0)) (.bool (gB b 0))) (.bool b1),
  .val (kK Nat.div .i64 (oK a b) b (jZ ab .quo 3 false false (vI (oK a b)) (vI b))) (vI x1),
  bP (dd x1 a) true,
  bP (dd x1 a) true,
  bP (dd x1 a) true,
  bP (dd x1 a) true,
  .val (jZ ab .eql 4 false false (.bool (gB (oK a b) 0)) (.bool b1)) (.bool b2),
  bP (dd x1 a) true]
 (.tuple #[vI (oK a b),.bool b2]):=fB
theorem af3 (a b:Int):Path 341 [vI a,vI b]
 [bP (dd b 0) true,
  bP (dd b 0) true,
  bP (dd b 0) true,
  bP (dd b 0) true,
  bP (dd b 0) true,
  oZ]
 (.tuple #[vI 0,.bool false]):=fB
theorem af6 (a b:Int)(x1:Int):Path 341 [vI a,vI b]
 [bP (dd b 0) false,
  bP (dd b 0) false,
  bP (dd b 0) false,
  bP (dd a (-9223372036854775808)) false,
  bP (dd a (-9223372036854775808)) false,
  bP (dd b 0) false,
  bP (dd a (-9223372036854775808)) false,
  bP (dd b 0) false,
  eE,
  .val (kK Nat.div .i64 a b (jZ ab .quo 3 false false (vI a) (vI b))) (vI x1)]
 (.tuple #[vI x1,.bool true]):=fB
theorem af5 (a b:Int):Path 341 [vI a,vI b]
 [bP (dd b 0) false,
  bP (dd b 0) false,
  bP (dd b 0) false,
  bP (dd a (-9223372036854775808)) true,
  bP (dd a (-9223372036854775808)) true,
  bP (dd b 0) false,
  bP (dd a (-9223372036854775808)) true,
  bP (dd b 0) false,
  bP (dd b (-1)) true]
 (.tuple #[vI 0,.bool false]):=fB
theorem af4 (a b:Int)(x1:Int):Path 341 [vI a,vI b]
 [bP (dd b 0) false,
  bP (dd b 0) false,
  bP (dd b 0) false,
  bP (dd a (-9223372036854775808)) true,
  bP (dd a (-9223372036854775808)) true,
  bP (dd b 0) false,
  bP (dd a (-9223372036854775808)) true,
  bP (dd b 0) false,
  bP (dd b (-1)) false,
  .val (kK Nat.div .i64 a b (jZ ab .quo 3 false false (vI a) (vI b))) (vI x1)]
 (.tuple #[vI x1,.bool true]):=fB
theorem af1 (a b:Int):Path 342 [vI a,vI b]
 [bP (dd b 0) true]
 (.tuple #[vI 0,.bool false]):=fB
theorem af2 (a b:Int)(x1:Int):Path 342 [vI a,vI b]
 [bP (dd b 0) false,
  .val (kK Nat.mod .i64 a b (jZ ab .rem 3 false false (vI a) (vI b))) (vI x1)]
 (.tuple #[vI x1,.bool true]):=fB
theorem ab7 (op a b x:Int)(y:Bool):Path 337 [vI op,vI a,vI b]
 [bP (dd op 17) true,
  .call 338 [vI a,vI b] (.tuple #[vI x,.bool y])]
 (.tuple #[vI x,.bool y]):=fB
theorem ab6 (op a b x:Int)(y:Bool):Path 337 [vI op,vI a,vI b]
 [bP (dd op 17) false,
  bP (dd op 18) true,
  .call 339 [vI a,vI b] (.tuple #[vI x,.bool y])]
 (.tuple #[vI x,.bool y]):=fB
theorem ab5 (op a b x:Int)(y:Bool):Path 337 [vI op,vI a,vI b]
 [bP (dd op 17) false,
  bP (dd op 18) false,
  bP (dd op 10) true,
  .call 340 [vI a,vI b] (.tuple #[vI x,.bool y])]
 (.tuple #[vI x,.bool y]):=fB
theorem ab4 (op a b x:Int)(y:Bool):Path 337 [vI op,vI a,vI b]
 [bP (dd op 17) false,
  bP (dd op 18) false,
  bP (dd op 10) false,
  bP (dd op 19) true,
  .call 341 [vI a,vI b] (.tuple #[vI x,.bool y])]
 (.tuple #[vI x,.bool y]):=fB
theorem ab3 (op a b x:Int)(y:Bool):Path 337 [vI op,vI a,vI b]
 [bP (dd op 17) false,
  bP (dd op 18) false,
  bP (dd op 10) false,
  bP (dd op 19) false,
  .call 342 [vI a,vI b] (.tuple #[vI x,.bool y])]
 (.tuple #[vI x,.bool y]):=fB
theorem agh (op a b x:Int)(bZ:Nat):Path 333 [vI op,vI a,vI b]
 [dN nY bZ,
  .call 337 [vI op,vI a,vI b] (.tuple #[vI x,.bool false]),
  oZ,
  jK bZ 0 [vI 0,vI 0,qZ,.bool false],
  rY 49 bZ (.agg #[vI 0,vI 0,qZ,.bool false])]
 (.tuple #[.agg #[vI 0,vI 0,qZ,.bool false],vI 8]):=fB
theorem agf (op a b x:Int)(bZ:Nat):Path 333 [vI op,vI a,vI b]
 [dN nY bZ,
  .call 337 [vI op,vI a,vI b] (.tuple #[vI x,.bool true]),
  eE,
  jK bZ 0 [vI 1,vI x,qZ,.bool false],
  rY 49 bZ (.agg #[vI 1,vI x,qZ,.bool false])]
 (.tuple #[.agg #[vI 1,vI x,qZ,.bool false],vI 0]):=fB
theorem age (a b:ByteArray)(bZ:Nat):Path 334 [iF a,iF b]
 [dN nY bZ,
  bP (qE (fg (a.size:Int) (b.size:Int)) 250) true,
  jK bZ 0 [vI 0,vI 0,qZ,.bool false],
  rY 49 bZ (.agg #[vI 0,vI 0,qZ,.bool false])]
 (.tuple #[.agg #[vI 0,vI 0,qZ,.bool false],vI 8]):=fB
theorem agd (a b:ByteArray)(bZ:Nat):Path 334 [iF a,iF b]
 [dN nY bZ,
  bP (qE (fg (a.size:Int) (b.size:Int)) 250) false,
  .val (vw a b) (iF (a++b)),
  jK bZ 0 [vI 2,vI 0,iF (a++b),.bool false],
  rY 49 bZ (.agg #[vI 2,vI 0,iF (a++b),.bool false])]
 (.tuple #[.agg #[vI 2,vI 0,iF (a++b),.bool false],vI 0]):=fB
theorem ace (op o:Int):Path 335 [vI op,vI o]
 [bP (dd op 11) true]
 (.bool (dd o 0)):=fB
theorem acd (op o:Int):Path 335 [vI op,vI o]
 [bP (dd op 11) false,
  bP (dd op 12) true]
 (.bool (tB o 0)):=fB
theorem acb (op o:Int):Path 335 [vI op,vI o]
 [bP (dd op 11) false,
  bP (dd op 12) false,
  bP (dd op 13) true]
 (.bool (gB o 0)):=fB
theorem aca (op o:Int):Path 335 [vI op,vI o]
 [bP (dd op 11) false,
  bP (dd op 12) false,
  bP (dd op 13) false,
  bP (dd op 14) true]
 (.bool (Yu o 0)):=fB
theorem ab9 (op o:Int):Path 335 [vI op,vI o]
 [bP (dd op 11) false,
  bP (dd op 12) false,
  bP (dd op 13) false,
  bP (dd op 14) false,
  bP (dd op 15) true]
 (.bool (qE o 0)):=fB
theorem ab8 (op o:Int):Path 335 [vI op,vI o]
 [bP (dd op 11) false,
  bP (dd op 12) false,
  bP (dd op 13) false,
  bP (dd op 14) false,
  bP (dd op 15) false]
 (.bool (EE o 0)):=fB
theorem ags (op:Int)(l r u d:V)(bZ dG im Ny ZU:Nat):Path 330 [vI op,bQ l,bQ r]
 [dN (qj l) bZ,
  dN (qj r) dG,
  dN nY im,
  bP (dd op 23) true,
  bP (dd op 23) true,
  iR 4 bZ (bQ l),
  .mem (gk (vP bZ 0)) (vI Ny),
  iR 4 dG (bQ r),
  .mem (gk (vP dG 0)) (vI ZU),
  oY,
  .call 278 [.bool (dd op 37)] (bQ d),
  .mem (cZ (vI Ny) (vP bZ 0) (eI ab 49 (vP bZ 0))) undef,
  .mem (cZ (vI ZU) (vP dG 0) (eI ab 49 (vP dG 0))) undef,
  oY,
  .call 331 [bQ l,bQ r,bQ d] (bQ u),
  oY,
  jK im 0 (sR u),
  rY 49 im (bQ u)]
 (.tuple #[bQ u,vI 0]):=fB
theorem ago (op:Int)(l r u d:V)(bZ dG im Ny ZU:Nat):Path 330 [vI op,bQ l,bQ r]
 [dN (qj l) bZ,
  dN (qj r) dG,
  dN nY im,
  bP (dd op 23) false,
  bP (dd op 37) true,
  iR 4 bZ (bQ l),
  .mem (gk (vP bZ 0)) (vI Ny),
  iR 4 dG (bQ r),
  .mem (gk (vP dG 0)) (vI ZU),
  oY,
  .call 278 [.bool (dd op 37)] (bQ d),
  .mem (cZ (vI Ny) (vP bZ 0) (eI ab 49 (vP bZ 0))) undef,
  .mem (cZ (vI ZU) (vP dG 0) (eI ab 49 (vP dG 0))) undef,
  oY,
  .call 331 [bQ l,bQ r,bQ d] (bQ u),
  oY,
  jK im 0 (sR u),
  rY 49 im (bQ u)]
 (.tuple #[bQ u,vI 0]):=fB
theorem agp (op:Int)(l r:V)(bZ dG im:Nat):Path 330 [vI op,bQ l,bQ r]
 [dN (qj l) bZ,
  dN (qj r) dG,
  dN nY im,
  bP (dd op 23) false,
  bP (dd op 37) false,
  iR 4 bZ (bQ l),
  .call 332 [bQ l] (.bool true),
  oZ,
  oZ,
  oZ,
  oZ,
  jK im 0 [vI 0,vI 0,qZ,.bool false],
  rY 49 im (.agg #[vI 0,vI 0,qZ,.bool false])]
 (.tuple #[.agg #[vI 0,vI 0,qZ,.bool false],vI 0]):=fB
theorem agn (op:Int)(l r:V)(bZ dG im:Nat):Path 330 [vI op,bQ l,bQ r]
 [dN (qj l) bZ,
  dN (qj r) dG,
  dN nY im,
  bP (dd op 23) false,
  bP (dd op 37) false,
  iR 4 bZ (bQ l),
  .call 332 [bQ l] (.bool false),
  eE,
  iR 4 dG (bQ r),
  eE,
  .call 332 [bQ r] (.bool true),
  eE,
  oZ,
  jK im 0 [vI 0,vI 0,qZ,.bool false],
  rY 49 im (.agg #[vI 0,vI 0,qZ,.bool false])]
 (.tuple #[.agg #[vI 0,vI 0,qZ,.bool false],vI 0]):=fB
theorem acj (op x:Int)(l r u:V)(bZ dG im:Nat):Path 330 [vI op,bQ l,bQ r]
 [dN (qj l) bZ,
  dN (qj r) dG,
  dN nY im,
  bP (dd op 23) false,
  bP (dd op 37) false,
  iR 4 bZ (bQ l),
  .call 332 [bQ l] (.bool false),
  eE,
  iR 4 dG (bQ r),
  eE,
  .call 332 [bQ r] (.bool false),
  eE,
  eE,
  bP (dd op 17) true,
  bP (dd op 17) true,
  .mem (aP bZ 1) (vI l.n),
  .mem (aP dG 1) (vI r.n),
  .call 333 [vI op,vI l.n,vI r.n] (.tuple #[bQ u,vI x]),
  jK im 0 (sR u),
  rY 49 im (bQ u)]
 (.tuple #[bQ u,vI x]):=fB
theorem aci (op x:Int)(l r u:V)(bZ dG im:Nat):Path 330 [vI op,bQ l,bQ r]
 [dN (qj l) bZ,
  dN (qj r) dG,
  dN nY im,
  bP (dd op 23) false,
  bP (dd op 37) false,
  iR 4 bZ (bQ l),
  .call 332 [bQ l] (.bool false),
  eE,
  iR 4 dG (bQ r),
  eE,
  .call 332 [bQ r] (.bool false),
  eE,
  eE,
  bP (dd op 17) false,
  bP (dd op 18) true,
  bP (dd op 18) true,
  .mem (aP bZ 1) (vI l.n),
  .mem (aP dG 1) (vI r.n),
  .call 333 [vI op,vI l.n,vI r.n] (.tuple #[bQ u,vI x]),
  jK im 0 (sR u),
  rY 49 im (bQ u)]
 (.tuple #[bQ u,vI x]):=fB
theorem ach (op x:Int)(l r u:V)(bZ dG im:Nat):Path 330 [vI op,bQ l,bQ r]
 [dN (qj l) bZ,
  dN (qj r) dG,
  dN nY im,
  bP (dd op 23) false,
  bP (dd op 37) false,
  iR 4 bZ (bQ l),
  .call 332 [bQ l] (.bool false),
  eE,
  iR 4 dG (bQ r),
  eE,
  .call 332 [bQ r] (.bool false),
  eE,
  eE,
  bP (dd op 17) false,
  bP (dd op 18) false,
  bP (dd op 10) true,
  bP (dd op 10) true,
  .mem (aP bZ 1) (vI l.n),
  .mem (aP dG 1) (vI r.n),
  .call 333 [vI op,vI l.n,vI r.n] (.tuple #[bQ u,vI x]),
  jK im 0 (sR u),
  rY 49 im (bQ u)]
 (.tuple #[bQ u,vI x]):=fB
theorem acg (op x:Int)(l r u:V)(bZ dG im:Nat):Path 330 [vI op,bQ l,bQ r]
 [dN (qj l) bZ,
  dN (qj r) dG,
  dN nY im,
  bP (dd op 23) false,
  bP (dd op 37) false,
  iR 4 bZ (bQ l),
  .call 332 [bQ l] (.bool false),
  eE,
  iR 4 dG (bQ r),
  eE,
  .call 332 [bQ r] (.bool false),
  eE,
  eE,
  bP (dd op 17) false,
  bP (dd op 18) false,
  bP (dd op 10) false,
  bP (dd op 19) true,
  bP (dd op 19) true,
  .mem (aP bZ 1) (vI l.n),
  .mem (aP dG 1) (vI r.n),
  .call 333 [vI op,vI l.n,vI r.n] (.tuple #[bQ u,vI x]),
  jK im 0 (sR u),
  rY 49 im (bQ u)]
 (.tuple #[bQ u,vI x]):=fB
theorem acf (op x:Int)(l r u:V)(bZ dG im:Nat):Path 330 [vI op,bQ l,bQ r]
 [dN (qj l) bZ,
  dN (qj r) dG,
  dN nY im,
  bP (dd op 23) false,
  bP (dd op 37) false,
  iR 4 bZ (bQ l),
  .call 332 [bQ l] (.bool false),
  eE,
  iR 4 dG (bQ r),
  eE,
  .call 332 [bQ r] (.bool false),
  eE,
  eE,
  bP (dd op 17) false,
  bP (dd op 18) false,
  bP (dd op 10) false,
  bP (dd op 19) false,
  bP (dd op 20) true,
  .mem (aP bZ 1) (vI l.n),
  .mem (aP dG 1) (vI r.n),
  .call 333 [vI op,vI l.n,vI r.n] (.tuple #[bQ u,vI x]),
  jK im 0 (sR u),
  rY 49 im (bQ u)]
 (.tuple #[bQ u,vI x]):=fB
theorem agq (op x:Int)(l r u:V)(bZ dG im:Nat):Path 330 [vI op,bQ l,bQ r]
 [dN (qj l) bZ,
  dN (qj r) dG,
  dN nY im,
  bP (dd op 23) false,
  bP (dd op 37) false,
  iR 4 bZ (bQ l),
  .call 332 [bQ l] (.bool false),
  eE,
  iR 4 dG (bQ r),
  eE,
  .call 332 [bQ r] (.bool false),
  eE,
  eE,
  bP (dd op 17) false,
  bP (dd op 18) false,
  bP (dd op 10) false,
  bP (dd op 19) false,
  bP (dd op 20) false,
  bP (dd op 21) true,
  .mem (aP bZ 2) (iF l.s),
  .mem (aP dG 2) (iF r.s),
  .call 334 [iF l.s,iF r.s] (.tuple #[bQ u,vI x]),
  jK im 0 (sR u),
  rY 49 im (bQ u)]
 (.tuple #[bQ u,vI x]):=fB
theorem agr (op x:Int)(l r u:V)(b:Bool)(bZ dG im:Nat):Path 330 [vI op,bQ l,bQ r]
 [dN (qj l) bZ,
  dN (qj r) dG,
  dN nY im,
  bP (dd op 23) false,
  bP (dd op 37) false,
  iR 4 bZ (bQ l),
  .call 332 [bQ l] (.bool false),
  eE,
  iR 4 dG (bQ r),
  eE,
  .call 332 [bQ r] (.bool false),
  eE,
  eE,
  bP (dd op 17) false,
  bP (dd op 18) false,
  bP (dd op 10) false,
  bP (dd op 19) false,
  bP (dd op 20) false,
  bP (dd op 21) false,
  iR 4 bZ (bQ l),
  iR 4 dG (bQ r),
  .call 155 [bQ l,bQ r] (vI x),
  .call 335 [vI op,vI x] (.bool b),
  .call 278 [.bool b] (bQ u),
  jK im 0 (sR u),
  rY 49 im (bQ u)]
 (.tuple #[bQ u,vI 0]):=fB
theorem iI {m0:Mem}{S:Nat->Prop}{b:Nat}(g0:Gd m0)(k:Kp m0 m S)(hb:m0.next<=b)(o:Obj m b 0 [vI 0,vI 0,.string .empty,.bool false])(u:V):
  ∃m',Eb b 0 [vI u.k,vI u.n,.string u.s,.bool u.b] m=some (undef,m')/\oA ab 49 (vP b 0) m'=some (.agg #[vI u.k,vI u.n,.string u.s,.bool u.b],m')/\Kp m m' (fun y=>y=b):=by
 obtain⟨m',e,o',k'⟩:=kq (o:=0) [vI u.k,vI u.n,.string u.s,.bool u.b] o ((g0.own k hb).may _ _) (af rfl) rfl;exact⟨m',e,ma o' rfl Pw.1 Pw.2,k'⟩
theorem mG {m0 m1 m2:Mem}{b:Nat}(k:Kp m0 m1 fu)(k':Kp m1 m2 (fun y=>y=b))(hb:m0.next<=b):Kp m0 m2 fu:=k.new k' (N:=m0.next) (ai _) fun y hy=>by rw[hy];exact hb
theorem rV {a b:Int}(h:a=b):(.bool (dd a b):ae)= .bool true:=by rw[uA,vB h]
theorem gh {a b:Int}(h:¬a=b):(.bool (dd a b):ae)= .bool false:=by rw[uA,w9 h]
theorem VU (g:Gd m)(b:Bool):∃m',Ev K 278 [.bool b] m (cd b).val m'/\Kp m m' fu:=by
 obtain⟨m1,e1,o1,k1,n1,_⟩:=aV g [vI 0,vI 0,.string .empty,.bool false];obtain⟨m2,e2,e3,k2⟩:=iI g k1 (ai _) o1 (cd b);exact⟨m2,aJ (ajW b _) (.mem e1<| .mem e2<| .mem e3 .nil),mG k1 k2 (ai _)⟩
theorem Ra (g:Gd m)(v:V):∃m',Ev K 332 [v.val] m (.bool (decide (v.k=0))) m'/\Kp m m' fu:=by
 obtain⟨m1,e1,o1,k1,n1,_⟩:=aV g v.cells;have e2:aP m.next 0 m1=some (vI v.k,m1):=aN o1 rfl;rw[<-uA];exact⟨m1,aJ (ajV v _) (.mem e1<| .mem e2 .nil),k1⟩
theorem aiz (g:Gd m)(v:V):∃m',Ev K 336 [v.val] m (vm v).val m'/\Kp m m' fu:=by
 obtain⟨m1,e1,o1,k1,n1,_⟩:=aV g v.cells;obtain⟨m2,e2,o2,k2,n2,_⟩:=aV (g.ext k1) [vI 0,vI 0,.string .empty,.bool false];have kg:=k1.aS k2;have g2:=g.ext kg;have En:=o1.aR k2;have l1:eW 4 m.next 0 m2=some (v.val,m2):=bW (vs:=v.cells) En rfl (af rfl);obtain⟨m3,e3,k3⟩:=Ra (K:=K) g2 v;have jG:=kg.aS k3;have g3:=g2.ext k3
 by_cases h:v.k=0
 ·rw[vB h]at e3;obtain⟨m4,e4,e5,k4⟩:=iI g jG (b:=m1.next) aj (o2.aR k3) cV;have hv:vm v=cV:=bC h;rw[hv];exact⟨m4,aJ (agb v ..) (.mem e1<| .mem e2<| .mem l1<| .call e3<| .cond rfl<| .mem e4<| .mem e5 .nil),mG jG k4 aj⟩
 ·rw[w9 h]at e3;have l2:aP m.next 3 m3=some (.bool v.b,m3):=aN (En.aR k3) rfl;obtain⟨m4,e4,k4⟩:=VU (K:=K) g3 (!v.b);have kr:=jG.aS k4;obtain⟨m5,e5,e6,k5⟩:=iI g kr (b:=m1.next) aj ((o2.aR k3).aR k4) (cd (!v.b));have hv:vm v=cd (!v.b):=bS h;rw[hv];exact⟨m5,aJ (agc v (cd (!v.b)) ..) (.mem e1<| .mem e2<| .mem l1<| .call e3<| .cond rfl<| .mem l2<| .call e4<| .mem e5<| .mem e6 .nil),mG kr k5 aj⟩
theorem alZ (g:Gd m)(v:V):∃m',Ev K 350 [v.val] m (cd (decide (v.k=0))).val m'/\Kp m m' fu:=by
 obtain⟨m1,e1,o1,k1,n1,_⟩:=aV g v.cells;obtain⟨m2,e2,o2,k2,n2,_⟩:=aV (g.ext k1) [vI 0,vI 0,.string .empty,.bool false];have kg:=k1.aS k2;have g2:=g.ext kg;have l1:eW 4 m.next 0 m2=some (v.val,m2):=bW (vs:=v.cells) (o1.aR k2) rfl (af rfl);obtain⟨m3,e3,k3⟩:=Ra (K:=K) g2 v;have jG:=kg.aS k3;obtain⟨m4,e4,k4⟩:=VU (K:=K) (g2.ext k3) (decide (v.k=0));have kr:=jG.aS k4;obtain⟨m5,e5,e6,k5⟩:=iI g kr (b:=m1.next) aj ((o2.aR k3).aR k4) (cd (decide (v.k=0)));exact⟨m5,aJ (ajR v (cd (decide (v.k=0))) ..) (.mem e1<| .mem e2<| .mem l1<| .call e3<| .call e4<| .mem e5<| .mem e6 .nil),mG kr k5 aj⟩
theorem ais {b:Nat}{v:V}(o:Obj m b 0 v.cells):cZ (vI ((m.blk b).aZ:Int)) (vP b 0) (eI ab 49 (vP b 0)) m=some (undef,m):=alS (vs:=v.cells) o rfl (af rfl) Pw.1 Pw.2 rfl
theorem SE {m':Mem}{b:Nat}(k:Kp m m' fu)(h:b<m.next):(m'.blk b).aZ=(m.blk b).aZ:=by rw[k.blk b h id]
theorem Dj {m':Mem}{b:Nat}{v:V}(o:Obj m b 0 v.cells)(k:Kp m m' fu):cZ (vI ((m.blk b).aZ:Int)) (vP b 0) (eI ab 49 (vP b 0)) m'=some (undef,m'):=by
 rw[<-SE k o.lt];exact ais (o.aR k)
theorem amh (g:Gd m)(v:V):∃m',Ev K 273 [v.val] m (.bool (v.beq (cd true))) m'/\Kp m m' fu:=by
 obtain⟨m1,e1,o1,k1,n1,_⟩:=aV g v.cells;have g1:=g.ext k1;have l1:eW 4 m.next 0 m1=some (v.val,m1):=bW (vs:=v.cells) o1 rfl (af rfl);obtain⟨m2,e2,k2⟩:=VU (K:=K) g1 true;exact⟨m2,aJ (ajX v (cd true) ..) (.mem e1<| .mem l1<| .mem (dW _ _)<| .mem (bM g1)<| .call e2<| .mem (Dj o1 k2)<| .val (VB _ _ v (cd true)) .nil),k1.aS k2⟩
theorem amf (g:Gd m)(l r d:V):∃m',Ev K 331 [l.val,r.val,d.val] m (EH l r d).val m'/\Kp m m' fu:=by
 obtain⟨m1,e1,o1,k1,n1,_⟩:=aV g l.cells;obtain⟨m2,e2,o2,k2,n2,_⟩:=aV (g.ext k1) r.cells;have kg:=k1.aS k2;obtain⟨m3,e3,o3,k3,n3,_⟩:=aV (g.ext kg) d.cells;have jG:=kg.aS k3;obtain⟨m4,e4,o4,k4,n4,_⟩:=aV (g.ext jG) [vI 0,vI 0,.string .empty,.bool false];have kr:=jG.aS k4;have g4:=g.ext kr;have En:=((o1.aR k2).aR k3).aR k4;have RD:=(o2.aR k3).aR k4;have o3':=o3.aR k4;have l1:eW 4 m.next 0 m4=some (l.val,m4):=bW (vs:=l.cells) En rfl (af rfl);have l2:eW 4 m1.next 0 m4=some (r.val,m4):=bW (vs:=r.cells) RD rfl (af rfl);have l3:eW 4 m2.next 0 m4=some (d.val,m4):=bW (vs:=d.cells) o3' rfl (af rfl);have v1:=VB false false l d;have v2:=VB false false r d;have done:l.beq d=true\/r.beq d=true->EH l r d=d:=fun h=>bC h
 by_cases h1:l.beq d=true
 ·rw[h1]at v1;obtain⟨m5,e5,e6,k5⟩:=iI g kr (b:=m3.next) aj o4 d;rw[done (.inl h1)];exact⟨m5,aJ (agl l r d ..) (.mem e1<| .mem e2<| .mem e3<| .mem e4<| .mem l1<| .mem l3<| .val v1<| .cond rfl<| .cond rfl<| .cond rfl<| .cond rfl<| .cond rfl<| .mem l3<| .mem e5<| .mem e6 .nil),mG kr k5 aj⟩
 ·rw[Bool.not_eq_true]at h1;rw[h1]at v1
  by_cases h2:r.beq d=true
  ·rw[h2]at v2;obtain⟨m5,e5,e6,k5⟩:=iI g kr (b:=m3.next) aj o4 d;rw[done (.inr h2)];exact⟨m5,aJ (agi l r d ..) (.mem e1<| .mem e2<| .mem e3<| .mem e4<| .mem l1<| .mem l3<| .val v1<| .cond rfl<| .mem l2<| .cond rfl<| .mem l3<| .cond rfl<| .val v2<| .cond rfl<| .cond rfl<| .mem l3<| .mem e5<| .mem e6 .nil),mG kr k5 aj⟩
  ·rw[Bool.not_eq_true]at h2;rw[h2]at v2;have hn:EH l r d=if l.k=0\/r.k=0 then cV else vm d:=bS (by rw[h1,h2];simp);rw[hn];obtain⟨m5,e5,k5⟩:=Ra (K:=K) g4 l;have tC:=kr.aS k5;have g5:=g4.ext k5
   by_cases h3:l.k=0
   ·rw[vB h3]at e5;rw[bC (.inl h3)];obtain⟨m6,e6,e7,k6⟩:=iI g tC (b:=m3.next) aj (o4.aR k5) cV;exact⟨m6,aJ (agj l r d ..) (.mem e1<| .mem e2<| .mem e3<| .mem e4<| .mem l1<| .mem l3<| .val v1<| .cond rfl<| .mem l2<| .cond rfl<| .mem l3<| .cond rfl<| .val v2<| .cond rfl<| .cond rfl<| .mem l1<| .call e5<| .cond rfl<| .cond rfl<| .cond rfl<| .cond rfl<| .mem e6<| .mem e7 .nil),mG tC k6 aj⟩
   ·rw[w9 h3]at e5;have l2':eW 4 m1.next 0 m5=some (r.val,m5):=bW (vs:=r.cells) (RD.aR k5) rfl (af rfl);obtain⟨m6,e6,k6⟩:=Ra (K:=K) g5 r;have sZ:=tC.aS k6;have g6:=g5.ext k6
    by_cases h4:r.k=0
    ·rw[vB h4]at e6;rw[bC (.inr h4)];obtain⟨m7,e7,e8,k7⟩:=iI g sZ (b:=m3.next) aj ((o4.aR k5).aR k6) cV;exact⟨m7,aJ (agk l r d ..) (.mem e1<| .mem e2<| .mem e3<| .mem e4<| .mem l1<| .mem l3<| .val v1<| .cond rfl<| .mem l2<| .cond rfl<| .mem l3<| .cond rfl<| .val v2<| .cond rfl<| .cond rfl<| .mem l1<| .call e5<| .cond rfl<| .mem l2'<| .cond rfl<| .call e6<| .cond rfl<| .cond rfl<| .mem e7<| .mem e8 .nil),mG sZ k7 aj⟩
    ·rw[w9 h4]at e6;rw[bS (by rintro(h|h);exact h3 h;exact h4 h)];have l3':eW 4 m2.next 0 m6=some (d.val,m6):=bW (vs:=d.cells) ((o3'.aR k5).aR k6) rfl (af rfl);obtain⟨m7,e7,k7⟩:=aiz (K:=K) g6 d;have Ml:=sZ.aS k7;obtain⟨m8,e8,e9,k8⟩:=iI g Ml (b:=m3.next) aj (((o4.aR k5).aR k6).aR k7) (vm d);exact⟨m8,aJ (agm l r d (vm d) ..) (.mem e1<| .mem e2<| .mem e3<| .mem e4<| .mem l1<| .mem l3<| .val v1<| .cond rfl<| .mem l2<| .cond rfl<| .mem l3<| .cond rfl<| .val v2<| .cond rfl<| .cond rfl<| .mem l1<| .call e5<| .cond rfl<| .mem l2'<| .cond rfl<| .call e6<| .cond rfl<| .cond rfl<| .mem l3'<| .call e7<| .mem e8<| .mem e9 .nil),mG Ml k8 aj⟩
theorem ama (a b:Int):Ev K 338 [vI a,vI b] m (.tuple #[vI (PR a b).1,.bool (PR a b).2]) m:=aJ (ajU a b _) (.val (eq4 ..) .nil)
theorem al9 (a b:Int):Ev K 339 [vI a,vI b] m (.tuple #[vI (adR a b).1,.bool (adR a b).2]) m:=aJ (ajT a b _) (.val (eq4 ..) .nil)
theorem al8 (a b:Int):Ev K 340 [vI a,vI b] m (.tuple #[vI (Fh a b).1,.bool (Fh a b).2]) m:=by
 by_cases h1:a=0
 ·rw[show Fh a b=(0,true)from bC (.inl h1)];exact aJ (af7 a b) (.cond (rV h1)<| .cond (rV h1)<| .cond (rV h1)<| .cond rfl .nil)
 ·by_cases h2:b=0
  ·rw[show Fh a b=(0,true)from bC (.inr h2)];exact aJ (af8 a b) (.cond (gh h1)<| .cond (gh h1)<| .cond (gh h1)<| .cond (rV h2) .nil)
  ·have hp:Fh a b=(oK a b,decide (yU (oK a b) b=a)&&(gB (oK a b) 0== !(gB a 0==gB b 0))):=bS (by rintro(h|h);exact h1 h;exact h2 h);rw[hp]
   by_cases h3:yU (oK a b) b=a
   ·rw[vB h3];exact aJ (af9 a b _ _ _) (.cond (gh h1)<| .cond (gh h1)<| .cond (gh h1)<| .cond (gh h2)<| .val (ne4 ..)<| .val (Q0 _ _ h2)<| .cond (rV h3)<| .cond (rV h3)<| .cond (rV h3)<| .cond (rV h3)<| .val (eq4 ..)<| .cond (rV h3) .nil)
   ·rw[w9 h3];exact aJ (aga a b _ _) (.cond (gh h1)<| .cond (gh h1)<| .cond (gh h1)<| .cond (gh h2)<| .val (ne4 ..)<| .val (Q0 _ _ h2)<| .cond (gh h3)<| .cond (gh h3)<| .cond (gh h3)<| .cond (gh h3)<| .cond (gh h3) .nil)
theorem al4 (a b:Int):Ev K 341 [vI a,vI b] m (.tuple #[vI (LL a b).1,.bool (LL a b).2]) m:=by
 by_cases h1:b=0
 ·rw[show LL a b=(0,false)from bC (.inl h1)];exact aJ (af3 a b) (.cond (rV h1)<| .cond (rV h1)<| .cond (rV h1)<| .cond (rV h1)<| .cond (rV h1)<| .cond rfl .nil)
 ·by_cases h2:a= -9223372036854775808
  ·by_cases h3:b= -1
   ·rw[show LL a b=(0,false)from bC (.inr ⟨h2,h3⟩)];exact aJ (af5 a b) (.cond (gh h1)<| .cond (gh h1)<| .cond (gh h1)<| .cond (rV h2)<| .cond (rV h2)<| .cond (gh h1)<| .cond (rV h2)<| .cond (gh h1)<| .cond (rV h3) .nil)
   ·rw[show LL a b=(yU a b,true)from bS (by rintro(h|h);exact h1 h;exact h3 h.2)];exact aJ (af4 a b _) (.cond (gh h1)<| .cond (gh h1)<| .cond (gh h1)<| .cond (rV h2)<| .cond (rV h2)<| .cond (gh h1)<| .cond (rV h2)<| .cond (gh h1)<| .cond (gh h3)<| .val (Q0 _ _ h1) .nil)
  ·rw[show LL a b=(yU a b,true)from bS (by rintro(h|h);exact h1 h;exact h2 h.1)];exact aJ (af6 a b _) (.cond (gh h1)<| .cond (gh h1)<| .cond (gh h1)<| .cond (gh h2)<| .cond (gh h2)<| .cond (gh h1)<| .cond (gh h2)<| .cond (gh h1)<| .cond rfl<| .val (Q0 _ _ h1) .nil)
theorem al0 (a b:Int):Ev K 342 [vI a,vI b] m (.tuple #[vI (Td a b).1,.bool (Td a b).2]) m:=by
 by_cases h1:b=0
 ·rw[show Td a b=(0,false)from bC h1];exact aJ (af1 a b) (.cond (rV h1) .nil)
 ·rw[show Td a b=(LI a b,true)from bS h1];exact aJ (af2 a b _) (.cond (gh h1)<| .val (VH _ _ h1) .nil)
theorem amb (op a b:Int):Ev K 337 [vI op,vI a,vI b] m (.tuple #[vI (Ds op a b).1,.bool (Ds op a b).2]) m:=by
 unfold Ds
 by_cases h1:op=17
 ·rw[bC h1];exact aJ (ab7 op a b _ _) (.cond (rV h1)<| .call (ama a b) .nil)
 ·rw[bS h1]
  by_cases h2:op=18
  ·rw[bC h2];exact aJ (ab6 op a b _ _) (.cond (gh h1)<| .cond (rV h2)<| .call (al9 a b) .nil)
  ·rw[bS h2]
   by_cases h3:op=10
   ·rw[bC h3];exact aJ (ab5 op a b _ _) (.cond (gh h1)<| .cond (gh h2)<| .cond (rV h3)<| .call (al8 a b) .nil)
   ·rw[bS h3]
    by_cases h4:op=19
    ·rw[bC h4];exact aJ (ab4 op a b _ _) (.cond (gh h1)<| .cond (gh h2)<| .cond (gh h3)<| .cond (rV h4)<| .call (al4 a b) .nil)
    ·rw[bS h4];exact aJ (ab3 op a b _ _) (.cond (gh h1)<| .cond (gh h2)<| .cond (gh h3)<| .cond (gh h4)<| .call (al0 a b) .nil)
theorem ame (g:Gd m)(op a b:Int):∃m',Ev K 333 [vI op,vI a,vI b] m (.tuple #[(mj op a b).1.val,vI (mj op a b).2]) m'/\Kp m m' fu:=by
 obtain⟨m1,e1,o1,k1,n1,_⟩:=aV g [vI 0,vI 0,.string .empty,.bool false];have e2:=amb (K:=K) (m:=m1) op a b;obtain⟨⟨x,y⟩,hx⟩:∃x,Ds op a b=x:=⟨_,rfl⟩;unfold mj;rw[hx]at e2⊢;cases y with
 |true=>
  obtain⟨m2,e3,e4,k2⟩:=iI g k1 (ai _) o1 (ag2 x);exact⟨m2,aJ (agf op a b x _) (.mem e1<| .call e2<| .cond rfl<| .mem e3<| .mem e4 .nil),mG k1 k2 (ai _)⟩
 |false=>
  obtain⟨m2,e3,e4,k2⟩:=iI g k1 (ai _) o1 cV;exact⟨m2,aJ (agh op a b x _) (.mem e1<| .call e2<| .cond rfl<| .mem e3<| .mem e4 .nil),mG k1 k2 (ai _)⟩
theorem amd (g:Gd m)(a b:ByteArray)(ha:a.size<2^60)(hb:b.size<2^60):∃m',Ev K 334 [.string a,.string b] m (.tuple #[(Ag a b).1.val,vI (Ag a b).2]) m'/\Kp m m' fu:=by
 obtain⟨m1,e1,o1,k1,n1,_⟩:=aV g [vI 0,vI 0,.string .empty,.bool false];have hg:qE (fg (a.size:Int) (b.size:Int)) 250=decide (250<a.size+b.size):=by
  rw[qK ⟨aj,aj⟩,zr,Bool.eq_iff_iff,jQ,jQ];omega
 unfold Ag
 by_cases h:250<a.size+b.size
 ·rw[bC h];obtain⟨m2,e3,e4,k2⟩:=iI g k1 (ai _) o1 cV;exact⟨m2,aJ (age a b _) (.mem e1<| .cond (by rw[hg,vB h])<| .mem e3<| .mem e4 .nil),mG k1 k2 (ai _)⟩
 ·rw[bS h];obtain⟨m2,e3,e4,k2⟩:=iI g k1 (ai _) o1 ⟨2,0,a++b,false⟩;have hc:vw a b=some (.string (a++b)):=by
   unfold vw;have :Nat.blt (a.size+b.size) 9223372036854775808=true:=Nat.ble_eq_true_of_le aj;rw[this]
  exact⟨m2,aJ (agd a b _) (.mem e1<| .cond (by rw[hg,w9 h])<| .val hc<| .mem e3<| .mem e4 .nil),mG k1 k2 (ai _)⟩
theorem amc (op o:Int):Ev K 335 [vI op,vI o] m (.bool (uk op o)) m:=by
 unfold uk
 by_cases h1:op=11
 ·rw[bC h1];exact aJ (ace op o) (.cond (rV h1) .nil)
 ·rw[bS h1]
  by_cases h2:op=12
  ·rw[bC h2];exact aJ (acd op o) (.cond (gh h1)<| .cond (rV h2) .nil)
  ·rw[bS h2]
   by_cases h3:op=13
   ·rw[bC h3];exact aJ (acb op o) (.cond (gh h1)<| .cond (gh h2)<| .cond (rV h3) .nil)
   ·rw[bS h3]
    by_cases h4:op=14
    ·rw[bC h4];exact aJ (aca op o) (.cond (gh h1)<| .cond (gh h2)<| .cond (gh h3)<| .cond (rV h4) .nil)
    ·rw[bS h4]
     by_cases h5:op=15
     ·rw[bC h5];exact aJ (ab9 op o) (.cond (gh h1)<| .cond (gh h2)<| .cond (gh h3)<| .cond (gh h4)<| .cond (rV h5) .nil)
     ·rw[bS h5];exact aJ (ab8 op o) (.cond (gh h1)<| .cond (gh h2)<| .cond (gh h3)<| .cond (gh h4)<| .cond (gh h5) .nil)
end
end Go.AM
namespace Go.AM
set_option maxRecDepth 1000000
open Go Go.Conc Go.Proofs
theorem RP {K:gS}{m m':Mem}{L:List pX}(h:Ch K m L m':=by repeat first |exact .nil|refine .cond (by first |rfl|assumption) ?_|refine .mem (by first |assumption|exact bM nV|exact aN nV rfl|exact bW nV rfl de|exact dW _ _|exact wE nV rfl rfl) ?_|refine .call nV ?_|refine .gD nV ?_|refine .eN (by first |rfl|assumption) nV ?_|refine .val (by first |rfl|assumption) ?_|refine .idx (by first |rfl|assumption) (by first |assumption|omega) ?_):Ch K m L m':=h
section
variable {K:gS}{m:Mem}
theorem amg (g:Gd m)(op:Int)(l r:V)(hl:l.s.size<2^60)(hr:r.s.size<2^60):∃m',Ev K 330 [vI op,l.val,r.val] m (.tuple #[(sM op l r).1.val,vI (sM op l r).2]) m'/\Kp m m' fu:=by
 obtain⟨m1,e1,o1,k1,n1,_⟩:=aV g l.cells;obtain⟨m2,e2,o2,k2,n2,_⟩:=aV (g.ext k1) r.cells;have kg:=k1.aS k2;obtain⟨m3,e3,o3,k3,n3,_⟩:=aV (g.ext kg) [vI 0,vI 0,.string .empty,.bool false];have jG:=kg.aS k3;have g3:=g.ext jG;have En:=(o1.aR k2).aR k3;have RD:=o2.aR k3;have l1:eW 4 m.next 0 m3=some (l.val,m3):=bW (vs:=l.cells) En rfl (af rfl);have l2:eW 4 m1.next 0 m3=some (r.val,m3):=bW (vs:=r.cells) RD rfl (af rfl)
 by_cases h1:op=23\/op=37
 ·rw[show sM op l r=(EH l r (cd (dd op 37)),0)from bC h1];obtain⟨m4,e4,k4⟩:=VU (K:=K) g3 (dd op 37);have kr:=jG.aS k4;have g4:=g3.ext k4;obtain⟨m5,e5,k5⟩:=amf (K:=K) g4 l r (cd (dd op 37));have tC:=kr.aS k5;have g5:=g4.ext k5;obtain⟨m6,e6,e7,k6⟩:=iI g tC (b:=m2.next) aj ((o3.aR k4).aR k5) (EH l r (cd (dd op 37)));refine⟨m6,?_,mG tC k6 aj⟩
  by_cases h2:op=23
  ·exact aJ (ags op l r (EH l r (cd (dd op 37))) (cd (dd op 37)) ..) (.mem e1<| .mem e2<| .mem e3<| .cond (rV h2)<| .cond (rV h2)<| .mem l1<| .mem (dW _ _)<| .mem l2<| .mem (dW _ _)<| .mem (bM g3)<| .call e4<| .mem (Dj En k4)<| .mem (Dj RD k4)<| .mem (bM g4)<| .call e5<| .mem (bM g5)<| .mem e6<| .mem e7 .nil)
  ·have h3:=h1.resolve_left h2;exact aJ (ago op l r (EH l r (cd (dd op 37))) (cd (dd op 37)) ..) (.mem e1<| .mem e2<| .mem e3<| .cond (gh h2)<| .cond (rV h3)<| .mem l1<| .mem (dW _ _)<| .mem l2<| .mem (dW _ _)<| .mem (bM g3)<| .call e4<| .mem (Dj En k4)<| .mem (Dj RD k4)<| .mem (bM g4)<| .call e5<| .mem (bM g5)<| .mem e6<| .mem e7 .nil)
 ·have ha:¬op=23:=fun h=>h1 (.inl h)
  have hb:¬op=37:=fun h=>h1 (.inr h)
  have hB:sM op l r=if l.k=0\/r.k=0 then(cV,0)else if op=17\/op=18\/op=10\/op=19\/op=20 then mj op l.n r.n else if op=21 then Ag l.s r.s else(cd (uk op (kB l r)),0):=bS h1;rw[hB];obtain⟨m4,e4,k4⟩:=Ra (K:=K) g3 l;have kr:=jG.aS k4;have g4:=g3.ext k4
  by_cases h3:l.k=0
  ·rw[vB h3]at e4;rw[bC (.inl h3)];obtain⟨m6,e6,e7,k6⟩:=iI g kr (b:=m2.next) aj (o3.aR k4) cV;exact⟨m6,aJ (agp op l r ..) (.mem e1<| .mem e2<| .mem e3<| .cond (gh ha)<| .cond (gh hb)<| .mem l1<| .call e4<| .cond rfl<| .cond rfl<| .cond rfl<| .cond rfl<| .mem e6<| .mem e7 .nil),mG kr k6 aj⟩
  ·rw[w9 h3]at e4;have l2':eW 4 m1.next 0 m4=some (r.val,m4):=bW (vs:=r.cells) (RD.aR k4) rfl (af rfl);obtain⟨m5,e5,k5⟩:=Ra (K:=K) g4 r;have tC:=kr.aS k5;have g5:=g4.ext k5;have o3':=(o3.aR k4).aR k5
   by_cases h4:r.k=0
   ·rw[vB h4]at e5;rw[bC (.inr h4)];obtain⟨m6,e6,e7,k6⟩:=iI g tC (b:=m2.next) aj o3' cV;exact⟨m6,aJ (agn op l r ..) (.mem e1<| .mem e2<| .mem e3<| .cond (gh ha)<| .cond (gh hb)<| .mem l1<| .call e4<| .cond rfl<| .mem l2'<| .cond rfl<| .call e5<| .cond rfl<| .cond rfl<| .mem e6<| .mem e7 .nil),mG tC k6 aj⟩
   ·rw[w9 h4]at e5;rw[bS (by rintro(h|h);exact h3 h;exact h4 h)];have la:aP m.next 1 m5=some (vI l.n,m5):=aN ((En.aR k4).aR k5) rfl;have lb:aP m1.next 1 m5=some (vI r.n,m5):=aN ((RD.aR k4).aR k5) rfl
    by_cases h5:op=17\/op=18\/op=10\/op=19\/op=20
    ·rw[bC h5];obtain⟨m6,e6,k6⟩:=ame (K:=K) g5 op l.n r.n;have sZ:=tC.aS k6;obtain⟨m7,e7,e8,k7⟩:=iI g sZ (b:=m2.next) aj (o3'.aR k6) (mj op l.n r.n).1;refine⟨m7,?_,mG sZ k7 aj⟩
     by_cases x1:op=17
     ·have y1:=rV x1;have z1:=gh ha;have z2:=gh hb;exact aJ (acj op _ l r (mj op l.n r.n).1 ..) RP
     ·by_cases x2:op=18
      ·have y1:=gh x1;have y2:=rV x2;have z1:=gh ha;have z2:=gh hb;exact aJ (aci op _ l r (mj op l.n r.n).1 ..) RP
      ·by_cases x3:op=10
       ·have y1:=gh x1;have y2:=gh x2;have y3:=rV x3;have z1:=gh ha;have z2:=gh hb;exact aJ (ach op _ l r (mj op l.n r.n).1 ..) RP
       ·by_cases x4:op=19
        ·have y1:=gh x1;have y2:=gh x2;have y3:=gh x3;have y4:=rV x4;have z1:=gh ha;have z2:=gh hb;exact aJ (acg op _ l r (mj op l.n r.n).1 ..) RP
        ·have x5:op=20:=aj;have y1:=gh x1;have y2:=gh x2;have y3:=gh x3;have y4:=gh x4;have y5:=rV x5;have z1:=gh ha;have z2:=gh hb;exact aJ (acf op _ l r (mj op l.n r.n).1 ..) RP
    ·rw[bS h5];have x1:¬op=17:=aj;have x2:¬op=18:=aj;have x3:¬op=10:=aj;have x4:¬op=19:=aj;have x5:¬op=20:=aj
     by_cases h6:op=21
     ·rw[bC h6];have sa:aP m.next 2 m5=some (.string l.s,m5):=aN ((En.aR k4).aR k5) rfl;have sb:aP m1.next 2 m5=some (.string r.s,m5):=aN ((RD.aR k4).aR k5) rfl;obtain⟨m6,e6,k6⟩:=amd (K:=K) g5 l.s r.s hl hr;have sZ:=tC.aS k6;obtain⟨m7,e7,e8,k7⟩:=iI g sZ (b:=m2.next) aj (o3'.aR k6) (Ag l.s r.s).1;exact⟨m7,aJ (agq op _ l r (Ag l.s r.s).1 ..) (.mem e1<| .mem e2<| .mem e3<| .cond (gh ha)<| .cond (gh hb)<| .mem l1<| .call e4<| .cond rfl<| .mem l2'<| .cond rfl<| .call e5<| .cond rfl<| .cond rfl<| .cond (gh x1)<| .cond (gh x2)<| .cond (gh x3)<| .cond (gh x4)<| .cond (gh x5)<| .cond (rV h6)<| .mem sa<| .mem sb<| .call e6<| .mem e7<| .mem e8 .nil),mG sZ k7 aj⟩
     ·rw[bS h6];have l1':eW 4 m.next 0 m5=some (l.val,m5):=bW (vs:=l.cells) ((En.aR k4).aR k5) rfl (af rfl);have akx:eW 4 m1.next 0 m5=some (r.val,m5):=bW (vs:=r.cells) ((RD.aR k4).aR k5) rfl (af rfl);obtain⟨m6,e6,k6⟩:=aiF (K:=K) g5 l r;have sZ:=tC.aS k6;have g6:=g5.ext k6;obtain⟨m7,e7,k7⟩:=VU (K:=K) g6 (uk op (kB l r));have Ml:=sZ.aS k7;obtain⟨m8,e8,e9,k8⟩:=iI g Ml (b:=m2.next) aj ((o3'.aR k6).aR k7) (cd (uk op (kB l r)));exact⟨m8,aJ (agr op (kB l r) l r (cd (uk op (kB l r))) (uk op (kB l r)) ..) (.mem e1<| .mem e2<| .mem e3<| .cond (gh ha)<| .cond (gh hb)<| .mem l1<| .call e4<| .cond rfl<| .mem l2'<| .cond rfl<| .call e5<| .cond rfl<| .cond rfl<| .cond (gh x1)<| .cond (gh x2)<| .cond (gh x3)<| .cond (gh x4)<| .cond (gh x5)<| .cond (gh h6)<| .mem l1'<| .mem akx<| .call e6<| .call (amc op (kB l r))<| .call e7<| .mem e8<| .mem e9 .nil),mG Ml k8 aj⟩
end
end Go.AM
namespace Go.AM
set_option maxRecDepth 1000000
open Go Go.Conc Go.Proofs
def eC (cv:Nat->Int->Int->V):X->V×Int
 | .lit v=>(v,0)
 | .bin op l r=>if(eC cv l).2≠0 then(cV,(eC cv l).2)else if(eC cv r).2≠0 then(cV,(eC cv r).2)else sM op (eC cv l).1 (eC cv r).1
 | .no x=>if(eC cv x).2≠0 then(cV,(eC cv x).2)else(vm (eC cv x).1,0)
 | .KI x=>if(eC cv x).2≠0 then(cV,(eC cv x).2)else(cd (decide ((eC cv x).1.k=0)),0)
 | .jO p i j=>(cv p i j,0)
def X.all(L:V->Prop)(C:Nat->Int->Int->Prop):X->Prop
 | .lit v=>L v
 | .bin _ l r=>l.all L C/\r.all L C
 | .no x=>x.all L C
 | .KI x=>x.all L C
 | .jO p i j=>C p i j
def eF (v:V):Prop:=v.s.size<2^60
theorem yP:eF cV:=by show(ByteArray.empty).size<_;decide
theorem Nj {op:Int}{l r:V}:eF (sM op l r).1:=by
 have h0:=yP;have ht:∀b,eF (cd b):=fun b=>by show(ByteArray.empty).size<_;decide
 unfold sM
 split
 ·show eF (EH l r _)
  unfold EH
  split
  ·exact ht _
  ·split
   ·exact h0
   ·unfold vm
    split
    ·exact h0
    ·exact ht _
 ·split
  ·exact h0
  ·split
   ·unfold mj
    split
    ·show(ByteArray.empty).size<_;decide
    ·exact h0
   ·split
    ·unfold Ag
     split
     ·exact h0
     ·rename_i h
      show(l.s++r.s).size<_
      rw[ByteArray.size_append];omega
    ·exact ht _
theorem Fo {cv:Nat->Int->Int->V}:∀{x:X},x.all eF (fun p i j=>eF (cv p i j))->eF (eC cv x).1
 | .lit v,h=>h
 | .bin op l r,h=>by
  unfold eC
  split
  ·exact yP
  ·split
   ·exact yP
   ·exact Nj
 | .no x,h=>by
  unfold eC
  split
  ·exact yP
  ·show eF (vm _)
   unfold vm
   split
   ·exact yP
   ·show(ByteArray.empty).size<_;decide
 | .KI x,h=>by
  unfold eC
  split
  ·exact yP
  ·show(ByteArray.empty).size<_;decide
 | .jO p i j,h=>h
theorem Yo {b:Nat}:dR ab (.iface 305 (vP b 0)) "Of"=some (329,vP b 0)/\dR ab (.iface 390 (vP b 0)) "Of"=some (348,vP b 0)/\dR ab (.iface 393 (vP b 0)) "Of"=some (349,vP b 0)/\dR ab (.iface 317 (vP b 0)) "Of"=some (346,vP b 0)/\dR ab (.iface 396 (vP b 0)) "Of"=some (351,vP b 0):=by
 refine⟨?_,?_,?_,?_,?_⟩<;>kernel_rfl
section
variable {K:gS}{B:Nat->Prop}
theorem agv (q:Nat)(rw :ae)(op x y z:Int)(lv rv:ae)(l r u:V)(bZ dG:Nat):Path 329 [vP q 0,rw]
 [dN nY bZ,
  .mem (aP q 1) lv,
  .eN (dR ab lv "Of") [rw] (.tuple #[bQ l,vI x]),
  dN nY dG,
  jK dG 0 (sR l),
  bP (tB x 0) true,
  jK bZ 0 [vI 0,vI 0,qZ,.bool false],
  rY 49 bZ (.agg #[vI 0,vI 0,qZ,.bool false])]
 (.tuple #[.agg #[vI 0,vI 0,qZ,.bool false],vI x]):=fB
theorem agu (q:Nat)(rw :ae)(op x y z:Int)(lv rv:ae)(l r u:V)(bZ dG im:Nat):Path 329 [vP q 0,rw]
 [dN nY bZ,
  .mem (aP q 1) lv,
  .eN (dR ab lv "Of") [rw] (.tuple #[bQ l,vI 0]),
  dN nY dG,
  jK dG 0 (sR l),
  eE,
  .mem (aP q 2) rv,
  .eN (dR ab rv "Of") [rw] (.tuple #[bQ r,vI y]),
  dN nY im,
  jK im 0 (sR r),
  bP (tB y 0) true,
  jK bZ 0 [vI 0,vI 0,qZ,.bool false],
  rY 49 bZ (.agg #[vI 0,vI 0,qZ,.bool false])]
 (.tuple #[.agg #[vI 0,vI 0,qZ,.bool false],vI y]):=fB
theorem agt (q:Nat)(rw :ae)(op x y z:Int)(lv rv:ae)(l r u:V)(bZ dG im:Nat):Path 329 [vP q 0,rw]
 [dN nY bZ,
  .mem (aP q 1) lv,
  .eN (dR ab lv "Of") [rw] (.tuple #[bQ l,vI 0]),
  dN nY dG,
  jK dG 0 (sR l),
  eE,
  .mem (aP q 2) rv,
  .eN (dR ab rv "Of") [rw] (.tuple #[bQ r,vI 0]),
  dN nY im,
  jK im 0 (sR r),
  eE,
  .mem (aP q 0) (vI op),
  iR 4 dG (bQ l),
  iR 4 im (bQ r),
  oY,
  .call 330 [vI op,bQ l,bQ r] (.tuple #[bQ u,vI z]),
  oY,
  jK bZ 0 (sR u),
  rY 49 bZ (bQ u)]
 (.tuple #[bQ u,vI z]):=fB
theorem ajS (q:Nat)(rw :ae)(u:V)(bZ:Nat):Path 346 [vP q 0,rw]
 [dN nY bZ,
  iR 4 q (bQ u),
  jK bZ 0 (sR u),
  rY 49 bZ (bQ u)]
 (.tuple #[bQ u,vI 0]):=fB
theorem af0 (q:Nat)(rw xv:ae)(x:Int)(l:V)(bZ dG:Nat):Path 348 [vP q 0,rw]
 [dN nY bZ,
  .mem (aP q 0) xv,
  .eN (dR ab xv "Of") [rw] (.tuple #[bQ l,vI x]),
  dN nY dG,
  jK dG 0 (sR l),
  bP (tB x 0) true,
  jK bZ 0 [vI 0,vI 0,qZ,.bool false],
  rY 49 bZ (.agg #[vI 0,vI 0,qZ,.bool false])]
 (.tuple #[.agg #[vI 0,vI 0,qZ,.bool false],vI x]):=fB
theorem afZ (q:Nat)(rw xv:ae)(l u:V)(bZ dG:Nat):Path 348 [vP q 0,rw]
 [dN nY bZ,
  .mem (aP q 0) xv,
  .eN (dR ab xv "Of") [rw] (.tuple #[bQ l,vI 0]),
  dN nY dG,
  jK dG 0 (sR l),
  eE,
  iR 4 dG (bQ l),
  .call 336 [bQ l] (bQ u),
  jK bZ 0 (sR u),
  rY 49 bZ (bQ u)]
 (.tuple #[bQ u,vI 0]):=fB
theorem afY (q:Nat)(rw xv:ae)(x:Int)(l:V)(bZ dG:Nat):Path 349 [vP q 0,rw]
 [dN nY bZ,
  .mem (aP q 0) xv,
  .eN (dR ab xv "Of") [rw] (.tuple #[bQ l,vI x]),
  dN nY dG,
  jK dG 0 (sR l),
  bP (tB x 0) true,
  jK bZ 0 [vI 0,vI 0,qZ,.bool false],
  rY 49 bZ (.agg #[vI 0,vI 0,qZ,.bool false])]
 (.tuple #[.agg #[vI 0,vI 0,qZ,.bool false],vI x]):=fB
theorem afX (q:Nat)(rw xv:ae)(l u:V)(bZ dG:Nat):Path 349 [vP q 0,rw]
 [dN nY bZ,
  .mem (aP q 0) xv,
  .eN (dR ab xv "Of") [rw] (.tuple #[bQ l,vI 0]),
  dN nY dG,
  jK dG 0 (sR l),
  eE,
  iR 4 dG (bQ l),
  .call 350 [bQ l] (bQ u),
  jK bZ 0 (sR u),
  rY 49 bZ (bQ u)]
 (.tuple #[bQ u,vI 0]):=fB
theorem aU.qz{K:gS}{nt:Nat}{c:Code}{i id:Nat}{st jL zS:Ss}{e:Exit}{b:Code}(h:ET K nt b 100000 st (.exit id) jL)(k:aU K nt c (i+1) jL e zS)(hl:l9 c i=some (id,b):=by kernel_rfl)(er:pJ nt c b i id=true:=by kernel_rfl):aU K nt c i st e zS:=aU.Cm hl er h rfl k
theorem neT {a:Int}(h:a≠0):(.bool (tB a 0):ae)= .bool true:=by rw[tY,vB h]
theorem cOf {R:Mem->Prop}{cv:Nat->Int->Int->V}{rv:ae}(hR:∀m m',R m->Kp m m' fu->R m')
  (alg:∀p i j m b,eF (cv p i j)->Gd m->R m->Obj m b 0 [vP p 0,vI i,vI j]->∃m',Ev K 351 [vP b 0,rv] m (.tuple #[(cv p i j).val,vI 0]) m'/\Kp m m' fu):
  ∀(x:X) (m:Mem) (xv:ae),Gd m->R m->XR B x m xv->x.all eF (fun p i j=>eF (cv p i j))->
   ∃f b m',dR ab xv "Of"=some (f,vP b 0)/\Ev K f [vP b 0,rv] m (.tuple #[(eC cv x).1.val,vI (eC cv x).2]) m'/\Kp m m' fu:=by
 intro x
 induction x with
 |lit u=>
  rintro m xv g hr ⟨b,rfl,hb,ob⟩ hs;obtain⟨m1,e1,o1,k1,n1,_⟩:=aV g [vI 0,vI 0,.string .empty,.bool false];have l1:eW 4 b 0 m1=some (u.val,m1):=bW (vs:=u.cells) (ob.aR k1) rfl (af rfl);obtain⟨m2,e2,e3,k2⟩:=iI g k1 (ai _) o1 u;exact⟨346,b,m2,Yo.2.2.2.1,aJ (ajS b rv u _) (.mem e1<| .mem l1<| .mem e2<| .mem e3 .nil),mG k1 k2 (ai _)⟩
 |jO p i j=>
  rintro m xv g hr ⟨b,rfl,hb,ob⟩ hs;obtain⟨m',e,k⟩:=alg p i j m b hs g hr ob;exact⟨351,b,m',Yo.2.2.2.2,e,k⟩
 |no x ih=>
  rintro m xv g hr ⟨b,xv,rfl,hb,ob,hx⟩ hs;obtain⟨m1,e1,o1,k1,n1,_⟩:=aV g [vI 0,vI 0,.string .empty,.bool false];have g1:=g.ext k1;have l1:aP b 0 m1=some (xv,m1):=aN (ob.aR k1) rfl;obtain⟨f,b',m2,hm,e2,k2⟩:=ih m1 xv g1 (hR _ _ hr k1) (XR.ext k1 (fun _ _ h=>h) hx) hs;have kg:=k1.aS k2;have g2:=g.ext kg;obtain⟨m3,m4,e3,e4,o4,k4,n4⟩:=iX g2 [vI 0,vI 0,.string .empty,.bool false] (eC cv x).1.cells rfl rfl;have kr:=kg.aS k4;have g4:=g.ext kr
  by_cases h:(eC cv x).2=0
  ·have l2:eW 4 m2.next 0 m4=some ((eC cv x).1.val,m4):=bW (vs:=(eC cv x).1.cells) o4 rfl (af rfl);obtain⟨m5,e5,k5⟩:=aiz (K:=K) g4 (eC cv x).1;have tC:=kr.aS k5;obtain⟨m6,e6,e7,k6⟩:=iI g tC (ai _) (((o1.aR k2).aR k4).aR k5) (vm (eC cv x).1);rw[show eC cv (.no x)=(vm (eC cv x).1,0)from bS (by rw[h];simp)];rw[h]at e2;exact⟨348,b,m6,Yo.2.1,aJ (afZ b rv xv (eC cv x).1 (vm (eC cv x).1) ..) (.mem e1<| .mem l1<| .eN hm e2<| .mem e3<| .mem e4<| .cond rfl<| .mem l2<| .call e5<| .mem e6<| .mem e7 .nil),mG tC k6 (ai _)⟩
  ·obtain⟨m6,e6,e7,k6⟩:=iI g kr (ai _) ((o1.aR k2).aR k4) cV;rw[show eC cv (.no x)=(cV,(eC cv x).2)from bC h];exact⟨348,b,m6,Yo.2.1,aJ (af0 b rv xv (eC cv x).2 (eC cv x).1 ..) (.mem e1<| .mem l1<| .eN hm e2<| .mem e3<| .mem e4<| .cond (neT h)<| .mem e6<| .mem e7 .nil),mG kr k6 (ai _)⟩
 |KI x ih=>
  rintro m xv g hr ⟨b,xv,rfl,hb,ob,hx⟩ hs;obtain⟨m1,e1,o1,k1,n1,_⟩:=aV g [vI 0,vI 0,.string .empty,.bool false];have g1:=g.ext k1;have l1:aP b 0 m1=some (xv,m1):=aN (ob.aR k1) rfl;obtain⟨f,b',m2,hm,e2,k2⟩:=ih m1 xv g1 (hR _ _ hr k1) (XR.ext k1 (fun _ _ h=>h) hx) hs;have kg:=k1.aS k2;have g2:=g.ext kg;obtain⟨m3,m4,e3,e4,o4,k4,n4⟩:=iX g2 [vI 0,vI 0,.string .empty,.bool false] (eC cv x).1.cells rfl rfl;have kr:=kg.aS k4;have g4:=g.ext kr
  by_cases h:(eC cv x).2=0
  ·have l2:eW 4 m2.next 0 m4=some ((eC cv x).1.val,m4):=bW (vs:=(eC cv x).1.cells) o4 rfl (af rfl);obtain⟨m5,e5,k5⟩:=alZ (K:=K) g4 (eC cv x).1;have tC:=kr.aS k5;obtain⟨m6,e6,e7,k6⟩:=iI g tC (ai _) (((o1.aR k2).aR k4).aR k5) (cd (decide ((eC cv x).1.k=0)));rw[show eC cv (.KI x)=(cd (decide ((eC cv x).1.k=0)),0)from bS (by rw[h];simp)];rw[h]at e2;exact⟨349,b,m6,Yo.2.2.1,aJ (afX b rv xv (eC cv x).1 (cd (decide ((eC cv x).1.k=0))) ..) (.mem e1<| .mem l1<| .eN hm e2<| .mem e3<| .mem e4<| .cond rfl<| .mem l2<| .call e5<| .mem e6<| .mem e7 .nil),mG tC k6 (ai _)⟩
  ·obtain⟨m6,e6,e7,k6⟩:=iI g kr (ai _) ((o1.aR k2).aR k4) cV;rw[show eC cv (.KI x)=(cV,(eC cv x).2)from bC h];exact⟨349,b,m6,Yo.2.2.1,aJ (afY b rv xv (eC cv x).2 (eC cv x).1 ..) (.mem e1<| .mem l1<| .eN hm e2<| .mem e3<| .mem e4<| .cond (neT h)<| .mem e6<| .mem e7 .nil),mG kr k6 (ai _)⟩
 |bin op l r ihl ihr=>
  rintro m xv g hr ⟨b,lv,SO,rfl,hb,ob,hl,wX⟩ hs;obtain⟨m1,e1,o1,k1,n1,_⟩:=aV g [vI 0,vI 0,.string .empty,.bool false];have g1:=g.ext k1;have l1:aP b 1 m1=some (lv,m1):=aN (ob.aR k1) rfl;obtain⟨f,b',m2,hm,e2,k2⟩:=ihl m1 lv g1 (hR _ _ hr k1) (XR.ext k1 (fun _ _ h=>h) hl) hs.1;have kg:=k1.aS k2;have g2:=g.ext kg;obtain⟨m3,m4,e3,e4,o4,k4,n4⟩:=iX g2 [vI 0,vI 0,.string .empty,.bool false] (eC cv l).1.cells rfl rfl;have kr:=kg.aS k4;have g4:=g.ext kr;have o14:=(o1.aR k2).aR k4
  by_cases h:(eC cv l).2=0
  ·have l2:aP b 2 m4=some (SO,m4):=aN (ob.aR kr) rfl;rw[h]at e2;obtain⟨f',b'',m5,OS,e5,k5⟩:=ihr m4 SO g4 (hR _ _ hr kr) (XR.ext kr (fun _ _ h=>h) wX) hs.2;have tC:=kr.aS k5;have g5:=g.ext tC;obtain⟨m6,m7,e6,e7,o7,k7,n7⟩:=iX g5 [vI 0,vI 0,.string .empty,.bool false] (eC cv r).1.cells rfl rfl;have Ml:=tC.aS k7;have g7:=g.ext Ml;have o17:=(o14.aR k5).aR k7
   by_cases h':(eC cv r).2=0
   ·rw[h']at e5;have la:aP b 0 m7=some (vI op,m7):=aN (ob.aR Ml) rfl;have lb:eW 4 m2.next 0 m7=some ((eC cv l).1.val,m7):=bW (vs:=(eC cv l).1.cells) ((o4.aR k5).aR k7) rfl (af rfl);have lc:eW 4 m5.next 0 m7=some ((eC cv r).1.val,m7):=bW (vs:=(eC cv r).1.cells) o7 rfl (af rfl);obtain⟨m8,e8,k8⟩:=amg (K:=K) g7 op (eC cv l).1 (eC cv r).1 (Fo hs.1) (Fo hs.2);have Wu:=Ml.aS k8;obtain⟨m9,e9,MT,k9⟩:=iI g Wu (ai _) (o17.aR k8) (sM op (eC cv l).1 (eC cv r).1).1;rw[show eC cv (.bin op l r)=sM op (eC cv l).1 (eC cv r).1 from by show(if _ then _ else _)=_;rw[bS (by rw[h];simp),bS (by rw[h'];simp)]];exact⟨329,b,m9,Yo.1,aJ (agt b rv op 0 0 (sM op (eC cv l).1 (eC cv r).1).2 lv SO (eC cv l).1 (eC cv r).1 (sM op (eC cv l).1 (eC cv r).1).1 ..) (.mem e1<| .mem l1<| .eN hm e2<| .mem e3<| .mem e4<| .cond rfl<| .mem l2<| .eN OS e5<| .mem e6<| .mem e7<| .cond rfl<| .mem la<| .mem lb<| .mem lc<| .mem (bM g7)<| .call e8<| .mem (bM (g.ext Wu))<| .mem e9<| .mem MT .nil),mG Wu k9 (ai _)⟩
   ·obtain⟨m9,e9,MT,k9⟩:=iI g Ml (ai _) o17 cV;rw[show eC cv (.bin op l r)=(cV,(eC cv r).2)from by show(if _ then _ else _)=_;rw[bS (by rw[h];simp),bC h']];exact⟨329,b,m9,Yo.1,aJ (agu b rv 0 0 (eC cv r).2 0 lv SO (eC cv l).1 (eC cv r).1 cV ..) (.mem e1<| .mem l1<| .eN hm e2<| .mem e3<| .mem e4<| .cond rfl<| .mem l2<| .eN OS e5<| .mem e6<| .mem e7<| .cond (neT h')<| .mem e9<| .mem MT .nil),mG Ml k9 (ai _)⟩
  ·obtain⟨m9,e9,MT,k9⟩:=iI g kr (ai _) o14 cV;rw[show eC cv (.bin op l r)=(cV,(eC cv l).2)from bC h];exact⟨329,b,m9,Yo.1,aJ (agv b rv 0 (eC cv l).2 0 0 lv SO (eC cv l).1 cV cV ..) (.mem e1<| .mem l1<| .eN hm e2<| .mem e3<| .mem e4<| .cond (neT h)<| .mem e9<| .mem MT .nil),mG kr k9 (ai _)⟩
end
end Go.AM
namespace Go.AM
set_option maxRecDepth 1000000
open Go Go.Conc Go.Proofs
def fC (l:List V):List ae:=l.flatMap V.cells
theorem ir (l:List V):(fC l).length=l.length*4:=by
 unfold fC
 induction l with
 |nil=>rfl
 |cons a l ih=>simp only[List.flatMap_cons,List.length_append,ih,List.length_cons];show 4+_=_;omega
theorem vV:∀{l:List V}{i:Nat}{x:V},l[i]?=some x->((fC l).drop (i*4)).take 4=x.cells
 |a::l,0,x,h=>by
  simp only[List.getElem?_cons_zero,ah]at h;subst h;unfold fC;rw[List.flatMap_cons,Nat.zero_mul,List.drop_zero];exact List.take_left' rfl
 |a::l,i+1,x,h=>by
  unfold fC;have :(i+1)*4=a.cells.length+i*4:=by show _=4+_;omega
  rw[List.flatMap_cons,this,List.drop_length_add_append];exact vV (l:=l) (by simpa using h)
abbrev rQ (m:Mem)(v:ae)(l:List V):Prop:=nj m v 4 l.length (fC l)
theorem rQ.ld{m:Mem}{l:List V}{i b n c:Nat}{x:V}(h:rQ m (vL b 0 n c) l)(hx:l[i]?=some x):eW 4 b (0+i*4) m=some (x.val,m):=by
 obtain⟨_,⟨e,_⟩|⟨b',c',e,ho,_⟩⟩:=h
 ·cases e
 ·cases e;have cC:=(List.getElem?_eq_some_iff.1 hx).1;exact bW ho (by rw[Nat.zero_add];exact vV hx) (by rw[ir];omega)
def cj:List V->List V->Int
 | [],[]=>0
 | [],_::_=> -1
 |_::_,[]=>1
 |a::l,b::r=>if kB a b≠0 then kB a b else cj l r
section
variable {K:gS}{m:Mem}
theorem TL:nQ 154 3 [6]=true:=aY
theorem G2:l9 (cI 154) 2=some (0,(iy 154 [2])):=aY
theorem G6:pJ (j0 154) (cI 154) (iy 154 [2]) 2 0=true:=aY
theorem afA (pa la ca pb lb cb:Nat):gN 154 0 2 [0,1,2] [vL pa 0 la ca,vL pb 0 lb cb,.func (.func 155) #[] #[]]
 []
 .normal [0,1,2,11,12,13] [vL pa 0 la ca,vL pb 0 lb cb,.func (.func 155) #[] #[],vL pa 0 la ca,vI la,vI 0]:=jz
theorem afu (i pa la ca pb lb cb:Nat):dX 154 [2] 0 99 [0,1,2,11,12,13] [vL pa 0 la ca,vL pb 0 lb cb,.func (.func 155) #[] #[],vL pa 0 la ca,vI la,vI i]
 [bP (gB i la) false]
 (.exit 0) [0,1] [vL pa 0 la ca,vL pb 0 lb cb]:=jz
theorem afy (i pa la ca pb lb cb:Nat)(x:V)(bZ:Nat):dX 154 [2] 0 99 [0,1,2,11,12,13] [vL pa 0 la ca,vL pb 0 lb cb,.func (.func 155) #[] #[],vL pa 0 la ca,vI la,vI i]
 [bP (gB i la) true,
  .idx i la i,
  .mem (eW 4 pa (0+i*4)) (bQ x),
  dN nY bZ,
  jK bZ 0 (sR x),
  bP (EE i lb) true]
 .ret [6] [vI 1]:=jz
theorem afv (i pa la ca pb lb cb:Nat)(x y:V)(c:Int)(bZ dG:Nat):dX 154 [2] 0 99 [0,1,2,11,12,13] [vL pa 0 la ca,vL pb 0 lb cb,.func (.func 155) #[] #[],vL pa 0 la ca,vI la,vI i]
 [bP (gB i la) true,
  .idx i la i,
  .mem (eW 4 pa (0+i*4)) (bQ x),
  dN nY bZ,
  jK bZ 0 (sR x),
  bP (EE i lb) false,
  .idx i lb i,
  .mem (eW 4 pb (0+i*4)) (bQ y),
  dN nY dG,
  jK dG 0 (sR y),
  iR 4 bZ (bQ x),
  iR 4 dG (bQ y),
  .gD (.func (.func 155) #[] #[]) [bQ x,bQ y] (vI c),
  bP (tB c 0) true]
 .ret [6] [vI c]:=jz
theorem afw (i pa la ca pb lb cb:Nat)(x y:V)(c:Int)(bZ dG:Nat):dX 154 [2] 0 99 [0,1,2,11,12,13] [vL pa 0 la ca,vL pb 0 lb cb,.func (.func 155) #[] #[],vL pa 0 la ca,vI la,vI i]
 [bP (gB i la) true,
  .idx i la i,
  .mem (eW 4 pa (0+i*4)) (bQ x),
  dN nY bZ,
  jK bZ 0 (sR x),
  bP (EE i lb) false,
  .idx i lb i,
  .mem (eW 4 pb (0+i*4)) (bQ y),
  dN nY dG,
  jK dG 0 (sR y),
  iR 4 bZ (bQ x),
  iR 4 dG (bQ y),
  .gD (.func (.func 155) #[] #[]) [bQ x,bQ y] (vI c),
  bP (tB c 0) false]
 .normal [0,1,2,11,12,13] [vL pa 0 la ca,vL pb 0 lb cb,.func (.func 155) #[] #[],vL pa 0 la ca,vI la,vI (fg i 1)]:=jz
theorem afx (pa la ca pb lb cb:Nat):gN 154 3 99 [0,1] [vL pa 0 la ca,vL pb 0 lb cb]
 [bP (gB la lb) true]
 .ret [6] [vI (-1)]:=jz
theorem afz (pa la ca pb lb cb:Nat):gN 154 3 99 [0,1] [vL pa 0 la ca,vL pb 0 lb cb]
 [bP (gB la lb) false]
 .ret [6] [vI 0]:=jz
theorem akd (pa la ca pb lb cb:Nat)(x1:Int):Path 117 [vL pa 0 la ca,vL pb 0 lb cb]
 [.call 154 [vL pa 0 la ca,vL pb 0 lb cb,.func (.func 155) #[] #[]] (vI x1)]
 (vI x1):=fB
theorem u4:vl 154 [2]:=aY
theorem Fw:(dZ (cI 154)).length<=99:=af aY
theorem amq (g:Gd m){a b:List V}{pa ca pb cb:Nat}(ha:rQ m (vL pa 0 a.length ca) a)(hb:rQ m (vL pb 0 b.length cb) b)(hl:a.length<99999):
  ∃m',Ev K 154 [vL pa 0 a.length ca,vL pb 0 b.length cb,.func (.func 155) #[] #[]] m (vI (cj a b)) m'/\Kp m m' fu:=by
 obtain⟨A,hA⟩:∃A,A=vL pa 0 a.length ca:=⟨_,rfl⟩;obtain⟨B,hB⟩:∃B,B=vL pb 0 b.length cb:=⟨_,rfl⟩;obtain⟨t0,h0,e0⟩:=cX (K:=K) (tm:=entry [vL pa 0 a.length ca,vL pb 0 b.length cb,.func (.func 155) #[] #[]]) (afA pa a.length ca pb b.length cb) rfl (.nil (m:=m));obtain⟨e,t1,m1,he,hx,kp,hp⟩:=xJ (K:=K) (nt:=j0 154) (a:=iy 154 [2])
  (Inv:=fun n tm m'=>∃i,n=a.length-i/\i<=a.length/\i<=b.length/\dL [0,1,2,11,12,13] tm=[A,B,.func (.func 155) #[] #[],A,vI (a.length:Int),vI i]/\Kp m m' fu/\cj a b=cj (a.drop i) (b.drop i))
  (dQ:=fun e tm m'=>Kp m m' fu/\((e= .exit 0/\dL [0,1] tm=[A,B]/\a.length<=b.length/\cj a b=cj [] (b.drop a.length))\/(e= .ret/\dL [6] tm=[vI (cj a b)])))
  (by
   rintro n tm m1 ⟨i,rfl,hi,hib,hg,k,hc⟩;have g1:=g.ext k;have WH:=ha.aR k;have nD:=hb.aR k;rw[hA,hB]at hg
   by_cases h1:i<a.length
   ·obtain⟨x,hx⟩:∃x,a[i]?=some x:=⟨a[i],List.getElem?_eq_getElem h1⟩;have hda:a.drop i=x::a.drop (i+1):=by rw[List.drop_eq_getElem_cons h1];congr 1;exact Option.some.inj ((List.getElem?_eq_getElem h1).symm.trans hx)
    have c1:(.bool (gB i (a.length:Int)):ae)= .bool true:=by rw[fp,vB aj]
    obtain⟨m2,m3,e2,e3,o3,k3,n3⟩:=iX g1 (V.cells ⟨0,0,.empty,false⟩) x.cells rfl rfl
    by_cases h2:i<b.length
    ·obtain⟨y,hy⟩:∃y,b[i]?=some y:=⟨b[i],List.getElem?_eq_getElem h2⟩;have Hi:b.drop i=y::b.drop (i+1):=by rw[List.drop_eq_getElem_cons h2];congr 1;exact Option.some.inj ((List.getElem?_eq_getElem h2).symm.trans hy)
     have g3:=g1.ext k3;obtain⟨m4,m5,e4,e5,o5,k5,n5⟩:=iX g3 (V.cells ⟨0,0,.empty,false⟩) y.cells rfl rfl;have g5:=g3.ext k5;obtain⟨m6,e6,k6⟩:=aiF (K:=K) g5 x y;have kk:=((k.aS k3).aS k5).aS k6
     by_cases h3:kB x y=0
     ·left
      have hv:tB (kB x y) 0=false:=by rw[tY,w9 (by simp[h3])]
      obtain⟨t2,fO,gp⟩:=bK u4 (afw i pa a.length ca pb b.length cb x y _ _ _) hg (.cond c1<| .idx rfl h1<| .mem (rQ.ld WH hx)<| .mem e2<| .mem e3<| .cond (by rw[Hr,w9 aj])<| .idx rfl h2<| .mem (rQ.ld (nD.aR k3) hy)<| .mem e4<| .mem e5<| .mem (bW (o3.aR k5) rfl (ai 4))<| .mem (bW o5 rfl (ai 4))<| .gD e6<| .cond (by rw[hv]) .nil);refine⟨a.length-(i+1),t2,m6,aj,fO,i+1,rfl,h1,h2,?_,kk,?_⟩
      ·rw[gp,qK ⟨aj,aj⟩,hA,hB];rfl
      ·rw[hc,hda,Hi]
       show(if kB x y≠0 then kB x y else cj (a.drop (i+1)) (b.drop (i+1)))=_
       rw[bS (by simp[h3])]
     ·right
      have hv:tB (kB x y) 0=true:=by rw[tY,vB h3]
      obtain⟨t2,fO,gp⟩:=bK u4 (afv i pa a.length ca pb b.length cb x y _ _ _) hg (.cond c1<| .idx rfl h1<| .mem (rQ.ld WH hx)<| .mem e2<| .mem e3<| .cond (by rw[Hr,w9 aj])<| .idx rfl h2<| .mem (rQ.ld (nD.aR k3) hy)<| .mem e4<| .mem e5<| .mem (bW (o3.aR k5) rfl (ai 4))<| .mem (bW o5 rfl (ai 4))<| .gD e6<| .cond (by rw[hv]) .nil);refine⟨_,t2,m6,(by intro h;cases h),fO,kk,.inr ⟨rfl,?_⟩⟩;rw[gp,hc,hda,Hi]
      show _=[vI (if kB x y≠0 then kB x y else _)]
      rw[bC h3]
    ·right
     obtain⟨t2,fO,gp⟩:=bK u4 (afy i pa a.length ca pb b.length cb x _) hg
      (.cond c1<| .idx rfl h1<| .mem (rQ.ld WH hx)<| .mem e2<| .mem e3<| .cond (by rw[Hr,vB aj]) .nil)
     refine⟨_,t2,m3,(by intro h;cases h),fO,k.aS k3,.inr ⟨rfl,?_⟩⟩;rw[gp,hc,hda,show b.drop i=[]from List.drop_of_length_le aj];rfl
   ·right
    obtain⟨t2,fO,gp⟩:=bK u4 (afu i pa a.length ca pb b.length cb) hg (.cond (by rw[fp,w9 aj]) .nil);refine⟨_,t2,m1,(by intro h;cases h),fO,k,.inl ⟨rfl,by rw[gp,hA,hB],aj,?_⟩⟩;have :i=a.length:=aj;rw[hc,this,List.drop_length])
  (n:=a.length) (k:=100000) (tm:=t0) (m:=m) ⟨0,aj,aj,aj,by rw[e0,hA,hB];rfl,Kp.refl _ _,rfl⟩ aj
 refine⟨m1,?_,kp⟩;rcases hp with⟨rfl,hg,hle,hc⟩|⟨rfl,hg⟩
 ·rw[hA,hB]at hg
  by_cases h1:a.length<b.length
  ·obtain⟨t2,h2,e2⟩:=cX (afx pa a.length ca pb b.length cb) hg (.cond (K:=K) (by rw[fp,vB aj]) (.nil (m:=m1)));have hr:cj a b= -1:=by rw[hc,List.drop_eq_getElem_cons h1];rfl
   rw[hr];exact iO TL (aU.cut h0 (aU.Cm G2 G6 hx rfl (aU.last h2 Fw))) (.inr rfl) e2
  ·obtain⟨t2,h2,e2⟩:=cX (afz pa a.length ca pb b.length cb) hg (.cond (K:=K) (by rw[fp,w9 aj]) (.nil (m:=m1)));have hr:cj a b=0:=by rw[hc,List.drop_of_length_le aj];rfl
   rw[hr];exact iO TL (aU.cut h0 (aU.Cm G2 G6 hx rfl (aU.last h2 Fw))) (.inr rfl) e2
 ·exact iO TL (aU.cut h0 (aU.Ud G2 G6 hx aY)) (.inr rfl) hg
theorem amw (g:Gd m){a b:List V}{pa ca pb cb:Nat}(ha:rQ m (vL pa 0 a.length ca) a)(hb:rQ m (vL pb 0 b.length cb) b)(hl:a.length<99999):
  ∃m',Ev K 117 [vL pa 0 a.length ca,vL pb 0 b.length cb] m (vI (cj a b)) m'/\Kp m m' fu:=by
 obtain⟨m1,e1,k1⟩:=amq (K:=K) g ha hb hl;exact⟨m1,aJ (akd ..) (.call e1 .nil),k1⟩
end
end Go.AM
namespace Go.AM
set_option maxRecDepth 1000000
open Go Go.Conc Go.Proofs
section
variable {K:gS}{c:Nat}{M1 M2:ae}{B:Nat->Prop}
theorem air {m m0:Mem}{S:Nat->Prop}{v:ae}{b s:Nat}(g:Gd m0)(k:Kp m0 m S)(hb:m0.next<=b)(hv:mY v=some b)(hs:(m.blk b).aZ=s):cZ (vI s) v (pS v) m=some (undef,m):=adW hv (by rw[k.floor];have :=g.fn;omega) hs
end
end Go.AM
namespace Go.AM
set_option maxRecDepth 1000000
open Go Go.Conc Go.Proofs
def Bl {α:Type}(E:nU α)(sz:Nat)(B:Nat->Prop)(m:Mem)(acc:List α)(sv:ae):Prop:=
 (acc=[]/\sv= .slice none 0 0)\/∃b cs c,sv=vL b 0 acc.length c/\(c=cD\/c=acc.length)/\0<acc.length/\B b/\Obj m b sz cs/\cA (fun x u=>E.R (fun y=>B y/\y≠b) x m u/\okV sz u) acc cs
section
variable {α:Type}{E:nU α}{sz t:Nat}{m0 m m1:Mem}{acc:List α}{sv v:ae}{S B B':Nat->Prop}{x:α}
theorem Bl.ext(h:Bl E sz B m acc sv)(k:Kp m m1 S)(hS:∀b,B b->¬S b):Bl E sz B m1 acc sv:=by
 rcases h with h|⟨b,cs,c,e,hc,hp,hb,ob,gO⟩
 ·exact .inl h
 ·exact .inr ⟨b,cs,c,e,hc,hp,hb,ob.ext k (hS b hb),gO.mono fun x u _ w=>⟨E.ext w.1 k fun y hy=>hS y hy.1,w.2⟩⟩
theorem Bl.aR(h:Bl E sz B m acc sv)(k:Kp m m1 fu):Bl E sz B m1 acc sv:=h.ext k fun _ _ h=>h
theorem Bl.fin(h:Bl E sz B m acc sv):(aT E sz).R B acc m sv:=by
 rcases h with⟨rfl,rfl⟩|⟨b,cs,c,rfl,hc,hp,hb,ob,gO⟩
 ·exact aT.nil
 ·exact⟨cs,ob.sl gO.one.1 hc,fun b' o' n' c' e=>(by cases e;exact hb),gO.mono fun x u _ w=>⟨E.mono w.1 fun y hy=>hy.1,w.2⟩⟩
theorem Bl.nil:Bl E sz B m [] (.slice none 0 0):= .inl ⟨rfl,rfl⟩
theorem Bl.add(h:Bl E sz B m acc sv)(g:Gd m)(g0:Gd m0)(h0:Kp m0 m S)(ht:sN.contains (t,sz)=true)(hs6:sz<=6)(hB0:∀b,B b->m0.next<=b/\b<m.next)(q:E.R B' x m v)(hd:∀b,B b->¬B' b)(H7:∀b,B' b->b<m.next)(ov:okV sz v)(hl:acc.length<2^30):
  ∃m2 m3 s',bh ab t 1 [(0,v)] m=some (vL m.next 0 1 1,m2)/\Gd m2/\Kp m m2 fu/\cK ab #[t,t] sv (vL m.next 0 1 1) m2=some (s',m3)/\Kp m m3 B/\Bl E sz (fun y=>B y\/B' y\/y=m.next+1) m3 (acc++[x]) s'/\kI s'=true/\m3.next=m.next+2:=by
 obtain⟨o2,k2,n2⟩:=gC g (k:={kind:=1,sz:=sz,cs:=v.cells.toList.map some}) (cs:=v.cells.toList) rfl rfl rfl;obtain⟨m2,yF⟩:∃m2,m2=m.alloc {kind:=1,sz:=sz,cs:=v.cells.toList.map some}:=⟨_,rfl⟩;have e2:=bs1 (m:=m) ht ov.1 hs6;rw[<-yF]at e2 o2 k2 n2;have g2:=g.ext k2;have yD:nj m2 (vL m.next 0 1 1) sz 1 v.cells.toList:=o2.sl (by simp[ov.1]) (.inr rfl);have q2:=E.ext q k2 fun _ _ h=>h
 rcases h with⟨rfl,rfl⟩|⟨b,cs,c,rfl,hc,hp,hb,ob,gO⟩
 ·obtain⟨m3,e3,o3,k3,n3⟩:=Pu g2 ht yD ov.2 eS eS;refine⟨m2,m3,_,e2,g2,k2,e3,(k2.aS k3).tA,?_,rfl,aj⟩;refine .inr ⟨m2.next,_,cD,rfl,.inl rfl,de,.inr (.inr aj),o3,⟨v,[],de,⟨E.mono (E.ext q2 k3 fun _ _ h=>h) fun y hy=>⟨.inr (.inl hy),by have :=H7 y hy;omega⟩,ov⟩,rfl⟩⟩
 ·have nD:=(hB0 b hb).1;have my:=(hB0 b hb).2;have ob2:=ob.aR k2;have QO:∃m3,cK ab #[t,t] (vL b 0 acc.length c) (vL m.next 0 1 1) m2=some (vL m2.next 0 (acc.length+1) cD,m3)/\Obj m3 m2.next sz (cs++v.cells.toList)/\Kp m2 m3 (fun y=>y=b)/\m3.next=m2.next+1:=by
   rcases hc with rfl|rfl
   ·exact ZM (rest:=[]) g2 ht (by simpa using ob2) gO.one.1 (g0.own (h0.aS k2) nD) yD ov.2 aj
   ·obtain⟨m3,x1,x2,x3,x4⟩:=Ky g2 ht ob2 gO.one.1 eS yD ov.2 aj;exact⟨m3,x1,x2,x3.tA,x4⟩
  obtain⟨m3,e3,o3,k3,n3⟩:=QO;refine⟨m2,m3,_,e2,g2,k2,e3,(k2.tA.trans (k3.mono fun y _ h=>by rw[h];exact hb) fun _ _ h=>h),?_,rfl,aj⟩;have Uu:Kp m m3 (fun y=>y=b):=k2.tA.trans k3 fun _ _ h=>h
  refine .inr ⟨m2.next,_,cD,de,.inl rfl,de,.inr (.inr aj),o3,cA.snoc ⟨E.mono (E.ext q Uu fun y hy e=>hd b hb (e▸hy)) fun y hy=>⟨.inr (.inl hy),by have :=H7 y hy;omega⟩,ov⟩
   (gO.mono fun x u _ w=>⟨E.mono (E.ext w.1 Uu fun y hy e=>hy.2 e) fun y hy=>⟨.inl hy.1,by have :=hB0 y hy.1;omega⟩,w.2⟩)⟩
end
def iP:nU (Option X) where
 R B x m v:=match x with |none=>v= .nilIface|some x=>XR B x m v
 mono:=by
  rintro B B' x m v h k;cases x with
  |none=>exact h
  |some x=>exact XR.mono k h
 ext:=by
  rintro B S x m m' v h k hs;cases x with
  |none=>exact h
  |some x=>exact XR.ext k hs h
end Go.AM
namespace Go.AM
set_option maxRecDepth 1000000
open Go Go.Conc Go.Proofs
theorem IC:∀(vs c a d:List ae),c.length=vs.length->tN (a++(c++d)) a.length vs=a++(vs++d)
 | [],[],a,d,_=>rfl
 | [],x::c,a,d,h=>by simp at h
 |v::vs,[],a,d,h=>by simp at h
 |v::vs,x::c,a,d,h=>by
  unfold tN;have e:(a++(x::c++d)).set a.length v=(a++[v])++(c++d):=de;rw[e,show a.length+1=(a++[v]).length by simp,IC vs c (a++[v]) d (by simpa using h)];simp
theorem se (a b:List V):fC (a++b)=fC a++fC b:=by unfold fC;simp
theorem zN (x:V)(b:List V):fC (x::b)=x.cells++fC b:=by unfold fC;simp
theorem ajf {a b:List V}(x u:V):tN (fC (a++x::b)) (a.length*4) u.cells=fC (a++[u]++b):=by
 rw[se,zN,<-ir a,IC u.cells x.cells (fC a) (fC b) rfl,se,se,zN];simp[fC]
theorem Z2:ab.underlying 47=some (.slice 49):=aY
theorem aa9:gL ab 49=some cV.val:=aY
noncomputable def OF:Bool:=match ab.info? 49 with |some i=>Nat.beq i.size 4&&Nat.ble i.bytes 1000|none=>false
theorem acX:∃i,ab.info? 49=some i/\i.size=4/\i.bytes<=1000:=by
 have h:OF=true:=aY;unfold OF at h
 split at h
 ·rename_i i hi;rw[ag]at h;exact⟨i,hi,aA h.1,af h.2⟩
 ·cases h
theorem ai5 (n:Nat):((Array.range (n*4)).map (cV.val.cells[·%cV.val.cells.size]!)).toList=fC (List.replicate n cV):=by
 rw[Array.toList_map,Array.toList_range]
 induction n with
 |zero=>rfl
 |succ n ih=>
  rw[show(n+1)*4=n*4+4 by omega,List.range_add,List.map_append,ih,List.replicate_succ',se]
  congr 1
  have h:cV.val.cells.size=4:=rfl;have e0:(n*4+0)%4=0:=aj;have e1:(n*4+1)%4=1:=aj;have e2:(n*4+2)%4=2:=aj;have e3:(n*4+3)%4=3:=aj
  show[cV.val.cells[(n*4+0)%cV.val.cells.size]!,cV.val.cells[(n*4+1)%cV.val.cells.size]!,cV.val.cells[(n*4+2)%cV.val.cells.size]!,cV.val.cells[(n*4+3)%cV.val.cells.size]!]=_
  rw[h,e0,e1,e2,e3];rfl
theorem aku {m:Mem}{n:Nat}(hn:n<2^30):fT ab 47 (vI n) (vI n) m=some (vL m.next 0 n n,m.alloc {kind:=1,sz:=4,cs:=(fC (List.replicate n cV)).map some}):=by
 obtain⟨i,h1,h2,h3⟩:=acX;unfold fT;simp only[Z2,h1,aa9];have hm:(n:Int)*(i.bytes:Int)<=(n:Int)*1000:=Int.mul_le_mul_of_nonneg_left aj aj;rw[bC ⟨aj,aj,aj,aj⟩];have e:((n:Int).toNat)=n:=aj;rw[e,h2,ai5]
def bH:nU (List V) where
 R B x m v:=∃b c,v=vL b 0 x.length c/\B b/\Obj m b 4 (fC x)/\(c=cD\/c=x.length)
 mono:=by
  rintro B B' x m v ⟨b,c,e,hb,o,h⟩ k;exact⟨b,c,e,k b hb,o,h⟩
 ext:=by
  rintro B S x m m' v ⟨b,c,e,hb,o,h⟩ k hs;exact⟨b,c,e,hb,o.ext k (hs b hb),h⟩
theorem bH.ok{B:Nat->Prop}{x:List V}{m:Mem}{v:ae}(h:bH.R B x m v):okV 1 v:=by
 obtain⟨b,c,rfl,_⟩:=h;exact⟨rfl,by simp[ae.cells,ae.oneCell']⟩
def oP (cv:Nat->Int->Int->V):List X->List V->List V×Int
 | [],acc=>(acc,0)
 |x::l,acc=>if(eC cv x).2≠0 then([],(eC cv x).2)else oP cv l (acc++[(eC cv x).1])
structure Scope (K:gS)(R:Mem->Prop)(cv:Nat->Int->Int->V)(rv:ae):Prop where
 keep:∀m m',R m->Kp m m' fu->R m'
 jO:∀p i j m b,eF (cv p i j)->Gd m->R m->Obj m b 0 [vP p 0,vI i,vI j]->∃m',Ev K 351 [vP b 0,rv] m (.tuple #[(cv p i j).val,vI 0]) m'/\Kp m m' fu
def Tz (cv:Nat->Int->Int->V)(x:X):Prop:=x.all eF (fun p i j=>eF (cv p i j))
section
variable {K:gS}{B:Nat->Prop}{m m0:Mem}
theorem afV (n cc:Nat)(a:Option Addr)(sv rv:ae)(bZ:Nat):gN 111 0 3 [0,1,2] [sv,.slice a n cc,rv]
 [.mem (fT ab 47 (vI n) (vI n)) (vL bZ 0 n n)]
 .normal [0,2,8,16,17,18] [sv,rv,vL bZ 0 n n,.slice a n cc,vI n,vI 0]:=jz
theorem afS (q n cc i:Nat)(a:Option Addr)(sv rv:ae):dX 111 [3] 0 99 [0,2,8,16,17,18] [sv,rv,vL q 0 n n,.slice a n cc,vI n,vI i]
 [bP (gB i n) false]
 (.exit 0) [0,8] [sv,vL q 0 n n]:=jz
theorem afU (p q n cc i:Nat)(sv rv xv:ae)(u:V)(z:Int)(bZ:Nat):dX 111 [3] 0 99 [0,2,8,16,17,18] [sv,rv,vL q 0 n n,vL p 0 n cc,vI n,vI i]
 [bP (gB i n) true,
  .idx i n i,
  .mem (aP p (0+i*1)) xv,
  .eN (dR ab xv "Of") [rv] (.tuple #[bQ u,vI z]),
  dN nY bZ,
  jK bZ 0 (sR u),
  bP (tB z 0) true]
 .ret [6,7] [fE,vI z]:=jz
theorem afT (p q n cc i:Nat)(sv rv xv:ae)(u:V)(bZ:Nat):dX 111 [3] 0 99 [0,2,8,16,17,18] [sv,rv,vL q 0 n n,vL p 0 n cc,vI n,vI i]
 [bP (gB i n) true,
  .idx i n i,
  .mem (aP p (0+i*1)) xv,
  .eN (dR ab xv "Of") [rv] (.tuple #[bQ u,vI 0]),
  dN nY bZ,
  jK bZ 0 (sR u),
  eE,
  iR 4 bZ (bQ u),
  .idx i n i,
  jK q (0+i*4) (sR u)]
 .normal [0,2,8,16,17,18] [sv,rv,vL q 0 n n,vL p 0 n cc,vI n,vI (fg i 1)]:=jz
theorem afR (q n:Nat)(sv NI:ae)(bZ:Nat):gN 111 4 99 [0,8] [sv,vL q 0 n n]
 [.mem (bh ab 29 1 [(0,(vL q 0 n n))]) (vL bZ 0 1 1),
  .mem (cK ab #[29,29] sv (vL bZ 0 1 1)) NI]
 .ret [6,7] [NI,vI 0]:=jz
theorem agW:nQ 111 3 [6,7]=true:=aY
theorem Qi:(dZ (cI 111)).length<=99:=af aY
theorem GP:vl 111 [3]:=aY
end
end Go.AM
namespace Go.AM
set_option maxRecDepth 1000000
open Go Go.Conc Go.Proofs
structure Sd (m:Mem):Prop where
 deaf:m.deaf=0
 bf:m.base<=m.floor
 fn:m.floor<=m.next
 hn:m.home<=m.next
 bl:∀s∈m.bl,s.2.1<=m.next
section
variable {m m':Mem}{S B:Nat->Prop}
theorem Gd.sd(h:Gd m):Sd m:=⟨h.deaf,h.bf,h.fn,h.hn,h.bl⟩
theorem Sd.ext(h:Sd m)(k:Kp m m' S):Sd m':=
 ⟨k.deaf.trans h.deaf,by rw[k.base,k.floor];exact h.bf,by rw[k.floor];exact cp h.fn k.next,by rw[k.home];exact cp h.hn k.next,fun s hs=>by rw[k.bl]at hs;exact cp (h.bl s hs) k.next⟩
theorem Sd.fresh(h:Sd m){b:Nat}(hb:m.next<=b):aL m.bl b=false:=g8 fun x hx _ h2=>by have :=h.bl x hx;omega
theorem Sd.own(h:Sd m)(k:Kp m m' S){b:Nat}(hb:m.next<=b):Own m' b:=by
 have h1:=h.fresh hb;unfold Own Mem.ft;rw[k.bl,k.base,k.floor,h1];have :=h.bf;have :=h.fn;simp only[Bool.not_false,Bool.true_and,ag,Bool.or_eq_true,jQ];exact⟨aj,.inl aj⟩
theorem Sd.alloc(h:Sd m)(cs:List ae):∃m',mZ (cs.map some) m=some (vP m.next 0,m')/\Obj m' m.next 0 cs/\Kp m m' fu/\m'.next=m.next+1/\(m'.blk m.next).pos=1:=by
 refine⟨m.alloc ⟨1,0,cs.map some,#[],0,.empty,1,0⟩,rfl,⟨Nat.lt_succ_self _,?_,?_,?_,h.fresh (ai _)⟩,⟨Nat.le_succ _,rfl,rfl,rfl,rfl,rfl,rfl,rfl,rfl,fun x hx _=>?_⟩,rfl,?_⟩
 ·rw[Mem.bY,bC rfl]
 ·rw[Mem.bY,bC rfl]
 ·rw[Mem.bY,bC rfl]
 ·rw[Mem.bY,bS aj]
 ·rw[Mem.bY,bC rfl]
theorem Sd.Se(h:Sd m)(z v:ae)(h1:kI v=true):∃m1 m2,mZ [some z] m=some (vP m.next 0,m1)/\gJ m.next 0 v m1=some (undef,m2)/\Obj m2 m.next 0 [v]/\Kp m m2 fu/\m2.next=m.next+1:=by
 obtain⟨m1,e1,o1,k1,n1,_⟩:=h.alloc [z];obtain⟨m2,e2,o2,k2⟩:=iZ (o:=0) v o1 ((h.own k1 (ai _)).may _ _) (af rfl) h1;have e3:m2.next=m1.next:=by
  unfold gJ at e2;rw[h1]at e2;simp only at e2
  split at e2
  ·split at e2
   ·split at e2
    ·cases e2;rfl
    ·cases e2
   ·cases e2
  ·cases e2
 exact⟨m1,m2,e1,e2,o2,k1.new k2 (N:=m.next) (ai _) fun b hb=>by rw[hb];exact ai _,aj⟩
structure RO (m:Mem)(b sz:Nat)(cs:List ae):Prop where
 lt:b<m.next
 kind:(m.blk b).kind=1
 sz:(m.blk b).sz=sz
 cs:(m.blk b).cs=cs.map some
theorem Obj.ro{b sz:Nat}{cs:List ae}(h:Obj m b sz cs):RO m b sz cs:=⟨h.lt,h.kind,h.sz,h.cs⟩
theorem RO.obj{b sz:Nat}{cs:List ae}(h:RO m b sz cs)(hv:aL m.bl b=false):Obj m b sz cs:=⟨h.lt,h.kind,h.sz,h.cs,hv⟩
theorem RO.ext{b sz:Nat}{cs:List ae}(h:RO m b sz cs)(k:Kp m m' S)(hs:¬S b):RO m' b sz cs:=by
 have e:=k.blk b h.lt hs;exact⟨aW h.lt k.next,by rw[e];exact h.kind,by rw[e];exact h.sz,by rw[e];exact h.cs⟩
theorem RO.ld1{b sz o:Nat}{cs:List ae}{v:ae}(h:RO m b sz cs)(hv:cs[o]?=some v)(hm:meets m.bl b o 1=false):aP b o m=some (v,m):=by
 unfold aP;have hk:=h.kind;have hc:=h.cs;cases hb:m.blk b with
 |mk kind z c es clock str pos aZ=>
  rw[hb]at hk hc;simp only at hk hc;subst hk hc;simp only[CK,hm,Bool.not_false,yf];have :(cs.map some).drop o=some v::(cs.drop (o+1)).map some:=by
   rw[<-List.map_drop];have hd:cs.drop o=v::cs.drop (o+1):=by
    obtain⟨cC,he⟩:=List.getElem?_eq_some_iff.1 hv;rw[<-he];exact List.drop_eq_getElem_cons cC
   rw[hd];rfl
  rw[this]
theorem RO.G4{b sz o:Nat}{cs:List ae}{v:ae}(h:RO m b sz cs)(hv:cs[o]?=some v)(hm:meets m.bl b o 1=false):m.dB b o 1=some [v]:=by
 obtain⟨cC,he⟩:=List.getElem?_eq_some_iff.1 hv;unfold Mem.dB;simp only[h.kind,hm,h.cs,beq_self_eq_true,Bool.not_false,Bool.and_self,if_true];rw[<-List.map_drop,kE (by simp;omega),List.drop_eq_getElem_cons cC,he];rfl
theorem RO.jL{b sz o:Nat}{cs:List ae}(v:ae)(h:RO m b sz cs)(hw:m.cS b o 1=true)(hn:o<cs.length)(h1:kI v=true):
  ∃m',gJ b o v m=some (undef,m')/\RO m' b sz (cs.set o v)/\Kp m m' (fun x=>x=b)/\m'.next=m.next:=by
 obtain⟨l,hl⟩:=Fc (v:=v) hn;have hp:=A0 _ _ _ _ hl;rw[lV (cs:=cs) (o:=o) (vs:=[v]) (by simp;omega)]at hp;obtain rfl:=Option.some.inj hp;have hk:=h.kind;have hc:=h.cs;have hz:=h.sz;unfold gJ;cases hb:m.blk b with
 |mk kind z c es clock str pos aZ=>
  rw[hb]at hk hc hz;simp only at hk hc hz;subst hk hc hz;simp only[h1,Ou hw,hl];refine⟨_,rfl,⟨h.lt,?_,?_,?_⟩,⟨ai _,rfl,rfl,rfl,rfl,rfl,rfl,rfl,rfl,fun x _ hx=>?_⟩,rfl⟩
  ·show((m.heap.put b _).get b).kind=1
   rw[ji.get_put,bC rfl]
  ·show((m.heap.put b _).get b).sz=_
   rw[ji.get_put,bC rfl]
  ·show((m.heap.put b _).get b).cs=_
   rw[ji.get_put,bC rfl];rfl
  ·show(m.heap.put b _).get x=m.blk x
   rw[ji.get_put,bS (fun e=>hx e.symm)];rfl
structure sO (B:Nat->Prop)(m m':Mem):Prop where
 next:m.next<=m'.next
 blk:∀b,B b->b<m.next->m'.blk b=m.blk b/\(aL m.bl b=false->aL m'.bl b=false)
theorem sO.trans{m1:Mem}(h:sO B m m1)(k:sO B m1 m'):sO B m m':=
 ⟨cp h.next k.next,fun b hb hl=>⟨(k.blk b hb (aW hl h.next)).1.trans (h.blk b hb hl).1,fun x=>(k.blk b hb (aW hl h.next)).2 ((h.blk b hb hl).2 x)⟩⟩
theorem sO.mono{B':Nat->Prop}(h:sO B m m')(k:∀b,B' b->B b):sO B' m m':=⟨h.next,fun b hb=>h.blk b (k b hb)⟩
theorem Kp.same(k:Kp m m' S)(h:∀b,B b->¬S b):sO B m m':=⟨k.next,fun b hb hl=>⟨k.blk b hl (h b hb),fun x=>by rw[k.bl];exact x⟩⟩
theorem Obj.mo{b sz:Nat}{cs:List ae}(h:Obj m b sz cs)(s:sO B m m')(hb:B b):Obj m' b sz cs:=by
 obtain⟨e,v⟩:=s.blk b hb h.lt;exact⟨aW h.lt s.next,by rw[e];exact h.kind,by rw[e];exact h.sz,by rw[e];exact h.cs,v h.yL⟩
def nU.DO{α:Type}(E:nU α):Prop:=∀(B:Nat->Prop) (x:α) (m m':Mem) (v:ae),E.R B x m v->sO B m m'->E.R B x m' v
theorem XR.g9:∀{x:X}{v:ae},XR B x m v->sO B m m'->XR B x m' v
 | .bin ..,_,⟨b,lv,rv,e,hb,o,h1,h2⟩,s=>⟨b,lv,rv,e,hb,o.mo s hb,XR.g9 h1 s,XR.g9 h2 s⟩
 | .no ..,_,⟨b,xv,e,hb,o,h⟩,s=>⟨b,xv,e,hb,o.mo s hb,XR.g9 h s⟩
 | .KI ..,_,⟨b,xv,e,hb,o,h⟩,s=>⟨b,xv,e,hb,o.mo s hb,XR.g9 h s⟩
 | .lit ..,_,⟨b,e,hb,o⟩,s=>⟨b,e,hb,o.mo s hb⟩
 | .jO ..,_,⟨b,e,hb,o⟩,s=>⟨b,e,hb,o.mo s hb⟩
theorem nR.g9:nR.DO:=fun _ _ _ _ _ h s=>XR.g9 h s
theorem jq.g9{α:Type}{val:α->ae}:(jq val).DO:=fun _ _ _ _ _ h _=>h
theorem bH.g9:bH.DO:=by
 rintro B x m m' v ⟨b,c,e,hb,o,h⟩ s;exact⟨b,c,e,hb,o.mo s hb,h⟩
theorem aT.g9{α:Type}{E:nU α}{sz:Nat}(hE:E.DO):(aT E sz).DO:=by
 rintro B l m m' v ⟨cs,h1,h2,h3⟩ s;refine⟨cs,⟨h1.1,h1.2.imp id ?_⟩,h2,h3.mono fun x u _ w=>⟨hE _ _ _ _ _ w.1 s,w.2⟩⟩;rintro⟨b,c,e,o,x⟩;exact⟨b,c,e,o.mo s (h2 _ _ _ _ e),x⟩
end
noncomputable def KW:gS:=⟨fun _ n=>mA ab X0 n,fun _ _ _ _ _ _=>rfl⟩
structure AY (K:gS):Prop where
 go:∀M n args m,K.C M (n+1) 137 args m=v5 X0 (mA ab X0 M) args m
 wait:∀M n args m,K.C M (n+1) 140 args m=FB args m
theorem SF {K:gS}(hK:AY K){m aX m2:Mem}{w f d o i:Nat}{cap:Array ae}{l rest:List Span}{u:ae}(fG:sj X0 (.func (.func f) #[] cap) m=some (d,o,i))(Y3:lu w d o m=some aX)
  (hl:Ae (lM aX w (.func (.func f) #[] cap)) d o i=some l)(hZ:rest=aX.opn.filter fun s=>!l.contains s)(nW:aX.deaf=0)(dm:aX.pend.length<4)(hc:(l.all fun s=>aX.opn.contains s)=true)(ha:jE l=true)
  (hap:(l.all fun s=>(rest++aX.bl).all (wN s))=true)(AQ:((rest++l).all fun t=>Nat.ble t.2.1 aX.next)=true)(hk:(l.all fun s=>Nat.beq s.2.1 (s.1+1)&&Nat.beq ((lM aX w (.func (.func f) #[] cap)).blk s.1).kind 1)=true)
  (gE:Ev KW f cap.toList (dv (lM aX w (.func (.func f) #[] cap)) l rest) u m2)(Y9:m2.deaf=0):
  Ev K 137 [vP w 0,.func (.func f) #[] cap] m (.tuple #[]) (jR (lM aX w (.func (.func f) #[] cap)) m2 l rest):=by
 obtain⟨N,hN⟩:=gE;refine⟨N+1,fun M n a b=>?_⟩;obtain⟨n,rfl⟩:∃k,n=k+1:=⟨n-1,aj⟩;rw[hK.go];have gE:=hN M M aj aj;have gE:mA ab X0 M f cap.toList (dv (lM aX w (.func (.func f) #[] cap)) l rest)=some (u,m2):=gE;have hcf:Bi (mA ab X0 M) (.func (.func f) #[] cap) [] (dv (lM aX w (.func (.func f) #[] cap)) l rest)=some (u,m2):=by
  show mA ab X0 M f (([]:List ae)++[]++cap.toList) _=_
  simpa using gE
 unfold v5;simp only[fG,Y3];have AR:Ae (cE (cE aX 0 [ptrTo w 0]).2 0 [.func (.func f) #[] cap]).2 d o i=some l:=hl;rw[AR];have adf:((cE (cE aX 0 [ptrTo w 0]).2 0 [.func (.func f) #[] cap]).2.opn.filter fun s=>!l.contains s)=rest:=hZ.symm;simp only[adf];rw[bC ⟨nW,dm,hc,ha,hap,AQ,hk⟩];have alh:Bi (mA ab X0 M) (.func (.func f) #[] cap) [] { (cE (cE aX 0 [ptrTo w 0]).2 0 [.func (.func f) #[] cap]).2 with home:=(cE (cE aX 0 [ptrTo w 0]).2 0 [.func (.func f) #[] cap]).2.next,floor:=(cE (cE aX 0 [ptrTo w 0]).2 0 [.func (.func f) #[] cap]).2.next,opn:=l,bl:=rest++(cE (cE aX 0 [ptrTo w 0]).2 0 [.func (.func f) #[] cap]).2.bl,wg:=none,pend:=[]}=some (u,m2):=hcf;rw[alh]
 show(if m2.deaf=0 then _ else none)=_
 rw[bC Y9];rfl
end Go.AM
namespace Go.AM
set_option maxRecDepth 1000000
open Go Go.Conc Go.Proofs
theorem GU {m m':Mem}{S:Nat->Prop}{b o n:Nat}(k:Kp m m' S)(h:m.cS b o n=true):m'.cS b o n=true:=by
 unfold Mem.cS at h⊢;rw[k.bl,k.base,k.floor,k.opn];exact h
theorem Bl.form{α:Type}{E:nU α}{sz:Nat}{B:Nat->Prop}{m:Mem}{acc:List α}{sv:ae}(h:Bl E sz B m acc sv):∃a n c,sv= .slice a n c:=by
 obtain⟨a,c,e⟩:=aT.form h.fin;exact⟨a,_,c,e⟩
end Go.AM
namespace Go.AM
set_option maxRecDepth 1000000
open Go Go.Conc Go.Proofs
def sp (d x:Nat):Span:=(d,d+1,some x)
theorem ZH {aX:Mem}{w:Nat}{dC:ae}{b:Nat}(h:b<aX.next):(lM aX w dC).blk b=aX.blk b:=by
 show((aX.alloc _).alloc _).blk b=_
 rw[Mem.bY,bS (by show¬aX.next+1=b;omega),Mem.bY,bS aj]
end Go.AM
namespace Go.AM
set_option maxRecDepth 1000000
open Go Go.Conc Go.Proofs
def KG (n:Nat):Nat:=max ((n+3) / 4) 8
def tr (n j:Nat):Nat:=min (j*KG n) n
def D9 (n j:Nat):Nat:=min (tr n j+KG n) n
theorem adK (n j:Nat):tr n j<=D9 n j/\D9 n j<=n:=by unfold D9 tr;omega
structure Calm (m:Mem):Prop where
 gd:Gd m
 bl:m.bl=[]
 opn:m.opn=[]
 floor:m.floor=m.base
 wg:m.wg=none
theorem Calm.ext{m m':Mem}{S:Nat->Prop}(h:Calm m)(k:Kp m m' S):Calm m':=⟨h.gd.ext k,k.bl.trans h.bl,k.opn.trans h.opn,by rw[k.floor,k.base];exact h.floor,k.wg.trans h.wg⟩
theorem size_eq {n:Nat}(hn:n<90000)(d:Option ae):kK Nat.div .i64 (oF (fg n 4) 1) 4 d=some (vI (((n+3) / 4:Nat):Int)):=by
 have e:oF (fg n 4) 1=((n+3:Nat):Int):=by
  rw[qK ⟨aj,aj⟩,NJ ⟨aj,aj⟩];omega
 rw[e]
 show(match Nat.blt (n+3) (iN .i64)with |true=>some (ae.int .i64 (.ofNat (Nat.div (n+3) (Nat.succ 3))))|false=>d)=_
 have :Nat.blt (n+3) (iN .i64)=true:=Nat.ble_eq_true_of_le (by show n+3+1<=9223372036854775808;omega);rw[this];rfl
end Go.AM
namespace Go.AM
set_option maxRecDepth 1000000
open Go Go.Conc Go.Proofs
theorem cA.append{α:Type}{Q:α->ae->Prop}:∀{l l':List α}{cs gQ:List ae},cA Q l cs->cA Q l' gQ->cA Q (l++l') (cs++gQ)
 | [],l',cs,gQ,h,h'=>by have h:cs=[]:=h;rw[h];exact h'
 |x::l,l',cs,gQ,⟨v,rest,e,hq,h⟩,h'=>⟨v,rest++gQ,by rw[e,List.append_assoc],hq,cA.append h h'⟩
theorem Calm.own{m:Mem}(h:Calm m){b:Nat}(hb:m.base<=b):Own m b:=by
 unfold Own Mem.ft;rw[h.bl,h.floor]
 show(true&&decide (m.base<=b)&&(decide (m.base<=b)|| _))=true
 rw[vB hb];rfl
theorem ams {K:gS}(hK:AY K){M:Mem}{w:Nat}(hw:M.wg=some w)(hd:M.deaf=0)(ho:M.opn=[])(hb:M.base<=M.next):Ev K 140 [vP w 0] M (.tuple #[]) (Cy M):=by
 refine⟨1,fun A n _ hn=>?_⟩;obtain⟨n,rfl⟩:∃k,n=k+1:=⟨n-1,aj⟩;rw[hK.wait];unfold FB;rw[hw]
 show(if w=w/\M.deaf=0/\M.opn=[]/\Nat.ble M.base M.next=true then _ else none)=_
 rw[bC ⟨rfl,hd,ho,Nat.ble_eq_true_of_le hb⟩];rfl
end Go.AM
namespace Go.AM
set_option maxRecDepth 1000000
open Go Go.Conc Go.Proofs
section
variable {K:gS}{m:Mem}
theorem aj3 (i t2 t3 pr n cc:Nat)(sv iv rv:ae)(e:Int):Path 253 [sv,vI i,vP t2 0,vP t3 0]
 [.mem (aP t2 0) iv,
  .mem (aP t3 0) (vL pr 0 n cc),
  .idx i n i,
  oY,
  .call 111 [sv,iv,vP pr (0+i*6)] (.tuple #[rv,vI e])]
 (.tuple #[rv,vI e]):=fB
theorem agL (d:Nat)(bZ:Nat):Path 201 [vP d 0,.nilIface]
 [dN [some .nilIface] bZ,
  .mem (aP bZ 0) .nilIface,
  oZ]
 (vI 0):=fB
theorem afF (d b2 sn sc i:Nat)(sa:Option Addr):dX 149 [3] 0 99 [1,2,24,25,26] [vP d 0,vP b2 0,.slice sa sn sc,vI sn,vI i]
 [bP (gB i sn) false]
 (.exit 0) [1,2] [vP d 0,vP b2 0]:=jz
theorem afE (d b2 n cc:Nat)(a:Option Addr)(w iv rv:ae)(e:Int):gN 149 4 99 [1,2] [vP d 0,vP b2 0]
 [.mem (aP b2 1) w,
  .call 201 [vP d 0,w] (vI 0),
  eE,
  .mem (aP d 8) (.slice a n cc),
  bP (qE n 1000) false,
  .mem (aP b2 2) iv,
  .call 202 [vP d 0,iv] (.tuple #[rv,vI e])]
 .ret [4,5] [rv,vI e]:=jz
theorem agT:nQ 149 2 [4,5]=true:=aY
theorem Qf:(dZ (cI 149)).length<=99:=af aY
theorem Yp:l9 (cI 149) 3=some (0,(iy 149 [3])):=aY
theorem Oi:vl 149 [3]:=aY
theorem Yr:pJ (j0 149) (cI 149) (iy 149 [3]) 3 0=true:=aY
theorem aiD {d:Nat}(g:Gd m):∃m',Ev K 201 [vP d 0,.nilIface] m (vI 0) m'/\Kp m m' fu:=by
 obtain⟨m1,e1,o1,k1,_⟩:=aV g [.nilIface];have l1:aP m.next 0 m1=some (.nilIface,m1):=aN o1 rfl;exact⟨m1,aJ (agL d _) (.mem e1<| .mem l1<| .cond rfl .nil),k1⟩
def VI:List ae:=[.slice none 0 0,vI 0,.slice none 0 0,vI 0,.slice none 0 0,vI 0,.slice none 0 0,vI 0,.slice none 0 0,.slice none 0 0,vI 0,.slice none 0 0,vI 0,.slice none 0 0,vI 0,.slice none 0 0,vI 0,.slice none 0 0]
end
end Go.AM
namespace Go.AM
set_option maxRecDepth 1000000
open Go Go.Conc Go.Proofs
structure aa5 (m:Mem)(b:Nat)(l:List (ByteArray×Nat)):Prop where
 lt:b<m.next
 kind:(m.blk b).kind=2
 es:(m.blk b).es.toList.map (fun e=>(e.key,e.val))=l.map fun x=>(.string x.1,vP x.2 0)
 yL:aL m.bl b=false
 home:m.home<=b
def aiW (m:Mem)(v:ae)(l:List (ByteArray×Nat)):Prop:=(v= .map none/\l=[])\/∃b,v= .map (some b)/\aa5 m b l
def JX (s:ByteArray):List (ByteArray×Nat)->Option Nat
 | []=>none
 |x::l=>if s=x.1 then some x.2 else JX s l
def ajP:Option Nat->ae
 |none=> .pointer none
 |some p=>vP p 0
theorem BB:∀{es:List MapEntry}{l:List (ByteArray×Nat)},es.map (fun e=>(e.key,e.val))=l.map (fun x=>(.string x.1,vP x.2 0))->strKeys es=true
 | [],l,_=>rfl
 |e::es,[],h=>by simp at h
 |e::es,x::l,h=>by
  simp only[List.map_cons,List.cons.injEq,ay]at h;unfold strKeys;rw[h.1.1,BB h.2];rfl
theorem ae5 (a b:ByteArray):(a==b)=decide (a=b):=by rw[Bool.eq_iff_iff,bytes_beq,jQ]
theorem CY (s:ByteArray):∀{es:List MapEntry}{l:List (ByteArray×Nat)} (i:Nat),es.map (fun e=>(e.key,e.val))=l.map (fun x=>(.string x.1,vP x.2 0))->(kX s es i).map (·.2)=(JX s l).map fun p=>vP p 0
 | [],[],i,_=>rfl
 | [],x::l,_,h=>by simp at h
 |e::es,[],_,h=>by simp at h
 |e::es,x::l,i,h=>by
  simp only[List.map_cons,List.cons.injEq,ay]at h;unfold kX JX;rw[h.1.1]
  by_cases hs:s=x.1
  ·simp only[ae5,vB hs,if_true,bC hs,cN];rw[h.1.2]
  ·simp only[ae5,w9 hs,bS hs];exact CY s (i+1) h.2
theorem Z0:ab.underlying 67=some (.map 9 147):=aY
theorem Nz:gL ab 147=some (.pointer none):=aY
theorem Yq {m:Mem}{v:ae}{l:List (ByteArray×Nat)}(h:aiW m v l)(s:ByteArray):oL ab 67 v (.string s) false m=some (ajP (JX s l),m):=by
 unfold oL gH;rcases h with⟨rfl,rfl⟩|⟨b,rfl,hb⟩
 ·simp only[Z0,Sg,Nz];rfl
 ·simp only[Z0,Sg,Nz];have h1:((m.blk b).kind==2&&m.bg b)=true:=by
   unfold Mem.bg;rw[hb.kind,hb.yL];simp[hb.home]
  rw[bC h1];simp only[BB hb.es,if_true];have :=CY s 0 hb.es;rcases hf:kX s (m.blk b).es.toList 0 with _|⟨i,u⟩<;>rw[hf]at this<;>rcases hn:JX s l with _|p<;>rw[hn]at this<;>simp at this
  ·rfl
  ·subst this;rfl
structure Tb where
 p:Nat
 gR:List KY
end Go.AM
namespace Go.AM
set_option maxRecDepth 1000000
open Go Go.Conc Go.Proofs
theorem aU.done{K:gS}{nt:Nat}{c:Code}{i:Nat}{st:Ss}(h:(dZ c).length<=i):aU K nt c i st .normal st:=by
 unfold aU;rw[List.drop_of_length_le h];exact⟨0,fun _ _ _ _=>⟨xr,rfl,rfl⟩⟩
noncomputable def sL(nt:Nat)(c b:Code)(i id:Nat):Bool:=codeOk nt b&&(comp ab nt 1000 (.block id b)).isSome
theorem aU.VW{K:gS}{nt:Nat}{c b:Code}{i id:Nat}{st jL zS:Ss}{e e':Exit}(hl:oV c i=some (id,b))(er:sL nt c b i id=true)(h:aU K nt b 0 st e' jL)(he:e'= .normal\/e'= .exit id)(k:aU K nt c (i+1) jL e zS):aU K nt c i st e zS:=by
 unfold sL at er;rw[ag]at er;exact aU.block hl h he (gz er.1).1 (gz er.1).2.1 er.2 k
theorem aU.ad7{K:gS}{nt:Nat}{c b:Code}{i id:Nat}{st jL:Ss}(hl:oV c i=some (id,b))(er:sL nt c b i id=true)(h:aU K nt b 0 st .ret jL)(hr:(pZ nt ((dZ c).drop (i+1))).isSome=true):aU K nt c i st .ret jL:=by
 unfold sL at er;rw[ag]at er;exact aU.Rk hl h (gz er.1).1 (gz er.1).2.1 er.2 hr
end Go.AM
namespace Go.AM
set_option maxRecDepth 1000000
open Go Go.Conc Go.Proofs
section
variable {K:gS}{m:Mem}
theorem akc (p n cc:Nat)(rv:ae)(bZ:Nat):Path 150 [vL p 0 n cc]
 [eE,
  .mem (bh ab 29 0 []) (vL bZ 0 0 0),
  .mem (cK ab #[29,29] (vL bZ 0 0 0) (vL p 0 n cc)) rv]
 rv:=fB
theorem aam:nQ 152 5 []=true:=aY
theorem Ox:l9 (cI 152) 2=some (0,(iy 152 [2])):=aY
theorem Oh:vl 152 [2]:=aY
theorem Oz:pJ (j0 152) (cI 152) (iy 152 [2]) 2 0=true:=aY
theorem aal:nQ 205 4 []=true:=aY
theorem A7:vl 205 [1]:=aY
theorem afN (d un uc i:Nat)(ua:Option Addr)(rv:ae):dX 115 [6] 0 99 [1,8,26,27,28] [vP d 0,rv,.slice ua un uc,vI un,vI i]
 [bP (gB i un) false]
 (.exit 0) [8] [rv]:=jz
theorem afM (rv:ae):gN 115 7 99 [8] [rv]
 []
 .ret [4,5] [rv,vI 0]:=jz
theorem agV:nQ 115 2 [4,5]=true:=aY
theorem Qh:(dZ (cI 115)).length<=99:=af aY
theorem Yd:vl 115 [6]:=aY
theorem LX:(dZ (cI 205)).length<=2:=af aY
theorem ad3 {m:Mem}:bh ab 29 0 [] m=some (vL m.next 0 0 0,m.alloc {kind:=1,sz:=1,cs:=[]}):=aY
end
end Go.AM
namespace Go.AM
set_option maxRecDepth 1000000
open Go Go.Conc Go.Proofs
abbrev El:=ae×List V
instance:Inhabited El:=⟨(undef,[])⟩
def Jg (x y:El):Bool:=gB (cj x.2 y.2) 0
structure Sv (B:Nat->Prop)(p n:Nat)(rest:List ae)(m:Mem)(d:Array El):Prop where
 gd:Gd m
 ob:Obj m p 1 (d.toList.map (·.1)++rest)
 ow:Own m p
 sz:d.size=n
 nb:¬B p
 el:∀x∈d.toList,bH.R B x.2 m x.1/\x.2.length<99999
def rp (k:Nat)(v:ae)(b:Bool)(L:List pX):List pX:=match k with
 |0=>L
 |k+1=> .cond v b::rp k v b L
theorem Ch.rp{K:gS}{m m':Mem}{v:ae}{b:Bool}{L:List pX}(h:v= .bool b)(c:Ch K m L m'):∀{k:Nat},Ch K m (AM.rp k v b L) m'
 |0=>c
 |k+1=> .cond h (Ch.rp h c)
theorem bT {b:Bool}(h:b=true):(.bool b:ae)= .bool true:=congrArg _ h
theorem bF {b:Bool}(h:b=false):(.bool b:ae)= .bool false:=congrArg _ h
theorem ae2 {i j:Nat}(h:j<=i)(hi:i<2^60:=by omega):oF i j=((i-j:Nat):Int):=by rw[NJ ⟨aj,aj⟩];omega
theorem V8 {i j:Nat}(h:i+j<2^60:=by omega):fg i j=((i+j:Nat):Int):=by rw[qK ⟨aj,aj⟩];omega
theorem ag4 {i j:Nat}(h:i*j<2^60:=by omega):oK i j=((i*j:Nat):Int):=by
 have e:((i*j:Nat):Int)=(i:Int)*(j:Int):=Int.natCast_mul i j;rw[Yl (by rw[<-e];exact⟨aj,aj⟩),e]
theorem Lj {k:Nat}(hi:k+1<2^60:=by omega):oF (k+1:Nat) 1=(k:Int):=ae2 (i:=k+1) (j:=1) aj aj
theorem Z6 {k:Nat}(hi:k+1<2^60:=by omega):fg k 1=((k+1:Nat):Int):=V8 (i:=k) (j:=1) aj
theorem Qu {i j:Nat}:gB i j=decide (i<j):=by rw[fp];exact decide_eq_decide.2 aj
theorem Be {i j:Nat}:qE i j=decide (j<i):=by rw[zr];exact decide_eq_decide.2 aj
theorem leN {i j:Nat}:Yu i j=decide (i<=j):=by rw[acR];exact decide_eq_decide.2 aj
theorem geN {i j:Nat}:EE i j=decide (j<=i):=by rw[Hr];exact decide_eq_decide.2 aj
theorem dT {p:Prop}[Decidable p]{b:Bool}(h:b=decide p)(hp:p:=by omega):(.bool b:ae)= .bool true:=by rw[h,vB hp]
theorem dF {p:Prop}[Decidable p]{b:Bool}(h:b=decide p)(hp:¬p:=by omega):(.bool b:ae)= .bool false:=by rw[h,w9 hp]
section
variable {K:gS}{B:Nat->Prop}{p n:Nat}{rest:List ae}{m m':Mem}{d:Array El}
theorem bH.one{x:List V}{v:ae}(h:bH.R B x m v):kI v=true:=by
 obtain⟨b,c,rfl,_⟩:=h;rfl
theorem Sv.ext(h:Sv B p n rest m d)(k:Kp m m' fu):Sv B p n rest m' d:=
 ⟨h.gd.ext k,h.ob.aR k,h.ow.ext k,h.sz,h.nb,fun x hx=>⟨bH.ext (h.el x hx).1 k fun _ _ h=>h,(h.el x hx).2⟩⟩
theorem Sv.mem(h:Sv B p n rest m d){i:Nat}(hi:i<n):d[i]!∈d.toList:=by
 have h':=h.sz;rw[getElem!_pos d i aj];exact Array.getElem_mem_toList _
theorem Sv.ld(h:Sv B p n rest m d){i:Nat}(hi:i<n:=by omega):aP p (0+i*1) m=some (d[i]!.1,m):=by
 have h':=h.sz;refine aN h.ob ?_;rw[Nat.zero_add,Nat.mul_one,List.getElem?_append_left (by simp;omega),List.getElem?_map,getElem!_pos d i aj];simp;exact⟨_,Array.getElem?_eq_getElem aj⟩
theorem Sv.cmp(h:Sv B p n rest m d){i j:Nat}(hi:i<n:=by omega)(hj:j<n:=by omega):
  ∃c m',Ev K 117 [d[i]!.1,d[j]!.1] m (vI c) m'/\Kp m m' fu/\Sv B p n rest m' d/\gB c 0=Jg d[i]! d[j]!:=by
 obtain⟨⟨b1,c1,e1,_,o1,Hk⟩,l1⟩:=h.el _ (h.mem hi);obtain⟨⟨b2,c2,e2,_,o2,MH⟩,l2⟩:=h.el _ (h.mem hj);rw[e1,e2];obtain⟨m',e,k⟩:=amw (K:=K) h.gd (o1.sl (ir _) Hk) (o2.sl (ir _) MH) l1;exact⟨_,m',e,k,h.ext k,rfl⟩
theorem Sv.st(h:Sv B p n rest m d){i:Nat}(hi:i<n){x:El}(hx:x∈d.toList):
  ∃m',gJ p (0+i*1) x.1 m=some (undef,m')/\Kp m m' (fun y=>y=p)/\Sv B p n rest m' (d.setIfInBounds i x):=by
 have h':=h.sz;rw[Nat.zero_add,Nat.mul_one];obtain⟨m',e,o,k⟩:=iZ x.1 h.ob (h.ow.may i 1) (by simp;omega) (bH.one (h.el x hx).1);refine⟨m',e,k,h.gd.ext k,?_,h.ow.ext k,by simpa using h',h.nb,fun y hy=>?_⟩
 ·rw[List.set_append_left _ _ (by simp;omega)]at o;simpa[List.map_set]using o
 ·have DT:y∈d.toList:=by
   rw[Array.toList_setIfInBounds]at hy;rcases List.mem_or_eq_of_mem_set hy with hy|rfl
   ·exact hy
   ·exact hx
  exact⟨bH.ext (h.el y DT).1 k fun b hb e=>h.nb (e▸hb),(h.el y DT).2⟩
theorem Sv.swap(h:Sv B p n rest m d){i j:Nat}(hi:i<n:=by omega)(hj:j<n:=by omega):
  ∃m1 m2,gJ p (0+i*1) d[j]!.1 m=some (undef,m1)/\Gd m1/\gJ p (0+j*1) d[i]!.1 m1=some (undef,m2)/\Kp m m2 (fun y=>y=p)/\Sv B p n rest m2 (Sort.swp d i j):=by
 obtain⟨m1,e1,k1,h1⟩:=h.st hi (h.mem hj);have hm:d[i]!∈(d.setIfInBounds i d[j]!).toList\/i=j\/True:= .inr (.inr trivial);have h':=h.sz;obtain⟨m2,e2,o,k2⟩:=iZ d[i]!.1 h1.ob (h1.ow.may j 1) (by simp;omega) (bH.one (h.el _ (h.mem hi)).1);rw[Nat.zero_add,Nat.mul_one]at*;have k:=k1.trans k2 fun _ _ h=>h
 refine⟨m1,m2,e1,h1.gd,by rw[Nat.zero_add,Nat.mul_one];exact e2,k,h.gd.ext k,?_,h.ow.ext k,by simp[Sort.swp,h'],h.nb,fun y hy=>?_⟩
 ·rw[List.set_append_left _ _ (by simp;omega)]at o;unfold Sort.swp;rw[Array.toList_setIfInBounds,List.map_set];exact o
 ·have DT:y∈d.toList:=by
   unfold Sort.swp at hy;rw[Array.toList_setIfInBounds,Array.toList_setIfInBounds]at hy;rcases List.mem_or_eq_of_mem_set hy with hy|rfl
   ·rcases List.mem_or_eq_of_mem_set hy with hy|rfl
    ·exact hy
    ·exact h.mem hj
   ·exact h.mem hi
  exact⟨bH.ext (h.el y DT).1 k fun b hb e=>h.nb (e▸hb),(h.el y DT).2⟩
end
theorem afg (p n cc a b i k:Nat)(x y:ae)(c:Int):dX 205 [1,2,1] 0 99 [0,1,2,3,8,9] [vL p 0 n cc,vI a,vI b,.func (.func 117) #[] #[],vI i,vI (k+1:Nat)]
 ((rp 4 (.bool (qE (k+1:Nat) a)) true (.idx (k+1:Nat) n (k+1)::bP (qE (k+1:Nat) a) true:: .mem (aP p (0+(k+1)*1)) x::(rp 4 (.bool (qE (k+1:Nat) a)) true ([.idx (oF (k+1:Nat) 1) n k,
  bP (qE (k+1:Nat) a) true,
  .mem (aP p (0+k*1)) y,
  oY,
  bP (qE (k+1:Nat) a) true,
  .gD (.func (.func 117) #[] #[]) [x,y] (vI c),
  bP (qE (k+1:Nat) a) true,
  bP (qE (k+1:Nat) a) true,
  bP (gB c 0) true,
  .idx (oF (k+1:Nat) 1) n k,
  .mem (aP p (0+k*1)) y,
  .idx (k+1:Nat) n (k+1),
  .mem (aP p (0+(k+1)*1)) x,
  .idx (k+1:Nat) n (k+1),
  oY,
  .mem (gJ p (0+(k+1)*1) y) undef,
  .idx (oF (k+1:Nat) 1) n k,
  oY,
  .mem (gJ p (0+k*1) x) undef])))))
 .normal [0,1,2,3,8,9] [vL p 0 n cc,vI a,vI b,.func (.func 117) #[] #[],vI i,vI (oF (k+1:Nat) 1)]:=jz
theorem afh (p n cc a b i k:Nat)(x y:ae)(c:Int):dX 205 [1,2,1] 0 99 [0,1,2,3,8,9] [vL p 0 n cc,vI a,vI b,.func (.func 117) #[] #[],vI i,vI (k+1:Nat)]
 ((rp 4 (.bool (qE (k+1:Nat) a)) true (.idx (k+1:Nat) n (k+1)::bP (qE (k+1:Nat) a) true:: .mem (aP p (0+(k+1)*1)) x::(rp 4 (.bool (qE (k+1:Nat) a)) true ([.idx (oF (k+1:Nat) 1) n k,
  bP (qE (k+1:Nat) a) true,
  .mem (aP p (0+k*1)) y,
  oY,
  bP (qE (k+1:Nat) a) true,
  .gD (.func (.func 117) #[] #[]) [x,y] (vI c),
  bP (qE (k+1:Nat) a) true,
  bP (qE (k+1:Nat) a) true,
  bP (gB c 0) false])))))
 (.exit 2) [0,1,2,3,8] [vL p 0 n cc,vI a,vI b,.func (.func 117) #[] #[],vI i]:=jz
theorem afn (p n cc a b i k:Nat):dX 205 [1,2,1] 0 99 [0,1,2,3,8,9] [vL p 0 n cc,vI a,vI b,.func (.func 117) #[] #[],vI i,vI k]
 ((rp 10 (.bool (qE k a)) false (oY::(rp 3 (.bool (qE k a)) false ([eE])))))
 (.exit 2) [0,1,2,3,8] [vL p 0 n cc,vI a,vI b,.func (.func 117) #[] #[],vI i]:=jz
theorem afm (p n cc a b i:Nat):dX 205 [1] 0 99 [0,1,2,3,8] [vL p 0 n cc,vI a,vI b,.func (.func 117) #[] #[],vI i]
 [bP (gB i b) false]
 (.exit 0) [] []:=jz
theorem afl (p n cc a b i:Nat):dX 205 [1] 0 2 [0,1,2,3,8] [vL p 0 n cc,vI a,vI b,.func (.func 117) #[] #[],vI i]
 [bP (gB i b) true]
 .normal [0,1,2,3,8] [vL p 0 n cc,vI a,vI b,.func (.func 117) #[] #[],vI i]:=jz
theorem afk (p n cc a b i:Nat):dX 205 [1,2] 0 1 [0,1,2,3,8] [vL p 0 n cc,vI a,vI b,.func (.func 117) #[] #[],vI i]
 []
 .normal [0,1,2,3,8,9] [vL p 0 n cc,vI a,vI b,.func (.func 117) #[] #[],vI i,vI i]:=jz
theorem afj (p n cc a b i:Nat):dX 205 [1] 3 99 [0,1,2,3,8] [vL p 0 n cc,vI a,vI b,.func (.func 117) #[] #[],vI i]
 []
 .normal [0,1,2,3,8] [vL p 0 n cc,vI a,vI b,.func (.func 117) #[] #[],vI (fg i 1)]:=jz
theorem afi (p n cc a b:Nat):gN 205 0 1 [0,1,2,3] [vL p 0 n cc,vI a,vI b,.func (.func 117) #[] #[]]
 []
 .normal [0,1,2,3,8] [vL p 0 n cc,vI a,vI b,.func (.func 117) #[] #[],vI (fg a 1)]:=jz
theorem tV:vl 205 [1,2,1]:=aY
theorem Rl:oV (iy 205 [1]) 2=some (1,(iy 205 [1,2])):=aY
theorem Ri:sL (j0 205) (iy 205 [1]) (iy 205 [1,2]) 2 1=true:=aY
section
variable {K:gS}{B:Nat->Prop}{p n cc:Nat}{rest:List ae}{m:Mem}{d:Array El}
abbrev fR:ae:= .func (.func 117) #[] #[]
theorem i205 (h:Sv B p n rest m d)(hn:n<90000){a b i:Nat}(hi:i<n){tm:Tm}(hg:dL [0,1,2,3,8,9] tm=[vL p 0 n cc,vI a,vI b,fR,vI i,vI i]):
  ∃fe m',ET K (j0 205) (iy 205 [1,2,1]) 100000 ⟨tm,m,[]⟩ (.exit 2) ⟨fe,m',[]⟩/\dL [0,1,2,3,8] fe=[vL p 0 n cc,vI a,vI b,fR,vI i]/\Kp m m' (fun y=>y=p)/\Sv B p n rest m' (Sort.insInner Jg a i d):=by
 obtain⟨e,fe,m',he,hx,rfl,r⟩:=xJ (K:=K) (nt:=j0 205) (a:=iy 205 [1,2,1])
  (Inv:=fun k tm m'=>∃d',k<n/\dL [0,1,2,3,8,9] tm=[vL p 0 n cc,vI a,vI b,fR,vI i,vI k]/\Kp m m' (fun y=>y=p)/\Sv B p n rest m' d'/\Sort.insInner Jg a k d'=Sort.insInner Jg a i d)
  (dQ:=fun e tm m'=>e= .exit 2/\dL [0,1,2,3,8] tm=[vL p 0 n cc,vI a,vI b,fR,vI i]/\Kp m m' (fun y=>y=p)/\Sv B p n rest m' (Sort.insInner Jg a i d))
  (by
   rintro k tm m1 ⟨d',hk,hg,k1,s1,hd⟩;have g1:=s1.gd
   by_cases hka:a<k
   ·obtain⟨k,rfl⟩:∃j,k=j+1:=⟨k-1,aj⟩;obtain⟨c,m2,e2,k2,s2,hc⟩:=s1.cmp (K:=K) (i:=k+1) (j:=k);have g2:=s2.gd;have Fz:=k1.aS k2
    by_cases hl:Jg d'[k+1]! d'[k]! =true
    ·obtain⟨m3,m4,e3,g3,e4,k4,s4⟩:=s2.swap (i:=k+1) (j:=k);obtain⟨t2,fO,gp⟩:=bK tV (afg p n cc a b i k d'[k+1]!.1 d'[k]!.1 c) hg (.rp (dT Be)<| .idx rfl aj<| .cond (dT Be)<| .mem s1.ld<| .rp (dT Be)<| .idx Lj aj<| .cond (dT Be)<| .mem s1.ld<| .mem (bM nV)<| .cond (dT Be)<| .gD e2<| .cond (dT Be)<| .cond (dT Be)<| .cond (bT (hc.trans hl))<| .idx Lj aj<| .mem s2.ld<| .idx rfl aj<| .mem s2.ld<| .idx rfl aj<| .mem (bM nV)<| .mem e3<| .idx Lj aj<| .mem (bM nV)<| .mem e4<| .nil);rw[Lj]at gp;refine .inl ⟨k,t2,m4,aj,fO,_,aj,gp,Fz.trans k4 fun _ _ h=>h,s4,?_⟩;rw[<-hd,Sort.insInner.eq_2,bC (by simp[hl,hka])]
    ·have hl:=Bool.eq_false_iff.2 hl;obtain⟨t2,fO,gp⟩:=bK tV (afh p n cc a b i k d'[k+1]!.1 d'[k]!.1 c) hg (.rp (dT Be)<| .idx rfl aj<| .cond (dT Be)<| .mem s1.ld<| .rp (dT Be)<| .idx Lj aj<| .cond (dT Be)<| .mem s1.ld<| .mem (bM nV)<| .cond (dT Be)<| .gD e2<| .cond (dT Be)<| .cond (dT Be)<| .cond (bF (hc.trans hl))<| .nil);refine .inr ⟨_,t2,m2,lQ,fO,rfl,gp,Fz,?_⟩;rw[<-hd,Sort.insInner.eq_2,bS (by simp[hl])];exact s2
   ·obtain⟨t2,fO,gp⟩:=bK tV (afn p n cc a b i k) hg (.rp (dF Be)<| .mem (bM nV)<| .rp (dF Be)<| .cond rfl<| .nil);refine .inr ⟨_,t2,m1,lQ,fO,rfl,gp,k1,?_⟩;rw[<-hd];cases k with
    |zero=>exact s1
    |succ k=>rw[Sort.insInner.eq_2,bS (by simp;omega)];exact s1)
  (n:=i) (k:=100000) ⟨d,hi,hg,.refl _ _,h,rfl⟩ aj
 exact⟨fe,m',hx,r⟩
theorem amn (h:Sv B p n rest m d)(hn:n<90000){a b:Nat}(hb:b<=n)(ha:a<90000):
  ∃m',Ev K 205 [vL p 0 n cc,vI a,vI b,fR] m (.tuple #[]) m'/\Kp m m' (fun y=>y=p)/\Sv B p n rest m' (Sort.insertionSort Jg d a b):=by
 obtain⟨t0,w0,e0⟩:=cX (K:=K) (m:=m) (m':=m) (tm:=entry [vL p 0 n cc,vI a,vI b,fR]) (afi p n cc a b) rfl .nil;rw[Z6]at e0;obtain⟨e,t1,m',he,hx,rfl,r⟩:=fL (K:=K) (nt:=j0 205) (a:=iy 205 [1]) (b-(a+1))
  (Inv:=fun j tm m'=>∃d',dL [0,1,2,3,8] tm=[vL p 0 n cc,vI a,vI b,fR,vI (a+1+j:Nat)]/\Kp m m' (fun y=>y=p)/\Sv B p n rest m' d'/\Sort.insOuter Jg a b (a+1+j) d'=Sort.insertionSort Jg d a b)
  (dQ:=fun e tm m'=>e= .exit 0/\Kp m m' (fun y=>y=p)/\Sv B p n rest m' (Sort.insertionSort Jg d a b))
  (by
   rintro j tm m1 hj ⟨d',hg,k1,s1,hd⟩
   left
   obtain⟨ta,wa,ea⟩:=cX (K:=K) (m:=m1) (m':=m1) (afl p n cc a b (a+1+j)) hg (.cond (dT Qu)<| .nil);obtain⟨tb,wb,eb⟩:=cX (K:=K) (m:=m1) (m':=m1) (afk p n cc a b (a+1+j)) ea .nil;obtain⟨tc,m2,fO,ec,k2,s2⟩:=i205 (K:=K) s1 hn (i:=a+1+j) aj eb;obtain⟨td,wd,ed⟩:=cX (K:=K) (m:=m2) (m':=m2) (afj p n cc a b (a+1+j)) ec .nil;rw[Z6]at ed;refine⟨td,m2,(aU.cut wa (aU.VW Rl Ri (aU.cut wb (aU.qz fO (aU.done (af aY)))) (.inl rfl) (aU.last wd (gz A7).2.2))).code A7,_,ed,k1.trans k2 fun _ _ h=>h,s2,?_⟩;rw[<-hd]
   conv=>rhs;rw[Sort.insOuter]
   rw[bC aj];rfl)
  (by
   rintro tm m1 ⟨d',hg,k1,s1,hd⟩;obtain⟨t2,fO,gp⟩:=bK (K:=K) (m:=m1) (m':=m1) A7 (afm p n cc a b (a+1+(b-(a+1)))) hg (.cond (dF Qu)<| .nil);refine⟨_,t2,m1,lQ,fO,rfl,k1,?_⟩;rw[<-hd,Sort.insOuter,bS aj];exact s1)
  (tm:=t0) (m:=m) ⟨d,e0,.refl _ _,h,rfl⟩ aj
 exact⟨m',iO (vs:=[]) aal (aU.cut w0 (aU.qz hx (aU.done (af aY)))) (.inl rfl) rfl,r⟩
end
end Go.AM
namespace Go.AM
set_option maxRecDepth 1000000
open Go Go.Conc Go.Proofs
section
variable {K:gS}{B:Nat->Prop}{p n cc:Nat}{rest:List ae}{m m':Mem}{d:Array El}
theorem ajN {i:Nat}(hi:i<90000){j:Nat}(hj:0<j){d:Option ae}:kK Nat.div .i64 i j d=some (vI (i / j:Nat)):=by
 obtain⟨j,rfl⟩:∃k,j=k+1:=⟨j-1,aj⟩;unfold kK
 show(match Nat.blt i (iN .i64)with |true=>some (ae.int .i64 (.ofNat (Nat.div i (Nat.succ j))))|false=>d)=_
 have :Nat.blt i (iN .i64)=true:=by
  rw[show iN .i64=9223372036854775808 from rfl,kl,jQ];omega
 rw[this];rfl
end
end Go.AM
namespace Go.AM
set_option maxRecDepth 1000000
open Go Go.Conc Go.Proofs
theorem ZW (x:Nat):cf.u64.wrap x=((x%18446744073709551616:Nat):Int):=by
 unfold cf.wrap;simp[cf.signed,cf.bits]
abbrev vW (n:Int):ae:= .int .u64 n
theorem amL (t x k:Nat)(hk:k<64):jZ ab .shl t false true (vW x) (vW k)=some (vW (x*2^k%18446744073709551616:Nat)):=by
 have e:jZ ab .shl t false true (vW x) (vW k)=some (vW (cf.u64.wrap ((x:Int)*2^(min k 64)))):=by
  refine zY rfl ?_ rfl;rw[gY]
  show(Op.shift .shl .u64 x .u64 k).aH ab=_
  unfold Op.shift;rw[bS aj];rfl
 rw[e,Nat.min_eq_left aj,<-ZW];simp
theorem aje (t x k:Nat)(hk:k<64):jZ ab .shr t false true (vW x) (vW k)=some (vW (x / 2^k:Nat)):=by
 have e:jZ ab .shr t false true (vW x) (vW k)=some (vW ((x:Int).fdiv (2^(min k 64)))):=by
  refine zY rfl ?_ rfl;rw[gY]
  show(Op.shift .shr .u64 x .u64 k).aH ab=_
  unfold Op.shift;rw[bS aj];rfl
 rw[e,Nat.min_eq_left aj,Int.fdiv_eq_ediv_of_nonneg _ (Int.pow_nonneg eS)];simp
theorem cvW {t x:Nat}(hx:x<18446744073709551616)(ht:t=195\/t=415):pu ab [vI x] (convert 3 t (vI x))=some (vW x):=by
 have e:pu ab [vI x] (convert 3 t (vI x))=some (vW (cf.u64.wrap x)):=by
  rcases ht with rfl|rfl<;>kernel_rfl
 rw[e,ZW,Nat.mod_eq_of_lt hx]
def Gr:ByteArray:=⟨((List.range 256).map fun n=>UInt8.ofNat (Sort.bitsLen n)).toArray⟩
theorem E5:Gr.size=256:=aY
theorem Sx:((List.range 256).all fun y=>Au Gr y==Sort.bitsLen y)=true:=aY
theorem NG {y:Nat}(h:y<256):Au Gr y=Sort.bitsLen y:=by simpa using aB.1 Sx y (List.mem_range.2 h)
theorem VY {l:Nat}(h:256<=l):Sort.bitsLen l=Sort.bitsLen (l / 256)+8:=by
 have k:∀k,Sort.bitsLen l<=k↔Sort.bitsLen (l / 256)+8<=k:=fun k=>by
  rw[Sort.bitsLen_le_iff]
  by_cases hk:8<=k
  ·obtain⟨j,rfl⟩:∃j,k=j+8:=⟨k-8,aj⟩;rw[show Sort.bitsLen (l / 256)+8<=j+8↔Sort.bitsLen (l / 256)<=j by omega,Sort.bitsLen_le_iff,Nat.pow_add,Nat.div_lt_iff_lt_mul eS]
  ·have :2^k<=2^8:=Nat.pow_le_pow_right eS aj
   constructor<;>intro <;>omega
 exact Nat.le_antisymm ((k _).2 (ai _)) ((k _).1 (ai _))
theorem agO (l k:Nat):Path 153 [.int .u64 l]
 [eE,
  .call 214 [.int .u64 l] (vI k)]
 (vI k):=fB
theorem agI (l h y k:Nat):Path 214 [.int .u64 l]
 [bP (EE l 4294967296) false,
  bP (EE l 65536) false,
  bP (EE l 256) false,
  .val (pu ab [.int .u64 l] (convert 262 5 (.int .u64 l))) (.int .u8 y),
  .idx y Gr.size y,
  .val (pu ab [.int .u8 (Au Gr y:Nat)] (convert 5 3 (.int .u8 (Au Gr y:Nat)))) (vI k)]
 (vI (fg 0 k)):=fB
theorem agH (l h y k:Nat):Path 214 [.int .u64 l]
 [bP (EE l 4294967296) false,
  bP (EE l 65536) false,
  bP (EE l 256) true,
  .val (jZ ab .shr 262 false true (.int .u64 l) (.int .u64 8)) (.int .u64 h),
  .val (pu ab [.int .u64 h] (convert 262 5 (.int .u64 h))) (.int .u8 y),
  .idx y Gr.size y,
  .val (pu ab [.int .u8 (Au Gr y:Nat)] (convert 5 3 (.int .u8 (Au Gr y:Nat)))) (vI k)]
 (vI (fg 8 k)):=fB
section
variable {K:gS}{m:Mem}
theorem cv8 {x:Nat}(h:x<256):pu ab [vW x] (convert 262 5 (vW x))=some (.int .u8 x):=by
 have e:pu ab [vW x] (convert 262 5 (vW x))=some (.int .u8 (cf.u8.wrap x)):=aY;rw[e,show cf.u8.wrap x=x by unfold cf.wrap;simp[cf.signed,cf.bits];omega]
theorem cv9 {x:Nat}(h:x<256):pu ab [.int .u8 x] (convert 5 3 (.int .u8 x))=some (vI x):=by
 have e:pu ab [.int .u8 x] (convert 5 3 (.int .u8 x))=some (vI (cf.i64.wrap x)):=aY;rw[e,r7 ⟨aj,aj⟩]
theorem Bj {l:Nat}(h:l<256):Sort.bitsLen l<256:=Nat.lt_of_le_of_lt ((Sort.bitsLen_le_iff l 8).2 h) eS
theorem amm {l:Nat}(h:l<65536):Ev K 214 [vW l] m (vI (Sort.bitsLen l:Int)) m:=by
 by_cases h8:l<256
 ·have :=aJ (K:=K) (m:=m) (m':=m) (agI l 0 l (Sort.bitsLen l)) (.cond (dF (geN (j:=4294967296)))<| .cond (dF (geN (j:=65536)))<| .cond (dF (geN (j:=256)))<| .val (cv8 h8)<| .idx rfl (by rw[E5];exact h8)<| .val (by rw[NG h8];exact cv9 (Bj h8)) .nil);rwa[show fg 0 (Sort.bitsLen l:Nat)=((0+Sort.bitsLen l:Nat):Int)from V8 (i:=0) (by have :=Bj h8;omega),Nat.zero_add]at this
 ·have hh:l / 256<256:=aj;have :=aJ (K:=K) (m:=m) (m':=m) (agH l (l / 256) (l / 256) (Sort.bitsLen (l / 256))) (.cond (dF (geN (j:=4294967296)))<| .cond (dF (geN (j:=65536)))<| .cond (dT (geN (j:=256)))<| .val (aje 262 l 8 eS)<| .val (cv8 hh)<| .idx rfl (by rw[E5];exact hh)<| .val (by rw[NG hh];exact cv9 (Bj hh)) .nil);rwa[show fg 8 ((Sort.bitsLen (l / 256):Nat):Int)=((8+Sort.bitsLen (l / 256):Nat):Int)from V8 (i:=8) (by have :=Bj hh;omega),Nat.add_comm,<-VY aj]at this
theorem aiG {l:Nat}(h:l<65536):Ev K 153 [vW l] m (vI (Sort.bitsLen l:Int)) m:=aJ (agO l _) (.cond rfl<| .call (amm h) .nil)
end
end Go.AM
namespace Go.AM
set_option maxRecDepth 1000000
open Go Go.Conc Go.Proofs
theorem afD (p n cc a b RF:Nat)(wb wp:Bool):dX 152 [2,0] 0 99 [0,1,2,3,4,10,11] [vL p 0 n cc,vI a,vI b,vI RF,fR,.bool wb,.bool wp]
 [bP (Yu (oF b a) 12) true,
  .call 205 [vL p 0 n cc,vI a,vI b,fR] (.tuple #[])]
 .ret [] []:=jz
theorem afC (p n cc a b RF:Nat):gN 152 0 2 [0,1,2,3,4] [vL p 0 n cc,vI a,vI b,vI RF,fR]
 []
 .normal [0,1,2,3,4,10,11] [vL p 0 n cc,vI a,vI b,vI RF,fR,.bool true,.bool true]:=jz
theorem Rm:oV (iy 152 [2]) 0=some (1,(iy 152 [2,0])):=aY
theorem Rj:sL (j0 152) (iy 152 [2]) (iy 152 [2,0]) 0 1=true:=aY
def Ru (K:gS)(n:Nat):Prop:=∀{B:Nat->Prop}{p cc:Nat}{rest:List ae}{m:Mem}{d:Array El},Sv B p n rest m d->(∀b,B b->b<m.next)->
  ∃m',Ev K 152 [vL p 0 n cc,vI (0:Nat),vI n,vI (Sort.bitsLen n:Int),fR] m (.tuple #[]) m'/\Kp m m' (fun y=>y=p)/\Sv B p n rest m' (Sort.pdq Jg d 0 n (Sort.bitsLen n) true true)
theorem LF {K:gS}{n:Nat}(h12:n<=12):Ru K n:=by
 intro B p cc rest m d h hB;obtain⟨RF,ak3⟩:∃l,l=Sort.bitsLen n:=⟨_,rfl⟩;rw[<-ak3];obtain⟨t0,w0,e0⟩:=cX (K:=K) (m:=m) (m':=m) (tm:=entry [vL p 0 n cc,vI (0:Nat),vI n,vI RF,fR]) (afC p n cc 0 n RF) rfl .nil;have e1:oF n (0:Nat)=((n-0:Nat):Int):=ae2 aj;obtain⟨e,t1,m3,he,hx,rfl,k3,s3⟩:=xJ (K:=K) (nt:=j0 152) (a:=iy 152 [2])
  (Inv:=fun k tm m'=>m'=m/\dL [0,1,2,3,4,10,11] tm=[vL p 0 n cc,vI (0:Nat),vI n,vI RF,fR,.bool true,.bool true])
  (dQ:=fun e tm m'=>e= .ret/\Kp m m' (fun y=>y=p)/\Sv B p n rest m' (Sort.pdq Jg d 0 n RF true true))
  (by
   rintro k tm m1 ⟨rfl,hg⟩;obtain⟨m2,e2,k2,s2⟩:=amn (K:=K) (cc:=cc) h aj (a:=0) (b:=n) (ai _) aj;obtain⟨t,w,g⟩:=cX (afD p n cc 0 n RF true true) hg (.cond (by rw[e1];exact dT (leN (j:=12)))<| .call e2<| .nil);rw[Sort.pdq,bC aj];exact .inr ⟨.ret,t,m2,lQ,(aU.ad7 Rm Rj (aU.last w (af aY)) aY).code Oh,rfl,k2,s2⟩)
  (n:=0) (k:=100000) (tm:=t0) (m:=m) ⟨rfl,e0⟩ aj
 exact⟨m3,iO (vs:=[]) aam (aU.cut w0 (aU.Ud Ox Oz hx aY)) (.inr rfl) rfl,k3,s3⟩
end Go.AM
namespace Go.AM
set_option maxRecDepth 1000000
open Go Go.Conc Go.Proofs
structure rT {α:Type}(f:α->α->Int):Prop where
 eq:∀{x y},f x y=0↔x=y
 Ro:∀{x y},f x y<0->0<f y x
 Aw:∀{x y},0<f x y->f y x<0
 trans:∀{x y z},f x y<0->f y z<0->f x z<0
theorem HN:rT lL:=⟨by intros;unfold lL;split<;>(try split)<;>omega,by intro x y;unfold lL;split<;>(try split)<;>(try split)<;>(try split)<;>omega,by intro x y;unfold lL;split<;>(try split)<;>(try split)<;>(try split)<;>omega,by intro x y z;unfold lL;split<;>(try split)<;>(try split)<;>(try split)<;>(try split)<;>(try split)<;>omega⟩
theorem Dx:∀x:List UInt8,Op.bytesLess x x=false
 | []=>rfl
 |a::x=>by simp[Op.bytesLess,Dx x]
theorem Pr:∀{x y z:List UInt8},Op.bytesLess x y=true->Op.bytesLess y z=true->Op.bytesLess x z=true
 |_,[],_,h,_=>by simp[Op.bytesLess]at h
 |_,_::_,[],_,h=>by simp[Op.bytesLess]at h
 | [],_::_,_::_,_,_=>rfl
 |a::x,b::y,c::z,h1,h2=>by
  simp only[Op.bytesLess,Bool.or_eq_true,jQ,ag,beq_iff_eq,UInt8.lt_iff_toNat_lt]at h1 h2⊢;rcases h1 with h1|⟨rfl,h1⟩
  ·rcases h2 with h2|⟨rfl,h2⟩
   ·exact .inl aj
   ·exact .inl h1
  ·rcases h2 with h2|⟨rfl,h2⟩
   ·exact .inl h2
   ·exact .inr ⟨rfl,Pr h1 h2⟩
theorem VX:∀{x y:List UInt8},Op.bytesLess x y=false->Op.bytesLess y x=false->x=y
 | [],[],_,_=>rfl
 | [],_::_,h,_=>by simp[Op.bytesLess]at h
 |_::_,[],_,h=>by simp[Op.bytesLess]at h
 |a::x,b::y,h1,h2=>by
  simp only[Op.bytesLess,Bool.or_eq_false_iff,decide_eq_false_iff_not,UInt8.lt_iff_toNat_lt]at h1 h2;have e:a=b:=UInt8.toNat_inj.1 aj;subst e;rw[VX (x:=x) (y:=y) (by simpa using h1.2) (by simpa using h2.2)]
theorem ZD:rT Dh:=by
 have e:∀{a b:ByteArray},(a.toList==b.toList)=true↔a=b:=fun{a b}=>by
  rw[beq_iff_eq,ByteArray.toList_eq,ByteArray.toList_eq];exact⟨fun h=>by cases a;cases b;simp_all [Array.toList_inj],fun h=>by rw[h]⟩
 refine⟨fun{x y}=>?_,fun{x y} h=>?_,fun{x y} h=>?_,fun{x y z} h k=>?_⟩
 ·unfold Dh
  split
  ·rename_i h;exact⟨fun h=>(by cases h),fun k=>(by rw[k,Dx]at h;cases h)⟩
  ·rename_i h;rw[Bool.not_eq_true]at h;rw[h,Bool.false_or]
   split
   ·rename_i k;exact⟨fun _=>e.1 k,fun _=>rfl⟩
   ·rename_i k;exact⟨fun h=>(by cases h),fun q=>absurd (e.2 q) k⟩
 ·unfold Dh at h⊢
  split at h
  ·rename_i h1;rw[bS (fun h2=>by have :=Pr h1 h2;rw[Dx]at this;cases this),bS (fun h2=>?_)]
   ·decide
   ·rw[Bool.or_eq_true]at h2;rcases h2 with h2|h2
    ·have :=Pr h1 h2;rw[Dx]at this;cases this
    ·rw[e.1 h2,Dx]at h1;cases h1
  ·split at h<;>exact absurd h eS
 ·unfold Dh at h⊢
  split at h
  ·exact absurd h eS
  ·rename_i h1
   split at h
   ·exact absurd h eS
   ·rename_i h2;rw[Bool.or_eq_true,not_or]at h2;rw[bC]
    ·decide
    ·cases hb:Op.bytesLess y.toList x.toList with
     |true=>rfl
     |false=>exact absurd (beq_iff_eq.2 (VX (Bool.not_eq_true _▸h1) hb)) h2.2
 ·unfold Dh at h k⊢
  split at h
  ·rename_i h1
   split at k
   ·rename_i k1;rw[bC (Pr h1 k1)];decide
   ·split at k<;>exact absurd k eS
  ·split at h<;>exact absurd h eS
def lex {α β:Type}(f:α->α->Int)(g:β->β->Int)(x y:α×β):Int:=if f x.1 y.1≠0 then f x.1 y.1 else g x.2 y.2
theorem rT.refl{α:Type}{f:α->α->Int}(hf:rT f){x:α}:f x x=0:=hf.eq.2 rfl
theorem rT.lex{α β:Type}{f:α->α->Int}{g:β->β->Int}(hf:rT f)(hg:rT g):rT (AM.lex f g):=by
 refine⟨fun{x y}=>?_,fun{x y} h=>?_,fun{x y} h=>?_,fun{x y z} h k=>?_⟩
 ·unfold AM.lex
  split
  ·rename_i h;exact⟨fun k=>absurd k h,fun k=>absurd (hf.eq.2 (by rw[k])) h⟩
  ·rename_i h;rw[ne_eq,Decidable.not_not]at h;exact⟨fun k=>Prod.ext (hf.eq.1 h) (hg.eq.1 k),fun k=>hg.eq.2 (by rw[k])⟩
 ·unfold AM.lex at h⊢
  split at h
  ·have :=hf.Ro h;rw[bC aj];exact this
  ·rename_i e;rw[ne_eq,Decidable.not_not]at e;rw[bS (by rw[ne_eq,Decidable.not_not];exact hf.eq.2 (hf.eq.1 e).symm)];exact hg.Ro h
 ·unfold AM.lex at h⊢
  split at h
  ·have :=hf.Aw h;rw[bC aj];exact this
  ·rename_i e;rw[ne_eq,Decidable.not_not]at e;rw[bS (by rw[ne_eq,Decidable.not_not];exact hf.eq.2 (hf.eq.1 e).symm)];exact hg.Aw h
 ·unfold AM.lex at h k⊢
  split at h
  ·split at k
   ·have :=hf.trans h k;rw[bC aj];exact this
   ·rename_i e;rw[ne_eq,Decidable.not_not]at e;rw[<-hf.eq.1 e,bC aj];exact h
  ·rename_i e;rw[ne_eq,Decidable.not_not]at e;rw[hf.eq.1 e]
   split at k
   ·rw[bC aj];exact k
   ·rename_i e2;rw[bS e2];exact hg.trans h k
theorem rT.pull{α β:Type}{f:β->β->Int}(hf:rT f){i:α->β}(hi:∀x y,i x=i y->x=y):rT fun x y=>f (i x) (i y):=
 ⟨fun{x y}=>⟨fun h=>hi _ _ (hf.eq.1 h),fun h=>hf.eq.2 (by rw[h])⟩,fun h=>hf.Ro h,fun h=>hf.Aw h,fun h k=>hf.trans h k⟩
theorem oT:rT kB:=by
 have h:=((HN.lex (HN.lex (ZD.lex HN))).pull (α:=V) (i:=fun v=>(v.k,v.n,v.s,vC v.b)) fun x y e=>by
  obtain⟨a,b,c,d⟩:=x;obtain⟨a',b',c',d'⟩:=y;simp only[ay]at e;obtain⟨rfl,rfl,rfl,e⟩:=e;have :d=d':=by cases d<;>cases d'<;>first |rfl|cases e
  rw[this])
 have e:kB=fun x y=>AM.lex lL (AM.lex lL (AM.lex Dh lL)) (x.k,x.n,x.s,vC x.b) (y.k,y.n,y.s,vC y.b):=by
  funext x y
  simp only[kB,Qa,AM.lex]
  split
  ·rfl
  ·split
   ·rfl
   ·split
    ·rfl
    ·split
     ·rfl
     ·rename_i h;rw[ne_eq,Decidable.not_not]at h;exact h.symm
 rw[e];exact h
theorem jy:∀{x y:List V},cj x y=0↔x=y
 | [],[]=>by simp[cj]
 | [],_::_=>by simp[cj]
 |_::_,[]=>by simp[cj]
 |a::x,b::y=>by
  unfold cj
  split
  ·rename_i h;exact⟨fun k=>absurd k h,fun k=>absurd (oT.eq.2 (by cases k;rfl)) h⟩
  ·rename_i h;rw[ne_eq,Decidable.not_not]at h;rw[jy,oT.eq.1 h];simp
theorem uD:∀{x y:List V},(cj x y<0->0<cj y x)/\(0<cj x y->cj y x<0)
 | [],[]=>by simp[cj]
 | [],_::_=>by simp[cj]
 |_::_,[]=>by simp[cj]
 |a::x,b::y=>by
  have a1:=oT.Ro (x:=a) (y:=b);have a2:=oT.Aw (x:=a) (y:=b);have a3:kB a b=0->kB b a=0:=fun h=>oT.eq.2 (oT.eq.1 h).symm
  obtain⟨r1,r2⟩:=uD (x:=x) (y:=y);simp only[cj]
  split
  ·rw[bC aj];omega
  ·rw[bS aj];exact⟨r1,r2⟩
theorem oU:∀{x y z:List V},cj x y<0->cj y z<0->cj x z<0
 | [],[],_,h,_=>by simp[cj]at h
 |_::_,[],_,h,_=>by simp[cj]at h
 |_,_::_,[],_,h=>by simp[cj]at h
 | [],_::_,_::_,_,_=>by simp[cj]
 |a::x,b::y,c::z,h,k=>by
  simp only[cj]at h k⊢
  split at h
  ·split at k
   ·have :=oT.trans h k;rw[bC aj];exact this
   ·rename_i e;rw[ne_eq,Decidable.not_not]at e;rw[<-oT.eq.1 e,bC aj];exact h
  ·rename_i e;rw[ne_eq,Decidable.not_not]at e;rw[oT.eq.1 e]
   split at k
   ·rw[bC aj];exact k
   ·rename_i e2;rw[bS e2];exact oU h k
theorem lH:rT cj:=⟨jy,uD.1,uD.2,oU⟩
theorem ajb:Sort.SWO Jg:=by
 have e:∀x y,Jg x y=decide (cj x.2 y.2<0):=fun x y=>fp _ _
 refine⟨fun x=>?_,fun x y z h k=>?_,fun x y z h k=>?_⟩
 ·rw[e,lH.refl];rfl
 ·rw[e,jQ]at*;exact oU h k
 ·rw[e,decide_eq_false_iff_not]at*;intro q;have q':=lH.Ro q;have r1:cj y.2 x.2<=0:=by
   rcases Int.lt_or_le 0 (cj y.2 x.2)with r|r
   ·exact absurd (lH.Aw r) h
   ·exact r
  have r2:cj z.2 y.2<=0:=by
   rcases Int.lt_or_le 0 (cj z.2 y.2)with r|r
   ·exact absurd (lH.Aw r) k
   ·exact r
  rcases Int.lt_or_eq_of_le r1 with r1|r1
  ·rcases Int.lt_or_eq_of_le r2 with r2|r2
   ·have :=oU r2 r1;omega
   ·rw[jy.1 r2]at q';omega
  ·rw[jy.1 r1]at h k;rw[<-jy.1 r1]at q;exact k (jy.1 r1▸q)
end Go.AM
namespace Go.AM
set_option maxRecDepth 1000000
open Go Go.Conc Go.Proofs
theorem agR (p n cc k:Nat):Path 116 [vL p 0 n cc,fR]
 [.val (pu ab [vI n] (convert 3 195 (vI n))) (.int .u64 n),
  .call 153 [.int .u64 n] (vI k),
  .call 152 [vL p 0 n cc,vI 0,vI n,vI k,fR] (.tuple #[])]
 (.tuple #[]):=fB
theorem aeI {B:Nat->Prop}{m:Mem}:∀{l:List (List V)} {cs:List ae},cA (fun x u=>bH.R B x m u/\okV 1 u) l cs->∃d:List El,d.map (·.1)=cs/\d.map (·.2)=l/\∀x∈d,bH.R B x.2 m x.1
 | [],cs,h=>⟨[],h.symm,rfl,fun x hx=>by cases hx⟩
 |x::l,cs,h=>by
  obtain⟨u,rest,rfl,⟨q,_⟩,h⟩:=h;obtain⟨d,e1,e2,e3⟩:=aeI h;obtain⟨b,c,rfl,q'⟩:=q;exact⟨(vL b 0 x.length c,x)::d,by rw[List.map_cons,e1];rfl,by rw[List.map_cons,e2],fun y hy=>by
   rcases aI.1 hy with rfl|hy
   ·exact⟨b,c,rfl,q'⟩
   ·exact e3 y hy⟩
theorem Tp (dl:List El):((Sort.pdq Jg dl.toArray 0 dl.length (Sort.bitsLen dl.length) true true).toList.map (·.2)).Perm (dl.map (·.2))/\((Sort.pdq Jg dl.toArray 0 dl.length (Sort.bitsLen dl.length) true true).toList.map (·.2)).Pairwise fun x y=>cj x y<=0:=by
 have akX:=Sort.pdq_holds Sort.insertionSort_holds Sort.heapSort_holds Sort.partialInsertionSort_holds (Sort.partition_holds _) (Sort.partitionEqual_holds _) Sort.reverseRange_holds ajb dl.toArray 0 dl.length (Sort.bitsLen dl.length) true true (Nat.zero_le _) de (.inl rfl);generalize Sort.pdq Jg dl.toArray 0 dl.length (Sort.bitsLen dl.length) true true=d' at*;obtain⟨⟨hz,_,qC⟩,vH⟩:=akX;have Ju:d'.size=dl.length:=by simpa using hz
 have qC:d'.toList.Perm dl:=by
  rw[show d'.extract 0 dl.length=d' by rw[<-Ju];simp,show dl.toArray.extract 0 dl.length=dl.toArray by simp]at qC;simpa using qC
 refine⟨qC.map _,?_⟩;rw[List.pairwise_iff_getElem];intro i j hi hj s7;rw[List.getElem_map,List.getElem_map];have Ez:i<d'.size:=by simpa using hi
 have pY:j<d'.size:=by simpa using hj
 have :=vH i j (Nat.zero_le _) s7 aj;rw[getElem!_pos d' j pY,getElem!_pos d' i Ez]at this;have h2:¬cj (d'[j]).2 (d'[i]).2<0:=by
  have :decide (cj (d'[j]).2 (d'[i]).2<0)=false:=by rw[<-this];exact(fp _ _).symm
  simpa using this
 rcases Int.lt_or_le 0 (cj d'.toList[i].2 d'.toList[j].2)with r|r
 ·exact absurd (lH.Aw r) (by simpa using h2)
 ·exact r
section
variable {K:gS}{m:Mem}
theorem aiI (g:Gd m){B:Nat->Prop}{l:List (List V)}{p cc:Nat}{cs rest:List ae}(ob:Obj m p 1 (cs++rest))(hp:¬B p)(h3:cA (fun x u=>bH.R B x m u/\okV 1 u) l cs)(hw:Own m p)(hn:l.length<65536)(hs:Ru K l.length)(hl:∀x∈l,x.length<99999)(hB:∀b,B b->b<m.next):
  ∃d m',Ev K 116 [vL p 0 l.length cc,fR] m (.tuple #[]) m'/\Kp m m' (fun y=>y=p)/\Sv B p l.length rest m' d/\(d.toList.map (·.2)).Perm l/\(d.toList.map (·.2)).Pairwise fun x y=>cj x y<=0:=by
 obtain⟨dl,rfl,rfl,hd⟩:=aeI h3;have wW:Sv B p dl.length rest m dl.toArray:=⟨g,ob,hw,de,hp,fun x hx=>⟨hd x (by simpa using hx),hl _ (List.mem_map.2 ⟨x,by simpa using hx,rfl⟩)⟩⟩;have hlen:(dl.map (·.2)).length=dl.length:=de;rw[hlen]at hn hs⊢;obtain⟨m1,e1,k1,s1⟩:=hs (cc:=cc) wW hB;have ev:Ev K 116 [vL p 0 dl.length cc,fR] m (.tuple #[]) m1:=aJ (agR p dl.length cc _) (.val (cvW aj (.inl rfl))<| .call (aiG hn)<| .call e1 .nil);obtain⟨qC,vH⟩:=Tp dl;exact⟨_,m1,ev,k1,s1,qC,vH⟩
end
theorem BK {l l':List (List V)}(h:l.Perm l')(h1:l.Pairwise fun x y=>cj x y<=0)(h2:l'.Pairwise fun x y=>cj x y<=0):l=l':=
 h.eq_of_pairwise (fun a b _ _ h1 h2=>by
  rcases Int.lt_or_eq_of_le h1 with h|h
  ·have :=lH.Ro h;omega
  ·exact jy.1 h) h1 h2
end Go.AM
namespace Go.AM
set_option maxRecDepth 1000000
open Go Go.Conc Go.Proofs
def lP {α:Type}(E:nU α)(sz:Nat)(BO BE:Nat->Prop)(m:Mem)(acc:List α)(sv:ae):Prop:=
 (acc=[]/\sv= .slice none 0 0)\/∃b cs rest,sv=vL b 0 acc.length cD/\(BO b/\¬BE b)/\Own m b/\Obj m b sz (cs++rest)/\cA (fun x u=>E.R BE x m u/\okV sz u) acc cs
section
variable {α:Type}{E:nU α}{sz t n len b:Nat}{m0 m m1:Mem}{acc:List α}{sv v x:ae}{S BO BE Wn B':Nat->Prop}{y:α}{old new rest:List ae}
theorem lP.ext(h:lP E sz BO BE m acc sv)(k:Kp m m1 S)(hS:∀b,BO b\/BE b->¬S b):lP E sz BO BE m1 acc sv:=by
 rcases h with h|⟨b,cs,rest,e,hb,hw,ob,gO⟩
 ·exact .inl h
 ·exact .inr ⟨b,cs,rest,e,hb,hw.ext k,ob.ext k (hS b (.inl hb.1)),gO.mono fun x u _ w=>⟨E.ext w.1 k fun y hy=>hS y (.inr hy),w.2⟩⟩
theorem lP.form(h:lP E sz BO BE m acc sv):∃a c,sv= .slice a acc.length c:=by
 rcases h with⟨rfl,rfl⟩|⟨b,cs,rest,rfl,_⟩<;>exact⟨_,_,rfl⟩
theorem lP.one(h:lP E sz BO BE m acc sv):kI sv=true:=by obtain⟨a,c,rfl⟩:=h.form;rfl
theorem lP.first(h:lP E sz BO BE m acc sv):∃cs,kA m sz acc.length sv=some cs/\Cv sv=some acc.length/\cA (fun x u=>E.R BE x m u/\okV sz u) acc cs:=by
 rcases h with⟨rfl,rfl⟩|⟨b,cs,rest,rfl,hb,hw,ob,gO⟩
 ·exact⟨[],rfl,rfl,rfl⟩
 ·have hl:=gO.one.1;refine⟨cs,?_,rfl,gO⟩
  show m.dB b 0 (acc.length*sz)=some cs
  exact jx ob (by simp[<-hl]) (by simp;omega)
theorem Kx (g:Gd m)(ht:sN.contains (t,sz)=true)(hf:kA m sz n x=some new)(hl:Cv x=some n)(hlen:new.length=n*sz)(h1:∀y∈new,y.oneCell'=true)(hn:n≠0)(hb:n<=2^30):
  ∃m',cK ab #[t,t] (.slice none 0 0) x m=some (vL m.next 0 n cD,m')/\Obj m' m.next sz new/\Kp m m' fu/\m'.next=m.next+1:=by
 obtain⟨e,h3,h4,h0,h5⟩:=uK ht;have lK:(new.all (·.oneCell'))=true:=aB.2 h1;have e0:kA m sz 0 (.slice none 0 0)=some []:=rfl;obtain⟨k1,k2,k3⟩:=gC g (k:={kind:=1,sz:=sz,cs:=new.map some}) (cs:=new) rfl rfl rfl;refine⟨_,?_,k1,k2,k3⟩;unfold cK;simp only[show(#[t,t]:Array aM)[0]?=some t from rfl,show(#[t,t]:Array aM)[1]?=some t from rfl,a9,h3,h4,hl,hf];rw[bS (by rw[h5 _ aj,hlen,lK];simp),bS eS,bS aj];simp only[e0,List.length_nil,Nat.zero_mul,if_true,List.nil_append,Nat.zero_add]
theorem DC (g:Gd m)(ht:sN.contains (t,sz)=true)(ho:Obj m b sz (old++rest))(YS:old.length=len*sz)(hw:Own m b)(hf:kA m sz n x=some new)(hl:Cv x=some n)(hlen:new.length=n*sz)(h1:∀y∈new,y.oneCell'=true)(hb:len+n<=2^30):
  ∃m',cK ab #[t,t] (vL b 0 len cD) x m=some (vL m.next 0 (len+n) cD,m')/\Obj m' m.next sz (old++new)/\Kp m m' (fun y=>y=b)/\m'.next=m.next+1:=by
 obtain⟨e,h3,h4,h0,h5⟩:=uK ht;have lK:(new.all (·.oneCell'))=true:=aB.2 h1;have htk:fX (((old++rest).map some).drop 0) (len*sz)=some old:=by
  rw[List.drop_zero,kE (by simp;omega),<-YS];simp
 have g2:Gd (m.a8 b {}):=g.ext mQ;obtain⟨k1,k2,k3⟩:=gC g2 (k:={kind:=1,sz:=sz,cs:=(old++new).map some}) (cs:=old++new) rfl rfl rfl;refine⟨_,?_,k1,Kp.aS mQ k2,k3⟩;unfold cK;simp only[show(#[t,t]:Array aM)[0]?=some t from rfl,show(#[t,t]:Array aM)[1]?=some t from rfl,a9,h3,h4,hl,hf];rw[bS (by rw[h5 _ aj,hlen,lK];simp),bC trivial];have pO:(((m.blk b).cs.drop 0).all (·.isSome))=true:=by rw[ho.cs];simp
 simp only[ho.kind,ho.sz,ho.cs]at pO⊢;rw[bC (by rw[pO,show m.ft b=true from hw];simp)];simp only[htk]
theorem Kw (ht:sN.contains (t,sz)=true)(hf:kA m sz 0 x=some [])(hl:Cv x=some 0):cK ab #[t,t] (.slice none 0 0) x m=some (.slice none 0 0,m):=by
 obtain⟨e,h3,h4,h0,h5⟩:=uK ht;unfold cK;simp only[show(#[t,t]:Array aM)[0]?=some t from rfl,show(#[t,t]:Array aM)[1]?=some t from rfl,a9,h3,h4,hl,hf];rw[bS (by rw[h5 _ aj];simp),bS eS,bC (ai _)]
theorem lP.add(h:lP E sz BO BE m acc sv)(g:Gd m)(ht:sN.contains (t,sz)=true)(hs6:sz<=6)(q:E.R B' y m v)(hd:∀b,BO b->¬B' b)(EC:∀b,BE b->b<m.next)(H7:∀b,B' b->b<m.next)(ov:okV sz v)(hl:acc.length<2^30):
  ∃m2 m3 s',bh ab t 1 [(0,v)] m=some (vL m.next 0 1 1,m2)/\Gd m2/\Kp m m2 fu/\cK ab #[t,t] sv (vL m.next 0 1 1) m2=some (s',m3)/\Kp m m3 BO/\lP E sz (fun y=>y=m.next+1) (fun y=>BE y\/B' y) m3 (acc++[y]) s'/\(kI s'=true/\∃HK,s'=vL (m.next+1) 0 (acc.length+1) cD/\Obj m3 (m.next+1) sz HK/\cA (fun x u=>E.R (fun y=>BE y\/B' y) x m3 u/\okV sz u) (acc++[y]) HK)/\m3.next=m.next+2:=by
 obtain⟨o2,k2,n2⟩:=gC g (k:={kind:=1,sz:=sz,cs:=v.cells.toList.map some}) (cs:=v.cells.toList) rfl rfl rfl;obtain⟨m2,yF⟩:∃m2,m2=m.alloc {kind:=1,sz:=sz,cs:=v.cells.toList.map some}:=⟨_,rfl⟩;have e2:=bs1 (m:=m) ht ov.1 hs6;rw[<-yF]at e2 o2 k2 n2;have g2:=g.ext k2;have yD:nj m2 (vL m.next 0 1 1) sz 1 v.cells.toList:=o2.sl (by simp[ov.1]) (.inr rfl);have q2:=E.ext q k2 fun _ _ h=>h
 have jT:¬(BE m2.next\/B' m2.next):=fun h=>by
  rcases h with h|h
  ·have :=EC _ h;omega
  ·have :=H7 _ h;omega
 rcases h with⟨rfl,rfl⟩|⟨b,cs,rest,rfl,hb,hw,ob,gO⟩
 ·obtain⟨m3,e3,o3,k3,n3⟩:=Pu g2 ht yD ov.2 eS eS;have hc:cA (fun x u=>E.R (fun y=>BE y\/B' y) x m3 u/\okV sz u) ([]++[y]) v.cells.toList:=⟨v,[],de,⟨E.mono (E.ext q2 k3 fun _ _ h=>h) fun y hy=> .inr hy,ov⟩,rfl⟩;rw[n2]at o3 e3;refine⟨m2,m3,_,e2,g2,k2,e3,(k2.aS k3).tA,.inr ⟨m.next+1,_,[],rfl,⟨rfl,n2▸jT⟩,g2.own k3 aj,by rw[List.append_nil];exact o3,hc⟩,⟨rfl,_,rfl,o3,hc⟩,aj⟩
 ·have ob2:=ob.aR k2;obtain⟨m3,e3,o3,k3,n3⟩:=DC (len:=acc.length) g2 ht ob2 gO.one.1 (hw.ext k2) (mP yD) yD.UB yD.1 ov.2 aj;have Uu:Kp m m3 (fun y=>y=b):=k2.tA.trans k3 fun _ _ h=>h
  have hc:cA (fun x u=>E.R (fun y=>BE y\/B' y) x m3 u/\okV sz u) (acc++[y]) (cs++v.cells.toList):=cA.snoc ⟨E.mono (E.ext q Uu fun y hy e=>hd b hb.1 (e▸hy)) fun y hy=> .inr hy,ov⟩
   (gO.mono fun x u _ w=>⟨E.mono (E.ext w.1 Uu fun y hy e=>hb.2 (e▸hy)) fun y hy=> .inl hy,w.2⟩)
  rw[n2]at o3 e3;refine⟨m2,m3,_,e2,g2,k2,e3,(k2.tA.trans (k3.mono fun y _ h=>by rw[h];exact hb.1) fun _ _ h=>h),.inr ⟨m.next+1,_,[],de,⟨rfl,n2▸jT⟩,g2.own k3 aj,by rw[List.append_nil];exact o3,hc⟩,⟨rfl,_,rfl,o3,hc⟩,aj⟩
theorem lP.g9(h:lP E sz BO BE m acc sv)(hE:E.DO)(s1:sO BO m m1)(s2:sO BE m m1)(ow:∀b,BO b->Own m1 b):lP E sz BO BE m1 acc sv:=by
 rcases h with h|⟨b,cs,rest,e,hb,hw,ob,gO⟩
 ·exact .inl h
 ·exact .inr ⟨b,cs,rest,e,hb,ow b hb.1,ob.mo s1 hb.1,gO.mono fun x u _ w=>⟨hE _ _ _ _ _ w.1 s2,w.2⟩⟩
end
noncomputable def aba(t:Nat):Bool:=match ab.underlying t with
 |some (.slice e)=>(match gL ab e,ep ab e with |some z,some s=>z.cells.size==s&&z.cells.toList.all (·.oneCell')|_,_=>false)
 |_=>false
theorem PJ {t:Nat}(h:aba t=true):∃e z s,ab.underlying t=some (.slice e)/\gL ab e=some z/\ep ab e=some s/\z.cells.size=s/\∀y∈z.cells.toList,y.oneCell'=true:=by
 unfold aba at h
 split at h
 ·rename_i e he
  split at h
  ·rename_i z s hz hs;rw[ag,beq_iff_eq,aB]at h;exact⟨e,z,s,he,hz,hs,h.1,h.2⟩
  ·cases h
 ·cases h
structure Kin (fl go sh ga em t:Nat):Prop where
 Tq:∀(n cc:Nat) (a:Option Addr) (rv:ae),Path em [(.slice a n cc)] [.mem (mX ab #[t] (.slice a n cc)) (.tuple #[]),.mem (nZ ab t (.slice a n cc) none (some (vI 0))) rv] rv
 abT:∀(d o fr to fs n cc:Nat) (cap:Array ae) (a:Option Addr) (sv:ae),uM (j0 sh) (cI sh) 0 2 [0,1,2,3] [(vP d o),(vI (fr:Int)),(vI (to:Int)),(.func (.func fs) #[] cap)] [.mem (aP d o) (.slice a n cc),.call em [(.slice a n cc)] sv] .normal [0,2,3,8,9,10] [(vP d o),(vI (to:Int)),(.func (.func fs) #[] cap),sv,(vI 0),(vI (fr:Int))]
 abS:∀(d o to i fs:Nat) (cap:Array ae) (sv NI:ae),uM (j0 sh) (oI (cI sh) [2]) 0 99 [0,2,3,8,9,10] [(vP d o),(vI (to:Int)),(.func (.func fs) #[] cap),sv,(vI 0),(vI (i:Int))] ((rp 3 (.bool (gB (i:Int) (to:Int))) true ([.cond (.bool true) true,.gD (.func (.func fs) #[] cap) [sv,(vI (i:Int))] (.tuple #[NI,(vI 0)])]))) .normal [0,2,3,8,9,10] [(vP d o),(vI (to:Int)),(.func (.func fs) #[] cap),NI,(vI 0),(vI (fg (i:Int) 1))]
 abR:∀(d o to i fs:Nat) (cap:Array ae) (sv:ae),uM (j0 sh) (oI (cI sh) [2]) 0 99 [0,2,3,8,9,10] [(vP d o),(vI (to:Int)),(.func (.func fs) #[] cap),sv,(vI 0),(vI (i:Int))] ((rp 3 (.bool (gB (i:Int) (to:Int))) false ([.cond (.bool false) false]))) (.exit 0) [0,8,9] [(vP d o),sv,(vI 0)]
 abQ:∀(d o n cc:Nat) (a:Option Addr),uM (j0 sh) (cI sh) 3 99 [0,8,9] [(vP d o),(.slice a n cc),(vI 0)] [.mem (gJ d o (.slice a n cc)) undef,.mem (gJ d (o+1) (vI 0)) undef] .normal [] []
 abY:∀(d q an ac bn bc:Nat) (aa ba:Option Addr),uM (j0 ga) (cI ga) 0 3 [0] [(vP d q)] [.mem (aP d (q+8)) (.slice aa an ac),.call em [(.slice aa an ac)] (.slice ba bn bc),.mem (gJ d (q+8) (.slice ba bn bc)) undef] .normal [0,13] [(vP d q),(vI 0)]
 abV:∀(d q i:Nat),uM (j0 ga) (oI (cI ga) [3]) 0 99 [0,13] [(vP d q),(vI (i:Int))] [.cond (.bool (gB (i:Int) 4)) false] (.exit 0) [0] [(vP d q)]
 abX:∀(d q i an ac bn bc rn rc:Nat) (aa ba ra:Option Addr),uM (j0 ga) (oI (cI ga) [3]) 0 99 [0,13] [(vP d q),(vI (i:Int))] [.cond (.bool (gB (i:Int) 4)) true,.idx (i:Int) 4 i,.mem (aP d (q+i*2+1)) (vI 0),.cond (.bool false) false,.mem (aP d (q+8)) (.slice aa an ac),.idx (i:Int) 4 i,.mem (aP d (q+i*2)) (.slice ba bn bc),.mem zZ undef,.mem (cK ab #[t,t] (.slice aa an ac) (.slice ba bn bc)) (.slice ra rn rc),.mem zZ undef,.mem (gJ d (q+8) (.slice ra rn rc)) undef] .normal [0,13] [(vP d q),(vI (fg (i:Int) 1))]
 abU:∀(d q:Nat) (rv:ae),uM (j0 ga) (cI ga) 4 99 [0] [(vP d q)] [.mem (aP d (q+8)) rv] .ret [2,3] [rv,(vI 0)]
 ab2:∀(d q rows fs b3 b5 b8 x:Nat) (cap:Array ae),uM (j0 fl) (cI fl) 0 4 [0,1,2] [(vP d q),(vI (rows:Int)),(.func (.func fs) #[] cap)] [.mem (mZ [some (vP d q)]) (vP b3 0),.mem (mZ [some (.func (.func fs) #[] cap)]) (vP b5 0),.mem (mZ [some (.int .u64 0),some (.int .u32 0)]) (vP b8 0),.val (kK Nat.div .i64 (oF (fg (rows:Int) 4) 1) 4 (jZ ab .quo 3 false true (vI (oF (fg (rows:Int) 4) 1)) (vI 4))) (vI (x:Int))] .normal [1,3,5,8,9,18] [(vI (rows:Int)),(vP b3 0),(vP b5 0),(vP b8 0),(vI (RE true (x:Int) 8)),(vI 0)]
 ab1:∀(rows b3 b5 b8 i bi bf bt:Nat) (size x:Int),uM (j0 fl) (oI (cI fl) [4]) 0 99 [1,3,5,8,9,18] [(vI (rows:Int)),(vP b3 0),(vP b5 0),(vP b8 0),(vI size),(vI (i:Int))] [.cond (.bool (gB (i:Int) 4)) true,.mem (mZ [some (vI 0)]) (vP bi 0),.mem (gJ bi 0 (vI (i:Int))) undef,.mem (aP bi 0) (vI (i:Int)),.mem (mZ [some (vI 0)]) (vP bf 0),.mem (gJ bf 0 (vI (RE false (oK (i:Int) size) (rows:Int)))) undef,.mem (aP bf 0) (vI x),.mem (mZ [some (vI 0)]) (vP bt 0),.mem (gJ bt 0 (vI (RE false (fg x size) (rows:Int)))) undef,.call 137 [(vP b8 0),(.func (.func go) #[] #[(vP b3 0),(vP bi 0),(vP bf 0),(vP bt 0),(vP b5 0)])] (.tuple #[])] .normal [1,3,5,8,9,18] [(vI (rows:Int)),(vP b3 0),(vP b5 0),(vP b8 0),(vI size),(vI (fg (i:Int) 1))]
 ab0:∀(rows b3 b5 b8 i:Nat) (size:Int),uM (j0 fl) (oI (cI fl) [4]) 0 99 [1,3,5,8,9,18] [(vI (rows:Int)),(vP b3 0),(vP b5 0),(vP b8 0),(vI size),(vI (i:Int))] [.cond (.bool (gB (i:Int) 4)) false] (.exit 0) [3,8] [(vP b3 0),(vP b8 0)]
 abZ:∀(b3 b8 d q:Nat) (rv:ae) (e:Int),uM (j0 fl) (cI fl) 5 99 [3,8] [(vP b3 0),(vP b8 0)] [.call 140 [(vP b8 0)] (.tuple #[]),.mem (aP b3 0) (vP d q),.call ga [(vP d q)] (.tuple #[rv,(vI e)])] .ret [6,7] [rv,(vI e)]
 abW:∀(t0 t1 t2 t3 t4 d q i fr to fs:Nat) (cap:Array ae),Path go [(vP t0 0),(vP t1 0),(vP t2 0),(vP t3 0),(vP t4 0)] [.mem (aP t0 0) (vP d q),.mem (aP t1 0) (vI (i:Int)),.idx (i:Int) 4 i,.mem (aP t2 0) (vI (fr:Int)),.mem (aP t3 0) (vI (to:Int)),.mem (aP t4 0) (.func (.func fs) #[] cap),.mem zZ undef,.call sh [(vP d (q+i*2)),(vI (fr:Int)),(vI (to:Int)),(.func (.func fs) #[] cap)] (.tuple #[])] (.tuple #[])
 acx:nQ sh 4 []=true
 Uj:(dZ (cI sh)).length<=99
 acK:l9 (cI sh) 2=some (0,oI (cI sh) [2])
 Ob:codeOk (j0 sh) (oI (cI sh) [2])=true
 acN:pJ (j0 sh) (cI sh) (oI (cI sh) [2]) 2 0=true
 acy:nQ ga 1 [2,3]=true
 Uk:(dZ (cI ga)).length<=99
 acL:l9 (cI ga) 3=some (0,oI (cI ga) [3])
 Oc:codeOk (j0 ga) (oI (cI ga) [3])=true
 acO:pJ (j0 ga) (cI ga) (oI (cI ga) [3]) 3 0=true
 acz:nQ fl 3 [6,7]=true
 Ul:(dZ (cI fl)).length<=99
 acM:l9 (cI fl) 4=some (0,oI (cI fl) [4])
 Od:codeOk (j0 fl) (oI (cI fl) [4])=true
 acP:pJ (j0 fl) (cI fl) (oI (cI fl) [4]) 4 0=true
 spec:ja em=false/\ja sh=false/\ja go=false/\ja ga=false/\ja fl=false
 und:aba t=true
 fill:go=X0.FQ\/go=X0.FP
theorem acT:Kin 109 138 139 141 180 29 where
 Tq:=fun _ _ _ _=>⟨aY,aY⟩
 abT:=fun _ _ _ _ _ _ _ _ _ _ _=>⟨aY,aY⟩
 abS:=fun _ _ _ _ _ _ _ _ _=>⟨aY,aY⟩
 abR:=fun _ _ _ _ _ _ _ _=>⟨aY,aY⟩
 abQ:=fun _ _ _ _ _ _=>⟨aY,aY⟩
 abY:=fun _ _ _ _ _ _ _ _ _=>⟨aY,aY⟩
 abV:=fun _ _ _ _=>⟨aY,aY⟩
 abX:=fun _ _ _ _ _ _ _ _ _ _ _ _ _=>⟨aY,aY⟩
 abU:=fun _ _ _ _=>⟨aY,aY⟩
 ab2:=fun _ _ _ _ _ _ _ _ _ _=>⟨aY,aY⟩
 ab1:=fun _ _ _ _ _ _ _ _ _ _ _=>⟨aY,aY⟩
 ab0:=fun _ _ _ _ _ _ _=>⟨aY,aY⟩
 abZ:=fun _ _ _ _ _ _ _=>⟨aY,aY⟩
 abW:=fun _ _ _ _ _ _ _ _ _ _ _ _=>⟨aY,aY⟩
 acx:=aY
 acK:=aY
 Ob:=aY
 acN:=aY
 acy:=aY
 acL:=aY
 Oc:=aY
 acO:=aY
 acz:=aY
 acM:=aY
 Od:=aY
 acP:=aY
 Uj:=af aY
 Uk:=af aY
 Ul:=af aY
 spec:=⟨rfl,rfl,rfl,rfl,rfl⟩
 und:=aY
 fill:= .inl rfl
theorem ag9:Kin 249 270 271 272 199 223 where
 Tq:=fun _ _ _ _=>⟨aY,aY⟩
 abT:=fun _ _ _ _ _ _ _ _ _ _ _=>⟨aY,aY⟩
 abS:=fun _ _ _ _ _ _ _ _ _=>⟨aY,aY⟩
 abR:=fun _ _ _ _ _ _ _ _=>⟨aY,aY⟩
 abQ:=fun _ _ _ _ _ _=>⟨aY,aY⟩
 abY:=fun _ _ _ _ _ _ _ _ _=>⟨aY,aY⟩
 abV:=fun _ _ _ _=>⟨aY,aY⟩
 abX:=fun _ _ _ _ _ _ _ _ _ _ _ _ _=>⟨aY,aY⟩
 abU:=fun _ _ _ _=>⟨aY,aY⟩
 ab2:=fun _ _ _ _ _ _ _ _ _ _=>⟨aY,aY⟩
 ab1:=fun _ _ _ _ _ _ _ _ _ _ _=>⟨aY,aY⟩
 ab0:=fun _ _ _ _ _ _ _=>⟨aY,aY⟩
 abZ:=fun _ _ _ _ _ _ _=>⟨aY,aY⟩
 abW:=fun _ _ _ _ _ _ _ _ _ _ _ _=>⟨aY,aY⟩
 acx:=aY
 acK:=aY
 Ob:=aY
 acN:=aY
 acy:=aY
 acL:=aY
 Oc:=aY
 acO:=aY
 acz:=aY
 acM:=aY
 Od:=aY
 acP:=aY
 Uj:=af aY
 Uk:=af aY
 Ul:=af aY
 spec:=⟨rfl,rfl,rfl,rfl,rfl⟩
 und:=aY
 fill:= .inr rfl
end Go.AM
namespace Go.AM
set_option maxRecDepth 1000000
open Go Go.Conc Go.Proofs
noncomputable def aav(nt:Nat)(rs:List ResultVar)(a t b:Nat):Bool:=match rs with
 | [.cell x y,.tmp z]=>Nat.beq x a&&Nat.beq y t&&Nat.beq z b&&Nat.blt a nt&&Nat.blt b nt
 |_=>false
noncomputable def MN(f n a t b:Nat):Bool:=wB f&&codeOk (j0 f) (cI f)&&aav (j0 f) (rsT f) a t b&&Nat.ble n (j0 f)&&Nat.ble n 16
theorem Zg {K:gS}{f a t b q:Nat}{args:List ae}{m m':Mem}{fe:Tm}{e:Exit}{v u:ae}(er:MN f args.length a t b=true)(h:aU K (j0 f) (cI f) 0 ⟨entry args,m,[]⟩ e ⟨fe,m',[]⟩)(he:e= .normal\/e= .ret)(hg:dL [a,b] fe=[vP q 0,u])
  (hL:oA ab t (vP q 0) m'=some (v,m'))(hs:ja f=false:=by rfl):Ev K f args m (.tuple #[v,u]) m':=by
 unfold MN at er;simp only[ag]at er;obtain⟨⟨⟨⟨h1,h2⟩,h3⟩,h4⟩,h5⟩:=er;obtain⟨tt,ht⟩:=E4 (l:=args) (af h5);have Y7:entry args=tt:=by unfold entry;rw[ht]
 rw[Y7]at h;refine O9 h1 (tm:=tt) (by rw[bC h4,ht]) (h.code h2) he ?_ hs;unfold aav at h3
 split at h3
 ·rename_i x y z hrs;simp only[ag]at h3;have e1:=aA h3.1.1.1.1;have e2:=aA h3.1.1.1.2;have e3:=aA h3.1.1.2;subst e1 e2 e3;simp only[dL,List.map_cons,List.map_nil,List.cons.injEq,and_true]at hg;unfold lS;rw[hrs];unfold vj vj vj;rw[bC h3.1.2,bC h3.2,hg.1,hg.2];unfold oA at hL
  split at hL
  ·rename_i v' hv;cases hL;simp only[hv]
  ·cases hL
 ·cases h3
structure CS where
 p:Nat
 on:Option X
def J7:nU CS where
 R B x m v:=∃o,v= .agg #[vP x.p 0,o]/\iP.R B x.on m o
 mono:=by
  rintro B B' x m v ⟨o,e,h⟩ k;exact⟨o,e,iP.mono h k⟩
 ext:=by
  rintro B S x m m' v ⟨o,e,h⟩ k hs;exact⟨o,e,iP.ext h k hs⟩
structure Nx where
 mm:List CS
 wh:Option X
 rU:List X
def me:nU Nx where
 R B x m v:=∃a w b,v= .agg #[a,w,b]/\(aT J7 2).R B x.mm m a/\iP.R B x.wh m w/\(aT nR 1).R B x.rU m b
 mono:=by
  rintro B B' x m v ⟨a,w,b,e,h1,h2,h3⟩ k;exact⟨a,w,b,e,(aT J7 2).mono h1 k,iP.mono h2 k,(aT nR 1).mono h3 k⟩
 ext:=by
  rintro B S x m m' v ⟨a,w,b,e,h1,h2,h3⟩ k hs;exact⟨a,w,b,e,(aT J7 2).ext h1 k hs,iP.ext h2 k hs,(aT nR 1).ext h3 k hs⟩
theorem iP.one{B:Nat->Prop}{x:Option X}{m:Mem}{v:ae}(h:iP.R B x m v):v.oneCell'=true:=by
 cases x with
 |none=>have h:v= .nilIface:=h;rw[h];rfl
 |some x=>obtain⟨t,b,rfl⟩:=XR.form (show XR B x m v from h);rfl
end Go.AM
namespace Go.AM
set_option maxRecDepth 1000000
open Go Go.Conc Go.Proofs
structure CU where
 all:Bool
 SM:Nx
def J6:nU CU where
 R B x m v:=∃a w b,v= .agg #[.bool x.all,a,w,b]/\me.R B x.SM m (.agg #[a,w,b])
 mono:=by
  rintro B B' x m v ⟨a,w,b,e,h⟩ k;exact⟨a,w,b,e,me.mono h k⟩
 ext:=by
  rintro B S x m m' v ⟨a,w,b,e,h⟩ k hs;exact⟨a,w,b,e,me.ext h k hs⟩
structure Gc where
 first :Nx
 us:List CU
def jr:nU Gc where
 R B x m v:=∃a w b u,v= .agg #[a,w,b,u]/\me.R B x.first m (.agg #[a,w,b])/\(aT J6 4).R B x.us m u
 mono:=by
  rintro B B' x m v ⟨a,w,b,u,e,h,h'⟩ k;exact⟨a,w,b,u,e,me.mono h k,(aT J6 4).mono h' k⟩
 ext:=by
  rintro B S x m m' v ⟨a,w,b,u,e,h,h'⟩ k hs;exact⟨a,w,b,u,e,me.ext h k hs,(aT J6 4).ext h' k hs⟩
theorem me.three{B:Nat->Prop}{x:Nx}{m:Mem}{v:ae}(h:me.R B x m v):∃a w b,v= .agg #[a,w,b]/\a.oneCell'=true/\w.oneCell'=true/\b.oneCell'=true:=by
 obtain⟨a,w,b,e,h1,h2,h3⟩:=h;exact⟨a,w,b,e,(aT.kI h1).2,iP.one h2,(aT.kI h3).2⟩
structure PH where
 p:Nat
 self:Bool
 b:Gc
def rL:nU PH where
 R B x m v:=∃a w b u,v= .agg #[vP x.p 0,.bool x.self,a,w,b,u]/\jr.R B x.b m (.agg #[a,w,b,u])
 mono:=by
  rintro B B' x m v ⟨a,w,b,u,e,h⟩ k;exact⟨a,w,b,u,e,jr.mono h k⟩
 ext:=by
  rintro B S x m m' v ⟨a,w,b,u,e,h⟩ k hs;exact⟨a,w,b,u,e,jr.ext h k hs⟩
structure zK where
 parts:List PH
 gR:List KY
 b:Gc
def QY:nU zK where
 R B x m v:=∃p c a w b u,v= .agg #[p,c,a,w,b,u]/\(aT rL 6).R B x.parts m p/\qF.R B x.gR m c/\jr.R B x.b m (.agg #[a,w,b,u])
 mono:=by
  rintro B B' x m v ⟨p,c,a,w,b,u,e,h1,h2,h⟩ k;exact⟨p,c,a,w,b,u,e,(aT rL 6).mono h1 k,qF.mono h2 k,jr.mono h k⟩
 ext:=by
  rintro B S x m m' v ⟨p,c,a,w,b,u,e,h1,h2,h⟩ k hs;exact⟨p,c,a,w,b,u,e,(aT rL 6).ext h1 k hs,qF.ext h2 k hs,jr.ext h k hs⟩
theorem jr.four{B:Nat->Prop}{x:Gc}{m:Mem}{v:ae}(h:jr.R B x m v):∃a w b u,v= .agg #[a,w,b,u]/\a.oneCell'=true/\w.oneCell'=true/\b.oneCell'=true/\u.oneCell'=true:=by
 obtain⟨a,w,b,u,e,h1,h2⟩:=h;obtain⟨_,_,_,e',x1,x2,x3⟩:=me.three h1;cases e';exact⟨a,w,b,u,e,x1,x2,x3,(aT.kI h2).2⟩
end Go.AM
