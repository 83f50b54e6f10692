/-
  What the claim stands on, part 1.
-/
import Derived.Calls
import Derived.Laws.Sem
import Derived.Conc.Events
import Derived.Laws.Append
set_option linter.unusedVariables false
set_option linter.unusedSimpArgs false
open Go renaming Value → ae, World → ay, Program → aD, TypeId → aM, IntKind → bX, Operand → cd, Oper → im
open Bool renaming and_eq_true → ag, false_eq_true → bO
open Option.some renaming injEq → ah
open Nat renaming le_refl → ai, lt_of_lt_of_le → a8, le_trans → cF
open Prod.mk renaming injEq → au
open Option renaming map_eq_some_iff → aB, bind_eq_some_iff → bE, map_some → cT, isSome_iff_exists → iz
open List renaming all_eq_true → aE, mem_cons → aR
namespace Go.AM
open Go
structure dU where
 kind:Nat:=0
 sz:Nat:=0
 cs:List (Option ae):=[]
 es:Array MapEntry:=#[]
 clock:Nat:=0
 str:ByteArray:= .empty
 pos:Nat:=0
 a9:Nat:=0
def Gz {α:Type}(d:α):List α->Nat->α->List α
 | [],0,v=>[v]
 | [],i+1,v=>d::Gz d [] i v
 |_::t,0,v=>v::t
 |x::t,i+1,v=>x::Gz d t i v
def BZ {α:Type}(d:α):List α->Nat->α
 | [],_=>d
 |x::_,0=>x
 |_::t,i+1=>BZ d t i
structure N8 (α:Type) where
 a:α
 b:α
 c:α
 d:α
 e:α
 f:α
 g:α
 h:α
def N8.all{α:Type}(x:α):N8 α:=⟨x,x,x,x,x,x,x,x⟩
def N8.get{α:Type}(n:N8 α)(i:Nat):α:=
 match i with
 |0=>n.a
 |1=>n.b
 |2=>n.c
 |3=>n.d
 |4=>n.e
 |5=>n.f
 |6=>n.g
 |_=>n.h
def N8.put{α:Type}(n:N8 α)(i:Nat)(x:α):N8 α:=
 match n with
 |⟨a,b,c,d,e,f,g,h⟩=>
  match i with
  |0=>⟨x,b,c,d,e,f,g,h⟩
  |1=>⟨a,x,c,d,e,f,g,h⟩
  |2=>⟨a,b,x,d,e,f,g,h⟩
  |3=>⟨a,b,c,x,e,f,g,h⟩
  |4=>⟨a,b,c,d,x,f,g,h⟩
  |5=>⟨a,b,c,d,e,x,g,h⟩
  |6=>⟨a,b,c,d,e,f,x,h⟩
  |_=>⟨a,b,c,d,e,f,g,x⟩
theorem N8.G7{α:Type}(x:α)(i:Nat):(N8.all x).get i=x:=by
 unfold N8.get N8.all
 split<;>rfl
theorem N8.get_put{α:Type}(n:N8 α)(x:α){i j:Nat}(hi:i<8)(hj:j<8):(n.put i x).get j=if i=j then x else n.get j:=by
 match i,j,hi,hj with
 |0,0,_,_|0,1,_,_|0,2,_,_|0,3,_,_|0,4,_,_|0,5,_,_|0,6,_,_|0,7,_,_=>rfl
 |1,0,_,_|1,1,_,_|1,2,_,_|1,3,_,_|1,4,_,_|1,5,_,_|1,6,_,_|1,7,_,_=>rfl
 |2,0,_,_|2,1,_,_|2,2,_,_|2,3,_,_|2,4,_,_|2,5,_,_|2,6,_,_|2,7,_,_=>rfl
 |3,0,_,_|3,1,_,_|3,2,_,_|3,3,_,_|3,4,_,_|3,5,_,_|3,6,_,_|3,7,_,_=>rfl
 |4,0,_,_|4,1,_,_|4,2,_,_|4,3,_,_|4,4,_,_|4,5,_,_|4,6,_,_|4,7,_,_=>rfl
 |5,0,_,_|5,1,_,_|5,2,_,_|5,3,_,_|5,4,_,_|5,5,_,_|5,6,_,_|5,7,_,_=>rfl
 |6,0,_,_|6,1,_,_|6,2,_,_|6,3,_,_|6,4,_,_|6,5,_,_|6,6,_,_|6,7,_,_=>rfl
 |7,0,_,_|7,1,_,_|7,2,_,_|7,3,_,_|7,4,_,_|7,5,_,_|7,6,_,_|7,7,_,_=>rfl
abbrev Hp1:=N8 dU
abbrev Hp2:=N8 Hp1
abbrev Hp3:=N8 Hp2
abbrev Hp4:=N8 Hp3
def YL:Hp1:=N8.all {}
def hp2:Hp2:=N8.all YL
def hp3:Hp3:=N8.all hp2
def hp4:Hp4:=N8.all hp3
abbrev j8:=List Hp4
def rO (b k:Nat):Nat:=Nat.mod (Nat.div b k) 8
def V6 (n:Hp4)(b:Nat):dU:=(((n.get (rO b 512)).get (rO b 64)).get (rO b 8)).get (Nat.mod b 8)
def abv (n:Hp4)(b:Nat)(k:dU):Hp4:=
 n.put (rO b 512) ((n.get (rO b 512)).put (rO b 64) (((n.get (rO b 512)).get (rO b 64)).put (rO b 8) ((((n.get (rO b 512)).get (rO b 64)).get (rO b 8)).put (Nat.mod b 8) k)))
def j8.get(h:j8)(b:Nat):dU:=V6 (BZ hp4 h (Nat.div b 4096)) b
def j8.put(h:j8)(b:Nat)(k:dU):j8:=Gz hp4 h (Nat.div b 4096) (abv (BZ hp4 h (Nat.div b 4096)) b k)
abbrev Span:=Nat×Nat×Option Nat
def bD (l:List Span)(b o:Nat):Bool:=l.any fun s=>decide (s.1<=b)&&decide (b<s.2.1)&&(match s.2.2 with |none=>true|some y=>y==o)
def gN (l:List Span)(b:Nat):Bool:=l.any fun s=>decide (s.1<=b)&&decide (b<s.2.1)&&s.2.2.isNone
def meets (l:List Span)(b o n:Nat):Bool:=l.any fun s=>decide (s.1<=b)&&decide (b<s.2.1)&&(match s.2.2 with |none=>true|some y=>decide (o<=y)&&decide (y<o+n))
def aL (l:List Span)(b:Nat):Bool:=l.any fun s=>decide (s.1<=b)&&decide (b<s.2.1)
structure AJ where
 lo:Nat
 hi:Nat
 oJ:List Span
 bB:List Span
 heap:j8
structure Mem where
 heap:j8
 next:Nat
 tick:Nat
 base:Nat
 home:Nat
 floor:Nat
 opn:List Span
 bB:List Span
 wg:Option Nat
 pend:List AJ
 deaf:Nat
def Mem.blk(m:Mem)(b:Nat):dU:=m.heap.get b
def Mem.aZ(m:Mem)(b:Nat)(k:dU):Mem:={m with heap:=m.heap.put b {k with a9:=m.tick},tick:=m.tick+1}
def Mem.alloc(m:Mem)(k:dU):Mem:={m with heap:=m.heap.put m.next {k with a9:=m.tick},tick:=m.tick+1,next:=m.next+1}
def fY:List (Option ae)->Nat->Option (List ae)
 |_,0=>some []
 |some v::t,n+1=>(fY t n).map (v::·)
 |_,_=>none
def eB:List (Option ae)->Nat->List ae->Option (List (Option ae))
 |l,_,[]=>some l
 |some _::t,0,v::vs=>(eB t 0 vs).map (some v::·)
 |x::t,i+1,vs=>(eB t i vs).map (x::·)
 |_,_,_=>none
def Mem.dv(m:Mem)(b o n:Nat):Option (List ae):=
 let k:=m.blk b
 if k.kind==1&&!meets m.bB b o n then fY (k.cs.drop o) n else none
def Mem.cP(m:Mem)(b o n:Nat):Bool:=
 !meets m.bB b o n&&decide (m.base<=b)&&(decide (m.floor<=b)||gN m.opn b||(List.range n).all fun i=>bD m.opn b (o+i))
def Mem.dD(m:Mem)(b o:Nat)(vs:List ae):Option Mem:=
 let k:=m.blk b
 if k.kind==1&&m.cP b o vs.length&&vs.all (·.oneCell')then(eB k.cs o vs).map fun cs=>m.aZ b {k with cs:=cs}else none
def Mem.fq(m:Mem)(b:Nat):Bool:=!aL m.bB b&&decide (m.base<=b)&&(decide (m.floor<=b)||gN m.opn b)
def Mem.bz(m:Mem)(b:Nat):Bool:=!aL m.bB b&&decide (m.home<=b)
def fp:Nat:=18446744073709551616
def cG:ae->Bool
 | .bool _| .int _ _| .string _| .nilIface| .nilFunc| .pointer none| .slice none _ _| .map none=>true
 |_=>false
def plain:ae->Bool
 | .agg cs=>cs.toList.all cG
 | .tuple cs=>cs.toList.all cG
 |v=>cG v
def ptrTo (b o:Nat):ae:= .pointer (some ⟨b,o,none⟩)
def _root_.Go.Sem.aI{α:Type}(P:aD):Sem α->Option α
 | .pure a=>some a
 | .program k=>(k P).aI P
 |_=>none
def wq (P:aD)(t:aM):Option Bool:=(P.underlying t).map fun d=>match d with | .struct _| .array _ _=>true|_=>false
def dV (P:aD)(t:aM):Option Nat:=(P.info? t).map (·.size)
def gO (P:aD)(t:aM):Option ae:=
 match P.info? t with
 |some i=>match i.zero with
  |some z=>if z.cells.toList.all cG&&z.cells.size==i.size then some z else none
  |none=>none
 |none=>none
def j9 (P:aD)(t:aM)(p:ae)(m:Mem):Option ae:=
 match p with
 | .pointer (some ⟨b,o,none⟩)=>
  match wq P t with
  |some true=>(dV P t).bind fun n=>(m.dv b o n).map fun l=> .agg l.toArray
  |some false=>(m.dv b o 1).bind (·.head?)
  |none=>none
 |_=>none
def vz (P:aD)(t:aM)(p x:ae)(m:Mem):Option Mem:=
 match p with
 | .pointer (some ⟨b,o,none⟩)=>if dV P t=some x.cells.size then m.dD b o x.cells.toList else none
 |_=>none
def cz (m:Mem)(sz:Nat)(cs:List ae):ae×Mem:=(ptrTo m.next 0,m.alloc {kind:=1,sz:=sz,cs:=cs.map some,pos:=1})
def Nz (P:aD)(t:aM)(cs:Array ae)(off:Nat):Option ae:=
 match wq P t with
 |some true=>(dV P t).map fun n=> .agg (cs.extract off (off+n))
 |some false=>cs[off]?
 |none=>none
def r9 (P:aD)(s:aM)(p:ae)(f:Nat):Option ae:=
 match P.underlying s,p with
 |some (.struct fields),.pointer (some ⟨b,o,none⟩)=>
  match fields[f]? with
  |some fd=>match dV P fd.type with
   |some (_+1)=>some (ptrTo b (o+fd.offset))
   |_=>none
  |none=>none
 |_,_=>none
def G9 (P:aD)(s:aM)(x:ae)(f:Nat):Option ae:=
 match P.underlying s,x with
 |some (.struct fields),.agg cs=>(fields[f]?).bind fun fd=>Nz P fd.type cs fd.offset
 |_,_=>none
def pC (P:aD)(t:aM)(x i:ae):Option ae:=
 match P.underlying t,x,i with
 |some (.slice e),.slice (some ⟨b,o,none⟩) len _,.int _ n=>
  if 0<=n/\n<len then(dV P e).map fun s=>ptrTo b (o+n.toNat*s)else none
 |some (.array len e),.pointer (some ⟨b,o,none⟩),.int _ n=>
  if 0<=n/\n<len then(dV P e).map fun s=>ptrTo b (o+n.toNat*s)else none
 |_,_,_=>none
def vM (P:aD)(t:aM)(x i:ae):Option ae:=
 match P.underlying t,x,i with
 |some (.array len e),.agg cs,.int _ n=>if 0<=n/\n<len then(dV P e).bind fun s=>Nz P e cs (n.toNat*s)else none
 |_,_,_=>none
def jP (v:Option ae)(d:Nat):Option Nat:=
 match v with
 |none=>some d
 |some (.int _ n)=>if 0<=n then some n.toNat else none
 |_=>none
def iR (P:aD)(t:aM)(x:ae)(lo hi:Option ae)(m:Mem):Option ae:=
 match P.underlying t,x with
 |some (.slice e),.slice (some ⟨b,o,none⟩) len cap=>
  match jP lo 0,jP hi len,dV P e with
  |some l,some h,some s=>
   if cap=fp then
    (if l<=h/\h<=len/\(l=0\/(l<len/\(m.blk b).kind=1/\(m.blk b).sz=s))then some (.slice (some ⟨b,o+l*s,none⟩) (h-l) fp)else none)
   else if cap<fp/\l<=h/\h<=cap then some (.slice (some (if cap=l then⟨b,o,none⟩else⟨b,o+l*s,none⟩)) (h-l) (cap-l))else none
  |_,_,_=>none
 |some (.slice e),.slice none len cap=>
  match jP lo 0,jP hi len,dV P e with
  |some l,some h,some s=>if cap<fp/\l<=h/\h<=cap then some (.slice none (h-l) (cap-l))else none
  |_,_,_=>none
 |some (.array n e),.pointer (some ⟨b,o,none⟩)=>
  match jP lo 0,jP hi n,dV P e with
  |some l,some h,some s=>if n<fp/\l<=h/\h<=n then some (.slice (some (if n=l then⟨b,o,none⟩else⟨b,o+l*s,none⟩)) (h-l) (n-l))else none
  |_,_,_=>none
 |_,_=>none
def kr (m:Mem)(size n:Nat):ae->Option (List ae)
 | .slice (some ⟨b,o,none⟩) _ _=>m.dv b o (n*size)
 | .slice none _ _=>some []
 | .string s=>if size=1/\n=s.size then some (s.data.toList.map fun b=> .int .u8 b.toNat)else none
 |_=>none
def B4:ae->Option Nat
 | .slice _ n _=>some n
 | .string s=>some s.size
 |_=>none
def y9 (P:aD)(e:aM)(need:Nat):Bool:=match P.info? e with |some i=>decide (0<i.bytes)&&decide (need*i.bytes<=2^46)&&decide (need<=2^46)&&(gO P e).isSome|none=>false
def cJ (P:aD)(ly:Array aM)(s x:ae)(m:Mem):Option (ae×Mem):=
 match(ly[0]?).bind P.underlying,ly[1]?,s with
 |some (.slice e),some xt,.slice base len cap=>
  match dV P e,B4 x,P.underlying xt with
  |some size,some n,some (.slice _)=>
   match kr m size n x with
   |none=>none
   |some new=>
    if y9 P e (len+n)=false\/new.length≠n*size\/new.all (·.oneCell')=false then none else
    if cap=fp then
     match base with
     |some ⟨b,o,none⟩=>
      let k:=m.blk b
      if k.kind==1&&k.sz==size&&m.fq b&&(k.cs.drop o).all (·.isSome)then
       match fY (k.cs.drop o) (len*size)with
       |some old=>
        let m':=(m.aZ b {}).alloc {kind:=1,sz:=size,cs:=(old++new).map some}
        some (.slice (some ⟨m.next,0,none⟩) (len+n) fp,m')
       |none=>none
      else none
     |_=>none
    else if len+n<=cap then
     match base with
     |some ⟨b,o,none⟩=>(m.dD b (o+len*size) new).map fun m'=>(.slice base (len+n) cap,m')
     |none=>some (.slice none (len+n) cap,m)
     |_=>none
    else match kr m size len s with
     |some old=>if old.length=len*size then some (.slice (some ⟨m.next,0,none⟩) (len+n) fp,m.alloc {kind:=1,sz:=size,cs:=(old++new).map some})else none
     |none=>none
  |_,_,_=>none
 |_,_,_=>none
def xU (P:aD)(ly:Array aM)(d s:ae)(m:Mem):Option (ae×Mem):=
 match(ly[0]?).bind P.underlying,d with
 |some (.slice e),.slice base dl _=>
  match dV P e,B4 s with
  |some size,some sl=>
   match s with
   | .slice .. =>
    (kr m size (Nat.min sl dl) s).bind fun cells=>
     match base with
     |some ⟨b,o,none⟩=>(m.dD b o cells).map fun m'=>(goInt (Nat.min sl dl:Nat),m')
     |none=>some (goInt (Nat.min sl dl:Nat),m)
     |_=>none
   |_=>none
  |_,_=>none
 |_,_=>none
def mY (P:aD)(ly:Array aM)(x:ae)(m:Mem):Option (ae×Mem):=
 match(ly[0]?).bind P.underlying,x with
 |some (.slice e),.slice base n _=>
  match base with
  |none=>some (.tuple #[],m)
  |some ⟨b,o,none⟩=>
   if n=0 then some (.tuple #[],m)
   else(gO P e).bind fun z=>(m.dD b o (Builtin.zeroCells z.cells n).toList).map fun m'=>(.tuple #[],m')
  |_=>none
 |_,_=>none
def rC (P:aD)(t:aM)(xc yc:Bool)(x y:ae):Option Bool:=
 match P.underlying t,x,y with
 |some (.pointer _),.pointer none,.pointer b=>some b.isNone
 |some (.pointer _),.pointer (some _),.pointer none=>some false
 |some (.slice _),.slice none _ _,.slice b _ _=>some b.isNone
 |some (.slice _),.slice (some _) _ _,.slice none _ _=>some false
 |some (.interface _),.nilIface,.nilIface=>if xc||yc then some true else none
 |some (.interface _),.nilIface,.iface _ _=>some false
 |some (.interface _),.iface _ _,.nilIface=>some false
 |_,_,_=>none
def isConst:cd->Bool
 | .const _=>true
 |_=>false
def strKeys:List MapEntry->Bool
 | []=>true
 |e::es=>(match e.key with | .string _=>true|_=>false)&&strKeys es
def oO (s:ByteArray):List MapEntry->Nat->Option (Nat×ae)
 | [],_=>none
 |e::es,i=>match e.key with | .string k=>if s==k then some (i,e.val)else oO s es (i+1)|_=>none
def Ai (P:aD)(kt:aM)(k:ae):List MapEntry->Nat->Option (Option (Nat×ae))
 | [],_=>some none
 |e::es,i=>if plain e.key then(match(Op.equal kt k e.key).aI P with
  |some true=>some (some (i,e.val))
  |some false=>Ai P kt k es (i+1)
  |none=>none)else none
def yP (P:aD)(kt:aM)(b:Nat)(k:ae)(m:Mem):Option (Option (Nat×ae)):=
 if(m.blk b).kind==2&&m.bz b&&plain k&&(P.underlying kt).isSome&&((Instr.checkKey true 10000 kt k).aI P).isSome&&((Instr.checkKey false 10000 kt k).aI P).isSome then Ai P kt k (m.blk b).es.toList 0 else none
def rX (P:aD)(kt et:aM)(b:Nat)(k:ae)(ok:Bool)(m:Mem):Option ae:=
 match gO P et,yP P kt b k m with
 |some _,some (some (_,v))=>some (if ok then .tuple #[v,.bool true]else v)
 |some z,some none=>some (if ok then .tuple #[z,.bool false]else z)
 |_,_=>none
def tM (P:aD)(kt:aM)(b:Nat)(k v:ae)(m:Mem):Option Mem:=
 let q:=m.blk b
 match yP P kt b k m with
 |some (some (i,_))=>(match q.es.toList[i]? with
  |some e=>if plain e.key&&Instr.sameBits 10000 e.key k then some (m.aZ b {q with es:=q.es.modify i fun e=>{e with key:=k,val:=v}})else none
  |none=>none)
 |some none=>some (m.aZ b {q with es:=q.es.push {key:=k,val:=v,born:=q.clock},clock:=q.clock+1})
 |none=>none
def gW (P:aD)(t:aM)(x k:ae)(ok:Bool)(m:Mem):Option ae:=
 match P.underlying t,x,k with
 |some (.map kt et),.map r,.string s=>
  match P.underlying kt,gO P et with
  |some .string,some z=>
   match(match r with
    |none=>some #[]
    |some b=>let q:=m.blk b;if q.kind==2&&m.bz b then some q.es else none)with
   |some es=>if strKeys es.toList then
     let v:=match oO s es.toList 0 with |some (_,v)=>(v,true)|none=>(z,false)
     some (if ok then .tuple #[v.1,.bool v.2]else v.1)
    else none
   |none=>none
  |_,_=>none
 |some (.map kt et),.map (some b),.agg cs=>rX P kt et b (.agg cs) ok m
 |_,_,_=>none
def iV (P:aD)(t:aM)(x k v:ae)(m:Mem):Option Mem:=
 match P.underlying t,x,k with
 |some (.map kt _),.map (some b),.string s=>
  match P.underlying kt with
  |some .string=>
   let q:=m.blk b
   if q.kind==2&&m.bz b&&strKeys q.es.toList then
    match oO s q.es.toList 0 with
    |some (i,_)=>some (m.aZ b {q with es:=q.es.modify i fun e=>{e with key:=k,val:=v}})
    |none=>some (m.aZ b {q with es:=q.es.push {key:=k,val:=v,born:=q.clock},clock:=q.clock+1})
   else none
  |_=>none
 |some (.map kt _),.map (some b),.agg cs=>tM P kt b (.agg cs) v m
 |_,_,_=>none
def qh (P:aD)(x:ae)(t a:aM)(ok:Bool):Option ae:=
 match P.underlying a,x,ok with
 |some (.interface _),_,_=>none
 |some _,.nilIface,true=>(gO P a).map fun z=> .tuple #[z,.bool false]
 |some _,.iface d v,true=>if d=a then some (.tuple #[v,.bool true])else(gO P a).map fun z=> .tuple #[z,.bool false]
 |_,_,_=>none
def C3 (P:aD)(t:aM)(parts:List (Nat×ae)):Option ae:=
 match gO P t,P.underlying t with
 |some z,some (.struct fields)=>
  match fields.mapM (m:=Option) fun f=>(dV P f.type).map fun n=>(f.offset,n)with
  |some places=>(Instr.fill (places[·]?) z.cells parts).map .agg
  |none=>none
 |some z,some (.array _ e)=>(dV P e).bind fun n=>(Instr.fill (fun i=>some (i*n,n)) z.cells parts).map .agg
 |_,_=>none
def bI (P:aD)(t:aM)(len:Nat)(parts:List (Nat×ae))(m:Mem):Option (ae×Mem):=
 match P.underlying t with
 |some (.slice e)=>
  match dV P e,gO P e with
  |some size,some z=>
   if len*size>2^24\/fp<=len then none else
   (Instr.fill (fun i=>some (i*size,size)) ((Array.range (len*size)).map (z.cells[·%z.cells.size]!)) parts).map fun cs=>
    (.slice (some ⟨m.next,0,none⟩) len len,m.alloc {kind:=1,sz:=size,cs:=cs.toList.map some})
  |_,_=>none
 |_=>none
def fV (P:aD)(t:aM)(l c:ae)(m:Mem):Option (ae×Mem):=
 match P.underlying t,l,c with
 |some (.slice e),.int .i64 l,.int .i64 c=>
  match P.info? e,gO P e with
  |some i,some z=>
   if 0<=l/\l<=c/\c*i.bytes<=2^40/\c<=2^40 then
    some (.slice (some ⟨m.next,0,none⟩) l.toNat c.toNat,
     m.alloc {kind:=1,sz:=i.size,cs:=(((Array.range (c.toNat*i.size)).map (z.cells[·%z.cells.size]!)).toList.map some)})
   else none
  |_,_=>none
 |_,_,_=>none
def eU (P:aD)(s d:aM)(x:ae)(m:Mem):Option (ae×Mem):=
 match P.underlying s,P.underlying d,x with
 |some (.pointer t),some .unsafePointer,.pointer (some ⟨b,o,none⟩)=>
  let k:=m.blk b
  match dV P t with
  |some (_+1)=>if k.kind==1&&decide (o<k.cs.length)then some (x,m)else none
  |_=>none
 |some .string,some (.slice e),.string s=>
  match P.underlying e with
  |some (.int .u8)=>if s.size=0\/s.size>2^46 then none else
    some (.slice (some ⟨m.next,0,none⟩) s.size fp,m.alloc {kind:=1,sz:=1,cs:=s.data.toList.map fun b=>some (.int .u8 b.toNat)})
  |_=>none
 |some (.slice e),some .string,.slice a len _=>
  match P.underlying e,a with
  |some (.int .u8),none=>some (.string .empty,m)
  |some (.int .u8),some ⟨b,o,none⟩=>
   (m.dv b o len).bind fun l=>(l.mapM (m:=Option) fun v=>match v with | .int .u8 n=>some (UInt8.ofNat n.toNat)|_=>none).map fun bs=>(.string ⟨bs.toArray⟩,m)
  |_,_=>none
 |_,_,_=>none
def yG (P:aD)(t:aM)(x:ae)(m:Mem):Option (ae×Mem):=
 match P.underlying t,x with
 |some .string,.string s=>some (ptrTo m.next 0,m.alloc {kind:=3,str:=s,pos:=0})
 |_,_=>none
def EN (it:ae)(isS:Bool)(m:Mem):Option (ae×Mem):=
 match it,isS with
 | .pointer (some ⟨b,0,none⟩),true=>
  let k:=m.blk b
  if k.kind==3&&m.bz b then
   if k.pos<k.str.size then
    let d:=Utf8.decode k.str k.pos
    some (.tuple #[.bool true,goInt k.pos,.int .i32 d.1],m.aZ b {k with pos:=k.pos+d.2})
   else some (.tuple #[.bool false],m)
  else none
 |_,_=>none
def cX (P:aD)(ev:cd->ae)(o:im):Option ae:=
 if o.op.operands.all (fun x=>plain (ev x))then
  match(execOp ev o).aI P with
  |some (.value v)=>if plain v then some v else none
  |_=>none
 else none
def dN (P:aD)(recv:ae)(name:String):Option (Nat×ae):=
 match recv with
 | .iface t v=>
  match P.info? t,P.underlying t with
  |some i,some (.pointer _)=>
   match i.methods.find? (·.name==name)with
   |some mt=>match mt.path.toList,mt.func with
    | [],some (f,true)=>some (f,v)
    |_,_=>none
   |none=>none
  |_,_=>none
 |_=>none
def dp (P:aD)(ev:cd->ae)(o:im)(m:Mem):Option (ae×Mem):=
 match o.op with
 | .move x=>some (ev x,m)
 | .assign x=>some (ev x,m)
 | .pick c a b=>match ev c with | .bool t=>some (if t then ev a else ev b,m)|_=>none
 | .alloc e=>(gO P e).map fun z=>cz m 0 z.cells.toList
 | .box _ v=>some (cz m 0 (ev v).cells.toList)
 | .build t ps=>(C3 P t (ps.map fun(i,x)=>(i,ev x)).toList).map fun v=>(v,m)
 | .buildSlice t n ps=>bI P t n (ps.map fun(i,x)=>(i,ev x)).toList m
 | .load t a=>(j9 P t (ev a) m).map fun v=>(v,m)
 | .store t a x=>(vz P t (ev a) (ev x) m).map fun m'=>(undef,m')
 | .nilCheck x=>match ev x with
  | .pointer (some a)=>some (.pointer (some a),m)
  | .func (.method name) first cap=>match(first[0]?:Option ae)with
   |some r=>if(dN P r name).isSome then some (.func (.method name) first cap,m)else none
   |none=>none
  |_=>none
 | .binOp op t x y _=>
  match op with
  | .eql=>match rC P t (isConst x) (isConst y) (ev x) (ev y)with |some b=>some (.bool b,m)|none=>(cX P ev o).map fun v=>(v,m)
  | .neq=>match rC P t (isConst x) (isConst y) (ev x) (ev y)with |some b=>some (.bool (!b),m)|none=>(cX P ev o).map fun v=>(v,m)
  |_=>(cX P ev o).map fun v=>(v,m)
 | .unOp .. =>(cX P ev o).map fun v=>(v,m)
 | .convert s d x=>match eU P s d (ev x) m with |some r=>some r|none=>(cX P ev o).map fun v=>(v,m)
 | .makeInterface t x=>match P.underlying t with |some (.interface _)=>none|some _=>some (.iface t (ev x),m)|none=>none
 | .makeFunc fn f c=>some (.func fn (f.map ev) (c.map ev),m)
 | .makeMap _ none=>some (.map (some m.next),m.alloc {kind:=2})
 | .makeSlice t l c=>fV P t (ev l) (ev c) m
 | .slice t x lo hi none=>match iR P t (ev x) (lo.map ev) (hi.map ev) m with |some v=>some (v,m)|none=>(cX P ev o).map fun v=>(v,m)
 | .fieldAddr s x f=>(r9 P s (ev x) f).map fun v=>(v,m)
 | .field s x f=>(G9 P s (ev x) f).map fun v=>(v,m)
 | .indexAddr t x i=>(pC P t (ev x) (ev i)).map fun v=>(v,m)
 | .index t x i=>match vM P t (ev x) (ev i)with |some v=>some (v,m)|none=>(cX P ev o).map fun v=>(v,m)
 | .lookup t x i ok=>(gW P t (ev x) (ev i) ok m).map fun v=>(v,m)
 | .mapUpdate t x k v=>(iV P t (ev x) (ev k) (ev v) m).map fun m'=>(undef,m')
 | .typeAssert x t a ok=>(qh P (ev x) t a ok).map fun v=>(v,m)
 | .extract t i=>match ev t with | .tuple vs=>(vs[i]?).map fun v=>(v,m)|_=>none
 | .range t x=>yG P t (ev x) m
 | .next it s=>EN (ev it) s m
 | .call {callee:= .builtin b,args,argTypes}=>
  match b,args.toList with
  | .append,[s,x]=>cJ P argTypes (ev s) (ev x) m
  | .copy,[d,s]=>xU P argTypes (ev d) (ev s) m
  | .clear,[x]=>mY P argTypes (ev x) m
  | .len,[x]=>match(argTypes[0]?).bind P.underlying,ev x with
   |some (.slice _),.slice _ n _=>some (goInt n,m)
   |_,_=>(cX P ev o).map fun v=>(v,m)
  | .min,_=>(cX P ev o).map fun v=>(v,m)
  | .max,_=>(cX P ev o).map fun v=>(v,m)
  |_,_=>none
 |_=>none
structure Ext where
 disable:Nat
 enable:Nat
 acquire:Nat
 tE:Nat
 Fx:Nat
 Kd:Nat
 yv:Nat
 mD:Nat
 Fe:Nat
 Fc:Nat
def tZ (X:Ext)(f:Nat)(args:List ae)(m:Mem):Option (ae×Mem):=
 if f=X.disable then(match args with | []=>some (.tuple #[],{m with deaf:=m.deaf+1})|_=>none)
 else if f=X.enable then(match args with | []=>some (.tuple #[],{m with deaf:=m.deaf-1})|_=>none)
 else if f=X.acquire then(match args with | [.pointer (some ⟨_,_,none⟩)]=>some (.tuple #[],m)|_=>none)
 else if f=X.tE then(match args with | [.pointer (some ⟨_,_,none⟩)]=>some (.tuple #[],m)|_=>none)
 else if f=X.Fx then
  (match args with
   | [.pointer (some ⟨b,o,none⟩),.int .i32 x,.int .i32 y]=>
    match m.dv b o 1 with
    |some [.int .i32 v]=>if v=x then(m.dD b o [.int .i32 y]).map fun m'=>(.bool true,m')else if m.base<=b then some (.bool false,m)else none
    |_=>none
   |_=>none)
 else if f=X.Kd then
  (match args with
   | [.pointer (some ⟨b,o,none⟩),.int .i32 y]=>
    match m.dv b o 1 with
    |some [.int .i32 v]=>(m.dD b o [.int .i32 (bX.i32.wrap (v+y))]).map fun m'=>(.int .i32 (bX.i32.wrap (v+y)),m')
    |_=>none
   |_=>none)
 else none
abbrev bJ:=Nat->List ae->Mem->Option (ae×Mem)
def rS (X:Ext)(dw:ae)(m:Mem):Option (Nat×Nat×Nat):=
 match dw with
 | .func (.func f) _ cap=>
  if f=X.Fe\/f=X.Fc then
   match(cap[0]?:Option ae),(cap[1]?:Option ae)with
   |some (.pointer (some ⟨pb,po,none⟩)),some (.pointer (some ⟨ib,io,none⟩))=>
    match m.dv pb po 1,m.dv ib io 1 with
    |some [.pointer (some ⟨d,o,none⟩)],some [.int .i64 i]=>if 0<=i then some (d,o,i.toNat)else none
    |_,_=>none
   |_,_=>none
  else none
 |_=>none
def z6 (m:Mem)(d o j:Nat):Option (List Span):=
 match m.dv d (o+2*j) 1 with
 |some [.slice (some ⟨b,_,none⟩) _ _]=>some [(d,d+1,some (o+2*j)),(d,d+1,some (o+2*j+1)),(b,b+1,none)]
 |some [.slice none _ _]=>some [(d,d+1,some (o+2*j)),(d,d+1,some (o+2*j+1))]
 |_=>none
def oI (m:Mem)(d o:Nat):Nat->Option (List Span)
 |0=>some []
 |j+1=>match oI m d o j,z6 m d o j with
  |some l,some l'=>some (l'++l)
  |_,_=>none
def vJ (m:Mem)(s:Span):Bool:=
 decide (s.2.1=s.1+1)&&decide (m.base<=s.1)&&decide (m.floor<=s.1)&&decide (s.1<m.next)&&(m.blk s.1).kind==1&&
  (match s.2.2 with |some o=>(((m.blk s.1).cs[o]?).any (·.isSome))|none=>(m.blk s.1).cs.all (·.isSome))
def jw:List Span->Bool
 | []=>true
 |s::l=>(l.all fun t=>s.1 !=t.1||(match s.2.2,t.2.2 with |some x,some y=>x !=y|_,_=>false))&&jw l
def A5 (call:bJ)(fv:ae)(args:List ae)(m:Mem):Option (ae×Mem):=
 match fv with
 | .func (.func f) first cap=>call f (first.toList++args++cap.toList) m
 |_=>none
def lq (w d o:Nat)(m:Mem):Option Mem:=
 match m.wg with
 |some w'=>if w=w' then some m else none
 |none=>match m.dv w 0 2,oI m d o 4 with
  |some [.int .u64 0,.int .u32 0],some l=>
   if m.cP w 0 2&&m.fq w&&(m.blk w).pos==1&&decide ((m.blk w).cs.length=2)&&decide (m.bB=[])&&decide (m.opn=[])&&decide (m.pend=[])&&decide (m.floor=m.base)&&l.all (fun s=>vJ m s&&s.1 !=w)&&jw l
   then some {m.aZ w {}with wg:=some w,opn:=l,floor:=m.next}else none
  |_,_=>none
def wo (s t:Span):Bool:=Nat.ble s.2.1 t.1||Nat.ble t.2.1 s.1||(match s.2.2,t.2.2 with |some x,some y=>x !=y|_,_=>false)
def vA (X:Ext)(gJ:bJ)(args:List ae)(m:Mem):Option (ae×Mem):=
 match args with
 | [.pointer (some ⟨w,0,none⟩),dw]=>
  match rS X dw m with
  |some (d,o,i)=>
   match lq w d o m with
   |some aV=>
    let m:=(cz (cz aV 0 [ptrTo w 0]).2 0 [dw]).2
    match z6 m d o i with
    |some l=>
     let rest:=m.opn.filter fun s=>!l.contains s
     if m.deaf=0/\m.pend.length<4/\(l.all fun s=>m.opn.contains s)=true/\jw l=true/\(l.all fun s=>(rest++m.bB).all (wo s))=true/\((rest++l).all fun t=>Nat.ble t.2.1 aV.next)=true/\(l.all fun s=>Nat.beq s.2.1 (s.1+1)&&Nat.beq (m.blk s.1).kind 1)=true then
      match A5 gJ dw [] {m with home:=m.next,floor:=m.next,opn:=l,bB:=rest++m.bB,wg:=none,pend:=[]}with
      |some (_,m2)=>if m2.deaf=0 then
        some (.tuple #[],{m2 with home:=m.home,floor:=m2.next,opn:=rest,wg:=m.wg,bB:=(m.next,m2.next,none)::(l++m.bB),pend:={lo:=m.next,hi:=m2.next,oJ:=l,bB:=rest++m.bB,heap:=m2.heap}::m.pend})
       else none
      |none=>none
     else none
    |none=>none
   |none=>none
  |none=>none
 |_=>none
def EX (args:List ae)(m:Mem):Option (ae×Mem):=
 match args,m.wg with
 | [.pointer (some ⟨w,0,none⟩)],some w'=>if w=w'/\m.deaf=0/\m.opn=[]/\Nat.ble m.base m.next=true then some (.tuple #[],{m with bB:=[],floor:=m.base,wg:=none,pend:=[]})else none
 |_,_=>none
def fh (o:im):Bool:=
 match o.op with
 | .move _| .assign _| .pick .. | .fieldAddr .. | .field .. | .extract .. | .unOp .. | .binOp .. | .makeInterface .. | .makeFunc .. | .typeAssert .. | .nilCheck _
 | .index .. | .indexAddr .. | .slice .. | .build .. | .load .. | .lookup .. | .alloc _| .box .. | .buildSlice .. | .makeSlice .. | .makeMap .. =>true
 | .call {callee:= .builtin b,.. }=>match b with | .len| .min| .max=>true|_=>false
 |_=>false
def aF (ops:Array im):List Nat:=(List.range ops.size).filter fun i=>(ops[i]?).any fun o=>!fh o
def xX (bH:Array Nat):List Nat->Bool
 |a::b::l=>(bH.getD b 0).testBit a&&xX bH (b::l)
 |_=>true
def cK (bH:Array Nat)(hs:List Nat)(i:Nat):Nat:=(hs.filter fun h=>(bH.getD i 0).testBit h).length
def q0 (bH:Array Nat)(hs:List Nat)(i:Nat):Nat:=(hs.filter fun h=> !(bH.getD h 0).testBit i).length
def kF (ops:Array im)(o:im):List Tmp:=
 (o.op.operands.toList.filterMap fun x=>match x with | .tmp t=>some t|_=>none)++(match o.guard with |some (g,_)=>((ops[g]?).bind (·.dst)).toList|none=>[])
def tidy (ops:Array im)(bH:Array Nat):Bool:=
 (List.range ops.size).all fun i=>(List.range ops.size).all fun j=>
  match ops[i]?,ops[j]? with
  |some x,some y=>(match y.dst with
   |some d=>(i==j||x.dst !=some d)&&(!(kF ops x).contains d||((bH.getD i 0).testBit j||(bH.getD j 0).testBit i))
   |none=>true)
  |_,_=>true
theorem vc {p:Prop}[Decidable p](h:p):decide p=true:=decide_eq_true h
theorem qV {p:Prop}[Decidable p](h:¬p):decide p=false:=decide_eq_false h
theorem jE {p:Prop}[Decidable p]:(decide p=true)=p:=decide_eq_true_eq
theorem bK.{u}{c:Prop}{h:Decidable c}(hc:c){α:Sort u}{t e:α}:ite c t e=t:=if_pos hc
theorem bZ.{u}{c:Prop}{h:Decidable c}(hc:¬c){α:Sort u}{t e:α}:ite c t e=e:=if_neg hc
theorem aj {p:Prop}(h:p:=by omega):p:=h
theorem nZ {p:Prop}(h:p:=by assumption):p:=h
theorem cY {p:Prop}(h:p:=by simp):p:=h
theorem gC {p:Prop}(h:p:=by decide):p:=h
theorem nU {p:Prop}(h:p:=by intro h;cases h):p:=h
theorem W0 {p:Prop}(h:p:=by refine And.intro ?_ cY;intro x hx;first |(cases hx;done)|(obtain⟨y,_,hy⟩:=List.mem_map.1 hx;rw[<-hy];simp)):p:=h
end Go.AM
namespace Go.AM
open Go
def bC {α β:Type}(R:α->β->Prop):List α->List β->Prop
 | [],[]=>True
 |a::l,b::r=>R a b/\bC R l r
 |_,_=>False
section
variable {α β γ:Type}{R S:α->β->Prop}
theorem bC.length{l:List α}{r:List β}(h:bC R l r):l.length=r.length:=by
 induction l generalizing r with
 |nil=>cases r<;>simp_all [bC]
 |cons a l ih=>cases r with
  |nil=>exact h.elim
  |cons b r=>simp[ih h.2]
theorem bC.mono{l:List α}{r:List β}(h:bC R l r)(hs:∀a b,R a b->S a b):bC S l r:=by
 induction l generalizing r with
 |nil=>cases r<;>simp_all [bC]
 |cons a l ih=>cases r with
  |nil=>exact h.elim
  |cons b r=>exact⟨hs _ _ h.1,ih h.2⟩
theorem bC.get{l:List α}{r:List β}(h:bC R l r){i:Nat}{a:α}(ha:l[i]?=some a):∃b,r[i]?=some b/\R a b:=by
 induction l generalizing r i with
 |nil=>simp at ha
 |cons x l ih=>cases r with
  |nil=>exact h.elim
  |cons b r=>cases i with
   |zero=>simp at ha;subst ha;exact⟨b,rfl,h.1⟩
   |succ i=>simp at ha;simpa using ih h.2 ha
theorem bC.get'{l:List α}{r:List β}(h:bC R l r){i:Nat}{b:β}(hb:r[i]?=some b):∃a,l[i]?=some a/\R a b:=by
 induction l generalizing r i with
 |nil=>cases r<;>simp_all [bC]
 |cons x l ih=>cases r with
  |nil=>exact h.elim
  |cons y r=>cases i with
   |zero=>simp at hb;subst hb;exact⟨x,rfl,h.1⟩
   |succ i=>simp at hb;simpa using ih h.2 hb
theorem bC.Gn{l:List α}{r:List β}(hl:l.length=r.length)(h:∀(i:Nat) a b,l[i]?=some a->r[i]?=some b->R a b):bC R l r:=by
 induction l generalizing r with
 |nil=>cases r<;>simp_all [bC]
 |cons x l ih=>cases r with
  |nil=>simp at hl
  |cons y r=>exact⟨h 0 _ _ rfl rfl,ih (by simpa using hl) fun i a b ha hb=>h (i+1) a b (by simpa using ha) (by simpa using hb)⟩
theorem bC.append{l Gx:List α}{r aeB:List β}(h:bC R l r)(AF:bC R Gx aeB):bC R (l++Gx) (r++aeB):=by
 induction l generalizing r with
 |nil=>cases r<;>simp_all [bC]
 |cons a l ih=>cases r with
  |nil=>exact h.elim
  |cons b r=>exact⟨h.1,ih h.2⟩
theorem bC.px{δ:Type}{f:δ->α}{g:δ->β}{l:List δ}(h:∀x∈l,R (f x) (g x)):bC R (l.map f) (l.map g):=by
 induction l with
 |nil=>trivial
 |cons a l ih=>exact⟨h a cY,ih fun x hx=>h x (by simp[hx])⟩
theorem bC.set{l:List α}{r:List β}(h:bC R l r){a:α}{b:β}(Ox:R a b)(i:Nat):bC R (l.set i a) (r.set i b):=by
 induction l generalizing r i with
 |nil=>cases r<;>simp_all [bC]
 |cons x l ih=>cases r with
  |nil=>exact h.elim
  |cons y r=>cases i with
   |zero=>exact⟨Ox,h.2⟩
   |succ i=>exact⟨h.1,ih h.2 i⟩
theorem bC.drop{l:List α}{r:List β}(h:bC R l r)(i:Nat):bC R (l.drop i) (r.drop i):=by
 induction l generalizing r i with
 |nil=>cases r<;>simp_all [bC]
 |cons x l ih=>cases r with
  |nil=>exact h.elim
  |cons y r=>cases i with
   |zero=>exact h
   |succ i=>exact ih h.2 i
theorem bC.take{l:List α}{r:List β}(h:bC R l r)(i:Nat):bC R (l.take i) (r.take i):=by
 induction l generalizing r i with
 |nil=>cases r<;>simp_all [bC]
 |cons x l ih=>cases r with
  |nil=>exact h.elim
  |cons y r=>cases i with
   |zero=>trivial
   |succ i=>exact⟨h.1,ih h.2 i⟩
theorem bC.refl{R:α->α->Prop}{l:List α}(h:∀a∈l,R a a):bC R l l:=by
 induction l with
 |nil=>trivial
 |cons a l ih=>exact⟨h a cY,ih fun x hx=>h x (by simp[hx])⟩
theorem bC.getD{l:List α}{r:List β}(h:bC R l r){a:α}{b:β}(Ox:R a b)(i:Nat):R (l.getD i a) (r.getD i b):=by
 simp only[List.getD_eq_getElem?_getD];cases hl:l[i]? with
 |none=>
  have :r[i]?=none:=by
   have :=h.length;simp only[List.getElem?_eq_none_iff]at*;omega
  simp[this,Ox]
 |some x=>
  obtain⟨y,hy,Ko⟩:=h.get hl;simp[hy,Ko]
end
structure Pl where
 c:Nat
 d:Nat
 room:Nat
 sz:Nat
abbrev cZ:=Nat->Option Pl
def cZ.le(ρ bq:cZ):Prop:=∀b p,ρ b=some p->bq b=some p
theorem cZ.le_refl(ρ:cZ):ρ.le ρ:=fun _ _ h=>h
theorem cZ.le_trans{ρ Bc eY:cZ}(h:ρ.le Bc)(h':Bc.le eY):ρ.le eY:=fun b p x=>h' b p (h b p x)
def VR (ρ:cZ):Nat->ae->ae->Prop
 |0,_,_=>False
 |n+1,v,v'=>
  match v with
  | .pointer (some a)=>∃p,ρ a.block=some p/\a.spot=none/\v'= .pointer (some ⟨p.c,p.d+a.off,none⟩)
  | .slice (some a) len cap=>∃p ig,ρ a.block=some p/\a.spot=none/\v'= .slice (some ⟨p.c,p.d+a.off,none⟩) len ig/\(if cap=fp then len<=ig/\a.off+ig*p.sz<=p.room else ig=cap)
  | .map (some r)=>∃p,ρ r=some p/\v'= .map (some p.c)
  | .func fn f c=>∃f' c',v'= .func fn f' c'/\bC (VR ρ n) f.toList f'.toList/\bC (VR ρ n) c.toList c'.toList
  | .iface t x=>∃x',v'= .iface t x'/\VR ρ n x x'
  | .agg cs=>∃gL,v'= .agg gL/\bC (VR ρ n) cs.toList gL.toList
  | .tuple cs=>∃gL,v'= .tuple gL/\bC (VR ρ n) cs.toList gL.toList
  |v=>v'=v
def aP (ρ:cZ)(v v':ae):Prop:=∃n,VR ρ n v v'
section
variable {ρ bq:cZ}
theorem VR.more:∀{n:Nat}{v v':ae},VR ρ n v v'->VR ρ (n+1) v v':=by
 intro n
 induction n with
 |zero=>intro v v' h;exact h.elim
 |succ n ih=>
  intro v v' h;cases v with
  |pointer a=>cases a<;>exact h
  |slice a l c=>cases a<;>exact h
  |map r=>cases r<;>exact h
  |func fn f c=>
   obtain⟨f',c',e,h1,h2⟩:=h;exact⟨f',c',e,h1.mono fun _ _=>ih,h2.mono fun _ _=>ih⟩
  |iface t x=>obtain⟨x',e,h⟩:=h;exact⟨x',e,ih h⟩
  |agg cs=>obtain⟨x',e,h⟩:=h;exact⟨x',e,h.mono fun _ _=>ih⟩
  |tuple cs=>obtain⟨x',e,h⟩:=h;exact⟨x',e,h.mono fun _ _=>ih⟩
  |_=>exact h
theorem VR.le{n m:Nat}(h:n<=m){v v':ae}(hv:VR ρ n v v'):VR ρ m v v':=by
 induction h with
 |refl=>exact hv
 |step _ ih=>exact ih.more
theorem VR.iA(h:ρ.le bq):∀{n:Nat}{v v':ae},VR ρ n v v'->VR bq n v v':=by
 intro n
 induction n with
 |zero=>intro v v' h;exact h.elim
 |succ n ih=>
  intro v v' hv;cases v with
  |pointer a=>cases a with
   |none=>exact hv
   |some a=>obtain⟨p,h1,h2⟩:=hv;exact⟨p,h _ _ h1,h2⟩
  |slice a l c=>cases a with
   |none=>exact hv
   |some a=>obtain⟨p,c',h1,h2⟩:=hv;exact⟨p,c',h _ _ h1,h2⟩
  |map r=>cases r with
   |none=>exact hv
   |some a=>obtain⟨p,h1,h2⟩:=hv;exact⟨p,h _ _ h1,h2⟩
  |func fn f c=>
   obtain⟨f',c',e,h1,h2⟩:=hv;exact⟨f',c',e,h1.mono fun _ _=>ih,h2.mono fun _ _=>ih⟩
  |iface t x=>obtain⟨x',e,h⟩:=hv;exact⟨x',e,ih h⟩
  |agg cs=>obtain⟨x',e,h⟩:=hv;exact⟨x',e,h.mono fun _ _=>ih⟩
  |tuple cs=>obtain⟨x',e,h⟩:=hv;exact⟨x',e,h.mono fun _ _=>ih⟩
  |_=>exact hv
theorem aP.iA(h:ρ.le bq){v v':ae}(hv:aP ρ v v'):aP bq v v':=let⟨n,x⟩:=hv;⟨n,x.iA h⟩
theorem uE {l r:List ae}(h:bC (aP ρ) l r):∃n,bC (VR ρ n) l r:=by
 induction l generalizing r with
 |nil=>exact⟨0,by cases r<;>simp_all [bC]⟩
 |cons a l ih=>cases r with
  |nil=>exact h.elim
  |cons b r=>
   obtain⟨n,hn⟩:=h.1;obtain⟨k,hk⟩:=ih h.2;exact⟨max n k,hn.le (Nat.le_max_left _ _),hk.mono fun _ _=>VR.le (Nat.le_max_right _ _)⟩
theorem uA {n:Nat}{l r:List ae}(h:bC (VR ρ n) l r):bC (aP ρ) l r:=h.mono fun _ _ x=>⟨n,x⟩
theorem gQ {cs:Array ae}{v':ae}:aP ρ (.agg cs) v'↔∃gL,v'= .agg gL/\bC (aP ρ) cs.toList gL.toList:=by
 constructor
 ·rintro⟨n,h⟩;cases n with
  |zero=>exact h.elim
  |succ n=>obtain⟨gL,e,h⟩:=h;exact⟨gL,e,uA h⟩
 ·rintro⟨gL,e,h⟩;obtain⟨n,h⟩:=uE h;exact⟨n+1,gL,e,h⟩
theorem dQ {cs:Array ae}{v':ae}:aP ρ (.tuple cs) v'↔∃gL,v'= .tuple gL/\bC (aP ρ) cs.toList gL.toList:=by
 constructor
 ·rintro⟨n,h⟩;cases n with
  |zero=>exact h.elim
  |succ n=>obtain⟨gL,e,h⟩:=h;exact⟨gL,e,uA h⟩
 ·rintro⟨gL,e,h⟩;obtain⟨n,h⟩:=uE h;exact⟨n+1,gL,e,h⟩
theorem fQ {t:aM}{x v':ae}:aP ρ (.iface t x) v'↔∃x',v'= .iface t x'/\aP ρ x x':=by
 constructor
 ·rintro⟨n,h⟩;cases n with
  |zero=>exact h.elim
  |succ n=>obtain⟨gL,e,h⟩:=h;exact⟨gL,e,n,h⟩
 ·rintro⟨gL,e,n,h⟩;exact⟨n+1,gL,e,h⟩
theorem fO {fn:Fn}{f c:Array ae}{v':ae}:aP ρ (.func fn f c) v'↔∃f' c',v'= .func fn f' c'/\bC (aP ρ) f.toList f'.toList/\bC (aP ρ) c.toList c'.toList:=by
 constructor
 ·rintro⟨n,h⟩;cases n with
  |zero=>exact h.elim
  |succ n=>obtain⟨f',c',e,h,h2⟩:=h;exact⟨f',c',e,uA h,uA h2⟩
 ·rintro⟨f',c',e,h,h2⟩;obtain⟨n,h⟩:=uE h;obtain⟨k,h2⟩:=uE h2;exact⟨max n k+1,f',c',e,h.mono fun _ _=>VR.le (Nat.le_max_left _ _),h2.mono fun _ _=>VR.le (Nat.le_max_right _ _)⟩
theorem cH {a:Addr}{v':ae}:aP ρ (.pointer (some a)) v'↔∃p,ρ a.block=some p/\a.spot=none/\v'= .pointer (some ⟨p.c,p.d+a.off,none⟩):=by
 constructor
 ·rintro⟨n,h⟩;cases n with
  |zero=>exact h.elim
  |succ n=>exact h
 ·intro h;exact⟨1,h⟩
theorem bU {a:Addr}{len cap:Nat}{v':ae}:aP ρ (.slice (some a) len cap) v'↔∃p ig,ρ a.block=some p/\a.spot=none/\v'= .slice (some ⟨p.c,p.d+a.off,none⟩) len ig/\(if cap=fp then len<=ig/\a.off+ig*p.sz<=p.room else ig=cap):=by
 constructor
 ·rintro⟨n,h⟩;cases n with
  |zero=>exact h.elim
  |succ n=>exact h
 ·intro h;exact⟨1,h⟩
theorem gP {r:Nat}{v':ae}:aP ρ (.map (some r)) v'↔∃p,ρ r=some p/\v'= .map (some p.c):=by
 constructor
 ·rintro⟨n,h⟩;cases n with
  |zero=>exact h.elim
  |succ n=>exact h
 ·intro h;exact⟨1,h⟩
theorem aG {v v':ae}(hv:cG v=true):aP ρ v v'↔v'=v:=by
 constructor
 ·rintro⟨n,h⟩;cases n with
  |zero=>exact h.elim
  |succ n=>cases v with
   |pointer a=>cases a<;>simp_all [cG,VR]
   |slice a l c=>cases a<;>simp_all [cG,VR]
   |map a=>cases a<;>simp_all [cG,VR]
   |_=>first |exact h|(simp[cG]at hv)
 ·intro h;refine⟨1,?_⟩;cases v with
  |pointer a=>cases a<;>simp_all [cG,VR]
  |slice a l c=>cases a<;>simp_all [cG,VR]
  |map a=>cases a<;>simp_all [cG,VR]
  |_=>first |exact h|(simp[cG]at hv)
theorem nG {l r:List ae}(hl:l.all cG=true)(h:bC (aP ρ) l r):r=l:=by
 induction l generalizing r with
 |nil=>cases r<;>simp_all [bC]
 |cons a l ih=>cases r with
  |nil=>exact h.elim
  |cons b r=>
   simp only[List.all_cons,ag]at hl;rw[(aG hl.1).1 h.1,ih hl.2 h.2]
theorem gS {l:List ae}(hl:l.all cG=true):bC (aP ρ) l l:=by
 refine bC.refl fun a ha=>(aG ?_).2 rfl
 exact aE.1 hl a ha
theorem mG {v v':ae}(hv:plain v=true)(h:aP ρ v v'):v'=v:=by
 cases v with
 |agg cs=>
  obtain⟨gL,e,h2⟩:=gQ.1 h;have :=nG hv h2;rw[e,Array.ext' this]
 |tuple cs=>
  obtain⟨gL,e,h2⟩:=dQ.1 h;have :=nG hv h2;rw[e,Array.ext' this]
 |_=>exact(aG (by exact hv)).1 h
theorem bM {v:ae}(hv:plain v=true):aP ρ v v:=by
 cases v with
 |agg cs=>exact gQ.2 ⟨cs,rfl,gS hv⟩
 |tuple cs=>exact dQ.2 ⟨cs,rfl,gS hv⟩
 |_=>exact(aG (by exact hv)).2 rfl
theorem mF:aP ρ undef undef:=bM rfl
theorem jT:aP ρ (.tuple #[]) (.tuple #[]):=bM rfl
theorem aP.cells{v v':ae}(h:aP ρ v v'):bC (aP ρ) v.cells.toList v'.cells.toList:=by
 cases v with
 |agg cs=>obtain⟨gL,e,h2⟩:=gQ.1 h;subst e;exact h2
 |tuple cs=>obtain⟨gL,rfl,_⟩:=dQ.1 h;exact⟨h,trivial⟩
 |iface t x=>obtain⟨x',rfl,_⟩:=fQ.1 h;exact⟨h,trivial⟩
 |func fn f c=>obtain⟨f',c',rfl,_⟩:=fO.1 h;exact⟨h,trivial⟩
 |pointer a=>cases a with
  |none=>have :=(aG (by rfl)).1 h;subst this;exact⟨h,trivial⟩
  |some a=>obtain⟨p,_,_,rfl⟩:=cH.1 h;exact⟨h,trivial⟩
 |slice a l c=>cases a with
  |none=>have :=(aG (by rfl)).1 h;subst this;exact⟨h,trivial⟩
  |some a=>obtain⟨p,c',_,_,rfl,_⟩:=bU.1 h;exact⟨h,trivial⟩
 |map r=>cases r with
  |none=>have :=(aG (by rfl)).1 h;subst this;exact⟨h,trivial⟩
  |some a=>obtain⟨p,_,rfl⟩:=gP.1 h;exact⟨h,trivial⟩
 |bool b=>have :=(aG (by rfl)).1 h;subst this;exact⟨h,trivial⟩
 |int k n=>have :=(aG (by rfl)).1 h;subst this;exact⟨h,trivial⟩
 |string s=>have :=(aG (by rfl)).1 h;subst this;exact⟨h,trivial⟩
 |nilFunc=>have :=(aG (by rfl)).1 h;subst this;exact⟨h,trivial⟩
 |nilIface=>have :=(aG (by rfl)).1 h;subst this;exact⟨h,trivial⟩
 |float k b=>obtain⟨n,h'⟩:=h;cases n with |zero=>exact h'.elim|succ n=>have e:v'=_:=h';subst e;exact⟨⟨1,rfl⟩,trivial⟩
 |complex k a b=>obtain⟨n,h'⟩:=h;cases n with |zero=>exact h'.elim|succ n=>have e:v'=_:=h';subst e;exact⟨⟨1,rfl⟩,trivial⟩
 |chan r=>obtain⟨n,h'⟩:=h;cases n with |zero=>exact h'.elim|succ n=>have e:v'=_:=h';subst e;exact⟨⟨1,rfl⟩,trivial⟩
theorem aP.NC{v v':ae}(h:aP ρ v v')(hv:v.oneCell'=true):v'.oneCell'=true:=by
 cases v with
 |agg cs=>simp[ae.oneCell']at hv
 |tuple cs=>simp[ae.oneCell']at hv
 |iface t x=>obtain⟨x',rfl,_⟩:=fQ.1 h;rfl
 |func fn f c=>obtain⟨f',c',rfl,_⟩:=fO.1 h;rfl
 |pointer a=>cases a with
  |none=>have :=(aG (by rfl)).1 h;subst this;rfl
  |some a=>obtain⟨p,_,_,rfl⟩:=cH.1 h;rfl
 |slice a l c=>cases a with
  |none=>have :=(aG (by rfl)).1 h;subst this;rfl
  |some a=>obtain⟨p,c',_,_,rfl,_⟩:=bU.1 h;rfl
 |map r=>cases r with
  |none=>have :=(aG (by rfl)).1 h;subst this;rfl
  |some a=>obtain⟨p,_,rfl⟩:=gP.1 h;rfl
 |_=>obtain⟨n,h'⟩:=h;cases n with |zero=>exact h'.elim|succ n=>have e:v'=_:=h';subst e;exact hv
end
end Go.AM
namespace Go.AM
open Go
theorem P4 {α:Type}(d:α)(l:List α)(i:Nat)(v:α)(j:Nat):BZ d (Gz d l i v) j=if i=j then v else BZ d l j:=by
 induction l generalizing i j with
 |nil=>
  induction i generalizing j with
  |zero=>cases j<;>simp[Gz,BZ]
  |succ i ih=>cases j with
   |zero=>simp[Gz,BZ]
   |succ j=>simp[Gz,BZ,ih]
 |cons x l ih=>
  cases i with
  |zero=>cases j<;>simp[Gz,BZ]
  |succ i=>cases j<;>simp[Gz,BZ,ih]
theorem V4 (n:Hp4)(b:Nat)(k:dU)(b':Nat)(h:b / 4096=b' / 4096):V6 (abv n b k) b'=if b=b' then k else V6 n b':=by
 have d (x k:Nat):rO x k=x / k%8:=rfl;have e (x:Nat):Nat.mod x 8=x%8:=rfl;have l (x k:Nat):rO x k<8:=by rw[d];omega
 have l' (x:Nat):Nat.mod x 8<8:=by rw[e];omega
 unfold V6 abv;rw[N8.get_put _ _ (l ..) (l ..)]
 by_cases h1:rO b 512=rO b' 512
 ·rw[bK h1,N8.get_put _ _ (l ..) (l ..)]
  by_cases h2:rO b 64=rO b' 64
  ·rw[bK h2,N8.get_put _ _ (l ..) (l ..)]
   by_cases h3:rO b 8=rO b' 8
   ·rw[bK h3,N8.get_put _ _ (l' ..) (l' ..),h1,h2,h3]
    by_cases h4:Nat.mod b 8=Nat.mod b' 8
    ·rw[bK h4,bK (by simp only[d,e]at h1 h2 h3 h4;omega)]
    ·rw[bZ h4,bZ (by rintro rfl;exact h4 rfl)]
   ·rw[bZ h3,bZ (by rintro rfl;exact h3 rfl),h1,h2]
  ·rw[bZ h2,bZ (by rintro rfl;exact h2 rfl),h1]
 ·rw[bZ h1,bZ (by rintro rfl;exact h1 rfl)]
theorem j8.get_put(h:j8)(b:Nat)(k:dU)(b':Nat):(h.put b k).get b'=if b=b' then k else h.get b':=by
 unfold j8.get j8.put;rw[P4]
 by_cases h1:Nat.div b 4096=Nat.div b' 4096
 ·rw[bK h1,V4 _ _ _ _ h1,h1]
 ·rw[bZ h1,bZ (by rintro rfl;exact h1 rfl)]
theorem Mem.dy(m:Mem)(b:Nat)(k:dU)(b':Nat):(m.aZ b k).blk b'=if b=b' then{k with a9:=m.tick}else m.blk b':=j8.get_put ..
theorem Mem.cf(m:Mem)(k:dU)(b':Nat):(m.alloc k).blk b'=if m.next=b' then{k with a9:=m.tick}else m.blk b':=j8.get_put ..
section
variable (m:Mem)(b:Nat)(k:dU)
@[simp] theorem Mem.Z2:(m.aZ b k).next=m.next:=rfl
@[simp] theorem Mem.Z0:(m.aZ b k).tick=m.tick+1:=rfl
@[simp] theorem Mem.Z5:(m.aZ b k).base=m.base:=rfl
@[simp] theorem Mem.Z3:(m.aZ b k).home=m.home:=rfl
@[simp] theorem Mem.XS:(m.aZ b k).floor=m.floor:=rfl
@[simp] theorem Mem.abh:(m.aZ b k).opn=m.opn:=rfl
@[simp] theorem Mem.Lb:(m.aZ b k).bB=m.bB:=rfl
@[simp] theorem Mem.aeh:(m.aZ b k).wg=m.wg:=rfl
@[simp] theorem Mem.Z1:(m.aZ b k).pend=m.pend:=rfl
@[simp] theorem Mem.Z4:(m.aZ b k).deaf=m.deaf:=rfl
@[simp] theorem Mem.adW:(m.alloc k).next=m.next+1:=rfl
@[simp] theorem Mem.adU:(m.alloc k).tick=m.tick+1:=rfl
@[simp] theorem Mem.adZ:(m.alloc k).base=m.base:=rfl
@[simp] theorem Mem.adX:(m.alloc k).home=m.home:=rfl
@[simp] theorem Mem.aaQ:(m.alloc k).floor=m.floor:=rfl
@[simp] theorem Mem.aei:(m.alloc k).opn=m.opn:=rfl
@[simp] theorem Mem.aej:(m.alloc k).bB=m.bB:=rfl
@[simp] theorem Mem.aiC:(m.alloc k).wg=m.wg:=rfl
@[simp] theorem Mem.adV:(m.alloc k).pend=m.pend:=rfl
@[simp] theorem Mem.adY:(m.alloc k).deaf=m.deaf:=rfl
end
theorem qJ {l:List (Option ae)}{n:Nat}{vs:List ae}(h:fY l n=some vs):vs.length=n/\∀i:Nat,i<n->∃v,l[i]?=some (some v)/\vs[i]?=some v:=by
 induction n generalizing l vs with
 |zero=>
  have :vs=[]:=by cases l<;>simpa[fY]using h.symm
  subst this;exact⟨rfl,fun i hi=>by omega⟩
 |succ n ih=>
  cases l with
  |nil=>simp[fY]at h
  |cons x l=>cases x with
   |none=>simp[fY]at h
   |some v=>
    simp only[fY,aB]at h;obtain⟨r,hr,rfl⟩:=h;obtain⟨h1,h2⟩:=ih hr;refine⟨by simp[h1],fun i hi=>?_⟩;cases i with
    |zero=>exact⟨v,cY,cY⟩
    |succ i=>simpa using h2 i aj
theorem lT {l:List (Option ae)}{o:Nat}{vs:List ae}{l':List (Option ae)}(h:eB l o vs=some l'):
  l'.length=l.length/\(∀i:Nat,l'[i]?=if o<=i/\i<o+vs.length then(vs[i-o]?).map some else l[i]?)/\(∀i:Nat,i<vs.length->∃v,l[o+i]?=some (some v)):=by
 induction l generalizing o vs l' with
 |nil=>
  cases vs with
  |nil=>
   simp[eB]at h;subst h;exact⟨rfl,fun i=>by simp,fun i hi=>by simp at hi⟩
  |cons v vs=>cases o<;>simp[eB]at h
 |cons x l ih=>
  cases vs with
  |nil=>
   simp[eB]at h;subst h;refine⟨rfl,fun i=>?_,fun i hi=>by simp at hi⟩;simp;omega
  |cons v vs=>
   cases o with
   |zero=>
    cases x with
    |none=>simp[eB]at h
    |some u=>
     simp only[eB,aB]at h;obtain⟨r,hr,rfl⟩:=h;obtain⟨h1,h2,h3⟩:=ih hr;refine⟨by simp[h1],fun i=>?_,fun i hi=>?_⟩
     ·cases i with
      |zero=>simp
      |succ i=>
       have :=h2 i;simp only[Nat.zero_le,true_and,Nat.zero_add,Nat.sub_zero]at this;simp only[List.getElem?_cons_succ,this,Nat.zero_le,true_and,Nat.zero_add,List.length_cons,Nat.add_lt_add_iff_right,Nat.sub_zero]
     ·cases i with
      |zero=>exact⟨u,cY⟩
      |succ i=>simpa using h3 i (by simpa using hi)
   |succ o=>
    simp only[eB,aB]at h;obtain⟨r,hr,rfl⟩:=h;obtain⟨h1,h2,h3⟩:=ih hr;refine⟨by simp[h1],fun i=>?_,fun i hi=>?_⟩
    ·cases i with
     |zero=>simp
     |succ i=>
      have :=h2 i;have e:(o+1<=i+1/\i+1<o+1+(v::vs).length)=(o<=i/\i<o+(v::vs).length):=propext ⟨fun h=>⟨aj,aj⟩,fun h=>⟨aj,aj⟩⟩;simp only[List.getElem?_cons_succ,this,e,Nat.add_sub_add_right]
    ·obtain⟨u,hu⟩:=h3 i hi;exact⟨u,by rw[show o+1+i=(o+i)+1 by omega];simpa using hu⟩
def Mem.cell(m:Mem)(b o:Nat):Option ae:=if(m.blk b).kind=1/\bD m.bB b o=false then((m.blk b).cs[o]?).join else none
def Mem.nI(m:Mem)(b o:Nat):Prop:=(m.blk b).kind=1/\bD m.bB b o=false/\(o<(m.blk b).cs.length->∃v,(m.blk b).cs[o]?=some (some v))
def Mem.okW(m:Mem)(b o:Nat):Prop:=m.nI b o/\(m.floor<=b\/bD m.opn b o=true)
theorem Mem.eD{m:Mem}{b o:Nat}{v:ae}(h:m.cell b o=some v):m.nI b o:=by
 unfold Mem.cell at h
 split at h
 ·rename_i hk;refine⟨hk.1,hk.2,fun _=>?_⟩;cases hc:(m.blk b).cs[o]? with
  |none=>simp[hc]at h
  |some x=>cases x with
   |none=>simp[hc]at h
   |some u=>exact⟨u,rfl⟩
 ·cases h
theorem xl {l:List Span}{b o n:Nat}(h:meets l b o n=false){i:Nat}(hi:i<n):bD l b (o+i)=false:=by
 unfold meets bD at*;rw[List.any_eq_false]at*;intro s hs;have :=h s hs;intro hc;apply this;simp only[ag]at hc⊢;refine⟨hc.1,?_⟩;cases hx:s.2.2 with
 |none=>rfl
 |some y=>
  have Mh:=hc.2;rw[hx]at Mh;simp at Mh;simp;omega
theorem dR {l:List Span}{b:Nat}(h:aL l b=false)(o:Nat):bD l b o=false:=by
 unfold aL bD at*;rw[List.any_eq_false]at*;intro s hs;have :=h s hs;intro hc;apply this;simp only[ag]at hc⊢;exact hc.1
theorem gu {l:List Span}{b:Nat}(h:aL l b=false)(o n:Nat):meets l b o n=false:=by
 unfold aL meets at*;rw[List.any_eq_false]at*;intro s hs;have :=h s hs;intro hc;apply this;simp only[ag]at hc⊢;exact hc.1
theorem j5 {l:List Span}{b:Nat}(h:gN l b=true)(o:Nat):bD l b o=true:=by
 unfold gN bD at*;rw[List.any_eq_true]at*;obtain⟨s,hs,hc⟩:=h;refine⟨s,hs,?_⟩;simp only[ag]at hc⊢;refine⟨hc.1,?_⟩;have :=hc.2;cases hx:s.2.2<;>simp_all
theorem Mem.py{m:Mem}{b o n:Nat}{vs:List ae}(h:m.dv b o n=some vs):
  (m.blk b).kind=1/\vs.length=n/\∀i:Nat,i<n->∃v,vs[i]?=some v/\m.cell b (o+i)=some v:=by
 unfold Mem.dv at h;simp only[]at h
 split at h
 ·rename_i hk;simp only[ag,beq_iff_eq,Bool.not_eq_true']at hk;obtain⟨h1,h2⟩:=qJ h;refine⟨hk.1,h1,fun i hi=>?_⟩;obtain⟨v,hv,Qb⟩:=h2 i hi;refine⟨v,Qb,?_⟩;unfold Mem.cell;rw[bK ⟨hk.1,xl hk.2 hi⟩];rw[List.getElem?_drop]at hv;simp[hv]
 ·cases h
theorem Mem.qO{m:Mem}{b o n:Nat}(h:m.cP b o n=true){i:Nat}(hi:i<n):bD m.bB b (o+i)=false/\(m.floor<=b\/bD m.opn b (o+i)=true):=by
 unfold Mem.cP at h;simp only[ag,Bool.not_eq_true',Bool.or_eq_true,jE]at h;refine⟨xl h.1.1 hi,?_⟩;rcases h.2 with(h2|h2)|h2
 ·exact .inl h2
 ·exact .inr (j5 h2 _)
 ·rw[aE]at h2;exact .inr (h2 i (by simpa using hi))
theorem Mem.kH{m:Mem}{b o n:Nat}(h:m.cP b o n=true):m.base<=b:=by
 unfold Mem.cP at h;simp only[ag,jE]at h;exact h.1.2
theorem Mem.lX{m:Mem}{b:Nat}(h:m.fq b=true):aL m.bB b=false/\(m.floor<=b\/gN m.opn b=true):=by
 unfold Mem.fq at h;simp only[ag,Bool.not_eq_true',Bool.or_eq_true,jE]at h;exact⟨h.1.1,h.2⟩
theorem Mem.rV{m:Mem}{b:Nat}(h:m.fq b=true):m.base<=b:=by
 unfold Mem.fq at h;simp only[ag,jE]at h;exact h.1.2
theorem Mem.qj{m:Mem}{b o:Nat}{vs:List ae}{m':Mem}(h:m.dD b o vs=some m'):
  ∃cs,m'=m.aZ b {m.blk b with cs:=cs}/\(m.blk b).kind=1/\m.cP b o vs.length=true/\eB (m.blk b).cs o vs=some cs/\∀v∈vs,v.oneCell'=true:=by
 unfold Mem.dD at h;simp only[]at h
 split at h
 ·rename_i hk;simp only[ag,beq_iff_eq]at hk;rw[aB]at h;obtain⟨cs,ik,rfl⟩:=h;exact⟨cs,rfl,hk.1.1,hk.1.2,ik,fun v hv=>aE.1 hk.2 v hv⟩
 ·cases h
end Go.AM
namespace Go.AM
open Go
structure Perm where
 rd:Nat->Nat->Prop
 wr:Nat->Nat->Prop
 ob:Nat->Prop
 deaf:Nat
def Gu:Mark->Prop
 | .disable| .enable| .release _| .read _| .write _=>False
 |_=>True
def dA {α:Type}(P:aD)(R:Perm)(N:Nat):Sem α->(α->ay->Prop)->ay->Prop
 | .pure a,Q,w=>Q a w
 | .load m a k,Q,w=>∃v,w.cell? a=some v/\R.rd a.block a.off/\dA P R N (k v) Q w
 | .store m a v k,Q,w=>v.oneCell'=true/\(∃u,w.cell? a=some u)/\w.frozen? a=false/\R.wr a.block a.off/\dA P R N k Q (w.setCell a v)
 | .new o k,Q,w=>dA P R N (k w.heap.size) Q {w with heap:=w.heap.push o}
 | .shape r k,Q,w=>dA P R N (k (w.shape? r)) Q w
 | .freeze a n k,Q,w=>N<=a.block/\dA P R N k Q (w.freeze a n)
 | .frozen a k,Q,w=>dA P R N (k (w.frozen? a)) Q w
 | .getObj r k,Q,w=>∃o,w.heap[r]?=some o/\(∀C t f,o≠ .cells C t f)/\o.isChan=false/\R.ob r/\dA P R N (k o) Q w
 | .setObj r o k,Q,w=>(∃o',w.heap[r]?=some o'/\∀C t f,o'≠ .cells C t f)/\(∀C t f,o≠ .cells C t f)/\o.isChan=false/\R.ob r/\dA P R N k Q {w with heap:=w.heap.setIfInBounds r o}
 | .choose q k,Q,w=>dA P R N (k (if q.forced then 0 else q.cut (w.tape w.drawn q))) Q (if q.forced then w else{w with drawn:=w.drawn+1})
 | .sys _ _,_,_=>False
 | .program k,Q,w=>dA P R N (k P) Q w
 | .mark m k,Q,w=>Gu m/\dA P R N k Q w
 | .halt _,_,_=>False
theorem ar {α β:Type}{P:aD}{R:Perm}{N:Nat}(x:Sem α)(f:α->Sem β)(Q:β->ay->Prop)(w:ay):
  dA P R N (x>>=f) Q w↔dA P R N x (fun a w'=>dA P R N (f a) Q w') w:=by
 show dA P R N (x.bind f) Q w↔ _
 induction x generalizing w with
 |pure a=>exact Iff.rfl
 |load m a k ih=>simp only[Sem.bind,dA,ih]
 |store m a v k ih=>simp only[Sem.bind,dA,ih]
 |new o k ih=>simp only[Sem.bind,dA,ih]
 |shape r k ih=>simp only[Sem.bind,dA,ih]
 |freeze a n k ih=>simp only[Sem.bind,dA,ih]
 |frozen a k ih=>simp only[Sem.bind,dA,ih]
 |getObj r k ih=>simp only[Sem.bind,dA,ih]
 |setObj r o k ih=>simp only[Sem.bind,dA,ih]
 |choose q k ih=>simp only[Sem.bind,dA,ih]
 |sys c k ih=>simp only[Sem.bind,dA]
 |program k ih=>simp only[Sem.bind,dA,ih]
 |mark m k ih=>simp only[Sem.bind,dA,ih]
 |halt h=>simp only[Sem.bind,dA]
theorem IG {α:Type}{P:aD}{R:Perm}{N:Nat}{x:Sem α}{Q Q':α->ay->Prop}{w:ay}(h:dA P R N x Q w)(hq:∀a w,Q a w->Q' a w):dA P R N x Q' w:=by
 induction x generalizing w with
 |pure a=>exact hq _ _ h
 |load m a k ih=>obtain⟨v,h1,h2,h3⟩:=h;exact⟨v,h1,h2,ih _ h3⟩
 |store m a v k ih=>exact⟨h.1,h.2.1,h.2.2.1,h.2.2.2.1,ih h.2.2.2.2⟩
 |new o k ih=>exact ih _ h
 |shape r k ih=>exact ih _ h
 |freeze a n k ih=>exact⟨h.1,ih h.2⟩
 |frozen a k ih=>exact ih _ h
 |getObj r k ih=>obtain⟨o,h1,h2,h3,h4,h5⟩:=h;exact⟨o,h1,h2,h3,h4,ih _ h5⟩
 |setObj r o k ih=>exact⟨h.1,h.2.1,h.2.2.1,h.2.2.2.1,ih h.2.2.2.2⟩
 |choose q k ih=>exact ih _ h
 |sys c k ih=>exact h
 |program k ih=>exact ih _ h
 |mark m k ih=>exact⟨h.1,ih h.2⟩
 |halt h'=>exact h
def Mm (w:ay)(a:Addr):Option (Nat×Nat):=match w.heap[a.block]? with
 |some (.cells _ _ r)=>some r
 |_=>none
theorem tW {w w':ay}{a:Addr}(h:Mm w' a=Mm w a):w'.frozen? a=w.frozen? a:=by
 have e:∀w:ay,w.frozen? a=match Mm w a with |some (lo,hi)=>decide (lo<=a.off)&&decide (a.off<hi)|none=>false:=by
  intro w;unfold ay.frozen? Mm;cases w.heap[a.block]? with
  |none=>rfl
  |some o=>cases o<;>rfl
 rw[e,e,h]
structure s8 (R:Perm)(N:Nat)(w w':ay):Prop where
 tape:w'.tape=w.tape
 os:w'.os=w.os
 output:w'.output=w.output
 size:w.heap.size<=w'.heap.size
 shape:∀b,b<N->w'.shape? b=w.shape? b
 cell:∀b o,b<N->¬R.wr b o->w'.cell? ⟨b,o,none⟩=w.cell? ⟨b,o,none⟩
 qP:∀b o,b<N->Mm w' ⟨b,o,none⟩=Mm w ⟨b,o,none⟩
 obj:∀b,b<N->¬R.ob b->(w.shape? b)=none->w'.heap[b]?=w.heap[b]?
theorem s8.refl(R:Perm)(N:Nat)(w:ay):s8 R N w w:=⟨rfl,rfl,rfl,ai _,fun _ _=>rfl,fun _ _ _ _=>rfl,fun _ _ _=>rfl,fun _ _ _ _=>rfl⟩
theorem s8.trans{R:Perm}{N:Nat}{w aN iF:ay}(h:s8 R N w aN)(k:s8 R N aN iF):s8 R N w iF:=
 ⟨k.tape.trans h.tape,k.os.trans h.os,k.output.trans h.output,cF h.size k.size,fun b hb=>(k.shape b hb).trans (h.shape b hb),fun b o hb hw=>(k.cell b o hb hw).trans (h.cell b o hb hw),
  fun b o hb=>(k.qP b o hb).trans (h.qP b o hb),fun b hb ho hs=>(k.obj b hb ho (by rw[h.shape b hb];exact hs)).trans (h.obj b hb ho hs)⟩
def nT (R:Perm)(e:Event):Prop:=
 match e.loc with
 | .cell a=>a.spot=none/\(if e.write then R.wr a.block a.off else R.rd a.block a.off)
 | .obj r=>R.ob r/\e.sync=false
 | .mark m=>Gu m
 |_=>False
theorem qL (w:ay)(a:Addr)(v:ae)(b:Nat):(w.setCell a v).shape? b=w.shape? b:=by
 unfold ay.shape? ay.setCell;simp only[Array.getElem?_modify]
 by_cases h:a.block=b
 ·subst h;cases hb:w.heap[a.block]? with
  |none=>simp
  |some o=>cases o with
   |cells c e f=>simp only[if_true,cT];split<;>simp
   |_=>simp
 ·simp[h]
theorem ie (w:ay)(a:Addr)(v:ae)(b o:Nat)(ha:a.spot=none):(w.setCell a v).cell? ⟨b,o,none⟩=if a.block=b/\a.off=o/\(w.cell? ⟨b,o,none⟩).isSome then some v else w.cell? ⟨b,o,none⟩:=by
 unfold ay.cell? ay.setCell;simp only[Array.getElem?_modify,ha,Option.isSome_none,bO,if_false]
 by_cases h:a.block=b
 ·subst h;cases hb:w.heap[a.block]? with
  |none=>simp
  |some o'=>cases o' with
   |cells c e f=>
    simp only[if_true,cT,Array.getElem?_setIfInBounds]
    by_cases h2:a.off=o
    ·subst h2
     by_cases h3:a.off<c.size
     ·simp[h3]
     ·simp[h3]
    ·simp[h2]
   |_=>simp
 ·simp[h]
theorem oK (w:ay)(a:Addr)(v:ae)(b o:Nat):Mm (w.setCell a v) ⟨b,o,none⟩=Mm w ⟨b,o,none⟩:=by
 unfold Mm ay.setCell;simp only[Array.getElem?_modify]
 by_cases h:a.block=b
 ·subst h;cases hb:w.heap[a.block]? with
  |none=>simp
  |some o'=>cases o'<;>simp
 ·simp[h]
theorem wX {w:ay}{a:Addr}{v:ae}(h:w.cell? a=some v):a.spot=none:=by
 unfold ay.cell? at h
 split at h
 ·split at h
  ·cases h
  ·rename_i h2;simpa using h2
 ·cases h
theorem mI {α:Type}{P:aD}{R:Perm}{N:Nat}{x:Sem α}{Q:α->ay->Prop}{w:ay}(hN:N<=w.heap.size)(h:dA P R N x Q w):
  ∃a w',x.run P w= .ok a w'/\Q a w'/\s8 R N w w'/\∀es,∃l:List Event,x.events P w es=es++l.toArray/\∀e∈l,nT R e:=by
 induction x generalizing w with
 |pure a=>exact⟨a,w,rfl,h,s8.refl ..,fun es=>⟨[],by simp[Sem.events,Sem.runT,-Sem.runT_eq],cY⟩⟩
 |load m a k ih=>
  obtain⟨v,h1,h2,h3⟩:=h;obtain⟨x,w',hr,hq,hc,he⟩:=ih v hN h3;refine⟨x,w',by simp only[Sem.run,h1];exact hr,hq,hc,fun es=>?_⟩;obtain⟨l,hl,dP⟩:=he (es.push ⟨.cell a,false,m== .atomic⟩);refine⟨⟨.cell a,false,m== .atomic⟩::l,?_,?_⟩
  ·have :(Sem.load m a k).events P w es=(k v).events P w (es.push ⟨.cell a,false,m== .atomic⟩):=by simp only[Sem.events,Sem.runT,h1]
   rw[this,hl];simp
  ·intro e hm;rcases aR.1 hm with rfl|hm
   ·exact⟨wX h1,h2⟩
   ·exact dP e hm
 |store m a v k ih=>
  obtain⟨h0,⟨u,h1⟩,h2,h3,h4⟩:=h;have hs:=wX h1;obtain⟨x,w',hr,hq,hc,he⟩:=ih (w:=w.setCell a v) (by simpa[ay.setCell]using hN) h4;have gY:(Sem.store m a v k).run P w=k.run P (w.setCell a v):=by
   cases v<;>first |(simp[ae.oneCell']at h0;done)|simp only[Sem.run,h1,h2,bO,if_false]
  have VN:∀es,(Sem.store m a v k).events P w es=k.events P (w.setCell a v) (es.push ⟨.cell a,true,m== .atomic⟩):=by
   intro es;cases v<;>first |(simp[ae.oneCell']at h0;done)|simp only[Sem.events,Sem.runT,h1,h2,bO,if_false]
  refine⟨x,w',by rw[gY];exact hr,hq,?_,fun es=>?_⟩
  ·refine s8.trans ?_ hc;refine⟨rfl,rfl,rfl,by simp[ay.setCell],fun b _=>qL ..,fun b o _ hw=>?_,fun b o _=>oK ..,fun b _ _ fN=>?_⟩
   ·rw[ie _ _ _ _ _ hs,bZ];rintro⟨rfl,rfl,_⟩;exact hw h3
   ·have Ox:a.block≠b:=by
     rintro rfl;unfold ay.cell? at h1;unfold ay.shape? at fN
     split at h1
     ·rename_i hh;simp[hh]at fN
     ·cases h1
    unfold ay.setCell;simp only[Array.getElem?_modify,Ox,if_false]
  ·obtain⟨l,hl,dP⟩:=he (es.push ⟨.cell a,true,m== .atomic⟩);refine⟨⟨.cell a,true,m== .atomic⟩::l,by rw[VN,hl];simp,?_⟩;intro e hm;rcases aR.1 hm with rfl|hm
   ·exact⟨hs,h3⟩
   ·exact dP e hm
 |new o k ih=>
  obtain⟨x,w',hr,hq,hc,he⟩:=ih w.heap.size (w:={w with heap:=w.heap.push o}) (by simp;omega) h;refine⟨x,w',hr,hq,s8.trans ?_ hc,he⟩;have cA:∀b,b<N->(w.heap.push o)[b]?=w.heap[b]?:=fun b hb=>by rw[Array.getElem?_push_lt aj];simp[a8 hb hN]
  refine⟨rfl,rfl,rfl,cY,fun b hb=>?_,fun b o hb _=>?_,fun b o hb=>?_,fun b hb _ _=>cA b hb⟩
  ·unfold ay.shape?;simp only[cA b hb]
  ·unfold ay.cell?;simp only[cA b hb]
  ·unfold Mm;simp only[cA b hb]
 |shape r k ih=>exact ih _ hN h
 |freeze a n k ih=>
  obtain⟨h1,h2⟩:=h;obtain⟨x,w',hr,hq,hc,he⟩:=ih (w:=w.freeze a n) (by unfold ay.freeze;split<;>simpa using hN) h2;refine⟨x,w',hr,hq,s8.trans ?_ hc,he⟩;have cA:∀b,b<N->(w.freeze a n).heap[b]?=w.heap[b]?:=fun b hb=>by
   unfold ay.freeze
   split
   ·rfl
   ·simp only[Array.getElem?_modify];rw[bZ aj]
  have e1:(w.freeze a n).tape=w.tape/\(w.freeze a n).os=w.os/\(w.freeze a n).output=w.output/\w.heap.size<=(w.freeze a n).heap.size:=by
   unfold ay.freeze;split<;>simp
  refine⟨e1.1,e1.2.1,e1.2.2.1,e1.2.2.2,fun b hb=>?_,fun b o hb _=>?_,fun b o hb=>?_,fun b hb _ _=>cA b hb⟩
  ·unfold ay.shape?;simp only[cA b hb]
  ·unfold ay.cell?;simp only[cA b hb]
  ·unfold Mm;simp only[cA b hb]
 |frozen a k ih=>exact ih _ hN h
 |getObj r k ih=>
  obtain⟨o,h1,h2,h3,h4,h5⟩:=h;obtain⟨x,w',hr,hq,hc,he⟩:=ih o hN h5;have gY:(Sem.getObj r k).run P w=(k o).run P w:=by
   cases o<;>first |(simp only[Sem.run,h1];done)|exact absurd rfl (h2 _ _ _)
  have VN:∀es,(Sem.getObj r k).events P w es=(k o).events P w (es.push ⟨.obj r,false,o.isChan⟩):=by
   intro es;cases o<;>first |(simp only[Sem.events,Sem.runT,h1];done)|exact absurd rfl (h2 _ _ _)
  refine⟨x,w',by rw[gY];exact hr,hq,hc,fun es=>?_⟩;obtain⟨l,hl,dP⟩:=he (es.push ⟨.obj r,false,o.isChan⟩);refine⟨⟨.obj r,false,o.isChan⟩::l,by rw[VN,hl];simp,?_⟩;intro e hm;rcases aR.1 hm with rfl|hm
  ·exact⟨h4,h3⟩
  ·exact dP e hm
 |setObj r o k ih=>
  obtain⟨⟨o',h1,Rj⟩,h2,h3,h4,h5⟩:=h;obtain⟨x,w',hr,hq,hc,he⟩:=ih (w:={w with heap:=w.heap.setIfInBounds r o}) (by simpa using hN) h5;have gY:(Sem.setObj r o k).run P w=k.run P {w with heap:=w.heap.setIfInBounds r o}:=by
   cases o'<;>first |(simp only[Sem.run,h1];done)|exact absurd rfl (Rj _ _ _)
  have VN:∀es,(Sem.setObj r o k).events P w es=k.events P {w with heap:=w.heap.setIfInBounds r o} (es.push ⟨.obj r,true,o.isChan⟩):=by
   intro es;cases o'<;>first |(simp only[Sem.events,Sem.runT,h1];done)|exact absurd rfl (Rj _ _ _)
  have Xe:r<w.heap.size:=by
   rcases Nat.lt_or_ge r w.heap.size with h|h
   ·exact h
   ·simp[Array.getElem?_eq_none h]at h1
  have dO:∀b,b≠r->(w.heap.setIfInBounds r o)[b]?=w.heap[b]?:=fun b hb=>Array.getElem?_setIfInBounds_ne (Ne.symm hb)
  have heq:(w.heap.setIfInBounds r o)[r]?=some o:=by simp[Xe]
  refine⟨x,w',by rw[gY];exact hr,hq,s8.trans ?_ hc,fun es=>?_⟩
  ·refine⟨rfl,rfl,rfl,cY,fun b hb=>?_,fun b i hb _=>?_,fun b i hb=>?_,fun b hb ho _=>?_⟩
   ·unfold ay.shape?
    by_cases Xj:b=r
    ·subst Xj;simp only[heq,h1];cases o<;>first |exact absurd rfl (h2 _ _ _)|(cases o'<;>first |exact absurd rfl (Rj _ _ _)|rfl)
    ·simp only[dO b Xj]
   ·unfold ay.cell?
    by_cases Xj:b=r
    ·subst Xj;simp only[heq,h1];cases o<;>first |exact absurd rfl (h2 _ _ _)|(cases o'<;>first |exact absurd rfl (Rj _ _ _)|rfl)
    ·simp only[dO b Xj]
   ·unfold Mm
    by_cases Xj:b=r
    ·subst Xj;simp only[heq,h1];cases o<;>first |exact absurd rfl (h2 _ _ _)|(cases o'<;>first |exact absurd rfl (Rj _ _ _)|rfl)
    ·simp only[dO b Xj]
   ·exact dO b (by rintro rfl;exact ho h4)
  ·obtain⟨l,hl,dP⟩:=he (es.push ⟨.obj r,true,o.isChan⟩);refine⟨⟨.obj r,true,o.isChan⟩::l,by rw[VN,hl];simp,?_⟩;intro e hm;rcases aR.1 hm with rfl|hm
   ·exact⟨h4,h3⟩
   ·exact dP e hm
 |choose q k ih=>
  obtain⟨x,w',hr,hq,hc,he⟩:=ih _ (w:=if q.forced then w else{w with drawn:=w.drawn+1}) (by split<;>exact hN) h
  by_cases hf:q.forced=true
  ·simp only[hf,if_true]at hr hc he;refine⟨x,w',by simp only[Sem.run,hf,if_true];exact hr,hq,hc,fun es=>?_⟩;obtain⟨l,hl,dP⟩:=he es;exact⟨l,by rw[<-hl];simp only[Sem.events,Sem.runT,hf,if_true],dP⟩
  ·simp only[hf,bO,if_false]at hr hc he;refine⟨x,w',by simp only[Sem.run,hf,bO,if_false];exact hr,hq,s8.trans (aN:={w with drawn:=w.drawn+1}) ⟨rfl,rfl,rfl,ai _,fun _ _=>rfl,fun _ _ _ _=>rfl,fun _ _ _=>rfl,fun _ _ _ _=>rfl⟩ hc,fun es=>?_⟩;obtain⟨l,hl,dP⟩:=he es;exact⟨l,by rw[<-hl];simp only[Sem.events,Sem.runT,hf,bO,if_false],dP⟩
 |sys c k ih=>exact h.elim
 |program k ih=>exact ih _ hN h
 |mark m k ih=>
  obtain⟨h1,h2⟩:=h;obtain⟨x,w',hr,hq,hc,he⟩:=ih hN h2;refine⟨x,w',hr,hq,hc,fun es=>?_⟩;obtain⟨l,hl,dP⟩:=he (es.push ⟨.mark m,false,true⟩);refine⟨⟨.mark m,false,true⟩::l,?_,?_⟩
  ·have :(Sem.mark m k).events P w es=k.events P w (es.push ⟨.mark m,false,true⟩):=by simp only[Sem.events,Sem.runT]
   rw[this,hl];simp
  ·intro e hm;rcases aR.1 hm with rfl|hm
   ·exact h1
   ·exact dP e hm
 |halt h'=>exact h.elim
end Go.AM
namespace Go.AM
open Go
def vb (ρ:cZ)(e e':MapEntry):Prop:=aP ρ e.key e'.key/\aP ρ e.val e'.val/\e'.born=e.born
structure fI (ρ:cZ)(m:Mem)(w:ay):Prop where
 my:∀b p,ρ b=some p->b<m.next
 cells:∀b p,ρ b=some p->(m.blk b).kind=1->p.sz=(m.blk b).sz/\(m.blk b).cs.length<=p.room/\∃e n,w.shape? p.c=some (e,n)/\p.d+p.room<=n
 lP:∀b p o v,ρ b=some p->m.cell b o=some v->∃v',w.cell? ⟨p.c,p.d+o,none⟩=some v'/\aP ρ v v'
 thaw:∀b p o,ρ b=some p->o<p.room->(m.blk b).kind=1->m.base<=b->w.frozen? ⟨p.c,p.d+o,none⟩=false
 maps:∀b p,ρ b=some p->(m.blk b).kind=2->m.bz b=true->∃js,w.heap[p.c]?=some (.map js (m.blk b).clock)/\bC (vb ρ) (m.blk b).es.toList js.toList
 lC:∀b p,ρ b=some p->(m.blk b).kind=3->m.bz b=true->p.d=0/\w.heap[p.c]?=some (.stringIter (m.blk b).str (m.blk b).pos)
 sep:∀b b' p p',b≠b'->ρ b=some p->ρ b'=some p'->(m.blk b).kind≠0->(m.blk b').kind≠0->p.c=p'.c->(m.blk b).kind=1/\(m.blk b').kind=1/\(p.room=0\/p'.room=0\/p.d+p.room<=p'.d\/p'.d+p'.room<=p.d)
 rr:∀b p,ρ b=some p->p.c<w.heap.size
 vars:∀b p,ρ b=some p->(m.blk b).kind=1->(m.blk b).pos=1->p.d=0
def aA (ρ:cZ)(m:Mem):Perm where
 rd c x:=∃b p,ρ b=some p/\p.c=c/\p.d<=x/\x<p.d+p.room/\m.nI b (x-p.d)
 wr c x:=∃b p,ρ b=some p/\p.c=c/\p.d<=x/\x<p.d+p.room/\m.okW b (x-p.d)
 ob c:=∃b p,ρ b=some p/\p.c=c/\((m.blk b).kind=2\/(m.blk b).kind=3)/\m.bz b=true
 deaf:=m.deaf
theorem lV {ρ:cZ}{m:Mem}{c x:Nat}(h:(aA ρ m).wr c x):(aA ρ m).rd c x:=by
 obtain⟨b,p,h1,h2,h3,h4,h5⟩:=h;exact⟨b,p,h1,h2,h3,h4,h5.1⟩
structure bh (R:Perm)(w aN:ay):Prop where
 tape:aN.tape=w.tape
 os:aN.os=w.os
 output:aN.output=w.output
 size:w.heap.size<=aN.heap.size
 shape:∀b,b<w.heap.size->aN.shape? b=w.shape? b
 cell:∀b o,R.rd b o->aN.cell? ⟨b,o,none⟩=w.cell? ⟨b,o,none⟩
 qP:∀b o,b<w.heap.size->Mm aN ⟨b,o,none⟩=Mm w ⟨b,o,none⟩
 obj:∀b,R.ob b->aN.heap[b]?=w.heap[b]?
theorem bh.refl(R:Perm)(w:ay):bh R w w:=⟨rfl,rfl,rfl,ai _,fun _ _=>rfl,fun _ _ _=>rfl,fun _ _ _=>rfl,fun _ _=>rfl⟩
theorem bh.trans{R:Perm}{w aN iF:ay}(h:bh R w aN)(k:bh R aN iF):bh R w iF:=
 ⟨k.tape.trans h.tape,k.os.trans h.os,k.output.trans h.output,cF h.size k.size,fun b hb=>(k.shape b (a8 hb h.size)).trans (h.shape b hb),
  fun b o x=>(k.cell b o x).trans (h.cell b o x),fun b o x=>(k.qP b o (a8 x h.size)).trans (h.qP b o x),fun b x=>(k.obj b x).trans (h.obj b x)⟩
theorem bh.at(R:Perm)(w:ay)(d:Nat):bh R w {w with drawn:=d}:=⟨rfl,rfl,rfl,ai _,fun _ _=>rfl,fun _ _ _=>rfl,fun _ _ _=>rfl,fun _ _=>rfl⟩
section
variable {ρ:cZ}{m:Mem}{w aN:ay}
theorem iS (h:fI ρ m w){b:Nat}{p:Pl}(hp:ρ b=some p){o:Nat}{v:ae}(hc:m.cell b o=some v):o<p.room:=by
 have hk:=(Mem.eD hc).1;obtain⟨_,hl,_⟩:=h.cells b p hp hk;unfold Mem.cell at hc
 split at hc
 ·rcases Nat.lt_or_ge o (m.blk b).cs.length with cA|Ad
  ·omega
  ·simp[List.getElem?_eq_none Ad]at hc
 ·cases hc
theorem BF (h:fI ρ m w){b:Nat}{p:Pl}(hp:ρ b=some p){o:Nat}{v:ae}(hc:m.cell b o=some v):(aA ρ m).rd p.c (p.d+o):=
 ⟨b,p,hp,rfl,aj,by have :=iS h hp hc;omega,by rw[Nat.add_sub_cancel_left];exact Mem.eD hc⟩
theorem yt {b:Nat}{p:Pl}(hp:ρ b=some p){o:Nat}(ho:o<p.room)(hw:m.okW b o):(aA ρ m).wr p.c (p.d+o):=
 ⟨b,p,hp,rfl,aj,aj,by rw[Nat.add_sub_cancel_left];exact hw⟩
theorem fI.keeps(h:fI ρ m w)(k:bh (aA ρ m) w aN):fI ρ m aN where
 my:=h.my
 cells b p hp hk:=by
  obtain⟨h1,h2,e,n,h3,h4⟩:=h.cells b p hp hk;exact⟨h1,h2,e,n,by rw[k.shape _ (h.rr b p hp)];exact h3,h4⟩
 lP b p o v hp hc:=by
  obtain⟨v',h1,h2⟩:=h.lP b p o v hp hc;exact⟨v',by rw[k.cell _ _ (BF h hp hc)];exact h1,h2⟩
 thaw b p o hp ho hk hb:=by rw[tW (k.qP _ _ (h.rr b p hp))];exact h.thaw b p o hp ho hk hb
 maps b p hp hk ho:=by
  obtain⟨js,h1,h2⟩:=h.maps b p hp hk ho;exact⟨js,by rw[k.obj _ ⟨b,p,hp,rfl,.inl hk,ho⟩];exact h1,h2⟩
 lC b p hp hk ho:=by
  obtain⟨h1,h2⟩:=h.lC b p hp hk ho;exact⟨h1,by rw[k.obj _ ⟨b,p,hp,rfl,.inr hk,ho⟩];exact h2⟩
 sep:=h.sep
 rr b p hp:=a8 (h.rr b p hp) k.size
 vars:=h.vars
structure eJ (R R':Perm)(N:Nat):Prop where
 rd:∀b o,R'.rd b o->R.rd b o\/N<=b
 wr:∀b o,R'.wr b o->R.wr b o\/N<=b
 ob:∀b,R'.ob b->R.ob b\/N<=b
theorem eJ.refl(R:Perm)(N:Nat):eJ R R N:=⟨fun _ _=> .inl,fun _ _=> .inl,fun _=> .inl⟩
theorem fI.z0(h:fI ρ m w){b:Nat}{p:Pl}(hp:ρ b=some p){o:Nat}{vs:List ae}{n:Nat}(hl:m.dv b o n=some vs){i:Nat}(hi:i<n):
  ∃v v',vs[i]?=some v/\aP ρ v v'/\w.cell? ⟨p.c,p.d+(o+i),none⟩=some v'/\(aA ρ m).rd p.c (p.d+(o+i)):=by
 obtain⟨_,_,h3⟩:=Mem.py hl;obtain⟨v,hv,hc⟩:=h3 i hi;obtain⟨v',h1,h2⟩:=h.lP b p _ v hp hc;exact⟨v,v',hv,h2,h1,BF h hp hc⟩
theorem jd (c d i:Nat):(⟨c,d,none⟩:Addr).add i=⟨c,d+i,none⟩:=by
 unfold Addr.add
 split
 ·rename_i h;subst h;rfl
 ·rfl
theorem BM {P:aD}{R:Perm}{N:Nat}{a:Addr}{md:Mode}{Q:ae->ay->Prop}{v:ae}(h:w.cell? a=some v)(hr:R.rd a.block a.off)(hq:Q v w):dA P R N (Go.load a md) Q w:=⟨v,h,hr,hq⟩
theorem qo {P:aD}{R:Perm}{N:Nat}{a:Addr}{Q:Array ae->ay->Prop}:∀(n i:Nat) (acc:Array ae) (vs:List ae),
  (∀j:Nat,j<n->∃v,vs[j]?=some v/\w.cell? (a.add (i+j))=some v/\R.rd (a.add (i+j)).block (a.add (i+j)).off)->vs.length=n->Q (acc++vs.toArray) w->dA P R N (loadCellsFrom a i n acc) Q w
 |0,i,acc,vs,_,hl,hq=>by
  have :vs=[]:=List.eq_nil_of_length_eq_zero hl;subst this
  show Q acc w
  simpa using hq
 |n+1,i,acc,vs,h,hl,hq=>by
  obtain⟨v,hv,hc,hr⟩:=h 0 aj;cases vs with
  |nil=>simp at hl
  |cons x vs=>
   simp at hv;subst hv;simp only[loadCellsFrom];rw[ar];refine BM (by simpa using hc) (by simpa using hr) ?_;refine qo n (i+1) (acc.push x) vs (fun j hj=>?_) (by simpa using hl) (by simpa using hq);obtain⟨u,h1,h2,h3⟩:=h (j+1) aj;have e:i+1+j=i+(j+1):=aj;rw[e];exact⟨u,by simpa using h1,h2,h3⟩
theorem fI.qN(h:fI ρ m w){P:aD}{N:Nat}{b:Nat}{p:Pl}(hp:ρ b=some p){o n:Nat}{vs:List ae}(hl:m.dv b o n=some vs){Q:Array ae->ay->Prop}
  (hq:∀qX:List ae,bC (aP ρ) vs qX->Q qX.toArray w):dA P (aA ρ m) N (loadCells ⟨p.c,p.d+o,none⟩ n) Q w:=by
 obtain⟨_,hlen,_⟩:=Mem.py hl;have hex:∃qX:List ae,qX.length=n/\∀i:Nat,i<n->∃v v',vs[i]?=some v/\qX[i]?=some v'/\aP ρ v v'/\w.cell? ⟨p.c,p.d+(o+i),none⟩=some v'/\(aA ρ m).rd p.c (p.d+(o+i)):=by
  refine⟨(List.range n).map fun i=>(w.cell? ⟨p.c,p.d+(o+i),none⟩).getD undef,cY,fun i hi=>?_⟩;obtain⟨v,v',h1,h2,h3,h4⟩:=h.z0 hp hl hi;exact⟨v,v',h1,by simp[hi,h3],h2,h3,h4⟩
 obtain⟨qX,A1,hv⟩:=hex;unfold loadCells;refine qo n 0 #[] qX (fun j hj=>?_) A1 ?_
 ·obtain⟨v,v',_,h2,_,h4,h5⟩:=hv j hj;rw[Nat.zero_add,jd];exact⟨v',h2,by rw[Nat.add_assoc];exact h4,by simpa[Nat.add_assoc]using h5⟩
 ·simp only[Array.empty_append];refine hq qX (bC.Gn (by rw[hlen,A1]) fun i a b ha hb=>?_);have hi:i<n:=by
   rcases Nat.lt_or_ge i n with h|h
   ·exact h
   ·rw[List.getElem?_eq_none aj]at ha;cases ha
  obtain⟨v,v',h1,h2,h3,_⟩:=hv i hi;rw[h1]at ha;rw[h2]at hb;cases ha;cases hb;exact h3
structure Aq (w w':ay)(c d:Nat)(vs:List ae):Prop where
 tape:w'.tape=w.tape
 drawn:w'.drawn=w.drawn
 os:w'.os=w.os
 output:w'.output=w.output
 size:w'.heap.size=w.heap.size
 others:∀b,b≠c->w'.heap[b]?=w.heap[b]?
 shape:∀b,w'.shape? b=w.shape? b
 cell:∀x,w'.cell? ⟨c,x,none⟩=if d<=x/\x<d+vs.length then vs[x-d]? else w.cell? ⟨c,x,none⟩
 qP:∀b x,w'.frozen? ⟨b,x,none⟩=w.frozen? ⟨b,x,none⟩
theorem Aq.CV{w w':ay}{c d:Nat}{vs:List ae}(h:Aq w w' c d vs){b:Nat}(hb:b≠c)(x:Nat):w'.cell? ⟨b,x,none⟩=w.cell? ⟨b,x,none⟩:=by
 unfold ay.cell?;simp only[h.others b hb]
theorem Pg (w:ay)(c d:Nat):Aq w w c d []:=⟨rfl,rfl,rfl,rfl,rfl,fun _ _=>rfl,fun _=>rfl,fun x=>by simp;omega,fun _ _=>rfl⟩
theorem KB {w w':ay}{c d:Nat}{v:ae}{vs:List ae}(hc:(w.cell? ⟨c,d,none⟩).isSome=true)(h:Aq (w.setCell ⟨c,d,none⟩ v) w' c (d+1) vs):Aq w w' c d (v::vs) where
 tape:=h.tape
 drawn:=h.drawn
 os:=h.os
 output:=h.output
 size:=by rw[h.size];simp[ay.setCell]
 others b hb:=by
  rw[h.others b hb];unfold ay.setCell;simp only[Array.getElem?_modify,Ne.symm hb,if_false]
 shape b:=by rw[h.shape,qL]
 cell x:=by
  rw[h.cell,ie _ _ _ _ _ rfl]
  by_cases h1:d+1<=x/\x<d+1+vs.length
  ·rw[bK h1,bK ⟨aj,by simp;omega⟩];rw[show x-d=(x-(d+1))+1 by omega];simp
  ·rw[bZ h1]
   by_cases h2:d=x
   ·subst h2;rw[bK ⟨rfl,rfl,hc⟩,bK ⟨aj,cY⟩];simp
   ·rw[bZ (by rintro⟨_,h3,_⟩;exact h2 h3),bZ (by simp;omega)]
 qP b x:=by rw[h.qP,tW (oK ..)]
theorem ph {P:aD}{R:Perm}{N:Nat}{c d:Nat}{Q:Unit->ay->Prop}:∀(vs:List ae) (i:Nat) (w:ay),(∀v∈vs,v.oneCell'=true)->
  (∀j:Nat,j<vs.length->(w.cell? ⟨c,d+i+j,none⟩).isSome=true/\w.frozen? ⟨c,d+i+j,none⟩=false/\R.wr c (d+i+j))->(∀w',Aq w w' c (d+i) vs->Q () w')->dA P R N (storeCells ⟨c,d,none⟩ vs i) Q w
 | [],i,w,_,_,hq=>hq w (Pg ..)
 |v::vs,i,w,h1,h,hq=>by
  simp only[storeCells];rw[ar];have h0:=h 0 cY;simp only[Nat.add_zero]at h0;obtain⟨u,hu⟩:=iz.1 h0.1
  show dA P R N (.store .plain _ v (.pure ())) _ w
  rw[jd];refine⟨h1 v cY,⟨u,hu⟩,h0.2.1,h0.2.2,?_⟩;refine ph vs (i+1) _ (fun x hx=>h1 x (by simp[hx])) (fun j hj=>?_) (fun w' DT=>hq w' ?_)
  ·obtain⟨g1,g2,g3⟩:=h (j+1) (by simp;omega);have e:d+(i+1)+j=d+i+(j+1):=aj;rw[e];refine⟨?_,by rw[tW (oK ..)];exact g2,g3⟩;rw[ie _ _ _ _ _ rfl,bZ (by rintro⟨_,h3,_⟩;simp at h3)];exact g1
  ·rw[show d+(i+1)=d+i+1 by omega]at DT;exact KB h0.1 DT
theorem fI.wrote(h:fI ρ m w){b:Nat}{p:Pl}(hp:ρ b=some p){o:Nat}{vs qX:List ae}(hv:bC (aP ρ) vs qX){cs:List (Option ae)}(hk:(m.blk b).kind=1)(Ce:eB (m.blk b).cs o vs=some cs)
  {w':ay}(hw:Aq w w' p.c (p.d+o) qX):fI ρ (m.aZ b {m.blk b with cs:=cs}) w':=by
 obtain⟨hl,hg,pD⟩:=lT Ce;have hlen:=hv.length;have fj:∀b',(m.aZ b {m.blk b with cs:=cs}).blk b'=if b=b' then{m.blk b with cs:=cs,a9:=m.tick}else m.blk b':=fun b'=>Mem.dy ..
 have iH:∀b',((m.aZ b {m.blk b with cs:=cs}).blk b').kind=(m.blk b').kind:=fun b'=>by rw[fj];split<;>simp_all
 obtain⟨iB,ru,e,n,fN,hn⟩:=h.cells b p hp hk;refine⟨h.my,fun b' p' du gf=>?_,fun b' p' o' v du hc=>?_,fun b' p' o' du pZ gf iL=>?_,fun b' p' du gf pZ=>?_,fun b' p' du gf pZ=>?_,fun x9 x8 nH oG dO h₁ AF k₁ k₂ hc=>?_,fun b' p' du=>by rw[hw.size];exact h.rr b' p' du,fun b' p' du gf wD=>?_⟩
 ·rw[iH]at gf;obtain⟨g1,g2,e',n',g3,g4⟩:=h.cells b' p' du gf;refine⟨?_,?_,e',n',by rw[hw.shape];exact g3,g4⟩
  ·rw[fj];split
   ·rename_i hb;subst hb;exact g1
   ·exact g1
  ·rw[fj];split
   ·rename_i hb;subst hb;simpa[hl]using g2
   ·exact g2
 ·by_cases hb:b=b'
  ·subst hb;obtain rfl:p=p':=by rw[hp]at du;exact Option.some.inj du
   unfold Mem.cell at hc;rw[fj]at hc;simp only[if_true,Mem.Lb]at hc
   split at hc
   ·rename_i hh;rw[hg]at hc
    by_cases nN:o<=o'/\o'<o+vs.length
    ·rw[bK nN]at hc;obtain⟨x,hx⟩:∃x,vs[o'-o]?=some x:=⟨_,List.getElem?_eq_getElem aj⟩;simp[hx]at hc;subst hc;obtain⟨y,hy,Ko⟩:=hv.get hx;refine⟨y,?_,Ko⟩;rw[hw.cell,bK ⟨aj,aj⟩,show p.d+o'-(p.d+o)=o'-o by omega];exact hy
    ·rw[bZ nN]at hc;have E5:m.cell b o'=some v:=by unfold Mem.cell;rw[bK hh];exact hc
     obtain⟨y,hy,Ko⟩:=h.lP b p o' v hp E5;refine⟨y,?_,Ko⟩;rw[hw.cell,bZ aj];exact hy
   ·cases hc
  ·have E5:m.cell b' o'=some v:=by
    unfold Mem.cell at hc⊢;rw[fj,bZ hb]at hc;exact hc
   obtain⟨y,hy,Ko⟩:=h.lP b' p' o' v du E5;refine⟨y,?_,Ko⟩;have gf:=(Mem.eD E5).1;have wC:=iS h du E5
   by_cases wE:p'.c=p.c
   ·have :=(h.sep b b' p p' hb hp du aj aj wE.symm).2.2;have hvl:o+vs.length<=(m.blk b).cs.length\/vs.length=0:=by
     rcases Nat.eq_zero_or_pos vs.length with h0|h0
     ·exact .inr h0
     ·obtain⟨u,hu⟩:=pD (vs.length-1) aj;rcases Nat.lt_or_ge (o+(vs.length-1)) (m.blk b).cs.length with h1|h1
      ·left;omega
      ·rw[List.getElem?_eq_none h1]at hu;cases hu
    rw[wE,hw.cell,bZ aj,<-wE];exact hy
   ·rw[hw.CV wE];exact hy
 ·rw[hw.qP];rw[iH]at gf;exact h.thaw b' p' o' du pZ gf iL
 ·have hb:b≠b':=by rintro rfl;rw[iH]at gf;omega
  have e1:(m.aZ b {m.blk b with cs:=cs}).blk b'=m.blk b':=by rw[fj,bZ hb]
  rw[iH]at gf;obtain⟨js,g1,g2⟩:=h.maps b' p' du gf pZ;have dO:p'.c≠p.c:=fun wE=>by have :=(h.sep b b' p p' hb hp du aj aj wE.symm).2.1;omega
  exact⟨js,by rw[hw.others _ dO,e1];exact g1,by rw[e1];exact g2⟩
 ·have hb:b≠b':=by rintro rfl;rw[iH]at gf;omega
  have e1:(m.aZ b {m.blk b with cs:=cs}).blk b'=m.blk b':=by rw[fj,bZ hb]
  rw[iH]at gf;obtain⟨g1,g2⟩:=h.lC b' p' du gf pZ;have dO:p'.c≠p.c:=fun wE=>by have :=(h.sep b b' p p' hb hp du aj aj wE.symm).2.1;omega
  exact⟨g1,by rw[hw.others _ dO,e1];exact g2⟩
 ·rw[iH]at k₁ k₂⊢;rw[iH];exact h.sep x9 x8 nH oG dO h₁ AF k₁ k₂ hc
 ·rw[iH]at gf;refine h.vars b' p' du gf ?_;rw[fj]at wD
  split at wD
  ·rename_i e;subst e;exact wD
  ·exact wD
theorem DI {b:Nat}{o:Nat}{vs:List ae}{cs:List (Option ae)}(hk:(m.blk b).kind=1)(Ce:eB (m.blk b).cs o vs=some cs)(N:Nat):eJ (aA ρ m) (aA ρ (m.aZ b {m.blk b with cs:=cs})) N:=by
 obtain⟨hl,hg,pD⟩:=lT Ce;have fj:∀b',(m.aZ b {m.blk b with cs:=cs}).blk b'=if b=b' then{m.blk b with cs:=cs,a9:=m.tick}else m.blk b':=fun b'=>Mem.dy ..
 have iH:∀b',((m.aZ b {m.blk b with cs:=cs}).blk b').kind=(m.blk b').kind:=fun b'=>by rw[fj];split<;>simp_all
 have hR:∀b' o',(m.aZ b {m.blk b with cs:=cs}).nI b' o'->m.nI b' o':=by
  rintro b' o' ⟨g1,g2,g3⟩;refine⟨by rw[<-iH b'];exact g1,g2,fun cA=>?_⟩
  by_cases hb:b=b'
  ·subst hb;have :=g3 (by rw[fj,bK rfl];simpa[hl]using cA);rw[fj,bK rfl]at this;obtain⟨x,hx⟩:=this;rw[hg]at hx
   split at hx
   ·rename_i nN;obtain⟨u,hu⟩:=pD (o'-o) aj;exact⟨u,by rw[show o'=o+(o'-o) by omega];exact hu⟩
   ·exact⟨x,hx⟩
  ·have :=g3 (by rw[fj,bZ hb];exact cA);rw[fj,bZ hb]at this;exact this
 refine⟨?_,?_,?_⟩
 ·rintro c x ⟨b',p,h1,h2,h3,h4,h5⟩;exact .inl ⟨b',p,h1,h2,h3,h4,hR _ _ h5⟩
 ·rintro c x ⟨b',p,h1,h2,h3,h4,h5,h6⟩;exact .inl ⟨b',p,h1,h2,h3,h4,hR _ _ h5,h6⟩
 ·rintro c ⟨b',p,h1,h2,h3,h4⟩;exact .inl ⟨b',p,h1,h2,by rwa[iH]at h3,h4⟩
end
end Go.AM
namespace Go.AM
open Go
def cZ.put(ρ:cZ)(b:Nat)(p:Pl):cZ:=fun x=>if x=b then some p else ρ x
theorem cZ.tN{ρ:cZ}{b:Nat}(h:ρ b=none)(p:Pl):ρ.le (ρ.put b p):=by
 intro x q hq;unfold cZ.put;rw[bZ (by rintro rfl;rw[h]at hq;cases hq)];exact hq
theorem cZ.kG(ρ:cZ)(b:Nat)(p:Pl):ρ.put b p b=some p:=by simp[cZ.put]
theorem cZ.Lh(ρ:cZ){b x:Nat}(p:Pl)(h:x≠b):ρ.put b p x=ρ x:=by simp[cZ.put,h]
section
variable {ρ:cZ}{m:Mem}{w:ay}
theorem fI.Fo(h:fI ρ m w){m':Mem}(hn:m.next<=m'.next)(hb:∀b p,ρ b=some p->(m'.blk b)=(m.blk b))(hh:m'.bB=m.bB)(Xi:m'.base=m.base)(hhm:m'.home=m.home):fI ρ m' w:=by
 have hc:∀b p o,ρ b=some p->m'.cell b o=m.cell b o:=fun b p o hp=>by unfold Mem.cell;rw[hb b p hp,hh]
 have hO:∀b,m'.bz b=m.bz b:=fun b=>by unfold Mem.bz;rw[hh,hhm]
 refine⟨fun b p hp=>a8 (h.my b p hp) hn,fun b p hp=>?_,fun b p o v hp=>?_,fun b p o hp cA hk nA=>h.thaw b p o hp cA (by rwa[hb b p hp]at hk) (by rwa[Xi]at nA),fun b p hp=>?_,fun b p hp=>?_,fun b b' p p' dO hp du=>?_,h.rr,fun b p hp=>by rw[hb b p hp];exact h.vars b p hp⟩
 ·rw[hb b p hp];exact h.cells b p hp
 ·rw[hc b p o hp];exact h.lP b p o v hp
 ·rw[hb b p hp,hO];exact h.maps b p hp
 ·rw[hb b p hp,hO];exact h.lC b p hp
 ·rw[hb b p hp,hb b' p' du];exact h.sep b b' p p' dO hp du
theorem mC {m':Mem}(hb:∀b p,ρ b=some p->(m'.blk b)=(m.blk b))(hh:m'.bB=m.bB)(hhm:m'.home=m.home)(hf:m'.floor=m.floor)(ho:m'.opn=m.opn)(N:Nat):eJ (aA ρ m) (aA ρ m') N:=by
 have hR:∀b p o,ρ b=some p->m'.nI b o->m.nI b o:=fun b p o hp=>by unfold Mem.nI;rw[hb b p hp,hh];exact id
 have hW:∀b p o,ρ b=some p->m'.okW b o->m.okW b o:=fun b p o hp x=>⟨hR b p o hp x.1,by have :=x.2;rwa[hf,ho]at this⟩
 have hO:∀b,m'.bz b=m.bz b:=fun b=>by unfold Mem.bz;rw[hh,hhm]
 refine⟨?_,?_,?_⟩
 ·rintro c x ⟨b,p,h1,h2,h3,h4,h5⟩;exact .inl ⟨b,p,h1,h2,h3,h4,hR b p _ h1 h5⟩
 ·rintro c x ⟨b,p,h1,h2,h3,h4,h5⟩;exact .inl ⟨b,p,h1,h2,h3,h4,hW b p _ h1 h5⟩
 ·rintro c ⟨b,p,h1,h2,h3,h4⟩;exact .inl ⟨b,p,h1,h2,by rwa[hb b p h1]at h3,by rwa[hO]at h4⟩
theorem rj (h:fI ρ m w):ρ m.next=none:=by
 cases hp:ρ m.next with
 |none=>rfl
 |some p=>exact absurd (h.my _ _ hp) aj
theorem kX (h:fI ρ m w)(k:dU):∀b p,ρ b=some p->((m.alloc k).blk b)=(m.blk b):=by
 intro b p hp;rw[Mem.cf,bZ];rintro rfl;rw[rj h]at hp;cases hp
theorem fI.bump(h:fI ρ m w)(k:dU):fI ρ (m.alloc k) w:=h.Fo cY (kX h k) rfl rfl rfl
theorem fI.lay(h:fI ρ m w){b:Nat}(hb:ρ b=none)(cA:b<m.next){w':ay}{o:Obj}(Ou:w'.heap=w.heap.push o){p:Pl}(hpc:p.c=w.heap.size)
  (y8:(m.blk b).kind=1->p.d=0/\p.sz=(m.blk b).sz/\(m.blk b).cs.length<=p.room/\∃C e fr,o= .cells C e fr/\p.room<=C.size/\(∀x,x<p.room->¬(fr.1<=x/\x<fr.2))/\
   ∀(i:Nat) v,(m.blk b).cs[i]?=some (some v)->∃v',C[i]?=some v'/\aP ρ v v')
  (VC:(m.blk b).kind=2->∃js,o= .map js (m.blk b).clock/\bC (vb ρ) (m.blk b).es.toList js.toList)
  (Ji:(m.blk b).kind=3->p.d=0/\o= .stringIter (m.blk b).str (m.blk b).pos):fI (ρ.put b p) m w':=by
 have hle:=cZ.tN hb p;have hold:∀c,c<w.heap.size->w'.heap[c]?=w.heap[c]?:=fun c hc=>by rw[Ou,Array.getElem?_push_lt hc];simp[hc]
 have me:w'.heap[w.heap.size]?=some o:=by rw[Ou];simp
 have nR:∀c x,c<w.heap.size->w'.cell? ⟨c,x,none⟩=w.cell? ⟨c,x,none⟩:=fun c x hc=>by unfold ay.cell?;simp only[hold c hc]
 have fN:∀c,c<w.heap.size->w'.shape? c=w.shape? c:=fun c hc=>by unfold ay.shape?;simp only[hold c hc]
 have Dq:∀c x,c<w.heap.size->w'.frozen? ⟨c,x,none⟩=w.frozen? ⟨c,x,none⟩:=fun c x hc=>by unfold ay.frozen?;simp only[hold c hc]
 have dJ:∀b' p',ρ.put b p b'=some p'->(b'=b/\p'=p)\/(b'≠b/\ρ b'=some p'):=by
  intro b' p' du;unfold cZ.put at du
  split at du
  ·rename_i e;exact .inl ⟨e,(Option.some.inj du).symm⟩
  ·rename_i e;exact .inr ⟨e,du⟩
 refine⟨fun b' p' du=>?_,fun b' p' du hk=>?_,fun b' p' x v du hc=>?_,fun b' p' x du hx hk nA=>?_,fun b' p' du hk ho=>?_,fun b' p' du hk ho=>?_,fun x9 x8 nH oG dO h₁ AF k₁ k₂ hc=>?_,fun b' p' du=>?_,fun b' p' du hk wD=>?_⟩
 ·rcases dJ _ _ du with⟨rfl,rfl⟩|⟨_,hq⟩
  ·exact cA
  ·exact h.my _ _ hq
 ·rcases dJ _ _ du with⟨rfl,rfl⟩|⟨_,hq⟩
  ·obtain⟨h0,h1,h2,C,e,fr,rfl,h3,_⟩:=y8 hk;exact⟨h1,h2,e,C.size,by unfold ay.shape?;rw[hpc,me],aj⟩
  ·obtain⟨h1,h2,e,n,h3,h4⟩:=h.cells _ _ hq hk;exact⟨h1,h2,e,n,by rw[fN _ (h.rr _ _ hq)];exact h3,h4⟩
 ·rcases dJ _ _ du with⟨rfl,rfl⟩|⟨_,hq⟩
  ·have hk:=(Mem.eD hc).1;obtain⟨h0,_,_,C,e,fr,rfl,_,_,h5⟩:=y8 hk;have hx:(m.blk b').cs[x]?=some (some v):=by
    unfold Mem.cell at hc
    split at hc
    ·cases hg:(m.blk b').cs[x]? with
     |none=>simp[hg]at hc
     |some u=>cases u<;>simp[hg]at hc;subst hc;rfl
    ·cases hc
   obtain⟨v',Ob,hr⟩:=h5 x v hx;exact⟨v',by unfold ay.cell?;simp only[hpc,me,h0,Nat.zero_add];simpa using Ob,hr.iA hle⟩
  ·obtain⟨v',h1,h2⟩:=h.lP _ _ _ _ hq hc;exact⟨v',by rw[nR _ _ (h.rr _ _ hq)];exact h1,h2.iA hle⟩
 ·rcases dJ _ _ du with⟨rfl,rfl⟩|⟨_,hq⟩
  ·obtain⟨h0,_,_,C,e,fr,rfl,h3,h4,_⟩:=y8 hk;have :=h4 x hx;unfold ay.frozen?;simp only[hpc,me,h0,Nat.zero_add];simpa using this
  ·rw[Dq _ _ (h.rr _ _ hq)];exact h.thaw _ _ _ hq hx hk nA
 ·rcases dJ _ _ du with⟨rfl,rfl⟩|⟨_,hq⟩
  ·obtain⟨js,rfl,h1⟩:=VC hk;exact⟨js,by rw[hpc,me],h1.mono fun _ _ x=>⟨x.1.iA hle,x.2.1.iA hle,x.2.2⟩⟩
  ·obtain⟨js,h1,h2⟩:=h.maps _ _ hq hk ho;exact⟨js,by rw[hold _ (h.rr _ _ hq)];exact h1,h2.mono fun _ _ x=>⟨x.1.iA hle,x.2.1.iA hle,x.2.2⟩⟩
 ·rcases dJ _ _ du with⟨rfl,rfl⟩|⟨_,hq⟩
  ·obtain⟨h0,rfl⟩:=Ji hk;exact⟨h0,by rw[hpc,me]⟩
  ·obtain⟨h1,h2⟩:=h.lC _ _ hq hk ho;exact⟨h1,by rw[hold _ (h.rr _ _ hq)];exact h2⟩
 ·rcases dJ _ _ h₁ with⟨rfl,rfl⟩|⟨Y',Is⟩<;>rcases dJ _ _ AF with⟨rfl,rfl⟩|⟨Y9,Ir⟩
  ·exact absurd rfl dO
  ·have :=h.rr _ _ Ir;omega
  ·have :=h.rr _ _ Is;omega
  ·exact h.sep _ _ _ _ dO Is Ir k₁ k₂ hc
 ·rcases dJ _ _ du with⟨rfl,rfl⟩|⟨_,hq⟩
  ·rw[hpc,Ou];simp
  ·have :=h.rr _ _ hq;rw[Ou];simp;omega
 ·rcases dJ _ _ du with⟨rfl,rfl⟩|⟨_,hq⟩
  ·exact(y8 hk).1
  ·exact h.vars _ _ hq hk wD
theorem vt {b:Nat}(hb:ρ b=none){p:Pl}{N:Nat}(hp:N<=p.c):eJ (aA ρ m) (aA (ρ.put b p) m) N:=by
 have dJ:∀b' p',ρ.put b p b'=some p'->(b'=b/\p'=p)\/ρ b'=some p':=by
  intro b' p' du;unfold cZ.put at du
  split at du
  ·rename_i e;exact .inl ⟨e,(Option.some.inj du).symm⟩
  ·exact .inr du
 refine⟨?_,?_,?_⟩
 ·rintro c x ⟨b',p',h1,rfl,h3⟩;rcases dJ _ _ h1 with⟨_,rfl⟩|h1
  ·exact .inr hp
  ·exact .inl ⟨b',p',h1,rfl,h3⟩
 ·rintro c x ⟨b',p',h1,rfl,h3⟩;rcases dJ _ _ h1 with⟨_,rfl⟩|h1
  ·exact .inr hp
  ·exact .inl ⟨b',p',h1,rfl,h3⟩
 ·rintro c ⟨b',p',h1,rfl,h3⟩;rcases dJ _ _ h1 with⟨_,rfl⟩|h1
  ·exact .inr hp
  ·exact .inl ⟨b',p',h1,rfl,h3⟩
theorem eJ.trans{R eK aiG:Perm}{N:Nat}(h:eJ R eK N)(k:eJ eK aiG N):eJ R aiG N:=
 ⟨fun b o x=>(k.rd b o x).elim (h.rd b o) .inr,fun b o x=>(k.wr b o x).elim (h.wr b o) .inr,fun b x=>(k.ob b x).elim (h.ob b) .inr⟩
theorem fI.kill(h:fI ρ m w)(b:Nat):fI ρ (m.aZ b {}) w:=by
 have fj:∀b',(m.aZ b {}).blk b'=if b=b' then{a9:=m.tick}else m.blk b':=fun b'=>Mem.dy ..
 have dO:∀b',((m.aZ b {}).blk b').kind≠0->b≠b'/\(m.aZ b {}).blk b'=m.blk b':=by
  intro b' hk;rw[fj]at hk⊢
  by_cases hb:b=b'
  ·rw[bK hb]at hk;exact absurd rfl hk
  ·rw[bZ hb];exact⟨hb,rfl⟩
 refine⟨h.my,fun b' p' du hk=>?_,fun b' p' x v du hc=>?_,fun b' p' x du hx hk nA=>?_,fun b' p' du hk ho=>?_,fun b' p' du hk ho=>?_,fun x9 x8 nH oG Ma h₁ AF k₁ k₂ hc=>?_,h.rr,fun b' p' du hk wD=>?_⟩
 ·obtain⟨_,e⟩:=dO b' aj;rw[e]at hk⊢;exact h.cells b' p' du hk
 ·have hk:=(Mem.eD hc).1;obtain⟨_,e⟩:=dO b' aj;refine h.lP b' p' x v du ?_;unfold Mem.cell at hc⊢;rw[e]at hc;exact hc
 ·obtain⟨_,e⟩:=dO b' aj;rw[e]at hk;exact h.thaw b' p' x du hx hk nA
 ·obtain⟨_,e⟩:=dO b' aj;rw[e]at hk⊢;exact h.maps b' p' du hk ho
 ·obtain⟨_,e⟩:=dO b' aj;rw[e]at hk⊢;exact h.lC b' p' du hk ho
 ·obtain⟨_,Y'⟩:=dO x9 k₁;obtain⟨_,Y9⟩:=dO x8 k₂;rw[Y']at k₁⊢;rw[Y9]at k₂⊢;exact h.sep x9 x8 nH oG Ma h₁ AF k₁ k₂ hc
 ·obtain⟨_,e⟩:=dO b' aj;rw[e]at hk wD;exact h.vars b' p' du hk wD
theorem HU (b N:Nat):eJ (aA ρ m) (aA ρ (m.aZ b {})) N:=by
 have fj:∀b',(m.aZ b {}).blk b'=if b=b' then{a9:=m.tick}else m.blk b':=fun b'=>Mem.dy ..
 have dO:∀b',((m.aZ b {}).blk b').kind≠0->(m.aZ b {}).blk b'=m.blk b':=by
  intro b' hk;rw[fj]at hk⊢
  by_cases hb:b=b'
  ·rw[bK hb]at hk;exact absurd rfl hk
  ·rw[bZ hb]
 refine⟨?_,?_,?_⟩
 ·rintro c x ⟨b',p,h1,h2,h3,h4,h5⟩;have e:=dO b' (by have :=h5.1;omega);exact .inl ⟨b',p,h1,h2,h3,h4,by unfold Mem.nI at h5⊢;rw[e]at h5;exact h5⟩
 ·rintro c x ⟨b',p,h1,h2,h3,h4,h5⟩;have e:=dO b' (by have :=h5.1.1;omega);exact .inl ⟨b',p,h1,h2,h3,h4,by unfold Mem.okW Mem.nI at h5⊢;rw[e]at h5;exact h5⟩
 ·rintro c ⟨b',p,h1,h2,h3,h4⟩;have e:=dO b' aj;exact .inl ⟨b',p,h1,h2,by rwa[e]at h3,h4⟩
structure Left (ρ:cZ)(m:Mem)(w:ay)(bq:cZ)(m':Mem)(w':ay):Prop where
 le:ρ.le bq
 jF:fI bq m' w'
 within:eJ (aA ρ m) (aA bq m') w.heap.size
 old:∀b,b<m.next->bq b=ρ b
theorem Left.refl(h:fI ρ m w):Left ρ m w ρ m w:=⟨ρ.le_refl,h,eJ.refl _ _,fun _ _=>rfl⟩
theorem AR {ρ:cZ}{n:Nat}{p:Pl}:∀b,b<n->ρ.put n p b=ρ b:=fun b hb=>cZ.Lh _ _ aj
theorem pk {P:aD}{R:Perm}{N:Nat}{e:aM}{C:Array ae}{Q:Addr->ay->Prop}(hq:Q ⟨w.heap.size,0,none⟩ {w with heap:=w.heap.push (.cells C e)}):dA P R N (newRow e C) Q w:=hq
theorem fI.cz(h:fI ρ m w){sz ps:Nat}{vs:List ae}{C:Array ae}(e:aM)(hlen:vs.length<=C.size)(hv:∀(i:Nat) v,vs[i]?=some v->∃v',C[i]?=some v'/\aP ρ v v'):
  Left ρ m w (ρ.put m.next ⟨w.heap.size,0,C.size,sz⟩) (m.alloc {kind:=1,sz:=sz,cs:=vs.map some,pos:=ps}) {w with heap:=w.heap.push (.cells C e)}:=by
 have hn:=rj h;have kq:(m.alloc {kind:=1,sz:=sz,cs:=vs.map some,pos:=ps}).blk m.next={kind:=1,sz:=sz,cs:=vs.map some,pos:=ps,a9:=m.tick}:=by rw[Mem.cf,bK rfl]
 refine⟨cZ.tN hn _,(h.bump {kind:=1,sz:=sz,cs:=vs.map some,pos:=ps}).lay hn cY (o:= .cells C e) rfl rfl (fun _=>?_) (fun hk=>by rw[kq]at hk;simp at hk) (fun hk=>by rw[kq]at hk;simp at hk),
  (mC (kX h _) rfl rfl rfl rfl _).trans (vt hn (ai _)),AR⟩
 rw[kq];refine⟨rfl,rfl,by simpa using hlen,C,e,(0,0),rfl,ai _,fun x _ hx=>by omega,fun i v hi=>?_⟩;rw[List.getElem?_map,aB]at hi;obtain⟨u,hu,hx⟩:=hi;obtain rfl:u=v:=by simpa using hx
 exact hv i u hu
theorem fI.PV(h:fI ρ m w){sz ps:Nat}{vs:List ae}{qX:List ae}(e:aM)(hv:bC (aP ρ) vs qX):
  Left ρ m w (ρ.put m.next ⟨w.heap.size,0,qX.length,sz⟩) (m.alloc {kind:=1,sz:=sz,cs:=vs.map some,pos:=ps}) {w with heap:=w.heap.push (.cells qX.toArray e)}:=by
 have :=h.cz (sz:=sz) (ps:=ps) (vs:=vs) (C:=qX.toArray) e (by simp[hv.length]) (fun i v hi=>by simpa using hv.get hi);simpa using this
theorem fI.EO(h:fI ρ m w){sz ps:Nat}{G G':Array ae}(e:aM)(hv:bC (aP ρ) G.toList G'.toList):
  Left ρ m w (ρ.put m.next ⟨w.heap.size,0,G'.size,sz⟩) (m.alloc {kind:=1,sz:=sz,cs:=G.toList.map some,pos:=ps}) {w with heap:=w.heap.push (.cells G' e)}:=by
 have :=h.cz (sz:=sz) (ps:=ps) (vs:=G.toList) (C:=G') e (by have :=hv.length;simp at this;simp;omega) (fun i v hi=>by simpa using hv.get hi);exact this
end
end Go.AM
namespace Go.AM
open Go
section types
variable {P:aD}{R:Perm}{N:Nat}{w:ay}{t:aM}
theorem BL {α:Type}{a:α}{Q:α->ay->Prop}(h:Q a w):dA P R N (pure a) Q w:=h
theorem aH {Q:TypeDesc->ay->Prop}{d:TypeDesc}(h:P.underlying t=some d)(hq:Q d w):dA P R N (underlying t) Q w:=by
 unfold underlying;rw[ar]
 show dA P R N (match P.underlying t with |some d=>pure d|none=>stuck "no such type") Q w
 rw[h];exact hq
theorem gU {Q:TypeInfo->ay->Prop}{d:TypeInfo}(h:P.info? t=some d)(hq:Q d w):dA P R N (typeInfo t) Q w:=by
 unfold typeInfo;rw[ar]
 show dA P R N (match P.info? t with |some d=>pure d|none=>stuck "no such type") Q w
 rw[h];exact hq
theorem K4 {n:Nat}(h:dV P t=some n):∃i,P.info? t=some i/\i.size=n:=by
 unfold dV at h;exact aB.1 h
theorem dx {Q:Nat->ay->Prop}{n:Nat}(h:dV P t=some n)(hq:Q n w):dA P R N (sizeOf t) Q w:=by
 obtain⟨i,hi,rfl⟩:=K4 h;unfold sizeOf;rw[ar];exact gU hi hq
theorem Ky {z:ae}(h:gO P t=some z):∃i,P.info? t=some i/\i.zero=some z:=by
 unfold gO at h
 split at h
 ·rename_i i hi
  split at h
  ·rename_i z' hz
   split at h
   ·simp only[ah]at h;subst h;exact⟨i,hi,hz⟩
   ·cases h
  ·cases h
 ·cases h
theorem jG {z:ae}(h:gO P t=some z):z.cells.toList.all cG=true/\dV P t=some z.cells.size:=by
 unfold gO at h
 split at h
 ·rename_i i hi
  split at h
  ·rename_i z' hz
   split at h
   ·rename_i hc;simp only[ah]at h;subst h;simp only[ag,beq_iff_eq]at hc;exact⟨hc.1,by unfold dV;rw[hi,hc.2];rfl⟩
   ·cases h
  ·cases h
 ·cases h
theorem eG {Q:ae->ay->Prop}{z:ae}(h:gO P t=some z)(hq:Q z w):dA P R N (zeroValue t) Q w:=by
 obtain⟨i,hi,hz⟩:=Ky h;unfold zeroValue;rw[ar];refine gU hi ?_;rw[hz];exact hq
theorem uH {Q:Bool->ay->Prop}{b:Bool}(h:wq P t=some b)(hq:Q b w):dA P R N (isAgg t) Q w:=by
 unfold wq at h;obtain⟨d,hd,hb⟩:=aB.1 h;unfold isAgg;rw[ar];refine aH hd ?_;subst hb;cases d<;>exact hq
end types
section
variable {P:aD}{ρ:cZ}{m:Mem}{w:ay}{N:Nat}
theorem zZ (h:fI ρ m w){t:aM}{p p' v:ae}(hp:aP ρ p p')(hl:j9 P t p m=some v){Q:ae->ay->Prop}(hq:∀v',aP ρ v v'->Q v' w):
  dA P (aA ρ m) N (Instr.loadAt t p') Q w:=by
 unfold j9 at hl
 split at hl
 ·rename_i b o;obtain⟨pl,dd,_,rfl⟩:=cH.1 hp;unfold Instr.loadAt loadVar;rw[ar]
  show dA P (aA ρ m) N (isAgg t>>=fun x=>if x=true then(do let n<-sizeOf t;let cs<-loadCells ⟨pl.c,pl.d+o,none⟩ n;pure (.agg cs))else Go.load ⟨pl.c,pl.d+o,none⟩) Q w
  rw[ar]
  split at hl
  ·rename_i ha;obtain⟨n,hn,hl⟩:=bE.1 hl;obtain⟨l,hl2,rfl⟩:=aB.1 hl;refine uH ha ?_;simp only[if_true];rw[ar];refine dx hn ?_;rw[ar];refine h.qN dd hl2 (fun qX Qb=>?_);exact hq _ (gQ.2 ⟨_,rfl,by simpa using Qb⟩)
  ·rename_i ha;obtain⟨l,hl,hh⟩:=bE.1 hl;refine uH ha ?_;simp only[bO,if_false];obtain⟨u,v',h1,h2,h3,h4⟩:=h.z0 dd hl (show 0<1 by omega);have :u=v:=by
    cases l with
    |nil=>simp at hh
    |cons x l=>simp at hh h1;rw[<-h1,hh]
   subst this;exact BM h3 h4 (hq _ h2)
  ·cases hl
 ·cases hl
theorem pf (h:fI ρ m w){b:Nat}{pl:Pl}(dd:ρ b=some pl){o:Nat}{vs qX:List ae}{m':Mem}(hs:m.dD b o vs=some m')(hv:bC (aP ρ) vs qX){Q:Unit->ay->Prop}
  (hq:∀w',Left ρ m w ρ m' w'->w'.drawn=w.drawn->Q () w'):dA P (aA ρ m) N (storeCells ⟨pl.c,pl.d+o,none⟩ qX) Q w:=by
 obtain⟨cs,rfl,hk,Jg,Ce,km⟩:=Mem.qj hs;obtain⟨_,_,pD⟩:=lT Ce;have hlen:=hv.length;refine ph qX 0 w (fun v Ob=>?_) (fun j hj=>?_) (fun w' hw=>hq w' ⟨ρ.le_refl,h.wrote dd hv hk Ce (by simpa using hw),DI hk Ce _,fun _ _=>rfl⟩ hw.drawn)
 ·obtain⟨i,hi⟩:=List.mem_iff_getElem?.1 Ob;obtain⟨u,hu,hr⟩:=hv.get' hi;exact hr.NC (km u (List.mem_of_getElem? hu))
 ·rw[Nat.add_zero,Nat.add_assoc];obtain⟨u,hu⟩:=pD j aj;obtain⟨hh,hf⟩:=Mem.qO Jg (i:=j) aj;have hc:m.cell b (o+j)=some u:=by unfold Mem.cell;rw[bK ⟨hk,hh⟩,hu];rfl
  obtain⟨u',Qc,_⟩:=h.lP b pl _ u dd hc;have hr:=iS h dd hc;have hw:m.okW b (o+j):=⟨Mem.eD hc,hf⟩;exact⟨by rw[Qc];rfl,h.thaw b pl _ dd hr hk (Mem.kH Jg),yt dd hr hw⟩
theorem FX (h:fI ρ m w){t:aM}{p p' x x':ae}{m':Mem}(hp:aP ρ p p')(hx:aP ρ x x')(hs:vz P t p x m=some m'){Q:Unit->ay->Prop}(hq:∀w',Left ρ m w ρ m' w'->Q () w'):
  dA P (aA ρ m) N (Instr.storeAt t p' x') Q w:=by
 unfold vz at hs
 split at hs
 ·rename_i b o;obtain⟨pl,dd,_,rfl⟩:=cH.1 hp
  split at hs
  ·rename_i iB;have hc:=hx.cells;have hl:=hc.length;simp only[Array.length_toList]at hl;unfold Instr.storeAt storeVar;rw[ar]
   show dA P (aA ρ m) N (sizeOf t>>=fun n=>if x'.cells.size≠n then(do stuck "storeVar: the value has not the size of the variable";storeCells ⟨pl.c,pl.d+o,none⟩ x'.cells.toList)else(do pure PUnit.unit;storeCells ⟨pl.c,pl.d+o,none⟩ x'.cells.toList)) Q w
   rw[ar];refine dx iB ?_;rw[bZ (by simpa using hl.symm)];exact pf h dd hs hc fun w' hw _=>hq w' hw
  ·cases hs
 ·cases hs
theorem BQ (h:fI ρ m w){t:aM}{v v':ae}(hv:bC (aP ρ) v.cells.toList v'.cells.toList){sz ps:Nat}{Q:Addr->ay->Prop}
  (hq:∀w' bq,Left ρ m w bq (m.alloc {kind:=1,sz:=sz,cs:=v.cells.toList.map some,pos:=ps}) w'->aP bq (ptrTo m.next 0) (.pointer (some ⟨w.heap.size,0,none⟩))->Q ⟨w.heap.size,0,none⟩ w'):
  dA P (aA ρ m) N (newVar t v') Q w:=by
 unfold newVar;refine pk ?_;have :=h.PV (sz:=sz) (ps:=ps) (vs:=v.cells.toList) t hv;refine hq _ _ (by simpa using this) (cH.2 ⟨_,cZ.kG ..,rfl,rfl⟩)
theorem zi {s:aM}{p p' v:ae}{f:Nat}(hp:aP ρ p p')(hf:r9 P s p f=some v){Q:ae->ay->Prop}{R:Perm}(hq:∀v',aP ρ v v'->Q v' w):dA P R N (Instr.fieldAt s p' f) Q w:=by
 unfold r9 at hf
 split at hf
 ·rename_i fields b o hu
  split at hf
  ·rename_i fd hfd
   split at hf
   ·rename_i k hk;simp only[ah]at hf;subst hf;obtain⟨pl,dd,_,rfl⟩:=cH.1 hp;unfold Instr.fieldAt;rw[ar];refine aH hu ?_
    show dA P R N (match fields[f]? with |some f=>(do let a<-Instr.sureAddr (.pointer (some ⟨pl.c,pl.d+o,none⟩));pure (.pointer (some (<-fieldPlace a f))))|_=>stuck "fieldAddr: no such field") Q w
    rw[hfd]
    show dA P R N (do let a<-(pure (some (<-fieldPlace ⟨pl.c,pl.d+o,none⟩ fd)));pure (.pointer a)) Q w
    unfold fieldPlace;simp only[bind_assoc,pure_bind];rw[ar];refine dx hk ?_;rw[bZ aj];simp only[pure_bind];rw[jd,Nat.add_assoc];exact hq _ (cH.2 ⟨pl,dd,rfl,rfl⟩)
   ·cases hf
  ·cases hf
 ·cases hf
theorem yY {t:aM}{x x' i i' v:ae}(hx:aP ρ x x')(hi:aP ρ i i')(hf:pC P t x i=some v){Q:ae->ay->Prop}{R:Perm}(hq:∀v',aP ρ v v'->Q v' w):dA P R N (Instr.indexAt t x' i') Q w:=by
 unfold pC at hf
 split at hf
 ·rename_i e b o len cap k n hu;obtain⟨pl,ig,dd,_,rfl,_⟩:=bU.1 hx;obtain rfl:=(aG (by rfl)).1 hi
  split at hf
  ·rename_i hb;obtain⟨s,hs,rfl⟩:=aB.1 hf;unfold Instr.indexAt;simp only[asIntOf,pure_bind];rw[ar];refine aH hu ?_;simp only[pure_bind];rw[ar];refine aH hu ?_;simp only[bK hb];rw[ar];refine dx hs ?_;rw[jd,Nat.add_assoc];exact hq _ (cH.2 ⟨pl,dd,rfl,rfl⟩)
  ·cases hf
 ·rename_i len e b o k n hu;obtain⟨pl,dd,_,rfl⟩:=cH.1 hx;obtain rfl:=(aG (by rfl)).1 hi
  split at hf
  ·rename_i hb;obtain⟨s,hs,rfl⟩:=aB.1 hf;unfold Instr.indexAt;simp only[asIntOf,pure_bind];rw[ar];refine aH hu ?_;simp only[Instr.sureAddr,pure_bind];rw[ar];refine aH hu ?_;simp only[bK hb];rw[ar];refine dx hs ?_;rw[jd,Nat.add_assoc];exact hq _ (cH.2 ⟨pl,dd,rfl,rfl⟩)
  ·cases hf
 ·cases hf
theorem zR {t:aM}{cs gL:Array ae}{off:Nat}{v:ae}(hc:bC (aP ρ) cs.toList gL.toList)(hf:Nz P t cs off=some v){Q:ae->ay->Prop}{R:Perm}(hq:∀v',aP ρ v v'->Q v' w):dA P R N (part t gL off) Q w:=by
 unfold Nz at hf;unfold part;rw[ar]
 split at hf
 ·rename_i ha;obtain⟨n,hn,rfl⟩:=aB.1 hf;refine uH ha ?_;simp only[if_true];rw[ar];refine dx hn ?_;refine hq _ (gQ.2 ⟨_,rfl,?_⟩);simp only[Array.toList_extract,List.extract_eq_take_drop];exact(hc.drop off).take _
 ·rename_i ha;refine uH ha ?_;simp only[bO,if_false];obtain⟨v',h1,h2⟩:=hc.get (i:=off) (by simpa using hf);rw[show gL[off]?=some v' by simpa using h1];exact hq _ h2
 ·cases hf
theorem G8 {s:aM}{x x' v:ae}{f:Nat}(hx:aP ρ x x')(hf:G9 P s x f=some v){Q:ae->ay->Prop}{R:Perm}(hq:∀v',aP ρ v v'->Q v' w):dA P R N (Instr.field s x' f) Q w:=by
 unfold G9 at hf
 split at hf
 ·rename_i fields cs hu;obtain⟨fd,hfd,Md⟩:=bE.1 hf;obtain⟨gL,rfl,hc⟩:=gQ.1 hx;unfold Instr.field;rw[ar];refine aH hu ?_;simp only[hfd,asAgg,pure_bind];exact zR hc Md hq
 ·cases hf
theorem GO {t:aM}{x x' i i' v:ae}(hx:aP ρ x x')(hi:aP ρ i i')(hf:vM P t x i=some v){Q:ae->ay->Prop}{R:Perm}(hq:∀v',aP ρ v v'->Q v' w):dA P R N (Instr.index t x' i') Q w:=by
 unfold vM at hf
 split at hf
 ·rename_i len e cs k n hu;obtain⟨gL,rfl,hc⟩:=gQ.1 hx;obtain rfl:=(aG (by rfl)).1 hi
  split at hf
  ·rename_i hb;obtain⟨s,hs,Md⟩:=bE.1 hf;unfold Instr.index;simp only[asIntOf,pure_bind];rw[ar];refine aH hu ?_;simp only[bK hb];rw[ar];refine dx hs ?_;exact zR hc Md hq
  ·cases hf
 ·cases hf
theorem we {v:ae}{d y h:Nat}{code:BoundsCode}(hb:jP (some v) d=some h)(hy:h<=y){Q:Nat->ay->Prop}{R:Perm}(hq:Q h w):dA P R N (Instr.sliceBound v y code) Q w:=by
 unfold jP at hb
 split at hb
 ·rename_i e;cases e
 ·rename_i k n e;cases e
  split at hb
  ·simp only[ah]at hb;subst hb;simp only[Instr.sliceBound,asIntOf,pure_bind];rw[bK ⟨nZ,aj⟩];exact hq
  ·cases hb
 ·cases hb
theorem uk {d h:Nat}(hb:jP none d=some h):h=d:=by simpa[jP]using hb.symm
theorem kO {isS:Bool}{len cap l h:Nat}{lo hi:Option ae}(hl:jP lo 0=some l)(hh:jP hi len=some h)(hlh:l<=h)(hc:h<=cap){Q:Nat×Nat×Nat->ay->Prop}{R:Perm}(hq:Q (l,h,cap) w):
  dA P R N (Instr.sliceBounds isS len cap lo hi none) Q w:=by
 unfold Instr.sliceBounds;simp only[pure_bind];cases hi with
 |none=>
  obtain rfl:=uk hh;cases lo with
  |none=>obtain rfl:=uk hl;exact hq
  |some v=>
   simp only[];rw[ar];exact we hl hlh hq
 |some u=>
  simp only[];rw[ar];refine we hh hc ?_;cases lo with
  |none=>obtain rfl:=uk hl;exact hq
  |some v=>
   simp only[];rw[ar];exact we hl hlh hq
def Hy (ρ:cZ):Option ae->Option ae->Prop
 |none,none=>True
 |some a,some b=>aP ρ a b
 |_,_=>False
theorem qZ {v:Option ae}{v':Option ae}(h:Hy ρ v v'){d n:Nat}(hb:jP v d=some n):v'=v:=by
 unfold jP at hb
 split at hb
 ·cases v' with
  |none=>rfl
  |some b=>exact h.elim
 ·cases v' with
  |none=>exact h.elim
  |some b=>rw[(aG (by rfl)).1 h]
 ·cases hb
theorem F5 (acO:fI ρ m w){t:aM}{x x' v:ae}{lo hi lo' GV:Option ae}(hx:aP ρ x x')(lD:Hy ρ lo lo')(hhi:Hy ρ hi GV)(hf:iR P t x lo hi m=some v)
  {Q:ae->ay->Prop}{R:Perm}(hq:∀v',aP ρ v v'->Q v' w):dA P R N (Instr.sliceAt t x' lo' GV none) Q w:=by
 unfold iR at hf
 split at hf
 ·rename_i e b o len cap hu
  split at hf
  ·rename_i l h s hl hh hs;obtain rfl:=qZ lD hl;obtain rfl:=qZ hhi hh;obtain⟨pl,ig,dd,_,rfl,nS⟩:=bU.1 hx;unfold Instr.sliceAt;rw[ar];refine aH hu ?_;simp only[Instr.slice];rw[ar];refine aH hu ?_;simp only[];rw[ar]
   split at hf
   ·rename_i hc;rw[bK hc]at nS
    split at hf
    ·rename_i hb;simp only[ah]at hf;subst hf;refine kO hl hh hb.1 aj ?_;simp only[];rw[ar];refine dx hs ?_;refine hq _ (bU.2 ⟨pl,ig-l,dd,rfl,?_,?_⟩)
     ·congr 1
      rcases hb.2.2 with h0|h0
      ·subst h0;split<;>simp[jd]
      ·rw[bZ aj];simp only[cT,jd,Nat.add_assoc]
     ·rw[bK rfl];refine⟨aj,?_⟩;rcases hb.2.2 with h0|⟨h0,h1,h2⟩
      ·subst h0;simp;exact nS.2
      ·obtain⟨iB,_⟩:=acO.cells b pl dd h1;have e2:pl.sz=s:=by rw[iB,h2]
       rw[e2]at nS⊢;have :l*s+(ig-l)*s=ig*s:=by rw[<-Nat.add_mul];congr 1;omega
       simp only[];have h3:=nS.2;simp only at h3;omega
    ·cases hf
   ·rename_i hc;rw[bZ hc]at nS;subst nS
    split at hf
    ·rename_i hb;simp only[ah]at hf;subst hf;refine kO hl hh hb.2.1 hb.2.2 ?_;simp only[];rw[ar];refine dx hs ?_
     by_cases h0:ig=l
     ·simp only[h0,if_true];exact hq _ (by rw[bK h0];exact bU.2 ⟨pl,l-l,dd,rfl,rfl,by rw[bZ (by unfold fp;omega)];omega⟩)
     ·simp only[h0,if_false,cT,jd,Nat.add_assoc];exact hq _ (by rw[bZ h0];exact bU.2 ⟨pl,ig-l,dd,rfl,rfl,by rw[bZ (by have :=hb.1;omega)]⟩)
    ·cases hf
  ·cases hf
 ·rename_i e len cap hu
  split at hf
  ·rename_i l h s hl hh hs;obtain rfl:=qZ lD hl;obtain rfl:=qZ hhi hh;obtain rfl:=(aG (by rfl)).1 hx
   split at hf
   ·rename_i hb;simp only[ah]at hf;subst hf;unfold Instr.sliceAt;rw[ar];refine aH hu ?_;simp only[Instr.slice];rw[ar];refine aH hu ?_;simp only[];rw[ar];refine kO hl hh hb.2.1 hb.2.2 ?_;simp only[];rw[ar];refine dx hs ?_;have e1:(if cap=l then(none:Option Addr)else Option.map (fun x:Addr=>x.add (l*s)) none)=none:=by split<;>rfl
    rw[e1];exact hq _ ((aG (by rfl)).2 rfl)
   ·cases hf
  ·cases hf
 ·rename_i n e b o hu
  split at hf
  ·rename_i l h s hl hh hs;obtain rfl:=qZ lD hl;obtain rfl:=qZ hhi hh;obtain⟨pl,dd,_,rfl⟩:=cH.1 hx
   split at hf
   ·rename_i hb;simp only[ah]at hf;subst hf;unfold Instr.sliceAt;rw[ar];refine aH hu ?_;simp only[Instr.sureAddr,pure_bind];rw[ar];refine kO hl hh hb.2.1 hb.2.2 ?_;simp only[];rw[ar];refine dx hs ?_
    by_cases h0:n=l
    ·simp only[h0,if_true];exact hq _ (by rw[bK h0];exact bU.2 ⟨pl,n-l,dd,rfl,by rw[h0],by rw[bZ (by have :=hb.1;omega)]⟩)
    ·simp only[h0,if_false,jd,Nat.add_assoc];exact hq _ (by rw[bZ h0];exact bU.2 ⟨pl,n-l,dd,rfl,rfl,by rw[bZ (by have :=hb.1;omega)]⟩)
   ·cases hf
  ·cases hf
 ·cases hf
end
end Go.AM
namespace Go.AM
open Go
section
variable {P:aD}{ρ:cZ}{m:Mem}{w:ay}{N:Nat}
theorem DZ {l l':List ae}(h:bC (aP ρ) l l')(off:Nat):∀{cs gL:Array ae} (j:Nat),bC (aP ρ) cs.toList gL.toList->
  bC (aP ρ) ((l.zipIdx j).foldl (fun cs (x:ae×Nat)=>cs.setIfInBounds (off+x.2) x.1) cs).toList ((l'.zipIdx j).foldl (fun cs (x:ae×Nat)=>cs.setIfInBounds (off+x.2) x.1) gL).toList:=by
 induction l generalizing l' with
 |nil=>intro cs gL j hc;cases l' with
  |nil=>exact hc
  |cons _ _=>exact h.elim
 |cons a l ih=>
  intro cs gL j hc;cases l' with
  |nil=>exact h.elim
  |cons b l'=>
   simp only[List.zipIdx_cons,List.foldl_cons];refine ih h.2 (j+1) ?_;simp only[Array.toList_setIfInBounds];exact hc.set h.1 _
theorem wH (cs v:Array ae)(off:Nat):(v.zipIdx.foldl (fun(cs:Array ae) (x:ae×Nat)=>cs.setIfInBounds (off+x.2) x.1) cs)=(v.toList.zipIdx.foldl (fun cs (x:ae×Nat)=>cs.setIfInBounds (off+x.2) x.1) cs):=by
 rw[<-Array.foldl_toList,Array.toList_zipIdx]
theorem xL {place:Nat->Option (Nat×Nat)}:∀{parts vE:List (Nat×ae)} {cs gL r:Array ae},bC (fun a b=>b.1=a.1/\aP ρ a.2 b.2) parts vE->bC (aP ρ) cs.toList gL.toList->
  Instr.fill place cs parts=some r->∃r',Instr.fill place gL vE=some r'/\bC (aP ρ) r.toList r'.toList:=by
 intro parts
 induction parts with
 |nil=>
  intro vE cs gL r hp hc h;cases vE with
  |cons _ _=>exact hp.elim
  |nil=>
   simp only[Instr.fill,ah]at h⊢;subst h;exact⟨_,rfl,hc⟩
 |cons x parts ih=>
  intro vE cs gL r hp hc h;cases vE with
  |nil=>exact hp.elim
  |cons y vE=>
   obtain⟨i,v⟩:=x;obtain⟨i',v'⟩:=y;obtain⟨⟨rfl,hv⟩,hp⟩:=hp;simp only[Instr.fill]at h⊢;cases dd:place i' with
   |none=>rw[dd]at h;cases h
   |some q=>
    obtain⟨off,size⟩:=q;rw[dd]at h;simp only[]at h⊢;have VS:=hv.cells;have e1:v'.cells.size=v.cells.size:=by simpa using VS.length.symm
    have e2:gL.size=cs.size:=by simpa using hc.length.symm
    rw[e1,e2]
    split at h
    ·cases h
    ·rename_i VQ;rw[bZ VQ];refine ih hp ?_ h;rw[wH,wH];exact DZ VS off 0 hc
theorem yq {t:aM}{z:ae}(h:gO P t=some z):bC (aP ρ) z.cells.toList z.cells.toList:=gS (jG h).1
theorem tU {l:Array ae}(h:l.toList.all cG=true)(i:Nat):cG (l[i]!)=true:=by
 by_cases hi:i<l.size
 ·rw[getElem!_pos l i hi];exact aE.1 h _ cY
 ·rw[getElem!_neg l i hi];rfl
theorem uF {t:aM}{z:ae}(h:gO P t=some z)(n:Nat):bC (aP ρ) ((Array.range n).map (z.cells[·%z.cells.size]!)).toList ((Array.range n).map (z.cells[·%z.cells.size]!)).toList:=by
 refine gS ?_;rw[aE];intro x hx;simp only[Array.toList_map,List.mem_map]at hx;obtain⟨i,_,rfl⟩:=hx;exact tU (jG h).1 _
theorem Hs {t:aM}{ps:List (Nat×ae)}{ps':Array (Nat×ae)}{v:ae}(hp:bC (fun a b=>b.1=a.1/\aP ρ a.2 b.2) ps ps'.toList)(hb:C3 P t ps=some v)
  {Q:ae->ay->Prop}{R:Perm}(hq:∀v',aP ρ v v'->Q v' w):dA P R N (Instr.build t ps') Q w:=by
 unfold C3 at hb
 split at hb
 ·rename_i z fields LW hu
  split at hb
  ·rename_i places dd;obtain⟨r,hr,rfl⟩:=aB.1 hb;obtain⟨r',wC,yZ⟩:=xL hp (yq LW) hr;unfold Instr.build;rw[ar];refine eG LW ?_;simp only[];rw[ar];refine aH hu ?_;simp only[];rw[ar];have key:∀(l:List Field) (pl:List (Nat×Nat)) (Q:List (Nat×Nat)->ay->Prop),l.mapM (m:=Option) (fun f=>(dV P f.type).map fun n=>(f.offset,n))=some pl->Q pl w->
     dA P R N (l.mapM (m:=Sem) fun f=>do pure (f.offset,<-sizeOf f.type)) Q w:=by
    intro l
    induction l with
    |nil=>intro pl Q h hq;simp at h;subst h;simpa using BL hq
    |cons f l ih=>
     intro pl Q h hq;rw[List.mapM_cons]at h⊢;simp only[Option.bind_eq_bind,bE,aB,Option.pure_def,ah]at h;obtain⟨x,⟨n,hn,rfl⟩,ys,hys,rfl⟩:=h;simp only[bind_assoc,pure_bind];rw[ar];refine dx hn ?_;rw[ar];exact ih ys _ hys (BL hq)
   rw[Array.mapM_eq_mapM_toList]at dd⊢;simp only[Option.map_eq_map,aB]at dd;obtain⟨pl,dd,rfl⟩:=dd;rw[<-bind_pure_comp,ar];refine key fields.toList pl _ dd ?_
   show dA P R N (pure pl.toArray) _ w
   refine BL ?_;simp only[wC];exact hq _ (gQ.2 ⟨_,rfl,yZ⟩)
  ·cases hb
 ·rename_i z n e LW hu;obtain⟨s,hs,mr⟩:=bE.1 hb;obtain⟨r,hr,rfl⟩:=aB.1 mr;obtain⟨r',wC,yZ⟩:=xL hp (yq LW) hr;unfold Instr.build;rw[ar];refine eG LW ?_;simp only[];rw[ar];refine aH hu ?_;simp only[];rw[ar];refine dx hs ?_;simp only[wC];exact hq _ (gQ.2 ⟨_,rfl,yZ⟩)
 ·cases hb
theorem yd (h:fI ρ m w){t:aM}{n:Nat}{ps:List (Nat×ae)}{ps':Array (Nat×ae)}{v:ae}{m':Mem}(hp:bC (fun a b=>b.1=a.1/\aP ρ a.2 b.2) ps ps'.toList)
  (hb:bI P t n ps m=some (v,m')){Q:ae->ay->Prop}{R:Perm}(hq:∀v' w' bq,Left ρ m w bq m' w'->aP bq v v'->Q v' w'):dA P R N (Instr.buildSlice t n ps') Q w:=by
 unfold bI at hb
 split at hb
 ·rename_i e hu
  split at hb
  ·rename_i size z hs LW
   split at hb
   ·cases hb
   ·rename_i iB;obtain⟨r,hr,mr⟩:=aB.1 hb;simp only[au]at mr;obtain⟨rfl,rfl⟩:=mr;obtain⟨r',wC,yZ⟩:=xL hp (uF LW _) hr;unfold Instr.buildSlice;rw[ar];refine aH hu ?_;simp only[];rw[ar];refine dx hs ?_;rw[bZ aj];have fin:dA P R N (do
      let a<-newRow e r'
      pure (.slice (some a) n n)) Q w:=by
     rw[ar];refine pk ?_;have hL:=h.EO (sz:=size) (ps:=0) (G:=r) (G':=r') e yZ;refine hq _ _ _ hL (bU.2 ⟨_,n,cZ.kG ..,rfl,rfl,?_⟩);rw[bZ aj]
    by_cases h0:n*size=0
    ·rw[bK h0];have e0:(Array.range (n*size)).map (fun x=>(#[]:Array ae)[x%(#[]:Array ae).size]!)=(Array.range (n*size)).map (fun x=>z.cells[x%z.cells.size]!):=by rw[h0];simp
     show dA P R N (match Instr.fill (fun i=>some (i*size,size)) ((Array.range (n*size)).map (fun x=>(#[]:Array ae)[x%(#[]:Array ae).size]!)) ps'.toList with
      |some cells=>(do let a<-newRow e cells;pure (.slice (some a) n n))
      |_=>stuck "buildSlice: a part of the wrong size") Q w
     rw[e0,wC];exact fin
    ·rw[bZ h0];simp only[bind_assoc,pure_bind];rw[ar];refine eG LW ?_;simp only[wC];exact fin
  ·cases hb
 ·cases hb
theorem yQ (h:fI ρ m w){t:aM}{l l' c c' v:ae}{m':Mem}(hl:aP ρ l l')(hc:aP ρ c c')(hb:fV P t l c m=some (v,m')){Q:ae->ay->Prop}{R:Perm}
  (hq:∀v' w' bq,Left ρ m w bq m' w'->aP bq v v'->Q v' w'):dA P R N (Instr.makeSlice t l' c') Q w:=by
 unfold fV at hb
 split at hb
 ·rename_i e l c hu;obtain rfl:=(aG (by rfl)).1 hl;obtain rfl:=(aG (by rfl)).1 hc
  split at hb
  ·rename_i i z hi hz
   split at hb
   ·rename_i VQ;simp only[ah,au]at hb;obtain⟨rfl,rfl⟩:=hb;obtain⟨h1,h2,h3,h4⟩:=VQ;have hs:dV P e=some i.size:=by unfold dV;rw[hi];rfl
    have w1:bX.i64.wrap l=l:=by unfold bX.wrap;simp[bX.min,bX.max,bX.signed,bX.bits];omega
    have w2:bX.i64.wrap c=c:=by unfold bX.wrap;simp[bX.min,bX.max,bX.signed,bX.bits];omega
    unfold Instr.makeSlice;rw[ar];refine aH hu ?_;simp only[asInt,asIntOf,pure_bind];rw[ar];refine gU hi ?_;simp only[w1,w2];have h5:(i.bytes:Int)*c<=1099511627776:=by rw[Int.mul_comm];exact h3
    have n1:(decide (c<0)||decide ((i.bytes:Int)*c>2^48))=false:=by
     simp only[Bool.or_eq_false_iff,decide_eq_false_iff_not];omega
    rw[n1];have n2:(false||decide (l<0)||decide (l>c))=false:=by
     simp only[Bool.false_or,Bool.or_eq_false_iff,decide_eq_false_iff_not];omega
    rw[n2];simp only[bO,if_false];rw[ar];have ru:dA P R N (askRoom (c.toNat*i.bytes)) (fun _ w'=>w'=w) w:=by
     unfold askRoom
     split
     ·exact⟨trivial,rfl⟩
     ·rfl
    refine IG ru ?_;intro _ w' e';rw[e'];rw[ar];refine dx hs ?_;have fin:dA P R N (do
      let a<-newRow e ((Array.range (c.toNat*i.size)).map (z.cells[·%z.cells.size]!))
      pure (.slice (some a) l.toNat c.toNat)) Q w:=by
     rw[ar];refine pk ?_;have hL:=h.EO (sz:=i.size) (ps:=0) (G:=(Array.range (c.toNat*i.size)).map (z.cells[·%z.cells.size]!)) e (uF hz _);refine hq _ _ _ hL (bU.2 ⟨_,c.toNat,cZ.kG ..,rfl,rfl,?_⟩);rw[bZ (by unfold fp;omega)]
    by_cases h0:c.toNat*i.size=0
    ·rw[bK h0];have e0:(Array.range (c.toNat*i.size)).map (fun x=>(#[]:Array ae)[x%(#[]:Array ae).size]!)=(Array.range (c.toNat*i.size)).map (fun x=>z.cells[x%z.cells.size]!):=by rw[h0];simp
     show dA P R N (do
      let a<-newRow e ((Array.range (c.toNat*i.size)).map (fun x=>(#[]:Array ae)[x%(#[]:Array ae).size]!))
      pure (.slice (some a) l.toNat c.toNat)) Q w
     rw[e0];exact fin
    ·rw[bZ h0];rw[ar];exact eG hz fin
   ·cases hb
  ·cases hb
 ·cases hb
theorem oL (h:fI ρ m w){size n:Nat}{x x':ae}(hx:aP ρ x x'){l:List ae}(hf:kr m size n x=some l){Q:Array ae->ay->Prop}
  (hq:∀l':List ae,bC (aP ρ) l l'->Q l'.toArray w):dA P (aA ρ m) N (Builtin.firstCells size n x') Q w:=by
 unfold kr at hf
 split at hf
 ·rename_i b o len cap;obtain⟨pl,ig,dd,_,rfl,_⟩:=bU.1 hx;exact h.qN dd hf hq
 ·rename_i len cap;obtain rfl:=(aG (by rfl)).1 hx;simp only[ah]at hf;subst hf;exact hq [] trivial
 ·rename_i s;obtain rfl:=(aG (by rfl)).1 hx
  split at hf
  ·rename_i hc;simp only[ah]at hf;subst hf;have e:(s.extract 0 n).data.map (fun b=>(ae.int .u8 b.toNat))=(s.data.toList.map fun b=>(ae.int .u8 b.toNat)).toArray:=by
    rw[hc.2];have :s.extract 0 s.size=s:=by
     apply ByteArray.ext;simp
    rw[this];apply Array.ext';simp
   show Q ((s.extract 0 n).data.map fun b=>(ae.int .u8 b.toNat)) w
   rw[e];exact hq _ (gS (by rw[aE];intro x hx;obtain⟨b,_,rfl⟩:=List.mem_map.1 hx;rfl))
  ·cases hf
 ·cases hf
theorem B3 {x x':ae}(hx:aP ρ x x'){n:Nat}(hf:B4 x=some n){Q:Nat->ay->Prop}{R:Perm}(hq:Q n w):dA P R N (Builtin.lenOf x') Q w:=by
 unfold B4 at hf
 split at hf
 ·rename_i a l c;simp only[ah]at hf;subst hf;cases a with
  |none=>obtain rfl:=(aG (by rfl)).1 hx;exact hq
  |some a=>obtain⟨pl,ig,_,_,rfl,_⟩:=bU.1 hx;exact hq
 ·simp only[ah]at hf;subst hf;obtain rfl:=(aG (by rfl)).1 hx;exact hq
 ·cases hf
theorem C' (h:fI ρ m w){b o len n size:Nat}{pl:Pl}(dd:ρ b=some pl)(hk:(m.blk b).kind=1)(iB:(m.blk b).sz=size)(u6:m.fq b=true)(pD:((m.blk b).cs.drop o).all (·.isSome)=true)
  {old new xj:List ae}(hold:fY ((m.blk b).cs.drop o) (len*size)=some old)(me:bC (aP ρ) new xj)(hnl:new.length=n*size)(ru:o+(len+n)*size<=pl.room)
  {w':ay}(hw:Aq w w' pl.c (pl.d+o+len*size) xj):
  Left ρ m w (ρ.put m.next ⟨pl.c,pl.d+o,pl.room-o,size⟩) ((m.aZ b {}).alloc {kind:=1,sz:=size,cs:=(old++new).map some}) w':=by
 have hn:=rj h;have Y0:b<m.next:=h.my b pl dd;obtain⟨Xg,hl2⟩:=qJ hold;obtain⟨Oc,hfo⟩:=Mem.lX u6;obtain⟨amn,hcr,e0,n0,acQ,hn0⟩:=h.cells b pl dd hk;have hmul:(len+n)*size=len*size+n*size:=Nat.add_mul ..;have akB:xj.length=n*size:=by rw[<-me.length,hnl]
 have kq:∀b',((m.aZ b {}).alloc {kind:=1,sz:=size,cs:=(old++new).map some}).blk b'=if m.next=b' then{kind:=1,sz:=size,cs:=(old++new).map some,a9:=m.tick+1}else if b=b' then{a9:=m.tick}else m.blk b':=by
  intro b';rw[Mem.cf,Mem.dy];rfl
 have kg:∀b',b'≠m.next->(((m.aZ b {}).alloc {kind:=1,sz:=size,cs:=(old++new).map some}).blk b').kind≠0->b'≠b/\((m.aZ b {}).alloc {kind:=1,sz:=size,cs:=(old++new).map some}).blk b'=m.blk b':=by
  intro b' iL gf;rw[kq,bZ (Ne.symm iL)]at gf⊢
  by_cases nA:b=b'
  ·rw[bK nA]at gf;exact absurd rfl gf
  ·rw[bZ nA];exact⟨Ne.symm nA,rfl⟩
 generalize hM:(m.aZ b {}).alloc {kind:=1,sz:=size,cs:=(old++new).map some}=M at kq kg⊢;have hMn:M.next=m.next+1:=by rw[<-hM];rfl
 have Oz:M.bB=m.bB:=by rw[<-hM];rfl
 have hMf:M.floor=m.floor:=by rw[<-hM];rfl
 have hMo:M.opn=m.opn:=by rw[<-hM];rfl
 have Jq:M.base=m.base:=by rw[<-hM];rfl
 have hMm:M.home=m.home:=by rw[<-hM];rfl
 have Vw:∀b',M.bz b'=m.bz b':=fun b'=>by unfold Mem.bz;rw[Oz,hMm]
 have Ac:M.blk m.next={kind:=1,sz:=size,cs:=(old++new).map some,a9:=m.tick+1}:=by rw[kq,bK rfl]
 have dJ:∀b' p',ρ.put m.next ⟨pl.c,pl.d+o,pl.room-o,size⟩ b'=some p'->(b'=m.next/\p'=⟨pl.c,pl.d+o,pl.room-o,size⟩)\/(b'≠m.next/\ρ b'=some p'):=by
  intro b' p' du;unfold cZ.put at du
  split at du
  ·rename_i e;exact .inl ⟨e,(Option.some.inj du).symm⟩
  ·rename_i e;exact .inr ⟨e,du⟩
 have Vz:∀x,m.nI b (o+x):=fun x=>⟨hk,dR Oc _,fun cA=>by
  have h1:=aE.1 pD;obtain⟨y,hy⟩:∃y,((m.blk b).cs.drop o)[x]?=some y:=⟨_,List.getElem?_eq_getElem (by simp;omega)⟩;have h2:=h1 y (List.mem_of_getElem? hy);obtain⟨v,rfl⟩:=iz.1 h2;rw[List.getElem?_drop]at hy;exact⟨v,hy⟩⟩
 have Vy:∀x,m.okW b (o+x):=fun x=>⟨Vz x,hfo.imp id fun y=>j5 y _⟩
 have VS:=cZ.tN hn ⟨pl.c,pl.d+o,pl.room-o,size⟩;refine⟨VS,⟨fun b' p' du=>?_,fun b' p' du gf=>?_,fun b' p' x v du hc=>?_,fun b' p' x du hx gf nA=>?_,fun b' p' du gf pZ=>?_,fun b' p' du gf pZ=>?_,fun x9 x8 nH oG dO h₁ AF k₁ k₂ hc=>?_,fun b' p' du=>?_,fun b' p' du gf wD=>?_⟩,⟨?_,?_,?_⟩,AR⟩
 ·rcases dJ _ _ du with⟨rfl,rfl⟩|⟨_,hq⟩
  ·omega
  ·have :=h.my _ _ hq;omega
 ·rcases dJ _ _ du with⟨rfl,rfl⟩|⟨iL,hq⟩
  ·rw[Ac];refine⟨rfl,?_,e0,n0,by rw[hw.shape];exact acQ,?_⟩
   ·simp only[List.length_map,List.length_append];omega
   ·show pl.d+o+(pl.room-o)<=n0;omega
  ·obtain⟨_,e⟩:=kg b' iL aj;rw[e]at gf⊢;obtain⟨g1,g2,e1,n1,g3,g4⟩:=h.cells _ _ hq gf;exact⟨g1,g2,e1,n1,by rw[hw.shape];exact g3,g4⟩
 ·rcases dJ _ _ du with⟨rfl,rfl⟩|⟨iL,hq⟩
  ·have hx:(old++new)[x]?=some v:=by
    unfold Mem.cell at hc;rw[Ac]at hc
    split at hc
    ·simp only[List.getElem?_map]at hc;cases hg:(old++new)[x]? with
     |none=>simp[hg]at hc
     |some u=>simp[hg]at hc;rw[hc]
    ·cases hc
   show∃v',w'.cell? ⟨pl.c,pl.d+o+x,none⟩=some v'/\_
   rw[hw.cell];rcases Nat.lt_or_ge x (len*size)with cA|Ad
   ·rw[List.getElem?_append_left aj]at hx;obtain⟨u,hu,hu2⟩:=hl2 x cA;rw[hu2]at hx;cases hx;rw[List.getElem?_drop]at hu;have nR:m.cell b (o+x)=some v:=by unfold Mem.cell;rw[bK ⟨hk,dR Oc _⟩,hu];rfl
    obtain⟨v',hv1,hv2⟩:=h.lP b pl _ v dd nR;refine⟨v',?_,hv2.iA VS⟩;rw[bZ aj,show pl.d+o+x=pl.d+(o+x) by omega];exact hv1
   ·rw[List.getElem?_append_right aj]at hx;obtain⟨v',hv1,hv2⟩:=me.get hx;have :x-old.length<xj.length:=by
     rcases Nat.lt_or_ge (x-old.length) xj.length with h1|h1
     ·exact h1
     ·rw[List.getElem?_eq_none h1]at hv1;cases hv1
    refine⟨v',?_,hv2.iA VS⟩;rw[bK ⟨aj,aj⟩,show pl.d+o+x-(pl.d+o+len*size)=x-old.length by omega];exact hv1
  ·have hkM:=(Mem.eD hc).1;obtain⟨nA,e⟩:=kg b' iL aj;have E5:m.cell b' x=some v:=by unfold Mem.cell at hc⊢;rw[e,Oz]at hc;exact hc
   obtain⟨v',hv1,hv2⟩:=h.lP b' p' x v hq E5;refine⟨v',?_,hv2.iA VS⟩;have gf:=(Mem.eD E5).1;have wC:=iS h hq E5
   by_cases wE:p'.c=pl.c
   ·have :=(h.sep b b' pl p' (Ne.symm nA) dd hq aj aj wE.symm).2.2;rw[wE,hw.cell,bZ aj,<-wE];exact hv1
   ·rw[hw.CV wE];exact hv1
 ·rw[hw.qP];rcases dJ _ _ du with⟨rfl,rfl⟩|⟨iL,hq⟩
  ·have :=h.thaw b pl (o+x) dd (by simp only at hx;omega) hk (Mem.rV u6);rw[<-Nat.add_assoc]at this;exact this
  ·obtain⟨_,e⟩:=kg b' iL aj;rw[e]at gf;rw[Jq]at nA;exact h.thaw b' p' x hq hx gf nA
 ·rcases dJ _ _ du with⟨rfl,rfl⟩|⟨iL,hq⟩
  ·rw[Ac]at gf;simp at gf
  ·obtain⟨nA,e⟩:=kg b' iL aj;rw[e]at gf⊢;rw[Vw]at pZ;obtain⟨js,g1,g2⟩:=h.maps _ _ hq gf pZ;have dO:p'.c≠pl.c:=fun wE=>by have :=(h.sep b b' pl p' (Ne.symm nA) dd hq aj aj wE.symm).2.1;omega
   exact⟨js,by rw[hw.others _ dO];exact g1,g2.mono fun _ _ x=>⟨x.1.iA VS,x.2.1.iA VS,x.2.2⟩⟩
 ·rcases dJ _ _ du with⟨rfl,rfl⟩|⟨iL,hq⟩
  ·rw[Ac]at gf;simp at gf
  ·obtain⟨nA,e⟩:=kg b' iL aj;rw[e]at gf⊢;rw[Vw]at pZ;obtain⟨g1,g2⟩:=h.lC _ _ hq gf pZ;have dO:p'.c≠pl.c:=fun wE=>by have :=(h.sep b b' pl p' (Ne.symm nA) dd hq aj aj wE.symm).2.1;omega
   exact⟨g1,by rw[hw.others _ dO];exact g2⟩
 ·rcases dJ _ _ h₁ with⟨rfl,rfl⟩|⟨aaB,aat⟩<;>rcases dJ _ _ AF with⟨rfl,rfl⟩|⟨aaA,aas⟩
  ·exact absurd rfl dO
  ·obtain⟨nA,e⟩:=kg x8 aaA k₂;rw[e]at k₂⊢;have :=h.sep b x8 pl oG (Ne.symm nA) dd aas aj k₂ hc;rw[Ac];refine⟨rfl,this.2.1,?_⟩
   show pl.room-o=0\/oG.room=0\/pl.d+o+(pl.room-o)<=oG.d\/oG.d+oG.room<=pl.d+o
   omega
  ·obtain⟨nA,e⟩:=kg x9 aaB k₁;rw[e]at k₁⊢;have :=h.sep b x9 pl nH (Ne.symm nA) dd aat aj k₁ hc.symm;rw[Ac];refine⟨this.2.1,rfl,?_⟩
   show nH.room=0\/pl.room-o=0\/nH.d+nH.room<=pl.d+o\/pl.d+o+(pl.room-o)<=nH.d
   omega
  ·obtain⟨_,Y'⟩:=kg x9 aaB k₁;obtain⟨_,Y9⟩:=kg x8 aaA k₂;rw[Y']at k₁⊢;rw[Y9]at k₂⊢;exact h.sep x9 x8 nH oG dO aat aas k₁ k₂ hc
 ·rw[hw.size];rcases dJ _ _ du with⟨rfl,rfl⟩|⟨iL,hq⟩
  ·exact h.rr b pl dd
  ·exact h.rr _ _ hq
 ·rcases dJ _ _ du with⟨rfl,rfl⟩|⟨iL,hq⟩
  ·rw[Ac]at wD;simp at wD
  ·obtain⟨_,e⟩:=kg b' iL aj;rw[e]at gf wD;exact h.vars b' p' hq gf wD
 ·rintro c x ⟨b',p',g1,g2,g3,g4,g5⟩;rcases dJ _ _ g1 with⟨rfl,rfl⟩|⟨iL,hq⟩
  ·simp only at g3 g4;refine .inl ⟨b,pl,dd,g2,aj,aj,?_⟩;rw[show x-pl.d=o+(x-(pl.d+o)) by omega];exact Vz _
  ·obtain⟨_,e⟩:=kg b' iL (by have :=g5.1;omega);exact .inl ⟨b',p',hq,g2,g3,g4,by unfold Mem.nI at g5⊢;rw[e,Oz]at g5;exact g5⟩
 ·rintro c x ⟨b',p',g1,g2,g3,g4,g5⟩;rcases dJ _ _ g1 with⟨rfl,rfl⟩|⟨iL,hq⟩
  ·simp only at g3 g4;refine .inl ⟨b,pl,dd,g2,aj,aj,?_⟩;rw[show x-pl.d=o+(x-(pl.d+o)) by omega];exact Vy _
  ·obtain⟨_,e⟩:=kg b' iL (by have :=g5.1.1;omega);exact .inl ⟨b',p',hq,g2,g3,g4,by unfold Mem.okW Mem.nI at g5⊢;rw[e,Oz,hMf,hMo]at g5;exact g5⟩
 ·rintro c ⟨b',p',g1,g2,g3,g4⟩;rcases dJ _ _ g1 with⟨rfl,rfl⟩|⟨iL,hq⟩
  ·rw[Ac]at g3;simp at g3
  ·obtain⟨_,e⟩:=kg b' iL aj;exact .inl ⟨b',p',hq,g2,by rwa[e]at g3,by rwa[Vw]at g4⟩
end
end Go.AM
namespace Go.AM
open Go
section
variable {P:aD}{ρ:cZ}{m:Mem}{w:ay}{N:Nat}
theorem IH {n:Nat}{R:Perm}{Q:Unit->ay->Prop}(hq:Q () w):dA P R N (askRoom n) Q w:=by
 unfold askRoom
 split
 ·exact⟨trivial,hq⟩
 ·exact hq
theorem Pu (h:fI ρ m w)(d:Nat):fI ρ m {w with drawn:=d}:=h.keeps (bh.at _ _ _)
theorem Av {z:ae}(hz:z.cells.toList.all cG=true)(n:Nat):(Builtin.zeroCells z.cells n).toList.all cG=true:=by
 unfold Builtin.zeroCells;rw[aE];intro x hx;simp only[Array.toList_map,List.mem_map]at hx;obtain⟨i,_,rfl⟩:=hx;exact tU hz _
theorem Bd (z:Array ae)(n:Nat):(Builtin.zeroCells z n).size=n*z.size:=by simp[Builtin.zeroCells]
theorem Mt (need old:Nat)(e:aM)(t:Nat)(h:need<=2^46):need<=(Question.appendCap need old e).cut t/\(Question.appendCap need old e).cut t<fp:=by
 simp only[Question.cut];have :t%(2^63-need)<2^63-need:=Nat.mod_lt _ aj;unfold fp;omega
theorem K' {w:ay}{c e n x:Nat}(h:w.shape? c=some (e,n))(hx:x<n):(w.cell? ⟨c,x,none⟩).isSome=true:=by
 unfold ay.shape? at h;unfold ay.cell?
 split at h
 ·rename_i C e' f hh;simp only[ah,au]at h;simp only[hh];have :x<C.size:=aj;simp[this]
 ·cases h
theorem Iz {b o:Nat}(hk:(m.blk b).kind=1)(u6:m.fq b=true)(pD:((m.blk b).cs.drop o).all (·.isSome)=true):∀x,m.okW b (o+x):=by
 obtain⟨Oc,hfo⟩:=Mem.lX u6;refine fun x=>⟨⟨hk,dR Oc _,fun cA=>?_⟩,hfo.imp id fun y=>j5 y _⟩
 have h1:=aE.1 pD;obtain⟨y,hy⟩:∃y,((m.blk b).cs.drop o)[x]?=some y:=⟨_,List.getElem?_eq_getElem (by simp;omega)⟩;have h2:=h1 y (List.mem_of_getElem? hy);obtain⟨v,rfl⟩:=iz.1 h2;rw[List.getElem?_drop]at hy;exact⟨v,hy⟩
def qH (ρ:cZ)(len cap:Nat)(base uq:Option Addr)(ig:Nat):Prop:=
 match base with
 |some a=>∃p,ρ a.block=some p/\a.spot=none/\uq=some ⟨p.c,p.d+a.off,none⟩/\(if cap=fp then len<=ig/\a.off+ig*p.sz<=p.room else ig=cap)
 |none=>uq=none/\ig=cap
theorem qH.of{len cap:Nat}{base:Option Addr}{s':ae}(h:aP ρ (.slice base len cap) s'):∃uq ig,s'= .slice uq len ig/\qH ρ len cap base uq ig:=by
 cases base with
 |none=>obtain rfl:=(aG (by rfl)).1 h;exact⟨none,cap,rfl,rfl,rfl⟩
 |some a=>obtain⟨p,ig,h1,h2,h3,h4⟩:=bU.1 h;exact⟨_,ig,h3,p,h1,h2,rfl,h4⟩
theorem qH.exact{len cap ig:Nat}{base uq:Option Addr}(h:qH ρ len cap base uq ig)(hc:cap≠fp):ig=cap:=by
 cases base with
 |none=>exact h.2
 |some a=>obtain⟨p,_,_,_,h4⟩:=h;rw[bZ hc]at h4;exact h4
theorem tH {n old:Nat}{e:aM}{R:Perm}{Q:Nat->ay->Prop}(hn:n<=2^46)(hq:∀nc,n<=nc->nc<fp->Q nc {w with drawn:=w.drawn+1}):dA P R N (choose (.appendCap n old e)) Q w:=by
 obtain⟨G2,Mh⟩:=Mt n old e (w.tape w.drawn (.appendCap n old e)) hn;exact hq _ G2 Mh
set_option maxHeartbeats 1000000 in
theorem Ed(h:fI ρ m w){ly:Array aM}{ty:aM}{s s' x x' v:ae}{m':Mem}(hs:aP ρ s s')(hx:aP ρ x x')(ha:cJ P ly s x m=some (v,m'))
  {Q:ae->ay->Prop}(hq:∀v' w' bq,Left ρ m w bq m' w'->aP bq v v'->Q v' w'):dA P (aA ρ m) N (Builtin.append_ ly ty #[s',x']) Q w:=by
 unfold cJ at ha
 split at ha
 ·rename_i e xt base len cap ei hxt;obtain⟨st,LZ,ei⟩:=bE.1 ei
  split at ha
  ·rename_i size n xe Od hlen hxu
   split at ha
   ·cases ha
   ·rename_i new me
    split at ha
    ·cases ha
    ·rename_i Ov;have Cn:y9 P e (len+n)=true:=by
      cases hg:y9 P e (len+n)with
      |false=>exact absurd (.inl hg) Ov
      |true=>rfl
     have hnl:new.length=n*size:=Decidable.byContradiction fun hg=>Ov (.inr (.inl hg))
     have ahl:∀u∈new,u.oneCell'=true:=by
      cases hg:new.all (·.oneCell')with
      |false=>exact absurd (.inr (.inr hg)) Ov
      |true=>exact fun u hu=>aE.1 hg u hu
     clear Ov;unfold y9 at Cn
     split at Cn
     case h_2=>cases Cn
     rename_i i hi;simp only[ag,jE]at Cn;obtain⟨⟨⟨hb0,nX⟩,mr⟩,hz⟩:=Cn;obtain⟨z,hz⟩:=iz.1 hz;obtain⟨hzp,hzs⟩:=jG hz;have akl:z.cells.size=size:=by rw[Od]at hzs;exact(Option.some.inj hzs).symm
     obtain⟨uq,ig,rZ,nS⟩:=qH.of hs;subst rZ;have amb:(len+n)*size=len*size+n*size:=Nat.add_mul ..;unfold Builtin.append_;simp only[LZ,hxt,List.getElem?_toArray,List.getElem?_cons_zero,List.getElem?_cons_succ];rw[ar];refine aH ei ?_;simp only[];rw[ar];refine dx Od ?_;rw[ar];refine aH hxu ?_;simp only[pure_bind,bO,if_false,Bool.not_false,if_true,false_or];rw[ar];refine B3 hx hlen ?_
     by_cases nN:len+n<=ig
     ·rw[bK nN,ar];refine oL h hx me fun xj xF=>?_
      by_cases hc:cap=fp
      ·rw[bK hc]at ha
       split at ha
       ·rename_i b o;obtain⟨pl,dd,_,rfl,nS⟩:=nS;rw[bK hc]at nS;simp only[jd]at dd nS⊢;rw[ar];simp only[]at ha
        split at ha
        ·rename_i hk;simp only[ag,beq_iff_eq]at hk;obtain⟨⟨⟨On,Om⟩,Mc⟩,hk4⟩:=hk
         split at ha
         ·rename_i old hold;simp only[ah,au]at ha;obtain⟨rfl,rfl⟩:=ha;obtain⟨akz,hcr,e0,n0,acQ,hn0⟩:=h.cells b pl dd On;have ahg:pl.sz=size:=by rw[akz,Om]
          rw[ahg]at nS;have hmul:(len+n)*size<=ig*size:=Nat.mul_le_mul_right _ nN;have Vy:=Iz On Mc hk4;have akB:xj.length=n*size:=by rw[<-xF.length,hnl]
          refine ph xj 0 w (fun u hu=>?_) (fun j hj=>?_) (fun w' hw=>?_)
          ·obtain⟨i,hi⟩:=List.mem_iff_getElem?.1 hu;obtain⟨u',Qc,hr⟩:=xF.get' hi;exact hr.NC (ahl _ (List.mem_of_getElem? Qc))
          ·have e2:pl.d+o+len*size+0+j=pl.d+(o+(len*size+j)):=aj;rw[e2];have EY:o+(len*size+j)<pl.room:=aj;exact⟨K' acQ aj,h.thaw b pl _ dd EY On (Mem.rV Mc),yt dd EY (Vy _)⟩
          ·rw[Nat.add_zero]at hw;have hL:=C' h dd On Om Mc hk4 hold xF hnl (n:=n) aj hw;refine hq _ _ _ hL (bU.2 ⟨_,ig,cZ.kG ..,rfl,rfl,?_⟩);rw[bK rfl];refine⟨nN,?_⟩
           show 0+ig*size<=pl.room-o
           omega
         ·cases ha
        ·cases ha
       ·cases ha
      ·rw[bZ hc]at ha;obtain rfl:=nS.exact hc;rw[bK nN]at ha;cases base with
       |none=>
        obtain⟨rfl,_⟩:=nS;simp only[ah,au]at ha;obtain⟨rfl,rfl⟩:=ha;exact hq _ _ _ (Left.refl h) ((aG (by rfl)).2 rfl)
       |some a=>
        obtain⟨pl,dd,aap,rfl,nS⟩:=nS;obtain⟨b,o,sp⟩:=a;simp only at aap dd nS;subst aap;simp only[jd];rw[ar];obtain⟨m2,yn,VY⟩:=aB.1 ha;simp only[au]at VY;obtain⟨rfl,rfl⟩:=VY;have :=pf (P:=P) (N:=N) h dd yn xF (Q:=fun _ w'=>Q (.slice (some ⟨pl.c,pl.d+o,none⟩) (len+n) ig) w') (fun w' hL _=>hq _ _ _ hL (bU.2 ⟨pl,ig,dd,rfl,rfl,by rw[bZ hc]⟩));rw[show pl.d+o+len*size=pl.d+(o+len*size) by omega];exact this
     ·
      have cA:ig<len+n:=aj;rw[bZ nN,ar];refine gU hi ?_;rw[bZ (by rintro⟨_,h2⟩;omega),ar];refine gU hi ?_;have amr:=growslice_fits (need:=len+n) (old:=ig) (bytes:=i.bytes) cA aj;rw[bZ aj,ar];refine tH mr fun nc hn1 hn2=>?_
      generalize aam:({w with drawn:=w.drawn+1}:ay)=aN;have h₁:fI ρ m aN:=by rw[<-aam];exact Pu h _
      have ag6:aN.heap.size=w.heap.size:=by rw[<-aam]
      rw[ar];refine gU hi ?_;rw[ar];refine IH ?_;rw[ar];obtain⟨old,hold,YM,nP⟩:∃old,kr m size len (.slice base len cap)=some old/\old.length=len*size/\
        ∀(C:Array ae),(old++new).length<=C.size->nc*size<=C.size->(∀(i:Nat) v,(old++new)[i]?=some v->∃v',C[i]?=some v'/\aP ρ v v')->Q (.slice (some ⟨aN.heap.size,0,none⟩) (len+n) nc) {aN with heap:=aN.heap.push (.cells C e)}:=by
       by_cases hc:cap=fp
       ·rw[bK hc]at ha
        split at ha
        ·rename_i b o;obtain⟨pl,dd,_,_,_⟩:=nS;simp only[]at ha
         split at ha
         ·rename_i hk;simp only[ag,beq_iff_eq]at hk;obtain⟨⟨⟨On,Om⟩,Mc⟩,hk4⟩:=hk
          split at ha
          ·rename_i old hold;simp only[ah,au]at ha;obtain⟨rfl,rfl⟩:=ha;refine⟨old,?_,(qJ hold).1,fun C hC1 hC2 hC3=>?_⟩
           ·show m.dv b o (len*size)=some old
            unfold Mem.dv;simp only[];rw[bK (by rw[On,gu (Mem.lX Mc).1];rfl)];exact hold
           ·have hL:=(h₁.kill b).cz (sz:=size) (ps:=0) (vs:=old++new) (C:=C) e hC1 hC3;have hL':Left ρ m w _ _ _:=⟨hL.le,hL.jF,by rw[<-ag6];exact(HU b _).trans hL.within,hL.old⟩;refine hq _ _ _ hL' (bU.2 ⟨_,nc,cZ.kG ..,rfl,congrArg (fun k=>ae.slice (some ⟨aN.heap.size,k,none⟩) (len+n) nc) (Nat.zero_add 0).symm,?_⟩);rw[bK rfl];exact⟨hn1,by simpa using hC2⟩
          ·cases ha
         ·cases ha
        ·cases ha
       ·rw[bZ hc]at ha;obtain rfl:=nS.exact hc;rw[bZ aj]at ha
        split at ha
        ·rename_i old hold
         split at ha
         ·rename_i YM;simp only[ah,au]at ha;obtain⟨rfl,rfl⟩:=ha;refine⟨old,hold,YM,fun C hC1 hC2 hC3=>?_⟩;have hL:=(h₁.cz (sz:=size) (ps:=0) (vs:=old++new) (C:=C) e hC1 hC3);have hL':Left ρ m w _ _ _:=⟨hL.le,hL.jF,by rw[<-ag6];exact hL.within,hL.old⟩;refine hq _ _ _ hL' (bU.2 ⟨_,nc,cZ.kG ..,rfl,congrArg (fun k=>ae.slice (some ⟨aN.heap.size,k,none⟩) (len+n) nc) (Nat.zero_add 0).symm,?_⟩);rw[bK rfl];exact⟨hn1,by simpa using hC2⟩
         ·cases ha
        ·cases ha
      refine oL h₁ hs hold fun X3 kg=>?_
      rw[ar];refine oL h₁ hx me fun xj xF=>?_
      rw[ar];refine eG hz ?_;rw[ar];refine pk ?_;have hzl:=Bd z.cells (nc-(len+n));have Xg:=kg.length;have hl2:=xF.length;have hnc:nc*size=(len+n)*size+(nc-(len+n))*size:=by rw[<-Nat.add_mul];congr 1;omega
      refine nP _ ?_ ?_ fun i v hi=>?_
      ·simp only[Array.size_append,List.size_toArray,List.length_append];omega
      ·simp only[Array.size_append,List.size_toArray,hzl,akl];omega
      ·obtain⟨v',h1,h2⟩:=(kg.append xF).get hi;refine⟨v',?_,h2⟩;have cA:i<(X3++xj).length:=by
        rcases Nat.lt_or_ge i (X3++xj).length with g|g
        ·exact g
        ·rw[List.getElem?_eq_none g]at h1;cases h1
       have e0:X3.toArray++xj.toArray=(X3++xj).toArray:=cY;rw[e0,Array.getElem?_append_left (by simpa using cA)];simpa using h1
  ·cases ha
 ·cases ha
end
end Go.AM
