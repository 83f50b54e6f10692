/-
  What the claim stands on, part 1.
-/
import Derived.Calls
import Derived.Laws.Sem
import Derived.Conc.Events
import Derived.Laws.Append
set_option linter.unusedVariables false
set_option linter.unusedSimpArgs false
open Go renaming Value → ae, World → au, Program → aD, TypeId → aM, Operand → bX, IntKind → cf, Oper → gU
open Bool renaming and_eq_true → ag, false_eq_true → bU
open Option.some renaming injEq → ah
open Nat renaming le_refl → ai, lt_of_lt_of_le → aW, le_trans → cp
open Prod.mk renaming injEq → ay
open List renaming all_eq_true → aB, mem_cons → aI
open Option renaming map_eq_some_iff → aC, bind_eq_some_iff → bD, map_some → cN, isSome_iff_exists → iA
namespace Go.AM
open Go
structure dJ where
 kind:Nat:=0
 sz:Nat:=0
 cs:List (Option ae):=[]
 es:Array MapEntry:=#[]
 clock:Nat:=0
 str:ByteArray:= .empty
 pos:Nat:=0
 aZ:Nat:=0
def G1 {α:Type}(d:α):List α->Nat->α->List α
 | [],0,v=>[v]
 | [],i+1,v=>d::G1 d [] i v
 |_::t,0,v=>v::t
 |x::t,i+1,v=>x::G1 d t i v
def Cs {α:Type}(d:α):List α->Nat->α
 | [],_=>d
 |x::_,0=>x
 |_::t,i+1=>Cs d t i
structure N8 (α:Type) where
 a:α
 b:α
 c:α
 d:α
 e:α
 f:α
 g:α
 h:α
def N8.all{α:Type}(x:α):N8 α:=⟨x,x,x,x,x,x,x,x⟩
def N8.get{α:Type}(n:N8 α)(i:Nat):α:=
 match i with
 |0=>n.a
 |1=>n.b
 |2=>n.c
 |3=>n.d
 |4=>n.e
 |5=>n.f
 |6=>n.g
 |_=>n.h
def N8.put{α:Type}(n:N8 α)(i:Nat)(x:α):N8 α:=
 match n with
 |⟨a,b,c,d,e,f,g,h⟩=>
  match i with
  |0=>⟨x,b,c,d,e,f,g,h⟩
  |1=>⟨a,x,c,d,e,f,g,h⟩
  |2=>⟨a,b,x,d,e,f,g,h⟩
  |3=>⟨a,b,c,x,e,f,g,h⟩
  |4=>⟨a,b,c,d,x,f,g,h⟩
  |5=>⟨a,b,c,d,e,x,g,h⟩
  |6=>⟨a,b,c,d,e,f,x,h⟩
  |_=>⟨a,b,c,d,e,f,g,x⟩
theorem N8.Hp{α:Type}(x:α)(i:Nat):(N8.all x).get i=x:=by
 unfold N8.get N8.all
 split<;>rfl
theorem N8.get_put{α:Type}(n:N8 α)(x:α){i j:Nat}(hi:i<8)(hj:j<8):(n.put i x).get j=if i=j then x else n.get j:=by
 match i,j,hi,hj with
 |0,0,_,_|0,1,_,_|0,2,_,_|0,3,_,_|0,4,_,_|0,5,_,_|0,6,_,_|0,7,_,_=>rfl
 |1,0,_,_|1,1,_,_|1,2,_,_|1,3,_,_|1,4,_,_|1,5,_,_|1,6,_,_|1,7,_,_=>rfl
 |2,0,_,_|2,1,_,_|2,2,_,_|2,3,_,_|2,4,_,_|2,5,_,_|2,6,_,_|2,7,_,_=>rfl
 |3,0,_,_|3,1,_,_|3,2,_,_|3,3,_,_|3,4,_,_|3,5,_,_|3,6,_,_|3,7,_,_=>rfl
 |4,0,_,_|4,1,_,_|4,2,_,_|4,3,_,_|4,4,_,_|4,5,_,_|4,6,_,_|4,7,_,_=>rfl
 |5,0,_,_|5,1,_,_|5,2,_,_|5,3,_,_|5,4,_,_|5,5,_,_|5,6,_,_|5,7,_,_=>rfl
 |6,0,_,_|6,1,_,_|6,2,_,_|6,3,_,_|6,4,_,_|6,5,_,_|6,6,_,_|6,7,_,_=>rfl
 |7,0,_,_|7,1,_,_|7,2,_,_|7,3,_,_|7,4,_,_|7,5,_,_|7,6,_,_|7,7,_,_=>rfl
abbrev Hp1:=N8 dJ
abbrev Hp2:=N8 Hp1
abbrev Hp3:=N8 Hp2
abbrev Hp4:=N8 Hp3
def hp1:Hp1:=N8.all {}
def hp2:Hp2:=N8.all hp1
def hp3:Hp3:=N8.all hp2
def hp4:Hp4:=N8.all hp3
abbrev ji:=List Hp4
def rW (b k:Nat):Nat:=Nat.mod (Nat.div b k) 8
def Vv (n:Hp4)(b:Nat):dJ:=(((n.get (rW b 512)).get (rW b 64)).get (rW b 8)).get (Nat.mod b 8)
def abP (n:Hp4)(b:Nat)(k:dJ):Hp4:=
 n.put (rW b 512) ((n.get (rW b 512)).put (rW b 64) (((n.get (rW b 512)).get (rW b 64)).put (rW b 8) ((((n.get (rW b 512)).get (rW b 64)).get (rW b 8)).put (Nat.mod b 8) k)))
def ji.get(h:ji)(b:Nat):dJ:=Vv (Cs hp4 h (Nat.div b 4096)) b
def ji.put(h:ji)(b:Nat)(k:dJ):ji:=G1 hp4 h (Nat.div b 4096) (abP (Cs hp4 h (Nat.div b 4096)) b k)
abbrev Span:=Nat×Nat×Option Nat
def bz (l:List Span)(b o:Nat):Bool:=l.any fun s=>decide (s.1<=b)&&decide (b<s.2.1)&&(match s.2.2 with |none=>true|some y=>y==o)
def gT (l:List Span)(b:Nat):Bool:=l.any fun s=>decide (s.1<=b)&&decide (b<s.2.1)&&s.2.2.isNone
def meets (l:List Span)(b o n:Nat):Bool:=l.any fun s=>decide (s.1<=b)&&decide (b<s.2.1)&&(match s.2.2 with |none=>true|some y=>decide (o<=y)&&decide (y<o+n))
def aL (l:List Span)(b:Nat):Bool:=l.any fun s=>decide (s.1<=b)&&decide (b<s.2.1)
structure AX where
 lo:Nat
 hi:Nat
 oO:List Span
 bl:List Span
 heap:ji
structure Mem where
 heap:ji
 next:Nat
 tick:Nat
 base:Nat
 home:Nat
 floor:Nat
 opn:List Span
 bl:List Span
 wg:Option Nat
 pend:List AX
 deaf:Nat
def Mem.blk(m:Mem)(b:Nat):dJ:=m.heap.get b
def Mem.a8(m:Mem)(b:Nat)(k:dJ):Mem:={m with heap:=m.heap.put b {k with aZ:=m.tick},tick:=m.tick+1}
def Mem.alloc(m:Mem)(k:dJ):Mem:={m with heap:=m.heap.put m.next {k with aZ:=m.tick},tick:=m.tick+1,next:=m.next+1}
def fX:List (Option ae)->Nat->Option (List ae)
 |_,0=>some []
 |some v::t,n+1=>(fX t n).map (v::·)
 |_,_=>none
def eA:List (Option ae)->Nat->List ae->Option (List (Option ae))
 |l,_,[]=>some l
 |some _::t,0,v::vs=>(eA t 0 vs).map (some v::·)
 |x::t,i+1,vs=>(eA t i vs).map (x::·)
 |_,_,_=>none
def Mem.dB(m:Mem)(b o n:Nat):Option (List ae):=
 let k:=m.blk b
 if k.kind==1&&!meets m.bl b o n then fX (k.cs.drop o) n else none
def Mem.cS(m:Mem)(b o n:Nat):Bool:=
 !meets m.bl b o n&&decide (m.base<=b)&&(decide (m.floor<=b)||gT m.opn b||(List.range n).all fun i=>bz m.opn b (o+i))
def Mem.dK(m:Mem)(b o:Nat)(vs:List ae):Option Mem:=
 let k:=m.blk b
 if k.kind==1&&m.cS b o vs.length&&vs.all (·.oneCell')then(eA k.cs o vs).map fun cs=>m.a8 b {k with cs:=cs}else none
def Mem.ft(m:Mem)(b:Nat):Bool:=!aL m.bl b&&decide (m.base<=b)&&(decide (m.floor<=b)||gT m.opn b)
def Mem.bg(m:Mem)(b:Nat):Bool:=!aL m.bl b&&decide (m.home<=b)
def cD:Nat:=18446744073709551616
def cR:ae->Bool
 | .bool _| .int _ _| .string _| .nilIface| .nilFunc| .pointer none| .slice none _ _| .map none=>true
 |_=>false
def plain:ae->Bool
 | .agg cs=>cs.toList.all cR
 | .tuple cs=>cs.toList.all cR
 |v=>cR v
def ptrTo (b o:Nat):ae:= .pointer (some ⟨b,o,none⟩)
def _root_.Go.Sem.aH{α:Type}(P:aD):Sem α->Option α
 | .pure a=>some a
 | .program k=>(k P).aH P
 |_=>none
def yv (P:aD)(t:aM):Option Bool:=(P.underlying t).map fun d=>match d with | .struct _| .array _ _=>true|_=>false
def ep (P:aD)(t:aM):Option Nat:=(P.info? t).map (·.size)
def gL (P:aD)(t:aM):Option ae:=
 match P.info? t with
 |some i=>match i.zero with
  |some z=>if z.cells.toList.all cR&&z.cells.size==i.size then some z else none
  |none=>none
 |none=>none
def j9 (P:aD)(t:aM)(p:ae)(m:Mem):Option ae:=
 match p with
 | .pointer (some ⟨b,o,none⟩)=>
  match yv P t with
  |some true=>(ep P t).bind fun n=>(m.dB b o n).map fun l=> .agg l.toArray
  |some false=>(m.dB b o 1).bind (·.head?)
  |none=>none
 |_=>none
def vZ (P:aD)(t:aM)(p x:ae)(m:Mem):Option Mem:=
 match p with
 | .pointer (some ⟨b,o,none⟩)=>if ep P t=some x.cells.size then m.dK b o x.cells.toList else none
 |_=>none
def cE (m:Mem)(sz:Nat)(cs:List ae):ae×Mem:=(ptrTo m.next 0,m.alloc {kind:=1,sz:=sz,cs:=cs.map some,pos:=1})
def N6 (P:aD)(t:aM)(cs:Array ae)(off:Nat):Option ae:=
 match yv P t with
 |some true=>(ep P t).map fun n=> .agg (cs.extract off (off+n))
 |some false=>cs[off]?
 |none=>none
def sH (P:aD)(s:aM)(p:ae)(f:Nat):Option ae:=
 match P.underlying s,p with
 |some (.struct fields),.pointer (some ⟨b,o,none⟩)=>
  match fields[f]? with
  |some fd=>match ep P fd.type with
   |some (_+1)=>some (ptrTo b (o+fd.offset))
   |_=>none
  |none=>none
 |_,_=>none
def Ht (P:aD)(s:aM)(x:ae)(f:Nat):Option ae:=
 match P.underlying s,x with
 |some (.struct fields),.agg cs=>(fields[f]?).bind fun fd=>N6 P fd.type cs fd.offset
 |_,_=>none
def pM (P:aD)(t:aM)(x i:ae):Option ae:=
 match P.underlying t,x,i with
 |some (.slice e),.slice (some ⟨b,o,none⟩) len _,.int _ n=>
  if 0<=n/\n<len then(ep P e).map fun s=>ptrTo b (o+n.toNat*s)else none
 |some (.array len e),.pointer (some ⟨b,o,none⟩),.int _ n=>
  if 0<=n/\n<len then(ep P e).map fun s=>ptrTo b (o+n.toNat*s)else none
 |_,_,_=>none
def wo (P:aD)(t:aM)(x i:ae):Option ae:=
 match P.underlying t,x,i with
 |some (.array len e),.agg cs,.int _ n=>if 0<=n/\n<len then(ep P e).bind fun s=>N6 P e cs (n.toNat*s)else none
 |_,_,_=>none
def jW (v:Option ae)(d:Nat):Option Nat:=
 match v with
 |none=>some d
 |some (.int _ n)=>if 0<=n then some n.toNat else none
 |_=>none
def jb (P:aD)(t:aM)(x:ae)(lo hi:Option ae)(m:Mem):Option ae:=
 match P.underlying t,x with
 |some (.slice e),.slice (some ⟨b,o,none⟩) len cap=>
  match jW lo 0,jW hi len,ep P e with
  |some l,some h,some s=>
   if cap=cD then
    (if l<=h/\h<=len/\(l=0\/(l<len/\(m.blk b).kind=1/\(m.blk b).sz=s))then some (.slice (some ⟨b,o+l*s,none⟩) (h-l) cD)else none)
   else if cap<cD/\l<=h/\h<=cap then some (.slice (some (if cap=l then⟨b,o,none⟩else⟨b,o+l*s,none⟩)) (h-l) (cap-l))else none
  |_,_,_=>none
 |some (.slice e),.slice none len cap=>
  match jW lo 0,jW hi len,ep P e with
  |some l,some h,some s=>if cap<cD/\l<=h/\h<=cap then some (.slice none (h-l) (cap-l))else none
  |_,_,_=>none
 |some (.array n e),.pointer (some ⟨b,o,none⟩)=>
  match jW lo 0,jW hi n,ep P e with
  |some l,some h,some s=>if n<cD/\l<=h/\h<=n then some (.slice (some (if n=l then⟨b,o,none⟩else⟨b,o+l*s,none⟩)) (h-l) (n-l))else none
  |_,_,_=>none
 |_,_=>none
def kA (m:Mem)(size n:Nat):ae->Option (List ae)
 | .slice (some ⟨b,o,none⟩) _ _=>m.dB b o (n*size)
 | .slice none _ _=>some []
 | .string s=>if size=1/\n=s.size then some (s.data.toList.map fun b=> .int .u8 b.toNat)else none
 |_=>none
def Cv:ae->Option Nat
 | .slice _ n _=>some n
 | .string s=>some s.size
 |_=>none
def zt (P:aD)(e:aM)(need:Nat):Bool:=match P.info? e with |some i=>decide (0<i.bytes)&&decide (need*i.bytes<=2^46)&&decide (need<=2^46)&&(gL P e).isSome|none=>false
def cK (P:aD)(lB:Array aM)(s x:ae)(m:Mem):Option (ae×Mem):=
 match(lB[0]?).bind P.underlying,lB[1]?,s with
 |some (.slice e),some xt,.slice base len cap=>
  match ep P e,Cv x,P.underlying xt with
  |some size,some n,some (.slice _)=>
   match kA m size n x with
   |none=>none
   |some new=>
    if zt P e (len+n)=false\/new.length≠n*size\/new.all (·.oneCell')=false then none else
    if cap=cD then
     match base with
     |some ⟨b,o,none⟩=>
      let k:=m.blk b
      if k.kind==1&&k.sz==size&&m.ft b&&(k.cs.drop o).all (·.isSome)then
       match fX (k.cs.drop o) (len*size)with
       |some old=>
        let m':=(m.a8 b {}).alloc {kind:=1,sz:=size,cs:=(old++new).map some}
        some (.slice (some ⟨m.next,0,none⟩) (len+n) cD,m')
       |none=>none
      else none
     |_=>none
    else if len+n<=cap then
     match base with
     |some ⟨b,o,none⟩=>(m.dK b (o+len*size) new).map fun m'=>(.slice base (len+n) cap,m')
     |none=>some (.slice none (len+n) cap,m)
     |_=>none
    else match kA m size len s with
     |some old=>if old.length=len*size then some (.slice (some ⟨m.next,0,none⟩) (len+n) cD,m.alloc {kind:=1,sz:=size,cs:=(old++new).map some})else none
     |none=>none
  |_,_,_=>none
 |_,_,_=>none
def yi (P:aD)(lB:Array aM)(d s:ae)(m:Mem):Option (ae×Mem):=
 match(lB[0]?).bind P.underlying,d with
 |some (.slice e),.slice base dl _=>
  match ep P e,Cv s with
  |some size,some sl=>
   match s with
   | .slice .. =>
    (kA m size (Nat.min sl dl) s).bind fun cells=>
     match base with
     |some ⟨b,o,none⟩=>(m.dK b o cells).map fun m'=>(goInt (Nat.min sl dl:Nat),m')
     |none=>some (goInt (Nat.min sl dl:Nat),m)
     |_=>none
   |_=>none
  |_,_=>none
 |_,_=>none
def mX (P:aD)(lB:Array aM)(x:ae)(m:Mem):Option (ae×Mem):=
 match(lB[0]?).bind P.underlying,x with
 |some (.slice e),.slice base n _=>
  match base with
  |none=>some (.tuple #[],m)
  |some ⟨b,o,none⟩=>
   if n=0 then some (.tuple #[],m)
   else(gL P e).bind fun z=>(m.dK b o (Builtin.zeroCells z.cells n).toList).map fun m'=>(.tuple #[],m')
  |_=>none
 |_,_=>none
def rK (P:aD)(t:aM)(xc yc:Bool)(x y:ae):Option Bool:=
 match P.underlying t,x,y with
 |some (.pointer _),.pointer none,.pointer b=>some b.isNone
 |some (.pointer _),.pointer (some _),.pointer none=>some false
 |some (.slice _),.slice none _ _,.slice b _ _=>some b.isNone
 |some (.slice _),.slice (some _) _ _,.slice none _ _=>some false
 |some (.interface _),.nilIface,.nilIface=>if xc||yc then some true else none
 |some (.interface _),.nilIface,.iface _ _=>some false
 |some (.interface _),.iface _ _,.nilIface=>some false
 |_,_,_=>none
def isConst:bX->Bool
 | .const _=>true
 |_=>false
def strKeys:List MapEntry->Bool
 | []=>true
 |e::es=>(match e.key with | .string _=>true|_=>false)&&strKeys es
def kX (s:ByteArray):List MapEntry->Nat->Option (Nat×ae)
 | [],_=>none
 |e::es,i=>match e.key with | .string k=>if s==k then some (i,e.val)else kX s es (i+1)|_=>none
def Ap (P:aD)(kt:aM)(k:ae):List MapEntry->Nat->Option (Option (Nat×ae))
 | [],_=>some none
 |e::es,i=>if plain e.key then(match(Op.equal kt k e.key).aH P with
  |some true=>some (some (i,e.val))
  |some false=>Ap P kt k es (i+1)
  |none=>none)else none
def y8 (P:aD)(kt:aM)(b:Nat)(k:ae)(m:Mem):Option (Option (Nat×ae)):=
 if(m.blk b).kind==2&&m.bg b&&plain k&&(P.underlying kt).isSome&&((Instr.checkKey true 10000 kt k).aH P).isSome&&((Instr.checkKey false 10000 kt k).aH P).isSome then Ap P kt k (m.blk b).es.toList 0 else none
def sA (P:aD)(kt et:aM)(b:Nat)(k:ae)(ok:Bool)(m:Mem):Option ae:=
 match gL P et,y8 P kt b k m with
 |some _,some (some (_,v))=>some (if ok then .tuple #[v,.bool true]else v)
 |some z,some none=>some (if ok then .tuple #[z,.bool false]else z)
 |_,_=>none
def tZ (P:aD)(kt:aM)(b:Nat)(k v:ae)(m:Mem):Option Mem:=
 let q:=m.blk b
 match y8 P kt b k m with
 |some (some (i,_))=>(match q.es.toList[i]? with
  |some e=>if plain e.key&&Instr.sameBits 10000 e.key k then some (m.a8 b {q with es:=q.es.modify i fun e=>{e with key:=k,val:=v}})else none
  |none=>none)
 |some none=>some (m.a8 b {q with es:=q.es.push {key:=k,val:=v,born:=q.clock},clock:=q.clock+1})
 |none=>none
def gH (P:aD)(t:aM)(x k:ae)(ok:Bool)(m:Mem):Option ae:=
 match P.underlying t,x,k with
 |some (.map kt et),.map r,.string s=>
  match P.underlying kt,gL P et with
  |some .string,some z=>
   match(match r with
    |none=>some #[]
    |some b=>let q:=m.blk b;if q.kind==2&&m.bg b then some q.es else none)with
   |some es=>if strKeys es.toList then
     let v:=match kX s es.toList 0 with |some (_,v)=>(v,true)|none=>(z,false)
     some (if ok then .tuple #[v.1,.bool v.2]else v.1)
    else none
   |none=>none
  |_,_=>none
 |some (.map kt et),.map (some b),.agg cs=>sA P kt et b (.agg cs) ok m
 |_,_,_=>none
def jf (P:aD)(t:aM)(x k v:ae)(m:Mem):Option Mem:=
 match P.underlying t,x,k with
 |some (.map kt _),.map (some b),.string s=>
  match P.underlying kt with
  |some .string=>
   let q:=m.blk b
   if q.kind==2&&m.bg b&&strKeys q.es.toList then
    match kX s q.es.toList 0 with
    |some (i,_)=>some (m.a8 b {q with es:=q.es.modify i fun e=>{e with key:=k,val:=v}})
    |none=>some (m.a8 b {q with es:=q.es.push {key:=k,val:=v,born:=q.clock},clock:=q.clock+1})
   else none
  |_=>none
 |some (.map kt _),.map (some b),.agg cs=>tZ P kt b (.agg cs) v m
 |_,_,_=>none
def qk (P:aD)(x:ae)(t a:aM)(ok:Bool):Option ae:=
 match P.underlying a,x,ok with
 |some (.interface _),_,_=>none
 |some _,.nilIface,true=>(gL P a).map fun z=> .tuple #[z,.bool false]
 |some _,.iface d v,true=>if d=a then some (.tuple #[v,.bool true])else(gL P a).map fun z=> .tuple #[z,.bool false]
 |_,_,_=>none
def Dv (P:aD)(t:aM)(parts:List (Nat×ae)):Option ae:=
 match gL P t,P.underlying t with
 |some z,some (.struct fields)=>
  match fields.mapM (m:=Option) fun f=>(ep P f.type).map fun n=>(f.offset,n)with
  |some places=>(Instr.fill (places[·]?) z.cells parts).map .agg
  |none=>none
 |some z,some (.array _ e)=>(ep P e).bind fun n=>(Instr.fill (fun i=>some (i*n,n)) z.cells parts).map .agg
 |_,_=>none
def bh (P:aD)(t:aM)(len:Nat)(parts:List (Nat×ae))(m:Mem):Option (ae×Mem):=
 match P.underlying t with
 |some (.slice e)=>
  match ep P e,gL P e with
  |some size,some z=>
   if len*size>2^24\/cD<=len then none else
   (Instr.fill (fun i=>some (i*size,size)) ((Array.range (len*size)).map (z.cells[·%z.cells.size]!)) parts).map fun cs=>
    (.slice (some ⟨m.next,0,none⟩) len len,m.alloc {kind:=1,sz:=size,cs:=cs.toList.map some})
  |_,_=>none
 |_=>none
def fT (P:aD)(t:aM)(l c:ae)(m:Mem):Option (ae×Mem):=
 match P.underlying t,l,c with
 |some (.slice e),.int .i64 l,.int .i64 c=>
  match P.info? e,gL P e with
  |some i,some z=>
   if 0<=l/\l<=c/\c*i.bytes<=2^40/\c<=2^40 then
    some (.slice (some ⟨m.next,0,none⟩) l.toNat c.toNat,
     m.alloc {kind:=1,sz:=i.size,cs:=(((Array.range (c.toNat*i.size)).map (z.cells[·%z.cells.size]!)).toList.map some)})
   else none
  |_,_=>none
 |_,_,_=>none
def fN (P:aD)(s d:aM)(x:ae)(m:Mem):Option (ae×Mem):=
 match P.underlying s,P.underlying d,x with
 |some (.pointer t),some .unsafePointer,.pointer (some ⟨b,o,none⟩)=>
  let k:=m.blk b
  match ep P t with
  |some (_+1)=>if k.kind==1&&decide (o<k.cs.length)then some (x,m)else none
  |_=>none
 |some .string,some (.slice e),.string s=>
  match P.underlying e with
  |some (.int .u8)=>if s.size=0\/s.size>2^46 then none else
    some (.slice (some ⟨m.next,0,none⟩) s.size cD,m.alloc {kind:=1,sz:=1,cs:=s.data.toList.map fun b=>some (.int .u8 b.toNat)})
  |_=>none
 |some (.slice e),some .string,.slice a len _=>
  match P.underlying e,a with
  |some (.int .u8),none=>some (.string .empty,m)
  |some (.int .u8),some ⟨b,o,none⟩=>
   (m.dB b o len).bind fun l=>(l.mapM (m:=Option) fun v=>match v with | .int .u8 n=>some (UInt8.ofNat n.toNat)|_=>none).map fun bs=>(.string ⟨bs.toArray⟩,m)
  |_,_=>none
 |_,_,_=>none
def yT (P:aD)(t:aM)(x:ae)(m:Mem):Option (ae×Mem):=
 match P.underlying t,x with
 |some .string,.string s=>some (ptrTo m.next 0,m.alloc {kind:=3,str:=s,pos:=0})
 |_,_=>none
def Fq (it:ae)(isS:Bool)(m:Mem):Option (ae×Mem):=
 match it,isS with
 | .pointer (some ⟨b,0,none⟩),true=>
  let k:=m.blk b
  if k.kind==3&&m.bg b then
   if k.pos<k.str.size then
    let d:=Utf8.decode k.str k.pos
    some (.tuple #[.bool true,goInt k.pos,.int .i32 d.1],m.a8 b {k with pos:=k.pos+d.2})
   else some (.tuple #[.bool false],m)
  else none
 |_,_=>none
def dc (P:aD)(ev:bX->ae)(o:gU):Option ae:=
 if o.op.operands.all (fun x=>plain (ev x))then
  match(execOp ev o).aH P with
  |some (.value v)=>if plain v then some v else none
  |_=>none
 else none
def dR (P:aD)(recv:ae)(name:String):Option (Nat×ae):=
 match recv with
 | .iface t v=>
  match P.info? t,P.underlying t with
  |some i,some (.pointer _)=>
   match i.methods.find? (·.name==name)with
   |some mt=>match mt.path.toList,mt.func with
    | [],some (f,true)=>some (f,v)
    |_,_=>none
   |none=>none
  |_,_=>none
 |_=>none
def dx (P:aD)(ev:bX->ae)(o:gU)(m:Mem):Option (ae×Mem):=
 match o.op with
 | .move x=>some (ev x,m)
 | .assign x=>some (ev x,m)
 | .pick c a b=>match ev c with | .bool t=>some (if t then ev a else ev b,m)|_=>none
 | .alloc e=>(gL P e).map fun z=>cE m 0 z.cells.toList
 | .box _ v=>some (cE m 0 (ev v).cells.toList)
 | .build t ps=>(Dv P t (ps.map fun(i,x)=>(i,ev x)).toList).map fun v=>(v,m)
 | .buildSlice t n ps=>bh P t n (ps.map fun(i,x)=>(i,ev x)).toList m
 | .load t a=>(j9 P t (ev a) m).map fun v=>(v,m)
 | .store t a x=>(vZ P t (ev a) (ev x) m).map fun m'=>(undef,m')
 | .nilCheck x=>match ev x with
  | .pointer (some a)=>some (.pointer (some a),m)
  | .func (.method name) first cap=>match(first[0]?:Option ae)with
   |some r=>if(dR P r name).isSome then some (.func (.method name) first cap,m)else none
   |none=>none
  |_=>none
 | .binOp op t x y _=>
  match op with
  | .eql=>match rK P t (isConst x) (isConst y) (ev x) (ev y)with |some b=>some (.bool b,m)|none=>(dc P ev o).map fun v=>(v,m)
  | .neq=>match rK P t (isConst x) (isConst y) (ev x) (ev y)with |some b=>some (.bool (!b),m)|none=>(dc P ev o).map fun v=>(v,m)
  |_=>(dc P ev o).map fun v=>(v,m)
 | .unOp .. =>(dc P ev o).map fun v=>(v,m)
 | .convert s d x=>match fN P s d (ev x) m with |some r=>some r|none=>(dc P ev o).map fun v=>(v,m)
 | .makeInterface t x=>match P.underlying t with |some (.interface _)=>none|some _=>some (.iface t (ev x),m)|none=>none
 | .makeFunc fn f c=>some (.func fn (f.map ev) (c.map ev),m)
 | .makeMap _ none=>some (.map (some m.next),m.alloc {kind:=2})
 | .makeSlice t l c=>fT P t (ev l) (ev c) m
 | .slice t x lo hi none=>match jb P t (ev x) (lo.map ev) (hi.map ev) m with |some v=>some (v,m)|none=>(dc P ev o).map fun v=>(v,m)
 | .fieldAddr s x f=>(sH P s (ev x) f).map fun v=>(v,m)
 | .field s x f=>(Ht P s (ev x) f).map fun v=>(v,m)
 | .indexAddr t x i=>(pM P t (ev x) (ev i)).map fun v=>(v,m)
 | .index t x i=>match wo P t (ev x) (ev i)with |some v=>some (v,m)|none=>(dc P ev o).map fun v=>(v,m)
 | .lookup t x i ok=>(gH P t (ev x) (ev i) ok m).map fun v=>(v,m)
 | .mapUpdate t x k v=>(jf P t (ev x) (ev k) (ev v) m).map fun m'=>(undef,m')
 | .typeAssert x t a ok=>(qk P (ev x) t a ok).map fun v=>(v,m)
 | .extract t i=>match ev t with | .tuple vs=>(vs[i]?).map fun v=>(v,m)|_=>none
 | .range t x=>yT P t (ev x) m
 | .next it s=>Fq (ev it) s m
 | .call {callee:= .builtin b,args,argTypes}=>
  match b,args.toList with
  | .append,[s,x]=>cK P argTypes (ev s) (ev x) m
  | .copy,[d,s]=>yi P argTypes (ev d) (ev s) m
  | .clear,[x]=>mX P argTypes (ev x) m
  | .len,[x]=>match(argTypes[0]?).bind P.underlying,ev x with
   |some (.slice _),.slice _ n _=>some (goInt n,m)
   |_,_=>(dc P ev o).map fun v=>(v,m)
  | .min,_=>(dc P ev o).map fun v=>(v,m)
  | .max,_=>(dc P ev o).map fun v=>(v,m)
  |_,_=>none
 |_=>none
structure Ext where
 disable:Nat
 enable:Nat
 acquire:Nat
 tQ:Nat
 F5:Nat
 KB:Nat
 K':Nat
 vR:Nat
 FQ:Nat
 FP:Nat
def uz (X:Ext)(f:Nat)(args:List ae)(m:Mem):Option (ae×Mem):=
 if f=X.disable then(match args with | []=>some (.tuple #[],{m with deaf:=m.deaf+1})|_=>none)
 else if f=X.enable then(match args with | []=>some (.tuple #[],{m with deaf:=m.deaf-1})|_=>none)
 else if f=X.acquire then(match args with | [.pointer (some ⟨_,_,none⟩)]=>some (.tuple #[],m)|_=>none)
 else if f=X.tQ then(match args with | [.pointer (some ⟨_,_,none⟩)]=>some (.tuple #[],m)|_=>none)
 else if f=X.F5 then
  (match args with
   | [.pointer (some ⟨b,o,none⟩),.int .i32 x,.int .i32 y]=>
    match m.dB b o 1 with
    |some [.int .i32 v]=>if v=x then(m.dK b o [.int .i32 y]).map fun m'=>(.bool true,m')else if m.base<=b then some (.bool false,m)else none
    |_=>none
   |_=>none)
 else if f=X.KB then
  (match args with
   | [.pointer (some ⟨b,o,none⟩),.int .i32 y]=>
    match m.dB b o 1 with
    |some [.int .i32 v]=>(m.dK b o [.int .i32 (cf.i32.wrap (v+y))]).map fun m'=>(.int .i32 (cf.i32.wrap (v+y)),m')
    |_=>none
   |_=>none)
 else none
abbrev cB:=Nat->List ae->Mem->Option (ae×Mem)
def sj (X:Ext)(dC:ae)(m:Mem):Option (Nat×Nat×Nat):=
 match dC with
 | .func (.func f) _ cap=>
  if f=X.FQ\/f=X.FP then
   match(cap[0]?:Option ae),(cap[1]?:Option ae)with
   |some (.pointer (some ⟨pb,po,none⟩)),some (.pointer (some ⟨ib,io,none⟩))=>
    match m.dB pb po 1,m.dB ib io 1 with
    |some [.pointer (some ⟨d,o,none⟩)],some [.int .i64 i]=>if 0<=i then some (d,o,i.toNat)else none
    |_,_=>none
   |_,_=>none
  else none
 |_=>none
def Ae (m:Mem)(d o j:Nat):Option (List Span):=
 match m.dB d (o+2*j) 1 with
 |some [.slice (some ⟨b,_,none⟩) _ _]=>some [(d,d+1,some (o+2*j)),(d,d+1,some (o+2*j+1)),(b,b+1,none)]
 |some [.slice none _ _]=>some [(d,d+1,some (o+2*j)),(d,d+1,some (o+2*j+1))]
 |_=>none
def oN (m:Mem)(d o:Nat):Nat->Option (List Span)
 |0=>some []
 |j+1=>match oN m d o j,Ae m d o j with
  |some l,some l'=>some (l'++l)
  |_,_=>none
def wj (m:Mem)(s:Span):Bool:=
 decide (s.2.1=s.1+1)&&decide (m.base<=s.1)&&decide (m.floor<=s.1)&&decide (s.1<m.next)&&(m.blk s.1).kind==1&&
  (match s.2.2 with |some o=>(((m.blk s.1).cs[o]?).any (·.isSome))|none=>(m.blk s.1).cs.all (·.isSome))
def jE:List Span->Bool
 | []=>true
 |s::l=>(l.all fun t=>s.1 !=t.1||(match s.2.2,t.2.2 with |some x,some y=>x !=y|_,_=>false))&&jE l
def Bi (call:cB)(fv:ae)(args:List ae)(m:Mem):Option (ae×Mem):=
 match fv with
 | .func (.func f) first cap=>call f (first.toList++args++cap.toList) m
 |_=>none
def lu (w d o:Nat)(m:Mem):Option Mem:=
 match m.wg with
 |some w'=>if w=w' then some m else none
 |none=>match m.dB w 0 2,oN m d o 4 with
  |some [.int .u64 0,.int .u32 0],some l=>
   if m.cS w 0 2&&m.ft w&&(m.blk w).pos==1&&decide ((m.blk w).cs.length=2)&&decide (m.bl=[])&&decide (m.opn=[])&&decide (m.pend=[])&&decide (m.floor=m.base)&&l.all (fun s=>wj m s&&s.1 !=w)&&jE l
   then some {m.a8 w {}with wg:=some w,opn:=l,floor:=m.next}else none
  |_,_=>none
def wN (s t:Span):Bool:=Nat.ble s.2.1 t.1||Nat.ble t.2.1 s.1||(match s.2.2,t.2.2 with |some x,some y=>x !=y|_,_=>false)
def v5 (X:Ext)(mA:cB)(args:List ae)(m:Mem):Option (ae×Mem):=
 match args with
 | [.pointer (some ⟨w,0,none⟩),dC]=>
  match sj X dC m with
  |some (d,o,i)=>
   match lu w d o m with
   |some aX=>
    let m:=(cE (cE aX 0 [ptrTo w 0]).2 0 [dC]).2
    match Ae m d o i with
    |some l=>
     let rest:=m.opn.filter fun s=>!l.contains s
     if m.deaf=0/\m.pend.length<4/\(l.all fun s=>m.opn.contains s)=true/\jE l=true/\(l.all fun s=>(rest++m.bl).all (wN s))=true/\((rest++l).all fun t=>Nat.ble t.2.1 aX.next)=true/\(l.all fun s=>Nat.beq s.2.1 (s.1+1)&&Nat.beq (m.blk s.1).kind 1)=true then
      match Bi mA dC [] {m with home:=m.next,floor:=m.next,opn:=l,bl:=rest++m.bl,wg:=none,pend:=[]}with
      |some (_,m2)=>if m2.deaf=0 then
        some (.tuple #[],{m2 with home:=m.home,floor:=m2.next,opn:=rest,wg:=m.wg,bl:=(m.next,m2.next,none)::(l++m.bl),pend:={lo:=m.next,hi:=m2.next,oO:=l,bl:=rest++m.bl,heap:=m2.heap}::m.pend})
       else none
      |none=>none
     else none
    |none=>none
   |none=>none
  |none=>none
 |_=>none
def FB (args:List ae)(m:Mem):Option (ae×Mem):=
 match args,m.wg with
 | [.pointer (some ⟨w,0,none⟩)],some w'=>if w=w'/\m.deaf=0/\m.opn=[]/\Nat.ble m.base m.next=true then some (.tuple #[],{m with bl:=[],floor:=m.base,wg:=none,pend:=[]})else none
 |_,_=>none
def fh (o:gU):Bool:=
 match o.op with
 | .move _| .assign _| .pick .. | .fieldAddr .. | .field .. | .extract .. | .unOp .. | .binOp .. | .makeInterface .. | .makeFunc .. | .typeAssert .. | .nilCheck _
 | .index .. | .indexAddr .. | .slice .. | .build .. | .load .. | .lookup .. | .alloc _| .box .. | .buildSlice .. | .makeSlice .. | .makeMap .. =>true
 | .call {callee:= .builtin b,.. }=>match b with | .len| .min| .max=>true|_=>false
 |_=>false
def aE (ops:Array gU):List Nat:=(List.range ops.size).filter fun i=>(ops[i]?).any fun o=>!fh o
def yk (bI:Array Nat):List Nat->Bool
 |a::b::l=>(bI.getD b 0).testBit a&&yk bI (b::l)
 |_=>true
def cO (bI:Array Nat)(hs:List Nat)(i:Nat):Nat:=(hs.filter fun h=>(bI.getD i 0).testBit h).length
def rh (bI:Array Nat)(hs:List Nat)(i:Nat):Nat:=(hs.filter fun h=> !(bI.getD h 0).testBit i).length
def kF (ops:Array gU)(o:gU):List Tmp:=
 (o.op.operands.toList.filterMap fun x=>match x with | .tmp t=>some t|_=>none)++(match o.guard with |some (g,_)=>((ops[g]?).bind (·.dst)).toList|none=>[])
def tidy (ops:Array gU)(bI:Array Nat):Bool:=
 (List.range ops.size).all fun i=>(List.range ops.size).all fun j=>
  match ops[i]?,ops[j]? with
  |some x,some y=>(match y.dst with
   |some d=>(i==j||x.dst !=some d)&&(!(kF ops x).contains d||((bI.getD i 0).testBit j||(bI.getD j 0).testBit i))
   |none=>true)
  |_,_=>true
theorem vB {p:Prop}[Decidable p](h:p):decide p=true:=decide_eq_true h
theorem w9 {p:Prop}[Decidable p](h:¬p):decide p=false:=decide_eq_false h
theorem jQ {p:Prop}[Decidable p]:(decide p=true)=p:=decide_eq_true_eq
theorem bC.{u}{c:Prop}{h:Decidable c}(hc:c){α:Sort u}{t e:α}:ite c t e=t:=if_pos hc
theorem bS.{u}{c:Prop}{h:Decidable c}(hc:¬c){α:Sort u}{t e:α}:ite c t e=e:=if_neg hc
theorem aj {p:Prop}(h:p:=by omega):p:=h
theorem nV {p:Prop}(h:p:=by assumption):p:=h
theorem de {p:Prop}(h:p:=by simp):p:=h
theorem eS {p:Prop}(h:p:=by decide):p:=h
theorem lQ {p:Prop}(h:p:=by intro h;cases h):p:=h
theorem Wo {p:Prop}(h:p:=by refine And.intro ?_ de;intro x hx;first |(cases hx;done)|(obtain⟨y,_,hy⟩:=List.mem_map.1 hx;rw[<-hy];simp)):p:=h
end Go.AM
namespace Go.AM
open Go
def bB {α β:Type}(R:α->β->Prop):List α->List β->Prop
 | [],[]=>True
 |a::l,b::r=>R a b/\bB R l r
 |_,_=>False
section
variable {α β γ:Type}{R S:α->β->Prop}
theorem bB.length{l:List α}{r:List β}(h:bB R l r):l.length=r.length:=by
 induction l generalizing r with
 |nil=>cases r<;>simp_all [bB]
 |cons a l ih=>cases r with
  |nil=>exact h.elim
  |cons b r=>simp[ih h.2]
theorem bB.mono{l:List α}{r:List β}(h:bB R l r)(hs:∀a b,R a b->S a b):bB S l r:=by
 induction l generalizing r with
 |nil=>cases r<;>simp_all [bB]
 |cons a l ih=>cases r with
  |nil=>exact h.elim
  |cons b r=>exact⟨hs _ _ h.1,ih h.2⟩
theorem bB.get{l:List α}{r:List β}(h:bB R l r){i:Nat}{a:α}(ha:l[i]?=some a):∃b,r[i]?=some b/\R a b:=by
 induction l generalizing r i with
 |nil=>simp at ha
 |cons x l ih=>cases r with
  |nil=>exact h.elim
  |cons b r=>cases i with
   |zero=>simp at ha;subst ha;exact⟨b,rfl,h.1⟩
   |succ i=>simp at ha;simpa using ih h.2 ha
theorem bB.get'{l:List α}{r:List β}(h:bB R l r){i:Nat}{b:β}(hb:r[i]?=some b):∃a,l[i]?=some a/\R a b:=by
 induction l generalizing r i with
 |nil=>cases r<;>simp_all [bB]
 |cons x l ih=>cases r with
  |nil=>exact h.elim
  |cons y r=>cases i with
   |zero=>simp at hb;subst hb;exact⟨x,rfl,h.1⟩
   |succ i=>simp at hb;simpa using ih h.2 hb
theorem bB.GQ{l:List α}{r:List β}(hl:l.length=r.length)(h:∀(i:Nat) a b,l[i]?=some a->r[i]?=some b->R a b):bB R l r:=by
 induction l generalizing r with
 |nil=>cases r<;>simp_all [bB]
 |cons x l ih=>cases r with
  |nil=>simp at hl
  |cons y r=>exact⟨h 0 _ _ rfl rfl,ih (by simpa using hl) fun i a b ha hb=>h (i+1) a b (by simpa using ha) (by simpa using hb)⟩
theorem bB.append{l GZ:List α}{r ae6:List β}(h:bB R l r)(AL:bB R GZ ae6):bB R (l++GZ) (r++ae6):=by
 induction l generalizing r with
 |nil=>cases r<;>simp_all [bB]
 |cons a l ih=>cases r with
  |nil=>exact h.elim
  |cons b r=>exact⟨h.1,ih h.2⟩
theorem bB.pI{δ:Type}{f:δ->α}{g:δ->β}{l:List δ}(h:∀x∈l,R (f x) (g x)):bB R (l.map f) (l.map g):=by
 induction l with
 |nil=>trivial
 |cons a l ih=>exact⟨h a de,ih fun x hx=>h x (by simp[hx])⟩
theorem bB.set{l:List α}{r:List β}(h:bB R l r){a:α}{b:β}(MJ:R a b)(i:Nat):bB R (l.set i a) (r.set i b):=by
 induction l generalizing r i with
 |nil=>cases r<;>simp_all [bB]
 |cons x l ih=>cases r with
  |nil=>exact h.elim
  |cons y r=>cases i with
   |zero=>exact⟨MJ,h.2⟩
   |succ i=>exact⟨h.1,ih h.2 i⟩
theorem bB.drop{l:List α}{r:List β}(h:bB R l r)(i:Nat):bB R (l.drop i) (r.drop i):=by
 induction l generalizing r i with
 |nil=>cases r<;>simp_all [bB]
 |cons x l ih=>cases r with
  |nil=>exact h.elim
  |cons y r=>cases i with
   |zero=>exact h
   |succ i=>exact ih h.2 i
theorem bB.take{l:List α}{r:List β}(h:bB R l r)(i:Nat):bB R (l.take i) (r.take i):=by
 induction l generalizing r i with
 |nil=>cases r<;>simp_all [bB]
 |cons x l ih=>cases r with
  |nil=>exact h.elim
  |cons y r=>cases i with
   |zero=>trivial
   |succ i=>exact⟨h.1,ih h.2 i⟩
theorem bB.refl{R:α->α->Prop}{l:List α}(h:∀a∈l,R a a):bB R l l:=by
 induction l with
 |nil=>trivial
 |cons a l ih=>exact⟨h a de,ih fun x hx=>h x (by simp[hx])⟩
theorem bB.getD{l:List α}{r:List β}(h:bB R l r){a:α}{b:β}(MJ:R a b)(i:Nat):R (l.getD i a) (r.getD i b):=by
 simp only[List.getD_eq_getElem?_getD];cases hl:l[i]? with
 |none=>
  have :r[i]?=none:=by
   have :=h.length;simp only[List.getElem?_eq_none_iff]at*;omega
  simp[this,MJ]
 |some x=>
  obtain⟨y,hy,KJ⟩:=h.get hl;simp[hy,KJ]
end
structure Pl where
 c:Nat
 d:Nat
 room:Nat
 sz:Nat
abbrev dh:=Nat->Option Pl
def dh.le(ρ bu:dh):Prop:=∀b p,ρ b=some p->bu b=some p
theorem dh.le_refl(ρ:dh):ρ.le ρ:=fun _ _ h=>h
theorem dh.le_trans{ρ Bn eX:dh}(h:ρ.le Bn)(h':Bn.le eX):ρ.le eX:=fun b p x=>h' b p (h b p x)
def VR (ρ:dh):Nat->ae->ae->Prop
 |0,_,_=>False
 |n+1,v,v'=>
  match v with
  | .pointer (some a)=>∃p,ρ a.block=some p/\a.spot=none/\v'= .pointer (some ⟨p.c,p.d+a.off,none⟩)
  | .slice (some a) len cap=>∃p gK,ρ a.block=some p/\a.spot=none/\v'= .slice (some ⟨p.c,p.d+a.off,none⟩) len gK/\(if cap=cD then len<=gK/\a.off+gK*p.sz<=p.room else gK=cap)
  | .map (some r)=>∃p,ρ r=some p/\v'= .map (some p.c)
  | .func fn f c=>∃f' c',v'= .func fn f' c'/\bB (VR ρ n) f.toList f'.toList/\bB (VR ρ n) c.toList c'.toList
  | .iface t x=>∃x',v'= .iface t x'/\VR ρ n x x'
  | .agg cs=>∃gQ,v'= .agg gQ/\bB (VR ρ n) cs.toList gQ.toList
  | .tuple cs=>∃gQ,v'= .tuple gQ/\bB (VR ρ n) cs.toList gQ.toList
  |v=>v'=v
def aQ (ρ:dh)(v v':ae):Prop:=∃n,VR ρ n v v'
section
variable {ρ bu:dh}
theorem VR.more:∀{n:Nat}{v v':ae},VR ρ n v v'->VR ρ (n+1) v v':=by
 intro n
 induction n with
 |zero=>intro v v' h;exact h.elim
 |succ n ih=>
  intro v v' h;cases v with
  |pointer a=>cases a<;>exact h
  |slice a l c=>cases a<;>exact h
  |map r=>cases r<;>exact h
  |func fn f c=>
   obtain⟨f',c',e,h1,h2⟩:=h;exact⟨f',c',e,h1.mono fun _ _=>ih,h2.mono fun _ _=>ih⟩
  |iface t x=>obtain⟨x',e,h⟩:=h;exact⟨x',e,ih h⟩
  |agg cs=>obtain⟨x',e,h⟩:=h;exact⟨x',e,h.mono fun _ _=>ih⟩
  |tuple cs=>obtain⟨x',e,h⟩:=h;exact⟨x',e,h.mono fun _ _=>ih⟩
  |_=>exact h
theorem VR.le{n m:Nat}(h:n<=m){v v':ae}(hv:VR ρ n v v'):VR ρ m v v':=by
 induction h with
 |refl=>exact hv
 |step _ ih=>exact ih.more
theorem VR.iJ(h:ρ.le bu):∀{n:Nat}{v v':ae},VR ρ n v v'->VR bu n v v':=by
 intro n
 induction n with
 |zero=>intro v v' h;exact h.elim
 |succ n ih=>
  intro v v' hv;cases v with
  |pointer a=>cases a with
   |none=>exact hv
   |some a=>obtain⟨p,h1,h2⟩:=hv;exact⟨p,h _ _ h1,h2⟩
  |slice a l c=>cases a with
   |none=>exact hv
   |some a=>obtain⟨p,c',h1,h2⟩:=hv;exact⟨p,c',h _ _ h1,h2⟩
  |map r=>cases r with
   |none=>exact hv
   |some a=>obtain⟨p,h1,h2⟩:=hv;exact⟨p,h _ _ h1,h2⟩
  |func fn f c=>
   obtain⟨f',c',e,h1,h2⟩:=hv;exact⟨f',c',e,h1.mono fun _ _=>ih,h2.mono fun _ _=>ih⟩
  |iface t x=>obtain⟨x',e,h⟩:=hv;exact⟨x',e,ih h⟩
  |agg cs=>obtain⟨x',e,h⟩:=hv;exact⟨x',e,h.mono fun _ _=>ih⟩
  |tuple cs=>obtain⟨x',e,h⟩:=hv;exact⟨x',e,h.mono fun _ _=>ih⟩
  |_=>exact hv
theorem aQ.iJ(h:ρ.le bu){v v':ae}(hv:aQ ρ v v'):aQ bu v v':=let⟨n,x⟩:=hv;⟨n,x.iJ h⟩
theorem uT {l r:List ae}(h:bB (aQ ρ) l r):∃n,bB (VR ρ n) l r:=by
 induction l generalizing r with
 |nil=>exact⟨0,by cases r<;>simp_all [bB]⟩
 |cons a l ih=>cases r with
  |nil=>exact h.elim
  |cons b r=>
   obtain⟨n,hn⟩:=h.1;obtain⟨k,hk⟩:=ih h.2;exact⟨max n k,hn.le (Nat.le_max_left _ _),hk.mono fun _ _=>VR.le (Nat.le_max_right _ _)⟩
theorem uO {n:Nat}{l r:List ae}(h:bB (VR ρ n) l r):bB (aQ ρ) l r:=h.mono fun _ _ x=>⟨n,x⟩
theorem gW {cs:Array ae}{v':ae}:aQ ρ (.agg cs) v'↔∃gQ,v'= .agg gQ/\bB (aQ ρ) cs.toList gQ.toList:=by
 constructor
 ·rintro⟨n,h⟩;cases n with
  |zero=>exact h.elim
  |succ n=>obtain⟨gQ,e,h⟩:=h;exact⟨gQ,e,uO h⟩
 ·rintro⟨gQ,e,h⟩;obtain⟨n,h⟩:=uT h;exact⟨n+1,gQ,e,h⟩
theorem dU {cs:Array ae}{v':ae}:aQ ρ (.tuple cs) v'↔∃gQ,v'= .tuple gQ/\bB (aQ ρ) cs.toList gQ.toList:=by
 constructor
 ·rintro⟨n,h⟩;cases n with
  |zero=>exact h.elim
  |succ n=>obtain⟨gQ,e,h⟩:=h;exact⟨gQ,e,uO h⟩
 ·rintro⟨gQ,e,h⟩;obtain⟨n,h⟩:=uT h;exact⟨n+1,gQ,e,h⟩
theorem fQ {t:aM}{x v':ae}:aQ ρ (.iface t x) v'↔∃x',v'= .iface t x'/\aQ ρ x x':=by
 constructor
 ·rintro⟨n,h⟩;cases n with
  |zero=>exact h.elim
  |succ n=>obtain⟨gQ,e,h⟩:=h;exact⟨gQ,e,n,h⟩
 ·rintro⟨gQ,e,n,h⟩;exact⟨n+1,gQ,e,h⟩
theorem fP {fn:Fn}{f c:Array ae}{v':ae}:aQ ρ (.func fn f c) v'↔∃f' c',v'= .func fn f' c'/\bB (aQ ρ) f.toList f'.toList/\bB (aQ ρ) c.toList c'.toList:=by
 constructor
 ·rintro⟨n,h⟩;cases n with
  |zero=>exact h.elim
  |succ n=>obtain⟨f',c',e,h,h2⟩:=h;exact⟨f',c',e,uO h,uO h2⟩
 ·rintro⟨f',c',e,h,h2⟩;obtain⟨n,h⟩:=uT h;obtain⟨k,h2⟩:=uT h2;exact⟨max n k+1,f',c',e,h.mono fun _ _=>VR.le (Nat.le_max_left _ _),h2.mono fun _ _=>VR.le (Nat.le_max_right _ _)⟩
theorem cL {a:Addr}{v':ae}:aQ ρ (.pointer (some a)) v'↔∃p,ρ a.block=some p/\a.spot=none/\v'= .pointer (some ⟨p.c,p.d+a.off,none⟩):=by
 constructor
 ·rintro⟨n,h⟩;cases n with
  |zero=>exact h.elim
  |succ n=>exact h
 ·intro h;exact⟨1,h⟩
theorem bV {a:Addr}{len cap:Nat}{v':ae}:aQ ρ (.slice (some a) len cap) v'↔∃p gK,ρ a.block=some p/\a.spot=none/\v'= .slice (some ⟨p.c,p.d+a.off,none⟩) len gK/\(if cap=cD then len<=gK/\a.off+gK*p.sz<=p.room else gK=cap):=by
 constructor
 ·rintro⟨n,h⟩;cases n with
  |zero=>exact h.elim
  |succ n=>exact h
 ·intro h;exact⟨1,h⟩
theorem gV {r:Nat}{v':ae}:aQ ρ (.map (some r)) v'↔∃p,ρ r=some p/\v'= .map (some p.c):=by
 constructor
 ·rintro⟨n,h⟩;cases n with
  |zero=>exact h.elim
  |succ n=>exact h
 ·intro h;exact⟨1,h⟩
theorem aF {v v':ae}(hv:cR v=true):aQ ρ v v'↔v'=v:=by
 constructor
 ·rintro⟨n,h⟩;cases n with
  |zero=>exact h.elim
  |succ n=>cases v with
   |pointer a=>cases a<;>simp_all [cR,VR]
   |slice a l c=>cases a<;>simp_all [cR,VR]
   |map a=>cases a<;>simp_all [cR,VR]
   |_=>first |exact h|(simp[cR]at hv)
 ·intro h;refine⟨1,?_⟩;cases v with
  |pointer a=>cases a<;>simp_all [cR,VR]
  |slice a l c=>cases a<;>simp_all [cR,VR]
  |map a=>cases a<;>simp_all [cR,VR]
  |_=>first |exact h|(simp[cR]at hv)
theorem qq {l r:List ae}(hl:l.all cR=true)(h:bB (aQ ρ) l r):r=l:=by
 induction l generalizing r with
 |nil=>cases r<;>simp_all [bB]
 |cons a l ih=>cases r with
  |nil=>exact h.elim
  |cons b r=>
   simp only[List.all_cons,ag]at hl;rw[(aF hl.1).1 h.1,ih hl.2 h.2]
theorem iV {l:List ae}(hl:l.all cR=true):bB (aQ ρ) l l:=by
 refine bB.refl fun a ha=>(aF ?_).2 rfl
 exact aB.1 hl a ha
theorem px {v v':ae}(hv:plain v=true)(h:aQ ρ v v'):v'=v:=by
 cases v with
 |agg cs=>
  obtain⟨gQ,e,h2⟩:=gW.1 h;have :=qq hv h2;rw[e,Array.ext' this]
 |tuple cs=>
  obtain⟨gQ,e,h2⟩:=dU.1 h;have :=qq hv h2;rw[e,Array.ext' this]
 |_=>exact(aF (by exact hv)).1 h
theorem bO {v:ae}(hv:plain v=true):aQ ρ v v:=by
 cases v with
 |agg cs=>exact gW.2 ⟨cs,rfl,iV hv⟩
 |tuple cs=>exact dU.2 ⟨cs,rfl,iV hv⟩
 |_=>exact(aF (by exact hv)).2 rfl
theorem mD:aQ ρ undef undef:=bO rfl
theorem j1:aQ ρ (.tuple #[]) (.tuple #[]):=bO rfl
theorem aQ.cells{v v':ae}(h:aQ ρ v v'):bB (aQ ρ) v.cells.toList v'.cells.toList:=by
 cases v with
 |agg cs=>obtain⟨gQ,e,h2⟩:=gW.1 h;subst e;exact h2
 |tuple cs=>obtain⟨gQ,rfl,_⟩:=dU.1 h;exact⟨h,trivial⟩
 |iface t x=>obtain⟨x',rfl,_⟩:=fQ.1 h;exact⟨h,trivial⟩
 |func fn f c=>obtain⟨f',c',rfl,_⟩:=fP.1 h;exact⟨h,trivial⟩
 |pointer a=>cases a with
  |none=>have :=(aF (by rfl)).1 h;subst this;exact⟨h,trivial⟩
  |some a=>obtain⟨p,_,_,rfl⟩:=cL.1 h;exact⟨h,trivial⟩
 |slice a l c=>cases a with
  |none=>have :=(aF (by rfl)).1 h;subst this;exact⟨h,trivial⟩
  |some a=>obtain⟨p,c',_,_,rfl,_⟩:=bV.1 h;exact⟨h,trivial⟩
 |map r=>cases r with
  |none=>have :=(aF (by rfl)).1 h;subst this;exact⟨h,trivial⟩
  |some a=>obtain⟨p,_,rfl⟩:=gV.1 h;exact⟨h,trivial⟩
 |bool b=>have :=(aF (by rfl)).1 h;subst this;exact⟨h,trivial⟩
 |int k n=>have :=(aF (by rfl)).1 h;subst this;exact⟨h,trivial⟩
 |string s=>have :=(aF (by rfl)).1 h;subst this;exact⟨h,trivial⟩
 |nilFunc=>have :=(aF (by rfl)).1 h;subst this;exact⟨h,trivial⟩
 |nilIface=>have :=(aF (by rfl)).1 h;subst this;exact⟨h,trivial⟩
 |float k b=>obtain⟨n,h'⟩:=h;cases n with |zero=>exact h'.elim|succ n=>have e:v'=_:=h';subst e;exact⟨⟨1,rfl⟩,trivial⟩
 |complex k a b=>obtain⟨n,h'⟩:=h;cases n with |zero=>exact h'.elim|succ n=>have e:v'=_:=h';subst e;exact⟨⟨1,rfl⟩,trivial⟩
 |chan r=>obtain⟨n,h'⟩:=h;cases n with |zero=>exact h'.elim|succ n=>have e:v'=_:=h';subst e;exact⟨⟨1,rfl⟩,trivial⟩
theorem aQ.Oa{v v':ae}(h:aQ ρ v v')(hv:v.oneCell'=true):v'.oneCell'=true:=by
 cases v with
 |agg cs=>simp[ae.oneCell']at hv
 |tuple cs=>simp[ae.oneCell']at hv
 |iface t x=>obtain⟨x',rfl,_⟩:=fQ.1 h;rfl
 |func fn f c=>obtain⟨f',c',rfl,_⟩:=fP.1 h;rfl
 |pointer a=>cases a with
  |none=>have :=(aF (by rfl)).1 h;subst this;rfl
  |some a=>obtain⟨p,_,_,rfl⟩:=cL.1 h;rfl
 |slice a l c=>cases a with
  |none=>have :=(aF (by rfl)).1 h;subst this;rfl
  |some a=>obtain⟨p,c',_,_,rfl,_⟩:=bV.1 h;rfl
 |map r=>cases r with
  |none=>have :=(aF (by rfl)).1 h;subst this;rfl
  |some a=>obtain⟨p,_,rfl⟩:=gV.1 h;rfl
 |_=>obtain⟨n,h'⟩:=h;cases n with |zero=>exact h'.elim|succ n=>have e:v'=_:=h';subst e;exact hv
end
end Go.AM
namespace Go.AM
open Go
theorem Qv {α:Type}(d:α)(l:List α)(i:Nat)(v:α)(j:Nat):Cs d (G1 d l i v) j=if i=j then v else Cs d l j:=by
 induction l generalizing i j with
 |nil=>
  induction i generalizing j with
  |zero=>cases j<;>simp[G1,Cs]
  |succ i ih=>cases j with
   |zero=>simp[G1,Cs]
   |succ j=>simp[G1,Cs,ih]
 |cons x l ih=>
  cases i with
  |zero=>cases j<;>simp[G1,Cs]
  |succ i=>cases j<;>simp[G1,Cs,ih]
theorem Vt (n:Hp4)(b:Nat)(k:dJ)(b':Nat)(h:b / 4096=b' / 4096):Vv (abP n b k) b'=if b=b' then k else Vv n b':=by
 have d (x k:Nat):rW x k=x / k%8:=rfl;have e (x:Nat):Nat.mod x 8=x%8:=rfl;have l (x k:Nat):rW x k<8:=by rw[d];omega
 have l' (x:Nat):Nat.mod x 8<8:=by rw[e];omega
 unfold Vv abP;rw[N8.get_put _ _ (l ..) (l ..)]
 by_cases h1:rW b 512=rW b' 512
 ·rw[bC h1,N8.get_put _ _ (l ..) (l ..)]
  by_cases h2:rW b 64=rW b' 64
  ·rw[bC h2,N8.get_put _ _ (l ..) (l ..)]
   by_cases h3:rW b 8=rW b' 8
   ·rw[bC h3,N8.get_put _ _ (l' ..) (l' ..),h1,h2,h3]
    by_cases h4:Nat.mod b 8=Nat.mod b' 8
    ·rw[bC h4,bC (by simp only[d,e]at h1 h2 h3 h4;omega)]
    ·rw[bS h4,bS (by rintro rfl;exact h4 rfl)]
   ·rw[bS h3,bS (by rintro rfl;exact h3 rfl),h1,h2]
  ·rw[bS h2,bS (by rintro rfl;exact h2 rfl),h1]
 ·rw[bS h1,bS (by rintro rfl;exact h1 rfl)]
theorem ji.get_put(h:ji)(b:Nat)(k:dJ)(b':Nat):(h.put b k).get b'=if b=b' then k else h.get b':=by
 unfold ji.get ji.put;rw[Qv]
 by_cases h1:Nat.div b 4096=Nat.div b' 4096
 ·rw[bC h1,Vt _ _ _ _ h1,h1]
 ·rw[bS h1,bS (by rintro rfl;exact h1 rfl)]
theorem Mem.dE(m:Mem)(b:Nat)(k:dJ)(b':Nat):(m.a8 b k).blk b'=if b=b' then{k with aZ:=m.tick}else m.blk b':=ji.get_put ..
theorem Mem.bY(m:Mem)(k:dJ)(b':Nat):(m.alloc k).blk b'=if m.next=b' then{k with aZ:=m.tick}else m.blk b':=ji.get_put ..
section
variable (m:Mem)(b:Nat)(k:dJ)
@[simp] theorem Mem.aaa:(m.a8 b k).next=m.next:=rfl
@[simp] theorem Mem.Z9:(m.a8 b k).tick=m.tick+1:=rfl
@[simp] theorem Mem.aad:(m.a8 b k).base=m.base:=rfl
@[simp] theorem Mem.aab:(m.a8 b k).home=m.home:=rfl
@[simp] theorem Mem.Xh:(m.a8 b k).floor=m.floor:=rfl
@[simp] theorem Mem.abt:(m.a8 b k).opn=m.opn:=rfl
@[simp] theorem Mem.Lz:(m.a8 b k).bl=m.bl:=rfl
@[simp] theorem Mem.aeF:(m.a8 b k).wg=m.wg:=rfl
@[simp] theorem Mem.Z':(m.a8 b k).pend=m.pend:=rfl
@[simp] theorem Mem.aac:(m.a8 b k).deaf=m.deaf:=rfl
@[simp] theorem Mem.aej:(m.alloc k).next=m.next+1:=rfl
@[simp] theorem Mem.aeh:(m.alloc k).tick=m.tick+1:=rfl
@[simp] theorem Mem.aem:(m.alloc k).base=m.base:=rfl
@[simp] theorem Mem.aek:(m.alloc k).home=m.home:=rfl
@[simp] theorem Mem.aa4:(m.alloc k).floor=m.floor:=rfl
@[simp] theorem Mem.aeG:(m.alloc k).opn=m.opn:=rfl
@[simp] theorem Mem.aeH:(m.alloc k).bl=m.bl:=rfl
@[simp] theorem Mem.aiQ:(m.alloc k).wg=m.wg:=rfl
@[simp] theorem Mem.aei:(m.alloc k).pend=m.pend:=rfl
@[simp] theorem Mem.ael:(m.alloc k).deaf=m.deaf:=rfl
end
theorem qO {l:List (Option ae)}{n:Nat}{vs:List ae}(h:fX l n=some vs):vs.length=n/\∀i:Nat,i<n->∃v,l[i]?=some (some v)/\vs[i]?=some v:=by
 induction n generalizing l vs with
 |zero=>
  have :vs=[]:=by cases l<;>simpa[fX]using h.symm
  subst this;exact⟨rfl,fun i hi=>by omega⟩
 |succ n ih=>
  cases l with
  |nil=>simp[fX]at h
  |cons x l=>cases x with
   |none=>simp[fX]at h
   |some v=>
    simp only[fX,aC]at h;obtain⟨r,hr,rfl⟩:=h;obtain⟨h1,h2⟩:=ih hr;refine⟨by simp[h1],fun i hi=>?_⟩;cases i with
    |zero=>exact⟨v,de,de⟩
    |succ i=>simpa using h2 i aj
theorem lU {l:List (Option ae)}{o:Nat}{vs:List ae}{l':List (Option ae)}(h:eA l o vs=some l'):
  l'.length=l.length/\(∀i:Nat,l'[i]?=if o<=i/\i<o+vs.length then(vs[i-o]?).map some else l[i]?)/\(∀i:Nat,i<vs.length->∃v,l[o+i]?=some (some v)):=by
 induction l generalizing o vs l' with
 |nil=>
  cases vs with
  |nil=>
   simp[eA]at h;subst h;exact⟨rfl,fun i=>by simp,fun i hi=>by simp at hi⟩
  |cons v vs=>cases o<;>simp[eA]at h
 |cons x l ih=>
  cases vs with
  |nil=>
   simp[eA]at h;subst h;refine⟨rfl,fun i=>?_,fun i hi=>by simp at hi⟩;simp;omega
  |cons v vs=>
   cases o with
   |zero=>
    cases x with
    |none=>simp[eA]at h
    |some u=>
     simp only[eA,aC]at h;obtain⟨r,hr,rfl⟩:=h;obtain⟨h1,h2,h3⟩:=ih hr;refine⟨by simp[h1],fun i=>?_,fun i hi=>?_⟩
     ·cases i with
      |zero=>simp
      |succ i=>
       have :=h2 i;simp only[Nat.zero_le,true_and,Nat.zero_add,Nat.sub_zero]at this;simp only[List.getElem?_cons_succ,this,Nat.zero_le,true_and,Nat.zero_add,List.length_cons,Nat.add_lt_add_iff_right,Nat.sub_zero]
     ·cases i with
      |zero=>exact⟨u,de⟩
      |succ i=>simpa using h3 i (by simpa using hi)
   |succ o=>
    simp only[eA,aC]at h;obtain⟨r,hr,rfl⟩:=h;obtain⟨h1,h2,h3⟩:=ih hr;refine⟨by simp[h1],fun i=>?_,fun i hi=>?_⟩
    ·cases i with
     |zero=>simp
     |succ i=>
      have :=h2 i;have e:(o+1<=i+1/\i+1<o+1+(v::vs).length)=(o<=i/\i<o+(v::vs).length):=propext ⟨fun h=>⟨aj,aj⟩,fun h=>⟨aj,aj⟩⟩;simp only[List.getElem?_cons_succ,this,e,Nat.add_sub_add_right]
    ·obtain⟨u,hu⟩:=h3 i hi;exact⟨u,by rw[show o+1+i=(o+i)+1 by omega];simpa using hu⟩
def Mem.cell(m:Mem)(b o:Nat):Option ae:=if(m.blk b).kind=1/\bz m.bl b o=false then((m.blk b).cs[o]?).join else none
def Mem.nK(m:Mem)(b o:Nat):Prop:=(m.blk b).kind=1/\bz m.bl b o=false/\(o<(m.blk b).cs.length->∃v,(m.blk b).cs[o]?=some (some v))
def Mem.okW(m:Mem)(b o:Nat):Prop:=m.nK b o/\(m.floor<=b\/bz m.opn b o=true)
theorem Mem.eB{m:Mem}{b o:Nat}{v:ae}(h:m.cell b o=some v):m.nK b o:=by
 unfold Mem.cell at h
 split at h
 ·rename_i hk;refine⟨hk.1,hk.2,fun _=>?_⟩;cases hc:(m.blk b).cs[o]? with
  |none=>simp[hc]at h
  |some x=>cases x with
   |none=>simp[hc]at h
   |some u=>exact⟨u,rfl⟩
 ·cases h
theorem xG {l:List Span}{b o n:Nat}(h:meets l b o n=false){i:Nat}(hi:i<n):bz l b (o+i)=false:=by
 unfold meets bz at*;rw[List.any_eq_false]at*;intro s hs;have :=h s hs;intro hc;apply this;simp only[ag]at hc⊢;refine⟨hc.1,?_⟩;cases hx:s.2.2 with
 |none=>rfl
 |some y=>
  have MH:=hc.2;rw[hx]at MH;simp at MH;simp;omega
theorem dV {l:List Span}{b:Nat}(h:aL l b=false)(o:Nat):bz l b o=false:=by
 unfold aL bz at*;rw[List.any_eq_false]at*;intro s hs;have :=h s hs;intro hc;apply this;simp only[ag]at hc⊢;exact hc.1
theorem gv {l:List Span}{b:Nat}(h:aL l b=false)(o n:Nat):meets l b o n=false:=by
 unfold aL meets at*;rw[List.any_eq_false]at*;intro s hs;have :=h s hs;intro hc;apply this;simp only[ag]at hc⊢;exact hc.1
theorem j6 {l:List Span}{b:Nat}(h:gT l b=true)(o:Nat):bz l b o=true:=by
 unfold gT bz at*;rw[List.any_eq_true]at*;obtain⟨s,hs,hc⟩:=h;refine⟨s,hs,?_⟩;simp only[ag]at hc⊢;refine⟨hc.1,?_⟩;have :=hc.2;cases hx:s.2.2<;>simp_all
theorem Mem.pK{m:Mem}{b o n:Nat}{vs:List ae}(h:m.dB b o n=some vs):
  (m.blk b).kind=1/\vs.length=n/\∀i:Nat,i<n->∃v,vs[i]?=some v/\m.cell b (o+i)=some v:=by
 unfold Mem.dB at h;simp only[]at h
 split at h
 ·rename_i hk;simp only[ag,beq_iff_eq,Bool.not_eq_true']at hk;obtain⟨h1,h2⟩:=qO h;refine⟨hk.1,h1,fun i hi=>?_⟩;obtain⟨v,hv,QH⟩:=h2 i hi;refine⟨v,QH,?_⟩;unfold Mem.cell;rw[bC ⟨hk.1,xG hk.2 hi⟩];rw[List.getElem?_drop]at hv;simp[hv]
 ·cases h
theorem Mem.qT{m:Mem}{b o n:Nat}(h:m.cS b o n=true){i:Nat}(hi:i<n):bz m.bl b (o+i)=false/\(m.floor<=b\/bz m.opn b (o+i)=true):=by
 unfold Mem.cS at h;simp only[ag,Bool.not_eq_true',Bool.or_eq_true,jQ]at h;refine⟨xG h.1.1 hi,?_⟩;rcases h.2 with(h2|h2)|h2
 ·exact .inl h2
 ·exact .inr (j6 h2 _)
 ·rw[aB]at h2;exact .inr (h2 i (by simpa using hi))
theorem Mem.kJ{m:Mem}{b o n:Nat}(h:m.cS b o n=true):m.base<=b:=by
 unfold Mem.cS at h;simp only[ag,jQ]at h;exact h.1.2
theorem Mem.lZ{m:Mem}{b:Nat}(h:m.ft b=true):aL m.bl b=false/\(m.floor<=b\/gT m.opn b=true):=by
 unfold Mem.ft at h;simp only[ag,Bool.not_eq_true',Bool.or_eq_true,jQ]at h;exact⟨h.1.1,h.2⟩
theorem Mem.ss{m:Mem}{b:Nat}(h:m.ft b=true):m.base<=b:=by
 unfold Mem.ft at h;simp only[ag,jQ]at h;exact h.1.2
theorem Mem.qm{m:Mem}{b o:Nat}{vs:List ae}{m':Mem}(h:m.dK b o vs=some m'):
  ∃cs,m'=m.a8 b {m.blk b with cs:=cs}/\(m.blk b).kind=1/\m.cS b o vs.length=true/\eA (m.blk b).cs o vs=some cs/\∀v∈vs,v.oneCell'=true:=by
 unfold Mem.dK at h;simp only[]at h
 split at h
 ·rename_i hk;simp only[ag,beq_iff_eq]at hk;rw[aC]at h;obtain⟨cs,gO,rfl⟩:=h;exact⟨cs,rfl,hk.1.1,hk.1.2,gO,fun v hv=>aB.1 hk.2 v hv⟩
 ·cases h
end Go.AM
namespace Go.AM
open Go
structure Perm where
 rd:Nat->Nat->Prop
 wr:Nat->Nat->Prop
 ob:Nat->Prop
 deaf:Nat
def GV:Mark->Prop
 | .disable| .enable| .release _| .read _| .write _=>False
 |_=>True
def dA {α:Type}(P:aD)(R:Perm)(N:Nat):Sem α->(α->au->Prop)->au->Prop
 | .pure a,Q,w=>Q a w
 | .load m a k,Q,w=>∃v,w.cell? a=some v/\R.rd a.block a.off/\dA P R N (k v) Q w
 | .store m a v k,Q,w=>v.oneCell'=true/\(∃u,w.cell? a=some u)/\w.frozen? a=false/\R.wr a.block a.off/\dA P R N k Q (w.setCell a v)
 | .new o k,Q,w=>dA P R N (k w.heap.size) Q {w with heap:=w.heap.push o}
 | .shape r k,Q,w=>dA P R N (k (w.shape? r)) Q w
 | .freeze a n k,Q,w=>N<=a.block/\dA P R N k Q (w.freeze a n)
 | .frozen a k,Q,w=>dA P R N (k (w.frozen? a)) Q w
 | .getObj r k,Q,w=>∃o,w.heap[r]?=some o/\(∀C t f,o≠ .cells C t f)/\o.isChan=false/\R.ob r/\dA P R N (k o) Q w
 | .setObj r o k,Q,w=>(∃o',w.heap[r]?=some o'/\∀C t f,o'≠ .cells C t f)/\(∀C t f,o≠ .cells C t f)/\o.isChan=false/\R.ob r/\dA P R N k Q {w with heap:=w.heap.setIfInBounds r o}
 | .choose q k,Q,w=>dA P R N (k (if q.forced then 0 else q.cut (w.tape w.drawn q))) Q (if q.forced then w else{w with drawn:=w.drawn+1})
 | .sys _ _,_,_=>False
 | .program k,Q,w=>dA P R N (k P) Q w
 | .mark m k,Q,w=>GV m/\dA P R N k Q w
 | .halt _,_,_=>False
theorem ar {α β:Type}{P:aD}{R:Perm}{N:Nat}(x:Sem α)(f:α->Sem β)(Q:β->au->Prop)(w:au):
  dA P R N (x>>=f) Q w↔dA P R N x (fun a w'=>dA P R N (f a) Q w') w:=by
 show dA P R N (x.bind f) Q w↔ _
 induction x generalizing w with
 |pure a=>exact Iff.rfl
 |load m a k ih=>simp only[Sem.bind,dA,ih]
 |store m a v k ih=>simp only[Sem.bind,dA,ih]
 |new o k ih=>simp only[Sem.bind,dA,ih]
 |shape r k ih=>simp only[Sem.bind,dA,ih]
 |freeze a n k ih=>simp only[Sem.bind,dA,ih]
 |frozen a k ih=>simp only[Sem.bind,dA,ih]
 |getObj r k ih=>simp only[Sem.bind,dA,ih]
 |setObj r o k ih=>simp only[Sem.bind,dA,ih]
 |choose q k ih=>simp only[Sem.bind,dA,ih]
 |sys c k ih=>simp only[Sem.bind,dA]
 |program k ih=>simp only[Sem.bind,dA,ih]
 |mark m k ih=>simp only[Sem.bind,dA,ih]
 |halt h=>simp only[Sem.bind,dA]
theorem I6 {α:Type}{P:aD}{R:Perm}{N:Nat}{x:Sem α}{Q Q':α->au->Prop}{w:au}(h:dA P R N x Q w)(hq:∀a w,Q a w->Q' a w):dA P R N x Q' w:=by
 induction x generalizing w with
 |pure a=>exact hq _ _ h
 |load m a k ih=>obtain⟨v,h1,h2,h3⟩:=h;exact⟨v,h1,h2,ih _ h3⟩
 |store m a v k ih=>exact⟨h.1,h.2.1,h.2.2.1,h.2.2.2.1,ih h.2.2.2.2⟩
 |new o k ih=>exact ih _ h
 |shape r k ih=>exact ih _ h
 |freeze a n k ih=>exact⟨h.1,ih h.2⟩
 |frozen a k ih=>exact ih _ h
 |getObj r k ih=>obtain⟨o,h1,h2,h3,h4,h5⟩:=h;exact⟨o,h1,h2,h3,h4,ih _ h5⟩
 |setObj r o k ih=>exact⟨h.1,h.2.1,h.2.2.1,h.2.2.2.1,ih h.2.2.2.2⟩
 |choose q k ih=>exact ih _ h
 |sys c k ih=>exact h
 |program k ih=>exact ih _ h
 |mark m k ih=>exact⟨h.1,ih h.2⟩
 |halt h'=>exact h
def MO (w:au)(a:Addr):Option (Nat×Nat):=match w.heap[a.block]? with
 |some (.cells _ _ r)=>some r
 |_=>none
theorem uu {w w':au}{a:Addr}(h:MO w' a=MO w a):w'.frozen? a=w.frozen? a:=by
 have e:∀w:au,w.frozen? a=match MO w a with |some (lo,hi)=>decide (lo<=a.off)&&decide (a.off<hi)|none=>false:=by
  intro w;unfold au.frozen? MO;cases w.heap[a.block]? with
  |none=>rfl
  |some o=>cases o<;>rfl
 rw[e,e,h]
structure tE (R:Perm)(N:Nat)(w w':au):Prop where
 tape:w'.tape=w.tape
 os:w'.os=w.os
 output:w'.output=w.output
 size:w.heap.size<=w'.heap.size
 shape:∀b,b<N->w'.shape? b=w.shape? b
 cell:∀b o,b<N->¬R.wr b o->w'.cell? ⟨b,o,none⟩=w.cell? ⟨b,o,none⟩
 qU:∀b o,b<N->MO w' ⟨b,o,none⟩=MO w ⟨b,o,none⟩
 obj:∀b,b<N->¬R.ob b->(w.shape? b)=none->w'.heap[b]?=w.heap[b]?
theorem tE.refl(R:Perm)(N:Nat)(w:au):tE R N w w:=⟨rfl,rfl,rfl,ai _,fun _ _=>rfl,fun _ _ _ _=>rfl,fun _ _ _=>rfl,fun _ _ _ _=>rfl⟩
theorem tE.trans{R:Perm}{N:Nat}{w aO iH:au}(h:tE R N w aO)(k:tE R N aO iH):tE R N w iH:=
 ⟨k.tape.trans h.tape,k.os.trans h.os,k.output.trans h.output,cp h.size k.size,fun b hb=>(k.shape b hb).trans (h.shape b hb),fun b o hb hw=>(k.cell b o hb hw).trans (h.cell b o hb hw),
  fun b o hb=>(k.qU b o hb).trans (h.qU b o hb),fun b hb ho hs=>(k.obj b hb ho (by rw[h.shape b hb];exact hs)).trans (h.obj b hb ho hs)⟩
def nT (R:Perm)(e:Event):Prop:=
 match e.loc with
 | .cell a=>a.spot=none/\(if e.write then R.wr a.block a.off else R.rd a.block a.off)
 | .obj r=>R.ob r/\e.sync=false
 | .mark m=>GV m
 |_=>False
theorem qQ (w:au)(a:Addr)(v:ae)(b:Nat):(w.setCell a v).shape? b=w.shape? b:=by
 unfold au.shape? au.setCell;simp only[Array.getElem?_modify]
 by_cases h:a.block=b
 ·subst h;cases hb:w.heap[a.block]? with
  |none=>simp
  |some o=>cases o with
   |cells c e f=>simp only[if_true,cN];split<;>simp
   |_=>simp
 ·simp[h]
theorem ik (w:au)(a:Addr)(v:ae)(b o:Nat)(ha:a.spot=none):(w.setCell a v).cell? ⟨b,o,none⟩=if a.block=b/\a.off=o/\(w.cell? ⟨b,o,none⟩).isSome then some v else w.cell? ⟨b,o,none⟩:=by
 unfold au.cell? au.setCell;simp only[Array.getElem?_modify,ha,Option.isSome_none,bU,if_false]
 by_cases h:a.block=b
 ·subst h;cases hb:w.heap[a.block]? with
  |none=>simp
  |some o'=>cases o' with
   |cells c e f=>
    simp only[if_true,cN,Array.getElem?_setIfInBounds]
    by_cases h2:a.off=o
    ·subst h2
     by_cases h3:a.off<c.size
     ·simp[h3]
     ·simp[h3]
    ·simp[h2]
   |_=>simp
 ·simp[h]
theorem oQ (w:au)(a:Addr)(v:ae)(b o:Nat):MO (w.setCell a v) ⟨b,o,none⟩=MO w ⟨b,o,none⟩:=by
 unfold MO au.setCell;simp only[Array.getElem?_modify]
 by_cases h:a.block=b
 ·subst h;cases hb:w.heap[a.block]? with
  |none=>simp
  |some o'=>cases o'<;>simp
 ·simp[h]
theorem xp {w:au}{a:Addr}{v:ae}(h:w.cell? a=some v):a.spot=none:=by
 unfold au.cell? at h
 split at h
 ·split at h
  ·cases h
  ·rename_i h2;simpa using h2
 ·cases h
theorem mF {α:Type}{P:aD}{R:Perm}{N:Nat}{x:Sem α}{Q:α->au->Prop}{w:au}(hN:N<=w.heap.size)(h:dA P R N x Q w):
  ∃a w',x.run P w= .ok a w'/\Q a w'/\tE R N w w'/\∀es,∃l:List Event,x.events P w es=es++l.toArray/\∀e∈l,nT R e:=by
 induction x generalizing w with
 |pure a=>exact⟨a,w,rfl,h,tE.refl ..,fun es=>⟨[],by simp[Sem.events,Sem.runT,-Sem.runT_eq],de⟩⟩
 |load m a k ih=>
  obtain⟨v,h1,h2,h3⟩:=h;obtain⟨x,w',hr,hq,hc,he⟩:=ih v hN h3;refine⟨x,w',by simp only[Sem.run,h1];exact hr,hq,hc,fun es=>?_⟩;obtain⟨l,hl,dS⟩:=he (es.push ⟨.cell a,false,m== .atomic⟩);refine⟨⟨.cell a,false,m== .atomic⟩::l,?_,?_⟩
  ·have :(Sem.load m a k).events P w es=(k v).events P w (es.push ⟨.cell a,false,m== .atomic⟩):=by simp only[Sem.events,Sem.runT,h1]
   rw[this,hl];simp
  ·intro e hm;rcases aI.1 hm with rfl|hm
   ·exact⟨xp h1,h2⟩
   ·exact dS e hm
 |store m a v k ih=>
  obtain⟨h0,⟨u,h1⟩,h2,h3,h4⟩:=h;have hs:=xp h1;obtain⟨x,w',hr,hq,hc,he⟩:=ih (w:=w.setCell a v) (by simpa[au.setCell]using hN) h4;have hY:(Sem.store m a v k).run P w=k.run P (w.setCell a v):=by
   cases v<;>first |(simp[ae.oneCell']at h0;done)|simp only[Sem.run,h1,h2,bU,if_false]
  have Va:∀es,(Sem.store m a v k).events P w es=k.events P (w.setCell a v) (es.push ⟨.cell a,true,m== .atomic⟩):=by
   intro es;cases v<;>first |(simp[ae.oneCell']at h0;done)|simp only[Sem.events,Sem.runT,h1,h2,bU,if_false]
  refine⟨x,w',by rw[hY];exact hr,hq,?_,fun es=>?_⟩
  ·refine tE.trans ?_ hc;refine⟨rfl,rfl,rfl,by simp[au.setCell],fun b _=>qQ ..,fun b o _ hw=>?_,fun b o _=>oQ ..,fun b _ _ fG=>?_⟩
   ·rw[ik _ _ _ _ _ hs,bS];rintro⟨rfl,rfl,_⟩;exact hw h3
   ·have MJ:a.block≠b:=by
     rintro rfl;unfold au.cell? at h1;unfold au.shape? at fG
     split at h1
     ·rename_i hh;simp[hh]at fG
     ·cases h1
    unfold au.setCell;simp only[Array.getElem?_modify,MJ,if_false]
  ·obtain⟨l,hl,dS⟩:=he (es.push ⟨.cell a,true,m== .atomic⟩);refine⟨⟨.cell a,true,m== .atomic⟩::l,by rw[Va,hl];simp,?_⟩;intro e hm;rcases aI.1 hm with rfl|hm
   ·exact⟨hs,h3⟩
   ·exact dS e hm
 |new o k ih=>
  obtain⟨x,w',hr,hq,hc,he⟩:=ih w.heap.size (w:={w with heap:=w.heap.push o}) (by simp;omega) h;refine⟨x,w',hr,hq,tE.trans ?_ hc,he⟩;have cC:∀b,b<N->(w.heap.push o)[b]?=w.heap[b]?:=fun b hb=>by rw[Array.getElem?_push_lt aj];simp[aW hb hN]
  refine⟨rfl,rfl,rfl,de,fun b hb=>?_,fun b o hb _=>?_,fun b o hb=>?_,fun b hb _ _=>cC b hb⟩
  ·unfold au.shape?;simp only[cC b hb]
  ·unfold au.cell?;simp only[cC b hb]
  ·unfold MO;simp only[cC b hb]
 |shape r k ih=>exact ih _ hN h
 |freeze a n k ih=>
  obtain⟨h1,h2⟩:=h;obtain⟨x,w',hr,hq,hc,he⟩:=ih (w:=w.freeze a n) (by unfold au.freeze;split<;>simpa using hN) h2;refine⟨x,w',hr,hq,tE.trans ?_ hc,he⟩;have cC:∀b,b<N->(w.freeze a n).heap[b]?=w.heap[b]?:=fun b hb=>by
   unfold au.freeze
   split
   ·rfl
   ·simp only[Array.getElem?_modify];rw[bS aj]
  have e1:(w.freeze a n).tape=w.tape/\(w.freeze a n).os=w.os/\(w.freeze a n).output=w.output/\w.heap.size<=(w.freeze a n).heap.size:=by
   unfold au.freeze;split<;>simp
  refine⟨e1.1,e1.2.1,e1.2.2.1,e1.2.2.2,fun b hb=>?_,fun b o hb _=>?_,fun b o hb=>?_,fun b hb _ _=>cC b hb⟩
  ·unfold au.shape?;simp only[cC b hb]
  ·unfold au.cell?;simp only[cC b hb]
  ·unfold MO;simp only[cC b hb]
 |frozen a k ih=>exact ih _ hN h
 |getObj r k ih=>
  obtain⟨o,h1,h2,h3,h4,h5⟩:=h;obtain⟨x,w',hr,hq,hc,he⟩:=ih o hN h5;have hY:(Sem.getObj r k).run P w=(k o).run P w:=by
   cases o<;>first |(simp only[Sem.run,h1];done)|exact absurd rfl (h2 _ _ _)
  have Va:∀es,(Sem.getObj r k).events P w es=(k o).events P w (es.push ⟨.obj r,false,o.isChan⟩):=by
   intro es;cases o<;>first |(simp only[Sem.events,Sem.runT,h1];done)|exact absurd rfl (h2 _ _ _)
  refine⟨x,w',by rw[hY];exact hr,hq,hc,fun es=>?_⟩;obtain⟨l,hl,dS⟩:=he (es.push ⟨.obj r,false,o.isChan⟩);refine⟨⟨.obj r,false,o.isChan⟩::l,by rw[Va,hl];simp,?_⟩;intro e hm;rcases aI.1 hm with rfl|hm
  ·exact⟨h4,h3⟩
  ·exact dS e hm
 |setObj r o k ih=>
  obtain⟨⟨o',h1,JS⟩,h2,h3,h4,h5⟩:=h;obtain⟨x,w',hr,hq,hc,he⟩:=ih (w:={w with heap:=w.heap.setIfInBounds r o}) (by simpa using hN) h5;have hY:(Sem.setObj r o k).run P w=k.run P {w with heap:=w.heap.setIfInBounds r o}:=by
   cases o'<;>first |(simp only[Sem.run,h1];done)|exact absurd rfl (JS _ _ _)
  have Va:∀es,(Sem.setObj r o k).events P w es=k.events P {w with heap:=w.heap.setIfInBounds r o} (es.push ⟨.obj r,true,o.isChan⟩):=by
   intro es;cases o'<;>first |(simp only[Sem.events,Sem.runT,h1];done)|exact absurd rfl (JS _ _ _)
  have UQ:r<w.heap.size:=by
   rcases Nat.lt_or_ge r w.heap.size with h|h
   ·exact h
   ·simp[Array.getElem?_eq_none h]at h1
  have dH:∀b,b≠r->(w.heap.setIfInBounds r o)[b]?=w.heap[b]?:=fun b hb=>Array.getElem?_setIfInBounds_ne (Ne.symm hb)
  have heq:(w.heap.setIfInBounds r o)[r]?=some o:=by simp[UQ]
  refine⟨x,w',by rw[hY];exact hr,hq,tE.trans ?_ hc,fun es=>?_⟩
  ·refine⟨rfl,rfl,rfl,de,fun b hb=>?_,fun b i hb _=>?_,fun b i hb=>?_,fun b hb ho _=>?_⟩
   ·unfold au.shape?
    by_cases WE:b=r
    ·subst WE;simp only[heq,h1];cases o<;>first |exact absurd rfl (h2 _ _ _)|(cases o'<;>first |exact absurd rfl (JS _ _ _)|rfl)
    ·simp only[dH b WE]
   ·unfold au.cell?
    by_cases WE:b=r
    ·subst WE;simp only[heq,h1];cases o<;>first |exact absurd rfl (h2 _ _ _)|(cases o'<;>first |exact absurd rfl (JS _ _ _)|rfl)
    ·simp only[dH b WE]
   ·unfold MO
    by_cases WE:b=r
    ·subst WE;simp only[heq,h1];cases o<;>first |exact absurd rfl (h2 _ _ _)|(cases o'<;>first |exact absurd rfl (JS _ _ _)|rfl)
    ·simp only[dH b WE]
   ·exact dH b (by rintro rfl;exact ho h4)
  ·obtain⟨l,hl,dS⟩:=he (es.push ⟨.obj r,true,o.isChan⟩);refine⟨⟨.obj r,true,o.isChan⟩::l,by rw[Va,hl];simp,?_⟩;intro e hm;rcases aI.1 hm with rfl|hm
   ·exact⟨h4,h3⟩
   ·exact dS e hm
 |choose q k ih=>
  obtain⟨x,w',hr,hq,hc,he⟩:=ih _ (w:=if q.forced then w else{w with drawn:=w.drawn+1}) (by split<;>exact hN) h
  by_cases hf:q.forced=true
  ·simp only[hf,if_true]at hr hc he;refine⟨x,w',by simp only[Sem.run,hf,if_true];exact hr,hq,hc,fun es=>?_⟩;obtain⟨l,hl,dS⟩:=he es;exact⟨l,by rw[<-hl];simp only[Sem.events,Sem.runT,hf,if_true],dS⟩
  ·simp only[hf,bU,if_false]at hr hc he;refine⟨x,w',by simp only[Sem.run,hf,bU,if_false];exact hr,hq,tE.trans (aO:={w with drawn:=w.drawn+1}) ⟨rfl,rfl,rfl,ai _,fun _ _=>rfl,fun _ _ _ _=>rfl,fun _ _ _=>rfl,fun _ _ _ _=>rfl⟩ hc,fun es=>?_⟩;obtain⟨l,hl,dS⟩:=he es;exact⟨l,by rw[<-hl];simp only[Sem.events,Sem.runT,hf,bU,if_false],dS⟩
 |sys c k ih=>exact h.elim
 |program k ih=>exact ih _ hN h
 |mark m k ih=>
  obtain⟨h1,h2⟩:=h;obtain⟨x,w',hr,hq,hc,he⟩:=ih hN h2;refine⟨x,w',hr,hq,hc,fun es=>?_⟩;obtain⟨l,hl,dS⟩:=he (es.push ⟨.mark m,false,true⟩);refine⟨⟨.mark m,false,true⟩::l,?_,?_⟩
  ·have :(Sem.mark m k).events P w es=k.events P w (es.push ⟨.mark m,false,true⟩):=by simp only[Sem.events,Sem.runT]
   rw[this,hl];simp
  ·intro e hm;rcases aI.1 hm with rfl|hm
   ·exact h1
   ·exact dS e hm
 |halt h'=>exact h.elim
end Go.AM
namespace Go.AM
open Go
def vz (ρ:dh)(e e':MapEntry):Prop:=aQ ρ e.key e'.key/\aQ ρ e.val e'.val/\e'.born=e.born
structure fH (ρ:dh)(m:Mem)(w:au):Prop where
 mz:∀b p,ρ b=some p->b<m.next
 cells:∀b p,ρ b=some p->(m.blk b).kind=1->p.sz=(m.blk b).sz/\(m.blk b).cs.length<=p.room/\∃e n,w.shape? p.c=some (e,n)/\p.d+p.room<=n
 lj:∀b p o v,ρ b=some p->m.cell b o=some v->∃v',w.cell? ⟨p.c,p.d+o,none⟩=some v'/\aQ ρ v v'
 thaw:∀b p o,ρ b=some p->o<p.room->(m.blk b).kind=1->m.base<=b->w.frozen? ⟨p.c,p.d+o,none⟩=false
 maps:∀b p,ρ b=some p->(m.blk b).kind=2->m.bg b=true->∃jD,w.heap[p.c]?=some (.map jD (m.blk b).clock)/\bB (vz ρ) (m.blk b).es.toList jD.toList
 lD:∀b p,ρ b=some p->(m.blk b).kind=3->m.bg b=true->p.d=0/\w.heap[p.c]?=some (.stringIter (m.blk b).str (m.blk b).pos)
 sep:∀b b' p p',b≠b'->ρ b=some p->ρ b'=some p'->(m.blk b).kind≠0->(m.blk b').kind≠0->p.c=p'.c->(m.blk b).kind=1/\(m.blk b').kind=1/\(p.room=0\/p'.room=0\/p.d+p.room<=p'.d\/p'.d+p'.room<=p.d)
 rG:∀b p,ρ b=some p->p.c<w.heap.size
 vars:∀b p,ρ b=some p->(m.blk b).kind=1->(m.blk b).pos=1->p.d=0
def az (ρ:dh)(m:Mem):Perm where
 rd c x:=∃b p,ρ b=some p/\p.c=c/\p.d<=x/\x<p.d+p.room/\m.nK b (x-p.d)
 wr c x:=∃b p,ρ b=some p/\p.c=c/\p.d<=x/\x<p.d+p.room/\m.okW b (x-p.d)
 ob c:=∃b p,ρ b=some p/\p.c=c/\((m.blk b).kind=2\/(m.blk b).kind=3)/\m.bg b=true
 deaf:=m.deaf
theorem lX {ρ:dh}{m:Mem}{c x:Nat}(h:(az ρ m).wr c x):(az ρ m).rd c x:=by
 obtain⟨b,p,h1,h2,h3,h4,h5⟩:=h;exact⟨b,p,h1,h2,h3,h4,h5.1⟩
structure bj (R:Perm)(w aO:au):Prop where
 tape:aO.tape=w.tape
 os:aO.os=w.os
 output:aO.output=w.output
 size:w.heap.size<=aO.heap.size
 shape:∀b,b<w.heap.size->aO.shape? b=w.shape? b
 cell:∀b o,R.rd b o->aO.cell? ⟨b,o,none⟩=w.cell? ⟨b,o,none⟩
 qU:∀b o,b<w.heap.size->MO aO ⟨b,o,none⟩=MO w ⟨b,o,none⟩
 obj:∀b,R.ob b->aO.heap[b]?=w.heap[b]?
theorem bj.refl(R:Perm)(w:au):bj R w w:=⟨rfl,rfl,rfl,ai _,fun _ _=>rfl,fun _ _ _=>rfl,fun _ _ _=>rfl,fun _ _=>rfl⟩
theorem bj.trans{R:Perm}{w aO iH:au}(h:bj R w aO)(k:bj R aO iH):bj R w iH:=
 ⟨k.tape.trans h.tape,k.os.trans h.os,k.output.trans h.output,cp h.size k.size,fun b hb=>(k.shape b (aW hb h.size)).trans (h.shape b hb),
  fun b o x=>(k.cell b o x).trans (h.cell b o x),fun b o x=>(k.qU b o (aW x h.size)).trans (h.qU b o x),fun b x=>(k.obj b x).trans (h.obj b x)⟩
theorem bj.at(R:Perm)(w:au)(d:Nat):bj R w {w with drawn:=d}:=⟨rfl,rfl,rfl,ai _,fun _ _=>rfl,fun _ _ _=>rfl,fun _ _ _=>rfl,fun _ _=>rfl⟩
section
variable {ρ:dh}{m:Mem}{w aO:au}
theorem jc (h:fH ρ m w){b:Nat}{p:Pl}(hp:ρ b=some p){o:Nat}{v:ae}(hc:m.cell b o=some v):o<p.room:=by
 have hk:=(Mem.eB hc).1;obtain⟨_,hl,_⟩:=h.cells b p hp hk;unfold Mem.cell at hc
 split at hc
 ·rcases Nat.lt_or_ge o (m.blk b).cs.length with cC|w5
  ·omega
  ·simp[List.getElem?_eq_none w5]at hc
 ·cases hc
theorem BU (h:fH ρ m w){b:Nat}{p:Pl}(hp:ρ b=some p){o:Nat}{v:ae}(hc:m.cell b o=some v):(az ρ m).rd p.c (p.d+o):=
 ⟨b,p,hp,rfl,aj,by have :=jc h hp hc;omega,by rw[Nat.add_sub_cancel_left];exact Mem.eB hc⟩
theorem yK {b:Nat}{p:Pl}(hp:ρ b=some p){o:Nat}(ho:o<p.room)(hw:m.okW b o):(az ρ m).wr p.c (p.d+o):=
 ⟨b,p,hp,rfl,aj,aj,by rw[Nat.add_sub_cancel_left];exact hw⟩
theorem fH.keeps(h:fH ρ m w)(k:bj (az ρ m) w aO):fH ρ m aO where
 mz:=h.mz
 cells b p hp hk:=by
  obtain⟨h1,h2,e,n,h3,h4⟩:=h.cells b p hp hk;exact⟨h1,h2,e,n,by rw[k.shape _ (h.rG b p hp)];exact h3,h4⟩
 lj b p o v hp hc:=by
  obtain⟨v',h1,h2⟩:=h.lj b p o v hp hc;exact⟨v',by rw[k.cell _ _ (BU h hp hc)];exact h1,h2⟩
 thaw b p o hp ho hk hb:=by rw[uu (k.qU _ _ (h.rG b p hp))];exact h.thaw b p o hp ho hk hb
 maps b p hp hk ho:=by
  obtain⟨jD,h1,h2⟩:=h.maps b p hp hk ho;exact⟨jD,by rw[k.obj _ ⟨b,p,hp,rfl,.inl hk,ho⟩];exact h1,h2⟩
 lD b p hp hk ho:=by
  obtain⟨h1,h2⟩:=h.lD b p hp hk ho;exact⟨h1,by rw[k.obj _ ⟨b,p,hp,rfl,.inr hk,ho⟩];exact h2⟩
 sep:=h.sep
 rG b p hp:=aW (h.rG b p hp) k.size
 vars:=h.vars
structure eJ (R R':Perm)(N:Nat):Prop where
 rd:∀b o,R'.rd b o->R.rd b o\/N<=b
 wr:∀b o,R'.wr b o->R.wr b o\/N<=b
 ob:∀b,R'.ob b->R.ob b\/N<=b
theorem eJ.refl(R:Perm)(N:Nat):eJ R R N:=⟨fun _ _=> .inl,fun _ _=> .inl,fun _=> .inl⟩
theorem fH.Ad(h:fH ρ m w){b:Nat}{p:Pl}(hp:ρ b=some p){o:Nat}{vs:List ae}{n:Nat}(hl:m.dB b o n=some vs){i:Nat}(hi:i<n):
  ∃v v',vs[i]?=some v/\aQ ρ v v'/\w.cell? ⟨p.c,p.d+(o+i),none⟩=some v'/\(az ρ m).rd p.c (p.d+(o+i)):=by
 obtain⟨_,_,h3⟩:=Mem.pK hl;obtain⟨v,hv,hc⟩:=h3 i hi;obtain⟨v',h1,h2⟩:=h.lj b p _ v hp hc;exact⟨v,v',hv,h2,h1,BU h hp hc⟩
theorem js (c d i:Nat):(⟨c,d,none⟩:Addr).add i=⟨c,d+i,none⟩:=by
 unfold Addr.add
 split
 ·rename_i h;subst h;rfl
 ·rfl
theorem B6 {P:aD}{R:Perm}{N:Nat}{a:Addr}{md:Mode}{Q:ae->au->Prop}{v:ae}(h:w.cell? a=some v)(hr:R.rd a.block a.off)(hq:Q v w):dA P R N (Go.load a md) Q w:=⟨v,h,hr,hq⟩
theorem qy {P:aD}{R:Perm}{N:Nat}{a:Addr}{Q:Array ae->au->Prop}:∀(n i:Nat) (acc:Array ae) (vs:List ae),
  (∀j:Nat,j<n->∃v,vs[j]?=some v/\w.cell? (a.add (i+j))=some v/\R.rd (a.add (i+j)).block (a.add (i+j)).off)->vs.length=n->Q (acc++vs.toArray) w->dA P R N (loadCellsFrom a i n acc) Q w
 |0,i,acc,vs,_,hl,hq=>by
  have :vs=[]:=List.eq_nil_of_length_eq_zero hl;subst this
  show Q acc w
  simpa using hq
 |n+1,i,acc,vs,h,hl,hq=>by
  obtain⟨v,hv,hc,hr⟩:=h 0 aj;cases vs with
  |nil=>simp at hl
  |cons x vs=>
   simp at hv;subst hv;simp only[loadCellsFrom];rw[ar];refine B6 (by simpa using hc) (by simpa using hr) ?_;refine qy n (i+1) (acc.push x) vs (fun j hj=>?_) (by simpa using hl) (by simpa using hq);obtain⟨u,h1,h2,h3⟩:=h (j+1) aj;have e:i+1+j=i+(j+1):=aj;rw[e];exact⟨u,by simpa using h1,h2,h3⟩
theorem fH.qS(h:fH ρ m w){P:aD}{N:Nat}{b:Nat}{p:Pl}(hp:ρ b=some p){o n:Nat}{vs:List ae}(hl:m.dB b o n=some vs){Q:Array ae->au->Prop}
  (hq:∀q0:List ae,bB (aQ ρ) vs q0->Q q0.toArray w):dA P (az ρ m) N (loadCells ⟨p.c,p.d+o,none⟩ n) Q w:=by
 obtain⟨_,hlen,_⟩:=Mem.pK hl;have hex:∃q0:List ae,q0.length=n/\∀i:Nat,i<n->∃v v',vs[i]?=some v/\q0[i]?=some v'/\aQ ρ v v'/\w.cell? ⟨p.c,p.d+(o+i),none⟩=some v'/\(az ρ m).rd p.c (p.d+(o+i)):=by
  refine⟨(List.range n).map fun i=>(w.cell? ⟨p.c,p.d+(o+i),none⟩).getD undef,de,fun i hi=>?_⟩;obtain⟨v,v',h1,h2,h3,h4⟩:=h.Ad hp hl hi;exact⟨v,v',h1,by simp[hi,h3],h2,h3,h4⟩
 obtain⟨q0,AR,hv⟩:=hex;unfold loadCells;refine qy n 0 #[] q0 (fun j hj=>?_) AR ?_
 ·obtain⟨v,v',_,h2,_,h4,h5⟩:=hv j hj;rw[Nat.zero_add,js];exact⟨v',h2,by rw[Nat.add_assoc];exact h4,by simpa[Nat.add_assoc]using h5⟩
 ·simp only[Array.empty_append];refine hq q0 (bB.GQ (by rw[hlen,AR]) fun i a b ha hb=>?_);have hi:i<n:=by
   rcases Nat.lt_or_ge i n with h|h
   ·exact h
   ·rw[List.getElem?_eq_none aj]at ha;cases ha
  obtain⟨v,v',h1,h2,h3,_⟩:=hv i hi;rw[h1]at ha;rw[h2]at hb;cases ha;cases hb;exact h3
structure Ax (w w':au)(c d:Nat)(vs:List ae):Prop where
 tape:w'.tape=w.tape
 drawn:w'.drawn=w.drawn
 os:w'.os=w.os
 output:w'.output=w.output
 size:w'.heap.size=w.heap.size
 others:∀b,b≠c->w'.heap[b]?=w.heap[b]?
 shape:∀b,w'.shape? b=w.shape? b
 cell:∀x,w'.cell? ⟨c,x,none⟩=if d<=x/\x<d+vs.length then vs[x-d]? else w.cell? ⟨c,x,none⟩
 qU:∀b x,w'.frozen? ⟨b,x,none⟩=w.frozen? ⟨b,x,none⟩
theorem Ax.Dp{w w':au}{c d:Nat}{vs:List ae}(h:Ax w w' c d vs){b:Nat}(hb:b≠c)(x:Nat):w'.cell? ⟨b,x,none⟩=w.cell? ⟨b,x,none⟩:=by
 unfold au.cell?;simp only[h.others b hb]
theorem PK (w:au)(c d:Nat):Ax w w c d []:=⟨rfl,rfl,rfl,rfl,rfl,fun _ _=>rfl,fun _=>rfl,fun x=>by simp;omega,fun _ _=>rfl⟩
theorem K9 {w w':au}{c d:Nat}{v:ae}{vs:List ae}(hc:(w.cell? ⟨c,d,none⟩).isSome=true)(h:Ax (w.setCell ⟨c,d,none⟩ v) w' c (d+1) vs):Ax w w' c d (v::vs) where
 tape:=h.tape
 drawn:=h.drawn
 os:=h.os
 output:=h.output
 size:=by rw[h.size];simp[au.setCell]
 others b hb:=by
  rw[h.others b hb];unfold au.setCell;simp only[Array.getElem?_modify,Ne.symm hb,if_false]
 shape b:=by rw[h.shape,qQ]
 cell x:=by
  rw[h.cell,ik _ _ _ _ _ rfl]
  by_cases h1:d+1<=x/\x<d+1+vs.length
  ·rw[bC h1,bC ⟨aj,by simp;omega⟩];rw[show x-d=(x-(d+1))+1 by omega];simp
  ·rw[bS h1]
   by_cases h2:d=x
   ·subst h2;rw[bC ⟨rfl,rfl,hc⟩,bC ⟨aj,de⟩];simp
   ·rw[bS (by rintro⟨_,h3,_⟩;exact h2 h3),bS (by simp;omega)]
 qU b x:=by rw[h.qU,uu (oQ ..)]
theorem pD {P:aD}{R:Perm}{N:Nat}{c d:Nat}{Q:Unit->au->Prop}:∀(vs:List ae) (i:Nat) (w:au),(∀v∈vs,v.oneCell'=true)->
  (∀j:Nat,j<vs.length->(w.cell? ⟨c,d+i+j,none⟩).isSome=true/\w.frozen? ⟨c,d+i+j,none⟩=false/\R.wr c (d+i+j))->(∀w',Ax w w' c (d+i) vs->Q () w')->dA P R N (storeCells ⟨c,d,none⟩ vs i) Q w
 | [],i,w,_,_,hq=>hq w (PK ..)
 |v::vs,i,w,h1,h,hq=>by
  simp only[storeCells];rw[ar];have h0:=h 0 de;simp only[Nat.add_zero]at h0;obtain⟨u,hu⟩:=iA.1 h0.1
  show dA P R N (.store .plain _ v (.pure ())) _ w
  rw[js];refine⟨h1 v de,⟨u,hu⟩,h0.2.1,h0.2.2,?_⟩;refine pD vs (i+1) _ (fun x hx=>h1 x (by simp[hx])) (fun j hj=>?_) (fun w' zk=>hq w' ?_)
  ·obtain⟨g1,g2,g3⟩:=h (j+1) (by simp;omega);have e:d+(i+1)+j=d+i+(j+1):=aj;rw[e];refine⟨?_,by rw[uu (oQ ..)];exact g2,g3⟩;rw[ik _ _ _ _ _ rfl,bS (by rintro⟨_,h3,_⟩;simp at h3)];exact g1
  ·rw[show d+(i+1)=d+i+1 by omega]at zk;exact K9 h0.1 zk
theorem fH.wrote(h:fH ρ m w){b:Nat}{p:Pl}(hp:ρ b=some p){o:Nat}{vs q0:List ae}(hv:bB (aQ ρ) vs q0){cs:List (Option ae)}(hk:(m.blk b).kind=1)(CE:eA (m.blk b).cs o vs=some cs)
  {w':au}(hw:Ax w w' p.c (p.d+o) q0):fH ρ (m.a8 b {m.blk b with cs:=cs}) w':=by
 obtain⟨hl,hg,pO⟩:=lU CE;have hlen:=hv.length;have fj:∀b',(m.a8 b {m.blk b with cs:=cs}).blk b'=if b=b' then{m.blk b with cs:=cs,aZ:=m.tick}else m.blk b':=fun b'=>Mem.dE ..
 have iM:∀b',((m.a8 b {m.blk b with cs:=cs}).blk b').kind=(m.blk b').kind:=fun b'=>by rw[fj];split<;>simp_all
 obtain⟨iW,rH,e,n,fG,hn⟩:=h.cells b p hp hk;refine⟨h.mz,fun b' p' dy gm=>?_,fun b' p' o' v dy hc=>?_,fun b' p' o' dy qe gm iB=>?_,fun b' p' dy gm qe=>?_,fun b' p' dy gm qe=>?_,fun yn ym nJ oH dH pN AL k₁ k₂ hc=>?_,fun b' p' dy=>by rw[hw.size];exact h.rG b' p' dy,fun b' p' dy gm wY=>?_⟩
 ·rw[iM]at gm;obtain⟨g1,g2,e',n',g3,g4⟩:=h.cells b' p' dy gm;refine⟨?_,?_,e',n',by rw[hw.shape];exact g3,g4⟩
  ·rw[fj];split
   ·rename_i hb;subst hb;exact g1
   ·exact g1
  ·rw[fj];split
   ·rename_i hb;subst hb;simpa[hl]using g2
   ·exact g2
 ·by_cases hb:b=b'
  ·subst hb;obtain rfl:p=p':=by rw[hp]at dy;exact Option.some.inj dy
   unfold Mem.cell at hc;rw[fj]at hc;simp only[if_true,Mem.Lz]at hc
   split at hc
   ·rename_i hh;rw[hg]at hc
    by_cases ky:o<=o'/\o'<o+vs.length
    ·rw[bC ky]at hc;obtain⟨x,hx⟩:∃x,vs[o'-o]?=some x:=⟨_,List.getElem?_eq_getElem aj⟩;simp[hx]at hc;subst hc;obtain⟨y,hy,KJ⟩:=hv.get hx;refine⟨y,?_,KJ⟩;rw[hw.cell,bC ⟨aj,aj⟩,show p.d+o'-(p.d+o)=o'-o by omega];exact hy
    ·rw[bS ky]at hc;have FI:m.cell b o'=some v:=by unfold Mem.cell;rw[bC hh];exact hc
     obtain⟨y,hy,KJ⟩:=h.lj b p o' v hp FI;refine⟨y,?_,KJ⟩;rw[hw.cell,bS aj];exact hy
   ·cases hc
  ·have FI:m.cell b' o'=some v:=by
    unfold Mem.cell at hc⊢;rw[fj,bS hb]at hc;exact hc
   obtain⟨y,hy,KJ⟩:=h.lj b' p' o' v dy FI;refine⟨y,?_,KJ⟩;have gm:=(Mem.eB FI).1;have wX:=jc h dy FI
   by_cases uo:p'.c=p.c
   ·have :=(h.sep b b' p p' hb hp dy aj aj uo.symm).2.2;have hvl:o+vs.length<=(m.blk b).cs.length\/vs.length=0:=by
     rcases Nat.eq_zero_or_pos vs.length with h0|h0
     ·exact .inr h0
     ·obtain⟨u,hu⟩:=pO (vs.length-1) aj;rcases Nat.lt_or_ge (o+(vs.length-1)) (m.blk b).cs.length with h1|h1
      ·left;omega
      ·rw[List.getElem?_eq_none h1]at hu;cases hu
    rw[uo,hw.cell,bS aj,<-uo];exact hy
   ·rw[hw.Dp uo];exact hy
 ·rw[hw.qU];rw[iM]at gm;exact h.thaw b' p' o' dy qe gm iB
 ·have hb:b≠b':=by rintro rfl;rw[iM]at gm;omega
  have e1:(m.a8 b {m.blk b with cs:=cs}).blk b'=m.blk b':=by rw[fj,bS hb]
  rw[iM]at gm;obtain⟨jD,g1,g2⟩:=h.maps b' p' dy gm qe;have dH:p'.c≠p.c:=fun uo=>by have :=(h.sep b b' p p' hb hp dy aj aj uo.symm).2.1;omega
  exact⟨jD,by rw[hw.others _ dH,e1];exact g1,by rw[e1];exact g2⟩
 ·have hb:b≠b':=by rintro rfl;rw[iM]at gm;omega
  have e1:(m.a8 b {m.blk b with cs:=cs}).blk b'=m.blk b':=by rw[fj,bS hb]
  rw[iM]at gm;obtain⟨g1,g2⟩:=h.lD b' p' dy gm qe;have dH:p'.c≠p.c:=fun uo=>by have :=(h.sep b b' p p' hb hp dy aj aj uo.symm).2.1;omega
  exact⟨g1,by rw[hw.others _ dH,e1];exact g2⟩
 ·rw[iM]at k₁ k₂⊢;rw[iM];exact h.sep yn ym nJ oH dH pN AL k₁ k₂ hc
 ·rw[iM]at gm;refine h.vars b' p' dy gm ?_;rw[fj]at wY
  split at wY
  ·rename_i e;subst e;exact wY
  ·exact wY
theorem Ek {b:Nat}{o:Nat}{vs:List ae}{cs:List (Option ae)}(hk:(m.blk b).kind=1)(CE:eA (m.blk b).cs o vs=some cs)(N:Nat):eJ (az ρ m) (az ρ (m.a8 b {m.blk b with cs:=cs})) N:=by
 obtain⟨hl,hg,pO⟩:=lU CE;have fj:∀b',(m.a8 b {m.blk b with cs:=cs}).blk b'=if b=b' then{m.blk b with cs:=cs,aZ:=m.tick}else m.blk b':=fun b'=>Mem.dE ..
 have iM:∀b',((m.a8 b {m.blk b with cs:=cs}).blk b').kind=(m.blk b').kind:=fun b'=>by rw[fj];split<;>simp_all
 have hR:∀b' o',(m.a8 b {m.blk b with cs:=cs}).nK b' o'->m.nK b' o':=by
  rintro b' o' ⟨g1,g2,g3⟩;refine⟨by rw[<-iM b'];exact g1,g2,fun cC=>?_⟩
  by_cases hb:b=b'
  ·subst hb;have :=g3 (by rw[fj,bC rfl];simpa[hl]using cC);rw[fj,bC rfl]at this;obtain⟨x,hx⟩:=this;rw[hg]at hx
   split at hx
   ·rename_i ky;obtain⟨u,hu⟩:=pO (o'-o) aj;exact⟨u,by rw[show o'=o+(o'-o) by omega];exact hu⟩
   ·exact⟨x,hx⟩
  ·have :=g3 (by rw[fj,bS hb];exact cC);rw[fj,bS hb]at this;exact this
 refine⟨?_,?_,?_⟩
 ·rintro c x ⟨b',p,h1,h2,h3,h4,h5⟩;exact .inl ⟨b',p,h1,h2,h3,h4,hR _ _ h5⟩
 ·rintro c x ⟨b',p,h1,h2,h3,h4,h5,h6⟩;exact .inl ⟨b',p,h1,h2,h3,h4,hR _ _ h5,h6⟩
 ·rintro c ⟨b',p,h1,h2,h3,h4⟩;exact .inl ⟨b',p,h1,h2,by rwa[iM]at h3,h4⟩
end
end Go.AM
namespace Go.AM
open Go
def dh.put(ρ:dh)(b:Nat)(p:Pl):dh:=fun x=>if x=b then some p else ρ x
theorem dh.uf{ρ:dh}{b:Nat}(h:ρ b=none)(p:Pl):ρ.le (ρ.put b p):=by
 intro x q hq;unfold dh.put;rw[bS (by rintro rfl;rw[h]at hq;cases hq)];exact hq
theorem dh.kH(ρ:dh)(b:Nat)(p:Pl):ρ.put b p b=some p:=by simp[dh.put]
theorem dh.LM(ρ:dh){b x:Nat}(p:Pl)(h:x≠b):ρ.put b p x=ρ x:=by simp[dh.put,h]
section
variable {ρ:dh}{m:Mem}{w:au}
theorem fH.FW(h:fH ρ m w){m':Mem}(hn:m.next<=m'.next)(hb:∀b p,ρ b=some p->(m'.blk b)=(m.blk b))(hh:m'.bl=m.bl)(QN:m'.base=m.base)(hhm:m'.home=m.home):fH ρ m' w:=by
 have hc:∀b p o,ρ b=some p->m'.cell b o=m.cell b o:=fun b p o hp=>by unfold Mem.cell;rw[hb b p hp,hh]
 have hO:∀b,m'.bg b=m.bg b:=fun b=>by unfold Mem.bg;rw[hh,hhm]
 refine⟨fun b p hp=>aW (h.mz b p hp) hn,fun b p hp=>?_,fun b p o v hp=>?_,fun b p o hp cC hk nC=>h.thaw b p o hp cC (by rwa[hb b p hp]at hk) (by rwa[QN]at nC),fun b p hp=>?_,fun b p hp=>?_,fun b b' p p' dH hp dy=>?_,h.rG,fun b p hp=>by rw[hb b p hp];exact h.vars b p hp⟩
 ·rw[hb b p hp];exact h.cells b p hp
 ·rw[hc b p o hp];exact h.lj b p o v hp
 ·rw[hb b p hp,hO];exact h.maps b p hp
 ·rw[hb b p hp,hO];exact h.lD b p hp
 ·rw[hb b p hp,hb b' p' dy];exact h.sep b b' p p' dH hp dy
theorem mB {m':Mem}(hb:∀b p,ρ b=some p->(m'.blk b)=(m.blk b))(hh:m'.bl=m.bl)(hhm:m'.home=m.home)(hf:m'.floor=m.floor)(ho:m'.opn=m.opn)(N:Nat):eJ (az ρ m) (az ρ m') N:=by
 have hR:∀b p o,ρ b=some p->m'.nK b o->m.nK b o:=fun b p o hp=>by unfold Mem.nK;rw[hb b p hp,hh];exact id
 have hW:∀b p o,ρ b=some p->m'.okW b o->m.okW b o:=fun b p o hp x=>⟨hR b p o hp x.1,by have :=x.2;rwa[hf,ho]at this⟩
 have hO:∀b,m'.bg b=m.bg b:=fun b=>by unfold Mem.bg;rw[hh,hhm]
 refine⟨?_,?_,?_⟩
 ·rintro c x ⟨b,p,h1,h2,h3,h4,h5⟩;exact .inl ⟨b,p,h1,h2,h3,h4,hR b p _ h1 h5⟩
 ·rintro c x ⟨b,p,h1,h2,h3,h4,h5⟩;exact .inl ⟨b,p,h1,h2,h3,h4,hW b p _ h1 h5⟩
 ·rintro c ⟨b,p,h1,h2,h3,h4⟩;exact .inl ⟨b,p,h1,h2,by rwa[hb b p h1]at h3,by rwa[hO]at h4⟩
theorem rB (h:fH ρ m w):ρ m.next=none:=by
 cases hp:ρ m.next with
 |none=>rfl
 |some p=>exact absurd (h.mz _ _ hp) aj
theorem lh (h:fH ρ m w)(k:dJ):∀b p,ρ b=some p->((m.alloc k).blk b)=(m.blk b):=by
 intro b p hp;rw[Mem.bY,bS];rintro rfl;rw[rB h]at hp;cases hp
theorem fH.bump(h:fH ρ m w)(k:dJ):fH ρ (m.alloc k) w:=h.FW de (lh h k) rfl rfl rfl
theorem fH.lay(h:fH ρ m w){b:Nat}(hb:ρ b=none)(cC:b<m.next){w':au}{o:Obj}(OZ:w'.heap=w.heap.push o){p:Pl}(hpc:p.c=w.heap.size)
  (zq:(m.blk b).kind=1->p.d=0/\p.sz=(m.blk b).sz/\(m.blk b).cs.length<=p.room/\∃C e fr,o= .cells C e fr/\p.room<=C.size/\(∀x,x<p.room->¬(fr.1<=x/\x<fr.2))/\
   ∀(i:Nat) v,(m.blk b).cs[i]?=some (some v)->∃v',C[i]?=some v'/\aQ ρ v v')
  (U0:(m.blk b).kind=2->∃jD,o= .map jD (m.blk b).clock/\bB (vz ρ) (m.blk b).es.toList jD.toList)
  (JJ:(m.blk b).kind=3->p.d=0/\o= .stringIter (m.blk b).str (m.blk b).pos):fH (ρ.put b p) m w':=by
 have hle:=dh.uf hb p;have hold:∀c,c<w.heap.size->w'.heap[c]?=w.heap[c]?:=fun c hc=>by rw[OZ,Array.getElem?_push_lt hc];simp[hc]
 have jT:w'.heap[w.heap.size]?=some o:=by rw[OZ];simp
 have lF:∀c x,c<w.heap.size->w'.cell? ⟨c,x,none⟩=w.cell? ⟨c,x,none⟩:=fun c x hc=>by unfold au.cell?;simp only[hold c hc]
 have fG:∀c,c<w.heap.size->w'.shape? c=w.shape? c:=fun c hc=>by unfold au.shape?;simp only[hold c hc]
 have DV:∀c x,c<w.heap.size->w'.frozen? ⟨c,x,none⟩=w.frozen? ⟨c,x,none⟩:=fun c x hc=>by unfold au.frozen?;simp only[hold c hc]
 have dO:∀b' p',ρ.put b p b'=some p'->(b'=b/\p'=p)\/(b'≠b/\ρ b'=some p'):=by
  intro b' p' dy;unfold dh.put at dy
  split at dy
  ·rename_i e;exact .inl ⟨e,(Option.some.inj dy).symm⟩
  ·rename_i e;exact .inr ⟨e,dy⟩
 refine⟨fun b' p' dy=>?_,fun b' p' dy hk=>?_,fun b' p' x v dy hc=>?_,fun b' p' x dy hx hk nC=>?_,fun b' p' dy hk ho=>?_,fun b' p' dy hk ho=>?_,fun yn ym nJ oH dH pN AL k₁ k₂ hc=>?_,fun b' p' dy=>?_,fun b' p' dy hk wY=>?_⟩
 ·rcases dO _ _ dy with⟨rfl,rfl⟩|⟨_,hq⟩
  ·exact cC
  ·exact h.mz _ _ hq
 ·rcases dO _ _ dy with⟨rfl,rfl⟩|⟨_,hq⟩
  ·obtain⟨h0,h1,h2,C,e,fr,rfl,h3,_⟩:=zq hk;exact⟨h1,h2,e,C.size,by unfold au.shape?;rw[hpc,jT],aj⟩
  ·obtain⟨h1,h2,e,n,h3,h4⟩:=h.cells _ _ hq hk;exact⟨h1,h2,e,n,by rw[fG _ (h.rG _ _ hq)];exact h3,h4⟩
 ·rcases dO _ _ dy with⟨rfl,rfl⟩|⟨_,hq⟩
  ·have hk:=(Mem.eB hc).1;obtain⟨h0,_,_,C,e,fr,rfl,_,_,h5⟩:=zq hk;have hx:(m.blk b').cs[x]?=some (some v):=by
    unfold Mem.cell at hc
    split at hc
    ·cases hg:(m.blk b').cs[x]? with
     |none=>simp[hg]at hc
     |some u=>cases u<;>simp[hg]at hc;subst hc;rfl
    ·cases hc
   obtain⟨v',RH,hr⟩:=h5 x v hx;exact⟨v',by unfold au.cell?;simp only[hpc,jT,h0,Nat.zero_add];simpa using RH,hr.iJ hle⟩
  ·obtain⟨v',h1,h2⟩:=h.lj _ _ _ _ hq hc;exact⟨v',by rw[lF _ _ (h.rG _ _ hq)];exact h1,h2.iJ hle⟩
 ·rcases dO _ _ dy with⟨rfl,rfl⟩|⟨_,hq⟩
  ·obtain⟨h0,_,_,C,e,fr,rfl,h3,h4,_⟩:=zq hk;have :=h4 x hx;unfold au.frozen?;simp only[hpc,jT,h0,Nat.zero_add];simpa using this
  ·rw[DV _ _ (h.rG _ _ hq)];exact h.thaw _ _ _ hq hx hk nC
 ·rcases dO _ _ dy with⟨rfl,rfl⟩|⟨_,hq⟩
  ·obtain⟨jD,rfl,h1⟩:=U0 hk;exact⟨jD,by rw[hpc,jT],h1.mono fun _ _ x=>⟨x.1.iJ hle,x.2.1.iJ hle,x.2.2⟩⟩
  ·obtain⟨jD,h1,h2⟩:=h.maps _ _ hq hk ho;exact⟨jD,by rw[hold _ (h.rG _ _ hq)];exact h1,h2.mono fun _ _ x=>⟨x.1.iJ hle,x.2.1.iJ hle,x.2.2⟩⟩
 ·rcases dO _ _ dy with⟨rfl,rfl⟩|⟨_,hq⟩
  ·obtain⟨h0,rfl⟩:=JJ hk;exact⟨h0,by rw[hpc,jT]⟩
  ·obtain⟨h1,h2⟩:=h.lD _ _ hq hk ho;exact⟨h1,by rw[hold _ (h.rG _ _ hq)];exact h2⟩
 ·rcases dO _ _ pN with⟨rfl,rfl⟩|⟨Zl,IS⟩<;>rcases dO _ _ AL with⟨rfl,rfl⟩|⟨Zk,IQ⟩
  ·exact absurd rfl dH
  ·have :=h.rG _ _ IQ;omega
  ·have :=h.rG _ _ IS;omega
  ·exact h.sep _ _ _ _ dH IS IQ k₁ k₂ hc
 ·rcases dO _ _ dy with⟨rfl,rfl⟩|⟨_,hq⟩
  ·rw[hpc,OZ];simp
  ·have :=h.rG _ _ hq;rw[OZ];simp;omega
 ·rcases dO _ _ dy with⟨rfl,rfl⟩|⟨_,hq⟩
  ·exact(zq hk).1
  ·exact h.vars _ _ hq hk wY
theorem vQ {b:Nat}(hb:ρ b=none){p:Pl}{N:Nat}(hp:N<=p.c):eJ (az ρ m) (az (ρ.put b p) m) N:=by
 have dO:∀b' p',ρ.put b p b'=some p'->(b'=b/\p'=p)\/ρ b'=some p':=by
  intro b' p' dy;unfold dh.put at dy
  split at dy
  ·rename_i e;exact .inl ⟨e,(Option.some.inj dy).symm⟩
  ·exact .inr dy
 refine⟨?_,?_,?_⟩
 ·rintro c x ⟨b',p',h1,rfl,h3⟩;rcases dO _ _ h1 with⟨_,rfl⟩|h1
  ·exact .inr hp
  ·exact .inl ⟨b',p',h1,rfl,h3⟩
 ·rintro c x ⟨b',p',h1,rfl,h3⟩;rcases dO _ _ h1 with⟨_,rfl⟩|h1
  ·exact .inr hp
  ·exact .inl ⟨b',p',h1,rfl,h3⟩
 ·rintro c ⟨b',p',h1,rfl,h3⟩;rcases dO _ _ h1 with⟨_,rfl⟩|h1
  ·exact .inr hp
  ·exact .inl ⟨b',p',h1,rfl,h3⟩
theorem eJ.trans{R eK aiU:Perm}{N:Nat}(h:eJ R eK N)(k:eJ eK aiU N):eJ R aiU N:=
 ⟨fun b o x=>(k.rd b o x).elim (h.rd b o) .inr,fun b o x=>(k.wr b o x).elim (h.wr b o) .inr,fun b x=>(k.ob b x).elim (h.ob b) .inr⟩
theorem fH.kill(h:fH ρ m w)(b:Nat):fH ρ (m.a8 b {}) w:=by
 have fj:∀b',(m.a8 b {}).blk b'=if b=b' then{aZ:=m.tick}else m.blk b':=fun b'=>Mem.dE ..
 have dH:∀b',((m.a8 b {}).blk b').kind≠0->b≠b'/\(m.a8 b {}).blk b'=m.blk b':=by
  intro b' hk;rw[fj]at hk⊢
  by_cases hb:b=b'
  ·rw[bC hb]at hk;exact absurd rfl hk
  ·rw[bS hb];exact⟨hb,rfl⟩
 refine⟨h.mz,fun b' p' dy hk=>?_,fun b' p' x v dy hc=>?_,fun b' p' x dy hx hk nC=>?_,fun b' p' dy hk ho=>?_,fun b' p' dy hk ho=>?_,fun yn ym nJ oH My pN AL k₁ k₂ hc=>?_,h.rG,fun b' p' dy hk wY=>?_⟩
 ·obtain⟨_,e⟩:=dH b' aj;rw[e]at hk⊢;exact h.cells b' p' dy hk
 ·have hk:=(Mem.eB hc).1;obtain⟨_,e⟩:=dH b' aj;refine h.lj b' p' x v dy ?_;unfold Mem.cell at hc⊢;rw[e]at hc;exact hc
 ·obtain⟨_,e⟩:=dH b' aj;rw[e]at hk;exact h.thaw b' p' x dy hx hk nC
 ·obtain⟨_,e⟩:=dH b' aj;rw[e]at hk⊢;exact h.maps b' p' dy hk ho
 ·obtain⟨_,e⟩:=dH b' aj;rw[e]at hk⊢;exact h.lD b' p' dy hk ho
 ·obtain⟨_,Zl⟩:=dH yn k₁;obtain⟨_,Zk⟩:=dH ym k₂;rw[Zl]at k₁⊢;rw[Zk]at k₂⊢;exact h.sep yn ym nJ oH My pN AL k₁ k₂ hc
 ·obtain⟨_,e⟩:=dH b' aj;rw[e]at hk wY;exact h.vars b' p' dy hk wY
theorem Ij (b N:Nat):eJ (az ρ m) (az ρ (m.a8 b {})) N:=by
 have fj:∀b',(m.a8 b {}).blk b'=if b=b' then{aZ:=m.tick}else m.blk b':=fun b'=>Mem.dE ..
 have dH:∀b',((m.a8 b {}).blk b').kind≠0->(m.a8 b {}).blk b'=m.blk b':=by
  intro b' hk;rw[fj]at hk⊢
  by_cases hb:b=b'
  ·rw[bC hb]at hk;exact absurd rfl hk
  ·rw[bS hb]
 refine⟨?_,?_,?_⟩
 ·rintro c x ⟨b',p,h1,h2,h3,h4,h5⟩;have e:=dH b' (by have :=h5.1;omega);exact .inl ⟨b',p,h1,h2,h3,h4,by unfold Mem.nK at h5⊢;rw[e]at h5;exact h5⟩
 ·rintro c x ⟨b',p,h1,h2,h3,h4,h5⟩;have e:=dH b' (by have :=h5.1.1;omega);exact .inl ⟨b',p,h1,h2,h3,h4,by unfold Mem.okW Mem.nK at h5⊢;rw[e]at h5;exact h5⟩
 ·rintro c ⟨b',p,h1,h2,h3,h4⟩;have e:=dH b' aj;exact .inl ⟨b',p,h1,h2,by rwa[e]at h3,h4⟩
structure Left (ρ:dh)(m:Mem)(w:au)(bu:dh)(m':Mem)(w':au):Prop where
 le:ρ.le bu
 jY:fH bu m' w'
 within:eJ (az ρ m) (az bu m') w.heap.size
 old:∀b,b<m.next->bu b=ρ b
theorem Left.refl(h:fH ρ m w):Left ρ m w ρ m w:=⟨ρ.le_refl,h,eJ.refl _ _,fun _ _=>rfl⟩
theorem A1 {ρ:dh}{n:Nat}{p:Pl}:∀b,b<n->ρ.put n p b=ρ b:=fun b hb=>dh.LM _ _ aj
theorem pF {P:aD}{R:Perm}{N:Nat}{e:aM}{C:Array ae}{Q:Addr->au->Prop}(hq:Q ⟨w.heap.size,0,none⟩ {w with heap:=w.heap.push (.cells C e)}):dA P R N (newRow e C) Q w:=hq
theorem fH.cE(h:fH ρ m w){sz ps:Nat}{vs:List ae}{C:Array ae}(e:aM)(hlen:vs.length<=C.size)(hv:∀(i:Nat) v,vs[i]?=some v->∃v',C[i]?=some v'/\aQ ρ v v'):
  Left ρ m w (ρ.put m.next ⟨w.heap.size,0,C.size,sz⟩) (m.alloc {kind:=1,sz:=sz,cs:=vs.map some,pos:=ps}) {w with heap:=w.heap.push (.cells C e)}:=by
 have hn:=rB h;have kz:(m.alloc {kind:=1,sz:=sz,cs:=vs.map some,pos:=ps}).blk m.next={kind:=1,sz:=sz,cs:=vs.map some,pos:=ps,aZ:=m.tick}:=by rw[Mem.bY,bC rfl]
 refine⟨dh.uf hn _,(h.bump {kind:=1,sz:=sz,cs:=vs.map some,pos:=ps}).lay hn de (o:= .cells C e) rfl rfl (fun _=>?_) (fun hk=>by rw[kz]at hk;simp at hk) (fun hk=>by rw[kz]at hk;simp at hk),
  (mB (lh h _) rfl rfl rfl rfl _).trans (vQ hn (ai _)),A1⟩
 rw[kz];refine⟨rfl,rfl,by simpa using hlen,C,e,(0,0),rfl,ai _,fun x _ hx=>by omega,fun i v hi=>?_⟩;rw[List.getElem?_map,aC]at hi;obtain⟨u,hu,hx⟩:=hi;obtain rfl:u=v:=by simpa using hx
 exact hv i u hu
theorem fH.Qn(h:fH ρ m w){sz ps:Nat}{vs:List ae}{q0:List ae}(e:aM)(hv:bB (aQ ρ) vs q0):
  Left ρ m w (ρ.put m.next ⟨w.heap.size,0,q0.length,sz⟩) (m.alloc {kind:=1,sz:=sz,cs:=vs.map some,pos:=ps}) {w with heap:=w.heap.push (.cells q0.toArray e)}:=by
 have :=h.cE (sz:=sz) (ps:=ps) (vs:=vs) (C:=q0.toArray) e (by simp[hv.length]) (fun i v hi=>by simpa using hv.get hi);simpa using this
theorem fH.Fs(h:fH ρ m w){sz ps:Nat}{G G':Array ae}(e:aM)(hv:bB (aQ ρ) G.toList G'.toList):
  Left ρ m w (ρ.put m.next ⟨w.heap.size,0,G'.size,sz⟩) (m.alloc {kind:=1,sz:=sz,cs:=G.toList.map some,pos:=ps}) {w with heap:=w.heap.push (.cells G' e)}:=by
 have :=h.cE (sz:=sz) (ps:=ps) (vs:=G.toList) (C:=G') e (by have :=hv.length;simp at this;simp;omega) (fun i v hi=>by simpa using hv.get hi);exact this
end
end Go.AM
namespace Go.AM
open Go
section types
variable {P:aD}{R:Perm}{N:Nat}{w:au}{t:aM}
theorem B5 {α:Type}{a:α}{Q:α->au->Prop}(h:Q a w):dA P R N (pure a) Q w:=h
theorem aG {Q:TypeDesc->au->Prop}{d:TypeDesc}(h:P.underlying t=some d)(hq:Q d w):dA P R N (underlying t) Q w:=by
 unfold underlying;rw[ar]
 show dA P R N (match P.underlying t with |some d=>pure d|none=>stuck "no such type") Q w
 rw[h];exact hq
theorem gZ {Q:TypeInfo->au->Prop}{d:TypeInfo}(h:P.info? t=some d)(hq:Q d w):dA P R N (typeInfo t) Q w:=by
 unfold typeInfo;rw[ar]
 show dA P R N (match P.info? t with |some d=>pure d|none=>stuck "no such type") Q w
 rw[h];exact hq
theorem Lu {n:Nat}(h:ep P t=some n):∃i,P.info? t=some i/\i.size=n:=by
 unfold ep at h;exact aC.1 h
theorem dD {Q:Nat->au->Prop}{n:Nat}(h:ep P t=some n)(hq:Q n w):dA P R N (sizeOf t) Q w:=by
 obtain⟨i,hi,rfl⟩:=Lu h;unfold sizeOf;rw[ar];exact gZ hi hq
theorem K0 {z:ae}(h:gL P t=some z):∃i,P.info? t=some i/\i.zero=some z:=by
 unfold gL at h
 split at h
 ·rename_i i hi
  split at h
  ·rename_i z' hz
   split at h
   ·simp only[ah]at h;subst h;exact⟨i,hi,hz⟩
   ·cases h
  ·cases h
 ·cases h
theorem jP {z:ae}(h:gL P t=some z):z.cells.toList.all cR=true/\ep P t=some z.cells.size:=by
 unfold gL at h
 split at h
 ·rename_i i hi
  split at h
  ·rename_i z' hz
   split at h
   ·rename_i hc;simp only[ah]at h;subst h;simp only[ag,beq_iff_eq]at hc;exact⟨hc.1,by unfold ep;rw[hi,hc.2];rfl⟩
   ·cases h
  ·cases h
 ·cases h
theorem eH {Q:ae->au->Prop}{z:ae}(h:gL P t=some z)(hq:Q z w):dA P R N (zeroValue t) Q w:=by
 obtain⟨i,hi,hz⟩:=K0 h;unfold zeroValue;rw[ar];refine gZ hi ?_;rw[hz];exact hq
theorem uW {Q:Bool->au->Prop}{b:Bool}(h:yv P t=some b)(hq:Q b w):dA P R N (isAgg t) Q w:=by
 unfold yv at h;obtain⟨d,hd,hb⟩:=aC.1 h;unfold isAgg;rw[ar];refine aG hd ?_;subst hb;cases d<;>exact hq
end types
section
variable {P:aD}{ρ:dh}{m:Mem}{w:au}{N:Nat}
theorem Ac (h:fH ρ m w){t:aM}{p p' v:ae}(hp:aQ ρ p p')(hl:j9 P t p m=some v){Q:ae->au->Prop}(hq:∀v',aQ ρ v v'->Q v' w):
  dA P (az ρ m) N (Instr.loadAt t p') Q w:=by
 unfold j9 at hl
 split at hl
 ·rename_i b o;obtain⟨pl,dm,_,rfl⟩:=cL.1 hp;unfold Instr.loadAt loadVar;rw[ar]
  show dA P (az ρ m) N (isAgg t>>=fun x=>if x=true then(do let n<-sizeOf t;let cs<-loadCells ⟨pl.c,pl.d+o,none⟩ n;pure (.agg cs))else Go.load ⟨pl.c,pl.d+o,none⟩) Q w
  rw[ar]
  split at hl
  ·rename_i ha;obtain⟨n,hn,hl⟩:=bD.1 hl;obtain⟨l,hl2,rfl⟩:=aC.1 hl;refine uW ha ?_;simp only[if_true];rw[ar];refine dD hn ?_;rw[ar];refine h.qS dm hl2 (fun q0 QH=>?_);exact hq _ (gW.2 ⟨_,rfl,by simpa using QH⟩)
  ·rename_i ha;obtain⟨l,hl,hh⟩:=bD.1 hl;refine uW ha ?_;simp only[bU,if_false];obtain⟨u,v',h1,h2,h3,h4⟩:=h.Ad dm hl (show 0<1 by omega);have :u=v:=by
    cases l with
    |nil=>simp at hh
    |cons x l=>simp at hh h1;rw[<-h1,hh]
   subst this;exact B6 h3 h4 (hq _ h2)
  ·cases hl
 ·cases hl
theorem pz (h:fH ρ m w){b:Nat}{pl:Pl}(dm:ρ b=some pl){o:Nat}{vs q0:List ae}{m':Mem}(hs:m.dK b o vs=some m')(hv:bB (aQ ρ) vs q0){Q:Unit->au->Prop}
  (hq:∀w',Left ρ m w ρ m' w'->w'.drawn=w.drawn->Q () w'):dA P (az ρ m) N (storeCells ⟨pl.c,pl.d+o,none⟩ q0) Q w:=by
 obtain⟨cs,rfl,hk,JG,CE,lK⟩:=Mem.qm hs;obtain⟨_,_,pO⟩:=lU CE;have hlen:=hv.length;refine pD q0 0 w (fun v RH=>?_) (fun j hj=>?_) (fun w' hw=>hq w' ⟨ρ.le_refl,h.wrote dm hv hk CE (by simpa using hw),Ek hk CE _,fun _ _=>rfl⟩ hw.drawn)
 ·obtain⟨i,hi⟩:=List.mem_iff_getElem?.1 RH;obtain⟨u,hu,hr⟩:=hv.get' hi;exact hr.Oa (lK u (List.mem_of_getElem? hu))
 ·rw[Nat.add_zero,Nat.add_assoc];obtain⟨u,hu⟩:=pO j aj;obtain⟨hh,hf⟩:=Mem.qT JG (i:=j) aj;have hc:m.cell b (o+j)=some u:=by unfold Mem.cell;rw[bC ⟨hk,hh⟩,hu];rfl
  obtain⟨u',QI,_⟩:=h.lj b pl _ u dm hc;have hr:=jc h dm hc;have hw:m.okW b (o+j):=⟨Mem.eB hc,hf⟩;exact⟨by rw[QI];rfl,h.thaw b pl _ dm hr hk (Mem.kJ JG),yK dm hr hw⟩
theorem Gv (h:fH ρ m w){t:aM}{p p' x x':ae}{m':Mem}(hp:aQ ρ p p')(hx:aQ ρ x x')(hs:vZ P t p x m=some m'){Q:Unit->au->Prop}(hq:∀w',Left ρ m w ρ m' w'->Q () w'):
  dA P (az ρ m) N (Instr.storeAt t p' x') Q w:=by
 unfold vZ at hs
 split at hs
 ·rename_i b o;obtain⟨pl,dm,_,rfl⟩:=cL.1 hp
  split at hs
  ·rename_i iW;have hc:=hx.cells;have hl:=hc.length;simp only[Array.length_toList]at hl;unfold Instr.storeAt storeVar;rw[ar]
   show dA P (az ρ m) N (sizeOf t>>=fun n=>if x'.cells.size≠n then(do stuck "storeVar: the value has not the size of the variable";storeCells ⟨pl.c,pl.d+o,none⟩ x'.cells.toList)else(do pure PUnit.unit;storeCells ⟨pl.c,pl.d+o,none⟩ x'.cells.toList)) Q w
   rw[ar];refine dD iW ?_;rw[bS (by simpa using hl.symm)];exact pz h dm hs hc fun w' hw _=>hq w' hw
  ·cases hs
 ·cases hs
theorem Ca (h:fH ρ m w){t:aM}{v v':ae}(hv:bB (aQ ρ) v.cells.toList v'.cells.toList){sz ps:Nat}{Q:Addr->au->Prop}
  (hq:∀w' bu,Left ρ m w bu (m.alloc {kind:=1,sz:=sz,cs:=v.cells.toList.map some,pos:=ps}) w'->aQ bu (ptrTo m.next 0) (.pointer (some ⟨w.heap.size,0,none⟩))->Q ⟨w.heap.size,0,none⟩ w'):
  dA P (az ρ m) N (newVar t v') Q w:=by
 unfold newVar;refine pF ?_;have :=h.Qn (sz:=sz) (ps:=ps) (vs:=v.cells.toList) t hv;refine hq _ _ (by simpa using this) (cL.2 ⟨_,dh.kH ..,rfl,rfl⟩)
theorem zy {s:aM}{p p' v:ae}{f:Nat}(hp:aQ ρ p p')(hf:sH P s p f=some v){Q:ae->au->Prop}{R:Perm}(hq:∀v',aQ ρ v v'->Q v' w):dA P R N (Instr.fieldAt s p' f) Q w:=by
 unfold sH at hf
 split at hf
 ·rename_i fields b o hu
  split at hf
  ·rename_i fd hfd
   split at hf
   ·rename_i k hk;simp only[ah]at hf;subst hf;obtain⟨pl,dm,_,rfl⟩:=cL.1 hp;unfold Instr.fieldAt;rw[ar];refine aG hu ?_
    show dA P R N (match fields[f]? with |some f=>(do let a<-Instr.sureAddr (.pointer (some ⟨pl.c,pl.d+o,none⟩));pure (.pointer (some (<-fieldPlace a f))))|_=>stuck "fieldAddr: no such field") Q w
    rw[hfd]
    show dA P R N (do let a<-(pure (some (<-fieldPlace ⟨pl.c,pl.d+o,none⟩ fd)));pure (.pointer a)) Q w
    unfold fieldPlace;simp only[bind_assoc,pure_bind];rw[ar];refine dD hk ?_;rw[bS aj];simp only[pure_bind];rw[js,Nat.add_assoc];exact hq _ (cL.2 ⟨pl,dm,rfl,rfl⟩)
   ·cases hf
  ·cases hf
 ·cases hf
theorem zi {t:aM}{x x' i i' v:ae}(hx:aQ ρ x x')(hi:aQ ρ i i')(hf:pM P t x i=some v){Q:ae->au->Prop}{R:Perm}(hq:∀v',aQ ρ v v'->Q v' w):dA P R N (Instr.indexAt t x' i') Q w:=by
 unfold pM at hf
 split at hf
 ·rename_i e b o len cap k n hu;obtain⟨pl,gK,dm,_,rfl,_⟩:=bV.1 hx;obtain rfl:=(aF (by rfl)).1 hi
  split at hf
  ·rename_i hb;obtain⟨s,hs,rfl⟩:=aC.1 hf;unfold Instr.indexAt;simp only[asIntOf,pure_bind];rw[ar];refine aG hu ?_;simp only[pure_bind];rw[ar];refine aG hu ?_;simp only[bC hb];rw[ar];refine dD hs ?_;rw[js,Nat.add_assoc];exact hq _ (cL.2 ⟨pl,dm,rfl,rfl⟩)
  ·cases hf
 ·rename_i len e b o k n hu;obtain⟨pl,dm,_,rfl⟩:=cL.1 hx;obtain rfl:=(aF (by rfl)).1 hi
  split at hf
  ·rename_i hb;obtain⟨s,hs,rfl⟩:=aC.1 hf;unfold Instr.indexAt;simp only[asIntOf,pure_bind];rw[ar];refine aG hu ?_;simp only[Instr.sureAddr,pure_bind];rw[ar];refine aG hu ?_;simp only[bC hb];rw[ar];refine dD hs ?_;rw[js,Nat.add_assoc];exact hq _ (cL.2 ⟨pl,dm,rfl,rfl⟩)
  ·cases hf
 ·cases hf
theorem z0 {t:aM}{cs gQ:Array ae}{off:Nat}{v:ae}(hc:bB (aQ ρ) cs.toList gQ.toList)(hf:N6 P t cs off=some v){Q:ae->au->Prop}{R:Perm}(hq:∀v',aQ ρ v v'->Q v' w):dA P R N (part t gQ off) Q w:=by
 unfold N6 at hf;unfold part;rw[ar]
 split at hf
 ·rename_i ha;obtain⟨n,hn,rfl⟩:=aC.1 hf;refine uW ha ?_;simp only[if_true];rw[ar];refine dD hn ?_;refine hq _ (gW.2 ⟨_,rfl,?_⟩);simp only[Array.toList_extract,List.extract_eq_take_drop];exact(hc.drop off).take _
 ·rename_i ha;refine uW ha ?_;simp only[bU,if_false];obtain⟨v',h1,h2⟩:=hc.get (i:=off) (by simpa using hf);rw[show gQ[off]?=some v' by simpa using h1];exact hq _ h2
 ·cases hf
theorem Hs {s:aM}{x x' v:ae}{f:Nat}(hx:aQ ρ x x')(hf:Ht P s x f=some v){Q:ae->au->Prop}{R:Perm}(hq:∀v',aQ ρ v v'->Q v' w):dA P R N (Instr.field s x' f) Q w:=by
 unfold Ht at hf
 split at hf
 ·rename_i fields cs hu;obtain⟨fd,hfd,MC⟩:=bD.1 hf;obtain⟨gQ,rfl,hc⟩:=gW.1 hx;unfold Instr.field;rw[ar];refine aG hu ?_;simp only[hfd,asAgg,pure_bind];exact z0 hc MC hq
 ·cases hf
theorem Hd {t:aM}{x x' i i' v:ae}(hx:aQ ρ x x')(hi:aQ ρ i i')(hf:wo P t x i=some v){Q:ae->au->Prop}{R:Perm}(hq:∀v',aQ ρ v v'->Q v' w):dA P R N (Instr.index t x' i') Q w:=by
 unfold wo at hf
 split at hf
 ·rename_i len e cs k n hu;obtain⟨gQ,rfl,hc⟩:=gW.1 hx;obtain rfl:=(aF (by rfl)).1 hi
  split at hf
  ·rename_i hb;obtain⟨s,hs,MC⟩:=bD.1 hf;unfold Instr.index;simp only[asIntOf,pure_bind];rw[ar];refine aG hu ?_;simp only[bC hb];rw[ar];refine dD hs ?_;exact z0 hc MC hq
  ·cases hf
 ·cases hf
theorem wJ {v:ae}{d y h:Nat}{code:BoundsCode}(hb:jW (some v) d=some h)(hy:h<=y){Q:Nat->au->Prop}{R:Perm}(hq:Q h w):dA P R N (Instr.sliceBound v y code) Q w:=by
 unfold jW at hb
 split at hb
 ·rename_i e;cases e
 ·rename_i k n e;cases e
  split at hb
  ·simp only[ah]at hb;subst hb;simp only[Instr.sliceBound,asIntOf,pure_bind];rw[bC ⟨nV,aj⟩];exact hq
  ·cases hb
 ·cases hb
theorem uF {d h:Nat}(hb:jW none d=some h):h=d:=by simpa[jW]using hb.symm
theorem kQ {isS:Bool}{len cap l h:Nat}{lo hi:Option ae}(hl:jW lo 0=some l)(hh:jW hi len=some h)(hlh:l<=h)(hc:h<=cap){Q:Nat×Nat×Nat->au->Prop}{R:Perm}(hq:Q (l,h,cap) w):
  dA P R N (Instr.sliceBounds isS len cap lo hi none) Q w:=by
 unfold Instr.sliceBounds;simp only[pure_bind];cases hi with
 |none=>
  obtain rfl:=uF hh;cases lo with
  |none=>obtain rfl:=uF hl;exact hq
  |some v=>
   simp only[];rw[ar];exact wJ hl hlh hq
 |some u=>
  simp only[];rw[ar];refine wJ hh hc ?_;cases lo with
  |none=>obtain rfl:=uF hl;exact hq
  |some v=>
   simp only[];rw[ar];exact wJ hl hlh hq
def HW (ρ:dh):Option ae->Option ae->Prop
 |none,none=>True
 |some a,some b=>aQ ρ a b
 |_,_=>False
theorem q9 {v:Option ae}{v':Option ae}(h:HW ρ v v'){d n:Nat}(hb:jW v d=some n):v'=v:=by
 unfold jW at hb
 split at hb
 ·cases v' with
  |none=>rfl
  |some b=>exact h.elim
 ·cases v' with
  |none=>exact h.elim
  |some b=>rw[(aF (by rfl)).1 h]
 ·cases hb
theorem Gz (ac3:fH ρ m w){t:aM}{x x' v:ae}{lo hi lo' Ez:Option ae}(hx:aQ ρ x x')(jH:HW ρ lo lo')(hhi:HW ρ hi Ez)(hf:jb P t x lo hi m=some v)
  {Q:ae->au->Prop}{R:Perm}(hq:∀v',aQ ρ v v'->Q v' w):dA P R N (Instr.sliceAt t x' lo' Ez none) Q w:=by
 unfold jb at hf
 split at hf
 ·rename_i e b o len cap hu
  split at hf
  ·rename_i l h s hl hh hs;obtain rfl:=q9 jH hl;obtain rfl:=q9 hhi hh;obtain⟨pl,gK,dm,_,rfl,mM⟩:=bV.1 hx;unfold Instr.sliceAt;rw[ar];refine aG hu ?_;simp only[Instr.slice];rw[ar];refine aG hu ?_;simp only[];rw[ar]
   split at hf
   ·rename_i hc;rw[bC hc]at mM
    split at hf
    ·rename_i hb;simp only[ah]at hf;subst hf;refine kQ hl hh hb.1 aj ?_;simp only[];rw[ar];refine dD hs ?_;refine hq _ (bV.2 ⟨pl,gK-l,dm,rfl,?_,?_⟩)
     ·congr 1
      rcases hb.2.2 with h0|h0
      ·subst h0;split<;>simp[js]
      ·rw[bS aj];simp only[cN,js,Nat.add_assoc]
     ·rw[bC rfl];refine⟨aj,?_⟩;rcases hb.2.2 with h0|⟨h0,h1,h2⟩
      ·subst h0;simp;exact mM.2
      ·obtain⟨iW,_⟩:=ac3.cells b pl dm h1;have e2:pl.sz=s:=by rw[iW,h2]
       rw[e2]at mM⊢;have :l*s+(gK-l)*s=gK*s:=by rw[<-Nat.add_mul];congr 1;omega
       simp only[];have h3:=mM.2;simp only at h3;omega
    ·cases hf
   ·rename_i hc;rw[bS hc]at mM;subst mM
    split at hf
    ·rename_i hb;simp only[ah]at hf;subst hf;refine kQ hl hh hb.2.1 hb.2.2 ?_;simp only[];rw[ar];refine dD hs ?_
     by_cases h0:gK=l
     ·simp only[h0,if_true];exact hq _ (by rw[bC h0];exact bV.2 ⟨pl,l-l,dm,rfl,rfl,by rw[bS (by unfold cD;omega)];omega⟩)
     ·simp only[h0,if_false,cN,js,Nat.add_assoc];exact hq _ (by rw[bS h0];exact bV.2 ⟨pl,gK-l,dm,rfl,rfl,by rw[bS (by have :=hb.1;omega)]⟩)
    ·cases hf
  ·cases hf
 ·rename_i e len cap hu
  split at hf
  ·rename_i l h s hl hh hs;obtain rfl:=q9 jH hl;obtain rfl:=q9 hhi hh;obtain rfl:=(aF (by rfl)).1 hx
   split at hf
   ·rename_i hb;simp only[ah]at hf;subst hf;unfold Instr.sliceAt;rw[ar];refine aG hu ?_;simp only[Instr.slice];rw[ar];refine aG hu ?_;simp only[];rw[ar];refine kQ hl hh hb.2.1 hb.2.2 ?_;simp only[];rw[ar];refine dD hs ?_;have e1:(if cap=l then(none:Option Addr)else Option.map (fun x:Addr=>x.add (l*s)) none)=none:=by split<;>rfl
    rw[e1];exact hq _ ((aF (by rfl)).2 rfl)
   ·cases hf
  ·cases hf
 ·rename_i n e b o hu
  split at hf
  ·rename_i l h s hl hh hs;obtain rfl:=q9 jH hl;obtain rfl:=q9 hhi hh;obtain⟨pl,dm,_,rfl⟩:=cL.1 hx
   split at hf
   ·rename_i hb;simp only[ah]at hf;subst hf;unfold Instr.sliceAt;rw[ar];refine aG hu ?_;simp only[Instr.sureAddr,pure_bind];rw[ar];refine kQ hl hh hb.2.1 hb.2.2 ?_;simp only[];rw[ar];refine dD hs ?_
    by_cases h0:n=l
    ·simp only[h0,if_true];exact hq _ (by rw[bC h0];exact bV.2 ⟨pl,n-l,dm,rfl,by rw[h0],by rw[bS (by have :=hb.1;omega)]⟩)
    ·simp only[h0,if_false,js,Nat.add_assoc];exact hq _ (by rw[bS h0];exact bV.2 ⟨pl,n-l,dm,rfl,rfl,by rw[bS (by have :=hb.1;omega)]⟩)
   ·cases hf
  ·cases hf
 ·cases hf
end
end Go.AM
namespace Go.AM
open Go
section
variable {P:aD}{ρ:dh}{m:Mem}{w:au}{N:Nat}
theorem EF {l l':List ae}(h:bB (aQ ρ) l l')(off:Nat):∀{cs gQ:Array ae} (j:Nat),bB (aQ ρ) cs.toList gQ.toList->
  bB (aQ ρ) ((l.zipIdx j).foldl (fun cs (x:ae×Nat)=>cs.setIfInBounds (off+x.2) x.1) cs).toList ((l'.zipIdx j).foldl (fun cs (x:ae×Nat)=>cs.setIfInBounds (off+x.2) x.1) gQ).toList:=by
 induction l generalizing l' with
 |nil=>intro cs gQ j hc;cases l' with
  |nil=>exact hc
  |cons _ _=>exact h.elim
 |cons a l ih=>
  intro cs gQ j hc;cases l' with
  |nil=>exact h.elim
  |cons b l'=>
   simp only[List.zipIdx_cons,List.foldl_cons];refine ih h.2 (j+1) ?_;simp only[Array.toList_setIfInBounds];exact hc.set h.1 _
theorem w8 (cs v:Array ae)(off:Nat):(v.zipIdx.foldl (fun(cs:Array ae) (x:ae×Nat)=>cs.setIfInBounds (off+x.2) x.1) cs)=(v.toList.zipIdx.foldl (fun cs (x:ae×Nat)=>cs.setIfInBounds (off+x.2) x.1) cs):=by
 rw[<-Array.foldl_toList,Array.toList_zipIdx]
theorem xZ {place:Nat->Option (Nat×Nat)}:∀{parts we:List (Nat×ae)} {cs gQ r:Array ae},bB (fun a b=>b.1=a.1/\aQ ρ a.2 b.2) parts we->bB (aQ ρ) cs.toList gQ.toList->
  Instr.fill place cs parts=some r->∃r',Instr.fill place gQ we=some r'/\bB (aQ ρ) r.toList r'.toList:=by
 intro parts
 induction parts with
 |nil=>
  intro we cs gQ r hp hc h;cases we with
  |cons _ _=>exact hp.elim
  |nil=>
   simp only[Instr.fill,ah]at h⊢;subst h;exact⟨_,rfl,hc⟩
 |cons x parts ih=>
  intro we cs gQ r hp hc h;cases we with
  |nil=>exact hp.elim
  |cons y we=>
   obtain⟨i,v⟩:=x;obtain⟨i',v'⟩:=y;obtain⟨⟨rfl,hv⟩,hp⟩:=hp;simp only[Instr.fill]at h⊢;cases dm:place i' with
   |none=>rw[dm]at h;cases h
   |some q=>
    obtain⟨off,size⟩:=q;rw[dm]at h;simp only[]at h⊢;have MG:=hv.cells;have e1:v'.cells.size=v.cells.size:=by simpa using MG.length.symm
    have e2:gQ.size=cs.size:=by simpa using hc.length.symm
    rw[e1,e2]
    split at h
    ·cases h
    ·rename_i Ve;rw[bS Ve];refine ih hp ?_ h;rw[w8,w8];exact EF MG off 0 hc
theorem yI {t:aM}{z:ae}(h:gL P t=some z):bB (aQ ρ) z.cells.toList z.cells.toList:=iV (jP h).1
theorem uq {l:Array ae}(h:l.toList.all cR=true)(i:Nat):cR (l[i]!)=true:=by
 by_cases hi:i<l.size
 ·rw[getElem!_pos l i hi];exact aB.1 h _ de
 ·rw[getElem!_neg l i hi];rfl
theorem uU {t:aM}{z:ae}(h:gL P t=some z)(n:Nat):bB (aQ ρ) ((Array.range n).map (z.cells[·%z.cells.size]!)).toList ((Array.range n).map (z.cells[·%z.cells.size]!)).toList:=by
 refine iV ?_;rw[aB];intro x hx;simp only[Array.toList_map,List.mem_map]at hx;obtain⟨i,_,rfl⟩:=hx;exact uq (jP h).1 _
theorem HQ {t:aM}{ps:List (Nat×ae)}{ps':Array (Nat×ae)}{v:ae}(hp:bB (fun a b=>b.1=a.1/\aQ ρ a.2 b.2) ps ps'.toList)(hb:Dv P t ps=some v)
  {Q:ae->au->Prop}{R:Perm}(hq:∀v',aQ ρ v v'->Q v' w):dA P R N (Instr.build t ps') Q w:=by
 unfold Dv at hb
 split at hb
 ·rename_i z fields Ju hu
  split at hb
  ·rename_i places dm;obtain⟨r,hr,rfl⟩:=aC.1 hb;obtain⟨r',wX,zn⟩:=xZ hp (yI Ju) hr;unfold Instr.build;rw[ar];refine eH Ju ?_;simp only[];rw[ar];refine aG hu ?_;simp only[];rw[ar];have key:∀(l:List Field) (pl:List (Nat×Nat)) (Q:List (Nat×Nat)->au->Prop),l.mapM (m:=Option) (fun f=>(ep P f.type).map fun n=>(f.offset,n))=some pl->Q pl w->
     dA P R N (l.mapM (m:=Sem) fun f=>do pure (f.offset,<-sizeOf f.type)) Q w:=by
    intro l
    induction l with
    |nil=>intro pl Q h hq;simp at h;subst h;simpa using B5 hq
    |cons f l ih=>
     intro pl Q h hq;rw[List.mapM_cons]at h⊢;simp only[Option.bind_eq_bind,bD,aC,Option.pure_def,ah]at h;obtain⟨x,⟨n,hn,rfl⟩,ys,hys,rfl⟩:=h;simp only[bind_assoc,pure_bind];rw[ar];refine dD hn ?_;rw[ar];exact ih ys _ hys (B5 hq)
   rw[Array.mapM_eq_mapM_toList]at dm⊢;simp only[Option.map_eq_map,aC]at dm;obtain⟨pl,dm,rfl⟩:=dm;rw[<-bind_pure_comp,ar];refine key fields.toList pl _ dm ?_
   show dA P R N (pure pl.toArray) _ w
   refine B5 ?_;simp only[wX];exact hq _ (gW.2 ⟨_,rfl,zn⟩)
  ·cases hb
 ·rename_i z n e Ju hu;obtain⟨s,hs,my⟩:=bD.1 hb;obtain⟨r,hr,rfl⟩:=aC.1 my;obtain⟨r',wX,zn⟩:=xZ hp (yI Ju) hr;unfold Instr.build;rw[ar];refine eH Ju ?_;simp only[];rw[ar];refine aG hu ?_;simp only[];rw[ar];refine dD hs ?_;simp only[wX];exact hq _ (gW.2 ⟨_,rfl,zn⟩)
 ·cases hb
theorem yo (h:fH ρ m w){t:aM}{n:Nat}{ps:List (Nat×ae)}{ps':Array (Nat×ae)}{v:ae}{m':Mem}(hp:bB (fun a b=>b.1=a.1/\aQ ρ a.2 b.2) ps ps'.toList)
  (hb:bh P t n ps m=some (v,m')){Q:ae->au->Prop}{R:Perm}(hq:∀v' w' bu,Left ρ m w bu m' w'->aQ bu v v'->Q v' w'):dA P R N (Instr.buildSlice t n ps') Q w:=by
 unfold bh at hb
 split at hb
 ·rename_i e hu
  split at hb
  ·rename_i size z hs Ju
   split at hb
   ·cases hb
   ·rename_i iW;obtain⟨r,hr,my⟩:=aC.1 hb;simp only[ay]at my;obtain⟨rfl,rfl⟩:=my;obtain⟨r',wX,zn⟩:=xZ hp (uU Ju _) hr;unfold Instr.buildSlice;rw[ar];refine aG hu ?_;simp only[];rw[ar];refine dD hs ?_;rw[bS aj];have fin:dA P R N (do
      let a<-newRow e r'
      pure (.slice (some a) n n)) Q w:=by
     rw[ar];refine pF ?_;have hL:=h.Fs (sz:=size) (ps:=0) (G:=r) (G':=r') e zn;refine hq _ _ _ hL (bV.2 ⟨_,n,dh.kH ..,rfl,rfl,?_⟩);rw[bS aj]
    by_cases h0:n*size=0
    ·rw[bC h0];have e0:(Array.range (n*size)).map (fun x=>(#[]:Array ae)[x%(#[]:Array ae).size]!)=(Array.range (n*size)).map (fun x=>z.cells[x%z.cells.size]!):=by rw[h0];simp
     show dA P R N (match Instr.fill (fun i=>some (i*size,size)) ((Array.range (n*size)).map (fun x=>(#[]:Array ae)[x%(#[]:Array ae).size]!)) ps'.toList with
      |some cells=>(do let a<-newRow e cells;pure (.slice (some a) n n))
      |_=>stuck "buildSlice: a part of the wrong size") Q w
     rw[e0,wX];exact fin
    ·rw[bS h0];simp only[bind_assoc,pure_bind];rw[ar];refine eH Ju ?_;simp only[wX];exact fin
  ·cases hb
 ·cases hb
theorem y9 (h:fH ρ m w){t:aM}{l l' c c' v:ae}{m':Mem}(hl:aQ ρ l l')(hc:aQ ρ c c')(hb:fT P t l c m=some (v,m')){Q:ae->au->Prop}{R:Perm}
  (hq:∀v' w' bu,Left ρ m w bu m' w'->aQ bu v v'->Q v' w'):dA P R N (Instr.makeSlice t l' c') Q w:=by
 unfold fT at hb
 split at hb
 ·rename_i e l c hu;obtain rfl:=(aF (by rfl)).1 hl;obtain rfl:=(aF (by rfl)).1 hc
  split at hb
  ·rename_i i z hi hz
   split at hb
   ·rename_i Ve;simp only[ah,ay]at hb;obtain⟨rfl,rfl⟩:=hb;obtain⟨h1,h2,h3,h4⟩:=Ve;have hs:ep P e=some i.size:=by unfold ep;rw[hi];rfl
    have w1:cf.i64.wrap l=l:=by unfold cf.wrap;simp[cf.min,cf.max,cf.signed,cf.bits];omega
    have w2:cf.i64.wrap c=c:=by unfold cf.wrap;simp[cf.min,cf.max,cf.signed,cf.bits];omega
    unfold Instr.makeSlice;rw[ar];refine aG hu ?_;simp only[asInt,asIntOf,pure_bind];rw[ar];refine gZ hi ?_;simp only[w1,w2];have h5:(i.bytes:Int)*c<=1099511627776:=by rw[Int.mul_comm];exact h3
    have n1:(decide (c<0)||decide ((i.bytes:Int)*c>2^48))=false:=by
     simp only[Bool.or_eq_false_iff,decide_eq_false_iff_not];omega
    rw[n1];have n2:(false||decide (l<0)||decide (l>c))=false:=by
     simp only[Bool.false_or,Bool.or_eq_false_iff,decide_eq_false_iff_not];omega
    rw[n2];simp only[bU,if_false];rw[ar];have rH:dA P R N (askRoom (c.toNat*i.bytes)) (fun _ w'=>w'=w) w:=by
     unfold askRoom
     split
     ·exact⟨trivial,rfl⟩
     ·rfl
    refine I6 rH ?_;intro _ w' e';rw[e'];rw[ar];refine dD hs ?_;have fin:dA P R N (do
      let a<-newRow e ((Array.range (c.toNat*i.size)).map (z.cells[·%z.cells.size]!))
      pure (.slice (some a) l.toNat c.toNat)) Q w:=by
     rw[ar];refine pF ?_;have hL:=h.Fs (sz:=i.size) (ps:=0) (G:=(Array.range (c.toNat*i.size)).map (z.cells[·%z.cells.size]!)) e (uU hz _);refine hq _ _ _ hL (bV.2 ⟨_,c.toNat,dh.kH ..,rfl,rfl,?_⟩);rw[bS (by unfold cD;omega)]
    by_cases h0:c.toNat*i.size=0
    ·rw[bC h0];have e0:(Array.range (c.toNat*i.size)).map (fun x=>(#[]:Array ae)[x%(#[]:Array ae).size]!)=(Array.range (c.toNat*i.size)).map (fun x=>z.cells[x%z.cells.size]!):=by rw[h0];simp
     show dA P R N (do
      let a<-newRow e ((Array.range (c.toNat*i.size)).map (fun x=>(#[]:Array ae)[x%(#[]:Array ae).size]!))
      pure (.slice (some a) l.toNat c.toNat)) Q w
     rw[e0];exact fin
    ·rw[bS h0];rw[ar];exact eH hz fin
   ·cases hb
  ·cases hb
 ·cases hb
theorem oR (h:fH ρ m w){size n:Nat}{x x':ae}(hx:aQ ρ x x'){l:List ae}(hf:kA m size n x=some l){Q:Array ae->au->Prop}
  (hq:∀l':List ae,bB (aQ ρ) l l'->Q l'.toArray w):dA P (az ρ m) N (Builtin.firstCells size n x') Q w:=by
 unfold kA at hf
 split at hf
 ·rename_i b o len cap;obtain⟨pl,gK,dm,_,rfl,_⟩:=bV.1 hx;exact h.qS dm hf hq
 ·rename_i len cap;obtain rfl:=(aF (by rfl)).1 hx;simp only[ah]at hf;subst hf;exact hq [] trivial
 ·rename_i s;obtain rfl:=(aF (by rfl)).1 hx
  split at hf
  ·rename_i hc;simp only[ah]at hf;subst hf;have e:(s.extract 0 n).data.map (fun b=>(ae.int .u8 b.toNat))=(s.data.toList.map fun b=>(ae.int .u8 b.toNat)).toArray:=by
    rw[hc.2];have :s.extract 0 s.size=s:=by
     apply ByteArray.ext;simp
    rw[this];apply Array.ext';simp
   show Q ((s.extract 0 n).data.map fun b=>(ae.int .u8 b.toNat)) w
   rw[e];exact hq _ (iV (by rw[aB];intro x hx;obtain⟨b,_,rfl⟩:=List.mem_map.1 hx;rfl))
  ·cases hf
 ·cases hf
theorem Cu {x x':ae}(hx:aQ ρ x x'){n:Nat}(hf:Cv x=some n){Q:Nat->au->Prop}{R:Perm}(hq:Q n w):dA P R N (Builtin.lenOf x') Q w:=by
 unfold Cv at hf
 split at hf
 ·rename_i a l c;simp only[ah]at hf;subst hf;cases a with
  |none=>obtain rfl:=(aF (by rfl)).1 hx;exact hq
  |some a=>obtain⟨pl,gK,_,_,rfl,_⟩:=bV.1 hx;exact hq
 ·simp only[ah]at hf;subst hf;obtain rfl:=(aF (by rfl)).1 hx;exact hq
 ·cases hf
theorem Dz (h:fH ρ m w){b o len n size:Nat}{pl:Pl}(dm:ρ b=some pl)(hk:(m.blk b).kind=1)(iW:(m.blk b).sz=size)(vr:m.ft b=true)(pO:((m.blk b).cs.drop o).all (·.isSome)=true)
  {old new xD:List ae}(hold:fX ((m.blk b).cs.drop o) (len*size)=some old)(jT:bB (aQ ρ) new xD)(YV:new.length=n*size)(rH:o+(len+n)*size<=pl.room)
  {w':au}(hw:Ax w w' pl.c (pl.d+o+len*size) xD):
  Left ρ m w (ρ.put m.next ⟨pl.c,pl.d+o,pl.room-o,size⟩) ((m.a8 b {}).alloc {kind:=1,sz:=size,cs:=(old++new).map some}) w':=by
 have hn:=rB h;have Zb:b<m.next:=h.mz b pl dm;obtain⟨WB,hl2⟩:=qO hold;obtain⟨OM,hfo⟩:=Mem.lZ vr;obtain⟨amV,RL,e0,n0,ac5,hn0⟩:=h.cells b pl dm hk;have hmul:(len+n)*size=len*size+n*size:=Nat.add_mul ..;have akZ:xD.length=n*size:=by rw[<-jT.length,YV]
 have kz:∀b',((m.a8 b {}).alloc {kind:=1,sz:=size,cs:=(old++new).map some}).blk b'=if m.next=b' then{kind:=1,sz:=size,cs:=(old++new).map some,aZ:=m.tick+1}else if b=b' then{aZ:=m.tick}else m.blk b':=by
  intro b';rw[Mem.bY,Mem.dE];rfl
 have kh:∀b',b'≠m.next->(((m.a8 b {}).alloc {kind:=1,sz:=size,cs:=(old++new).map some}).blk b').kind≠0->b'≠b/\((m.a8 b {}).alloc {kind:=1,sz:=size,cs:=(old++new).map some}).blk b'=m.blk b':=by
  intro b' iB gm;rw[kz,bS (Ne.symm iB)]at gm⊢
  by_cases nC:b=b'
  ·rw[bC nC]at gm;exact absurd rfl gm
  ·rw[bS nC];exact⟨Ne.symm nC,rfl⟩
 generalize hM:(m.a8 b {}).alloc {kind:=1,sz:=size,cs:=(old++new).map some}=M at kz kh⊢;have hMn:M.next=m.next+1:=by rw[<-hM];rfl
 have O2:M.bl=m.bl:=by rw[<-hM];rfl
 have hMf:M.floor=m.floor:=by rw[<-hM];rfl
 have hMo:M.opn=m.opn:=by rw[<-hM];rfl
 have JR:M.base=m.base:=by rw[<-hM];rfl
 have hMm:M.home=m.home:=by rw[<-hM];rfl
 have UT:∀b',M.bg b'=m.bg b':=fun b'=>by unfold Mem.bg;rw[O2,hMm]
 have Aj:M.blk m.next={kind:=1,sz:=size,cs:=(old++new).map some,aZ:=m.tick+1}:=by rw[kz,bC rfl]
 have dO:∀b' p',ρ.put m.next ⟨pl.c,pl.d+o,pl.room-o,size⟩ b'=some p'->(b'=m.next/\p'=⟨pl.c,pl.d+o,pl.room-o,size⟩)\/(b'≠m.next/\ρ b'=some p'):=by
  intro b' p' dy;unfold dh.put at dy
  split at dy
  ·rename_i e;exact .inl ⟨e,(Option.some.inj dy).symm⟩
  ·rename_i e;exact .inr ⟨e,dy⟩
 have UX:∀x,m.nK b (o+x):=fun x=>⟨hk,dV OM _,fun cC=>by
  have h1:=aB.1 pO;obtain⟨y,hy⟩:∃y,((m.blk b).cs.drop o)[x]?=some y:=⟨_,List.getElem?_eq_getElem (by simp;omega)⟩;have h2:=h1 y (List.mem_of_getElem? hy);obtain⟨v,rfl⟩:=iA.1 h2;rw[List.getElem?_drop]at hy;exact⟨v,hy⟩⟩
 have UW:∀x,m.okW b (o+x):=fun x=>⟨UX x,hfo.imp id fun y=>j6 y _⟩
 have MG:=dh.uf hn ⟨pl.c,pl.d+o,pl.room-o,size⟩;refine⟨MG,⟨fun b' p' dy=>?_,fun b' p' dy gm=>?_,fun b' p' x v dy hc=>?_,fun b' p' x dy hx gm nC=>?_,fun b' p' dy gm qe=>?_,fun b' p' dy gm qe=>?_,fun yn ym nJ oH dH pN AL k₁ k₂ hc=>?_,fun b' p' dy=>?_,fun b' p' dy gm wY=>?_⟩,⟨?_,?_,?_⟩,A1⟩
 ·rcases dO _ _ dy with⟨rfl,rfl⟩|⟨_,hq⟩
  ·omega
  ·have :=h.mz _ _ hq;omega
 ·rcases dO _ _ dy with⟨rfl,rfl⟩|⟨iB,hq⟩
  ·rw[Aj];refine⟨rfl,?_,e0,n0,by rw[hw.shape];exact ac5,?_⟩
   ·simp only[List.length_map,List.length_append];omega
   ·show pl.d+o+(pl.room-o)<=n0;omega
  ·obtain⟨_,e⟩:=kh b' iB aj;rw[e]at gm⊢;obtain⟨g1,g2,e1,n1,g3,g4⟩:=h.cells _ _ hq gm;exact⟨g1,g2,e1,n1,by rw[hw.shape];exact g3,g4⟩
 ·rcases dO _ _ dy with⟨rfl,rfl⟩|⟨iB,hq⟩
  ·have hx:(old++new)[x]?=some v:=by
    unfold Mem.cell at hc;rw[Aj]at hc
    split at hc
    ·simp only[List.getElem?_map]at hc;cases hg:(old++new)[x]? with
     |none=>simp[hg]at hc
     |some u=>simp[hg]at hc;rw[hc]
    ·cases hc
   show∃v',w'.cell? ⟨pl.c,pl.d+o+x,none⟩=some v'/\_
   rw[hw.cell];rcases Nat.lt_or_ge x (len*size)with cC|w5
   ·rw[List.getElem?_append_left aj]at hx;obtain⟨u,hu,hu2⟩:=hl2 x cC;rw[hu2]at hx;cases hx;rw[List.getElem?_drop]at hu;have lF:m.cell b (o+x)=some v:=by unfold Mem.cell;rw[bC ⟨hk,dV OM _⟩,hu];rfl
    obtain⟨v',hv1,hv2⟩:=h.lj b pl _ v dm lF;refine⟨v',?_,hv2.iJ MG⟩;rw[bS aj,show pl.d+o+x=pl.d+(o+x) by omega];exact hv1
   ·rw[List.getElem?_append_right aj]at hx;obtain⟨v',hv1,hv2⟩:=jT.get hx;have :x-old.length<xD.length:=by
     rcases Nat.lt_or_ge (x-old.length) xD.length with h1|h1
     ·exact h1
     ·rw[List.getElem?_eq_none h1]at hv1;cases hv1
    refine⟨v',?_,hv2.iJ MG⟩;rw[bC ⟨aj,aj⟩,show pl.d+o+x-(pl.d+o+len*size)=x-old.length by omega];exact hv1
  ·have hkM:=(Mem.eB hc).1;obtain⟨nC,e⟩:=kh b' iB aj;have FI:m.cell b' x=some v:=by unfold Mem.cell at hc⊢;rw[e,O2]at hc;exact hc
   obtain⟨v',hv1,hv2⟩:=h.lj b' p' x v hq FI;refine⟨v',?_,hv2.iJ MG⟩;have gm:=(Mem.eB FI).1;have wX:=jc h hq FI
   by_cases uo:p'.c=pl.c
   ·have :=(h.sep b b' pl p' (Ne.symm nC) dm hq aj aj uo.symm).2.2;rw[uo,hw.cell,bS aj,<-uo];exact hv1
   ·rw[hw.Dp uo];exact hv1
 ·rw[hw.qU];rcases dO _ _ dy with⟨rfl,rfl⟩|⟨iB,hq⟩
  ·have :=h.thaw b pl (o+x) dm (by simp only at hx;omega) hk (Mem.ss vr);rw[<-Nat.add_assoc]at this;exact this
  ·obtain⟨_,e⟩:=kh b' iB aj;rw[e]at gm;rw[JR]at nC;exact h.thaw b' p' x hq hx gm nC
 ·rcases dO _ _ dy with⟨rfl,rfl⟩|⟨iB,hq⟩
  ·rw[Aj]at gm;simp at gm
  ·obtain⟨nC,e⟩:=kh b' iB aj;rw[e]at gm⊢;rw[UT]at qe;obtain⟨jD,g1,g2⟩:=h.maps _ _ hq gm qe;have dH:p'.c≠pl.c:=fun uo=>by have :=(h.sep b b' pl p' (Ne.symm nC) dm hq aj aj uo.symm).2.1;omega
   exact⟨jD,by rw[hw.others _ dH];exact g1,g2.mono fun _ _ x=>⟨x.1.iJ MG,x.2.1.iJ MG,x.2.2⟩⟩
 ·rcases dO _ _ dy with⟨rfl,rfl⟩|⟨iB,hq⟩
  ·rw[Aj]at gm;simp at gm
  ·obtain⟨nC,e⟩:=kh b' iB aj;rw[e]at gm⊢;rw[UT]at qe;obtain⟨g1,g2⟩:=h.lD _ _ hq gm qe;have dH:p'.c≠pl.c:=fun uo=>by have :=(h.sep b b' pl p' (Ne.symm nC) dm hq aj aj uo.symm).2.1;omega
   exact⟨g1,by rw[hw.others _ dH];exact g2⟩
 ·rcases dO _ _ pN with⟨rfl,rfl⟩|⟨aaM,aaE⟩<;>rcases dO _ _ AL with⟨rfl,rfl⟩|⟨aaL,aaD⟩
  ·exact absurd rfl dH
  ·obtain⟨nC,e⟩:=kh ym aaL k₂;rw[e]at k₂⊢;have :=h.sep b ym pl oH (Ne.symm nC) dm aaD aj k₂ hc;rw[Aj];refine⟨rfl,this.2.1,?_⟩
   show pl.room-o=0\/oH.room=0\/pl.d+o+(pl.room-o)<=oH.d\/oH.d+oH.room<=pl.d+o
   omega
  ·obtain⟨nC,e⟩:=kh yn aaM k₁;rw[e]at k₁⊢;have :=h.sep b yn pl nJ (Ne.symm nC) dm aaE aj k₁ hc.symm;rw[Aj];refine⟨this.2.1,rfl,?_⟩
   show nJ.room=0\/pl.room-o=0\/nJ.d+nJ.room<=pl.d+o\/pl.d+o+(pl.room-o)<=nJ.d
   omega
  ·obtain⟨_,Zl⟩:=kh yn aaM k₁;obtain⟨_,Zk⟩:=kh ym aaL k₂;rw[Zl]at k₁⊢;rw[Zk]at k₂⊢;exact h.sep yn ym nJ oH dH aaE aaD k₁ k₂ hc
 ·rw[hw.size];rcases dO _ _ dy with⟨rfl,rfl⟩|⟨iB,hq⟩
  ·exact h.rG b pl dm
  ·exact h.rG _ _ hq
 ·rcases dO _ _ dy with⟨rfl,rfl⟩|⟨iB,hq⟩
  ·rw[Aj]at wY;simp at wY
  ·obtain⟨_,e⟩:=kh b' iB aj;rw[e]at gm wY;exact h.vars b' p' hq gm wY
 ·rintro c x ⟨b',p',g1,g2,g3,g4,g5⟩;rcases dO _ _ g1 with⟨rfl,rfl⟩|⟨iB,hq⟩
  ·simp only at g3 g4;refine .inl ⟨b,pl,dm,g2,aj,aj,?_⟩;rw[show x-pl.d=o+(x-(pl.d+o)) by omega];exact UX _
  ·obtain⟨_,e⟩:=kh b' iB (by have :=g5.1;omega);exact .inl ⟨b',p',hq,g2,g3,g4,by unfold Mem.nK at g5⊢;rw[e,O2]at g5;exact g5⟩
 ·rintro c x ⟨b',p',g1,g2,g3,g4,g5⟩;rcases dO _ _ g1 with⟨rfl,rfl⟩|⟨iB,hq⟩
  ·simp only at g3 g4;refine .inl ⟨b,pl,dm,g2,aj,aj,?_⟩;rw[show x-pl.d=o+(x-(pl.d+o)) by omega];exact UW _
  ·obtain⟨_,e⟩:=kh b' iB (by have :=g5.1.1;omega);exact .inl ⟨b',p',hq,g2,g3,g4,by unfold Mem.okW Mem.nK at g5⊢;rw[e,O2,hMf,hMo]at g5;exact g5⟩
 ·rintro c ⟨b',p',g1,g2,g3,g4⟩;rcases dO _ _ g1 with⟨rfl,rfl⟩|⟨iB,hq⟩
  ·rw[Aj]at g3;simp at g3
  ·obtain⟨_,e⟩:=kh b' iB aj;exact .inl ⟨b',p',hq,g2,by rwa[e]at g3,by rwa[UT]at g4⟩
end
end Go.AM
namespace Go.AM
open Go
section
variable {P:aD}{ρ:dh}{m:Mem}{w:au}{N:Nat}
theorem I7 {n:Nat}{R:Perm}{Q:Unit->au->Prop}(hq:Q () w):dA P R N (askRoom n) Q w:=by
 unfold askRoom
 split
 ·exact⟨trivial,hq⟩
 ·exact hq
theorem PX (h:fH ρ m w)(d:Nat):fH ρ m {w with drawn:=d}:=h.keeps (bj.at _ _ _)
theorem AB {z:ae}(hz:z.cells.toList.all cR=true)(n:Nat):(Builtin.zeroCells z.cells n).toList.all cR=true:=by
 unfold Builtin.zeroCells;rw[aB];intro x hx;simp only[Array.toList_map,List.mem_map]at hx;obtain⟨i,_,rfl⟩:=hx;exact uq hz _
theorem Bo (z:Array ae)(n:Nat):(Builtin.zeroCells z n).size=n*z.size:=by simp[Builtin.zeroCells]
theorem MZ (need old:Nat)(e:aM)(t:Nat)(h:need<=2^46):need<=(Question.appendCap need old e).cut t/\(Question.appendCap need old e).cut t<cD:=by
 simp only[Question.cut];have :t%(2^63-need)<2^63-need:=Nat.mod_lt _ aj;unfold cD;omega
theorem Ly {w:au}{c e n x:Nat}(h:w.shape? c=some (e,n))(hx:x<n):(w.cell? ⟨c,x,none⟩).isSome=true:=by
 unfold au.shape? at h;unfold au.cell?
 split at h
 ·rename_i C e' f hh;simp only[ah,ay]at h;simp only[hh];have :x<C.size:=aj;simp[this]
 ·cases h
theorem I2 {b o:Nat}(hk:(m.blk b).kind=1)(vr:m.ft b=true)(pO:((m.blk b).cs.drop o).all (·.isSome)=true):∀x,m.okW b (o+x):=by
 obtain⟨OM,hfo⟩:=Mem.lZ vr;refine fun x=>⟨⟨hk,dV OM _,fun cC=>?_⟩,hfo.imp id fun y=>j6 y _⟩
 have h1:=aB.1 pO;obtain⟨y,hy⟩:∃y,((m.blk b).cs.drop o)[x]?=some y:=⟨_,List.getElem?_eq_getElem (by simp;omega)⟩;have h2:=h1 y (List.mem_of_getElem? hy);obtain⟨v,rfl⟩:=iA.1 h2;rw[List.getElem?_drop]at hy;exact⟨v,hy⟩
def qM (ρ:dh)(len cap:Nat)(base uJ:Option Addr)(gK:Nat):Prop:=
 match base with
 |some a=>∃p,ρ a.block=some p/\a.spot=none/\uJ=some ⟨p.c,p.d+a.off,none⟩/\(if cap=cD then len<=gK/\a.off+gK*p.sz<=p.room else gK=cap)
 |none=>uJ=none/\gK=cap
theorem qM.of{len cap:Nat}{base:Option Addr}{s':ae}(h:aQ ρ (.slice base len cap) s'):∃uJ gK,s'= .slice uJ len gK/\qM ρ len cap base uJ gK:=by
 cases base with
 |none=>obtain rfl:=(aF (by rfl)).1 h;exact⟨none,cap,rfl,rfl,rfl⟩
 |some a=>obtain⟨p,gK,h1,h2,h3,h4⟩:=bV.1 h;exact⟨_,gK,h3,p,h1,h2,rfl,h4⟩
theorem qM.exact{len cap gK:Nat}{base uJ:Option Addr}(h:qM ρ len cap base uJ gK)(hc:cap≠cD):gK=cap:=by
 cases base with
 |none=>exact h.2
 |some a=>obtain⟨p,_,_,_,h4⟩:=h;rw[bS hc]at h4;exact h4
theorem tU {n old:Nat}{e:aM}{R:Perm}{Q:Nat->au->Prop}(hn:n<=2^46)(hq:∀nc,n<=nc->nc<cD->Q nc {w with drawn:=w.drawn+1}):dA P R N (choose (.appendCap n old e)) Q w:=by
 obtain⟨Hk,MH⟩:=MZ n old e (w.tape w.drawn (.appendCap n old e)) hn;exact hq _ Hk MH
set_option maxHeartbeats 1000000 in
theorem EL(h:fH ρ m w){lB:Array aM}{ty:aM}{s s' x x' v:ae}{m':Mem}(hs:aQ ρ s s')(hx:aQ ρ x x')(ha:cK P lB s x m=some (v,m'))
  {Q:ae->au->Prop}(hq:∀v' w' bu,Left ρ m w bu m' w'->aQ bu v v'->Q v' w'):dA P (az ρ m) N (Builtin.append_ lB ty #[s',x']) Q w:=by
 unfold cK at ha
 split at ha
 ·rename_i e xt base len cap eD hxt;obtain⟨st,Ms,eD⟩:=bD.1 eD
  split at ha
  ·rename_i size n xe ON hlen hxu
   split at ha
   ·cases ha
   ·rename_i new jT
    split at ha
    ·cases ha
    ·rename_i O0;have CL:zt P e (len+n)=true:=by
      cases hg:zt P e (len+n)with
      |false=>exact absurd (.inl hg) O0
      |true=>rfl
     have YV:new.length=n*size:=Decidable.byContradiction fun hg=>O0 (.inr (.inl hg))
     have ahE:∀u∈new,u.oneCell'=true:=by
      cases hg:new.all (·.oneCell')with
      |false=>exact absurd (.inr (.inr hg)) O0
      |true=>exact fun u hu=>aB.1 hg u hu
     clear O0;unfold zt at CL
     split at CL
     case h_2=>cases CL
     rename_i i hi;simp only[ag,jQ]at CL;obtain⟨⟨⟨WG,nD⟩,my⟩,hz⟩:=CL;obtain⟨z,hz⟩:=iA.1 hz;obtain⟨hzp,hzs⟩:=jP hz;have akI:z.cells.size=size:=by rw[ON]at hzs;exact(Option.some.inj hzs).symm
     obtain⟨uJ,gK,sE,mM⟩:=qM.of hs;subst sE;have amI:(len+n)*size=len*size+n*size:=Nat.add_mul ..;unfold Builtin.append_;simp only[Ms,hxt,List.getElem?_toArray,List.getElem?_cons_zero,List.getElem?_cons_succ];rw[ar];refine aG eD ?_;simp only[];rw[ar];refine dD ON ?_;rw[ar];refine aG hxu ?_;simp only[pure_bind,bU,if_false,Bool.not_false,if_true,false_or];rw[ar];refine Cu hx hlen ?_
     by_cases ky:len+n<=gK
     ·rw[bC ky,ar];refine oR h hx jT fun xD xU=>?_
      by_cases hc:cap=cD
      ·rw[bC hc]at ha
       split at ha
       ·rename_i b o;obtain⟨pl,dm,_,rfl,mM⟩:=mM;rw[bC hc]at mM;simp only[js]at dm mM⊢;rw[ar];simp only[]at ha
        split at ha
        ·rename_i hk;simp only[ag,beq_iff_eq]at hk;obtain⟨⟨⟨Bd,FE⟩,MB⟩,hk4⟩:=hk
         split at ha
         ·rename_i old hold;simp only[ah,ay]at ha;obtain⟨rfl,rfl⟩:=ha;obtain⟨akW,RL,e0,n0,ac5,hn0⟩:=h.cells b pl dm Bd;have ahy:pl.sz=size:=by rw[akW,FE]
          rw[ahy]at mM;have hmul:(len+n)*size<=gK*size:=Nat.mul_le_mul_right _ ky;have UW:=I2 Bd MB hk4;have akZ:xD.length=n*size:=by rw[<-xU.length,YV]
          refine pD xD 0 w (fun u hu=>?_) (fun j hj=>?_) (fun w' hw=>?_)
          ·obtain⟨i,hi⟩:=List.mem_iff_getElem?.1 hu;obtain⟨u',QI,hr⟩:=xU.get' hi;exact hr.Oa (ahE _ (List.mem_of_getElem? QI))
          ·have e2:pl.d+o+len*size+0+j=pl.d+(o+(len*size+j)):=aj;rw[e2];have zj:o+(len*size+j)<pl.room:=aj;exact⟨Ly ac5 aj,h.thaw b pl _ dm zj Bd (Mem.ss MB),yK dm zj (UW _)⟩
          ·rw[Nat.add_zero]at hw;have hL:=Dz h dm Bd FE MB hk4 hold xU YV (n:=n) aj hw;refine hq _ _ _ hL (bV.2 ⟨_,gK,dh.kH ..,rfl,rfl,?_⟩);rw[bC rfl];refine⟨ky,?_⟩
           show 0+gK*size<=pl.room-o
           omega
         ·cases ha
        ·cases ha
       ·cases ha
      ·rw[bS hc]at ha;obtain rfl:=mM.exact hc;rw[bC ky]at ha;cases base with
       |none=>
        obtain⟨rfl,_⟩:=mM;simp only[ah,ay]at ha;obtain⟨rfl,rfl⟩:=ha;exact hq _ _ _ (Left.refl h) ((aF (by rfl)).2 rfl)
       |some a=>
        obtain⟨pl,dm,aaA,rfl,mM⟩:=mM;obtain⟨b,o,sp⟩:=a;simp only at aaA dm mM;subst aaA;simp only[js];rw[ar];obtain⟨m2,yF,Vm⟩:=aC.1 ha;simp only[ay]at Vm;obtain⟨rfl,rfl⟩:=Vm;have :=pz (P:=P) (N:=N) h dm yF xU (Q:=fun _ w'=>Q (.slice (some ⟨pl.c,pl.d+o,none⟩) (len+n) gK) w') (fun w' hL _=>hq _ _ _ hL (bV.2 ⟨pl,gK,dm,rfl,rfl,by rw[bS hc]⟩));rw[show pl.d+o+len*size=pl.d+(o+len*size) by omega];exact this
     ·
      have cC:gK<len+n:=aj;rw[bS ky,ar];refine gZ hi ?_;rw[bS (by rintro⟨_,h2⟩;omega),ar];refine gZ hi ?_;have am8:=growslice_fits (need:=len+n) (old:=gK) (bytes:=i.bytes) cC aj;rw[bS aj,ar];refine tU my fun nc hn1 hn2=>?_
      generalize aaw:({w with drawn:=w.drawn+1}:au)=aO;have pN:fH ρ m aO:=by rw[<-aaw];exact PX h _
      have aho:aO.heap.size=w.heap.size:=by rw[<-aaw]
      rw[ar];refine gZ hi ?_;rw[ar];refine I7 ?_;rw[ar];obtain⟨old,hold,YS,pP⟩:∃old,kA m size len (.slice base len cap)=some old/\old.length=len*size/\
        ∀(C:Array ae),(old++new).length<=C.size->nc*size<=C.size->(∀(i:Nat) v,(old++new)[i]?=some v->∃v',C[i]?=some v'/\aQ ρ v v')->Q (.slice (some ⟨aO.heap.size,0,none⟩) (len+n) nc) {aO with heap:=aO.heap.push (.cells C e)}:=by
       by_cases hc:cap=cD
       ·rw[bC hc]at ha
        split at ha
        ·rename_i b o;obtain⟨pl,dm,_,_,_⟩:=mM;simp only[]at ha
         split at ha
         ·rename_i hk;simp only[ag,beq_iff_eq]at hk;obtain⟨⟨⟨Bd,FE⟩,MB⟩,hk4⟩:=hk
          split at ha
          ·rename_i old hold;simp only[ah,ay]at ha;obtain⟨rfl,rfl⟩:=ha;refine⟨old,?_,(qO hold).1,fun C hC1 hC2 hC3=>?_⟩
           ·show m.dB b o (len*size)=some old
            unfold Mem.dB;simp only[];rw[bC (by rw[Bd,gv (Mem.lZ MB).1];rfl)];exact hold
           ·have hL:=(pN.kill b).cE (sz:=size) (ps:=0) (vs:=old++new) (C:=C) e hC1 hC3;have hL':Left ρ m w _ _ _:=⟨hL.le,hL.jY,by rw[<-aho];exact(Ij b _).trans hL.within,hL.old⟩;refine hq _ _ _ hL' (bV.2 ⟨_,nc,dh.kH ..,rfl,congrArg (fun k=>ae.slice (some ⟨aO.heap.size,k,none⟩) (len+n) nc) (Nat.zero_add 0).symm,?_⟩);rw[bC rfl];exact⟨hn1,by simpa using hC2⟩
          ·cases ha
         ·cases ha
        ·cases ha
       ·rw[bS hc]at ha;obtain rfl:=mM.exact hc;rw[bS aj]at ha
        split at ha
        ·rename_i old hold
         split at ha
         ·rename_i YS;simp only[ah,ay]at ha;obtain⟨rfl,rfl⟩:=ha;refine⟨old,hold,YS,fun C hC1 hC2 hC3=>?_⟩;have hL:=(pN.cE (sz:=size) (ps:=0) (vs:=old++new) (C:=C) e hC1 hC3);have hL':Left ρ m w _ _ _:=⟨hL.le,hL.jY,by rw[<-aho];exact hL.within,hL.old⟩;refine hq _ _ _ hL' (bV.2 ⟨_,nc,dh.kH ..,rfl,congrArg (fun k=>ae.slice (some ⟨aO.heap.size,k,none⟩) (len+n) nc) (Nat.zero_add 0).symm,?_⟩);rw[bC rfl];exact⟨hn1,by simpa using hC2⟩
         ·cases ha
        ·cases ha
      refine oR pN hs hold fun Yb kh=>?_
      rw[ar];refine oR pN hx jT fun xD xU=>?_
      rw[ar];refine eH hz ?_;rw[ar];refine pF ?_;have hzl:=Bo z.cells (nc-(len+n));have WB:=kh.length;have hl2:=xU.length;have hnc:nc*size=(len+n)*size+(nc-(len+n))*size:=by rw[<-Nat.add_mul];congr 1;omega
      refine pP _ ?_ ?_ fun i v hi=>?_
      ·simp only[Array.size_append,List.size_toArray,List.length_append];omega
      ·simp only[Array.size_append,List.size_toArray,hzl,akI];omega
      ·obtain⟨v',h1,h2⟩:=(kh.append xU).get hi;refine⟨v',?_,h2⟩;have cC:i<(Yb++xD).length:=by
        rcases Nat.lt_or_ge i (Yb++xD).length with g|g
        ·exact g
        ·rw[List.getElem?_eq_none g]at h1;cases h1
       have e0:Yb.toArray++xD.toArray=(Yb++xD).toArray:=de;rw[e0,Array.getElem?_append_left (by simpa using cC)];simpa using h1
  ·cases ha
 ·cases ha
end
end Go.AM
