/-
  What the claim stands on, part 1.
-/
import Derived.Calls
import Derived.Laws.Sem
import Derived.Conc.Events
import Derived.Laws.Append
set_option linter.unusedVariables false
set_option linter.unusedSimpArgs false
open Go renaming Value → af, World → aA, Program → aE, TypeId → aW, Operand → cq, IntKind → cQ, Oper → hZ
open Option.some renaming injEq → ah
open Nat renaming le_refl → ai, lt_of_lt_of_le → bq, le_trans → cM
open Bool renaming and_eq_true → aj, false_eq_true → bu
open Option renaming map_eq_some_iff → ar, bind_eq_some_iff → ay, map_some → cR, isSome_iff_exists → qF
open Prod.mk renaming injEq → aC
open List renaming all_eq_true → aV, mem_cons → bC
namespace Go.AM
open Go
structure mn where
 kind:Nat:=0
 sz:Nat:=0
 cs:List (Option af):=[]
 es:Array MapEntry:=#[]
 clock:Nat:=0
 str:ByteArray:= .empty
 pos:Nat:=0
 bw:Nat:=0
def E6 {α:Type}(d:α):List α->Nat->α->List α
 | [],0,v=>[v]
 | [],i+1,v=>d::E6 d [] i v
 |_::t,0,v=>v::t
 |x::t,i+1,v=>x::E6 d t i v
def Bd {α:Type}(d:α):List α->Nat->α
 | [],_=>d
 |x::_,0=>x
 |_::t,i+1=>Bd d t i
structure N8 (α:Type) where
 a:α
 b:α
 c:α
 d:α
 e:α
 f:α
 g:α
 h:α
def N8.all{α:Type}(x:α):N8 α:=⟨x,x,x,x,x,x,x,x⟩
def N8.get{α:Type}(n:N8 α)(i:Nat):α:=
 match i with
 |0=>n.a
 |1=>n.b
 |2=>n.c
 |3=>n.d
 |4=>n.e
 |5=>n.f
 |6=>n.g
 |_=>n.h
def N8.put{α:Type}(n:N8 α)(i:Nat)(x:α):N8 α:=
 match n with
 |⟨a,b,c,d,e,f,g,h⟩=>
  match i with
  |0=>⟨x,b,c,d,e,f,g,h⟩
  |1=>⟨a,x,c,d,e,f,g,h⟩
  |2=>⟨a,b,x,d,e,f,g,h⟩
  |3=>⟨a,b,c,x,e,f,g,h⟩
  |4=>⟨a,b,c,d,x,f,g,h⟩
  |5=>⟨a,b,c,d,e,x,g,h⟩
  |6=>⟨a,b,c,d,e,f,x,h⟩
  |_=>⟨a,b,c,d,e,f,g,x⟩
theorem N8.Fz{α:Type}(x:α)(i:Nat):(N8.all x).get i=x:=by
 unfold N8.get N8.all
 split<;>rfl
theorem N8.get_put{α:Type}(n:N8 α)(x:α){i j:Nat}(hi:i<8)(hj:j<8):(n.put i x).get j=if i=j then x else n.get j:=by
 match i,j,hi,hj with
 |0,0,_,_|0,1,_,_|0,2,_,_|0,3,_,_|0,4,_,_|0,5,_,_|0,6,_,_|0,7,_,_=>rfl
 |1,0,_,_|1,1,_,_|1,2,_,_|1,3,_,_|1,4,_,_|1,5,_,_|1,6,_,_|1,7,_,_=>rfl
 |2,0,_,_|2,1,_,_|2,2,_,_|2,3,_,_|2,4,_,_|2,5,_,_|2,6,_,_|2,7,_,_=>rfl
 |3,0,_,_|3,1,_,_|3,2,_,_|3,3,_,_|3,4,_,_|3,5,_,_|3,6,_,_|3,7,_,_=>rfl
 |4,0,_,_|4,1,_,_|4,2,_,_|4,3,_,_|4,4,_,_|4,5,_,_|4,6,_,_|4,7,_,_=>rfl
 |5,0,_,_|5,1,_,_|5,2,_,_|5,3,_,_|5,4,_,_|5,5,_,_|5,6,_,_|5,7,_,_=>rfl
 |6,0,_,_|6,1,_,_|6,2,_,_|6,3,_,_|6,4,_,_|6,5,_,_|6,6,_,_|6,7,_,_=>rfl
 |7,0,_,_|7,1,_,_|7,2,_,_|7,3,_,_|7,4,_,_|7,5,_,_|7,6,_,_|7,7,_,_=>rfl
abbrev Hp1:=N8 mn
abbrev Hp2:=N8 Hp1
abbrev Hp3:=N8 Hp2
abbrev Hp4:=N8 Hp3
def WN:Hp1:=N8.all {}
def hp2:Hp2:=N8.all WN
def hp3:Hp3:=N8.all hp2
def hp4:Hp4:=N8.all hp3
abbrev kZ:=List Hp4
def rz (b k:Nat):Nat:=Nat.mod (Nat.div b k) 8
def Tc (n:Hp4)(b:Nat):mn:=(((n.get (rz b 512)).get (rz b 64)).get (rz b 8)).get (Nat.mod b 8)
def ZZ (n:Hp4)(b:Nat)(k:mn):Hp4:=
 n.put (rz b 512) ((n.get (rz b 512)).put (rz b 64) (((n.get (rz b 512)).get (rz b 64)).put (rz b 8) ((((n.get (rz b 512)).get (rz b 64)).get (rz b 8)).put (Nat.mod b 8) k)))
def kZ.get(h:kZ)(b:Nat):mn:=Tc (Bd hp4 h (Nat.div b 4096)) b
def kZ.put(h:kZ)(b:Nat)(k:mn):kZ:=E6 hp4 h (Nat.div b 4096) (ZZ (Bd hp4 h (Nat.div b 4096)) b k)
abbrev Span:=Nat×Nat×Option Nat
def bG (l:List Span)(b o:Nat):Bool:=l.any fun s=>decide (s.1<=b)&&decide (b<s.2.1)&&(match s.2.2 with |none=>true|some y=>y==o)
def jC (l:List Span)(b:Nat):Bool:=l.any fun s=>decide (s.1<=b)&&decide (b<s.2.1)&&s.2.2.isNone
def meets (l:List Span)(b o n:Nat):Bool:=l.any fun s=>decide (s.1<=b)&&decide (b<s.2.1)&&(match s.2.2 with |none=>true|some y=>decide (o<=y)&&decide (y<o+n))
def aS (l:List Span)(b:Nat):Bool:=l.any fun s=>decide (s.1<=b)&&decide (b<s.2.1)
structure zV where
 lo:Nat
 hi:Nat
 om:List Span
 bO:List Span
 heap:kZ
structure Mem where
 heap:kZ
 next:Nat
 tick:Nat
 base:Nat
 home:Nat
 floor:Nat
 opn:List Span
 bO:List Span
 wg:Option Nat
 pend:List zV
 deaf:Nat
def Mem.blk(m:Mem)(b:Nat):mn:=m.heap.get b
def Mem.bE(m:Mem)(b:Nat)(k:mn):Mem:={m with heap:=m.heap.put b {k with bw:=m.tick},tick:=m.tick+1}
def Mem.alloc(m:Mem)(k:mn):Mem:={m with heap:=m.heap.put m.next {k with bw:=m.tick},tick:=m.tick+1,next:=m.next+1}
def gO:List (Option af)->Nat->Option (List af)
 |_,0=>some []
 |some v::t,n+1=>(gO t n).map (v::·)
 |_,_=>none
def eM:List (Option af)->Nat->List af->Option (List (Option af))
 |l,_,[]=>some l
 |some _::t,0,v::vs=>(eM t 0 vs).map (some v::·)
 |x::t,i+1,vs=>(eM t i vs).map (x::·)
 |_,_,_=>none
def Mem.dQ(m:Mem)(b o n:Nat):Option (List af):=
 let k:=m.blk b
 if k.kind==1&&!meets m.bO b o n then gO (k.cs.drop o) n else none
def Mem.cY(m:Mem)(b o n:Nat):Bool:=
 !meets m.bO b o n&&decide (m.base<=b)&&(decide (m.floor<=b)||jC m.opn b||(List.range n).all fun i=>bG m.opn b (o+i))
def Mem.dS(m:Mem)(b o:Nat)(vs:List af):Option Mem:=
 let k:=m.blk b
 if k.kind==1&&m.cY b o vs.length&&vs.all (·.oneCell')then(eM k.cs o vs).map fun cs=>m.bE b {k with cs:=cs}else none
def Mem.gv(m:Mem)(b:Nat):Bool:=!aS m.bO b&&decide (m.base<=b)&&(decide (m.floor<=b)||jC m.opn b)
def Mem.bU(m:Mem)(b:Nat):Bool:=!aS m.bO b&&decide (m.home<=b)
def eP:Nat:=18446744073709551616
def dE:af->Bool
 | .bool _| .int _ _| .string _| .nilIface| .nilFunc| .pointer none| .slice none _ _| .map none=>true
 |_=>false
def plain:af->Bool
 | .agg cs=>cs.toList.all dE
 | .tuple cs=>cs.toList.all dE
 |v=>dE v
def ptrTo (b o:Nat):af:= .pointer (some ⟨b,o,none⟩)
def _root_.Go.Sem.aP{α:Type}(P:aE):Sem α->Option α
 | .pure a=>some a
 | .program k=>(k P).aP P
 |_=>none
def mT (P:aE)(t:aW):Option Bool:=(P.underlying t).map fun d=>match d with | .struct _| .array _ _=>true|_=>false
def dq (P:aE)(t:aW):Option Nat:=(P.info? t).map (·.size)
def jO (P:aE)(t:aW):Option af:=
 match P.info? t with
 |some i=>match i.zero with
  |some z=>if z.cells.toList.all dE&&z.cells.size==i.size then some z else none
  |none=>none
 |none=>none
def kx (P:aE)(t:aW)(p:af)(m:Mem):Option af:=
 match p with
 | .pointer (some ⟨b,o,none⟩)=>
  match mT P t with
  |some true=>(dq P t).bind fun n=>(m.dQ b o n).map fun l=> .agg l.toArray
  |some false=>(m.dQ b o 1).bind (·.head?)
  |none=>none
 |_=>none
def uW (P:aE)(t:aW)(p x:af)(m:Mem):Option Mem:=
 match p with
 | .pointer (some ⟨b,o,none⟩)=>if dq P t=some x.cells.size then m.dS b o x.cells.toList else none
 |_=>none
def cG (m:Mem)(sz:Nat)(cs:List af):af×Mem:=(ptrTo m.next 0,m.alloc {kind:=1,sz:=sz,cs:=cs.map some,pos:=1})
def LA (P:aE)(t:aW)(cs:Array af)(off:Nat):Option af:=
 match mT P t with
 |some true=>(dq P t).map fun n=> .agg (cs.extract off (off+n))
 |some false=>cs[off]?
 |none=>none
def rM (P:aE)(s:aW)(p:af)(f:Nat):Option af:=
 match P.underlying s,p with
 |some (.struct fields),.pointer (some ⟨b,o,none⟩)=>
  match fields[f]? with
  |some fd=>match dq P fd.type with
   |some (_+1)=>some (ptrTo b (o+fd.offset))
   |_=>none
  |none=>none
 |_,_=>none
def FB (P:aE)(s:aW)(x:af)(f:Nat):Option af:=
 match P.underlying s,x with
 |some (.struct fields),.agg cs=>(fields[f]?).bind fun fd=>LA P fd.type cs fd.offset
 |_,_=>none
def pd (P:aE)(t:aW)(x i:af):Option af:=
 match P.underlying t,x,i with
 |some (.slice e),.slice (some ⟨b,o,none⟩) len _,.int _ n=>
  if 0<=n/\n<len then(dq P e).map fun s=>ptrTo b (o+n.toNat*s)else none
 |some (.array len e),.pointer (some ⟨b,o,none⟩),.int _ n=>
  if 0<=n/\n<len then(dq P e).map fun s=>ptrTo b (o+n.toNat*s)else none
 |_,_,_=>none
def vh (P:aE)(t:aW)(x i:af):Option af:=
 match P.underlying t,x,i with
 |some (.array len e),.agg cs,.int _ n=>if 0<=n/\n<len then(dq P e).bind fun s=>LA P e cs (n.toNat*s)else none
 |_,_,_=>none
def kL (v:Option af)(d:Nat):Option Nat:=
 match v with
 |none=>some d
 |some (.int _ n)=>if 0<=n then some n.toNat else none
 |_=>none
def jH (P:aE)(t:aW)(x:af)(lo hi:Option af)(m:Mem):Option af:=
 match P.underlying t,x with
 |some (.slice e),.slice (some ⟨b,o,none⟩) len cap=>
  match kL lo 0,kL hi len,dq P e with
  |some l,some h,some s=>
   if cap=eP then
    (if l<=h/\h<=len/\(l=0\/(l<len/\(m.blk b).kind=1/\(m.blk b).sz=s))then some (.slice (some ⟨b,o+l*s,none⟩) (h-l) eP)else none)
   else if cap<eP/\l<=h/\h<=cap then some (.slice (some (if cap=l then⟨b,o,none⟩else⟨b,o+l*s,none⟩)) (h-l) (cap-l))else none
  |_,_,_=>none
 |some (.slice e),.slice none len cap=>
  match kL lo 0,kL hi len,dq P e with
  |some l,some h,some s=>if cap<eP/\l<=h/\h<=cap then some (.slice none (h-l) (cap-l))else none
  |_,_,_=>none
 |some (.array n e),.pointer (some ⟨b,o,none⟩)=>
  match kL lo 0,kL hi n,dq P e with
  |some l,some h,some s=>if n<eP/\l<=h/\h<=n then some (.slice (some (if n=l then⟨b,o,none⟩else⟨b,o+l*s,none⟩)) (h-l) (n-l))else none
  |_,_,_=>none
 |_,_=>none
def rL (m:Mem)(size n:Nat):af->Option (List af)
 | .slice (some ⟨b,o,none⟩) _ _=>m.dQ b o (n*size)
 | .slice none _ _=>some []
 | .string s=>if size=1/\n=s.size then some (s.data.toList.map fun b=> .int .u8 b.toNat)else none
 |_=>none
def RQ:af->Option Nat
 | .slice _ n _=>some n
 | .string s=>some s.size
 |_=>none
def yo (P:aE)(e:aW)(need:Nat):Bool:=match P.info? e with |some i=>decide (0<i.bytes)&&decide (need*i.bytes<=2^46)&&decide (need<=2^46)&&(jO P e).isSome|none=>false
def cV (P:aE)(lG:Array aW)(s x:af)(m:Mem):Option (af×Mem):=
 match(lG[0]?).bind P.underlying,lG[1]?,s with
 |some (.slice e),some xt,.slice base len cap=>
  match dq P e,RQ x,P.underlying xt with
  |some size,some n,some (.slice _)=>
   match rL m size n x with
   |none=>none
   |some new=>
    if yo P e (len+n)=false\/new.length≠n*size\/new.all (·.oneCell')=false then none else
    if cap=eP then
     match base with
     |some ⟨b,o,none⟩=>
      let k:=m.blk b
      if k.kind==1&&k.sz==size&&m.gv b&&(k.cs.drop o).all (·.isSome)then
       match gO (k.cs.drop o) (len*size)with
       |some old=>
        let m':=(m.bE b {}).alloc {kind:=1,sz:=size,cs:=(old++new).map some}
        some (.slice (some ⟨m.next,0,none⟩) (len+n) eP,m')
       |none=>none
      else none
     |_=>none
    else if len+n<=cap then
     match base with
     |some ⟨b,o,none⟩=>(m.dS b (o+len*size) new).map fun m'=>(.slice base (len+n) cap,m')
     |none=>some (.slice none (len+n) cap,m)
     |_=>none
    else match rL m size len s with
     |some old=>if old.length=len*size then some (.slice (some ⟨m.next,0,none⟩) (len+n) eP,m.alloc {kind:=1,sz:=size,cs:=(old++new).map some})else none
     |none=>none
  |_,_,_=>none
 |_,_,_=>none
def D1 (P:aE)(lG:Array aW)(d s:af)(m:Mem):Option (af×Mem):=
 match(lG[0]?).bind P.underlying,d with
 |some (.slice e),.slice base dl _=>
  match dq P e,RQ s with
  |some size,some sl=>
   match s with
   | .slice .. =>
    (rL m size (Nat.min sl dl) s).bind fun cells=>
     match base with
     |some ⟨b,o,none⟩=>(m.dS b o cells).map fun m'=>(goInt (Nat.min sl dl:Nat),m')
     |none=>some (goInt (Nat.min sl dl:Nat),m)
     |_=>none
   |_=>none
  |_,_=>none
 |_,_=>none
def nW (P:aE)(lG:Array aW)(x:af)(m:Mem):Option (af×Mem):=
 match(lG[0]?).bind P.underlying,x with
 |some (.slice e),.slice base n _=>
  match base with
  |none=>some (.tuple #[],m)
  |some ⟨b,o,none⟩=>
   if n=0 then some (.tuple #[],m)
   else(jO P e).bind fun z=>(m.dS b o (Builtin.zeroCells z.cells n).toList).map fun m'=>(.tuple #[],m')
  |_=>none
 |_,_=>none
def qZ (P:aE)(t:aW)(xc yc:Bool)(x y:af):Option Bool:=
 match P.underlying t,x,y with
 |some (.pointer _),.pointer none,.pointer b=>some b.isNone
 |some (.pointer _),.pointer (some _),.pointer none=>some false
 |some (.slice _),.slice none _ _,.slice b _ _=>some b.isNone
 |some (.slice _),.slice (some _) _ _,.slice none _ _=>some false
 |some (.interface _),.nilIface,.nilIface=>if xc||yc then some true else none
 |some (.interface _),.nilIface,.iface _ _=>some false
 |some (.interface _),.iface _ _,.nilIface=>some false
 |_,_,_=>none
def isConst:cq->Bool
 | .const _=>true
 |_=>false
def strKeys:List MapEntry->Bool
 | []=>true
 |e::es=>(match e.key with | .string _=>true|_=>false)&&strKeys es
def oA (s:ByteArray):List MapEntry->Nat->Option (Nat×af)
 | [],_=>none
 |e::es,i=>match e.key with | .string k=>if s==k then some (i,e.val)else oA s es (i+1)|_=>none
def jQ (P:aE)(t:aW)(x k:af)(ok:Bool)(m:Mem):Option af:=
 match P.underlying t,x,k with
 |some (.map kt et),.map r,.string s=>
  match P.underlying kt,jO P et with
  |some .string,some z=>
   match(match r with
    |none=>some #[]
    |some b=>let q:=m.blk b;if q.kind==2&&m.bU b then some q.es else none)with
   |some es=>if strKeys es.toList then
     let v:=match oA s es.toList 0 with |some (_,v)=>(v,true)|none=>(z,false)
     some (if ok then .tuple #[v.1,.bool v.2]else v.1)
    else none
   |none=>none
  |_,_=>none
 |_,_,_=>none
def lC (P:aE)(t:aW)(x k v:af)(m:Mem):Option Mem:=
 match P.underlying t,x,k with
 |some (.map kt _),.map (some b),.string s=>
  match P.underlying kt with
  |some .string=>
   let q:=m.blk b
   if q.kind==2&&m.bU b&&strKeys q.es.toList then
    match oA s q.es.toList 0 with
    |some (i,_)=>some (m.bE b {q with es:=q.es.modify i fun e=>{e with key:=k,val:=v}})
    |none=>some (m.bE b {q with es:=q.es.push {key:=k,val:=v,born:=q.clock},clock:=q.clock+1})
   else none
  |_=>none
 |_,_,_=>none
def pO (P:aE)(x:af)(t a:aW)(ok:Bool):Option af:=
 match P.underlying a,x,ok with
 |some (.interface _),_,_=>none
 |some _,.nilIface,true=>(jO P a).map fun z=> .tuple #[z,.bool false]
 |some _,.iface d v,true=>if d=a then some (.tuple #[v,.bool true])else(jO P a).map fun z=> .tuple #[z,.bool false]
 |_,_,_=>none
def fH (P:aE)(t:aW)(parts:List (Nat×af)):Option af:=
 match jO P t,P.underlying t with
 |some z,some (.struct fields)=>
  match fields.mapM (m:=Option) fun f=>(dq P f.type).map fun n=>(f.offset,n)with
  |some places=>(Instr.fill (places[·]?) z.cells parts).map .agg
  |none=>none
 |some z,some (.array _ e)=>(dq P e).bind fun n=>(Instr.fill (fun i=>some (i*n,n)) z.cells parts).map .agg
 |_,_=>none
def ao (P:aE)(t:aW)(len:Nat)(parts:List (Nat×af))(m:Mem):Option (af×Mem):=
 match P.underlying t with
 |some (.slice e)=>
  match dq P e,jO P e with
  |some size,some z=>
   if len*size>2^24\/eP<=len then none else
   (Instr.fill (fun i=>some (i*size,size)) ((Array.range (len*size)).map (z.cells[·%z.cells.size]!)) parts).map fun cs=>
    (.slice (some ⟨m.next,0,none⟩) len len,m.alloc {kind:=1,sz:=size,cs:=cs.toList.map some})
  |_,_=>none
 |_=>none
def gh (P:aE)(t:aW)(l c:af)(m:Mem):Option (af×Mem):=
 match P.underlying t,l,c with
 |some (.slice e),.int .i64 l,.int .i64 c=>
  match P.info? e,jO P e with
  |some i,some z=>
   if 0<=l/\l<=c/\c*i.bytes<=2^40/\c<=2^40 then
    some (.slice (some ⟨m.next,0,none⟩) l.toNat c.toNat,
     m.alloc {kind:=1,sz:=i.size,cs:=(((Array.range (c.toNat*i.size)).map (z.cells[·%z.cells.size]!)).toList.map some)})
   else none
  |_,_=>none
 |_,_,_=>none
def ej (P:aE)(s d:aW)(x:af)(m:Mem):Option (af×Mem):=
 match P.underlying s,P.underlying d,x with
 |some (.pointer t),some .unsafePointer,.pointer (some ⟨b,o,none⟩)=>
  let k:=m.blk b
  match dq P t with
  |some (_+1)=>if k.kind==1&&decide (o<k.cs.length)then some (x,m)else none
  |_=>none
 |some .string,some (.slice e),.string s=>
  match P.underlying e with
  |some (.int .u8)=>if s.size=0\/s.size>2^46 then none else
    some (.slice (some ⟨m.next,0,none⟩) s.size eP,m.alloc {kind:=1,sz:=1,cs:=s.data.toList.map fun b=>some (.int .u8 b.toNat)})
  |_=>none
 |some (.slice e),some .string,.slice a len _=>
  match P.underlying e,a with
  |some (.int .u8),none=>some (.string .empty,m)
  |some (.int .u8),some ⟨b,o,none⟩=>
   (m.dQ b o len).bind fun l=>(l.mapM (m:=Option) fun v=>match v with | .int .u8 n=>some (UInt8.ofNat n.toNat)|_=>none).map fun bs=>(.string ⟨bs.toArray⟩,m)
  |_,_=>none
 |_,_,_=>none
def xP (P:aE)(t:aW)(x:af)(m:Mem):Option (af×Mem):=
 match P.underlying t,x with
 |some .string,.string s=>some (ptrTo m.next 0,m.alloc {kind:=3,str:=s,pos:=0})
 |_,_=>none
def Dl (it:af)(isS:Bool)(m:Mem):Option (af×Mem):=
 match it,isS with
 | .pointer (some ⟨b,0,none⟩),true=>
  let k:=m.blk b
  if k.kind==3&&m.bU b then
   if k.pos<k.str.size then
    let d:=Utf8.decode k.str k.pos
    some (.tuple #[.bool true,goInt k.pos,.int .i32 d.1],m.bE b {k with pos:=k.pos+d.2})
   else some (.tuple #[.bool false],m)
  else none
 |_,_=>none
def dp (P:aE)(ev:cq->af)(o:hZ):Option af:=
 if o.op.operands.all (fun x=>plain (ev x))then
  match(execOp ev o).aP P with
  |some (.value v)=>if plain v then some v else none
  |_=>none
 else none
def eW (P:aE)(recv:af)(name:String):Option (Nat×af):=
 match recv with
 | .iface t v=>
  match P.info? t,P.underlying t with
  |some i,some (.pointer _)=>
   match i.methods.find? (·.name==name)with
   |some mt=>match mt.path.toList,mt.func with
    | [],some (f,true)=>some (f,v)
    |_,_=>none
   |none=>none
  |_,_=>none
 |_=>none
def dJ (P:aE)(ev:cq->af)(o:hZ)(m:Mem):Option (af×Mem):=
 match o.op with
 | .move x=>some (ev x,m)
 | .assign x=>some (ev x,m)
 | .pick c a b=>match ev c with | .bool t=>some (if t then ev a else ev b,m)|_=>none
 | .alloc e=>(jO P e).map fun z=>cG m 0 z.cells.toList
 | .box _ v=>some (cG m 0 (ev v).cells.toList)
 | .build t ps=>(fH P t (ps.map fun(i,x)=>(i,ev x)).toList).map fun v=>(v,m)
 | .buildSlice t n ps=>ao P t n (ps.map fun(i,x)=>(i,ev x)).toList m
 | .load t a=>(kx P t (ev a) m).map fun v=>(v,m)
 | .store t a x=>(uW P t (ev a) (ev x) m).map fun m'=>(undef,m')
 | .nilCheck x=>match ev x with
  | .pointer (some a)=>some (.pointer (some a),m)
  | .func (.method name) first cap=>match(first[0]?:Option af)with
   |some r=>if(eW P r name).isSome then some (.func (.method name) first cap,m)else none
   |none=>none
  |_=>none
 | .binOp op t x y _=>
  match op with
  | .eql=>match qZ P t (isConst x) (isConst y) (ev x) (ev y)with |some b=>some (.bool b,m)|none=>(dp P ev o).map fun v=>(v,m)
  | .neq=>match qZ P t (isConst x) (isConst y) (ev x) (ev y)with |some b=>some (.bool (!b),m)|none=>(dp P ev o).map fun v=>(v,m)
  |_=>(dp P ev o).map fun v=>(v,m)
 | .unOp .. =>(dp P ev o).map fun v=>(v,m)
 | .convert s d x=>match ej P s d (ev x) m with |some r=>some r|none=>(dp P ev o).map fun v=>(v,m)
 | .makeInterface t x=>match P.underlying t with |some (.interface _)=>none|some _=>some (.iface t (ev x),m)|none=>none
 | .makeFunc fn f c=>some (.func fn (f.map ev) (c.map ev),m)
 | .makeMap _ none=>some (.map (some m.next),m.alloc {kind:=2})
 | .makeSlice t l c=>gh P t (ev l) (ev c) m
 | .slice t x lo hi none=>match jH P t (ev x) (lo.map ev) (hi.map ev) m with |some v=>some (v,m)|none=>(dp P ev o).map fun v=>(v,m)
 | .fieldAddr s x f=>(rM P s (ev x) f).map fun v=>(v,m)
 | .field s x f=>(FB P s (ev x) f).map fun v=>(v,m)
 | .indexAddr t x i=>(pd P t (ev x) (ev i)).map fun v=>(v,m)
 | .index t x i=>match vh P t (ev x) (ev i)with |some v=>some (v,m)|none=>(dp P ev o).map fun v=>(v,m)
 | .lookup t x i ok=>(jQ P t (ev x) (ev i) ok m).map fun v=>(v,m)
 | .mapUpdate t x k v=>(lC P t (ev x) (ev k) (ev v) m).map fun m'=>(undef,m')
 | .typeAssert x t a ok=>(pO P (ev x) t a ok).map fun v=>(v,m)
 | .extract t i=>match ev t with | .tuple vs=>(vs[i]?).map fun v=>(v,m)|_=>none
 | .range t x=>xP P t (ev x) m
 | .next it s=>Dl (ev it) s m
 | .call {callee:= .builtin b,args,argTypes}=>
  match b,args.toList with
  | .append,[s,x]=>cV P argTypes (ev s) (ev x) m
  | .copy,[d,s]=>D1 P argTypes (ev d) (ev s) m
  | .clear,[x]=>nW P argTypes (ev x) m
  | .len,[x]=>match(argTypes[0]?).bind P.underlying,ev x with
   |some (.slice _),.slice _ n _=>some (goInt n,m)
   |_,_=>(dp P ev o).map fun v=>(v,m)
  | .min,_=>(dp P ev o).map fun v=>(v,m)
  | .max,_=>(dp P ev o).map fun v=>(v,m)
  |_,_=>none
 |_=>none
structure Ext where
 disable:Nat
 enable:Nat
 acquire:Nat
 sU:Nat
 D5:Nat
 Iv:Nat
 Aq:Nat
 oQ:Nat
 HX:Nat
 HW:Nat
def tp (X:Ext)(f:Nat)(args:List af)(m:Mem):Option (af×Mem):=
 if f=X.disable then(match args with | []=>some (.tuple #[],{m with deaf:=m.deaf+1})|_=>none)
 else if f=X.enable then(match args with | []=>some (.tuple #[],{m with deaf:=m.deaf-1})|_=>none)
 else if f=X.acquire then(match args with | [.pointer (some ⟨_,_,none⟩)]=>some (.tuple #[],m)|_=>none)
 else if f=X.sU then(match args with | [.pointer (some ⟨_,_,none⟩)]=>some (.tuple #[],m)|_=>none)
 else if f=X.D5 then
  (match args with
   | [.pointer (some ⟨b,o,none⟩),.int .i32 x,.int .i32 y]=>
    match m.dQ b o 1 with
    |some [.int .i32 v]=>if v=x then(m.dS b o [.int .i32 y]).map fun m'=>(.bool true,m')else if m.base<=b then some (.bool false,m)else none
    |_=>none
   |_=>none)
 else if f=X.Iv then
  (match args with
   | [.pointer (some ⟨b,o,none⟩),.int .i32 y]=>
    match m.dQ b o 1 with
    |some [.int .i32 v]=>(m.dS b o [.int .i32 (cQ.i32.wrap (v+y))]).map fun m'=>(.int .i32 (cQ.i32.wrap (v+y)),m')
    |_=>none
   |_=>none)
 else none
abbrev cL:=Nat->List af->Mem->Option (af×Mem)
def rF (X:Ext)(dN:af)(m:Mem):Option (Nat×Nat×Nat):=
 match dN with
 | .func (.func f) _ cap=>
  if f=X.HX\/f=X.HW then
   match(cap[0]?:Option af),(cap[1]?:Option af)with
   |some (.pointer (some ⟨pb,po,none⟩)),some (.pointer (some ⟨ib,io,none⟩))=>
    match m.dQ pb po 1,m.dQ ib io 1 with
    |some [.pointer (some ⟨d,o,none⟩)],some [.int .i64 i]=>if 0<=i then some (d,o,i.toNat)else none
    |_,_=>none
   |_,_=>none
  else none
 |_=>none
def ze (m:Mem)(d o j:Nat):Option (List Span):=
 match m.dQ d (o+2*j) 1 with
 |some [.slice (some ⟨b,_,none⟩) _ _]=>some [(d,d+1,some (o+2*j)),(d,d+1,some (o+2*j+1)),(b,b+1,none)]
 |some [.slice none _ _]=>some [(d,d+1,some (o+2*j)),(d,d+1,some (o+2*j+1))]
 |_=>none
def oj (m:Mem)(d o:Nat):Nat->Option (List Span)
 |0=>some []
 |j+1=>match oj m d o j,ze m d o j with
  |some l,some l'=>some (l'++l)
  |_,_=>none
def x9 (m:Mem)(s:Span):Bool:=
 decide (s.2.1=s.1+1)&&decide (m.base<=s.1)&&decide (m.floor<=s.1)&&decide (s.1<m.next)&&(m.blk s.1).kind==1&&
  (match s.2.2 with |some o=>(((m.blk s.1).cs[o]?).any (·.isSome))|none=>(m.blk s.1).cs.all (·.isSome))
def pt:List Span->Bool
 | []=>true
 |s::l=>(l.all fun t=>s.1 !=t.1||(match s.2.2,t.2.2 with |some x,some y=>x !=y|_,_=>false))&&pt l
def Aj (call:cL)(fv:af)(args:List af)(m:Mem):Option (af×Mem):=
 match fv with
 | .func (.func f) first cap=>call f (first.toList++args++cap.toList) m
 |_=>none
def lE (w d o:Nat)(m:Mem):Option Mem:=
 match m.wg with
 |some w'=>if w=w' then some m else none
 |none=>match m.dQ w 0 2,oj m d o 4 with
  |some [.int .u64 0,.int .u32 0],some l=>
   if m.cY w 0 2&&m.gv w&&(m.blk w).pos==1&&decide ((m.blk w).cs.length=2)&&decide (m.bO=[])&&decide (m.opn=[])&&decide (m.pend=[])&&decide (m.floor=m.base)&&l.all (fun s=>x9 m s&&s.1 !=w)&&pt l
   then some {m.bE w {}with wg:=some w,opn:=l,floor:=m.next}else none
  |_,_=>none
def vE (s t:Span):Bool:=Nat.ble s.2.1 t.1||Nat.ble t.2.1 s.1||(match s.2.2,t.2.2 with |some x,some y=>x !=y|_,_=>false)
def qg (X:Ext)(kY:cL)(args:List af)(m:Mem):Option (af×Mem):=
 match args with
 | [.pointer (some ⟨w,0,none⟩),dN]=>
  match rF X dN m with
  |some (d,o,i)=>
   match lE w d o m with
   |some bk=>
    let m:=(cG (cG bk 0 [ptrTo w 0]).2 0 [dN]).2
    match ze m d o i with
    |some l=>
     let rest:=m.opn.filter fun s=>!l.contains s
     if m.deaf=0/\m.pend.length<4/\(l.all fun s=>m.opn.contains s)=true/\pt l=true/\(l.all fun s=>(rest++m.bO).all (vE s))=true/\((rest++l).all fun t=>Nat.ble t.2.1 bk.next)=true/\(l.all fun s=>Nat.beq s.2.1 (s.1+1)&&Nat.beq (m.blk s.1).kind 1)=true then
      match Aj kY dN [] {m with home:=m.next,floor:=m.next,opn:=l,bO:=rest++m.bO,wg:=none,pend:=[]}with
      |some (_,m2)=>if m2.deaf=0 then
        some (.tuple #[],{m2 with home:=m.home,floor:=m2.next,opn:=rest,wg:=m.wg,bO:=(m.next,m2.next,none)::(l++m.bO),pend:={lo:=m.next,hi:=m2.next,om:=l,bO:=rest++m.bO,heap:=m2.heap}::m.pend})
       else none
      |none=>none
     else none
    |none=>none
   |none=>none
  |none=>none
 |_=>none
def wO (args:List af)(m:Mem):Option (af×Mem):=
 match args,m.wg with
 | [.pointer (some ⟨w,0,none⟩)],some w'=>if w=w'/\m.deaf=0/\m.opn=[]/\Nat.ble m.base m.next=true then some (.tuple #[],{m with bO:=[],floor:=m.base,wg:=none,pend:=[]})else none
 |_,_=>none
def fu (o:hZ):Bool:=
 match o.op with
 | .move _| .assign _| .pick .. | .fieldAddr .. | .field .. | .extract .. | .unOp .. | .binOp .. | .makeInterface .. | .makeFunc .. | .typeAssert .. | .nilCheck _
 | .index .. | .indexAddr .. | .slice .. | .build .. | .load .. | .lookup .. | .alloc _| .box .. | .buildSlice .. | .makeSlice .. | .makeMap .. =>true
 | .call {callee:= .builtin b,.. }=>match b with | .len| .min| .max=>true|_=>false
 |_=>false
def aG (ops:Array hZ):List Nat:=(List.range ops.size).filter fun i=>(ops[i]?).any fun o=>!fu o
def xl (bK:Array Nat):List Nat->Bool
 |a::b::l=>(bK.getD b 0).testBit a&&xl bK (b::l)
 |_=>true
def cS (bK:Array Nat)(hs:List Nat)(i:Nat):Nat:=(hs.filter fun h=>(bK.getD i 0).testBit h).length
def qL (bK:Array Nat)(hs:List Nat)(i:Nat):Nat:=(hs.filter fun h=> !(bK.getD h 0).testBit i).length
def kQ (ops:Array hZ)(o:hZ):List Tmp:=
 (o.op.operands.toList.filterMap fun x=>match x with | .tmp t=>some t|_=>none)++(match o.guard with |some (g,_)=>((ops[g]?).bind (·.dst)).toList|none=>[])
def tidy (ops:Array hZ)(bK:Array Nat):Bool:=
 (List.range ops.size).all fun i=>(List.range ops.size).all fun j=>
  match ops[i]?,ops[j]? with
  |some x,some y=>(match y.dst with
   |some d=>(i==j||x.dst !=some d)&&(!(kQ ops x).contains d||((bK.getD i 0).testBit j||(bK.getD j 0).testBit i))
   |none=>true)
  |_,_=>true
theorem dZ {p:Prop}[Decidable p](h:p):decide p=true:=decide_eq_true h
theorem eO {p:Prop}[Decidable p](h:¬p):decide p=false:=decide_eq_false h
theorem jE {p:Prop}[Decidable p]:(decide p=true)=p:=decide_eq_true_eq
theorem bL.{u}{c:Prop}{h:Decidable c}(hc:c){α:Sort u}{t e:α}:ite c t e=t:=if_pos hc
theorem bT.{u}{c:Prop}{h:Decidable c}(hc:¬c){α:Sort u}{t e:α}:ite c t e=e:=if_neg hc
theorem av {p:Prop}(h:p:=by omega):p:=h
theorem fP {p:Prop}(h:p:=by assumption):p:=h
theorem cK {p:Prop}(h:p:=by simp):p:=h
theorem dB {p:Prop}(h:p:=by decide):p:=h
end Go.AM
namespace Go.AM
open Go
def bM {α β:Type}(R:α->β->Prop):List α->List β->Prop
 | [],[]=>True
 |a::l,b::r=>R a b/\bM R l r
 |_,_=>False
section
variable {α β γ:Type}{R S:α->β->Prop}
theorem bM.length{l:List α}{r:List β}(h:bM R l r):l.length=r.length:=by
 induction l generalizing r with
 |nil=>cases r<;>simp_all [bM]
 |cons a l ih=>cases r with
  |nil=>exact h.elim
  |cons b r=>simp[ih h.2]
theorem bM.mono{l:List α}{r:List β}(h:bM R l r)(hs:∀a b,R a b->S a b):bM S l r:=by
 induction l generalizing r with
 |nil=>cases r<;>simp_all [bM]
 |cons a l ih=>cases r with
  |nil=>exact h.elim
  |cons b r=>exact⟨hs _ _ h.1,ih h.2⟩
theorem bM.get{l:List α}{r:List β}(h:bM R l r){i:Nat}{a:α}(ha:l[i]?=some a):∃b,r[i]?=some b/\R a b:=by
 induction l generalizing r i with
 |nil=>simp at ha
 |cons x l ih=>cases r with
  |nil=>exact h.elim
  |cons b r=>cases i with
   |zero=>simp at ha;subst ha;exact⟨b,rfl,h.1⟩
   |succ i=>simp at ha;simpa using ih h.2 ha
theorem bM.get'{l:List α}{r:List β}(h:bM R l r){i:Nat}{b:β}(hb:r[i]?=some b):∃a,l[i]?=some a/\R a b:=by
 induction l generalizing r i with
 |nil=>cases r<;>simp_all [bM]
 |cons x l ih=>cases r with
  |nil=>exact h.elim
  |cons y r=>cases i with
   |zero=>simp at hb;subst hb;exact⟨x,rfl,h.1⟩
   |succ i=>simp at hb;simpa using ih h.2 hb
theorem bM.EZ{l:List α}{r:List β}(hl:l.length=r.length)(h:∀(i:Nat) a b,l[i]?=some a->r[i]?=some b->R a b):bM R l r:=by
 induction l generalizing r with
 |nil=>cases r<;>simp_all [bM]
 |cons x l ih=>cases r with
  |nil=>simp at hl
  |cons y r=>exact⟨h 0 _ _ rfl rfl,ih (by simpa using hl) fun i a b ha hb=>h (i+1) a b (by simpa using ha) (by simpa using hb)⟩
theorem bM.append{l E4:List α}{r adu:List β}(h:bM R l r)(zN:bM R E4 adu):bM R (l++E4) (r++adu):=by
 induction l generalizing r with
 |nil=>cases r<;>simp_all [bM]
 |cons a l ih=>cases r with
  |nil=>exact h.elim
  |cons b r=>exact⟨h.1,ih h.2⟩
theorem bM.oY{δ:Type}{f:δ->α}{g:δ->β}{l:List δ}(h:∀x∈l,R (f x) (g x)):bM R (l.map f) (l.map g):=by
 induction l with
 |nil=>trivial
 |cons a l ih=>exact⟨h a cK,ih fun x hx=>h x (by simp[hx])⟩
theorem bM.set{l:List α}{r:List β}(h:bM R l r){a:α}{b:β}(W1:R a b)(i:Nat):bM R (l.set i a) (r.set i b):=by
 induction l generalizing r i with
 |nil=>cases r<;>simp_all [bM]
 |cons x l ih=>cases r with
  |nil=>exact h.elim
  |cons y r=>cases i with
   |zero=>exact⟨W1,h.2⟩
   |succ i=>exact⟨h.1,ih h.2 i⟩
theorem bM.drop{l:List α}{r:List β}(h:bM R l r)(i:Nat):bM R (l.drop i) (r.drop i):=by
 induction l generalizing r i with
 |nil=>cases r<;>simp_all [bM]
 |cons x l ih=>cases r with
  |nil=>exact h.elim
  |cons y r=>cases i with
   |zero=>exact h
   |succ i=>exact ih h.2 i
theorem bM.take{l:List α}{r:List β}(h:bM R l r)(i:Nat):bM R (l.take i) (r.take i):=by
 induction l generalizing r i with
 |nil=>cases r<;>simp_all [bM]
 |cons x l ih=>cases r with
  |nil=>exact h.elim
  |cons y r=>cases i with
   |zero=>trivial
   |succ i=>exact⟨h.1,ih h.2 i⟩
theorem bM.refl{R:α->α->Prop}{l:List α}(h:∀a∈l,R a a):bM R l l:=by
 induction l with
 |nil=>trivial
 |cons a l ih=>exact⟨h a cK,ih fun x hx=>h x (by simp[hx])⟩
theorem bM.getD{l:List α}{r:List β}(h:bM R l r){a:α}{b:β}(W1:R a b)(i:Nat):R (l.getD i a) (r.getD i b):=by
 simp only[List.getD_eq_getElem?_getD];cases hl:l[i]? with
 |none=>
  have :r[i]?=none:=by
   have :=h.length;simp only[List.getElem?_eq_none_iff]at*;omega
  simp[this,W1]
 |some x=>
  obtain⟨y,hy,IG⟩:=h.get hl;simp[hy,IG]
end
structure Pl where
 c:Nat
 d:Nat
 room:Nat
 sz:Nat
abbrev dL:=Nat->Option Pl
def dL.le(ρ bH:dL):Prop:=∀b p,ρ b=some p->bH b=some p
theorem dL.le_refl(ρ:dL):ρ.le ρ:=fun _ _ h=>h
theorem dL.le_trans{ρ Am fj:dL}(h:ρ.le Am)(h':Am.le fj):ρ.le fj:=fun b p x=>h' b p (h b p x)
def VR (ρ:dL):Nat->af->af->Prop
 |0,_,_=>False
 |n+1,v,v'=>
  match v with
  | .pointer (some a)=>∃p,ρ a.block=some p/\a.spot=none/\v'= .pointer (some ⟨p.c,p.d+a.off,none⟩)
  | .slice (some a) len cap=>∃p iz,ρ a.block=some p/\a.spot=none/\v'= .slice (some ⟨p.c,p.d+a.off,none⟩) len iz/\(if cap=eP then len<=iz/\a.off+iz*p.sz<=p.room else iz=cap)
  | .map (some r)=>∃p,ρ r=some p/\v'= .map (some p.c)
  | .func fn f c=>∃f' c',v'= .func fn f' c'/\bM (VR ρ n) f.toList f'.toList/\bM (VR ρ n) c.toList c'.toList
  | .iface t x=>∃x',v'= .iface t x'/\VR ρ n x x'
  | .agg cs=>∃kW,v'= .agg kW/\bM (VR ρ n) cs.toList kW.toList
  | .tuple cs=>∃kW,v'= .tuple kW/\bM (VR ρ n) cs.toList kW.toList
  |v=>v'=v
def bg (ρ:dL)(v v':af):Prop:=∃n,VR ρ n v v'
section
variable {ρ bH:dL}
theorem VR.more:∀{n:Nat}{v v':af},VR ρ n v v'->VR ρ (n+1) v v':=by
 intro n
 induction n with
 |zero=>intro v v' h;exact h.elim
 |succ n ih=>
  intro v v' h;cases v with
  |pointer a=>cases a<;>exact h
  |slice a l c=>cases a<;>exact h
  |map r=>cases r<;>exact h
  |func fn f c=>
   obtain⟨f',c',e,h1,h2⟩:=h;exact⟨f',c',e,h1.mono fun _ _=>ih,h2.mono fun _ _=>ih⟩
  |iface t x=>obtain⟨x',e,h⟩:=h;exact⟨x',e,ih h⟩
  |agg cs=>obtain⟨x',e,h⟩:=h;exact⟨x',e,h.mono fun _ _=>ih⟩
  |tuple cs=>obtain⟨x',e,h⟩:=h;exact⟨x',e,h.mono fun _ _=>ih⟩
  |_=>exact h
theorem VR.le{n m:Nat}(h:n<=m){v v':af}(hv:VR ρ n v v'):VR ρ m v v':=by
 induction h with
 |refl=>exact hv
 |step _ ih=>exact ih.more
theorem VR.pC(h:ρ.le bH):∀{n:Nat}{v v':af},VR ρ n v v'->VR bH n v v':=by
 intro n
 induction n with
 |zero=>intro v v' h;exact h.elim
 |succ n ih=>
  intro v v' hv;cases v with
  |pointer a=>cases a with
   |none=>exact hv
   |some a=>obtain⟨p,h1,h2⟩:=hv;exact⟨p,h _ _ h1,h2⟩
  |slice a l c=>cases a with
   |none=>exact hv
   |some a=>obtain⟨p,c',h1,h2⟩:=hv;exact⟨p,c',h _ _ h1,h2⟩
  |map r=>cases r with
   |none=>exact hv
   |some a=>obtain⟨p,h1,h2⟩:=hv;exact⟨p,h _ _ h1,h2⟩
  |func fn f c=>
   obtain⟨f',c',e,h1,h2⟩:=hv;exact⟨f',c',e,h1.mono fun _ _=>ih,h2.mono fun _ _=>ih⟩
  |iface t x=>obtain⟨x',e,h⟩:=hv;exact⟨x',e,ih h⟩
  |agg cs=>obtain⟨x',e,h⟩:=hv;exact⟨x',e,h.mono fun _ _=>ih⟩
  |tuple cs=>obtain⟨x',e,h⟩:=hv;exact⟨x',e,h.mono fun _ _=>ih⟩
  |_=>exact hv
theorem bg.pC(h:ρ.le bH){v v':af}(hv:bg ρ v v'):bg bH v v':=let⟨n,x⟩:=hv;⟨n,x.pC h⟩
theorem tJ {l r:List af}(h:bM (bg ρ) l r):∃n,bM (VR ρ n) l r:=by
 induction l generalizing r with
 |nil=>exact⟨0,by cases r<;>simp_all [bM]⟩
 |cons a l ih=>cases r with
  |nil=>exact h.elim
  |cons b r=>
   obtain⟨n,hn⟩:=h.1;obtain⟨k,hk⟩:=ih h.2;exact⟨max n k,hn.le (Nat.le_max_left _ _),hk.mono fun _ _=>VR.le (Nat.le_max_right _ _)⟩
theorem tH {n:Nat}{l r:List af}(h:bM (VR ρ n) l r):bM (bg ρ) l r:=h.mono fun _ _ x=>⟨n,x⟩
theorem jl {cs:Array af}{v':af}:bg ρ (.agg cs) v'↔∃kW,v'= .agg kW/\bM (bg ρ) cs.toList kW.toList:=by
 constructor
 ·rintro⟨n,h⟩;cases n with
  |zero=>exact h.elim
  |succ n=>obtain⟨kW,e,h⟩:=h;exact⟨kW,e,tH h⟩
 ·rintro⟨kW,e,h⟩;obtain⟨n,h⟩:=tJ h;exact⟨n+1,kW,e,h⟩
theorem fE {cs:Array af}{v':af}:bg ρ (.tuple cs) v'↔∃kW,v'= .tuple kW/\bM (bg ρ) cs.toList kW.toList:=by
 constructor
 ·rintro⟨n,h⟩;cases n with
  |zero=>exact h.elim
  |succ n=>obtain⟨kW,e,h⟩:=h;exact⟨kW,e,tH h⟩
 ·rintro⟨kW,e,h⟩;obtain⟨n,h⟩:=tJ h;exact⟨n+1,kW,e,h⟩
theorem iA {t:aW}{x v':af}:bg ρ (.iface t x) v'↔∃x',v'= .iface t x'/\bg ρ x x':=by
 constructor
 ·rintro⟨n,h⟩;cases n with
  |zero=>exact h.elim
  |succ n=>obtain⟨kW,e,h⟩:=h;exact⟨kW,e,n,h⟩
 ·rintro⟨kW,e,n,h⟩;exact⟨n+1,kW,e,h⟩
theorem gZ {fn:Fn}{f c:Array af}{v':af}:bg ρ (.func fn f c) v'↔∃f' c',v'= .func fn f' c'/\bM (bg ρ) f.toList f'.toList/\bM (bg ρ) c.toList c'.toList:=by
 constructor
 ·rintro⟨n,h⟩;cases n with
  |zero=>exact h.elim
  |succ n=>obtain⟨f',c',e,h,h2⟩:=h;exact⟨f',c',e,tH h,tH h2⟩
 ·rintro⟨f',c',e,h,h2⟩;obtain⟨n,h⟩:=tJ h;obtain⟨k,h2⟩:=tJ h2;exact⟨max n k+1,f',c',e,h.mono fun _ _=>VR.le (Nat.le_max_left _ _),h2.mono fun _ _=>VR.le (Nat.le_max_right _ _)⟩
theorem cW {a:Addr}{v':af}:bg ρ (.pointer (some a)) v'↔∃p,ρ a.block=some p/\a.spot=none/\v'= .pointer (some ⟨p.c,p.d+a.off,none⟩):=by
 constructor
 ·rintro⟨n,h⟩;cases n with
  |zero=>exact h.elim
  |succ n=>exact h
 ·intro h;exact⟨1,h⟩
theorem cA {a:Addr}{len cap:Nat}{v':af}:bg ρ (.slice (some a) len cap) v'↔∃p iz,ρ a.block=some p/\a.spot=none/\v'= .slice (some ⟨p.c,p.d+a.off,none⟩) len iz/\(if cap=eP then len<=iz/\a.off+iz*p.sz<=p.room else iz=cap):=by
 constructor
 ·rintro⟨n,h⟩;cases n with
  |zero=>exact h.elim
  |succ n=>exact h
 ·intro h;exact⟨1,h⟩
theorem kO {r:Nat}{v':af}:bg ρ (.map (some r)) v'↔∃p,ρ r=some p/\v'= .map (some p.c):=by
 constructor
 ·rintro⟨n,h⟩;cases n with
  |zero=>exact h.elim
  |succ n=>exact h
 ·intro h;exact⟨1,h⟩
theorem aL {v v':af}(hv:dE v=true):bg ρ v v'↔v'=v:=by
 constructor
 ·rintro⟨n,h⟩;cases n with
  |zero=>exact h.elim
  |succ n=>cases v with
   |pointer a=>cases a<;>simp_all [dE,VR]
   |slice a l c=>cases a<;>simp_all [dE,VR]
   |map a=>cases a<;>simp_all [dE,VR]
   |_=>first |exact h|(simp[dE]at hv)
 ·intro h;refine⟨1,?_⟩;cases v with
  |pointer a=>cases a<;>simp_all [dE,VR]
  |slice a l c=>cases a<;>simp_all [dE,VR]
  |map a=>cases a<;>simp_all [dE,VR]
  |_=>first |exact h|(simp[dE]at hv)
theorem pS {l r:List af}(hl:l.all dE=true)(h:bM (bg ρ) l r):r=l:=by
 induction l generalizing r with
 |nil=>cases r<;>simp_all [bM]
 |cons a l ih=>cases r with
  |nil=>exact h.elim
  |cons b r=>
   simp only[List.all_cons,aj]at hl;rw[(aL hl.1).1 h.1,ih hl.2 h.2]
theorem iY {l:List af}(hl:l.all dE=true):bM (bg ρ) l l:=by
 refine bM.refl fun a ha=>(aL ?_).2 rfl
 exact aV.1 hl a ha
theorem IZ {v v':af}(hv:plain v=true)(h:bg ρ v v'):v'=v:=by
 cases v with
 |agg cs=>
  obtain⟨kW,e,h2⟩:=jl.1 h;have :=pS hv h2;rw[e,Array.ext' this]
 |tuple cs=>
  obtain⟨kW,e,h2⟩:=fE.1 h;have :=pS hv h2;rw[e,Array.ext' this]
 |_=>exact(aL (by exact hv)).1 h
theorem cB {v:af}(hv:plain v=true):bg ρ v v:=by
 cases v with
 |agg cs=>exact jl.2 ⟨cs,rfl,iY hv⟩
 |tuple cs=>exact fE.2 ⟨cs,rfl,iY hv⟩
 |_=>exact(aL (by exact hv)).2 rfl
theorem mA:bg ρ undef undef:=cB rfl
theorem j9:bg ρ (.tuple #[]) (.tuple #[]):=cB rfl
theorem bg.cells{v v':af}(h:bg ρ v v'):bM (bg ρ) v.cells.toList v'.cells.toList:=by
 cases v with
 |agg cs=>obtain⟨kW,e,h2⟩:=jl.1 h;subst e;exact h2
 |tuple cs=>obtain⟨kW,rfl,_⟩:=fE.1 h;exact⟨h,trivial⟩
 |iface t x=>obtain⟨x',rfl,_⟩:=iA.1 h;exact⟨h,trivial⟩
 |func fn f c=>obtain⟨f',c',rfl,_⟩:=gZ.1 h;exact⟨h,trivial⟩
 |pointer a=>cases a with
  |none=>have :=(aL (by rfl)).1 h;subst this;exact⟨h,trivial⟩
  |some a=>obtain⟨p,_,_,rfl⟩:=cW.1 h;exact⟨h,trivial⟩
 |slice a l c=>cases a with
  |none=>have :=(aL (by rfl)).1 h;subst this;exact⟨h,trivial⟩
  |some a=>obtain⟨p,c',_,_,rfl,_⟩:=cA.1 h;exact⟨h,trivial⟩
 |map r=>cases r with
  |none=>have :=(aL (by rfl)).1 h;subst this;exact⟨h,trivial⟩
  |some a=>obtain⟨p,_,rfl⟩:=kO.1 h;exact⟨h,trivial⟩
 |bool b=>have :=(aL (by rfl)).1 h;subst this;exact⟨h,trivial⟩
 |int k n=>have :=(aL (by rfl)).1 h;subst this;exact⟨h,trivial⟩
 |string s=>have :=(aL (by rfl)).1 h;subst this;exact⟨h,trivial⟩
 |nilFunc=>have :=(aL (by rfl)).1 h;subst this;exact⟨h,trivial⟩
 |nilIface=>have :=(aL (by rfl)).1 h;subst this;exact⟨h,trivial⟩
 |float k b=>obtain⟨n,h'⟩:=h;cases n with |zero=>exact h'.elim|succ n=>have e:v'=_:=h';subst e;exact⟨⟨1,rfl⟩,trivial⟩
 |complex k a b=>obtain⟨n,h'⟩:=h;cases n with |zero=>exact h'.elim|succ n=>have e:v'=_:=h';subst e;exact⟨⟨1,rfl⟩,trivial⟩
 |chan r=>obtain⟨n,h'⟩:=h;cases n with |zero=>exact h'.elim|succ n=>have e:v'=_:=h';subst e;exact⟨⟨1,rfl⟩,trivial⟩
theorem bg.LC{v v':af}(h:bg ρ v v')(hv:v.oneCell'=true):v'.oneCell'=true:=by
 cases v with
 |agg cs=>simp[af.oneCell']at hv
 |tuple cs=>simp[af.oneCell']at hv
 |iface t x=>obtain⟨x',rfl,_⟩:=iA.1 h;rfl
 |func fn f c=>obtain⟨f',c',rfl,_⟩:=gZ.1 h;rfl
 |pointer a=>cases a with
  |none=>have :=(aL (by rfl)).1 h;subst this;rfl
  |some a=>obtain⟨p,_,_,rfl⟩:=cW.1 h;rfl
 |slice a l c=>cases a with
  |none=>have :=(aL (by rfl)).1 h;subst this;rfl
  |some a=>obtain⟨p,c',_,_,rfl,_⟩:=cA.1 h;rfl
 |map r=>cases r with
  |none=>have :=(aL (by rfl)).1 h;subst this;rfl
  |some a=>obtain⟨p,_,rfl⟩:=kO.1 h;rfl
 |_=>obtain⟨n,h'⟩:=h;cases n with |zero=>exact h'.elim|succ n=>have e:v'=_:=h';subst e;exact hv
end
end Go.AM
namespace Go.AM
open Go
theorem Ow {α:Type}(d:α)(l:List α)(i:Nat)(v:α)(j:Nat):Bd d (E6 d l i v) j=if i=j then v else Bd d l j:=by
 induction l generalizing i j with
 |nil=>
  induction i generalizing j with
  |zero=>cases j<;>simp[E6,Bd]
  |succ i ih=>cases j with
   |zero=>simp[E6,Bd]
   |succ j=>simp[E6,Bd,ih]
 |cons x l ih=>
  cases i with
  |zero=>cases j<;>simp[E6,Bd]
  |succ i=>cases j<;>simp[E6,Bd,ih]
theorem Ta (n:Hp4)(b:Nat)(k:mn)(b':Nat)(h:b / 4096=b' / 4096):Tc (ZZ n b k) b'=if b=b' then k else Tc n b':=by
 have d (x k:Nat):rz x k=x / k%8:=rfl;have e (x:Nat):Nat.mod x 8=x%8:=rfl;have l (x k:Nat):rz x k<8:=by rw[d];omega
 have l' (x:Nat):Nat.mod x 8<8:=by rw[e];omega
 unfold Tc ZZ;rw[N8.get_put _ _ (l ..) (l ..)]
 by_cases h1:rz b 512=rz b' 512
 ·rw[bL h1,N8.get_put _ _ (l ..) (l ..)]
  by_cases h2:rz b 64=rz b' 64
  ·rw[bL h2,N8.get_put _ _ (l ..) (l ..)]
   by_cases h3:rz b 8=rz b' 8
   ·rw[bL h3,N8.get_put _ _ (l' ..) (l' ..),h1,h2,h3]
    by_cases h4:Nat.mod b 8=Nat.mod b' 8
    ·rw[bL h4,bL (by simp only[d,e]at h1 h2 h3 h4;omega)]
    ·rw[bT h4,bT (by rintro rfl;exact h4 rfl)]
   ·rw[bT h3,bT (by rintro rfl;exact h3 rfl),h1,h2]
  ·rw[bT h2,bT (by rintro rfl;exact h2 rfl),h1]
 ·rw[bT h1,bT (by rintro rfl;exact h1 rfl)]
theorem kZ.get_put(h:kZ)(b:Nat)(k:mn)(b':Nat):(h.put b k).get b'=if b=b' then k else h.get b':=by
 unfold kZ.get kZ.put;rw[Ow]
 by_cases h1:Nat.div b 4096=Nat.div b' 4096
 ·rw[bL h1,Ta _ _ _ _ h1,h1]
 ·rw[bT h1,bT (by rintro rfl;exact h1 rfl)]
theorem Mem.eK(m:Mem)(b:Nat)(k:mn)(b':Nat):(m.bE b k).blk b'=if b=b' then{k with bw:=m.tick}else m.blk b':=kZ.get_put ..
theorem Mem.cD(m:Mem)(k:mn)(b':Nat):(m.alloc k).blk b'=if m.next=b' then{k with bw:=m.tick}else m.blk b':=kZ.get_put ..
section
variable (m:Mem)(b:Nat)(k:mn)
@[simp] theorem Mem.XO:(m.bE b k).next=m.next:=rfl
@[simp] theorem Mem.XM:(m.bE b k).tick=m.tick+1:=rfl
@[simp] theorem Mem.XS:(m.bE b k).base=m.base:=rfl
@[simp] theorem Mem.XP:(m.bE b k).home=m.home:=rfl
@[simp] theorem Mem.UT:(m.bE b k).floor=m.floor:=rfl
@[simp] theorem Mem.Zu:(m.bE b k).opn=m.opn:=rfl
@[simp] theorem Mem.Jj:(m.bE b k).bO=m.bO:=rfl
@[simp] theorem Mem.ac2:(m.bE b k).wg=m.wg:=rfl
@[simp] theorem Mem.XN:(m.bE b k).pend=m.pend:=rfl
@[simp] theorem Mem.XQ:(m.bE b k).deaf=m.deaf:=rfl
@[simp] theorem Mem.acH:(m.alloc k).next=m.next+1:=rfl
@[simp] theorem Mem.acF:(m.alloc k).tick=m.tick+1:=rfl
@[simp] theorem Mem.acK:(m.alloc k).base=m.base:=rfl
@[simp] theorem Mem.acI:(m.alloc k).home=m.home:=rfl
@[simp] theorem Mem.Y7:(m.alloc k).floor=m.floor:=rfl
@[simp] theorem Mem.ac3:(m.alloc k).opn=m.opn:=rfl
@[simp] theorem Mem.ac4:(m.alloc k).bO=m.bO:=rfl
@[simp] theorem Mem.aiV:(m.alloc k).wg=m.wg:=rfl
@[simp] theorem Mem.acG:(m.alloc k).pend=m.pend:=rfl
@[simp] theorem Mem.acJ:(m.alloc k).deaf=m.deaf:=rfl
end
theorem qf {l:List (Option af)}{n:Nat}{vs:List af}(h:gO l n=some vs):vs.length=n/\∀i:Nat,i<n->∃v,l[i]?=some (some v)/\vs[i]?=some v:=by
 induction n generalizing l vs with
 |zero=>
  have :vs=[]:=by cases l<;>simpa[gO]using h.symm
  subst this;exact⟨rfl,fun i hi=>by omega⟩
 |succ n ih=>
  cases l with
  |nil=>simp[gO]at h
  |cons x l=>cases x with
   |none=>simp[gO]at h
   |some v=>
    simp only[gO,ar]at h;obtain⟨r,hr,rfl⟩:=h;obtain⟨h1,h2⟩:=ih hr;refine⟨by simp[h1],fun i hi=>?_⟩;cases i with
    |zero=>exact⟨v,cK,cK⟩
    |succ i=>simpa using h2 i av
theorem lU {l:List (Option af)}{o:Nat}{vs:List af}{l':List (Option af)}(h:eM l o vs=some l'):
  l'.length=l.length/\(∀i:Nat,l'[i]?=if o<=i/\i<o+vs.length then(vs[i-o]?).map some else l[i]?)/\(∀i:Nat,i<vs.length->∃v,l[o+i]?=some (some v)):=by
 induction l generalizing o vs l' with
 |nil=>
  cases vs with
  |nil=>
   simp[eM]at h;subst h;exact⟨rfl,fun i=>by simp,fun i hi=>by simp at hi⟩
  |cons v vs=>cases o<;>simp[eM]at h
 |cons x l ih=>
  cases vs with
  |nil=>
   simp[eM]at h;subst h;refine⟨rfl,fun i=>?_,fun i hi=>by simp at hi⟩;simp;omega
  |cons v vs=>
   cases o with
   |zero=>
    cases x with
    |none=>simp[eM]at h
    |some u=>
     simp only[eM,ar]at h;obtain⟨r,hr,rfl⟩:=h;obtain⟨h1,h2,h3⟩:=ih hr;refine⟨by simp[h1],fun i=>?_,fun i hi=>?_⟩
     ·cases i with
      |zero=>simp
      |succ i=>
       have :=h2 i;simp only[Nat.zero_le,true_and,Nat.zero_add,Nat.sub_zero]at this;simp only[List.getElem?_cons_succ,this,Nat.zero_le,true_and,Nat.zero_add,List.length_cons,Nat.add_lt_add_iff_right,Nat.sub_zero]
     ·cases i with
      |zero=>exact⟨u,cK⟩
      |succ i=>simpa using h3 i (by simpa using hi)
   |succ o=>
    simp only[eM,ar]at h;obtain⟨r,hr,rfl⟩:=h;obtain⟨h1,h2,h3⟩:=ih hr;refine⟨by simp[h1],fun i=>?_,fun i hi=>?_⟩
    ·cases i with
     |zero=>simp
     |succ i=>
      have :=h2 i;have e:(o+1<=i+1/\i+1<o+1+(v::vs).length)=(o<=i/\i<o+(v::vs).length):=propext ⟨fun h=>⟨av,av⟩,fun h=>⟨av,av⟩⟩;simp only[List.getElem?_cons_succ,this,e,Nat.add_sub_add_right]
    ·obtain⟨u,hu⟩:=h3 i hi;exact⟨u,by rw[show o+1+i=(o+i)+1 by omega];simpa using hu⟩
def Mem.cell(m:Mem)(b o:Nat):Option af:=if(m.blk b).kind=1/\bG m.bO b o=false then((m.blk b).cs[o]?).join else none
def Mem.pz(m:Mem)(b o:Nat):Prop:=(m.blk b).kind=1/\bG m.bO b o=false/\(o<(m.blk b).cs.length->∃v,(m.blk b).cs[o]?=some (some v))
def Mem.okW(m:Mem)(b o:Nat):Prop:=m.pz b o/\(m.floor<=b\/bG m.opn b o=true)
theorem Mem.eN{m:Mem}{b o:Nat}{v:af}(h:m.cell b o=some v):m.pz b o:=by
 unfold Mem.cell at h
 split at h
 ·rename_i hk;refine⟨hk.1,hk.2,fun _=>?_⟩;cases hc:(m.blk b).cs[o]? with
  |none=>simp[hc]at h
  |some x=>cases x with
   |none=>simp[hc]at h
   |some u=>exact⟨u,rfl⟩
 ·cases h
theorem wI {l:List Span}{b o n:Nat}(h:meets l b o n=false){i:Nat}(hi:i<n):bG l b (o+i)=false:=by
 unfold meets bG at*;rw[List.any_eq_false]at*;intro s hs;have :=h s hs;intro hc;apply this;simp only[aj]at hc⊢;refine⟨hc.1,?_⟩;cases hx:s.2.2 with
 |none=>rfl
 |some y=>
  have sf:=hc.2;rw[hx]at sf;simp at sf;simp;omega
theorem ei {l:List Span}{b:Nat}(h:aS l b=false)(o:Nat):bG l b o=false:=by
 unfold aS bG at*;rw[List.any_eq_false]at*;intro s hs;have :=h s hs;intro hc;apply this;simp only[aj]at hc⊢;exact hc.1
theorem gK {l:List Span}{b:Nat}(h:aS l b=false)(o n:Nat):meets l b o n=false:=by
 unfold aS meets at*;rw[List.any_eq_false]at*;intro s hs;have :=h s hs;intro hc;apply this;simp only[aj]at hc⊢;exact hc.1
theorem kp {l:List Span}{b:Nat}(h:jC l b=true)(o:Nat):bG l b o=true:=by
 unfold jC bG at*;rw[List.any_eq_true]at*;obtain⟨s,hs,hc⟩:=h;refine⟨s,hs,?_⟩;simp only[aj]at hc⊢;refine⟨hc.1,?_⟩;have :=hc.2;cases hx:s.2.2<;>simp_all
theorem Mem.oZ{m:Mem}{b o n:Nat}{vs:List af}(h:m.dQ b o n=some vs):
  (m.blk b).kind=1/\vs.length=n/\∀i:Nat,i<n->∃v,vs[i]?=some v/\m.cell b (o+i)=some v:=by
 unfold Mem.dQ at h;simp only[]at h
 split at h
 ·rename_i hk;simp only[aj,beq_iff_eq,Bool.not_eq_true']at hk;obtain⟨h1,h2⟩:=qf h;refine⟨hk.1,h1,fun i hi=>?_⟩;obtain⟨v,hv,OF⟩:=h2 i hi;refine⟨v,OF,?_⟩;unfold Mem.cell;rw[bL ⟨hk.1,wI hk.2 hi⟩];rw[List.getElem?_drop]at hv;simp[hv]
 ·cases h
theorem Mem.qm{m:Mem}{b o n:Nat}(h:m.cY b o n=true){i:Nat}(hi:i<n):bG m.bO b (o+i)=false/\(m.floor<=b\/bG m.opn b (o+i)=true):=by
 unfold Mem.cY at h;simp only[aj,Bool.not_eq_true',Bool.or_eq_true,jE]at h;refine⟨wI h.1.1 hi,?_⟩;rcases h.2 with(h2|h2)|h2
 ·exact .inl h2
 ·exact .inr (kp h2 _)
 ·rw[aV]at h2;exact .inr (h2 i (by simpa using hi))
theorem Mem.kS{m:Mem}{b o n:Nat}(h:m.cY b o n=true):m.base<=b:=by
 unfold Mem.cY at h;simp only[aj,jE]at h;exact h.1.2
theorem Mem.lY{m:Mem}{b:Nat}(h:m.gv b=true):aS m.bO b=false/\(m.floor<=b\/jC m.opn b=true):=by
 unfold Mem.gv at h;simp only[aj,Bool.not_eq_true',Bool.or_eq_true,jE]at h;exact⟨h.1.1,h.2⟩
theorem Mem.rH{m:Mem}{b:Nat}(h:m.gv b=true):m.base<=b:=by
 unfold Mem.gv at h;simp only[aj,jE]at h;exact h.1.2
theorem Mem.pQ{m:Mem}{b o:Nat}{vs:List af}{m':Mem}(h:m.dS b o vs=some m'):
  ∃cs,m'=m.bE b {m.blk b with cs:=cs}/\(m.blk b).kind=1/\m.cY b o vs.length=true/\eM (m.blk b).cs o vs=some cs/\∀v∈vs,v.oneCell'=true:=by
 unfold Mem.dS at h;simp only[]at h
 split at h
 ·rename_i hk;simp only[aj,beq_iff_eq]at hk;rw[ar]at h;obtain⟨cs,jB,rfl⟩:=h;exact⟨cs,rfl,hk.1.1,hk.1.2,jB,fun v hv=>aV.1 hk.2 v hv⟩
 ·cases h
end Go.AM
namespace Go.AM
open Go
structure Perm where
 rd:Nat->Nat->Prop
 wr:Nat->Nat->Prop
 ob:Nat->Prop
 deaf:Nat
def E2:Mark->Prop
 | .disable| .enable| .release _| .read _| .write _=>False
 |_=>True
def er {α:Type}(P:aE)(R:Perm)(N:Nat):Sem α->(α->aA->Prop)->aA->Prop
 | .pure a,Q,w=>Q a w
 | .load m a k,Q,w=>∃v,w.cell? a=some v/\R.rd a.block a.off/\er P R N (k v) Q w
 | .store m a v k,Q,w=>v.oneCell'=true/\(∃u,w.cell? a=some u)/\w.frozen? a=false/\R.wr a.block a.off/\er P R N k Q (w.setCell a v)
 | .new o k,Q,w=>er P R N (k w.heap.size) Q {w with heap:=w.heap.push o}
 | .shape r k,Q,w=>er P R N (k (w.shape? r)) Q w
 | .freeze a n k,Q,w=>N<=a.block/\er P R N k Q (w.freeze a n)
 | .frozen a k,Q,w=>er P R N (k (w.frozen? a)) Q w
 | .getObj r k,Q,w=>∃o,w.heap[r]?=some o/\(∀C t f,o≠ .cells C t f)/\o.isChan=false/\R.ob r/\er P R N (k o) Q w
 | .setObj r o k,Q,w=>(∃o',w.heap[r]?=some o'/\∀C t f,o'≠ .cells C t f)/\(∀C t f,o≠ .cells C t f)/\o.isChan=false/\R.ob r/\er P R N k Q {w with heap:=w.heap.setIfInBounds r o}
 | .choose q k,Q,w=>er P R N (k (if q.forced then 0 else q.cut (w.tape w.drawn q))) Q (if q.forced then w else{w with drawn:=w.drawn+1})
 | .sys _ _,_,_=>False
 | .program k,Q,w=>er P R N (k P) Q w
 | .mark m k,Q,w=>E2 m/\er P R N k Q w
 | .halt _,_,_=>False
theorem az {α β:Type}{P:aE}{R:Perm}{N:Nat}(x:Sem α)(f:α->Sem β)(Q:β->aA->Prop)(w:aA):
  er P R N (x>>=f) Q w↔er P R N x (fun a w'=>er P R N (f a) Q w') w:=by
 show er P R N (x.bind f) Q w↔ _
 induction x generalizing w with
 |pure a=>exact Iff.rfl
 |load m a k ih=>simp only[Sem.bind,er,ih]
 |store m a v k ih=>simp only[Sem.bind,er,ih]
 |new o k ih=>simp only[Sem.bind,er,ih]
 |shape r k ih=>simp only[Sem.bind,er,ih]
 |freeze a n k ih=>simp only[Sem.bind,er,ih]
 |frozen a k ih=>simp only[Sem.bind,er,ih]
 |getObj r k ih=>simp only[Sem.bind,er,ih]
 |setObj r o k ih=>simp only[Sem.bind,er,ih]
 |choose q k ih=>simp only[Sem.bind,er,ih]
 |sys c k ih=>simp only[Sem.bind,er]
 |program k ih=>simp only[Sem.bind,er,ih]
 |mark m k ih=>simp only[Sem.bind,er,ih]
 |halt h=>simp only[Sem.bind,er]
theorem Ha {α:Type}{P:aE}{R:Perm}{N:Nat}{x:Sem α}{Q Q':α->aA->Prop}{w:aA}(h:er P R N x Q w)(hq:∀a w,Q a w->Q' a w):er P R N x Q' w:=by
 induction x generalizing w with
 |pure a=>exact hq _ _ h
 |load m a k ih=>obtain⟨v,h1,h2,h3⟩:=h;exact⟨v,h1,h2,ih _ h3⟩
 |store m a v k ih=>exact⟨h.1,h.2.1,h.2.2.1,h.2.2.2.1,ih h.2.2.2.2⟩
 |new o k ih=>exact ih _ h
 |shape r k ih=>exact ih _ h
 |freeze a n k ih=>exact⟨h.1,ih h.2⟩
 |frozen a k ih=>exact ih _ h
 |getObj r k ih=>obtain⟨o,h1,h2,h3,h4,h5⟩:=h;exact⟨o,h1,h2,h3,h4,ih _ h5⟩
 |setObj r o k ih=>exact⟨h.1,h.2.1,h.2.2.1,h.2.2.2.1,ih h.2.2.2.2⟩
 |choose q k ih=>exact ih _ h
 |sys c k ih=>exact h
 |program k ih=>exact ih _ h
 |mark m k ih=>exact⟨h.1,ih h.2⟩
 |halt h'=>exact h
def KN (w:aA)(a:Addr):Option (Nat×Nat):=match w.heap[a.block]? with
 |some (.cells _ _ r)=>some r
 |_=>none
theorem tj {w w':aA}{a:Addr}(h:KN w' a=KN w a):w'.frozen? a=w.frozen? a:=by
 have e:∀w:aA,w.frozen? a=match KN w a with |some (lo,hi)=>decide (lo<=a.off)&&decide (a.off<hi)|none=>false:=by
  intro w;unfold aA.frozen? KN;cases w.heap[a.block]? with
  |none=>rfl
  |some o=>cases o<;>rfl
 rw[e,e,h]
structure sG (R:Perm)(N:Nat)(w w':aA):Prop where
 tape:w'.tape=w.tape
 os:w'.os=w.os
 output:w'.output=w.output
 size:w.heap.size<=w'.heap.size
 shape:∀b,b<N->w'.shape? b=w.shape? b
 cell:∀b o,b<N->¬R.wr b o->w'.cell? ⟨b,o,none⟩=w.cell? ⟨b,o,none⟩
 qA:∀b o,b<N->KN w' ⟨b,o,none⟩=KN w ⟨b,o,none⟩
 obj:∀b,b<N->¬R.ob b->(w.shape? b)=none->w'.heap[b]?=w.heap[b]?
theorem sG.refl(R:Perm)(N:Nat)(w:aA):sG R N w w:=⟨rfl,rfl,rfl,ai _,fun _ _=>rfl,fun _ _ _ _=>rfl,fun _ _ _=>rfl,fun _ _ _ _=>rfl⟩
theorem sG.trans{R:Perm}{N:Nat}{w aR iL:aA}(h:sG R N w aR)(k:sG R N aR iL):sG R N w iL:=
 ⟨k.tape.trans h.tape,k.os.trans h.os,k.output.trans h.output,cM h.size k.size,fun b hb=>(k.shape b hb).trans (h.shape b hb),fun b o hb hw=>(k.cell b o hb hw).trans (h.cell b o hb hw),
  fun b o hb=>(k.qA b o hb).trans (h.qA b o hb),fun b hb ho hs=>(k.obj b hb ho (by rw[h.shape b hb];exact hs)).trans (h.obj b hb ho hs)⟩
def nL (R:Perm)(e:Event):Prop:=
 match e.loc with
 | .cell a=>a.spot=none/\(if e.write then R.wr a.block a.off else R.rd a.block a.off)
 | .obj r=>R.ob r/\e.sync=false
 | .mark m=>E2 m
 |_=>False
theorem qj (w:aA)(a:Addr)(v:af)(b:Nat):(w.setCell a v).shape? b=w.shape? b:=by
 unfold aA.shape? aA.setCell;simp only[Array.getElem?_modify]
 by_cases h:a.block=b
 ·subst h;cases hb:w.heap[a.block]? with
  |none=>simp
  |some o=>cases o with
   |cells c e f=>simp only[if_true,cR];split<;>simp
   |_=>simp
 ·simp[h]
theorem iy (w:aA)(a:Addr)(v:af)(b o:Nat)(ha:a.spot=none):(w.setCell a v).cell? ⟨b,o,none⟩=if a.block=b/\a.off=o/\(w.cell? ⟨b,o,none⟩).isSome then some v else w.cell? ⟨b,o,none⟩:=by
 unfold aA.cell? aA.setCell;simp only[Array.getElem?_modify,ha,Option.isSome_none,bu,if_false]
 by_cases h:a.block=b
 ·subst h;cases hb:w.heap[a.block]? with
  |none=>simp
  |some o'=>cases o' with
   |cells c e f=>
    simp only[if_true,cR,Array.getElem?_setIfInBounds]
    by_cases h2:a.off=o
    ·subst h2
     by_cases h3:a.off<c.size
     ·simp[h3]
     ·simp[h3]
    ·simp[h2]
   |_=>simp
 ·simp[h]
theorem ox (w:aA)(a:Addr)(v:af)(b o:Nat):KN (w.setCell a v) ⟨b,o,none⟩=KN w ⟨b,o,none⟩:=by
 unfold KN aA.setCell;simp only[Array.getElem?_modify]
 by_cases h:a.block=b
 ·subst h;cases hb:w.heap[a.block]? with
  |none=>simp
  |some o'=>cases o'<;>simp
 ·simp[h]
theorem v8 {w:aA}{a:Addr}{v:af}(h:w.cell? a=some v):a.spot=none:=by
 unfold aA.cell? at h
 split at h
 ·split at h
  ·cases h
  ·rename_i h2;simpa using h2
 ·cases h
theorem mF {α:Type}{P:aE}{R:Perm}{N:Nat}{x:Sem α}{Q:α->aA->Prop}{w:aA}(hN:N<=w.heap.size)(h:er P R N x Q w):
  ∃a w',x.run P w= .ok a w'/\Q a w'/\sG R N w w'/\∀es,∃l:List Event,x.events P w es=es++l.toArray/\∀e∈l,nL R e:=by
 induction x generalizing w with
 |pure a=>exact⟨a,w,rfl,h,sG.refl ..,fun es=>⟨[],by simp[Sem.events,Sem.runT,-Sem.runT_eq],cK⟩⟩
 |load m a k ih=>
  obtain⟨v,h1,h2,h3⟩:=h;obtain⟨x,w',hr,hq,hc,he⟩:=ih v hN h3;refine⟨x,w',by simp only[Sem.run,h1];exact hr,hq,hc,fun es=>?_⟩;obtain⟨l,hl,eh⟩:=he (es.push ⟨.cell a,false,m== .atomic⟩);refine⟨⟨.cell a,false,m== .atomic⟩::l,?_,?_⟩
  ·have :(Sem.load m a k).events P w es=(k v).events P w (es.push ⟨.cell a,false,m== .atomic⟩):=by simp only[Sem.events,Sem.runT,h1]
   rw[this,hl];simp
  ·intro e hm;rcases bC.1 hm with rfl|hm
   ·exact⟨v8 h1,h2⟩
   ·exact eh e hm
 |store m a v k ih=>
  obtain⟨h0,⟨u,h1⟩,h2,h3,h4⟩:=h;have hs:=v8 h1;obtain⟨x,w',hr,hq,hc,he⟩:=ih (w:=w.setCell a v) (by simpa[aA.setCell]using hN) h4;have gR:(Sem.store m a v k).run P w=k.run P (w.setCell a v):=by
   cases v<;>first |(simp[af.oneCell']at h0;done)|simp only[Sem.run,h1,h2,bu,if_false]
  have SN:∀es,(Sem.store m a v k).events P w es=k.events P (w.setCell a v) (es.push ⟨.cell a,true,m== .atomic⟩):=by
   intro es;cases v<;>first |(simp[af.oneCell']at h0;done)|simp only[Sem.events,Sem.runT,h1,h2,bu,if_false]
  refine⟨x,w',by rw[gR];exact hr,hq,?_,fun es=>?_⟩
  ·refine sG.trans ?_ hc;refine⟨rfl,rfl,rfl,by simp[aA.setCell],fun b _=>qj ..,fun b o _ hw=>?_,fun b o _=>ox ..,fun b _ _ fQ=>?_⟩
   ·rw[iy _ _ _ _ _ hs,bT];rintro⟨rfl,rfl,_⟩;exact hw h3
   ·have W1:a.block≠b:=by
     rintro rfl;unfold aA.cell? at h1;unfold aA.shape? at fQ
     split at h1
     ·rename_i hh;simp[hh]at fQ
     ·cases h1
    unfold aA.setCell;simp only[Array.getElem?_modify,W1,if_false]
  ·obtain⟨l,hl,eh⟩:=he (es.push ⟨.cell a,true,m== .atomic⟩);refine⟨⟨.cell a,true,m== .atomic⟩::l,by rw[SN,hl];simp,?_⟩;intro e hm;rcases bC.1 hm with rfl|hm
   ·exact⟨hs,h3⟩
   ·exact eh e hm
 |new o k ih=>
  obtain⟨x,w',hr,hq,hc,he⟩:=ih w.heap.size (w:={w with heap:=w.heap.push o}) (by simp;omega) h;refine⟨x,w',hr,hq,sG.trans ?_ hc,he⟩;have cN:∀b,b<N->(w.heap.push o)[b]?=w.heap[b]?:=fun b hb=>by rw[Array.getElem?_push_lt av];simp[bq hb hN]
  refine⟨rfl,rfl,rfl,cK,fun b hb=>?_,fun b o hb _=>?_,fun b o hb=>?_,fun b hb _ _=>cN b hb⟩
  ·unfold aA.shape?;simp only[cN b hb]
  ·unfold aA.cell?;simp only[cN b hb]
  ·unfold KN;simp only[cN b hb]
 |shape r k ih=>exact ih _ hN h
 |freeze a n k ih=>
  obtain⟨h1,h2⟩:=h;obtain⟨x,w',hr,hq,hc,he⟩:=ih (w:=w.freeze a n) (by unfold aA.freeze;split<;>simpa using hN) h2;refine⟨x,w',hr,hq,sG.trans ?_ hc,he⟩;have cN:∀b,b<N->(w.freeze a n).heap[b]?=w.heap[b]?:=fun b hb=>by
   unfold aA.freeze
   split
   ·rfl
   ·simp only[Array.getElem?_modify];rw[bT av]
  have e1:(w.freeze a n).tape=w.tape/\(w.freeze a n).os=w.os/\(w.freeze a n).output=w.output/\w.heap.size<=(w.freeze a n).heap.size:=by
   unfold aA.freeze;split<;>simp
  refine⟨e1.1,e1.2.1,e1.2.2.1,e1.2.2.2,fun b hb=>?_,fun b o hb _=>?_,fun b o hb=>?_,fun b hb _ _=>cN b hb⟩
  ·unfold aA.shape?;simp only[cN b hb]
  ·unfold aA.cell?;simp only[cN b hb]
  ·unfold KN;simp only[cN b hb]
 |frozen a k ih=>exact ih _ hN h
 |getObj r k ih=>
  obtain⟨o,h1,h2,h3,h4,h5⟩:=h;obtain⟨x,w',hr,hq,hc,he⟩:=ih o hN h5;have gR:(Sem.getObj r k).run P w=(k o).run P w:=by
   cases o<;>first |(simp only[Sem.run,h1];done)|exact absurd rfl (h2 _ _ _)
  have SN:∀es,(Sem.getObj r k).events P w es=(k o).events P w (es.push ⟨.obj r,false,o.isChan⟩):=by
   intro es;cases o<;>first |(simp only[Sem.events,Sem.runT,h1];done)|exact absurd rfl (h2 _ _ _)
  refine⟨x,w',by rw[gR];exact hr,hq,hc,fun es=>?_⟩;obtain⟨l,hl,eh⟩:=he (es.push ⟨.obj r,false,o.isChan⟩);refine⟨⟨.obj r,false,o.isChan⟩::l,by rw[SN,hl];simp,?_⟩;intro e hm;rcases bC.1 hm with rfl|hm
  ·exact⟨h4,h3⟩
  ·exact eh e hm
 |setObj r o k ih=>
  obtain⟨⟨o',h1,Up⟩,h2,h3,h4,h5⟩:=h;obtain⟨x,w',hr,hq,hc,he⟩:=ih (w:={w with heap:=w.heap.setIfInBounds r o}) (by simpa using hN) h5;have gR:(Sem.setObj r o k).run P w=k.run P {w with heap:=w.heap.setIfInBounds r o}:=by
   cases o'<;>first |(simp only[Sem.run,h1];done)|exact absurd rfl (Up _ _ _)
  have SN:∀es,(Sem.setObj r o k).events P w es=k.events P {w with heap:=w.heap.setIfInBounds r o} (es.push ⟨.obj r,true,o.isChan⟩):=by
   intro es;cases o'<;>first |(simp only[Sem.events,Sem.runT,h1];done)|exact absurd rfl (Up _ _ _)
  have Sq:r<w.heap.size:=by
   rcases Nat.lt_or_ge r w.heap.size with h|h
   ·exact h
   ·simp[Array.getElem?_eq_none h]at h1
  have dx:∀b,b≠r->(w.heap.setIfInBounds r o)[b]?=w.heap[b]?:=fun b hb=>Array.getElem?_setIfInBounds_ne (Ne.symm hb)
  have heq:(w.heap.setIfInBounds r o)[r]?=some o:=by simp[Sq]
  refine⟨x,w',by rw[gR];exact hr,hq,sG.trans ?_ hc,fun es=>?_⟩
  ·refine⟨rfl,rfl,rfl,cK,fun b hb=>?_,fun b i hb _=>?_,fun b i hb=>?_,fun b hb ho _=>?_⟩
   ·unfold aA.shape?
    by_cases Pt:b=r
    ·subst Pt;simp only[heq,h1];cases o<;>first |exact absurd rfl (h2 _ _ _)|(cases o'<;>first |exact absurd rfl (Up _ _ _)|rfl)
    ·simp only[dx b Pt]
   ·unfold aA.cell?
    by_cases Pt:b=r
    ·subst Pt;simp only[heq,h1];cases o<;>first |exact absurd rfl (h2 _ _ _)|(cases o'<;>first |exact absurd rfl (Up _ _ _)|rfl)
    ·simp only[dx b Pt]
   ·unfold KN
    by_cases Pt:b=r
    ·subst Pt;simp only[heq,h1];cases o<;>first |exact absurd rfl (h2 _ _ _)|(cases o'<;>first |exact absurd rfl (Up _ _ _)|rfl)
    ·simp only[dx b Pt]
   ·exact dx b (by rintro rfl;exact ho h4)
  ·obtain⟨l,hl,eh⟩:=he (es.push ⟨.obj r,true,o.isChan⟩);refine⟨⟨.obj r,true,o.isChan⟩::l,by rw[SN,hl];simp,?_⟩;intro e hm;rcases bC.1 hm with rfl|hm
   ·exact⟨h4,h3⟩
   ·exact eh e hm
 |choose q k ih=>
  obtain⟨x,w',hr,hq,hc,he⟩:=ih _ (w:=if q.forced then w else{w with drawn:=w.drawn+1}) (by split<;>exact hN) h
  by_cases hf:q.forced=true
  ·simp only[hf,if_true]at hr hc he;refine⟨x,w',by simp only[Sem.run,hf,if_true];exact hr,hq,hc,fun es=>?_⟩;obtain⟨l,hl,eh⟩:=he es;exact⟨l,by rw[<-hl];simp only[Sem.events,Sem.runT,hf,if_true],eh⟩
  ·simp only[hf,bu,if_false]at hr hc he;refine⟨x,w',by simp only[Sem.run,hf,bu,if_false];exact hr,hq,sG.trans (aR:={w with drawn:=w.drawn+1}) ⟨rfl,rfl,rfl,ai _,fun _ _=>rfl,fun _ _ _ _=>rfl,fun _ _ _=>rfl,fun _ _ _ _=>rfl⟩ hc,fun es=>?_⟩;obtain⟨l,hl,eh⟩:=he es;exact⟨l,by rw[<-hl];simp only[Sem.events,Sem.runT,hf,bu,if_false],eh⟩
 |sys c k ih=>exact h.elim
 |program k ih=>exact ih _ hN h
 |mark m k ih=>
  obtain⟨h1,h2⟩:=h;obtain⟨x,w',hr,hq,hc,he⟩:=ih hN h2;refine⟨x,w',hr,hq,hc,fun es=>?_⟩;obtain⟨l,hl,eh⟩:=he (es.push ⟨.mark m,false,true⟩);refine⟨⟨.mark m,false,true⟩::l,?_,?_⟩
  ·have :(Sem.mark m k).events P w es=k.events P w (es.push ⟨.mark m,false,true⟩):=by simp only[Sem.events,Sem.runT]
   rw[this,hl];simp
  ·intro e hm;rcases bC.1 hm with rfl|hm
   ·exact h1
   ·exact eh e hm
 |halt h'=>exact h.elim
end Go.AM
namespace Go.AM
open Go
def zW (ρ:dL)(e e':MapEntry):Prop:=bg ρ e.key e'.key/\bg ρ e.val e'.val/\e'.born=e.born
structure fO (ρ:dL)(m:Mem)(w:aA):Prop where
 nj:∀b p,ρ b=some p->b<m.next
 cells:∀b p,ρ b=some p->(m.blk b).kind=1->p.sz=(m.blk b).sz/\(m.blk b).cs.length<=p.room/\∃e n,w.shape? p.c=some (e,n)/\p.d+p.room<=n
 lT:∀b p o v,ρ b=some p->m.cell b o=some v->∃v',w.cell? ⟨p.c,p.d+o,none⟩=some v'/\bg ρ v v'
 thaw:∀b p o,ρ b=some p->o<p.room->(m.blk b).kind=1->m.base<=b->w.frozen? ⟨p.c,p.d+o,none⟩=false
 maps:∀b p,ρ b=some p->(m.blk b).kind=2->m.bU b=true->∃mj,w.heap[p.c]?=some (.map mj (m.blk b).clock)/\bM (zW ρ) (m.blk b).es.toList mj.toList
 lN:∀b p,ρ b=some p->(m.blk b).kind=3->m.bU b=true->p.d=0/\w.heap[p.c]?=some (.stringIter (m.blk b).str (m.blk b).pos)
 sep:∀b b' p p',b≠b'->ρ b=some p->ρ b'=some p'->(m.blk b).kind≠0->(m.blk b').kind≠0->p.c=p'.c->(m.blk b).kind=1/\(m.blk b').kind=1/\(p.room=0\/p'.room=0\/p.d+p.room<=p'.d\/p'.d+p'.room<=p.d)
 rr:∀b p,ρ b=some p->p.c<w.heap.size
 vars:∀b p,ρ b=some p->(m.blk b).kind=1->(m.blk b).pos=1->p.d=0
def aB (ρ:dL)(m:Mem):Perm where
 rd c x:=∃b p,ρ b=some p/\p.c=c/\p.d<=x/\x<p.d+p.room/\m.pz b (x-p.d)
 wr c x:=∃b p,ρ b=some p/\p.c=c/\p.d<=x/\x<p.d+p.room/\m.okW b (x-p.d)
 ob c:=∃b p,ρ b=some p/\p.c=c/\((m.blk b).kind=2\/(m.blk b).kind=3)/\m.bU b=true
 deaf:=m.deaf
theorem lW {ρ:dL}{m:Mem}{c x:Nat}(h:(aB ρ m).wr c x):(aB ρ m).rd c x:=by
 obtain⟨b,p,h1,h2,h3,h4,h5⟩:=h;exact⟨b,p,h1,h2,h3,h4,h5.1⟩
structure bD (R:Perm)(w aR:aA):Prop where
 tape:aR.tape=w.tape
 os:aR.os=w.os
 output:aR.output=w.output
 size:w.heap.size<=aR.heap.size
 shape:∀b,b<w.heap.size->aR.shape? b=w.shape? b
 cell:∀b o,R.rd b o->aR.cell? ⟨b,o,none⟩=w.cell? ⟨b,o,none⟩
 qA:∀b o,b<w.heap.size->KN aR ⟨b,o,none⟩=KN w ⟨b,o,none⟩
 obj:∀b,R.ob b->aR.heap[b]?=w.heap[b]?
theorem bD.refl(R:Perm)(w:aA):bD R w w:=⟨rfl,rfl,rfl,ai _,fun _ _=>rfl,fun _ _ _=>rfl,fun _ _ _=>rfl,fun _ _=>rfl⟩
theorem bD.trans{R:Perm}{w aR iL:aA}(h:bD R w aR)(k:bD R aR iL):bD R w iL:=
 ⟨k.tape.trans h.tape,k.os.trans h.os,k.output.trans h.output,cM h.size k.size,fun b hb=>(k.shape b (bq hb h.size)).trans (h.shape b hb),
  fun b o x=>(k.cell b o x).trans (h.cell b o x),fun b o x=>(k.qA b o (bq x h.size)).trans (h.qA b o x),fun b x=>(k.obj b x).trans (h.obj b x)⟩
theorem bD.at(R:Perm)(w:aA)(d:Nat):bD R w {w with drawn:=d}:=⟨rfl,rfl,rfl,ai _,fun _ _=>rfl,fun _ _ _=>rfl,fun _ _ _=>rfl,fun _ _=>rfl⟩
section
variable {ρ:dL}{m:Mem}{w aR:aA}
theorem jc (h:fO ρ m w){b:Nat}{p:Pl}(hp:ρ b=some p){o:Nat}{v:af}(hc:m.cell b o=some v):o<p.room:=by
 have hk:=(Mem.eN hc).1;obtain⟨_,hl,_⟩:=h.cells b p hp hk;unfold Mem.cell at hc
 split at hc
 ·rcases Nat.lt_or_ge o (m.blk b).cs.length with cN|CI
  ·omega
  ·simp[List.getElem?_eq_none CI]at hc
 ·cases hc
theorem AR (h:fO ρ m w){b:Nat}{p:Pl}(hp:ρ b=some p){o:Nat}{v:af}(hc:m.cell b o=some v):(aB ρ m).rd p.c (p.d+o):=
 ⟨b,p,hp,rfl,av,by have :=jc h hp hc;omega,by rw[Nat.add_sub_cancel_left];exact Mem.eN hc⟩
theorem xF {b:Nat}{p:Pl}(hp:ρ b=some p){o:Nat}(ho:o<p.room)(hw:m.okW b o):(aB ρ m).wr p.c (p.d+o):=
 ⟨b,p,hp,rfl,av,av,by rw[Nat.add_sub_cancel_left];exact hw⟩
theorem fO.keeps(h:fO ρ m w)(k:bD (aB ρ m) w aR):fO ρ m aR where
 nj:=h.nj
 cells b p hp hk:=by
  obtain⟨h1,h2,e,n,h3,h4⟩:=h.cells b p hp hk;exact⟨h1,h2,e,n,by rw[k.shape _ (h.rr b p hp)];exact h3,h4⟩
 lT b p o v hp hc:=by
  obtain⟨v',h1,h2⟩:=h.lT b p o v hp hc;exact⟨v',by rw[k.cell _ _ (AR h hp hc)];exact h1,h2⟩
 thaw b p o hp ho hk hb:=by rw[tj (k.qA _ _ (h.rr b p hp))];exact h.thaw b p o hp ho hk hb
 maps b p hp hk ho:=by
  obtain⟨mj,h1,h2⟩:=h.maps b p hp hk ho;exact⟨mj,by rw[k.obj _ ⟨b,p,hp,rfl,.inl hk,ho⟩];exact h1,h2⟩
 lN b p hp hk ho:=by
  obtain⟨h1,h2⟩:=h.lN b p hp hk ho;exact⟨h1,by rw[k.obj _ ⟨b,p,hp,rfl,.inr hk,ho⟩];exact h2⟩
 sep:=h.sep
 rr b p hp:=bq (h.rr b p hp) k.size
 vars:=h.vars
structure eS (R R':Perm)(N:Nat):Prop where
 rd:∀b o,R'.rd b o->R.rd b o\/N<=b
 wr:∀b o,R'.wr b o->R.wr b o\/N<=b
 ob:∀b,R'.ob b->R.ob b\/N<=b
theorem eS.refl(R:Perm)(N:Nat):eS R R N:=⟨fun _ _=> .inl,fun _ _=> .inl,fun _=> .inl⟩
theorem fO.zd(h:fO ρ m w){b:Nat}{p:Pl}(hp:ρ b=some p){o:Nat}{vs:List af}{n:Nat}(hl:m.dQ b o n=some vs){i:Nat}(hi:i<n):
  ∃v v',vs[i]?=some v/\bg ρ v v'/\w.cell? ⟨p.c,p.d+(o+i),none⟩=some v'/\(aB ρ m).rd p.c (p.d+(o+i)):=by
 obtain⟨_,_,h3⟩:=Mem.oZ hl;obtain⟨v,hv,hc⟩:=h3 i hi;obtain⟨v',h1,h2⟩:=h.lT b p _ v hp hc;exact⟨v,v',hv,h2,h1,AR h hp hc⟩
theorem jw (c d i:Nat):(⟨c,d,none⟩:Addr).add i=⟨c,d+i,none⟩:=by
 unfold Addr.add
 split
 ·rename_i h;subst h;rfl
 ·rfl
theorem AZ {P:aE}{R:Perm}{N:Nat}{a:Addr}{md:Mode}{Q:af->aA->Prop}{v:af}(h:w.cell? a=some v)(hr:R.rd a.block a.off)(hq:Q v w):er P R N (Go.load a md) Q w:=⟨v,h,hr,hq⟩
theorem pU {P:aE}{R:Perm}{N:Nat}{a:Addr}{Q:Array af->aA->Prop}:∀(n i:Nat) (acc:Array af) (vs:List af),
  (∀j:Nat,j<n->∃v,vs[j]?=some v/\w.cell? (a.add (i+j))=some v/\R.rd (a.add (i+j)).block (a.add (i+j)).off)->vs.length=n->Q (acc++vs.toArray) w->er P R N (loadCellsFrom a i n acc) Q w
 |0,i,acc,vs,_,hl,hq=>by
  have :vs=[]:=List.eq_nil_of_length_eq_zero hl;subst this
  show Q acc w
  simpa using hq
 |n+1,i,acc,vs,h,hl,hq=>by
  obtain⟨v,hv,hc,hr⟩:=h 0 av;cases vs with
  |nil=>simp at hl
  |cons x vs=>
   simp at hv;subst hv;simp only[loadCellsFrom];rw[az];refine AZ (by simpa using hc) (by simpa using hr) ?_;refine pU n (i+1) (acc.push x) vs (fun j hj=>?_) (by simpa using hl) (by simpa using hq);obtain⟨u,h1,h2,h3⟩:=h (j+1) av;have e:i+1+j=i+(j+1):=av;rw[e];exact⟨u,by simpa using h1,h2,h3⟩
theorem fO.ql(h:fO ρ m w){P:aE}{N:Nat}{b:Nat}{p:Pl}(hp:ρ b=some p){o n:Nat}{vs:List af}(hl:m.dQ b o n=some vs){Q:Array af->aA->Prop}
  (hq:∀qJ:List af,bM (bg ρ) vs qJ->Q qJ.toArray w):er P (aB ρ m) N (loadCells ⟨p.c,p.d+o,none⟩ n) Q w:=by
 obtain⟨_,hlen,_⟩:=Mem.oZ hl;have hex:∃qJ:List af,qJ.length=n/\∀i:Nat,i<n->∃v v',vs[i]?=some v/\qJ[i]?=some v'/\bg ρ v v'/\w.cell? ⟨p.c,p.d+(o+i),none⟩=some v'/\(aB ρ m).rd p.c (p.d+(o+i)):=by
  refine⟨(List.range n).map fun i=>(w.cell? ⟨p.c,p.d+(o+i),none⟩).getD undef,cK,fun i hi=>?_⟩;obtain⟨v,v',h1,h2,h3,h4⟩:=h.zd hp hl hi;exact⟨v,v',h1,by simp[hi,h3],h2,h3,h4⟩
 obtain⟨qJ,Ae,hv⟩:=hex;unfold loadCells;refine pU n 0 #[] qJ (fun j hj=>?_) Ae ?_
 ·obtain⟨v,v',_,h2,_,h4,h5⟩:=hv j hj;rw[Nat.zero_add,jw];exact⟨v',h2,by rw[Nat.add_assoc];exact h4,by simpa[Nat.add_assoc]using h5⟩
 ·simp only[Array.empty_append];refine hq qJ (bM.EZ (by rw[hlen,Ae]) fun i a b ha hb=>?_);have hi:i<n:=by
   rcases Nat.lt_or_ge i n with h|h
   ·exact h
   ·rw[List.getElem?_eq_none av]at ha;cases ha
  obtain⟨v,v',h1,h2,h3,_⟩:=hv i hi;rw[h1]at ha;rw[h2]at hb;cases ha;cases hb;exact h3
structure zy (w w':aA)(c d:Nat)(vs:List af):Prop where
 tape:w'.tape=w.tape
 drawn:w'.drawn=w.drawn
 os:w'.os=w.os
 output:w'.output=w.output
 size:w'.heap.size=w.heap.size
 others:∀b,b≠c->w'.heap[b]?=w.heap[b]?
 shape:∀b,w'.shape? b=w.shape? b
 cell:∀x,w'.cell? ⟨c,x,none⟩=if d<=x/\x<d+vs.length then vs[x-d]? else w.cell? ⟨c,x,none⟩
 qA:∀b x,w'.frozen? ⟨b,x,none⟩=w.frozen? ⟨b,x,none⟩
theorem zy.BZ{w w':aA}{c d:Nat}{vs:List af}(h:zy w w' c d vs){b:Nat}(hb:b≠c)(x:Nat):w'.cell? ⟨b,x,none⟩=w.cell? ⟨b,x,none⟩:=by
 unfold aA.cell?;simp only[h.others b hb]
theorem Nd (w:aA)(c d:Nat):zy w w c d []:=⟨rfl,rfl,rfl,rfl,rfl,fun _ _=>rfl,fun _=>rfl,fun x=>by simp;omega,fun _ _=>rfl⟩
theorem IX {w w':aA}{c d:Nat}{v:af}{vs:List af}(hc:(w.cell? ⟨c,d,none⟩).isSome=true)(h:zy (w.setCell ⟨c,d,none⟩ v) w' c (d+1) vs):zy w w' c d (v::vs) where
 tape:=h.tape
 drawn:=h.drawn
 os:=h.os
 output:=h.output
 size:=by rw[h.size];simp[aA.setCell]
 others b hb:=by
  rw[h.others b hb];unfold aA.setCell;simp only[Array.getElem?_modify,Ne.symm hb,if_false]
 shape b:=by rw[h.shape,qj]
 cell x:=by
  rw[h.cell,iy _ _ _ _ _ rfl]
  by_cases h1:d+1<=x/\x<d+1+vs.length
  ·rw[bL h1,bL ⟨av,by simp;omega⟩];rw[show x-d=(x-(d+1))+1 by omega];simp
  ·rw[bT h1]
   by_cases h2:d=x
   ·subst h2;rw[bL ⟨rfl,rfl,hc⟩,bL ⟨av,cK⟩];simp
   ·rw[bT (by rintro⟨_,h3,_⟩;exact h2 h3),bT (by simp;omega)]
 qA b x:=by rw[h.qA,tj (ox ..)]
theorem oW {P:aE}{R:Perm}{N:Nat}{c d:Nat}{Q:Unit->aA->Prop}:∀(vs:List af) (i:Nat) (w:aA),(∀v∈vs,v.oneCell'=true)->
  (∀j:Nat,j<vs.length->(w.cell? ⟨c,d+i+j,none⟩).isSome=true/\w.frozen? ⟨c,d+i+j,none⟩=false/\R.wr c (d+i+j))->(∀w',zy w w' c (d+i) vs->Q () w')->er P R N (storeCells ⟨c,d,none⟩ vs i) Q w
 | [],i,w,_,_,hq=>hq w (Nd ..)
 |v::vs,i,w,h1,h,hq=>by
  simp only[storeCells];rw[az];have h0:=h 0 cK;simp only[Nat.add_zero]at h0;obtain⟨u,hu⟩:=qF.1 h0.1
  show er P R N (.store .plain _ v (.pure ())) _ w
  rw[jw];refine⟨h1 v cK,⟨u,hu⟩,h0.2.1,h0.2.2,?_⟩;refine oW vs (i+1) _ (fun x hx=>h1 x (by simp[hx])) (fun j hj=>?_) (fun w' zO=>hq w' ?_)
  ·obtain⟨g1,g2,g3⟩:=h (j+1) (by simp;omega);have e:d+(i+1)+j=d+i+(j+1):=av;rw[e];refine⟨?_,by rw[tj (ox ..)];exact g2,g3⟩;rw[iy _ _ _ _ _ rfl,bT (by rintro⟨_,h3,_⟩;simp at h3)];exact g1
  ·rw[show d+(i+1)=d+i+1 by omega]at zO;exact IX h0.1 zO
theorem fO.wrote(h:fO ρ m w){b:Nat}{p:Pl}(hp:ρ b=some p){o:Nat}{vs qJ:List af}(hv:bM (bg ρ) vs qJ){cs:List (Option af)}(hk:(m.blk b).kind=1)(Bm:eM (m.blk b).cs o vs=some cs)
  {w':aA}(hw:zy w w' p.c (p.d+o) qJ):fO ρ (m.bE b {m.blk b with cs:=cs}) w':=by
 obtain⟨hl,hg,r9⟩:=lU Bm;have hlen:=hv.length;have fx:∀b',(m.bE b {m.blk b with cs:=cs}).blk b'=if b=b' then{m.blk b with cs:=cs,bw:=m.tick}else m.blk b':=fun b'=>Mem.eK ..
 have iR:∀b',((m.bE b {m.blk b with cs:=cs}).blk b').kind=(m.blk b').kind:=fun b'=>by rw[fx];split<;>simp_all
 obtain⟨jJ,Mk,e,n,fQ,hn⟩:=h.cells b p hp hk;refine⟨h.nj,fun b' p' dW fR=>?_,fun b' p' o' v dW hc=>?_,fun b' p' o' dW pG fR gN=>?_,fun b' p' dW fR pG=>?_,fun b' p' dW fR pG=>?_,fun xn xm nA og dx pE zN k₁ k₂ hc=>?_,fun b' p' dW=>by rw[hw.size];exact h.rr b' p' dW,fun b' p' dW fR Ad=>?_⟩
 ·rw[iR]at fR;obtain⟨g1,g2,e',n',g3,g4⟩:=h.cells b' p' dW fR;refine⟨?_,?_,e',n',by rw[hw.shape];exact g3,g4⟩
  ·rw[fx];split
   ·rename_i hb;subst hb;exact g1
   ·exact g1
  ·rw[fx];split
   ·rename_i hb;subst hb;simpa[hl]using g2
   ·exact g2
 ·by_cases hb:b=b'
  ·subst hb;obtain rfl:p=p':=by rw[hp]at dW;exact Option.some.inj dW
   unfold Mem.cell at hc;rw[fx]at hc;simp only[if_true,Mem.Jj]at hc
   split at hc
   ·rename_i hh;rw[hg]at hc
    by_cases pI:o<=o'/\o'<o+vs.length
    ·rw[bL pI]at hc;obtain⟨x,hx⟩:∃x,vs[o'-o]?=some x:=⟨_,List.getElem?_eq_getElem av⟩;simp[hx]at hc;subst hc;obtain⟨y,hy,IG⟩:=hv.get hx;refine⟨y,?_,IG⟩;rw[hw.cell,bL ⟨av,av⟩,show p.d+o'-(p.d+o)=o'-o by omega];exact hy
    ·rw[bT pI]at hc;have DD:m.cell b o'=some v:=by unfold Mem.cell;rw[bL hh];exact hc
     obtain⟨y,hy,IG⟩:=h.lT b p o' v hp DD;refine⟨y,?_,IG⟩;rw[hw.cell,bT av];exact hy
   ·cases hc
  ·have DD:m.cell b' o'=some v:=by
    unfold Mem.cell at hc⊢;rw[fx,bT hb]at hc;exact hc
   obtain⟨y,hy,IG⟩:=h.lT b' p' o' v dW DD;refine⟨y,?_,IG⟩;have fR:=(Mem.eN DD).1;have Dv:=jc h dW DD
   by_cases uw:p'.c=p.c
   ·have :=(h.sep b b' p p' hb hp dW av av uw.symm).2.2;have hvl:o+vs.length<=(m.blk b).cs.length\/vs.length=0:=by
     rcases Nat.eq_zero_or_pos vs.length with h0|h0
     ·exact .inr h0
     ·obtain⟨u,hu⟩:=r9 (vs.length-1) av;rcases Nat.lt_or_ge (o+(vs.length-1)) (m.blk b).cs.length with h1|h1
      ·left;omega
      ·rw[List.getElem?_eq_none h1]at hu;cases hu
    rw[uw,hw.cell,bT av,<-uw];exact hy
   ·rw[hw.BZ uw];exact hy
 ·rw[hw.qA];rw[iR]at fR;exact h.thaw b' p' o' dW pG fR gN
 ·have hb:b≠b':=by rintro rfl;rw[iR]at fR;omega
  have e1:(m.bE b {m.blk b with cs:=cs}).blk b'=m.blk b':=by rw[fx,bT hb]
  rw[iR]at fR;obtain⟨mj,g1,g2⟩:=h.maps b' p' dW fR pG;have dx:p'.c≠p.c:=fun uw=>by have :=(h.sep b b' p p' hb hp dW av av uw.symm).2.1;omega
  exact⟨mj,by rw[hw.others _ dx,e1];exact g1,by rw[e1];exact g2⟩
 ·have hb:b≠b':=by rintro rfl;rw[iR]at fR;omega
  have e1:(m.bE b {m.blk b with cs:=cs}).blk b'=m.blk b':=by rw[fx,bT hb]
  rw[iR]at fR;obtain⟨g1,g2⟩:=h.lN b' p' dW fR pG;have dx:p'.c≠p.c:=fun uw=>by have :=(h.sep b b' p p' hb hp dW av av uw.symm).2.1;omega
  exact⟨g1,by rw[hw.others _ dx,e1];exact g2⟩
 ·rw[iR]at k₁ k₂⊢;rw[iR];exact h.sep xn xm nA og dx pE zN k₁ k₂ hc
 ·rw[iR]at fR;refine h.vars b' p' dW fR ?_;rw[fx]at Ad
  split at Ad
  ·rename_i e;subst e;exact Ad
  ·exact Ad
theorem CA {b:Nat}{o:Nat}{vs:List af}{cs:List (Option af)}(hk:(m.blk b).kind=1)(Bm:eM (m.blk b).cs o vs=some cs)(N:Nat):eS (aB ρ m) (aB ρ (m.bE b {m.blk b with cs:=cs})) N:=by
 obtain⟨hl,hg,r9⟩:=lU Bm;have fx:∀b',(m.bE b {m.blk b with cs:=cs}).blk b'=if b=b' then{m.blk b with cs:=cs,bw:=m.tick}else m.blk b':=fun b'=>Mem.eK ..
 have iR:∀b',((m.bE b {m.blk b with cs:=cs}).blk b').kind=(m.blk b').kind:=fun b'=>by rw[fx];split<;>simp_all
 have hR:∀b' o',(m.bE b {m.blk b with cs:=cs}).pz b' o'->m.pz b' o':=by
  rintro b' o' ⟨g1,g2,g3⟩;refine⟨by rw[<-iR b'];exact g1,g2,fun cN=>?_⟩
  by_cases hb:b=b'
  ·subst hb;have :=g3 (by rw[fx,bL rfl];simpa[hl]using cN);rw[fx,bL rfl]at this;obtain⟨x,hx⟩:=this;rw[hg]at hx
   split at hx
   ·rename_i pI;obtain⟨u,hu⟩:=r9 (o'-o) av;exact⟨u,by rw[show o'=o+(o'-o) by omega];exact hu⟩
   ·exact⟨x,hx⟩
  ·have :=g3 (by rw[fx,bT hb];exact cN);rw[fx,bT hb]at this;exact this
 refine⟨?_,?_,?_⟩
 ·rintro c x ⟨b',p,h1,h2,h3,h4,h5⟩;exact .inl ⟨b',p,h1,h2,h3,h4,hR _ _ h5⟩
 ·rintro c x ⟨b',p,h1,h2,h3,h4,h5,h6⟩;exact .inl ⟨b',p,h1,h2,h3,h4,hR _ _ h5,h6⟩
 ·rintro c ⟨b',p,h1,h2,h3,h4⟩;exact .inl ⟨b',p,h1,h2,by rwa[iR]at h3,h4⟩
end
end Go.AM
namespace Go.AM
open Go
def dL.put(ρ:dL)(b:Nat)(p:Pl):dL:=fun x=>if x=b then some p else ρ x
theorem dL.sZ{ρ:dL}{b:Nat}(h:ρ b=none)(p:Pl):ρ.le (ρ.put b p):=by
 intro x q hq;unfold dL.put;rw[bT (by rintro rfl;rw[h]at hq;cases hq)];exact hq
theorem dL.kR(ρ:dL)(b:Nat)(p:Pl):ρ.put b p b=some p:=by simp[dL.put]
theorem dL.Ju(ρ:dL){b x:Nat}(p:Pl)(h:x≠b):ρ.put b p x=ρ x:=by simp[dL.put,h]
section
variable {ρ:dL}{m:Mem}{w:aA}
theorem fO.DT(h:fO ρ m w){m':Mem}(hn:m.next<=m'.next)(hb:∀b p,ρ b=some p->(m'.blk b)=(m.blk b))(hh:m'.bO=m.bO)(YP:m'.base=m.base)(hhm:m'.home=m.home):fO ρ m' w:=by
 have hc:∀b p o,ρ b=some p->m'.cell b o=m.cell b o:=fun b p o hp=>by unfold Mem.cell;rw[hb b p hp,hh]
 have hO:∀b,m'.bU b=m.bU b:=fun b=>by unfold Mem.bU;rw[hh,hhm]
 refine⟨fun b p hp=>bq (h.nj b p hp) hn,fun b p hp=>?_,fun b p o v hp=>?_,fun b p o hp cN hk sF=>h.thaw b p o hp cN (by rwa[hb b p hp]at hk) (by rwa[YP]at sF),fun b p hp=>?_,fun b p hp=>?_,fun b b' p p' dx hp dW=>?_,h.rr,fun b p hp=>by rw[hb b p hp];exact h.vars b p hp⟩
 ·rw[hb b p hp];exact h.cells b p hp
 ·rw[hc b p o hp];exact h.lT b p o v hp
 ·rw[hb b p hp,hO];exact h.maps b p hp
 ·rw[hb b p hp,hO];exact h.lN b p hp
 ·rw[hb b p hp,hb b' p' dW];exact h.sep b b' p p' dx hp dW
theorem my {m':Mem}(hb:∀b p,ρ b=some p->(m'.blk b)=(m.blk b))(hh:m'.bO=m.bO)(hhm:m'.home=m.home)(hf:m'.floor=m.floor)(ho:m'.opn=m.opn)(N:Nat):eS (aB ρ m) (aB ρ m') N:=by
 have hR:∀b p o,ρ b=some p->m'.pz b o->m.pz b o:=fun b p o hp=>by unfold Mem.pz;rw[hb b p hp,hh];exact id
 have hW:∀b p o,ρ b=some p->m'.okW b o->m.okW b o:=fun b p o hp x=>⟨hR b p o hp x.1,by have :=x.2;rwa[hf,ho]at this⟩
 have hO:∀b,m'.bU b=m.bU b:=fun b=>by unfold Mem.bU;rw[hh,hhm]
 refine⟨?_,?_,?_⟩
 ·rintro c x ⟨b,p,h1,h2,h3,h4,h5⟩;exact .inl ⟨b,p,h1,h2,h3,h4,hR b p _ h1 h5⟩
 ·rintro c x ⟨b,p,h1,h2,h3,h4,h5⟩;exact .inl ⟨b,p,h1,h2,h3,h4,hW b p _ h1 h5⟩
 ·rintro c ⟨b,p,h1,h2,h3,h4⟩;exact .inl ⟨b,p,h1,h2,by rwa[hb b p h1]at h3,by rwa[hO]at h4⟩
theorem qS (h:fO ρ m w):ρ m.next=none:=by
 cases hp:ρ m.next with
 |none=>rfl
 |some p=>exact absurd (h.nj _ _ hp) av
theorem lA (h:fO ρ m w)(k:mn):∀b p,ρ b=some p->((m.alloc k).blk b)=(m.blk b):=by
 intro b p hp;rw[Mem.cD,bT];rintro rfl;rw[qS h]at hp;cases hp
theorem fO.bump(h:fO ρ m w)(k:mn):fO ρ (m.alloc k) w:=h.DT cK (lA h k) rfl rfl rfl
theorem fO.lay(h:fO ρ m w){b:Nat}(hb:ρ b=none)(cN:b<m.next){w':aA}{o:Obj}(Mx:w'.heap=w.heap.push o){p:Pl}(YC:p.c=w.heap.size)
  (yn:(m.blk b).kind=1->p.d=0/\p.sz=(m.blk b).sz/\(m.blk b).cs.length<=p.room/\∃C e fr,o= .cells C e fr/\p.room<=C.size/\(∀x,x<p.room->¬(fr.1<=x/\x<fr.2))/\
   ∀(i:Nat) v,(m.blk b).cs[i]?=some (some v)->∃v',C[i]?=some v'/\bg ρ v v')
  (SF:(m.blk b).kind=2->∃mj,o= .map mj (m.blk b).clock/\bM (zW ρ) (m.blk b).es.toList mj.toList)
  (HQ:(m.blk b).kind=3->p.d=0/\o= .stringIter (m.blk b).str (m.blk b).pos):fO (ρ.put b p) m w':=by
 have hle:=dL.sZ hb p;have hold:∀c,c<w.heap.size->w'.heap[c]?=w.heap[c]?:=fun c hc=>by rw[Mx,Array.getElem?_push_lt hc];simp[hc]
 have vk:w'.heap[w.heap.size]?=some o:=by rw[Mx];simp
 have pf:∀c x,c<w.heap.size->w'.cell? ⟨c,x,none⟩=w.cell? ⟨c,x,none⟩:=fun c x hc=>by unfold aA.cell?;simp only[hold c hc]
 have fQ:∀c,c<w.heap.size->w'.shape? c=w.shape? c:=fun c hc=>by unfold aA.shape?;simp only[hold c hc]
 have Cn:∀c x,c<w.heap.size->w'.frozen? ⟨c,x,none⟩=w.frozen? ⟨c,x,none⟩:=fun c x hc=>by unfold aA.frozen?;simp only[hold c hc]
 have dX:∀b' p',ρ.put b p b'=some p'->(b'=b/\p'=p)\/(b'≠b/\ρ b'=some p'):=by
  intro b' p' dW;unfold dL.put at dW
  split at dW
  ·rename_i e;exact .inl ⟨e,(Option.some.inj dW).symm⟩
  ·rename_i e;exact .inr ⟨e,dW⟩
 refine⟨fun b' p' dW=>?_,fun b' p' dW hk=>?_,fun b' p' x v dW hc=>?_,fun b' p' x dW hx hk sF=>?_,fun b' p' dW hk ho=>?_,fun b' p' dW hk ho=>?_,fun xn xm nA og dx pE zN k₁ k₂ hc=>?_,fun b' p' dW=>?_,fun b' p' dW hk Ad=>?_⟩
 ·rcases dX _ _ dW with⟨rfl,rfl⟩|⟨_,hq⟩
  ·exact cN
  ·exact h.nj _ _ hq
 ·rcases dX _ _ dW with⟨rfl,rfl⟩|⟨_,hq⟩
  ·obtain⟨h0,h1,h2,C,e,fr,rfl,h3,_⟩:=yn hk;exact⟨h1,h2,e,C.size,by unfold aA.shape?;rw[YC,vk],av⟩
  ·obtain⟨h1,h2,e,n,h3,h4⟩:=h.cells _ _ hq hk;exact⟨h1,h2,e,n,by rw[fQ _ (h.rr _ _ hq)];exact h3,h4⟩
 ·rcases dX _ _ dW with⟨rfl,rfl⟩|⟨_,hq⟩
  ·have hk:=(Mem.eN hc).1;obtain⟨h0,_,_,C,e,fr,rfl,_,_,h5⟩:=yn hk;have hx:(m.blk b').cs[x]?=some (some v):=by
    unfold Mem.cell at hc
    split at hc
    ·cases hg:(m.blk b').cs[x]? with
     |none=>simp[hg]at hc
     |some u=>cases u<;>simp[hg]at hc;subst hc;rfl
    ·cases hc
   obtain⟨v',Pn,hr⟩:=h5 x v hx;exact⟨v',by unfold aA.cell?;simp only[YC,vk,h0,Nat.zero_add];simpa using Pn,hr.pC hle⟩
  ·obtain⟨v',h1,h2⟩:=h.lT _ _ _ _ hq hc;exact⟨v',by rw[pf _ _ (h.rr _ _ hq)];exact h1,h2.pC hle⟩
 ·rcases dX _ _ dW with⟨rfl,rfl⟩|⟨_,hq⟩
  ·obtain⟨h0,_,_,C,e,fr,rfl,h3,h4,_⟩:=yn hk;have :=h4 x hx;unfold aA.frozen?;simp only[YC,vk,h0,Nat.zero_add];simpa using this
  ·rw[Cn _ _ (h.rr _ _ hq)];exact h.thaw _ _ _ hq hx hk sF
 ·rcases dX _ _ dW with⟨rfl,rfl⟩|⟨_,hq⟩
  ·obtain⟨mj,rfl,h1⟩:=SF hk;exact⟨mj,by rw[YC,vk],h1.mono fun _ _ x=>⟨x.1.pC hle,x.2.1.pC hle,x.2.2⟩⟩
  ·obtain⟨mj,h1,h2⟩:=h.maps _ _ hq hk ho;exact⟨mj,by rw[hold _ (h.rr _ _ hq)];exact h1,h2.mono fun _ _ x=>⟨x.1.pC hle,x.2.1.pC hle,x.2.2⟩⟩
 ·rcases dX _ _ dW with⟨rfl,rfl⟩|⟨_,hq⟩
  ·obtain⟨h0,rfl⟩:=HQ hk;exact⟨h0,by rw[YC,vk]⟩
  ·obtain⟨h1,h2⟩:=h.lN _ _ hq hk ho;exact⟨h1,by rw[hold _ (h.rr _ _ hq)];exact h2⟩
 ·rcases dX _ _ pE with⟨rfl,rfl⟩|⟨W7,GQ⟩<;>rcases dX _ _ zN with⟨rfl,rfl⟩|⟨W6,GO⟩
  ·exact absurd rfl dx
  ·have :=h.rr _ _ GO;omega
  ·have :=h.rr _ _ GQ;omega
  ·exact h.sep _ _ _ _ dx GQ GO k₁ k₂ hc
 ·rcases dX _ _ dW with⟨rfl,rfl⟩|⟨_,hq⟩
  ·rw[YC,Mx];simp
  ·have :=h.rr _ _ hq;rw[Mx];simp;omega
 ·rcases dX _ _ dW with⟨rfl,rfl⟩|⟨_,hq⟩
  ·exact(yn hk).1
  ·exact h.vars _ _ hq hk Ad
theorem uT {b:Nat}(hb:ρ b=none){p:Pl}{N:Nat}(hp:N<=p.c):eS (aB ρ m) (aB (ρ.put b p) m) N:=by
 have dX:∀b' p',ρ.put b p b'=some p'->(b'=b/\p'=p)\/ρ b'=some p':=by
  intro b' p' dW;unfold dL.put at dW
  split at dW
  ·rename_i e;exact .inl ⟨e,(Option.some.inj dW).symm⟩
  ·exact .inr dW
 refine⟨?_,?_,?_⟩
 ·rintro c x ⟨b',p',h1,rfl,h3⟩;rcases dX _ _ h1 with⟨_,rfl⟩|h1
  ·exact .inr hp
  ·exact .inl ⟨b',p',h1,rfl,h3⟩
 ·rintro c x ⟨b',p',h1,rfl,h3⟩;rcases dX _ _ h1 with⟨_,rfl⟩|h1
  ·exact .inr hp
  ·exact .inl ⟨b',p',h1,rfl,h3⟩
 ·rintro c ⟨b',p',h1,rfl,h3⟩;rcases dX _ _ h1 with⟨_,rfl⟩|h1
  ·exact .inr hp
  ·exact .inl ⟨b',p',h1,rfl,h3⟩
theorem eS.trans{R eX ai0:Perm}{N:Nat}(h:eS R eX N)(k:eS eX ai0 N):eS R ai0 N:=
 ⟨fun b o x=>(k.rd b o x).elim (h.rd b o) .inr,fun b o x=>(k.wr b o x).elim (h.wr b o) .inr,fun b x=>(k.ob b x).elim (h.ob b) .inr⟩
theorem fO.kill(h:fO ρ m w)(b:Nat):fO ρ (m.bE b {}) w:=by
 have fx:∀b',(m.bE b {}).blk b'=if b=b' then{bw:=m.tick}else m.blk b':=fun b'=>Mem.eK ..
 have dx:∀b',((m.bE b {}).blk b').kind≠0->b≠b'/\(m.bE b {}).blk b'=m.blk b':=by
  intro b' hk;rw[fx]at hk⊢
  by_cases hb:b=b'
  ·rw[bL hb]at hk;exact absurd rfl hk
  ·rw[bT hb];exact⟨hb,rfl⟩
 refine⟨h.nj,fun b' p' dW hk=>?_,fun b' p' x v dW hc=>?_,fun b' p' x dW hx hk sF=>?_,fun b' p' dW hk ho=>?_,fun b' p' dW hk ho=>?_,fun xn xm nA og KB pE zN k₁ k₂ hc=>?_,h.rr,fun b' p' dW hk Ad=>?_⟩
 ·obtain⟨_,e⟩:=dx b' av;rw[e]at hk⊢;exact h.cells b' p' dW hk
 ·have hk:=(Mem.eN hc).1;obtain⟨_,e⟩:=dx b' av;refine h.lT b' p' x v dW ?_;unfold Mem.cell at hc⊢;rw[e]at hc;exact hc
 ·obtain⟨_,e⟩:=dx b' av;rw[e]at hk;exact h.thaw b' p' x dW hx hk sF
 ·obtain⟨_,e⟩:=dx b' av;rw[e]at hk⊢;exact h.maps b' p' dW hk ho
 ·obtain⟨_,e⟩:=dx b' av;rw[e]at hk⊢;exact h.lN b' p' dW hk ho
 ·obtain⟨_,W7⟩:=dx xn k₁;obtain⟨_,W6⟩:=dx xm k₂;rw[W7]at k₁⊢;rw[W6]at k₂⊢;exact h.sep xn xm nA og KB pE zN k₁ k₂ hc
 ·obtain⟨_,e⟩:=dx b' av;rw[e]at hk Ad;exact h.vars b' p' dW hk Ad
theorem Gf (b N:Nat):eS (aB ρ m) (aB ρ (m.bE b {})) N:=by
 have fx:∀b',(m.bE b {}).blk b'=if b=b' then{bw:=m.tick}else m.blk b':=fun b'=>Mem.eK ..
 have dx:∀b',((m.bE b {}).blk b').kind≠0->(m.bE b {}).blk b'=m.blk b':=by
  intro b' hk;rw[fx]at hk⊢
  by_cases hb:b=b'
  ·rw[bL hb]at hk;exact absurd rfl hk
  ·rw[bT hb]
 refine⟨?_,?_,?_⟩
 ·rintro c x ⟨b',p,h1,h2,h3,h4,h5⟩;have e:=dx b' (by have :=h5.1;omega);exact .inl ⟨b',p,h1,h2,h3,h4,by unfold Mem.pz at h5⊢;rw[e]at h5;exact h5⟩
 ·rintro c x ⟨b',p,h1,h2,h3,h4,h5⟩;have e:=dx b' (by have :=h5.1.1;omega);exact .inl ⟨b',p,h1,h2,h3,h4,by unfold Mem.okW Mem.pz at h5⊢;rw[e]at h5;exact h5⟩
 ·rintro c ⟨b',p,h1,h2,h3,h4⟩;have e:=dx b' av;exact .inl ⟨b',p,h1,h2,by rwa[e]at h3,h4⟩
structure Left (ρ:dL)(m:Mem)(w:aA)(bH:dL)(m':Mem)(w':aA):Prop where
 le:ρ.le bH
 ku:fO bH m' w'
 within:eS (aB ρ m) (aB bH m') w.heap.size
 old:∀b,b<m.next->bH b=ρ b
theorem Left.refl(h:fO ρ m w):Left ρ m w ρ m w:=⟨ρ.le_refl,h,eS.refl _ _,fun _ _=>rfl⟩
theorem z4 {ρ:dL}{n:Nat}{p:Pl}:∀b,b<n->ρ.put n p b=ρ b:=fun b hb=>dL.Ju _ _ av
theorem oX {P:aE}{R:Perm}{N:Nat}{e:aW}{C:Array af}{Q:Addr->aA->Prop}(hq:Q ⟨w.heap.size,0,none⟩ {w with heap:=w.heap.push (.cells C e)}):er P R N (newRow e C) Q w:=hq
theorem fO.cG(h:fO ρ m w){sz ps:Nat}{vs:List af}{C:Array af}(e:aW)(hlen:vs.length<=C.size)(hv:∀(i:Nat) v,vs[i]?=some v->∃v',C[i]?=some v'/\bg ρ v v'):
  Left ρ m w (ρ.put m.next ⟨w.heap.size,0,C.size,sz⟩) (m.alloc {kind:=1,sz:=sz,cs:=vs.map some,pos:=ps}) {w with heap:=w.heap.push (.cells C e)}:=by
 have hn:=qS h;have kK:(m.alloc {kind:=1,sz:=sz,cs:=vs.map some,pos:=ps}).blk m.next={kind:=1,sz:=sz,cs:=vs.map some,pos:=ps,bw:=m.tick}:=by rw[Mem.cD,bL rfl]
 refine⟨dL.sZ hn _,(h.bump {kind:=1,sz:=sz,cs:=vs.map some,pos:=ps}).lay hn cK (o:= .cells C e) rfl rfl (fun _=>?_) (fun hk=>by rw[kK]at hk;simp at hk) (fun hk=>by rw[kK]at hk;simp at hk),
  (my (lA h _) rfl rfl rfl rfl _).trans (uT hn (ai _)),z4⟩
 rw[kK];refine⟨rfl,rfl,by simpa using hlen,C,e,(0,0),rfl,ai _,fun x _ hx=>by omega,fun i v hi=>?_⟩;rw[List.getElem?_map,ar]at hi;obtain⟨u,hu,hx⟩:=hi;obtain rfl:u=v:=by simpa using hx
 exact hv i u hu
theorem fO.N3(h:fO ρ m w){sz ps:Nat}{vs:List af}{qJ:List af}(e:aW)(hv:bM (bg ρ) vs qJ):
  Left ρ m w (ρ.put m.next ⟨w.heap.size,0,qJ.length,sz⟩) (m.alloc {kind:=1,sz:=sz,cs:=vs.map some,pos:=ps}) {w with heap:=w.heap.push (.cells qJ.toArray e)}:=by
 have :=h.cG (sz:=sz) (ps:=ps) (vs:=vs) (C:=qJ.toArray) e (by simp[hv.length]) (fun i v hi=>by simpa using hv.get hi);simpa using this
theorem fO.Dm(h:fO ρ m w){sz ps:Nat}{G G':Array af}(e:aW)(hv:bM (bg ρ) G.toList G'.toList):
  Left ρ m w (ρ.put m.next ⟨w.heap.size,0,G'.size,sz⟩) (m.alloc {kind:=1,sz:=sz,cs:=G.toList.map some,pos:=ps}) {w with heap:=w.heap.push (.cells G' e)}:=by
 have :=h.cG (sz:=sz) (ps:=ps) (vs:=G.toList) (C:=G') e (by have :=hv.length;simp at this;simp;omega) (fun i v hi=>by simpa using hv.get hi);exact this
end
end Go.AM
namespace Go.AM
open Go
section types
variable {P:aE}{R:Perm}{N:Nat}{w:aA}{t:aW}
theorem AY {α:Type}{a:α}{Q:α->aA->Prop}(h:Q a w):er P R N (pure a) Q w:=h
theorem aK {Q:TypeDesc->aA->Prop}{d:TypeDesc}(h:P.underlying t=some d)(hq:Q d w):er P R N (underlying t) Q w:=by
 unfold underlying;rw[az]
 show er P R N (match P.underlying t with |some d=>pure d|none=>stuck "no such type") Q w
 rw[h];exact hq
theorem ik {Q:TypeInfo->aA->Prop}{d:TypeInfo}(h:P.info? t=some d)(hq:Q d w):er P R N (typeInfo t) Q w:=by
 unfold typeInfo;rw[az]
 show er P R N (match P.info? t with |some d=>pure d|none=>stuck "no such type") Q w
 rw[h];exact hq
theorem Jd {n:Nat}(h:dq P t=some n):∃i,P.info? t=some i/\i.size=n:=by
 unfold dq at h;exact ar.1 h
theorem dP {Q:Nat->aA->Prop}{n:Nat}(h:dq P t=some n)(hq:Q n w):er P R N (sizeOf t) Q w:=by
 obtain⟨i,hi,rfl⟩:=Jd h;unfold sizeOf;rw[az];exact ik hi hq
theorem IT {z:af}(h:jO P t=some z):∃i,P.info? t=some i/\i.zero=some z:=by
 unfold jO at h
 split at h
 ·rename_i i hi
  split at h
  ·rename_i z' hz
   split at h
   ·simp only[ah]at h;subst h;exact⟨i,hi,hz⟩
   ·cases h
  ·cases h
 ·cases h
theorem jX {z:af}(h:jO P t=some z):z.cells.toList.all dE=true/\dq P t=some z.cells.size:=by
 unfold jO at h
 split at h
 ·rename_i i hi
  split at h
  ·rename_i z' hz
   split at h
   ·rename_i hc;simp only[ah]at h;subst h;simp only[aj,beq_iff_eq]at hc;exact⟨hc.1,by unfold dq;rw[hi,hc.2];rfl⟩
   ·cases h
  ·cases h
 ·cases h
theorem fh {Q:af->aA->Prop}{z:af}(h:jO P t=some z)(hq:Q z w):er P R N (zeroValue t) Q w:=by
 obtain⟨i,hi,hz⟩:=IT h;unfold zeroValue;rw[az];refine ik hi ?_;rw[hz];exact hq
theorem tM {Q:Bool->aA->Prop}{b:Bool}(h:mT P t=some b)(hq:Q b w):er P R N (isAgg t) Q w:=by
 unfold mT at h;obtain⟨d,hd,hb⟩:=ar.1 h;unfold isAgg;rw[az];refine aK hd ?_;subst hb;cases d<;>exact hq
end types
section
variable {P:aE}{ρ:dL}{m:Mem}{w:aA}{N:Nat}
theorem zc (h:fO ρ m w){t:aW}{p p' v:af}(hp:bg ρ p p')(hl:kx P t p m=some v){Q:af->aA->Prop}(hq:∀v',bg ρ v v'->Q v' w):
  er P (aB ρ m) N (Instr.loadAt t p') Q w:=by
 unfold kx at hl
 split at hl
 ·rename_i b o;obtain⟨pl,dF,_,rfl⟩:=cW.1 hp;unfold Instr.loadAt loadVar;rw[az]
  show er P (aB ρ m) N (isAgg t>>=fun x=>if x=true then(do let n<-sizeOf t;let cs<-loadCells ⟨pl.c,pl.d+o,none⟩ n;pure (.agg cs))else Go.load ⟨pl.c,pl.d+o,none⟩) Q w
  rw[az]
  split at hl
  ·rename_i ha;obtain⟨n,hn,hl⟩:=ay.1 hl;obtain⟨l,hl2,rfl⟩:=ar.1 hl;refine tM ha ?_;simp only[if_true];rw[az];refine dP hn ?_;rw[az];refine h.ql dF hl2 (fun qJ OF=>?_);exact hq _ (jl.2 ⟨_,rfl,by simpa using OF⟩)
  ·rename_i ha;obtain⟨l,hl,hh⟩:=ay.1 hl;refine tM ha ?_;simp only[bu,if_false];obtain⟨u,v',h1,h2,h3,h4⟩:=h.zd dF hl (show 0<1 by omega);have :u=v:=by
    cases l with
    |nil=>simp at hh
    |cons x l=>simp at hh h1;rw[<-h1,hh]
   subst this;exact AZ h3 h4 (hq _ h2)
  ·cases hl
 ·cases hl
theorem oT (h:fO ρ m w){b:Nat}{pl:Pl}(dF:ρ b=some pl){o:Nat}{vs qJ:List af}{m':Mem}(hs:m.dS b o vs=some m')(hv:bM (bg ρ) vs qJ){Q:Unit->aA->Prop}
  (hq:∀w',Left ρ m w ρ m' w'->w'.drawn=w.drawn->Q () w'):er P (aB ρ m) N (storeCells ⟨pl.c,pl.d+o,none⟩ qJ) Q w:=by
 obtain⟨cs,rfl,hk,HO,Bm,qt⟩:=Mem.pQ hs;obtain⟨_,_,r9⟩:=lU Bm;have hlen:=hv.length;refine oW qJ 0 w (fun v Pn=>?_) (fun j hj=>?_) (fun w' hw=>hq w' ⟨ρ.le_refl,h.wrote dF hv hk Bm (by simpa using hw),CA hk Bm _,fun _ _=>rfl⟩ hw.drawn)
 ·obtain⟨i,hi⟩:=List.mem_iff_getElem?.1 Pn;obtain⟨u,hu,hr⟩:=hv.get' hi;exact hr.LC (qt u (List.mem_of_getElem? hu))
 ·rw[Nat.add_zero,Nat.add_assoc];obtain⟨u,hu⟩:=r9 j av;obtain⟨hh,hf⟩:=Mem.qm HO (i:=j) av;have hc:m.cell b (o+j)=some u:=by unfold Mem.cell;rw[bL ⟨hk,hh⟩,hu];rfl
  obtain⟨u',Sk,_⟩:=h.lT b pl _ u dF hc;have hr:=jc h dF hc;have hw:m.okW b (o+j):=⟨Mem.eN hc,hf⟩;exact⟨by rw[Sk];rfl,h.thaw b pl _ dF hr hk (Mem.kS HO),xF dF hr hw⟩
theorem Eu (h:fO ρ m w){t:aW}{p p' x x':af}{m':Mem}(hp:bg ρ p p')(hx:bg ρ x x')(hs:uW P t p x m=some m'){Q:Unit->aA->Prop}(hq:∀w',Left ρ m w ρ m' w'->Q () w'):
  er P (aB ρ m) N (Instr.storeAt t p' x') Q w:=by
 unfold uW at hs
 split at hs
 ·rename_i b o;obtain⟨pl,dF,_,rfl⟩:=cW.1 hp
  split at hs
  ·rename_i jJ;have hc:=hx.cells;have hl:=hc.length;simp only[Array.length_toList]at hl;unfold Instr.storeAt storeVar;rw[az]
   show er P (aB ρ m) N (sizeOf t>>=fun n=>if x'.cells.size≠n then(do stuck "storeVar: the value has not the size of the variable";storeCells ⟨pl.c,pl.d+o,none⟩ x'.cells.toList)else(do pure PUnit.unit;storeCells ⟨pl.c,pl.d+o,none⟩ x'.cells.toList)) Q w
   rw[az];refine dP jJ ?_;rw[bT (by simpa using hl.symm)];exact oT h dF hs hc fun w' hw _=>hq w' hw
  ·cases hs
 ·cases hs
theorem A2 (h:fO ρ m w){t:aW}{v v':af}(hv:bM (bg ρ) v.cells.toList v'.cells.toList){sz ps:Nat}{Q:Addr->aA->Prop}
  (hq:∀w' bH,Left ρ m w bH (m.alloc {kind:=1,sz:=sz,cs:=v.cells.toList.map some,pos:=ps}) w'->bg bH (ptrTo m.next 0) (.pointer (some ⟨w.heap.size,0,none⟩))->Q ⟨w.heap.size,0,none⟩ w'):
  er P (aB ρ m) N (newVar t v') Q w:=by
 unfold newVar;refine oX ?_;have :=h.N3 (sz:=sz) (ps:=ps) (vs:=v.cells.toList) t hv;refine hq _ _ (by simpa using this) (cW.2 ⟨_,dL.kR ..,rfl,rfl⟩)
theorem yv {s:aW}{p p' v:af}{f:Nat}(hp:bg ρ p p')(hf:rM P s p f=some v){Q:af->aA->Prop}{R:Perm}(hq:∀v',bg ρ v v'->Q v' w):er P R N (Instr.fieldAt s p' f) Q w:=by
 unfold rM at hf
 split at hf
 ·rename_i fields b o hu
  split at hf
  ·rename_i fd hfd
   split at hf
   ·rename_i k hk;simp only[ah]at hf;subst hf;obtain⟨pl,dF,_,rfl⟩:=cW.1 hp;unfold Instr.fieldAt;rw[az];refine aK hu ?_
    show er P R N (match fields[f]? with |some f=>(do let a<-Instr.sureAddr (.pointer (some ⟨pl.c,pl.d+o,none⟩));pure (.pointer (some (<-fieldPlace a f))))|_=>stuck "fieldAddr: no such field") Q w
    rw[hfd]
    show er P R N (do let a<-(pure (some (<-fieldPlace ⟨pl.c,pl.d+o,none⟩ fd)));pure (.pointer a)) Q w
    unfold fieldPlace;simp only[bind_assoc,pure_bind];rw[az];refine dP hk ?_;rw[bT av];simp only[pure_bind];rw[jw,Nat.add_assoc];exact hq _ (cW.2 ⟨pl,dF,rfl,rfl⟩)
   ·cases hf
  ·cases hf
 ·cases hf
theorem yf {t:aW}{x x' i i' v:af}(hx:bg ρ x x')(hi:bg ρ i i')(hf:pd P t x i=some v){Q:af->aA->Prop}{R:Perm}(hq:∀v',bg ρ v v'->Q v' w):er P R N (Instr.indexAt t x' i') Q w:=by
 unfold pd at hf
 split at hf
 ·rename_i e b o len cap k n hu;obtain⟨pl,iz,dF,_,rfl,_⟩:=cA.1 hx;obtain rfl:=(aL (by rfl)).1 hi
  split at hf
  ·rename_i hb;obtain⟨s,hs,rfl⟩:=ar.1 hf;unfold Instr.indexAt;simp only[asIntOf,pure_bind];rw[az];refine aK hu ?_;simp only[pure_bind];rw[az];refine aK hu ?_;simp only[bL hb];rw[az];refine dP hs ?_;rw[jw,Nat.add_assoc];exact hq _ (cW.2 ⟨pl,dF,rfl,rfl⟩)
  ·cases hf
 ·rename_i len e b o k n hu;obtain⟨pl,dF,_,rfl⟩:=cW.1 hx;obtain rfl:=(aL (by rfl)).1 hi
  split at hf
  ·rename_i hb;obtain⟨s,hs,rfl⟩:=ar.1 hf;unfold Instr.indexAt;simp only[asIntOf,pure_bind];rw[az];refine aK hu ?_;simp only[Instr.sureAddr,pure_bind];rw[az];refine aK hu ?_;simp only[bL hb];rw[az];refine dP hs ?_;rw[jw,Nat.add_assoc];exact hq _ (cW.2 ⟨pl,dF,rfl,rfl⟩)
  ·cases hf
 ·cases hf
theorem yW {t:aW}{cs kW:Array af}{off:Nat}{v:af}(hc:bM (bg ρ) cs.toList kW.toList)(hf:LA P t cs off=some v){Q:af->aA->Prop}{R:Perm}(hq:∀v',bg ρ v v'->Q v' w):er P R N (part t kW off) Q w:=by
 unfold LA at hf;unfold part;rw[az]
 split at hf
 ·rename_i ha;obtain⟨n,hn,rfl⟩:=ar.1 hf;refine tM ha ?_;simp only[if_true];rw[az];refine dP hn ?_;refine hq _ (jl.2 ⟨_,rfl,?_⟩);simp only[Array.toList_extract,List.extract_eq_take_drop];exact(hc.drop off).take _
 ·rename_i ha;refine tM ha ?_;simp only[bu,if_false];obtain⟨v',h1,h2⟩:=hc.get (i:=off) (by simpa using hf);rw[show kW[off]?=some v' by simpa using h1];exact hq _ h2
 ·cases hf
theorem FA {s:aW}{x x' v:af}{f:Nat}(hx:bg ρ x x')(hf:FB P s x f=some v){Q:af->aA->Prop}{R:Perm}(hq:∀v',bg ρ v v'->Q v' w):er P R N (Instr.field s x' f) Q w:=by
 unfold FB at hf
 split at hf
 ·rename_i fields cs hu;obtain⟨fd,hfd,KF⟩:=ay.1 hf;obtain⟨kW,rfl,hc⟩:=jl.1 hx;unfold Instr.field;rw[az];refine aK hu ?_;simp only[hfd,asAgg,pure_bind];exact yW hc KF hq
 ·cases hf
theorem Fi {t:aW}{x x' i i' v:af}(hx:bg ρ x x')(hi:bg ρ i i')(hf:vh P t x i=some v){Q:af->aA->Prop}{R:Perm}(hq:∀v',bg ρ v v'->Q v' w):er P R N (Instr.index t x' i') Q w:=by
 unfold vh at hf
 split at hf
 ·rename_i len e cs k n hu;obtain⟨kW,rfl,hc⟩:=jl.1 hx;obtain rfl:=(aL (by rfl)).1 hi
  split at hf
  ·rename_i hb;obtain⟨s,hs,KF⟩:=ay.1 hf;unfold Instr.index;simp only[asIntOf,pure_bind];rw[az];refine aK hu ?_;simp only[bL hb];rw[az];refine dP hs ?_;exact yW hc KF hq
  ·cases hf
 ·cases hf
theorem vA {v:af}{d y h:Nat}{code:BoundsCode}(hb:kL (some v) d=some h)(hy:h<=y){Q:Nat->aA->Prop}{R:Perm}(hq:Q h w):er P R N (Instr.sliceBound v y code) Q w:=by
 unfold kL at hb
 split at hb
 ·rename_i e;cases e
 ·rename_i k n e;cases e
  split at hb
  ·simp only[ah]at hb;subst hb;simp only[Instr.sliceBound,asIntOf,pure_bind];rw[bL ⟨fP,av⟩];exact hq
  ·cases hb
 ·cases hb
theorem tx {d h:Nat}(hb:kL none d=some h):h=d:=by simpa[kL]using hb.symm
theorem lj {isS:Bool}{len cap l h:Nat}{lo hi:Option af}(hl:kL lo 0=some l)(hh:kL hi len=some h)(hlh:l<=h)(hc:h<=cap){Q:Nat×Nat×Nat->aA->Prop}{R:Perm}(hq:Q (l,h,cap) w):
  er P R N (Instr.sliceBounds isS len cap lo hi none) Q w:=by
 unfold Instr.sliceBounds;simp only[pure_bind];cases hi with
 |none=>
  obtain rfl:=tx hh;cases lo with
  |none=>obtain rfl:=tx hl;exact hq
  |some v=>
   simp only[];rw[az];exact vA hl hlh hq
 |some u=>
  simp only[];rw[az];refine vA hh hc ?_;cases lo with
  |none=>obtain rfl:=tx hl;exact hq
  |some v=>
   simp only[];rw[az];exact vA hl hlh hq
def FX (ρ:dL):Option af->Option af->Prop
 |none,none=>True
 |some a,some b=>bg ρ a b
 |_,_=>False
theorem qK {v:Option af}{v':Option af}(h:FX ρ v v'){d n:Nat}(hb:kL v d=some n):v'=v:=by
 unfold kL at hb
 split at hb
 ·cases v' with
  |none=>rfl
  |some b=>exact h.elim
 ·cases v' with
  |none=>exact h.elim
  |some b=>rw[(aL (by rfl)).1 h]
 ·cases hb
theorem EB (abp:fO ρ m w){t:aW}{x x' v:af}{lo hi lo' HR:Option af}(hx:bg ρ x x')(l7:FX ρ lo lo')(hhi:FX ρ hi HR)(hf:jH P t x lo hi m=some v)
  {Q:af->aA->Prop}{R:Perm}(hq:∀v',bg ρ v v'->Q v' w):er P R N (Instr.sliceAt t x' lo' HR none) Q w:=by
 unfold jH at hf
 split at hf
 ·rename_i e b o len cap hu
  split at hf
  ·rename_i l h s hl hh hs;obtain rfl:=qK l7 hl;obtain rfl:=qK hhi hh;obtain⟨pl,iz,dF,_,rfl,nI⟩:=cA.1 hx;unfold Instr.sliceAt;rw[az];refine aK hu ?_;simp only[Instr.slice];rw[az];refine aK hu ?_;simp only[];rw[az]
   split at hf
   ·rename_i hc;rw[bL hc]at nI
    split at hf
    ·rename_i hb;simp only[ah]at hf;subst hf;refine lj hl hh hb.1 av ?_;simp only[];rw[az];refine dP hs ?_;refine hq _ (cA.2 ⟨pl,iz-l,dF,rfl,?_,?_⟩)
     ·congr 1
      rcases hb.2.2 with h0|h0
      ·subst h0;split<;>simp[jw]
      ·rw[bT av];simp only[cR,jw,Nat.add_assoc]
     ·rw[bL rfl];refine⟨av,?_⟩;rcases hb.2.2 with h0|⟨h0,h1,h2⟩
      ·subst h0;simp;exact nI.2
      ·obtain⟨jJ,_⟩:=abp.cells b pl dF h1;have e2:pl.sz=s:=by rw[jJ,h2]
       rw[e2]at nI⊢;have :l*s+(iz-l)*s=iz*s:=by rw[<-Nat.add_mul];congr 1;omega
       simp only[];have h3:=nI.2;simp only at h3;omega
    ·cases hf
   ·rename_i hc;rw[bT hc]at nI;subst nI
    split at hf
    ·rename_i hb;simp only[ah]at hf;subst hf;refine lj hl hh hb.2.1 hb.2.2 ?_;simp only[];rw[az];refine dP hs ?_
     by_cases h0:iz=l
     ·simp only[h0,if_true];exact hq _ (by rw[bL h0];exact cA.2 ⟨pl,l-l,dF,rfl,rfl,by rw[bT (by unfold eP;omega)];omega⟩)
     ·simp only[h0,if_false,cR,jw,Nat.add_assoc];exact hq _ (by rw[bT h0];exact cA.2 ⟨pl,iz-l,dF,rfl,rfl,by rw[bT (by have :=hb.1;omega)]⟩)
    ·cases hf
  ·cases hf
 ·rename_i e len cap hu
  split at hf
  ·rename_i l h s hl hh hs;obtain rfl:=qK l7 hl;obtain rfl:=qK hhi hh;obtain rfl:=(aL (by rfl)).1 hx
   split at hf
   ·rename_i hb;simp only[ah]at hf;subst hf;unfold Instr.sliceAt;rw[az];refine aK hu ?_;simp only[Instr.slice];rw[az];refine aK hu ?_;simp only[];rw[az];refine lj hl hh hb.2.1 hb.2.2 ?_;simp only[];rw[az];refine dP hs ?_;have e1:(if cap=l then(none:Option Addr)else Option.map (fun x:Addr=>x.add (l*s)) none)=none:=by split<;>rfl
    rw[e1];exact hq _ ((aL (by rfl)).2 rfl)
   ·cases hf
  ·cases hf
 ·rename_i n e b o hu
  split at hf
  ·rename_i l h s hl hh hs;obtain rfl:=qK l7 hl;obtain rfl:=qK hhi hh;obtain⟨pl,dF,_,rfl⟩:=cW.1 hx
   split at hf
   ·rename_i hb;simp only[ah]at hf;subst hf;unfold Instr.sliceAt;rw[az];refine aK hu ?_;simp only[Instr.sureAddr,pure_bind];rw[az];refine lj hl hh hb.2.1 hb.2.2 ?_;simp only[];rw[az];refine dP hs ?_
    by_cases h0:n=l
    ·simp only[h0,if_true];exact hq _ (by rw[bL h0];exact cA.2 ⟨pl,n-l,dF,rfl,by rw[h0],by rw[bT (by have :=hb.1;omega)]⟩)
    ·simp only[h0,if_false,jw,Nat.add_assoc];exact hq _ (by rw[bT h0];exact cA.2 ⟨pl,n-l,dF,rfl,rfl,by rw[bT (by have :=hb.1;omega)]⟩)
   ·cases hf
  ·cases hf
 ·cases hf
end
end Go.AM
namespace Go.AM
open Go
section
variable {P:aE}{ρ:dL}{m:Mem}{w:aA}{N:Nat}
theorem CN {l l':List af}(h:bM (bg ρ) l l')(off:Nat):∀{cs kW:Array af} (j:Nat),bM (bg ρ) cs.toList kW.toList->
  bM (bg ρ) ((l.zipIdx j).foldl (fun cs (x:af×Nat)=>cs.setIfInBounds (off+x.2) x.1) cs).toList ((l'.zipIdx j).foldl (fun cs (x:af×Nat)=>cs.setIfInBounds (off+x.2) x.1) kW).toList:=by
 induction l generalizing l' with
 |nil=>intro cs kW j hc;cases l' with
  |nil=>exact hc
  |cons _ _=>exact h.elim
 |cons a l ih=>
  intro cs kW j hc;cases l' with
  |nil=>exact h.elim
  |cons b l'=>
   simp only[List.zipIdx_cons,List.foldl_cons];refine ih h.2 (j+1) ?_;simp only[Array.toList_setIfInBounds];exact hc.set h.1 _
theorem vO (cs v:Array af)(off:Nat):(v.zipIdx.foldl (fun(cs:Array af) (x:af×Nat)=>cs.setIfInBounds (off+x.2) x.1) cs)=(v.toList.zipIdx.foldl (fun cs (x:af×Nat)=>cs.setIfInBounds (off+x.2) x.1) cs):=by
 rw[<-Array.foldl_toList,Array.toList_zipIdx]
theorem w7 {place:Nat->Option (Nat×Nat)}:∀{parts u4:List (Nat×af)} {cs kW r:Array af},bM (fun a b=>b.1=a.1/\bg ρ a.2 b.2) parts u4->bM (bg ρ) cs.toList kW.toList->
  Instr.fill place cs parts=some r->∃r',Instr.fill place kW u4=some r'/\bM (bg ρ) r.toList r'.toList:=by
 intro parts
 induction parts with
 |nil=>
  intro u4 cs kW r hp hc h;cases u4 with
  |cons _ _=>exact hp.elim
  |nil=>
   simp only[Instr.fill,ah]at h⊢;subst h;exact⟨_,rfl,hc⟩
 |cons x parts ih=>
  intro u4 cs kW r hp hc h;cases u4 with
  |nil=>exact hp.elim
  |cons y u4=>
   obtain⟨i,v⟩:=x;obtain⟨i',v'⟩:=y;obtain⟨⟨rfl,hv⟩,hp⟩:=hp;simp only[Instr.fill]at h⊢;cases dF:place i' with
   |none=>rw[dF]at h;cases h
   |some q=>
    obtain⟨off,size⟩:=q;rw[dF]at h;simp only[]at h⊢;have Bv:=hv.cells;have e1:v'.cells.size=v.cells.size:=by simpa using Bv.length.symm
    have e2:kW.size=cs.size:=by simpa using hc.length.symm
    rw[e1,e2]
    split at h
    ·cases h
    ·rename_i SR;rw[bT SR];refine ih hp ?_ h;rw[vO,vO];exact CN Bv off 0 hc
theorem xE {t:aW}{z:af}(h:jO P t=some z):bM (bg ρ) z.cells.toList z.cells.toList:=iY (jX h).1
theorem th {l:Array af}(h:l.toList.all dE=true)(i:Nat):dE (l[i]!)=true:=by
 by_cases hi:i<l.size
 ·rw[getElem!_pos l i hi];exact aV.1 h _ cK
 ·rw[getElem!_neg l i hi];rfl
theorem tK {t:aW}{z:af}(h:jO P t=some z)(n:Nat):bM (bg ρ) ((Array.range n).map (z.cells[·%z.cells.size]!)).toList ((Array.range n).map (z.cells[·%z.cells.size]!)).toList:=by
 refine iY ?_;rw[aV];intro x hx;simp only[Array.toList_map,List.mem_map]at hx;obtain⟨i,_,rfl⟩:=hx;exact th (jX h).1 _
theorem FO {t:aW}{ps:List (Nat×af)}{ps':Array (Nat×af)}{v:af}(hp:bM (fun a b=>b.1=a.1/\bg ρ a.2 b.2) ps ps'.toList)(hb:fH P t ps=some v)
  {Q:af->aA->Prop}{R:Perm}(hq:∀v',bg ρ v v'->Q v' w):er P R N (Instr.build t ps') Q w:=by
 unfold fH at hb
 split at hb
 ·rename_i z fields F7 hu
  split at hb
  ·rename_i places dF;obtain⟨r,hr,rfl⟩:=ar.1 hb;obtain⟨r',Dv,yj⟩:=w7 hp (xE F7) hr;unfold Instr.build;rw[az];refine fh F7 ?_;simp only[];rw[az];refine aK hu ?_;simp only[];rw[az];have key:∀(l:List Field) (pl:List (Nat×Nat)) (Q:List (Nat×Nat)->aA->Prop),l.mapM (m:=Option) (fun f=>(dq P f.type).map fun n=>(f.offset,n))=some pl->Q pl w->
     er P R N (l.mapM (m:=Sem) fun f=>do pure (f.offset,<-sizeOf f.type)) Q w:=by
    intro l
    induction l with
    |nil=>intro pl Q h hq;simp at h;subst h;simpa using AY hq
    |cons f l ih=>
     intro pl Q h hq;rw[List.mapM_cons]at h⊢;simp only[Option.bind_eq_bind,ay,ar,Option.pure_def,ah]at h;obtain⟨x,⟨n,hn,rfl⟩,ys,hys,rfl⟩:=h;simp only[bind_assoc,pure_bind];rw[az];refine dP hn ?_;rw[az];exact ih ys _ hys (AY hq)
   rw[Array.mapM_eq_mapM_toList]at dF⊢;simp only[Option.map_eq_map,ar]at dF;obtain⟨pl,dF,rfl⟩:=dF;rw[<-bind_pure_comp,az];refine key fields.toList pl _ dF ?_
   show er P R N (pure pl.toArray) _ w
   refine AY ?_;simp only[Dv];exact hq _ (jl.2 ⟨_,rfl,yj⟩)
  ·cases hb
 ·rename_i z n e F7 hu;obtain⟨s,hs,iW⟩:=ay.1 hb;obtain⟨r,hr,rfl⟩:=ar.1 iW;obtain⟨r',Dv,yj⟩:=w7 hp (xE F7) hr;unfold Instr.build;rw[az];refine fh F7 ?_;simp only[];rw[az];refine aK hu ?_;simp only[];rw[az];refine dP hs ?_;simp only[Dv];exact hq _ (jl.2 ⟨_,rfl,yj⟩)
 ·cases hb
theorem xo (h:fO ρ m w){t:aW}{n:Nat}{ps:List (Nat×af)}{ps':Array (Nat×af)}{v:af}{m':Mem}(hp:bM (fun a b=>b.1=a.1/\bg ρ a.2 b.2) ps ps'.toList)
  (hb:ao P t n ps m=some (v,m')){Q:af->aA->Prop}{R:Perm}(hq:∀v' w' bH,Left ρ m w bH m' w'->bg bH v v'->Q v' w'):er P R N (Instr.buildSlice t n ps') Q w:=by
 unfold ao at hb
 split at hb
 ·rename_i e hu
  split at hb
  ·rename_i size z hs F7
   split at hb
   ·cases hb
   ·rename_i jJ;obtain⟨r,hr,iW⟩:=ar.1 hb;simp only[aC]at iW;obtain⟨rfl,rfl⟩:=iW;obtain⟨r',Dv,yj⟩:=w7 hp (tK F7 _) hr;unfold Instr.buildSlice;rw[az];refine aK hu ?_;simp only[];rw[az];refine dP hs ?_;rw[bT av];have fin:er P R N (do
      let a<-newRow e r'
      pure (.slice (some a) n n)) Q w:=by
     rw[az];refine oX ?_;have hL:=h.Dm (sz:=size) (ps:=0) (G:=r) (G':=r') e yj;refine hq _ _ _ hL (cA.2 ⟨_,n,dL.kR ..,rfl,rfl,?_⟩);rw[bT av]
    by_cases h0:n*size=0
    ·rw[bL h0];have e0:(Array.range (n*size)).map (fun x=>(#[]:Array af)[x%(#[]:Array af).size]!)=(Array.range (n*size)).map (fun x=>z.cells[x%z.cells.size]!):=by rw[h0];simp
     show er P R N (match Instr.fill (fun i=>some (i*size,size)) ((Array.range (n*size)).map (fun x=>(#[]:Array af)[x%(#[]:Array af).size]!)) ps'.toList with
      |some cells=>(do let a<-newRow e cells;pure (.slice (some a) n n))
      |_=>stuck "buildSlice: a part of the wrong size") Q w
     rw[e0,Dv];exact fin
    ·rw[bT h0];simp only[bind_assoc,pure_bind];rw[az];refine fh F7 ?_;simp only[Dv];exact fin
  ·cases hb
 ·cases hb
theorem xW (h:fO ρ m w){t:aW}{l l' c c' v:af}{m':Mem}(hl:bg ρ l l')(hc:bg ρ c c')(hb:gh P t l c m=some (v,m')){Q:af->aA->Prop}{R:Perm}
  (hq:∀v' w' bH,Left ρ m w bH m' w'->bg bH v v'->Q v' w'):er P R N (Instr.makeSlice t l' c') Q w:=by
 unfold gh at hb
 split at hb
 ·rename_i e l c hu;obtain rfl:=(aL (by rfl)).1 hl;obtain rfl:=(aL (by rfl)).1 hc
  split at hb
  ·rename_i i z hi hz
   split at hb
   ·rename_i SR;simp only[ah,aC]at hb;obtain⟨rfl,rfl⟩:=hb;obtain⟨h1,h2,h3,h4⟩:=SR;have hs:dq P e=some i.size:=by unfold dq;rw[hi];rfl
    have w1:cQ.i64.wrap l=l:=by unfold cQ.wrap;simp[cQ.min,cQ.max,cQ.signed,cQ.bits];omega
    have w2:cQ.i64.wrap c=c:=by unfold cQ.wrap;simp[cQ.min,cQ.max,cQ.signed,cQ.bits];omega
    unfold Instr.makeSlice;rw[az];refine aK hu ?_;simp only[asInt,asIntOf,pure_bind];rw[az];refine ik hi ?_;simp only[w1,w2];have h5:(i.bytes:Int)*c<=1099511627776:=by rw[Int.mul_comm];exact h3
    have n1:(decide (c<0)||decide ((i.bytes:Int)*c>2^48))=false:=by
     simp only[Bool.or_eq_false_iff,decide_eq_false_iff_not];omega
    rw[n1];have n2:(false||decide (l<0)||decide (l>c))=false:=by
     simp only[Bool.false_or,Bool.or_eq_false_iff,decide_eq_false_iff_not];omega
    rw[n2];simp only[bu,if_false];rw[az];have Mk:er P R N (askRoom (c.toNat*i.bytes)) (fun _ w'=>w'=w) w:=by
     unfold askRoom
     split
     ·exact⟨trivial,rfl⟩
     ·rfl
    refine Ha Mk ?_;intro _ w' e';rw[e'];rw[az];refine dP hs ?_;have fin:er P R N (do
      let a<-newRow e ((Array.range (c.toNat*i.size)).map (z.cells[·%z.cells.size]!))
      pure (.slice (some a) l.toNat c.toNat)) Q w:=by
     rw[az];refine oX ?_;have hL:=h.Dm (sz:=i.size) (ps:=0) (G:=(Array.range (c.toNat*i.size)).map (z.cells[·%z.cells.size]!)) e (tK hz _);refine hq _ _ _ hL (cA.2 ⟨_,c.toNat,dL.kR ..,rfl,rfl,?_⟩);rw[bT (by unfold eP;omega)]
    by_cases h0:c.toNat*i.size=0
    ·rw[bL h0];have e0:(Array.range (c.toNat*i.size)).map (fun x=>(#[]:Array af)[x%(#[]:Array af).size]!)=(Array.range (c.toNat*i.size)).map (fun x=>z.cells[x%z.cells.size]!):=by rw[h0];simp
     show er P R N (do
      let a<-newRow e ((Array.range (c.toNat*i.size)).map (fun x=>(#[]:Array af)[x%(#[]:Array af).size]!))
      pure (.slice (some a) l.toNat c.toNat)) Q w
     rw[e0];exact fin
    ·rw[bT h0];rw[az];exact fh hz fin
   ·cases hb
  ·cases hb
 ·cases hb
theorem oz (h:fO ρ m w){size n:Nat}{x x':af}(hx:bg ρ x x'){l:List af}(hf:rL m size n x=some l){Q:Array af->aA->Prop}
  (hq:∀l':List af,bM (bg ρ) l l'->Q l'.toArray w):er P (aB ρ m) N (Builtin.firstCells size n x') Q w:=by
 unfold rL at hf
 split at hf
 ·rename_i b o len cap;obtain⟨pl,iz,dF,_,rfl,_⟩:=cA.1 hx;exact h.ql dF hf hq
 ·rename_i len cap;obtain rfl:=(aL (by rfl)).1 hx;simp only[ah]at hf;subst hf;exact hq [] trivial
 ·rename_i s;obtain rfl:=(aL (by rfl)).1 hx
  split at hf
  ·rename_i hc;simp only[ah]at hf;subst hf;have e:(s.extract 0 n).data.map (fun b=>(af.int .u8 b.toNat))=(s.data.toList.map fun b=>(af.int .u8 b.toNat)).toArray:=by
    rw[hc.2];have :s.extract 0 s.size=s:=by
     apply ByteArray.ext;simp
    rw[this];apply Array.ext';simp
   show Q ((s.extract 0 n).data.map fun b=>(af.int .u8 b.toNat)) w
   rw[e];exact hq _ (iY (by rw[aV];intro x hx;obtain⟨b,_,rfl⟩:=List.mem_map.1 hx;rfl))
  ·cases hf
 ·cases hf
theorem Be {x x':af}(hx:bg ρ x x'){n:Nat}(hf:RQ x=some n){Q:Nat->aA->Prop}{R:Perm}(hq:Q n w):er P R N (Builtin.lenOf x') Q w:=by
 unfold RQ at hf
 split at hf
 ·rename_i a l c;simp only[ah]at hf;subst hf;cases a with
  |none=>obtain rfl:=(aL (by rfl)).1 hx;exact hq
  |some a=>obtain⟨pl,iz,_,_,rfl,_⟩:=cA.1 hx;exact hq
 ·simp only[ah]at hf;subst hf;obtain rfl:=(aL (by rfl)).1 hx;exact hq
 ·cases hf
theorem Cd (h:fO ρ m w){b o len n size:Nat}{pl:Pl}(dF:ρ b=some pl)(hk:(m.blk b).kind=1)(jJ:(m.blk b).sz=size)(zS:m.gv b=true)(r9:((m.blk b).cs.drop o).all (·.isSome)=true)
  {old new wF:List af}(hold:gO ((m.blk b).cs.drop o) (len*size)=some old)(vk:bM (bg ρ) new wF)(hnl:new.length=n*size)(Mk:o+(len+n)*size<=pl.room)
  {w':aA}(hw:zy w w' pl.c (pl.d+o+len*size) wF):
  Left ρ m w (ρ.put m.next ⟨pl.c,pl.d+o,pl.room-o,size⟩) ((m.bE b {}).alloc {kind:=1,sz:=size,cs:=(old++new).map some}) w':=by
 have hn:=qS h;have hbn:b<m.next:=h.nj b pl dF;obtain⟨hl1,hl2⟩:=qf hold;obtain⟨Mh,hfo⟩:=Mem.lY zS;obtain⟨anB,Um,e0,n0,abr,hn0⟩:=h.cells b pl dF hk;have hmul:(len+n)*size=len*size+n*size:=Nat.add_mul ..;have alQ:wF.length=n*size:=by rw[<-vk.length,hnl]
 have kK:∀b',((m.bE b {}).alloc {kind:=1,sz:=size,cs:=(old++new).map some}).blk b'=if m.next=b' then{kind:=1,sz:=size,cs:=(old++new).map some,bw:=m.tick+1}else if b=b' then{bw:=m.tick}else m.blk b':=by
  intro b';rw[Mem.cD,Mem.eK];rfl
 have kz:∀b',b'≠m.next->(((m.bE b {}).alloc {kind:=1,sz:=size,cs:=(old++new).map some}).blk b').kind≠0->b'≠b/\((m.bE b {}).alloc {kind:=1,sz:=size,cs:=(old++new).map some}).blk b'=m.blk b':=by
  intro b' gN fR;rw[kK,bT (Ne.symm gN)]at fR⊢
  by_cases sF:b=b'
  ·rw[bL sF]at fR;exact absurd rfl fR
  ·rw[bT sF];exact⟨Ne.symm sF,rfl⟩
 generalize hM:(m.bE b {}).alloc {kind:=1,sz:=size,cs:=(old++new).map some}=M at kK kz⊢;have hMn:M.next=m.next+1:=by rw[<-hM];rfl
 have MB:M.bO=m.bO:=by rw[<-hM];rfl
 have hMf:M.floor=m.floor:=by rw[<-hM];rfl
 have hMo:M.opn=m.opn:=by rw[<-hM];rfl
 have IP:M.base=m.base:=by rw[<-hM];rfl
 have hMm:M.home=m.home:=by rw[<-hM];rfl
 have Sy:∀b',M.bU b'=m.bU b':=fun b'=>by unfold Mem.bU;rw[MB,hMm]
 have zl:M.blk m.next={kind:=1,sz:=size,cs:=(old++new).map some,bw:=m.tick+1}:=by rw[kK,bL rfl]
 have dX:∀b' p',ρ.put m.next ⟨pl.c,pl.d+o,pl.room-o,size⟩ b'=some p'->(b'=m.next/\p'=⟨pl.c,pl.d+o,pl.room-o,size⟩)\/(b'≠m.next/\ρ b'=some p'):=by
  intro b' p' dW;unfold dL.put at dW
  split at dW
  ·rename_i e;exact .inl ⟨e,(Option.some.inj dW).symm⟩
  ·rename_i e;exact .inr ⟨e,dW⟩
 have SB:∀x,m.pz b (o+x):=fun x=>⟨hk,ei Mh _,fun cN=>by
  have h1:=aV.1 r9;obtain⟨y,hy⟩:∃y,((m.blk b).cs.drop o)[x]?=some y:=⟨_,List.getElem?_eq_getElem (by simp;omega)⟩;have h2:=h1 y (List.mem_of_getElem? hy);obtain⟨v,rfl⟩:=qF.1 h2;rw[List.getElem?_drop]at hy;exact⟨v,hy⟩⟩
 have SA:∀x,m.okW b (o+x):=fun x=>⟨SB x,hfo.imp id fun y=>kp y _⟩
 have Bv:=dL.sZ hn ⟨pl.c,pl.d+o,pl.room-o,size⟩;refine⟨Bv,⟨fun b' p' dW=>?_,fun b' p' dW fR=>?_,fun b' p' x v dW hc=>?_,fun b' p' x dW hx fR sF=>?_,fun b' p' dW fR pG=>?_,fun b' p' dW fR pG=>?_,fun xn xm nA og dx pE zN k₁ k₂ hc=>?_,fun b' p' dW=>?_,fun b' p' dW fR Ad=>?_⟩,⟨?_,?_,?_⟩,z4⟩
 ·rcases dX _ _ dW with⟨rfl,rfl⟩|⟨_,hq⟩
  ·omega
  ·have :=h.nj _ _ hq;omega
 ·rcases dX _ _ dW with⟨rfl,rfl⟩|⟨gN,hq⟩
  ·rw[zl];refine⟨rfl,?_,e0,n0,by rw[hw.shape];exact abr,?_⟩
   ·simp only[List.length_map,List.length_append];omega
   ·show pl.d+o+(pl.room-o)<=n0;omega
  ·obtain⟨_,e⟩:=kz b' gN av;rw[e]at fR⊢;obtain⟨g1,g2,e1,n1,g3,g4⟩:=h.cells _ _ hq fR;exact⟨g1,g2,e1,n1,by rw[hw.shape];exact g3,g4⟩
 ·rcases dX _ _ dW with⟨rfl,rfl⟩|⟨gN,hq⟩
  ·have hx:(old++new)[x]?=some v:=by
    unfold Mem.cell at hc;rw[zl]at hc
    split at hc
    ·simp only[List.getElem?_map]at hc;cases hg:(old++new)[x]? with
     |none=>simp[hg]at hc
     |some u=>simp[hg]at hc;rw[hc]
    ·cases hc
   show∃v',w'.cell? ⟨pl.c,pl.d+o+x,none⟩=some v'/\_
   rw[hw.cell];rcases Nat.lt_or_ge x (len*size)with cN|CI
   ·rw[List.getElem?_append_left av]at hx;obtain⟨u,hu,hu2⟩:=hl2 x cN;rw[hu2]at hx;cases hx;rw[List.getElem?_drop]at hu;have pf:m.cell b (o+x)=some v:=by unfold Mem.cell;rw[bL ⟨hk,ei Mh _⟩,hu];rfl
    obtain⟨v',Yu,hv2⟩:=h.lT b pl _ v dF pf;refine⟨v',?_,hv2.pC Bv⟩;rw[bT av,show pl.d+o+x=pl.d+(o+x) by omega];exact Yu
   ·rw[List.getElem?_append_right av]at hx;obtain⟨v',Yu,hv2⟩:=vk.get hx;have :x-old.length<wF.length:=by
     rcases Nat.lt_or_ge (x-old.length) wF.length with h1|h1
     ·exact h1
     ·rw[List.getElem?_eq_none h1]at Yu;cases Yu
    refine⟨v',?_,hv2.pC Bv⟩;rw[bL ⟨av,av⟩,show pl.d+o+x-(pl.d+o+len*size)=x-old.length by omega];exact Yu
  ·have hkM:=(Mem.eN hc).1;obtain⟨sF,e⟩:=kz b' gN av;have DD:m.cell b' x=some v:=by unfold Mem.cell at hc⊢;rw[e,MB]at hc;exact hc
   obtain⟨v',Yu,hv2⟩:=h.lT b' p' x v hq DD;refine⟨v',?_,hv2.pC Bv⟩;have fR:=(Mem.eN DD).1;have Dv:=jc h hq DD
   by_cases uw:p'.c=pl.c
   ·have :=(h.sep b b' pl p' (Ne.symm sF) dF hq av av uw.symm).2.2;rw[uw,hw.cell,bT av,<-uw];exact Yu
   ·rw[hw.BZ uw];exact Yu
 ·rw[hw.qA];rcases dX _ _ dW with⟨rfl,rfl⟩|⟨gN,hq⟩
  ·have :=h.thaw b pl (o+x) dF (by simp only at hx;omega) hk (Mem.rH zS);rw[<-Nat.add_assoc]at this;exact this
  ·obtain⟨_,e⟩:=kz b' gN av;rw[e]at fR;rw[IP]at sF;exact h.thaw b' p' x hq hx fR sF
 ·rcases dX _ _ dW with⟨rfl,rfl⟩|⟨gN,hq⟩
  ·rw[zl]at fR;simp at fR
  ·obtain⟨sF,e⟩:=kz b' gN av;rw[e]at fR⊢;rw[Sy]at pG;obtain⟨mj,g1,g2⟩:=h.maps _ _ hq fR pG;have dx:p'.c≠pl.c:=fun uw=>by have :=(h.sep b b' pl p' (Ne.symm sF) dF hq av av uw.symm).2.1;omega
   exact⟨mj,by rw[hw.others _ dx];exact g1,g2.mono fun _ _ x=>⟨x.1.pC Bv,x.2.1.pC Bv,x.2.2⟩⟩
 ·rcases dX _ _ dW with⟨rfl,rfl⟩|⟨gN,hq⟩
  ·rw[zl]at fR;simp at fR
  ·obtain⟨sF,e⟩:=kz b' gN av;rw[e]at fR⊢;rw[Sy]at pG;obtain⟨g1,g2⟩:=h.lN _ _ hq fR pG;have dx:p'.c≠pl.c:=fun uw=>by have :=(h.sep b b' pl p' (Ne.symm sF) dF hq av av uw.symm).2.1;omega
   exact⟨g1,by rw[hw.others _ dx];exact g2⟩
 ·rcases dX _ _ pE with⟨rfl,rfl⟩|⟨YO,YB⟩<;>rcases dX _ _ zN with⟨rfl,rfl⟩|⟨YN,YA⟩
  ·exact absurd rfl dx
  ·obtain⟨sF,e⟩:=kz xm YN k₂;rw[e]at k₂⊢;have :=h.sep b xm pl og (Ne.symm sF) dF YA av k₂ hc;rw[zl];refine⟨rfl,this.2.1,?_⟩
   show pl.room-o=0\/og.room=0\/pl.d+o+(pl.room-o)<=og.d\/og.d+og.room<=pl.d+o
   omega
  ·obtain⟨sF,e⟩:=kz xn YO k₁;rw[e]at k₁⊢;have :=h.sep b xn pl nA (Ne.symm sF) dF YB av k₁ hc.symm;rw[zl];refine⟨this.2.1,rfl,?_⟩
   show nA.room=0\/pl.room-o=0\/nA.d+nA.room<=pl.d+o\/pl.d+o+(pl.room-o)<=nA.d
   omega
  ·obtain⟨_,W7⟩:=kz xn YO k₁;obtain⟨_,W6⟩:=kz xm YN k₂;rw[W7]at k₁⊢;rw[W6]at k₂⊢;exact h.sep xn xm nA og dx YB YA k₁ k₂ hc
 ·rw[hw.size];rcases dX _ _ dW with⟨rfl,rfl⟩|⟨gN,hq⟩
  ·exact h.rr b pl dF
  ·exact h.rr _ _ hq
 ·rcases dX _ _ dW with⟨rfl,rfl⟩|⟨gN,hq⟩
  ·rw[zl]at Ad;simp at Ad
  ·obtain⟨_,e⟩:=kz b' gN av;rw[e]at fR Ad;exact h.vars b' p' hq fR Ad
 ·rintro c x ⟨b',p',g1,g2,g3,g4,g5⟩;rcases dX _ _ g1 with⟨rfl,rfl⟩|⟨gN,hq⟩
  ·simp only at g3 g4;refine .inl ⟨b,pl,dF,g2,av,av,?_⟩;rw[show x-pl.d=o+(x-(pl.d+o)) by omega];exact SB _
  ·obtain⟨_,e⟩:=kz b' gN (by have :=g5.1;omega);exact .inl ⟨b',p',hq,g2,g3,g4,by unfold Mem.pz at g5⊢;rw[e,MB]at g5;exact g5⟩
 ·rintro c x ⟨b',p',g1,g2,g3,g4,g5⟩;rcases dX _ _ g1 with⟨rfl,rfl⟩|⟨gN,hq⟩
  ·simp only at g3 g4;refine .inl ⟨b,pl,dF,g2,av,av,?_⟩;rw[show x-pl.d=o+(x-(pl.d+o)) by omega];exact SA _
  ·obtain⟨_,e⟩:=kz b' gN (by have :=g5.1.1;omega);exact .inl ⟨b',p',hq,g2,g3,g4,by unfold Mem.okW Mem.pz at g5⊢;rw[e,MB,hMf,hMo]at g5;exact g5⟩
 ·rintro c ⟨b',p',g1,g2,g3,g4⟩;rcases dX _ _ g1 with⟨rfl,rfl⟩|⟨gN,hq⟩
  ·rw[zl]at g3;simp at g3
  ·obtain⟨_,e⟩:=kz b' gN av;exact .inl ⟨b',p',hq,g2,by rwa[e]at g3,by rwa[Sy]at g4⟩
end
end Go.AM
namespace Go.AM
open Go
section
variable {P:aE}{ρ:dL}{m:Mem}{w:aA}{N:Nat}
theorem Hb {n:Nat}{R:Perm}{Q:Unit->aA->Prop}(hq:Q () w):er P R N (askRoom n) Q w:=by
 unfold askRoom
 split
 ·exact⟨trivial,hq⟩
 ·exact hq
theorem Nm (h:fO ρ m w)(d:Nat):fO ρ m {w with drawn:=d}:=h.keeps (bD.at _ _ _)
theorem zB {z:af}(hz:z.cells.toList.all dE=true)(n:Nat):(Builtin.zeroCells z.cells n).toList.all dE=true:=by
 unfold Builtin.zeroCells;rw[aV];intro x hx;simp only[Array.toList_map,List.mem_map]at hx;obtain⟨i,_,rfl⟩:=hx;exact th hz _
theorem An (z:Array af)(n:Nat):(Builtin.zeroCells z n).size=n*z.size:=by simp[Builtin.zeroCells]
theorem KV (need old:Nat)(e:aW)(t:Nat)(h:need<=2^46):need<=(Question.appendCap need old e).cut t/\(Question.appendCap need old e).cut t<eP:=by
 simp only[Question.cut];have :t%(2^63-need)<2^63-need:=Nat.mod_lt _ av;unfold eP;omega
theorem Jh {w:aA}{c e n x:Nat}(h:w.shape? c=some (e,n))(hx:x<n):(w.cell? ⟨c,x,none⟩).isSome=true:=by
 unfold aA.shape? at h;unfold aA.cell?
 split at h
 ·rename_i C e' f hh;simp only[ah,aC]at h;simp only[hh];have :x<C.size:=av;simp[this]
 ·cases h
theorem G5 {b o:Nat}(hk:(m.blk b).kind=1)(zS:m.gv b=true)(r9:((m.blk b).cs.drop o).all (·.isSome)=true):∀x,m.okW b (o+x):=by
 obtain⟨Mh,hfo⟩:=Mem.lY zS;refine fun x=>⟨⟨hk,ei Mh _,fun cN=>?_⟩,hfo.imp id fun y=>kp y _⟩
 have h1:=aV.1 r9;obtain⟨y,hy⟩:∃y,((m.blk b).cs.drop o)[x]?=some y:=⟨_,List.getElem?_eq_getElem (by simp;omega)⟩;have h2:=h1 y (List.mem_of_getElem? hy);obtain⟨v,rfl⟩:=qF.1 h2;rw[List.getElem?_drop]at hy;exact⟨v,hy⟩
def qd (ρ:dL)(len cap:Nat)(base tD:Option Addr)(iz:Nat):Prop:=
 match base with
 |some a=>∃p,ρ a.block=some p/\a.spot=none/\tD=some ⟨p.c,p.d+a.off,none⟩/\(if cap=eP then len<=iz/\a.off+iz*p.sz<=p.room else iz=cap)
 |none=>tD=none/\iz=cap
theorem qd.of{len cap:Nat}{base:Option Addr}{s':af}(h:bg ρ (.slice base len cap) s'):∃tD iz,s'= .slice tD len iz/\qd ρ len cap base tD iz:=by
 cases base with
 |none=>obtain rfl:=(aL (by rfl)).1 h;exact⟨none,cap,rfl,rfl,rfl⟩
 |some a=>obtain⟨p,iz,h1,h2,h3,h4⟩:=cA.1 h;exact⟨_,iz,h3,p,h1,h2,rfl,h4⟩
theorem qd.exact{len cap iz:Nat}{base tD:Option Addr}(h:qd ρ len cap base tD iz)(hc:cap≠eP):iz=cap:=by
 cases base with
 |none=>exact h.2
 |some a=>obtain⟨p,_,_,_,h4⟩:=h;rw[bT hc]at h4;exact h4
theorem sW {n old:Nat}{e:aW}{R:Perm}{Q:Nat->aA->Prop}(hn:n<=2^46)(hq:∀nc,n<=nc->nc<eP->Q nc {w with drawn:=w.drawn+1}):er P R N (choose (.appendCap n old e)) Q w:=by
 obtain⟨Mz,sf⟩:=KV n old e (w.tape w.drawn (.appendCap n old e)) hn;exact hq _ Mz sf
set_option maxHeartbeats 1000000 in
theorem CV(h:fO ρ m w){lG:Array aW}{ty:aW}{s s' x x' v:af}{m':Mem}(hs:bg ρ s s')(hx:bg ρ x x')(ha:cV P lG s x m=some (v,m'))
  {Q:af->aA->Prop}(hq:∀v' w' bH,Left ρ m w bH m' w'->bg bH v v'->Q v' w'):er P (aB ρ m) N (Builtin.append_ lG ty #[s',x']) Q w:=by
 unfold cV at ha
 split at ha
 ·rename_i e xt base len cap fp hxt;obtain⟨st,Kw,fp⟩:=ay.1 fp
  split at ha
  ·rename_i size n xe Mj hlen hxu
   split at ha
   ·cases ha
   ·rename_i new vk
    split at ha
    ·cases ha
    ·rename_i My;have Bs:yo P e (len+n)=true:=by
      cases hg:yo P e (len+n)with
      |false=>exact absurd (.inl hg) My
      |true=>rfl
     have hnl:new.length=n*size:=Decidable.byContradiction fun hg=>My (.inr (.inl hg))
     have ahC:∀u∈new,u.oneCell'=true:=by
      cases hg:new.all (·.oneCell')with
      |false=>exact absurd (.inr (.inr hg)) My
      |true=>exact fun u hu=>aV.1 hg u hu
     clear My;unfold yo at Bs
     split at Bs
     case h_2=>cases Bs
     rename_i i hi;simp only[aj,jE]at Bs;obtain⟨⟨⟨hb0,j8⟩,iW⟩,hz⟩:=Bs;obtain⟨z,hz⟩:=qF.1 hz;obtain⟨hzp,hzs⟩:=jX hz;have alz:z.cells.size=size:=by rw[Mj]at hzs;exact(Option.some.inj hzs).symm
     obtain⟨tD,iz,sA,nI⟩:=qd.of hs;subst sA;have ann:(len+n)*size=len*size+n*size:=Nat.add_mul ..;unfold Builtin.append_;simp only[Kw,hxt,List.getElem?_toArray,List.getElem?_cons_zero,List.getElem?_cons_succ];rw[az];refine aK fp ?_;simp only[];rw[az];refine dP Mj ?_;rw[az];refine aK hxu ?_;simp only[pure_bind,bu,if_false,Bool.not_false,if_true,false_or];rw[az];refine Be hx hlen ?_
     by_cases pI:len+n<=iz
     ·rw[bL pI,az];refine oz h hx vk fun wF wS=>?_
      by_cases hc:cap=eP
      ·rw[bL hc]at ha
       split at ha
       ·rename_i b o;obtain⟨pl,dF,_,rfl,nI⟩:=nI;rw[bL hc]at nI;simp only[jw]at dF nI⊢;rw[az];simp only[]at ha
        split at ha
        ·rename_i hk;simp only[aj,beq_iff_eq]at hk;obtain⟨⟨⟨Dy,Ms⟩,OI⟩,hk4⟩:=hk
         split at ha
         ·rename_i old hold;simp only[ah,aC]at ha;obtain⟨rfl,rfl⟩:=ha;obtain⟨alM,Um,e0,n0,abr,hn0⟩:=h.cells b pl dF Dy;have ahx:pl.sz=size:=by rw[alM,Ms]
          rw[ahx]at nI;have hmul:(len+n)*size<=iz*size:=Nat.mul_le_mul_right _ pI;have SA:=G5 Dy OI hk4;have alQ:wF.length=n*size:=by rw[<-wS.length,hnl]
          refine oW wF 0 w (fun u hu=>?_) (fun j hj=>?_) (fun w' hw=>?_)
          ·obtain⟨i,hi⟩:=List.mem_iff_getElem?.1 hu;obtain⟨u',Sk,hr⟩:=wS.get' hi;exact hr.LC (ahC _ (List.mem_of_getElem? Sk))
          ·have e2:pl.d+o+len*size+0+j=pl.d+(o+(len*size+j)):=av;rw[e2];have Ks:o+(len*size+j)<pl.room:=av;exact⟨Jh abr av,h.thaw b pl _ dF Ks Dy (Mem.rH OI),xF dF Ks (SA _)⟩
          ·rw[Nat.add_zero]at hw;have hL:=Cd h dF Dy Ms OI hk4 hold wS hnl (n:=n) av hw;refine hq _ _ _ hL (cA.2 ⟨_,iz,dL.kR ..,rfl,rfl,?_⟩);rw[bL rfl];refine⟨pI,?_⟩
           show 0+iz*size<=pl.room-o
           omega
         ·cases ha
        ·cases ha
       ·cases ha
      ·rw[bT hc]at ha;obtain rfl:=nI.exact hc;rw[bL pI]at ha;cases base with
       |none=>
        obtain⟨rfl,_⟩:=nI;simp only[ah,aC]at ha;obtain⟨rfl,rfl⟩:=ha;exact hq _ _ _ (Left.refl h) ((aL (by rfl)).2 rfl)
       |some a=>
        obtain⟨pl,dF,Yw,rfl,nI⟩:=nI;obtain⟨b,o,sp⟩:=a;simp only at Yw dF nI;subst Yw;simp only[jw];rw[az];obtain⟨m2,xC,S0⟩:=ar.1 ha;simp only[aC]at S0;obtain⟨rfl,rfl⟩:=S0;have :=oT (P:=P) (N:=N) h dF xC wS (Q:=fun _ w'=>Q (.slice (some ⟨pl.c,pl.d+o,none⟩) (len+n) iz) w') (fun w' hL _=>hq _ _ _ hL (cA.2 ⟨pl,iz,dF,rfl,rfl,by rw[bT hc]⟩));rw[show pl.d+o+len*size=pl.d+(o+len*size) by omega];exact this
     ·
      have cN:iz<len+n:=av;rw[bT pI,az];refine ik hi ?_;rw[bT (by rintro⟨_,h2⟩;omega),az];refine ik hi ?_;have anG:=growslice_fits (need:=len+n) (old:=iz) (bytes:=i.bytes) cN av;rw[bT av,az];refine sW iW fun nc hn1 hn2=>?_
      generalize Yr:({w with drawn:=w.drawn+1}:aA)=aR;have pE:fO ρ m aR:=by rw[<-Yr];exact Nm h _
      have ahl:aR.heap.size=w.heap.size:=by rw[<-Yr]
      rw[az];refine ik hi ?_;rw[az];refine Hb ?_;rw[az];obtain⟨old,hold,hol,pJ⟩:∃old,rL m size len (.slice base len cap)=some old/\old.length=len*size/\
        ∀(C:Array af),(old++new).length<=C.size->nc*size<=C.size->(∀(i:Nat) v,(old++new)[i]?=some v->∃v',C[i]?=some v'/\bg ρ v v')->Q (.slice (some ⟨aR.heap.size,0,none⟩) (len+n) nc) {aR with heap:=aR.heap.push (.cells C e)}:=by
       by_cases hc:cap=eP
       ·rw[bL hc]at ha
        split at ha
        ·rename_i b o;obtain⟨pl,dF,_,_,_⟩:=nI;simp only[]at ha
         split at ha
         ·rename_i hk;simp only[aj,beq_iff_eq]at hk;obtain⟨⟨⟨Dy,Ms⟩,OI⟩,hk4⟩:=hk
          split at ha
          ·rename_i old hold;simp only[ah,aC]at ha;obtain⟨rfl,rfl⟩:=ha;refine⟨old,?_,(qf hold).1,fun C hC1 hC2 hC3=>?_⟩
           ·show m.dQ b o (len*size)=some old
            unfold Mem.dQ;simp only[];rw[bL (by rw[Dy,gK (Mem.lY OI).1];rfl)];exact hold
           ·have hL:=(pE.kill b).cG (sz:=size) (ps:=0) (vs:=old++new) (C:=C) e hC1 hC3;have hL':Left ρ m w _ _ _:=⟨hL.le,hL.ku,by rw[<-ahl];exact(Gf b _).trans hL.within,hL.old⟩;refine hq _ _ _ hL' (cA.2 ⟨_,nc,dL.kR ..,rfl,congrArg (fun k=>af.slice (some ⟨aR.heap.size,k,none⟩) (len+n) nc) (Nat.zero_add 0).symm,?_⟩);rw[bL rfl];exact⟨hn1,by simpa using hC2⟩
          ·cases ha
         ·cases ha
        ·cases ha
       ·rw[bT hc]at ha;obtain rfl:=nI.exact hc;rw[bT av]at ha
        split at ha
        ·rename_i old hold
         split at ha
         ·rename_i hol;simp only[ah,aC]at ha;obtain⟨rfl,rfl⟩:=ha;refine⟨old,hold,hol,fun C hC1 hC2 hC3=>?_⟩;have hL:=(pE.cG (sz:=size) (ps:=0) (vs:=old++new) (C:=C) e hC1 hC3);have hL':Left ρ m w _ _ _:=⟨hL.le,hL.ku,by rw[<-ahl];exact hL.within,hL.old⟩;refine hq _ _ _ hL' (cA.2 ⟨_,nc,dL.kR ..,rfl,congrArg (fun k=>af.slice (some ⟨aR.heap.size,k,none⟩) (len+n) nc) (Nat.zero_add 0).symm,?_⟩);rw[bL rfl];exact⟨hn1,by simpa using hC2⟩
         ·cases ha
        ·cases ha
      refine oz pE hs hold fun Vb kz=>?_
      rw[az];refine oz pE hx vk fun wF wS=>?_
      rw[az];refine fh hz ?_;rw[az];refine oX ?_;have hzl:=An z.cells (nc-(len+n));have hl1:=kz.length;have hl2:=wS.length;have hnc:nc*size=(len+n)*size+(nc-(len+n))*size:=by rw[<-Nat.add_mul];congr 1;omega
      refine pJ _ ?_ ?_ fun i v hi=>?_
      ·simp only[Array.size_append,List.size_toArray,List.length_append];omega
      ·simp only[Array.size_append,List.size_toArray,hzl,alz];omega
      ·obtain⟨v',h1,h2⟩:=(kz.append wS).get hi;refine⟨v',?_,h2⟩;have cN:i<(Vb++wF).length:=by
        rcases Nat.lt_or_ge i (Vb++wF).length with g|g
        ·exact g
        ·rw[List.getElem?_eq_none g]at h1;cases h1
       have e0:Vb.toArray++wF.toArray=(Vb++wF).toArray:=cK;rw[e0,Array.getElem?_append_left (by simpa using cN)];simpa using h1
  ·cases ha
 ·cases ha
end
end Go.AM
