/-
  What the claim stands on, part 1.
-/
import Derived.Calls
import Derived.Laws.Sem
import Derived.Conc.Events
import Derived.Laws.Append
set_option linter.unusedVariables false
set_option linter.unusedSimpArgs false
open Go renaming Value → ae, World → ao, Program → aC, TypeId → aO, Operand → bS, IntKind → bU, Oper → gK
open Bool renaming and_eq_true → ag, false_eq_true → cF
open Option.some renaming injEq → ah
open Nat renaming le_refl → aj, lt_of_lt_of_le → aW, le_trans → bV
open Prod.mk renaming injEq → au
open Option renaming map_eq_some_iff → az, bind_eq_some_iff → bC, map_some → cU, isSome_iff_exists → qU
open List renaming all_eq_true → aB, mem_cons → aL
namespace Go.AM
open Go
structure dZ where
 kind:Nat:=0
 sz:Nat:=0
 cs:List (Option ae):=[]
 es:Array MapEntry:=#[]
 clock:Nat:=0
 str:ByteArray:= .empty
 pos:Nat:=0
 bK:Nat:=0
def GL {α:Type}(d:α):List α->Nat->α->List α
 | [],0,v=>[v]
 | [],i+1,v=>d::GL d [] i v
 |_::t,0,v=>v::t
 |x::t,i+1,v=>x::GL d t i v
def Cv {α:Type}(d:α):List α->Nat->α
 | [],_=>d
 |x::_,0=>x
 |_::t,i+1=>Cv d t i
structure N8 (α:Type) where
 a:α
 b:α
 c:α
 d:α
 e:α
 f:α
 g:α
 h:α
def N8.all{α:Type}(x:α):N8 α:=⟨x,x,x,x,x,x,x,x⟩
def N8.get{α:Type}(n:N8 α)(i:Nat):α:=
 match i with
 |0=>n.a
 |1=>n.b
 |2=>n.c
 |3=>n.d
 |4=>n.e
 |5=>n.f
 |6=>n.g
 |_=>n.h
def N8.put{α:Type}(n:N8 α)(i:Nat)(x:α):N8 α:=
 match n with
 |⟨a,b,c,d,e,f,g,h⟩=>
  match i with
  |0=>⟨x,b,c,d,e,f,g,h⟩
  |1=>⟨a,x,c,d,e,f,g,h⟩
  |2=>⟨a,b,x,d,e,f,g,h⟩
  |3=>⟨a,b,c,x,e,f,g,h⟩
  |4=>⟨a,b,c,d,x,f,g,h⟩
  |5=>⟨a,b,c,d,e,x,g,h⟩
  |6=>⟨a,b,c,d,e,f,x,h⟩
  |_=>⟨a,b,c,d,e,f,g,x⟩
theorem N8.Hc{α:Type}(x:α)(i:Nat):(N8.all x).get i=x:=by
 unfold N8.get N8.all
 split<;>rfl
theorem N8.get_put{α:Type}(n:N8 α)(x:α){i j:Nat}(hi:i<8)(hj:j<8):(n.put i x).get j=if i=j then x else n.get j:=by
 match i,j,hi,hj with
 |0,0,_,_|0,1,_,_|0,2,_,_|0,3,_,_|0,4,_,_|0,5,_,_|0,6,_,_|0,7,_,_=>rfl
 |1,0,_,_|1,1,_,_|1,2,_,_|1,3,_,_|1,4,_,_|1,5,_,_|1,6,_,_|1,7,_,_=>rfl
 |2,0,_,_|2,1,_,_|2,2,_,_|2,3,_,_|2,4,_,_|2,5,_,_|2,6,_,_|2,7,_,_=>rfl
 |3,0,_,_|3,1,_,_|3,2,_,_|3,3,_,_|3,4,_,_|3,5,_,_|3,6,_,_|3,7,_,_=>rfl
 |4,0,_,_|4,1,_,_|4,2,_,_|4,3,_,_|4,4,_,_|4,5,_,_|4,6,_,_|4,7,_,_=>rfl
 |5,0,_,_|5,1,_,_|5,2,_,_|5,3,_,_|5,4,_,_|5,5,_,_|5,6,_,_|5,7,_,_=>rfl
 |6,0,_,_|6,1,_,_|6,2,_,_|6,3,_,_|6,4,_,_|6,5,_,_|6,6,_,_|6,7,_,_=>rfl
 |7,0,_,_|7,1,_,_|7,2,_,_|7,3,_,_|7,4,_,_|7,5,_,_|7,6,_,_|7,7,_,_=>rfl
abbrev Hp1:=N8 dZ
abbrev Hp2:=N8 Hp1
abbrev Hp3:=N8 Hp2
abbrev Hp4:=N8 Hp3
def hp1:Hp1:=N8.all {}
def VB:Hp2:=N8.all hp1
def hp3:Hp3:=N8.all VB
def hp4:Hp4:=N8.all hp3
abbrev iU:=List Hp4
def rP (b k:Nat):Nat:=Nat.mod (Nat.div b k) 8
def UC (n:Hp4)(b:Nat):dZ:=(((n.get (rP b 512)).get (rP b 64)).get (rP b 8)).get (Nat.mod b 8)
def aaW (n:Hp4)(b:Nat)(k:dZ):Hp4:=
 n.put (rP b 512) ((n.get (rP b 512)).put (rP b 64) (((n.get (rP b 512)).get (rP b 64)).put (rP b 8) ((((n.get (rP b 512)).get (rP b 64)).get (rP b 8)).put (Nat.mod b 8) k)))
def iU.get(h:iU)(b:Nat):dZ:=UC (Cv hp4 h (Nat.div b 4096)) b
def iU.put(h:iU)(b:Nat)(k:dZ):iU:=GL hp4 h (Nat.div b 4096) (aaW (Cv hp4 h (Nat.div b 4096)) b k)
abbrev Span:=Nat×Nat×Option Nat
def bz (l:List Span)(b o:Nat):Bool:=l.any fun s=>decide (s.1<=b)&&decide (b<s.2.1)&&(match s.2.2 with |none=>true|some y=>y==o)
def gI (l:List Span)(b:Nat):Bool:=l.any fun s=>decide (s.1<=b)&&decide (b<s.2.1)&&s.2.2.isNone
def meets (l:List Span)(b o n:Nat):Bool:=l.any fun s=>decide (s.1<=b)&&decide (b<s.2.1)&&(match s.2.2 with |none=>true|some y=>decide (o<=y)&&decide (y<o+n))
def aJ (l:List Span)(b:Nat):Bool:=l.any fun s=>decide (s.1<=b)&&decide (b<s.2.1)
structure AT where
 lo:Nat
 hi:Nat
 oL:List Span
 bh:List Span
 heap:iU
structure Mem where
 heap:iU
 next:Nat
 tick:Nat
 base:Nat
 home:Nat
 floor:Nat
 opn:List Span
 bh:List Span
 wg:Option Nat
 pend:List AT
 deaf:Nat
def Mem.blk(m:Mem)(b:Nat):dZ:=m.heap.get b
def Mem.a9(m:Mem)(b:Nat)(k:dZ):Mem:={m with heap:=m.heap.put b {k with bK:=m.tick},tick:=m.tick+1}
def Mem.alloc(m:Mem)(k:dZ):Mem:={m with heap:=m.heap.put m.next {k with bK:=m.tick},tick:=m.tick+1,next:=m.next+1}
def fU:List (Option ae)->Nat->Option (List ae)
 |_,0=>some []
 |some v::t,n+1=>(fU t n).map (v::·)
 |_,_=>none
def eD:List (Option ae)->Nat->List ae->Option (List (Option ae))
 |l,_,[]=>some l
 |some _::t,0,v::vs=>(eD t 0 vs).map (some v::·)
 |x::t,i+1,vs=>(eD t i vs).map (x::·)
 |_,_,_=>none
def Mem.dK(m:Mem)(b o n:Nat):Option (List ae):=
 let k:=m.blk b
 if k.kind==1&&!meets m.bh b o n then fU (k.cs.drop o) n else none
def Mem.dh(m:Mem)(b o n:Nat):Bool:=
 !meets m.bh b o n&&decide (m.base<=b)&&(decide (m.floor<=b)||gI m.opn b||(List.range n).all fun i=>bz m.opn b (o+i))
def Mem.dP(m:Mem)(b o:Nat)(vs:List ae):Option Mem:=
 let k:=m.blk b
 if k.kind==1&&m.dh b o vs.length&&vs.all (·.oneCell')then(eD k.cs o vs).map fun cs=>m.a9 b {k with cs:=cs}else none
def Mem.fA(m:Mem)(b:Nat):Bool:=!aJ m.bh b&&decide (m.base<=b)&&(decide (m.floor<=b)||gI m.opn b)
def Mem.bI(m:Mem)(b:Nat):Bool:=!aJ m.bh b&&decide (m.home<=b)
def cH:Nat:=18446744073709551616
def de:ae->Bool
 | .bool _| .int _ _| .string _| .nilIface| .nilFunc| .pointer none| .slice none _ _| .map none=>true
 |_=>false
def plain:ae->Bool
 | .agg cs=>cs.toList.all de
 | .tuple cs=>cs.toList.all de
 |v=>de v
def ptrTo (b o:Nat):ae:= .pointer (some ⟨b,o,none⟩)
def _root_.Go.Sem.aM{α:Type}(P:aC):Sem α->Option α
 | .pure a=>some a
 | .program k=>(k P).aM P
 |_=>none
def zC (P:aC)(t:aO):Option Bool:=(P.underlying t).map fun d=>match d with | .struct _| .array _ _=>true|_=>false
def ep (P:aC)(t:aO):Option Nat:=(P.info? t).map (·.size)
def iw (P:aC)(t:aO):Option ae:=
 match P.info? t with
 |some i=>match i.zero with
  |some z=>if z.cells.toList.all de&&z.cells.size==i.size then some z else none
  |none=>none
 |none=>none
def ky (P:aC)(t:aO)(p:ae)(m:Mem):Option ae:=
 match p with
 | .pointer (some ⟨b,o,none⟩)=>
  match zC P t with
  |some true=>(ep P t).bind fun n=>(m.dK b o n).map fun l=> .agg l.toArray
  |some false=>(m.dK b o 1).bind (·.head?)
  |none=>none
 |_=>none
def v8 (P:aC)(t:aO)(p x:ae)(m:Mem):Option Mem:=
 match p with
 | .pointer (some ⟨b,o,none⟩)=>if ep P t=some x.cells.size then m.dP b o x.cells.toList else none
 |_=>none
def cC (m:Mem)(sz:Nat)(cs:List ae):ae×Mem:=(ptrTo m.next 0,m.alloc {kind:=1,sz:=sz,cs:=cs.map some,pos:=1})
def NK (P:aC)(t:aO)(cs:Array ae)(off:Nat):Option ae:=
 match zC P t with
 |some true=>(ep P t).map fun n=> .agg (cs.extract off (off+n))
 |some false=>cs[off]?
 |none=>none
def sw (P:aC)(s:aO)(p:ae)(f:Nat):Option ae:=
 match P.underlying s,p with
 |some (.struct fields),.pointer (some ⟨b,o,none⟩)=>
  match fields[f]? with
  |some fd=>match ep P fd.type with
   |some (_+1)=>some (ptrTo b (o+fd.offset))
   |_=>none
  |none=>none
 |_,_=>none
def Hf (P:aC)(s:aO)(x:ae)(f:Nat):Option ae:=
 match P.underlying s,x with
 |some (.struct fields),.agg cs=>(fields[f]?).bind fun fd=>NK P fd.type cs fd.offset
 |_,_=>none
def pJ (P:aC)(t:aO)(x i:ae):Option ae:=
 match P.underlying t,x,i with
 |some (.slice e),.slice (some ⟨b,o,none⟩) len _,.int _ n=>
  if 0<=n/\n<len then(ep P e).map fun s=>ptrTo b (o+n.toNat*s)else none
 |some (.array len e),.pointer (some ⟨b,o,none⟩),.int _ n=>
  if 0<=n/\n<len then(ep P e).map fun s=>ptrTo b (o+n.toNat*s)else none
 |_,_,_=>none
def wB (P:aC)(t:aO)(x i:ae):Option ae:=
 match P.underlying t,x,i with
 |some (.array len e),.agg cs,.int _ n=>if 0<=n/\n<len then(ep P e).bind fun s=>NK P e cs (n.toNat*s)else none
 |_,_,_=>none
def gH (v:Option ae)(d:Nat):Option Nat:=
 match v with
 |none=>some d
 |some (.int _ n)=>if 0<=n then some n.toNat else none
 |_=>none
def iy (P:aC)(t:aO)(x:ae)(lo hi:Option ae)(m:Mem):Option ae:=
 match P.underlying t,x with
 |some (.slice e),.slice (some ⟨b,o,none⟩) len cap=>
  match gH lo 0,gH hi len,ep P e with
  |some l,some h,some s=>
   if cap=cH then
    (if l<=h/\h<=len/\(l=0\/(l<len/\(m.blk b).kind=1/\(m.blk b).sz=s))then some (.slice (some ⟨b,o+l*s,none⟩) (h-l) cH)else none)
   else if cap<cH/\l<=h/\h<=cap then some (.slice (some (if cap=l then⟨b,o,none⟩else⟨b,o+l*s,none⟩)) (h-l) (cap-l))else none
  |_,_,_=>none
 |some (.slice e),.slice none len cap=>
  match gH lo 0,gH hi len,ep P e with
  |some l,some h,some s=>if cap<cH/\l<=h/\h<=cap then some (.slice none (h-l) (cap-l))else none
  |_,_,_=>none
 |some (.array n e),.pointer (some ⟨b,o,none⟩)=>
  match gH lo 0,gH hi n,ep P e with
  |some l,some h,some s=>if n<cH/\l<=h/\h<=n then some (.slice (some (if n=l then⟨b,o,none⟩else⟨b,o+l*s,none⟩)) (h-l) (n-l))else none
  |_,_,_=>none
 |_,_=>none
def lR (m:Mem)(size n:Nat):ae->Option (List ae)
 | .slice (some ⟨b,o,none⟩) _ _=>m.dK b o (n*size)
 | .slice none _ _=>some []
 | .string s=>if size=1/\n=s.size then some (s.data.toList.map fun b=> .int .u8 b.toNat)else none
 |_=>none
def GU:ae->Option Nat
 | .slice _ n _=>some n
 | .string s=>some s.size
 |_=>none
def zj (P:aC)(e:aO)(need:Nat):Bool:=match P.info? e with |some i=>decide (0<i.bytes)&&decide (need*i.bytes<=2^46)&&decide (need<=2^46)&&(iw P e).isSome|none=>false
def cZ (P:aC)(kW:Array aO)(s x:ae)(m:Mem):Option (ae×Mem):=
 match(kW[0]?).bind P.underlying,kW[1]?,s with
 |some (.slice e),some xt,.slice base len cap=>
  match ep P e,GU x,P.underlying xt with
  |some size,some n,some (.slice _)=>
   match lR m size n x with
   |none=>none
   |some new=>
    if zj P e (len+n)=false\/new.length≠n*size\/new.all (·.oneCell')=false then none else
    if cap=cH then
     match base with
     |some ⟨b,o,none⟩=>
      let k:=m.blk b
      if k.kind==1&&k.sz==size&&m.fA b&&(k.cs.drop o).all (·.isSome)then
       match fU (k.cs.drop o) (len*size)with
       |some old=>
        let m':=(m.a9 b {}).alloc {kind:=1,sz:=size,cs:=(old++new).map some}
        some (.slice (some ⟨m.next,0,none⟩) (len+n) cH,m')
       |none=>none
      else none
     |_=>none
    else if len+n<=cap then
     match base with
     |some ⟨b,o,none⟩=>(m.dP b (o+len*size) new).map fun m'=>(.slice base (len+n) cap,m')
     |none=>some (.slice none (len+n) cap,m)
     |_=>none
    else match lR m size len s with
     |some old=>if old.length=len*size then some (.slice (some ⟨m.next,0,none⟩) (len+n) cH,m.alloc {kind:=1,sz:=size,cs:=(old++new).map some})else none
     |none=>none
  |_,_,_=>none
 |_,_,_=>none
def Fz (P:aC)(kW:Array aO)(d s:ae)(m:Mem):Option (ae×Mem):=
 match(kW[0]?).bind P.underlying,d with
 |some (.slice e),.slice base dl _=>
  match ep P e,GU s with
  |some size,some sl=>
   match s with
   | .slice .. =>
    (lR m size (Nat.min sl dl) s).bind fun cells=>
     match base with
     |some ⟨b,o,none⟩=>(m.dP b o cells).map fun m'=>(goInt (Nat.min sl dl:Nat),m')
     |none=>some (goInt (Nat.min sl dl:Nat),m)
     |_=>none
   |_=>none
  |_,_=>none
 |_,_=>none
def j8 (P:aC)(kW:Array aO)(x:ae)(m:Mem):Option (ae×Mem):=
 match(kW[0]?).bind P.underlying,x with
 |some (.slice e),.slice base n _=>
  match base with
  |none=>some (.tuple #[],m)
  |some ⟨b,o,none⟩=>
   if n=0 then some (.tuple #[],m)
   else(iw P e).bind fun z=>(m.dP b o (Builtin.zeroCells z.cells n).toList).map fun m'=>(.tuple #[],m')
  |_=>none
 |_,_=>none
def rF (P:aC)(t:aO)(xc yc:Bool)(x y:ae):Option Bool:=
 match P.underlying t,x,y with
 |some (.pointer _),.pointer none,.pointer b=>some b.isNone
 |some (.pointer _),.pointer (some _),.pointer none=>some false
 |some (.slice _),.slice none _ _,.slice b _ _=>some b.isNone
 |some (.slice _),.slice (some _) _ _,.slice none _ _=>some false
 |some (.interface _),.nilIface,.nilIface=>if xc||yc then some true else none
 |some (.interface _),.nilIface,.iface _ _=>some false
 |some (.interface _),.iface _ _,.nilIface=>some false
 |_,_,_=>none
def isConst:bS->Bool
 | .const _=>true
 |_=>false
def strKeys:List MapEntry->Bool
 | []=>true
 |e::es=>(match e.key with | .string _=>true|_=>false)&&strKeys es
def kH (s:ByteArray):List MapEntry->Nat->Option (Nat×ae)
 | [],_=>none
 |e::es,i=>match e.key with | .string k=>if s==k then some (i,e.val)else kH s es (i+1)|_=>none
def iQ (P:aC)(t:aO)(x k:ae)(ok:Bool)(m:Mem):Option ae:=
 match P.underlying t,x,k with
 |some (.map kt et),.map r,.string s=>
  match P.underlying kt,iw P et with
  |some .string,some z=>
   match(match r with
    |none=>some #[]
    |some b=>let q:=m.blk b;if q.kind==2&&m.bI b then some q.es else none)with
   |some es=>if strKeys es.toList then
     let v:=match kH s es.toList 0 with |some (_,v)=>(v,true)|none=>(z,false)
     some (if ok then .tuple #[v.1,.bool v.2]else v.1)
    else none
   |none=>none
  |_,_=>none
 |_,_,_=>none
def kT (P:aC)(t:aO)(x k v:ae)(m:Mem):Option Mem:=
 match P.underlying t,x,k with
 |some (.map kt _),.map (some b),.string s=>
  match P.underlying kt with
  |some .string=>
   let q:=m.blk b
   if q.kind==2&&m.bI b&&strKeys q.es.toList then
    match kH s q.es.toList 0 with
    |some (i,_)=>some (m.a9 b {q with es:=q.es.modify i fun e=>{e with key:=k,val:=v}})
    |none=>some (m.a9 b {q with es:=q.es.push {key:=k,val:=v,born:=q.clock},clock:=q.clock+1})
   else none
  |_=>none
 |_,_,_=>none
def qg (P:aC)(x:ae)(t a:aO)(ok:Bool):Option ae:=
 match P.underlying a,x,ok with
 |some (.interface _),_,_=>none
 |some _,.nilIface,true=>(iw P a).map fun z=> .tuple #[z,.bool false]
 |some _,.iface d v,true=>if d=a then some (.tuple #[v,.bool true])else(iw P a).map fun z=> .tuple #[z,.bool false]
 |_,_,_=>none
def Dl (P:aC)(t:aO)(parts:List (Nat×ae)):Option ae:=
 match iw P t,P.underlying t with
 |some z,some (.struct fields)=>
  match fields.mapM (m:=Option) fun f=>(ep P f.type).map fun n=>(f.offset,n)with
  |some places=>(Instr.fill (places[·]?) z.cells parts).map .agg
  |none=>none
 |some z,some (.array _ e)=>(ep P e).bind fun n=>(Instr.fill (fun i=>some (i*n,n)) z.cells parts).map .agg
 |_,_=>none
def bY (P:aC)(t:aO)(len:Nat)(parts:List (Nat×ae))(m:Mem):Option (ae×Mem):=
 match P.underlying t with
 |some (.slice e)=>
  match ep P e,iw P e with
  |some size,some z=>
   if len*size>2^24\/cH<=len then none else
   (Instr.fill (fun i=>some (i*size,size)) ((Array.range (len*size)).map (z.cells[·%z.cells.size]!)) parts).map fun cs=>
    (.slice (some ⟨m.next,0,none⟩) len len,m.alloc {kind:=1,sz:=size,cs:=cs.toList.map some})
  |_,_=>none
 |_=>none
def fP (P:aC)(t:aO)(l c:ae)(m:Mem):Option (ae×Mem):=
 match P.underlying t,l,c with
 |some (.slice e),.int .i64 l,.int .i64 c=>
  match P.info? e,iw P e with
  |some i,some z=>
   if 0<=l/\l<=c/\c*i.bytes<=2^40/\c<=2^40 then
    some (.slice (some ⟨m.next,0,none⟩) l.toNat c.toNat,
     m.alloc {kind:=1,sz:=i.size,cs:=(((Array.range (c.toNat*i.size)).map (z.cells[·%z.cells.size]!)).toList.map some)})
   else none
  |_,_=>none
 |_,_,_=>none
def fK (P:aC)(s d:aO)(x:ae)(m:Mem):Option (ae×Mem):=
 match P.underlying s,P.underlying d,x with
 |some (.pointer t),some .unsafePointer,.pointer (some ⟨b,o,none⟩)=>
  let k:=m.blk b
  match ep P t with
  |some (_+1)=>if k.kind==1&&decide (o<k.cs.length)then some (x,m)else none
  |_=>none
 |some .string,some (.slice e),.string s=>
  match P.underlying e with
  |some (.int .u8)=>if s.size=0\/s.size>2^46 then none else
    some (.slice (some ⟨m.next,0,none⟩) s.size cH,m.alloc {kind:=1,sz:=1,cs:=s.data.toList.map fun b=>some (.int .u8 b.toNat)})
  |_=>none
 |some (.slice e),some .string,.slice a len _=>
  match P.underlying e,a with
  |some (.int .u8),none=>some (.string .empty,m)
  |some (.int .u8),some ⟨b,o,none⟩=>
   (m.dK b o len).bind fun l=>(l.mapM (m:=Option) fun v=>match v with | .int .u8 n=>some (UInt8.ofNat n.toNat)|_=>none).map fun bs=>(.string ⟨bs.toArray⟩,m)
  |_,_=>none
 |_,_,_=>none
def yO (P:aC)(t:aO)(x:ae)(m:Mem):Option (ae×Mem):=
 match P.underlying t,x with
 |some .string,.string s=>some (ptrTo m.next 0,m.alloc {kind:=3,str:=s,pos:=0})
 |_,_=>none
def EY (it:ae)(isS:Bool)(m:Mem):Option (ae×Mem):=
 match it,isS with
 | .pointer (some ⟨b,0,none⟩),true=>
  let k:=m.blk b
  if k.kind==3&&m.bI b then
   if k.pos<k.str.size then
    let d:=Utf8.decode k.str k.pos
    some (.tuple #[.bool true,goInt k.pos,.int .i32 d.1],m.a9 b {k with pos:=k.pos+d.2})
   else some (.tuple #[.bool false],m)
  else none
 |_,_=>none
def dp (P:aC)(ev:bS->ae)(o:gK):Option ae:=
 if o.op.operands.all (fun x=>plain (ev x))then
  match(execOp ev o).aM P with
  |some (.value v)=>if plain v then some v else none
  |_=>none
 else none
def jQ (P:aC)(recv:ae)(name:String):Option (Nat×ae):=
 match recv with
 | .iface t v=>
  match P.info? t,P.underlying t with
  |some i,some (.pointer _)=>
   match i.methods.find? (·.name==name)with
   |some mt=>match mt.path.toList,mt.func with
    | [],some (f,true)=>some (f,v)
    |_,_=>none
   |none=>none
  |_,_=>none
 |_=>none
def dE (P:aC)(ev:bS->ae)(o:gK)(m:Mem):Option (ae×Mem):=
 match o.op with
 | .move x=>some (ev x,m)
 | .assign x=>some (ev x,m)
 | .pick c a b=>match ev c with | .bool t=>some (if t then ev a else ev b,m)|_=>none
 | .alloc e=>(iw P e).map fun z=>cC m 0 z.cells.toList
 | .box _ v=>some (cC m 0 (ev v).cells.toList)
 | .build t ps=>(Dl P t (ps.map fun(i,x)=>(i,ev x)).toList).map fun v=>(v,m)
 | .buildSlice t n ps=>bY P t n (ps.map fun(i,x)=>(i,ev x)).toList m
 | .load t a=>(ky P t (ev a) m).map fun v=>(v,m)
 | .store t a x=>(v8 P t (ev a) (ev x) m).map fun m'=>(undef,m')
 | .nilCheck x=>match ev x with
  | .pointer (some a)=>some (.pointer (some a),m)
  | .func (.method name) first cap=>match(first[0]?:Option ae)with
   |some r=>if(jQ P r name).isSome then some (.func (.method name) first cap,m)else none
   |none=>none
  |_=>none
 | .binOp op t x y _=>
  match op with
  | .eql=>match rF P t (isConst x) (isConst y) (ev x) (ev y)with |some b=>some (.bool b,m)|none=>(dp P ev o).map fun v=>(v,m)
  | .neq=>match rF P t (isConst x) (isConst y) (ev x) (ev y)with |some b=>some (.bool (!b),m)|none=>(dp P ev o).map fun v=>(v,m)
  |_=>(dp P ev o).map fun v=>(v,m)
 | .unOp .. =>(dp P ev o).map fun v=>(v,m)
 | .convert s d x=>match fK P s d (ev x) m with |some r=>some r|none=>(dp P ev o).map fun v=>(v,m)
 | .makeInterface t x=>match P.underlying t with |some (.interface _)=>none|some _=>some (.iface t (ev x),m)|none=>none
 | .makeFunc fn f c=>some (.func fn (f.map ev) (c.map ev),m)
 | .makeMap _ none=>some (.map (some m.next),m.alloc {kind:=2})
 | .makeSlice t l c=>fP P t (ev l) (ev c) m
 | .slice t x lo hi none=>match iy P t (ev x) (lo.map ev) (hi.map ev) m with |some v=>some (v,m)|none=>(dp P ev o).map fun v=>(v,m)
 | .fieldAddr s x f=>(sw P s (ev x) f).map fun v=>(v,m)
 | .field s x f=>(Hf P s (ev x) f).map fun v=>(v,m)
 | .indexAddr t x i=>(pJ P t (ev x) (ev i)).map fun v=>(v,m)
 | .index t x i=>match wB P t (ev x) (ev i)with |some v=>some (v,m)|none=>(dp P ev o).map fun v=>(v,m)
 | .lookup t x i ok=>(iQ P t (ev x) (ev i) ok m).map fun v=>(v,m)
 | .mapUpdate t x k v=>(kT P t (ev x) (ev k) (ev v) m).map fun m'=>(undef,m')
 | .typeAssert x t a ok=>(qg P (ev x) t a ok).map fun v=>(v,m)
 | .extract t i=>match ev t with | .tuple vs=>(vs[i]?).map fun v=>(v,m)|_=>none
 | .range t x=>yO P t (ev x) m
 | .next it s=>EY (ev it) s m
 | .call {callee:= .builtin b,args,argTypes}=>
  match b,args.toList with
  | .append,[s,x]=>cZ P argTypes (ev s) (ev x) m
  | .copy,[d,s]=>Fz P argTypes (ev d) (ev s) m
  | .clear,[x]=>j8 P argTypes (ev x) m
  | .len,[x]=>match(argTypes[0]?).bind P.underlying,ev x with
   |some (.slice _),.slice _ n _=>some (goInt n,m)
   |_,_=>(dp P ev o).map fun v=>(v,m)
  | .min,_=>(dp P ev o).map fun v=>(v,m)
  | .max,_=>(dp P ev o).map fun v=>(v,m)
  |_,_=>none
 |_=>none
structure Ext where
 disable:Nat
 enable:Nat
 acquire:Nat
 tJ:Nat
 FB:Nat
 Ks:Nat
 KX:Nat
 vV:Nat
 Fp:Nat
 Fo:Nat
def uj (X:Ext)(f:Nat)(args:List ae)(m:Mem):Option (ae×Mem):=
 if f=X.disable then(match args with | []=>some (.tuple #[],{m with deaf:=m.deaf+1})|_=>none)
 else if f=X.enable then(match args with | []=>some (.tuple #[],{m with deaf:=m.deaf-1})|_=>none)
 else if f=X.acquire then(match args with | [.pointer (some ⟨_,_,none⟩)]=>some (.tuple #[],m)|_=>none)
 else if f=X.tJ then(match args with | [.pointer (some ⟨_,_,none⟩)]=>some (.tuple #[],m)|_=>none)
 else if f=X.FB then
  (match args with
   | [.pointer (some ⟨b,o,none⟩),.int .i32 x,.int .i32 y]=>
    match m.dK b o 1 with
    |some [.int .i32 v]=>if v=x then(m.dP b o [.int .i32 y]).map fun m'=>(.bool true,m')else if m.base<=b then some (.bool false,m)else none
    |_=>none
   |_=>none)
 else if f=X.Ks then
  (match args with
   | [.pointer (some ⟨b,o,none⟩),.int .i32 y]=>
    match m.dK b o 1 with
    |some [.int .i32 v]=>(m.dP b o [.int .i32 (bU.i32.wrap (v+y))]).map fun m'=>(.int .i32 (bU.i32.wrap (v+y)),m')
    |_=>none
   |_=>none)
 else none
abbrev cE:=Nat->List ae->Mem->Option (ae×Mem)
def rX (X:Ext)(dL:ae)(m:Mem):Option (Nat×Nat×Nat):=
 match dL with
 | .func (.func f) _ cap=>
  if f=X.Fp\/f=X.Fo then
   match(cap[0]?:Option ae),(cap[1]?:Option ae)with
   |some (.pointer (some ⟨pb,po,none⟩)),some (.pointer (some ⟨ib,io,none⟩))=>
    match m.dK pb po 1,m.dK ib io 1 with
    |some [.pointer (some ⟨d,o,none⟩)],some [.int .i64 i]=>if 0<=i then some (d,o,i.toNat)else none
    |_,_=>none
   |_,_=>none
  else none
 |_=>none
def z9 (m:Mem)(d o j:Nat):Option (List Span):=
 match m.dK d (o+2*j) 1 with
 |some [.slice (some ⟨b,_,none⟩) _ _]=>some [(d,d+1,some (o+2*j)),(d,d+1,some (o+2*j+1)),(b,b+1,none)]
 |some [.slice none _ _]=>some [(d,d+1,some (o+2*j)),(d,d+1,some (o+2*j+1))]
 |_=>none
def oK (m:Mem)(d o:Nat):Nat->Option (List Span)
 |0=>some []
 |j+1=>match oK m d o j,z9 m d o j with
  |some l,some l'=>some (l'++l)
  |_,_=>none
def wx (m:Mem)(s:Span):Bool:=
 decide (s.2.1=s.1+1)&&decide (m.base<=s.1)&&decide (m.floor<=s.1)&&decide (s.1<m.next)&&(m.blk s.1).kind==1&&
  (match s.2.2 with |some o=>(((m.blk s.1).cs[o]?).any (·.isSome))|none=>(m.blk s.1).cs.all (·.isSome))
def js:List Span->Bool
 | []=>true
 |s::l=>(l.all fun t=>s.1 !=t.1||(match s.2.2,t.2.2 with |some x,some y=>x !=y|_,_=>false))&&js l
def Bj (call:cE)(fv:ae)(args:List ae)(m:Mem):Option (ae×Mem):=
 match fv with
 | .func (.func f) first cap=>call f (first.toList++args++cap.toList) m
 |_=>none
def kU (w d o:Nat)(m:Mem):Option Mem:=
 match m.wg with
 |some w'=>if w=w' then some m else none
 |none=>match m.dK w 0 2,oK m d o 4 with
  |some [.int .u64 0,.int .u32 0],some l=>
   if m.dh w 0 2&&m.fA w&&(m.blk w).pos==1&&decide ((m.blk w).cs.length=2)&&decide (m.bh=[])&&decide (m.opn=[])&&decide (m.pend=[])&&decide (m.floor=m.base)&&l.all (fun s=>wx m s&&s.1 !=w)&&js l
   then some {m.a9 w {}with wg:=some w,opn:=l,floor:=m.next}else none
  |_,_=>none
def wS (s t:Span):Bool:=Nat.ble s.2.1 t.1||Nat.ble t.2.1 s.1||(match s.2.2,t.2.2 with |some x,some y=>x !=y|_,_=>false)
def v9 (X:Ext)(mr:cE)(args:List ae)(m:Mem):Option (ae×Mem):=
 match args with
 | [.pointer (some ⟨w,0,none⟩),dL]=>
  match rX X dL m with
  |some (d,o,i)=>
   match kU w d o m with
   |some aV=>
    let m:=(cC (cC aV 0 [ptrTo w 0]).2 0 [dL]).2
    match z9 m d o i with
    |some l=>
     let rest:=m.opn.filter fun s=>!l.contains s
     if m.deaf=0/\m.pend.length<4/\(l.all fun s=>m.opn.contains s)=true/\js l=true/\(l.all fun s=>(rest++m.bh).all (wS s))=true/\((rest++l).all fun t=>Nat.ble t.2.1 aV.next)=true/\(l.all fun s=>Nat.beq s.2.1 (s.1+1)&&Nat.beq (m.blk s.1).kind 1)=true then
      match Bj mr dL [] {m with home:=m.next,floor:=m.next,opn:=l,bh:=rest++m.bh,wg:=none,pend:=[]}with
      |some (_,m2)=>if m2.deaf=0 then
        some (.tuple #[],{m2 with home:=m.home,floor:=m2.next,opn:=rest,wg:=m.wg,bh:=(m.next,m2.next,none)::(l++m.bh),pend:={lo:=m.next,hi:=m2.next,oL:=l,bh:=rest++m.bh,heap:=m2.heap}::m.pend})
       else none
      |none=>none
     else none
    |none=>none
   |none=>none
  |none=>none
 |_=>none
def E8 (args:List ae)(m:Mem):Option (ae×Mem):=
 match args,m.wg with
 | [.pointer (some ⟨w,0,none⟩)],some w'=>if w=w'/\m.deaf=0/\m.opn=[]/\Nat.ble m.base m.next=true then some (.tuple #[],{m with bh:=[],floor:=m.base,wg:=none,pend:=[]})else none
 |_,_=>none
def fx (o:gK):Bool:=
 match o.op with
 | .move _| .assign _| .pick .. | .fieldAddr .. | .field .. | .extract .. | .unOp .. | .binOp .. | .makeInterface .. | .makeFunc .. | .typeAssert .. | .nilCheck _
 | .index .. | .indexAddr .. | .slice .. | .build .. | .load .. | .lookup .. | .alloc _| .box .. | .buildSlice .. | .makeSlice .. | .makeMap .. =>true
 | .call {callee:= .builtin b,.. }=>match b with | .len| .min| .max=>true|_=>false
 |_=>false
def aE (ops:Array gK):List Nat:=(List.range ops.size).filter fun i=>(ops[i]?).any fun o=>!fx o
def ym (bD:Array Nat):List Nat->Bool
 |a::b::l=>(bD.getD b 0).testBit a&&ym bD (b::l)
 |_=>true
def cX (bD:Array Nat)(hs:List Nat)(i:Nat):Nat:=(hs.filter fun h=>(bD.getD i 0).testBit h).length
def qZ (bD:Array Nat)(hs:List Nat)(i:Nat):Nat:=(hs.filter fun h=> !(bD.getD h 0).testBit i).length
def ko (ops:Array gK)(o:gK):List Tmp:=
 (o.op.operands.toList.filterMap fun x=>match x with | .tmp t=>some t|_=>none)++(match o.guard with |some (g,_)=>((ops[g]?).bind (·.dst)).toList|none=>[])
def tidy (ops:Array gK)(bD:Array Nat):Bool:=
 (List.range ops.size).all fun i=>(List.range ops.size).all fun j=>
  match ops[i]?,ops[j]? with
  |some x,some y=>(match y.dst with
   |some d=>(i==j||x.dst !=some d)&&(!(ko ops x).contains d||((bD.getD i 0).testBit j||(bD.getD j 0).testBit i))
   |none=>true)
  |_,_=>true
theorem AA {p:Prop}[Decidable p](h:p):decide p=true:=decide_eq_true h
theorem yA {p:Prop}[Decidable p](h:¬p):decide p=false:=decide_eq_false h
theorem iB {p:Prop}[Decidable p]:(decide p=true)=p:=decide_eq_true_eq
theorem bj.{u}{c:Prop}{h:Decidable c}(hc:c){α:Sort u}{t e:α}:ite c t e=t:=if_pos hc
theorem bW.{u}{c:Prop}{h:Decidable c}(hc:¬c){α:Sort u}{t e:α}:ite c t e=e:=if_neg hc
theorem ai {p:Prop}(h:p:=by omega):p:=h
theorem ft {p:Prop}(h:p:=by assumption):p:=h
theorem du {p:Prop}(h:p:=by simp):p:=h
theorem eS {p:Prop}(h:p:=by decide):p:=h
theorem g8 {p:Prop}(h:p:=by intro h;cases h):p:=h
theorem Vp {p:Prop}(h:p:=by refine And.intro ?_ du;intro x hx;first |(cases hx;done)|(obtain⟨y,_,hy⟩:=List.mem_map.1 hx;rw[<-hy];simp)):p:=h
end Go.AM
namespace Go.AM
open Go
def bH {α β:Type}(R:α->β->Prop):List α->List β->Prop
 | [],[]=>True
 |a::l,b::r=>R a b/\bH R l r
 |_,_=>False
section
variable {α β γ:Type}{R S:α->β->Prop}
theorem bH.length{l:List α}{r:List β}(h:bH R l r):l.length=r.length:=by
 induction l generalizing r with
 |nil=>cases r<;>simp_all [bH]
 |cons a l ih=>cases r with
  |nil=>exact h.elim
  |cons b r=>simp[ih h.2]
theorem bH.mono{l:List α}{r:List β}(h:bH R l r)(hs:∀a b,R a b->S a b):bH S l r:=by
 induction l generalizing r with
 |nil=>cases r<;>simp_all [bH]
 |cons a l ih=>cases r with
  |nil=>exact h.elim
  |cons b r=>exact⟨hs _ _ h.1,ih h.2⟩
theorem bH.get{l:List α}{r:List β}(h:bH R l r){i:Nat}{a:α}(ha:l[i]?=some a):∃b,r[i]?=some b/\R a b:=by
 induction l generalizing r i with
 |nil=>simp at ha
 |cons x l ih=>cases r with
  |nil=>exact h.elim
  |cons b r=>cases i with
   |zero=>simp at ha;subst ha;exact⟨b,rfl,h.1⟩
   |succ i=>simp at ha;simpa using ih h.2 ha
theorem bH.get'{l:List α}{r:List β}(h:bH R l r){i:Nat}{b:β}(hb:r[i]?=some b):∃a,l[i]?=some a/\R a b:=by
 induction l generalizing r i with
 |nil=>cases r<;>simp_all [bH]
 |cons x l ih=>cases r with
  |nil=>exact h.elim
  |cons y r=>cases i with
   |zero=>simp at hb;subst hb;exact⟨x,rfl,h.1⟩
   |succ i=>simp at hb;simpa using ih h.2 hb
theorem bH.GA{l:List α}{r:List β}(hl:l.length=r.length)(h:∀(i:Nat) a b,l[i]?=some a->r[i]?=some b->R a b):bH R l r:=by
 induction l generalizing r with
 |nil=>cases r<;>simp_all [bH]
 |cons x l ih=>cases r with
  |nil=>simp at hl
  |cons y r=>exact⟨h 0 _ _ rfl rfl,ih (by simpa using hl) fun i a b ha hb=>h (i+1) a b (by simpa using ha) (by simpa using hb)⟩
theorem bH.append{l GI:List α}{r adT:List β}(h:bH R l r)(AJ:bH R GI adT):bH R (l++GI) (r++adT):=by
 induction l generalizing r with
 |nil=>cases r<;>simp_all [bH]
 |cons a l ih=>cases r with
  |nil=>exact h.elim
  |cons b r=>exact⟨h.1,ih h.2⟩
theorem bH.pF{δ:Type}{f:δ->α}{g:δ->β}{l:List δ}(h:∀x∈l,R (f x) (g x)):bH R (l.map f) (l.map g):=by
 induction l with
 |nil=>trivial
 |cons a l ih=>exact⟨h a du,ih fun x hx=>h x (by simp[hx])⟩
theorem bH.set{l:List α}{r:List β}(h:bH R l r){a:α}{b:β}(w7:R a b)(i:Nat):bH R (l.set i a) (r.set i b):=by
 induction l generalizing r i with
 |nil=>cases r<;>simp_all [bH]
 |cons x l ih=>cases r with
  |nil=>exact h.elim
  |cons y r=>cases i with
   |zero=>exact⟨w7,h.2⟩
   |succ i=>exact⟨h.1,ih h.2 i⟩
theorem bH.drop{l:List α}{r:List β}(h:bH R l r)(i:Nat):bH R (l.drop i) (r.drop i):=by
 induction l generalizing r i with
 |nil=>cases r<;>simp_all [bH]
 |cons x l ih=>cases r with
  |nil=>exact h.elim
  |cons y r=>cases i with
   |zero=>exact h
   |succ i=>exact ih h.2 i
theorem bH.take{l:List α}{r:List β}(h:bH R l r)(i:Nat):bH R (l.take i) (r.take i):=by
 induction l generalizing r i with
 |nil=>cases r<;>simp_all [bH]
 |cons x l ih=>cases r with
  |nil=>exact h.elim
  |cons y r=>cases i with
   |zero=>trivial
   |succ i=>exact⟨h.1,ih h.2 i⟩
theorem bH.refl{R:α->α->Prop}{l:List α}(h:∀a∈l,R a a):bH R l l:=by
 induction l with
 |nil=>trivial
 |cons a l ih=>exact⟨h a du,ih fun x hx=>h x (by simp[hx])⟩
theorem bH.getD{l:List α}{r:List β}(h:bH R l r){a:α}{b:β}(w7:R a b)(i:Nat):R (l.getD i a) (r.getD i b):=by
 simp only[List.getD_eq_getElem?_getD];cases hl:l[i]? with
 |none=>
  have :r[i]?=none:=by
   have :=h.length;simp only[List.getElem?_eq_none_iff]at*;omega
  simp[this,w7]
 |some x=>
  obtain⟨y,hy,Eh⟩:=h.get hl;simp[hy,Eh]
end
structure Pl where
 c:Nat
 d:Nat
 room:Nat
 sz:Nat
abbrev dw:=Nat->Option Pl
def dw.le(ρ bq:dw):Prop:=∀b p,ρ b=some p->bq b=some p
theorem dw.le_refl(ρ:dw):ρ.le ρ:=fun _ _ h=>h
theorem dw.le_trans{ρ Bn fg:dw}(h:ρ.le Bn)(h':Bn.le fg):ρ.le fg:=fun b p x=>h' b p (h b p x)
def VR (ρ:dw):Nat->ae->ae->Prop
 |0,_,_=>False
 |n+1,v,v'=>
  match v with
  | .pointer (some a)=>∃p,ρ a.block=some p/\a.spot=none/\v'= .pointer (some ⟨p.c,p.d+a.off,none⟩)
  | .slice (some a) len cap=>∃p gC,ρ a.block=some p/\a.spot=none/\v'= .slice (some ⟨p.c,p.d+a.off,none⟩) len gC/\(if cap=cH then len<=gC/\a.off+gC*p.sz<=p.room else gC=cap)
  | .map (some r)=>∃p,ρ r=some p/\v'= .map (some p.c)
  | .func fn f c=>∃f' c',v'= .func fn f' c'/\bH (VR ρ n) f.toList f'.toList/\bH (VR ρ n) c.toList c'.toList
  | .iface t x=>∃x',v'= .iface t x'/\VR ρ n x x'
  | .agg cs=>∃jf,v'= .agg jf/\bH (VR ρ n) cs.toList jf.toList
  | .tuple cs=>∃jf,v'= .tuple jf/\bH (VR ρ n) cs.toList jf.toList
  |v=>v'=v
def aQ (ρ:dw)(v v':ae):Prop:=∃n,VR ρ n v v'
section
variable {ρ bq:dw}
theorem VR.more:∀{n:Nat}{v v':ae},VR ρ n v v'->VR ρ (n+1) v v':=by
 intro n
 induction n with
 |zero=>intro v v' h;exact h.elim
 |succ n ih=>
  intro v v' h;cases v with
  |pointer a=>cases a<;>exact h
  |slice a l c=>cases a<;>exact h
  |map r=>cases r<;>exact h
  |func fn f c=>
   obtain⟨f',c',e,h1,h2⟩:=h;exact⟨f',c',e,h1.mono fun _ _=>ih,h2.mono fun _ _=>ih⟩
  |iface t x=>obtain⟨x',e,h⟩:=h;exact⟨x',e,ih h⟩
  |agg cs=>obtain⟨x',e,h⟩:=h;exact⟨x',e,h.mono fun _ _=>ih⟩
  |tuple cs=>obtain⟨x',e,h⟩:=h;exact⟨x',e,h.mono fun _ _=>ih⟩
  |_=>exact h
theorem VR.le{n m:Nat}(h:n<=m){v v':ae}(hv:VR ρ n v v'):VR ρ m v v':=by
 induction h with
 |refl=>exact hv
 |step _ ih=>exact ih.more
theorem VR.jN(h:ρ.le bq):∀{n:Nat}{v v':ae},VR ρ n v v'->VR bq n v v':=by
 intro n
 induction n with
 |zero=>intro v v' h;exact h.elim
 |succ n ih=>
  intro v v' hv;cases v with
  |pointer a=>cases a with
   |none=>exact hv
   |some a=>obtain⟨p,h1,h2⟩:=hv;exact⟨p,h _ _ h1,h2⟩
  |slice a l c=>cases a with
   |none=>exact hv
   |some a=>obtain⟨p,c',h1,h2⟩:=hv;exact⟨p,c',h _ _ h1,h2⟩
  |map r=>cases r with
   |none=>exact hv
   |some a=>obtain⟨p,h1,h2⟩:=hv;exact⟨p,h _ _ h1,h2⟩
  |func fn f c=>
   obtain⟨f',c',e,h1,h2⟩:=hv;exact⟨f',c',e,h1.mono fun _ _=>ih,h2.mono fun _ _=>ih⟩
  |iface t x=>obtain⟨x',e,h⟩:=hv;exact⟨x',e,ih h⟩
  |agg cs=>obtain⟨x',e,h⟩:=hv;exact⟨x',e,h.mono fun _ _=>ih⟩
  |tuple cs=>obtain⟨x',e,h⟩:=hv;exact⟨x',e,h.mono fun _ _=>ih⟩
  |_=>exact hv
theorem aQ.jN(h:ρ.le bq){v v':ae}(hv:aQ ρ v v'):aQ bq v v':=let⟨n,x⟩:=hv;⟨n,x.jN h⟩
theorem uN {l r:List ae}(h:bH (aQ ρ) l r):∃n,bH (VR ρ n) l r:=by
 induction l generalizing r with
 |nil=>exact⟨0,by cases r<;>simp_all [bH]⟩
 |cons a l ih=>cases r with
  |nil=>exact h.elim
  |cons b r=>
   obtain⟨n,hn⟩:=h.1;obtain⟨k,hk⟩:=ih h.2;exact⟨max n k,hn.le (Nat.le_max_left _ _),hk.mono fun _ _=>VR.le (Nat.le_max_right _ _)⟩
theorem uH {n:Nat}{l r:List ae}(h:bH (VR ρ n) l r):bH (aQ ρ) l r:=h.mono fun _ _ x=>⟨n,x⟩
theorem gN {cs:Array ae}{v':ae}:aQ ρ (.agg cs) v'↔∃jf,v'= .agg jf/\bH (aQ ρ) cs.toList jf.toList:=by
 constructor
 ·rintro⟨n,h⟩;cases n with
  |zero=>exact h.elim
  |succ n=>obtain⟨jf,e,h⟩:=h;exact⟨jf,e,uH h⟩
 ·rintro⟨jf,e,h⟩;obtain⟨n,h⟩:=uN h;exact⟨n+1,jf,e,h⟩
theorem eQ {cs:Array ae}{v':ae}:aQ ρ (.tuple cs) v'↔∃jf,v'= .tuple jf/\bH (aQ ρ) cs.toList jf.toList:=by
 constructor
 ·rintro⟨n,h⟩;cases n with
  |zero=>exact h.elim
  |succ n=>obtain⟨jf,e,h⟩:=h;exact⟨jf,e,uH h⟩
 ·rintro⟨jf,e,h⟩;obtain⟨n,h⟩:=uN h;exact⟨n+1,jf,e,h⟩
theorem fO {t:aO}{x v':ae}:aQ ρ (.iface t x) v'↔∃x',v'= .iface t x'/\aQ ρ x x':=by
 constructor
 ·rintro⟨n,h⟩;cases n with
  |zero=>exact h.elim
  |succ n=>obtain⟨jf,e,h⟩:=h;exact⟨jf,e,n,h⟩
 ·rintro⟨jf,e,n,h⟩;exact⟨n+1,jf,e,h⟩
theorem fN {fn:Fn}{f c:Array ae}{v':ae}:aQ ρ (.func fn f c) v'↔∃f' c',v'= .func fn f' c'/\bH (aQ ρ) f.toList f'.toList/\bH (aQ ρ) c.toList c'.toList:=by
 constructor
 ·rintro⟨n,h⟩;cases n with
  |zero=>exact h.elim
  |succ n=>obtain⟨f',c',e,h,h2⟩:=h;exact⟨f',c',e,uH h,uH h2⟩
 ·rintro⟨f',c',e,h,h2⟩;obtain⟨n,h⟩:=uN h;obtain⟨k,h2⟩:=uN h2;exact⟨max n k+1,f',c',e,h.mono fun _ _=>VR.le (Nat.le_max_left _ _),h2.mono fun _ _=>VR.le (Nat.le_max_right _ _)⟩
theorem cP {a:Addr}{v':ae}:aQ ρ (.pointer (some a)) v'↔∃p,ρ a.block=some p/\a.spot=none/\v'= .pointer (some ⟨p.c,p.d+a.off,none⟩):=by
 constructor
 ·rintro⟨n,h⟩;cases n with
  |zero=>exact h.elim
  |succ n=>exact h
 ·intro h;exact⟨1,h⟩
theorem bZ {a:Addr}{len cap:Nat}{v':ae}:aQ ρ (.slice (some a) len cap) v'↔∃p gC,ρ a.block=some p/\a.spot=none/\v'= .slice (some ⟨p.c,p.d+a.off,none⟩) len gC/\(if cap=cH then len<=gC/\a.off+gC*p.sz<=p.room else gC=cap):=by
 constructor
 ·rintro⟨n,h⟩;cases n with
  |zero=>exact h.elim
  |succ n=>exact h
 ·intro h;exact⟨1,h⟩
theorem iV {r:Nat}{v':ae}:aQ ρ (.map (some r)) v'↔∃p,ρ r=some p/\v'= .map (some p.c):=by
 constructor
 ·rintro⟨n,h⟩;cases n with
  |zero=>exact h.elim
  |succ n=>exact h
 ·intro h;exact⟨1,h⟩
theorem aF {v v':ae}(hv:de v=true):aQ ρ v v'↔v'=v:=by
 constructor
 ·rintro⟨n,h⟩;cases n with
  |zero=>exact h.elim
  |succ n=>cases v with
   |pointer a=>cases a<;>simp_all [de,VR]
   |slice a l c=>cases a<;>simp_all [de,VR]
   |map a=>cases a<;>simp_all [de,VR]
   |_=>first |exact h|(simp[de]at hv)
 ·intro h;refine⟨1,?_⟩;cases v with
  |pointer a=>cases a<;>simp_all [de,VR]
  |slice a l c=>cases a<;>simp_all [de,VR]
  |map a=>cases a<;>simp_all [de,VR]
  |_=>first |exact h|(simp[de]at hv)
theorem qm {l r:List ae}(hl:l.all de=true)(h:bH (aQ ρ) l r):r=l:=by
 induction l generalizing r with
 |nil=>cases r<;>simp_all [bH]
 |cons a l ih=>cases r with
  |nil=>exact h.elim
  |cons b r=>
   simp only[List.all_cons,ag]at hl;rw[(aF hl.1).1 h.1,ih hl.2 h.2]
theorem iF {l:List ae}(hl:l.all de=true):bH (aQ ρ) l l:=by
 refine bH.refl fun a ha=>(aF ?_).2 rfl
 exact aB.1 hl a ha
theorem KY {v v':ae}(hv:plain v=true)(h:aQ ρ v v'):v'=v:=by
 cases v with
 |agg cs=>
  obtain⟨jf,e,h2⟩:=gN.1 h;have :=qm hv h2;rw[e,Array.ext' this]
 |tuple cs=>
  obtain⟨jf,e,h2⟩:=eQ.1 h;have :=qm hv h2;rw[e,Array.ext' this]
 |_=>exact(aF (by exact hv)).1 h
theorem cj {v:ae}(hv:plain v=true):aQ ρ v v:=by
 cases v with
 |agg cs=>exact gN.2 ⟨cs,rfl,iF hv⟩
 |tuple cs=>exact eQ.2 ⟨cs,rfl,iF hv⟩
 |_=>exact(aF (by exact hv)).2 rfl
theorem mE:aQ ρ undef undef:=cj rfl
theorem jO:aQ ρ (.tuple #[]) (.tuple #[]):=cj rfl
theorem aQ.cells{v v':ae}(h:aQ ρ v v'):bH (aQ ρ) v.cells.toList v'.cells.toList:=by
 cases v with
 |agg cs=>obtain⟨jf,e,h2⟩:=gN.1 h;subst e;exact h2
 |tuple cs=>obtain⟨jf,rfl,_⟩:=eQ.1 h;exact⟨h,trivial⟩
 |iface t x=>obtain⟨x',rfl,_⟩:=fO.1 h;exact⟨h,trivial⟩
 |func fn f c=>obtain⟨f',c',rfl,_⟩:=fN.1 h;exact⟨h,trivial⟩
 |pointer a=>cases a with
  |none=>have :=(aF (by rfl)).1 h;subst this;exact⟨h,trivial⟩
  |some a=>obtain⟨p,_,_,rfl⟩:=cP.1 h;exact⟨h,trivial⟩
 |slice a l c=>cases a with
  |none=>have :=(aF (by rfl)).1 h;subst this;exact⟨h,trivial⟩
  |some a=>obtain⟨p,c',_,_,rfl,_⟩:=bZ.1 h;exact⟨h,trivial⟩
 |map r=>cases r with
  |none=>have :=(aF (by rfl)).1 h;subst this;exact⟨h,trivial⟩
  |some a=>obtain⟨p,_,rfl⟩:=iV.1 h;exact⟨h,trivial⟩
 |bool b=>have :=(aF (by rfl)).1 h;subst this;exact⟨h,trivial⟩
 |int k n=>have :=(aF (by rfl)).1 h;subst this;exact⟨h,trivial⟩
 |string s=>have :=(aF (by rfl)).1 h;subst this;exact⟨h,trivial⟩
 |nilFunc=>have :=(aF (by rfl)).1 h;subst this;exact⟨h,trivial⟩
 |nilIface=>have :=(aF (by rfl)).1 h;subst this;exact⟨h,trivial⟩
 |float k b=>obtain⟨n,h'⟩:=h;cases n with |zero=>exact h'.elim|succ n=>have e:v'=_:=h';subst e;exact⟨⟨1,rfl⟩,trivial⟩
 |complex k a b=>obtain⟨n,h'⟩:=h;cases n with |zero=>exact h'.elim|succ n=>have e:v'=_:=h';subst e;exact⟨⟨1,rfl⟩,trivial⟩
 |chan r=>obtain⟨n,h'⟩:=h;cases n with |zero=>exact h'.elim|succ n=>have e:v'=_:=h';subst e;exact⟨⟨1,rfl⟩,trivial⟩
theorem aQ.NN{v v':ae}(h:aQ ρ v v')(hv:v.oneCell'=true):v'.oneCell'=true:=by
 cases v with
 |agg cs=>simp[ae.oneCell']at hv
 |tuple cs=>simp[ae.oneCell']at hv
 |iface t x=>obtain⟨x',rfl,_⟩:=fO.1 h;rfl
 |func fn f c=>obtain⟨f',c',rfl,_⟩:=fN.1 h;rfl
 |pointer a=>cases a with
  |none=>have :=(aF (by rfl)).1 h;subst this;rfl
  |some a=>obtain⟨p,_,_,rfl⟩:=cP.1 h;rfl
 |slice a l c=>cases a with
  |none=>have :=(aF (by rfl)).1 h;subst this;rfl
  |some a=>obtain⟨p,c',_,_,rfl,_⟩:=bZ.1 h;rfl
 |map r=>cases r with
  |none=>have :=(aF (by rfl)).1 h;subst this;rfl
  |some a=>obtain⟨p,_,rfl⟩:=iV.1 h;rfl
 |_=>obtain⟨n,h'⟩:=h;cases n with |zero=>exact h'.elim|succ n=>have e:v'=_:=h';subst e;exact hv
end
end Go.AM
namespace Go.AM
open Go
theorem P4 {α:Type}(d:α)(l:List α)(i:Nat)(v:α)(j:Nat):Cv d (GL d l i v) j=if i=j then v else Cv d l j:=by
 induction l generalizing i j with
 |nil=>
  induction i generalizing j with
  |zero=>cases j<;>simp[GL,Cv]
  |succ i ih=>cases j with
   |zero=>simp[GL,Cv]
   |succ j=>simp[GL,Cv,ih]
 |cons x l ih=>
  cases i with
  |zero=>cases j<;>simp[GL,Cv]
  |succ i=>cases j<;>simp[GL,Cv,ih]
theorem Uz (n:Hp4)(b:Nat)(k:dZ)(b':Nat)(h:b / 4096=b' / 4096):UC (aaW n b k) b'=if b=b' then k else UC n b':=by
 have d (x k:Nat):rP x k=x / k%8:=rfl;have e (x:Nat):Nat.mod x 8=x%8:=rfl;have l (x k:Nat):rP x k<8:=by rw[d];omega
 have l' (x:Nat):Nat.mod x 8<8:=by rw[e];omega
 unfold UC aaW;rw[N8.get_put _ _ (l ..) (l ..)]
 by_cases h1:rP b 512=rP b' 512
 ·rw[bj h1,N8.get_put _ _ (l ..) (l ..)]
  by_cases h2:rP b 64=rP b' 64
  ·rw[bj h2,N8.get_put _ _ (l ..) (l ..)]
   by_cases h3:rP b 8=rP b' 8
   ·rw[bj h3,N8.get_put _ _ (l' ..) (l' ..),h1,h2,h3]
    by_cases h4:Nat.mod b 8=Nat.mod b' 8
    ·rw[bj h4,bj (by simp only[d,e]at h1 h2 h3 h4;omega)]
    ·rw[bW h4,bW (by rintro rfl;exact h4 rfl)]
   ·rw[bW h3,bW (by rintro rfl;exact h3 rfl),h1,h2]
  ·rw[bW h2,bW (by rintro rfl;exact h2 rfl),h1]
 ·rw[bW h1,bW (by rintro rfl;exact h1 rfl)]
theorem iU.get_put(h:iU)(b:Nat)(k:dZ)(b':Nat):(h.put b k).get b'=if b=b' then k else h.get b':=by
 unfold iU.get iU.put;rw[P4]
 by_cases h1:Nat.div b 4096=Nat.div b' 4096
 ·rw[bj h1,Uz _ _ _ _ h1,h1]
 ·rw[bW h1,bW (by rintro rfl;exact h1 rfl)]
theorem Mem.eC(m:Mem)(b:Nat)(k:dZ)(b':Nat):(m.a9 b k).blk b'=if b=b' then{k with bK:=m.tick}else m.blk b':=iU.get_put ..
theorem Mem.cD(m:Mem)(k:dZ)(b':Nat):(m.alloc k).blk b'=if m.next=b' then{k with bK:=m.tick}else m.blk b':=iU.get_put ..
section
variable (m:Mem)(b:Nat)(k:dZ)
@[simp] theorem Mem.YJ:(m.a9 b k).next=m.next:=rfl
@[simp] theorem Mem.YH:(m.a9 b k).tick=m.tick+1:=rfl
@[simp] theorem Mem.YM:(m.a9 b k).base=m.base:=rfl
@[simp] theorem Mem.YK:(m.a9 b k).home=m.home:=rfl
@[simp] theorem Mem.Wd:(m.a9 b k).floor=m.floor:=rfl
@[simp] theorem Mem.aay:(m.a9 b k).opn=m.opn:=rfl
@[simp] theorem Mem.Lp:(m.a9 b k).bh=m.bh:=rfl
@[simp] theorem Mem.adw:(m.a9 b k).wg=m.wg:=rfl
@[simp] theorem Mem.YI:(m.a9 b k).pend=m.pend:=rfl
@[simp] theorem Mem.YL:(m.a9 b k).deaf=m.deaf:=rfl
@[simp] theorem Mem.ac7:(m.alloc k).next=m.next+1:=rfl
@[simp] theorem Mem.ac5:(m.alloc k).tick=m.tick+1:=rfl
@[simp] theorem Mem.ada:(m.alloc k).base=m.base:=rfl
@[simp] theorem Mem.ac8:(m.alloc k).home=m.home:=rfl
@[simp] theorem Mem.aab:(m.alloc k).floor=m.floor:=rfl
@[simp] theorem Mem.adx:(m.alloc k).opn=m.opn:=rfl
@[simp] theorem Mem.ady:(m.alloc k).bh=m.bh:=rfl
@[simp] theorem Mem.ail:(m.alloc k).wg=m.wg:=rfl
@[simp] theorem Mem.ac6:(m.alloc k).pend=m.pend:=rfl
@[simp] theorem Mem.ac9:(m.alloc k).deaf=m.deaf:=rfl
end
theorem qH {l:List (Option ae)}{n:Nat}{vs:List ae}(h:fU l n=some vs):vs.length=n/\∀i:Nat,i<n->∃v,l[i]?=some (some v)/\vs[i]?=some v:=by
 induction n generalizing l vs with
 |zero=>
  have :vs=[]:=by cases l<;>simpa[fU]using h.symm
  subst this;exact⟨rfl,fun i hi=>by omega⟩
 |succ n ih=>
  cases l with
  |nil=>simp[fU]at h
  |cons x l=>cases x with
   |none=>simp[fU]at h
   |some v=>
    simp only[fU,az]at h;obtain⟨r,hr,rfl⟩:=h;obtain⟨h1,h2⟩:=ih hr;refine⟨by simp[h1],fun i hi=>?_⟩;cases i with
    |zero=>exact⟨v,du,du⟩
    |succ i=>simpa using h2 i ai
theorem lF {l:List (Option ae)}{o:Nat}{vs:List ae}{l':List (Option ae)}(h:eD l o vs=some l'):
  l'.length=l.length/\(∀i:Nat,l'[i]?=if o<=i/\i<o+vs.length then(vs[i-o]?).map some else l[i]?)/\(∀i:Nat,i<vs.length->∃v,l[o+i]?=some (some v)):=by
 induction l generalizing o vs l' with
 |nil=>
  cases vs with
  |nil=>
   simp[eD]at h;subst h;exact⟨rfl,fun i=>by simp,fun i hi=>by simp at hi⟩
  |cons v vs=>cases o<;>simp[eD]at h
 |cons x l ih=>
  cases vs with
  |nil=>
   simp[eD]at h;subst h;refine⟨rfl,fun i=>?_,fun i hi=>by simp at hi⟩;simp;omega
  |cons v vs=>
   cases o with
   |zero=>
    cases x with
    |none=>simp[eD]at h
    |some u=>
     simp only[eD,az]at h;obtain⟨r,hr,rfl⟩:=h;obtain⟨h1,h2,h3⟩:=ih hr;refine⟨by simp[h1],fun i=>?_,fun i hi=>?_⟩
     ·cases i with
      |zero=>simp
      |succ i=>
       have :=h2 i;simp only[Nat.zero_le,true_and,Nat.zero_add,Nat.sub_zero]at this;simp only[List.getElem?_cons_succ,this,Nat.zero_le,true_and,Nat.zero_add,List.length_cons,Nat.add_lt_add_iff_right,Nat.sub_zero]
     ·cases i with
      |zero=>exact⟨u,du⟩
      |succ i=>simpa using h3 i (by simpa using hi)
   |succ o=>
    simp only[eD,az]at h;obtain⟨r,hr,rfl⟩:=h;obtain⟨h1,h2,h3⟩:=ih hr;refine⟨by simp[h1],fun i=>?_,fun i hi=>?_⟩
    ·cases i with
     |zero=>simp
     |succ i=>
      have :=h2 i;have e:(o+1<=i+1/\i+1<o+1+(v::vs).length)=(o<=i/\i<o+(v::vs).length):=propext ⟨fun h=>⟨ai,ai⟩,fun h=>⟨ai,ai⟩⟩;simp only[List.getElem?_cons_succ,this,e,Nat.add_sub_add_right]
    ·obtain⟨u,hu⟩:=h3 i hi;exact⟨u,by rw[show o+1+i=(o+i)+1 by omega];simpa using hu⟩
def Mem.cell(m:Mem)(b o:Nat):Option ae:=if(m.blk b).kind=1/\bz m.bh b o=false then((m.blk b).cs[o]?).join else none
def Mem.nC(m:Mem)(b o:Nat):Prop:=(m.blk b).kind=1/\bz m.bh b o=false/\(o<(m.blk b).cs.length->∃v,(m.blk b).cs[o]?=some (some v))
def Mem.okW(m:Mem)(b o:Nat):Prop:=m.nC b o/\(m.floor<=b\/bz m.opn b o=true)
theorem Mem.eE{m:Mem}{b o:Nat}{v:ae}(h:m.cell b o=some v):m.nC b o:=by
 unfold Mem.cell at h
 split at h
 ·rename_i hk;refine⟨hk.1,hk.2,fun _=>?_⟩;cases hc:(m.blk b).cs[o]? with
  |none=>simp[hc]at h
  |some x=>cases x with
   |none=>simp[hc]at h
   |some u=>exact⟨u,rfl⟩
 ·cases h
theorem xL {l:List Span}{b o n:Nat}(h:meets l b o n=false){i:Nat}(hi:i<n):bz l b (o+i)=false:=by
 unfold meets bz at*;rw[List.any_eq_false]at*;intro s hs;have :=h s hs;intro hc;apply this;simp only[ag]at hc⊢;refine⟨hc.1,?_⟩;cases hx:s.2.2 with
 |none=>rfl
 |some y=>
  have Un:=hc.2;rw[hx]at Un;simp at Un;simp;omega
theorem dW {l:List Span}{b:Nat}(h:aJ l b=false)(o:Nat):bz l b o=false:=by
 unfold aJ bz at*;rw[List.any_eq_false]at*;intro s hs;have :=h s hs;intro hc;apply this;simp only[ag]at hc⊢;exact hc.1
theorem gk {l:List Span}{b:Nat}(h:aJ l b=false)(o n:Nat):meets l b o n=false:=by
 unfold aJ meets at*;rw[List.any_eq_false]at*;intro s hs;have :=h s hs;intro hc;apply this;simp only[ag]at hc⊢;exact hc.1
theorem jU {l:List Span}{b:Nat}(h:gI l b=true)(o:Nat):bz l b o=true:=by
 unfold gI bz at*;rw[List.any_eq_true]at*;obtain⟨s,hs,hc⟩:=h;refine⟨s,hs,?_⟩;simp only[ag]at hc⊢;refine⟨hc.1,?_⟩;have :=hc.2;cases hx:s.2.2<;>simp_all
theorem Mem.pG{m:Mem}{b o n:Nat}{vs:List ae}(h:m.dK b o n=some vs):
  (m.blk b).kind=1/\vs.length=n/\∀i:Nat,i<n->∃v,vs[i]?=some v/\m.cell b (o+i)=some v:=by
 unfold Mem.dK at h;simp only[]at h
 split at h
 ·rename_i hk;simp only[ag,beq_iff_eq,Bool.not_eq_true']at hk;obtain⟨h1,h2⟩:=qH h;refine⟨hk.1,h1,fun i hi=>?_⟩;obtain⟨v,hv,Qa⟩:=h2 i hi;refine⟨v,Qa,?_⟩;unfold Mem.cell;rw[bj ⟨hk.1,xL hk.2 hi⟩];rw[List.getElem?_drop]at hv;simp[hv]
 ·cases h
theorem Mem.qM{m:Mem}{b o n:Nat}(h:m.dh b o n=true){i:Nat}(hi:i<n):bz m.bh b (o+i)=false/\(m.floor<=b\/bz m.opn b (o+i)=true):=by
 unfold Mem.dh at h;simp only[ag,Bool.not_eq_true',Bool.or_eq_true,iB]at h;refine⟨xL h.1.1 hi,?_⟩;rcases h.2 with(h2|h2)|h2
 ·exact .inl h2
 ·exact .inr (jU h2 _)
 ·rw[aB]at h2;exact .inr (h2 i (by simpa using hi))
theorem Mem.ku{m:Mem}{b o n:Nat}(h:m.dh b o n=true):m.base<=b:=by
 unfold Mem.dh at h;simp only[ag,iB]at h;exact h.1.2
theorem Mem.lK{m:Mem}{b:Nat}(h:m.fA b=true):aJ m.bh b=false/\(m.floor<=b\/gI m.opn b=true):=by
 unfold Mem.fA at h;simp only[ag,Bool.not_eq_true',Bool.or_eq_true,iB]at h;exact⟨h.1.1,h.2⟩
theorem Mem.r7{m:Mem}{b:Nat}(h:m.fA b=true):m.base<=b:=by
 unfold Mem.fA at h;simp only[ag,iB]at h;exact h.1.2
theorem Mem.qi{m:Mem}{b o:Nat}{vs:List ae}{m':Mem}(h:m.dP b o vs=some m'):
  ∃cs,m'=m.a9 b {m.blk b with cs:=cs}/\(m.blk b).kind=1/\m.dh b o vs.length=true/\eD (m.blk b).cs o vs=some cs/\∀v∈vs,v.oneCell'=true:=by
 unfold Mem.dP at h;simp only[]at h
 split at h
 ·rename_i hk;simp only[ag,beq_iff_eq]at hk;rw[az]at h;obtain⟨cs,gT,rfl⟩:=h;exact⟨cs,rfl,hk.1.1,hk.1.2,gT,fun v hv=>aB.1 hk.2 v hv⟩
 ·cases h
end Go.AM
namespace Go.AM
open Go
structure Perm where
 rd:Nat->Nat->Prop
 wr:Nat->Nat->Prop
 ob:Nat->Prop
 deaf:Nat
def GG:Mark->Prop
 | .disable| .enable| .release _| .read _| .write _=>False
 |_=>True
def dR {α:Type}(P:aC)(R:Perm)(N:Nat):Sem α->(α->ao->Prop)->ao->Prop
 | .pure a,Q,w=>Q a w
 | .load m a k,Q,w=>∃v,w.cell? a=some v/\R.rd a.block a.off/\dR P R N (k v) Q w
 | .store m a v k,Q,w=>v.oneCell'=true/\(∃u,w.cell? a=some u)/\w.frozen? a=false/\R.wr a.block a.off/\dR P R N k Q (w.setCell a v)
 | .new o k,Q,w=>dR P R N (k w.heap.size) Q {w with heap:=w.heap.push o}
 | .shape r k,Q,w=>dR P R N (k (w.shape? r)) Q w
 | .freeze a n k,Q,w=>N<=a.block/\dR P R N k Q (w.freeze a n)
 | .frozen a k,Q,w=>dR P R N (k (w.frozen? a)) Q w
 | .getObj r k,Q,w=>∃o,w.heap[r]?=some o/\(∀C t f,o≠ .cells C t f)/\o.isChan=false/\R.ob r/\dR P R N (k o) Q w
 | .setObj r o k,Q,w=>(∃o',w.heap[r]?=some o'/\∀C t f,o'≠ .cells C t f)/\(∀C t f,o≠ .cells C t f)/\o.isChan=false/\R.ob r/\dR P R N k Q {w with heap:=w.heap.setIfInBounds r o}
 | .choose q k,Q,w=>dR P R N (k (if q.forced then 0 else q.cut (w.tape w.drawn q))) Q (if q.forced then w else{w with drawn:=w.drawn+1})
 | .sys _ _,_,_=>False
 | .program k,Q,w=>dR P R N (k P) Q w
 | .mark m k,Q,w=>GG m/\dR P R N k Q w
 | .halt _,_,_=>False
theorem ar {α β:Type}{P:aC}{R:Perm}{N:Nat}(x:Sem α)(f:α->Sem β)(Q:β->ao->Prop)(w:ao):
  dR P R N (x>>=f) Q w↔dR P R N x (fun a w'=>dR P R N (f a) Q w') w:=by
 show dR P R N (x.bind f) Q w↔ _
 induction x generalizing w with
 |pure a=>exact Iff.rfl
 |load m a k ih=>simp only[Sem.bind,dR,ih]
 |store m a v k ih=>simp only[Sem.bind,dR,ih]
 |new o k ih=>simp only[Sem.bind,dR,ih]
 |shape r k ih=>simp only[Sem.bind,dR,ih]
 |freeze a n k ih=>simp only[Sem.bind,dR,ih]
 |frozen a k ih=>simp only[Sem.bind,dR,ih]
 |getObj r k ih=>simp only[Sem.bind,dR,ih]
 |setObj r o k ih=>simp only[Sem.bind,dR,ih]
 |choose q k ih=>simp only[Sem.bind,dR,ih]
 |sys c k ih=>simp only[Sem.bind,dR]
 |program k ih=>simp only[Sem.bind,dR,ih]
 |mark m k ih=>simp only[Sem.bind,dR,ih]
 |halt h=>simp only[Sem.bind,dR]
theorem IZ {α:Type}{P:aC}{R:Perm}{N:Nat}{x:Sem α}{Q Q':α->ao->Prop}{w:ao}(h:dR P R N x Q w)(hq:∀a w,Q a w->Q' a w):dR P R N x Q' w:=by
 induction x generalizing w with
 |pure a=>exact hq _ _ h
 |load m a k ih=>obtain⟨v,h1,h2,h3⟩:=h;exact⟨v,h1,h2,ih _ h3⟩
 |store m a v k ih=>exact⟨h.1,h.2.1,h.2.2.1,h.2.2.2.1,ih h.2.2.2.2⟩
 |new o k ih=>exact ih _ h
 |shape r k ih=>exact ih _ h
 |freeze a n k ih=>exact⟨h.1,ih h.2⟩
 |frozen a k ih=>exact ih _ h
 |getObj r k ih=>obtain⟨o,h1,h2,h3,h4,h5⟩:=h;exact⟨o,h1,h2,h3,h4,ih _ h5⟩
 |setObj r o k ih=>exact⟨h.1,h.2.1,h.2.2.1,h.2.2.2.1,ih h.2.2.2.2⟩
 |choose q k ih=>exact ih _ h
 |sys c k ih=>exact h
 |program k ih=>exact ih _ h
 |mark m k ih=>exact⟨h.1,ih h.2⟩
 |halt h'=>exact h
def MB (w:ao)(a:Addr):Option (Nat×Nat):=match w.heap[a.block]? with
 |some (.cells _ _ r)=>some r
 |_=>none
theorem uh {w w':ao}{a:Addr}(h:MB w' a=MB w a):w'.frozen? a=w.frozen? a:=by
 have e:∀w:ao,w.frozen? a=match MB w a with |some (lo,hi)=>decide (lo<=a.off)&&decide (a.off<hi)|none=>false:=by
  intro w;unfold ao.frozen? MB;cases w.heap[a.block]? with
  |none=>rfl
  |some o=>cases o<;>rfl
 rw[e,e,h]
structure tu (R:Perm)(N:Nat)(w w':ao):Prop where
 tape:w'.tape=w.tape
 os:w'.os=w.os
 output:w'.output=w.output
 size:w.heap.size<=w'.heap.size
 shape:∀b,b<N->w'.shape? b=w.shape? b
 cell:∀b o,b<N->¬R.wr b o->w'.cell? ⟨b,o,none⟩=w.cell? ⟨b,o,none⟩
 qQ:∀b o,b<N->MB w' ⟨b,o,none⟩=MB w ⟨b,o,none⟩
 obj:∀b,b<N->¬R.ob b->(w.shape? b)=none->w'.heap[b]?=w.heap[b]?
theorem tu.refl(R:Perm)(N:Nat)(w:ao):tu R N w w:=⟨rfl,rfl,rfl,aj _,fun _ _=>rfl,fun _ _ _ _=>rfl,fun _ _ _=>rfl,fun _ _ _ _=>rfl⟩
theorem tu.trans{R:Perm}{N:Nat}{w aN ix:ao}(h:tu R N w aN)(k:tu R N aN ix):tu R N w ix:=
 ⟨k.tape.trans h.tape,k.os.trans h.os,k.output.trans h.output,bV h.size k.size,fun b hb=>(k.shape b hb).trans (h.shape b hb),fun b o hb hw=>(k.cell b o hb hw).trans (h.cell b o hb hw),
  fun b o hb=>(k.qQ b o hb).trans (h.qQ b o hb),fun b hb ho hs=>(k.obj b hb ho (by rw[h.shape b hb];exact hs)).trans (h.obj b hb ho hs)⟩
def nJ (R:Perm)(e:Event):Prop:=
 match e.loc with
 | .cell a=>a.spot=none/\(if e.write then R.wr a.block a.off else R.rd a.block a.off)
 | .obj r=>R.ob r/\e.sync=false
 | .mark m=>GG m
 |_=>False
theorem qJ (w:ao)(a:Addr)(v:ae)(b:Nat):(w.setCell a v).shape? b=w.shape? b:=by
 unfold ao.shape? ao.setCell;simp only[Array.getElem?_modify]
 by_cases h:a.block=b
 ·subst h;cases hb:w.heap[a.block]? with
  |none=>simp
  |some o=>cases o with
   |cells c e f=>simp only[if_true,cU];split<;>simp
   |_=>simp
 ·simp[h]
theorem gY (w:ao)(a:Addr)(v:ae)(b o:Nat)(ha:a.spot=none):(w.setCell a v).cell? ⟨b,o,none⟩=if a.block=b/\a.off=o/\(w.cell? ⟨b,o,none⟩).isSome then some v else w.cell? ⟨b,o,none⟩:=by
 unfold ao.cell? ao.setCell;simp only[Array.getElem?_modify,ha,Option.isSome_none,cF,if_false]
 by_cases h:a.block=b
 ·subst h;cases hb:w.heap[a.block]? with
  |none=>simp
  |some o'=>cases o' with
   |cells c e f=>
    simp only[if_true,cU,Array.getElem?_setIfInBounds]
    by_cases h2:a.off=o
    ·subst h2
     by_cases h3:a.off<c.size
     ·simp[h3]
     ·simp[h3]
    ·simp[h2]
   |_=>simp
 ·simp[h]
theorem oO (w:ao)(a:Addr)(v:ae)(b o:Nat):MB (w.setCell a v) ⟨b,o,none⟩=MB w ⟨b,o,none⟩:=by
 unfold MB ao.setCell;simp only[Array.getElem?_modify]
 by_cases h:a.block=b
 ·subst h;cases hb:w.heap[a.block]? with
  |none=>simp
  |some o'=>cases o'<;>simp
 ·simp[h]
theorem xy {w:ao}{a:Addr}{v:ae}(h:w.cell? a=some v):a.spot=none:=by
 unfold ao.cell? at h
 split at h
 ·split at h
  ·cases h
  ·rename_i h2;simpa using h2
 ·cases h
theorem mI {α:Type}{P:aC}{R:Perm}{N:Nat}{x:Sem α}{Q:α->ao->Prop}{w:ao}(hN:N<=w.heap.size)(h:dR P R N x Q w):
  ∃a w',x.run P w= .ok a w'/\Q a w'/\tu R N w w'/\∀es,∃l:List Event,x.events P w es=es++l.toArray/\∀e∈l,nJ R e:=by
 induction x generalizing w with
 |pure a=>exact⟨a,w,rfl,h,tu.refl ..,fun es=>⟨[],by simp[Sem.events,Sem.runT,-Sem.runT_eq],du⟩⟩
 |load m a k ih=>
  obtain⟨v,h1,h2,h3⟩:=h;obtain⟨x,w',hr,hq,hc,he⟩:=ih v hN h3;refine⟨x,w',by simp only[Sem.run,h1];exact hr,hq,hc,fun es=>?_⟩;obtain⟨l,hl,dV⟩:=he (es.push ⟨.cell a,false,m== .atomic⟩);refine⟨⟨.cell a,false,m== .atomic⟩::l,?_,?_⟩
  ·have :(Sem.load m a k).events P w es=(k v).events P w (es.push ⟨.cell a,false,m== .atomic⟩):=by simp only[Sem.events,Sem.runT,h1]
   rw[this,hl];simp
  ·intro e hm;rcases aL.1 hm with rfl|hm
   ·exact⟨xy h1,h2⟩
   ·exact dV e hm
 |store m a v k ih=>
  obtain⟨h0,⟨u,h1⟩,h2,h3,h4⟩:=h;have hs:=xy h1;obtain⟨x,w',hr,hq,hc,he⟩:=ih (w:=w.setCell a v) (by simpa[ao.setCell]using hN) h4;have gR:(Sem.store m a v k).run P w=k.run P (w.setCell a v):=by
   cases v<;>first |(simp[ae.oneCell']at h0;done)|simp only[Sem.run,h1,h2,cF,if_false]
  have Uh:∀es,(Sem.store m a v k).events P w es=k.events P (w.setCell a v) (es.push ⟨.cell a,true,m== .atomic⟩):=by
   intro es;cases v<;>first |(simp[ae.oneCell']at h0;done)|simp only[Sem.events,Sem.runT,h1,h2,cF,if_false]
  refine⟨x,w',by rw[gR];exact hr,hq,?_,fun es=>?_⟩
  ·refine tu.trans ?_ hc;refine⟨rfl,rfl,rfl,by simp[ao.setCell],fun b _=>qJ ..,fun b o _ hw=>?_,fun b o _=>oO ..,fun b _ _ fI=>?_⟩
   ·rw[gY _ _ _ _ _ hs,bW];rintro⟨rfl,rfl,_⟩;exact hw h3
   ·have w7:a.block≠b:=by
     rintro rfl;unfold ao.cell? at h1;unfold ao.shape? at fI
     split at h1
     ·rename_i hh;simp[hh]at fI
     ·cases h1
    unfold ao.setCell;simp only[Array.getElem?_modify,w7,if_false]
  ·obtain⟨l,hl,dV⟩:=he (es.push ⟨.cell a,true,m== .atomic⟩);refine⟨⟨.cell a,true,m== .atomic⟩::l,by rw[Uh,hl];simp,?_⟩;intro e hm;rcases aL.1 hm with rfl|hm
   ·exact⟨hs,h3⟩
   ·exact dV e hm
 |new o k ih=>
  obtain⟨x,w',hr,hq,hc,he⟩:=ih w.heap.size (w:={w with heap:=w.heap.push o}) (by simp;omega) h;refine⟨x,w',hr,hq,tu.trans ?_ hc,he⟩;have cB:∀b,b<N->(w.heap.push o)[b]?=w.heap[b]?:=fun b hb=>by rw[Array.getElem?_push_lt ai];simp[aW hb hN]
  refine⟨rfl,rfl,rfl,du,fun b hb=>?_,fun b o hb _=>?_,fun b o hb=>?_,fun b hb _ _=>cB b hb⟩
  ·unfold ao.shape?;simp only[cB b hb]
  ·unfold ao.cell?;simp only[cB b hb]
  ·unfold MB;simp only[cB b hb]
 |shape r k ih=>exact ih _ hN h
 |freeze a n k ih=>
  obtain⟨h1,h2⟩:=h;obtain⟨x,w',hr,hq,hc,he⟩:=ih (w:=w.freeze a n) (by unfold ao.freeze;split<;>simpa using hN) h2;refine⟨x,w',hr,hq,tu.trans ?_ hc,he⟩;have cB:∀b,b<N->(w.freeze a n).heap[b]?=w.heap[b]?:=fun b hb=>by
   unfold ao.freeze
   split
   ·rfl
   ·simp only[Array.getElem?_modify];rw[bW ai]
  have e1:(w.freeze a n).tape=w.tape/\(w.freeze a n).os=w.os/\(w.freeze a n).output=w.output/\w.heap.size<=(w.freeze a n).heap.size:=by
   unfold ao.freeze;split<;>simp
  refine⟨e1.1,e1.2.1,e1.2.2.1,e1.2.2.2,fun b hb=>?_,fun b o hb _=>?_,fun b o hb=>?_,fun b hb _ _=>cB b hb⟩
  ·unfold ao.shape?;simp only[cB b hb]
  ·unfold ao.cell?;simp only[cB b hb]
  ·unfold MB;simp only[cB b hb]
 |frozen a k ih=>exact ih _ hN h
 |getObj r k ih=>
  obtain⟨o,h1,h2,h3,h4,h5⟩:=h;obtain⟨x,w',hr,hq,hc,he⟩:=ih o hN h5;have gR:(Sem.getObj r k).run P w=(k o).run P w:=by
   cases o<;>first |(simp only[Sem.run,h1];done)|exact absurd rfl (h2 _ _ _)
  have Uh:∀es,(Sem.getObj r k).events P w es=(k o).events P w (es.push ⟨.obj r,false,o.isChan⟩):=by
   intro es;cases o<;>first |(simp only[Sem.events,Sem.runT,h1];done)|exact absurd rfl (h2 _ _ _)
  refine⟨x,w',by rw[gR];exact hr,hq,hc,fun es=>?_⟩;obtain⟨l,hl,dV⟩:=he (es.push ⟨.obj r,false,o.isChan⟩);refine⟨⟨.obj r,false,o.isChan⟩::l,by rw[Uh,hl];simp,?_⟩;intro e hm;rcases aL.1 hm with rfl|hm
  ·exact⟨h4,h3⟩
  ·exact dV e hm
 |setObj r o k ih=>
  obtain⟨⟨o',h1,JJ⟩,h2,h3,h4,h5⟩:=h;obtain⟨x,w',hr,hq,hc,he⟩:=ih (w:={w with heap:=w.heap.setIfInBounds r o}) (by simpa using hN) h5;have gR:(Sem.setObj r o k).run P w=k.run P {w with heap:=w.heap.setIfInBounds r o}:=by
   cases o'<;>first |(simp only[Sem.run,h1];done)|exact absurd rfl (JJ _ _ _)
  have Uh:∀es,(Sem.setObj r o k).events P w es=k.events P {w with heap:=w.heap.setIfInBounds r o} (es.push ⟨.obj r,true,o.isChan⟩):=by
   intro es;cases o'<;>first |(simp only[Sem.events,Sem.runT,h1];done)|exact absurd rfl (JJ _ _ _)
  have Xv:r<w.heap.size:=by
   rcases Nat.lt_or_ge r w.heap.size with h|h
   ·exact h
   ·simp[Array.getElem?_eq_none h]at h1
  have dQ:∀b,b≠r->(w.heap.setIfInBounds r o)[b]?=w.heap[b]?:=fun b hb=>Array.getElem?_setIfInBounds_ne (Ne.symm hb)
  have heq:(w.heap.setIfInBounds r o)[r]?=some o:=by simp[Xv]
  refine⟨x,w',by rw[gR];exact hr,hq,tu.trans ?_ hc,fun es=>?_⟩
  ·refine⟨rfl,rfl,rfl,du,fun b hb=>?_,fun b i hb _=>?_,fun b i hb=>?_,fun b hb ho _=>?_⟩
   ·unfold ao.shape?
    by_cases VF:b=r
    ·subst VF;simp only[heq,h1];cases o<;>first |exact absurd rfl (h2 _ _ _)|(cases o'<;>first |exact absurd rfl (JJ _ _ _)|rfl)
    ·simp only[dQ b VF]
   ·unfold ao.cell?
    by_cases VF:b=r
    ·subst VF;simp only[heq,h1];cases o<;>first |exact absurd rfl (h2 _ _ _)|(cases o'<;>first |exact absurd rfl (JJ _ _ _)|rfl)
    ·simp only[dQ b VF]
   ·unfold MB
    by_cases VF:b=r
    ·subst VF;simp only[heq,h1];cases o<;>first |exact absurd rfl (h2 _ _ _)|(cases o'<;>first |exact absurd rfl (JJ _ _ _)|rfl)
    ·simp only[dQ b VF]
   ·exact dQ b (by rintro rfl;exact ho h4)
  ·obtain⟨l,hl,dV⟩:=he (es.push ⟨.obj r,true,o.isChan⟩);refine⟨⟨.obj r,true,o.isChan⟩::l,by rw[Uh,hl];simp,?_⟩;intro e hm;rcases aL.1 hm with rfl|hm
   ·exact⟨h4,h3⟩
   ·exact dV e hm
 |choose q k ih=>
  obtain⟨x,w',hr,hq,hc,he⟩:=ih _ (w:=if q.forced then w else{w with drawn:=w.drawn+1}) (by split<;>exact hN) h
  by_cases hf:q.forced=true
  ·simp only[hf,if_true]at hr hc he;refine⟨x,w',by simp only[Sem.run,hf,if_true];exact hr,hq,hc,fun es=>?_⟩;obtain⟨l,hl,dV⟩:=he es;exact⟨l,by rw[<-hl];simp only[Sem.events,Sem.runT,hf,if_true],dV⟩
  ·simp only[hf,cF,if_false]at hr hc he;refine⟨x,w',by simp only[Sem.run,hf,cF,if_false];exact hr,hq,tu.trans (aN:={w with drawn:=w.drawn+1}) ⟨rfl,rfl,rfl,aj _,fun _ _=>rfl,fun _ _ _ _=>rfl,fun _ _ _=>rfl,fun _ _ _ _=>rfl⟩ hc,fun es=>?_⟩;obtain⟨l,hl,dV⟩:=he es;exact⟨l,by rw[<-hl];simp only[Sem.events,Sem.runT,hf,cF,if_false],dV⟩
 |sys c k ih=>exact h.elim
 |program k ih=>exact ih _ hN h
 |mark m k ih=>
  obtain⟨h1,h2⟩:=h;obtain⟨x,w',hr,hq,hc,he⟩:=ih hN h2;refine⟨x,w',hr,hq,hc,fun es=>?_⟩;obtain⟨l,hl,dV⟩:=he (es.push ⟨.mark m,false,true⟩);refine⟨⟨.mark m,false,true⟩::l,?_,?_⟩
  ·have :(Sem.mark m k).events P w es=k.events P w (es.push ⟨.mark m,false,true⟩):=by simp only[Sem.events,Sem.runT]
   rw[this,hl];simp
  ·intro e hm;rcases aL.1 hm with rfl|hm
   ·exact h1
   ·exact dV e hm
 |halt h'=>exact h.elim
end Go.AM
namespace Go.AM
open Go
def yy (ρ:dw)(e e':MapEntry):Prop:=aQ ρ e.key e'.key/\aQ ρ e.val e'.val/\e'.born=e.born
structure fL (ρ:dw)(m:Mem)(w:ao):Prop where
 mo:∀b p,ρ b=some p->b<m.next
 cells:∀b p,ρ b=some p->(m.blk b).kind=1->p.sz=(m.blk b).sz/\(m.blk b).cs.length<=p.room/\∃e n,w.shape? p.c=some (e,n)/\p.d+p.room<=n
 kN:∀b p o v,ρ b=some p->m.cell b o=some v->∃v',w.cell? ⟨p.c,p.d+o,none⟩=some v'/\aQ ρ v v'
 thaw:∀b p o,ρ b=some p->o<p.room->(m.blk b).kind=1->m.base<=b->w.frozen? ⟨p.c,p.d+o,none⟩=false
 maps:∀b p,ρ b=some p->(m.blk b).kind=2->m.bI b=true->∃lp,w.heap[p.c]?=some (.map lp (m.blk b).clock)/\bH (yy ρ) (m.blk b).es.toList lp.toList
 kX:∀b p,ρ b=some p->(m.blk b).kind=3->m.bI b=true->p.d=0/\w.heap[p.c]?=some (.stringIter (m.blk b).str (m.blk b).pos)
 sep:∀b b' p p',b≠b'->ρ b=some p->ρ b'=some p'->(m.blk b).kind≠0->(m.blk b').kind≠0->p.c=p'.c->(m.blk b).kind=1/\(m.blk b').kind=1/\(p.room=0\/p'.room=0\/p.d+p.room<=p'.d\/p'.d+p'.room<=p.d)
 rB:∀b p,ρ b=some p->p.c<w.heap.size
 vars:∀b p,ρ b=some p->(m.blk b).kind=1->(m.blk b).pos=1->p.d=0
def ax (ρ:dw)(m:Mem):Perm where
 rd c x:=∃b p,ρ b=some p/\p.c=c/\p.d<=x/\x<p.d+p.room/\m.nC b (x-p.d)
 wr c x:=∃b p,ρ b=some p/\p.c=c/\p.d<=x/\x<p.d+p.room/\m.okW b (x-p.d)
 ob c:=∃b p,ρ b=some p/\p.c=c/\((m.blk b).kind=2\/(m.blk b).kind=3)/\m.bI b=true
 deaf:=m.deaf
theorem lI {ρ:dw}{m:Mem}{c x:Nat}(h:(ax ρ m).wr c x):(ax ρ m).rd c x:=by
 obtain⟨b,p,h1,h2,h3,h4,h5⟩:=h;exact⟨b,p,h1,h2,h3,h4,h5.1⟩
structure bg (R:Perm)(w aN:ao):Prop where
 tape:aN.tape=w.tape
 os:aN.os=w.os
 output:aN.output=w.output
 size:w.heap.size<=aN.heap.size
 shape:∀b,b<w.heap.size->aN.shape? b=w.shape? b
 cell:∀b o,R.rd b o->aN.cell? ⟨b,o,none⟩=w.cell? ⟨b,o,none⟩
 qQ:∀b o,b<w.heap.size->MB aN ⟨b,o,none⟩=MB w ⟨b,o,none⟩
 obj:∀b,R.ob b->aN.heap[b]?=w.heap[b]?
theorem bg.refl(R:Perm)(w:ao):bg R w w:=⟨rfl,rfl,rfl,aj _,fun _ _=>rfl,fun _ _ _=>rfl,fun _ _ _=>rfl,fun _ _=>rfl⟩
theorem bg.trans{R:Perm}{w aN ix:ao}(h:bg R w aN)(k:bg R aN ix):bg R w ix:=
 ⟨k.tape.trans h.tape,k.os.trans h.os,k.output.trans h.output,bV h.size k.size,fun b hb=>(k.shape b (aW hb h.size)).trans (h.shape b hb),
  fun b o x=>(k.cell b o x).trans (h.cell b o x),fun b o x=>(k.qQ b o (aW x h.size)).trans (h.qQ b o x),fun b x=>(k.obj b x).trans (h.obj b x)⟩
theorem bg.at(R:Perm)(w:ao)(d:Nat):bg R w {w with drawn:=d}:=⟨rfl,rfl,rfl,aj _,fun _ _=>rfl,fun _ _ _=>rfl,fun _ _ _=>rfl,fun _ _=>rfl⟩
section
variable {ρ:dw}{m:Mem}{w aN:ao}
theorem iM (h:fL ρ m w){b:Nat}{p:Pl}(hp:ρ b=some p){o:Nat}{v:ae}(hc:m.cell b o=some v):o<p.room:=by
 have hk:=(Mem.eE hc).1;obtain⟨_,hl,_⟩:=h.cells b p hp hk;unfold Mem.cell at hc
 split at hc
 ·rcases Nat.lt_or_ge o (m.blk b).cs.length with cB|uV
  ·omega
  ·simp[List.getElem?_eq_none uV]at hc
 ·cases hc
theorem BU (h:fL ρ m w){b:Nat}{p:Pl}(hp:ρ b=some p){o:Nat}{v:ae}(hc:m.cell b o=some v):(ax ρ m).rd p.c (p.d+o):=
 ⟨b,p,hp,rfl,ai,by have :=iM h hp hc;omega,by rw[Nat.add_sub_cancel_left];exact Mem.eE hc⟩
theorem yI {b:Nat}{p:Pl}(hp:ρ b=some p){o:Nat}(ho:o<p.room)(hw:m.okW b o):(ax ρ m).wr p.c (p.d+o):=
 ⟨b,p,hp,rfl,ai,ai,by rw[Nat.add_sub_cancel_left];exact hw⟩
theorem fL.keeps(h:fL ρ m w)(k:bg (ax ρ m) w aN):fL ρ m aN where
 mo:=h.mo
 cells b p hp hk:=by
  obtain⟨h1,h2,e,n,h3,h4⟩:=h.cells b p hp hk;exact⟨h1,h2,e,n,by rw[k.shape _ (h.rB b p hp)];exact h3,h4⟩
 kN b p o v hp hc:=by
  obtain⟨v',h1,h2⟩:=h.kN b p o v hp hc;exact⟨v',by rw[k.cell _ _ (BU h hp hc)];exact h1,h2⟩
 thaw b p o hp ho hk hb:=by rw[uh (k.qQ _ _ (h.rB b p hp))];exact h.thaw b p o hp ho hk hb
 maps b p hp hk ho:=by
  obtain⟨lp,h1,h2⟩:=h.maps b p hp hk ho;exact⟨lp,by rw[k.obj _ ⟨b,p,hp,rfl,.inl hk,ho⟩];exact h1,h2⟩
 kX b p hp hk ho:=by
  obtain⟨h1,h2⟩:=h.kX b p hp hk ho;exact⟨h1,by rw[k.obj _ ⟨b,p,hp,rfl,.inr hk,ho⟩];exact h2⟩
 sep:=h.sep
 rB b p hp:=aW (h.rB b p hp) k.size
 vars:=h.vars
structure eK (R R':Perm)(N:Nat):Prop where
 rd:∀b o,R'.rd b o->R.rd b o\/N<=b
 wr:∀b o,R'.wr b o->R.wr b o\/N<=b
 ob:∀b,R'.ob b->R.ob b\/N<=b
theorem eK.refl(R:Perm)(N:Nat):eK R R N:=⟨fun _ _=> .inl,fun _ _=> .inl,fun _=> .inl⟩
theorem fL.z8(h:fL ρ m w){b:Nat}{p:Pl}(hp:ρ b=some p){o:Nat}{vs:List ae}{n:Nat}(hl:m.dK b o n=some vs){i:Nat}(hi:i<n):
  ∃v v',vs[i]?=some v/\aQ ρ v v'/\w.cell? ⟨p.c,p.d+(o+i),none⟩=some v'/\(ax ρ m).rd p.c (p.d+(o+i)):=by
 obtain⟨_,_,h3⟩:=Mem.pG hl;obtain⟨v,hv,hc⟩:=h3 i hi;obtain⟨v',h1,h2⟩:=h.kN b p _ v hp hc;exact⟨v,v',hv,h2,h1,BU h hp hc⟩
theorem iZ (c d i:Nat):(⟨c,d,none⟩:Addr).add i=⟨c,d+i,none⟩:=by
 unfold Addr.add
 split
 ·rename_i h;subst h;rfl
 ·rfl
theorem B8 {P:aC}{R:Perm}{N:Nat}{a:Addr}{md:Mode}{Q:ae->ao->Prop}{v:ae}(h:w.cell? a=some v)(hr:R.rd a.block a.off)(hq:Q v w):dR P R N (Go.load a md) Q w:=⟨v,h,hr,hq⟩
theorem qq {P:aC}{R:Perm}{N:Nat}{a:Addr}{Q:Array ae->ao->Prop}:∀(n i:Nat) (acc:Array ae) (vs:List ae),
  (∀j:Nat,j<n->∃v,vs[j]?=some v/\w.cell? (a.add (i+j))=some v/\R.rd (a.add (i+j)).block (a.add (i+j)).off)->vs.length=n->Q (acc++vs.toArray) w->dR P R N (loadCellsFrom a i n acc) Q w
 |0,i,acc,vs,_,hl,hq=>by
  have :vs=[]:=List.eq_nil_of_length_eq_zero hl;subst this
  show Q acc w
  simpa using hq
 |n+1,i,acc,vs,h,hl,hq=>by
  obtain⟨v,hv,hc,hr⟩:=h 0 ai;cases vs with
  |nil=>simp at hl
  |cons x vs=>
   simp at hv;subst hv;simp only[loadCellsFrom];rw[ar];refine B8 (by simpa using hc) (by simpa using hr) ?_;refine qq n (i+1) (acc.push x) vs (fun j hj=>?_) (by simpa using hl) (by simpa using hq);obtain⟨u,h1,h2,h3⟩:=h (j+1) ai;have e:i+1+j=i+(j+1):=ai;rw[e];exact⟨u,by simpa using h1,h2,h3⟩
theorem fL.qL(h:fL ρ m w){P:aC}{N:Nat}{b:Nat}{p:Pl}(hp:ρ b=some p){o n:Nat}{vs:List ae}(hl:m.dK b o n=some vs){Q:Array ae->ao->Prop}
  (hq:∀qV:List ae,bH (aQ ρ) vs qV->Q qV.toArray w):dR P (ax ρ m) N (loadCells ⟨p.c,p.d+o,none⟩ n) Q w:=by
 obtain⟨_,hlen,_⟩:=Mem.pG hl;have hex:∃qV:List ae,qV.length=n/\∀i:Nat,i<n->∃v v',vs[i]?=some v/\qV[i]?=some v'/\aQ ρ v v'/\w.cell? ⟨p.c,p.d+(o+i),none⟩=some v'/\(ax ρ m).rd p.c (p.d+(o+i)):=by
  refine⟨(List.range n).map fun i=>(w.cell? ⟨p.c,p.d+(o+i),none⟩).getD undef,du,fun i hi=>?_⟩;obtain⟨v,v',h1,h2,h3,h4⟩:=h.z8 hp hl hi;exact⟨v,v',h1,by simp[hi,h3],h2,h3,h4⟩
 obtain⟨qV,Ag,hv⟩:=hex;unfold loadCells;refine qq n 0 #[] qV (fun j hj=>?_) Ag ?_
 ·obtain⟨v,v',_,h2,_,h4,h5⟩:=hv j hj;rw[Nat.zero_add,iZ];exact⟨v',h2,by rw[Nat.add_assoc];exact h4,by simpa[Nat.add_assoc]using h5⟩
 ·simp only[Array.empty_append];refine hq qV (bH.GA (by rw[hlen,Ag]) fun i a b ha hb=>?_);have hi:i<n:=by
   rcases Nat.lt_or_ge i n with h|h
   ·exact h
   ·rw[List.getElem?_eq_none ai]at ha;cases ha
  obtain⟨v,v',h1,h2,h3,_⟩:=hv i hi;rw[h1]at ha;rw[h2]at hb;cases ha;cases hb;exact h3
structure Au (w w':ao)(c d:Nat)(vs:List ae):Prop where
 tape:w'.tape=w.tape
 drawn:w'.drawn=w.drawn
 os:w'.os=w.os
 output:w'.output=w.output
 size:w'.heap.size=w.heap.size
 others:∀b,b≠c->w'.heap[b]?=w.heap[b]?
 shape:∀b,w'.shape? b=w.shape? b
 cell:∀x,w'.cell? ⟨c,x,none⟩=if d<=x/\x<d+vs.length then vs[x-d]? else w.cell? ⟨c,x,none⟩
 qQ:∀b x,w'.frozen? ⟨b,x,none⟩=w.frozen? ⟨b,x,none⟩
theorem Au.De{w w':ao}{c d:Nat}{vs:List ae}(h:Au w w' c d vs){b:Nat}(hb:b≠c)(x:Nat):w'.cell? ⟨b,x,none⟩=w.cell? ⟨b,x,none⟩:=by
 unfold ao.cell?;simp only[h.others b hb]
theorem Ph (w:ao)(c d:Nat):Au w w c d []:=⟨rfl,rfl,rfl,rfl,rfl,fun _ _=>rfl,fun _=>rfl,fun x=>by simp;omega,fun _ _=>rfl⟩
theorem KV {w w':ao}{c d:Nat}{v:ae}{vs:List ae}(hc:(w.cell? ⟨c,d,none⟩).isSome=true)(h:Au (w.setCell ⟨c,d,none⟩ v) w' c (d+1) vs):Au w w' c d (v::vs) where
 tape:=h.tape
 drawn:=h.drawn
 os:=h.os
 output:=h.output
 size:=by rw[h.size];simp[ao.setCell]
 others b hb:=by
  rw[h.others b hb];unfold ao.setCell;simp only[Array.getElem?_modify,Ne.symm hb,if_false]
 shape b:=by rw[h.shape,qJ]
 cell x:=by
  rw[h.cell,gY _ _ _ _ _ rfl]
  by_cases h1:d+1<=x/\x<d+1+vs.length
  ·rw[bj h1,bj ⟨ai,by simp;omega⟩];rw[show x-d=(x-(d+1))+1 by omega];simp
  ·rw[bW h1]
   by_cases h2:d=x
   ·subst h2;rw[bj ⟨rfl,rfl,hc⟩,bj ⟨ai,du⟩];simp
   ·rw[bW (by rintro⟨_,h3,_⟩;exact h2 h3),bW (by simp;omega)]
 qQ b x:=by rw[h.qQ,uh (oO ..)]
theorem pD {P:aC}{R:Perm}{N:Nat}{c d:Nat}{Q:Unit->ao->Prop}:∀(vs:List ae) (i:Nat) (w:ao),(∀v∈vs,v.oneCell'=true)->
  (∀j:Nat,j<vs.length->(w.cell? ⟨c,d+i+j,none⟩).isSome=true/\w.frozen? ⟨c,d+i+j,none⟩=false/\R.wr c (d+i+j))->(∀w',Au w w' c (d+i) vs->Q () w')->dR P R N (storeCells ⟨c,d,none⟩ vs i) Q w
 | [],i,w,_,_,hq=>hq w (Ph ..)
 |v::vs,i,w,h1,h,hq=>by
  simp only[storeCells];rw[ar];have h0:=h 0 du;simp only[Nat.add_zero]at h0;obtain⟨u,hu⟩:=qU.1 h0.1
  show dR P R N (.store .plain _ v (.pure ())) _ w
  rw[iZ];refine⟨h1 v du,⟨u,hu⟩,h0.2.1,h0.2.2,?_⟩;refine pD vs (i+1) _ (fun x hx=>h1 x (by simp[hx])) (fun j hj=>?_) (fun w' Ei=>hq w' ?_)
  ·obtain⟨g1,g2,g3⟩:=h (j+1) (by simp;omega);have e:d+(i+1)+j=d+i+(j+1):=ai;rw[e];refine⟨?_,by rw[uh (oO ..)];exact g2,g3⟩;rw[gY _ _ _ _ _ rfl,bW (by rintro⟨_,h3,_⟩;simp at h3)];exact g1
  ·rw[show d+(i+1)=d+i+1 by omega]at Ei;exact KV h0.1 Ei
theorem fL.wrote(h:fL ρ m w){b:Nat}{p:Pl}(hp:ρ b=some p){o:Nat}{vs qV:List ae}(hv:bH (aQ ρ) vs qV){cs:List (Option ae)}(hk:(m.blk b).kind=1)(CJ:eD (m.blk b).cs o vs=some cs)
  {w':ao}(hw:Au w w' p.c (p.d+o) qV):fL ρ (m.a9 b {m.blk b with cs:=cs}) w':=by
 obtain⟨hl,hg,pK⟩:=lF CJ;have hlen:=hv.length;have eF:∀b',(m.a9 b {m.blk b with cs:=cs}).blk b'=if b=b' then{m.blk b with cs:=cs,bK:=m.tick}else m.blk b':=fun b'=>Mem.eC ..
 have iA:∀b',((m.a9 b {m.blk b with cs:=cs}).blk b').kind=(m.blk b').kind:=fun b'=>by rw[eF];split<;>simp_all
 obtain⟨ig,tZ,e,n,fI,hn⟩:=h.cells b p hp hk;refine⟨h.mo,fun b' p' dG gh=>?_,fun b' p' o' v dG hc=>?_,fun b' p' o' dG pW gh gA=>?_,fun b' p' dG gh pW=>?_,fun b' p' dG gh pW=>?_,fun yp yo nB oG dQ pV AJ k₁ k₂ hc=>?_,fun b' p' dG=>by rw[hw.size];exact h.rB b' p' dG,fun b' p' dG gh Be=>?_⟩
 ·rw[iA]at gh;obtain⟨g1,g2,e',n',g3,g4⟩:=h.cells b' p' dG gh;refine⟨?_,?_,e',n',by rw[hw.shape];exact g3,g4⟩
  ·rw[eF];split
   ·rename_i hb;subst hb;exact g1
   ·exact g1
  ·rw[eF];split
   ·rename_i hb;subst hb;simpa[hl]using g2
   ·exact g2
 ·by_cases hb:b=b'
  ·subst hb;obtain rfl:p=p':=by rw[hp]at dG;exact Option.some.inj dG
   unfold Mem.cell at hc;rw[eF]at hc;simp only[if_true,Mem.Lp]at hc
   split at hc
   ·rename_i hh;rw[hg]at hc
    by_cases ml:o<=o'/\o'<o+vs.length
    ·rw[bj ml]at hc;obtain⟨x,hx⟩:∃x,vs[o'-o]?=some x:=⟨_,List.getElem?_eq_getElem ai⟩;simp[hx]at hc;subst hc;obtain⟨y,hy,Eh⟩:=hv.get hx;refine⟨y,?_,Eh⟩;rw[hw.cell,bj ⟨ai,ai⟩,show p.d+o'-(p.d+o)=o'-o by omega];exact hy
    ·rw[bW ml]at hc;have Fe:m.cell b o'=some v:=by unfold Mem.cell;rw[bj hh];exact hc
     obtain⟨y,hy,Eh⟩:=h.kN b p o' v hp Fe;refine⟨y,?_,Eh⟩;rw[hw.cell,bW ai];exact hy
   ·cases hc
  ·have Fe:m.cell b' o'=some v:=by
    unfold Mem.cell at hc⊢;rw[eF,bW hb]at hc;exact hc
   obtain⟨y,hy,Eh⟩:=h.kN b' p' o' v dG Fe;refine⟨y,?_,Eh⟩;have gh:=(Mem.eE Fe).1;have HT:=iM h dG Fe
   by_cases th:p'.c=p.c
   ·have :=(h.sep b b' p p' hb hp dG ai ai th.symm).2.2;have hvl:o+vs.length<=(m.blk b).cs.length\/vs.length=0:=by
     rcases Nat.eq_zero_or_pos vs.length with h0|h0
     ·exact .inr h0
     ·obtain⟨u,hu⟩:=pK (vs.length-1) ai;rcases Nat.lt_or_ge (o+(vs.length-1)) (m.blk b).cs.length with h1|h1
      ·left;omega
      ·rw[List.getElem?_eq_none h1]at hu;cases hu
    rw[th,hw.cell,bW ai,<-th];exact hy
   ·rw[hw.De th];exact hy
 ·rw[hw.qQ];rw[iA]at gh;exact h.thaw b' p' o' dG pW gh gA
 ·have hb:b≠b':=by rintro rfl;rw[iA]at gh;omega
  have e1:(m.a9 b {m.blk b with cs:=cs}).blk b'=m.blk b':=by rw[eF,bW hb]
  rw[iA]at gh;obtain⟨lp,g1,g2⟩:=h.maps b' p' dG gh pW;have dQ:p'.c≠p.c:=fun th=>by have :=(h.sep b b' p p' hb hp dG ai ai th.symm).2.1;omega
  exact⟨lp,by rw[hw.others _ dQ,e1];exact g1,by rw[e1];exact g2⟩
 ·have hb:b≠b':=by rintro rfl;rw[iA]at gh;omega
  have e1:(m.a9 b {m.blk b with cs:=cs}).blk b'=m.blk b':=by rw[eF,bW hb]
  rw[iA]at gh;obtain⟨g1,g2⟩:=h.kX b' p' dG gh pW;have dQ:p'.c≠p.c:=fun th=>by have :=(h.sep b b' p p' hb hp dG ai ai th.symm).2.1;omega
  exact⟨g1,by rw[hw.others _ dQ,e1];exact g2⟩
 ·rw[iA]at k₁ k₂⊢;rw[iA];exact h.sep yp yo nB oG dQ pV AJ k₁ k₂ hc
 ·rw[iA]at gh;refine h.vars b' p' dG gh ?_;rw[eF]at Be
  split at Be
  ·rename_i e;subst e;exact Be
  ·exact Be
theorem Ea {b:Nat}{o:Nat}{vs:List ae}{cs:List (Option ae)}(hk:(m.blk b).kind=1)(CJ:eD (m.blk b).cs o vs=some cs)(N:Nat):eK (ax ρ m) (ax ρ (m.a9 b {m.blk b with cs:=cs})) N:=by
 obtain⟨hl,hg,pK⟩:=lF CJ;have eF:∀b',(m.a9 b {m.blk b with cs:=cs}).blk b'=if b=b' then{m.blk b with cs:=cs,bK:=m.tick}else m.blk b':=fun b'=>Mem.eC ..
 have iA:∀b',((m.a9 b {m.blk b with cs:=cs}).blk b').kind=(m.blk b').kind:=fun b'=>by rw[eF];split<;>simp_all
 have hR:∀b' o',(m.a9 b {m.blk b with cs:=cs}).nC b' o'->m.nC b' o':=by
  rintro b' o' ⟨g1,g2,g3⟩;refine⟨by rw[<-iA b'];exact g1,g2,fun cB=>?_⟩
  by_cases hb:b=b'
  ·subst hb;have :=g3 (by rw[eF,bj rfl];simpa[hl]using cB);rw[eF,bj rfl]at this;obtain⟨x,hx⟩:=this;rw[hg]at hx
   split at hx
   ·rename_i ml;obtain⟨u,hu⟩:=pK (o'-o) ai;exact⟨u,by rw[show o'=o+(o'-o) by omega];exact hu⟩
   ·exact⟨x,hx⟩
  ·have :=g3 (by rw[eF,bW hb];exact cB);rw[eF,bW hb]at this;exact this
 refine⟨?_,?_,?_⟩
 ·rintro c x ⟨b',p,h1,h2,h3,h4,h5⟩;exact .inl ⟨b',p,h1,h2,h3,h4,hR _ _ h5⟩
 ·rintro c x ⟨b',p,h1,h2,h3,h4,h5,h6⟩;exact .inl ⟨b',p,h1,h2,h3,h4,hR _ _ h5,h6⟩
 ·rintro c ⟨b',p,h1,h2,h3,h4⟩;exact .inl ⟨b',p,h1,h2,by rwa[iA]at h3,h4⟩
end
end Go.AM
namespace Go.AM
open Go
def dw.put(ρ:dw)(b:Nat)(p:Pl):dw:=fun x=>if x=b then some p else ρ x
theorem dw.tS{ρ:dw}{b:Nat}(h:ρ b=none)(p:Pl):ρ.le (ρ.put b p):=by
 intro x q hq;unfold dw.put;rw[bW (by rintro rfl;rw[h]at hq;cases hq)];exact hq
theorem dw.kr(ρ:dw)(b:Nat)(p:Pl):ρ.put b p b=some p:=by simp[dw.put]
theorem dw.Lw(ρ:dw){b x:Nat}(p:Pl)(h:x≠b):ρ.put b p x=ρ x:=by simp[dw.put,h]
section
variable {ρ:dw}{m:Mem}{w:ao}
theorem fL.Fw(h:fL ρ m w){m':Mem}(hn:m.next<=m'.next)(hb:∀b p,ρ b=some p->(m'.blk b)=(m.blk b))(hh:m'.bh=m.bh)(VE:m'.base=m.base)(hhm:m'.home=m.home):fL ρ m' w:=by
 have hc:∀b p o,ρ b=some p->m'.cell b o=m.cell b o:=fun b p o hp=>by unfold Mem.cell;rw[hb b p hp,hh]
 have hO:∀b,m'.bI b=m.bI b:=fun b=>by unfold Mem.bI;rw[hh,hhm]
 refine⟨fun b p hp=>aW (h.mo b p hp) hn,fun b p hp=>?_,fun b p o v hp=>?_,fun b p o hp cB hk ny=>h.thaw b p o hp cB (by rwa[hb b p hp]at hk) (by rwa[VE]at ny),fun b p hp=>?_,fun b p hp=>?_,fun b b' p p' dQ hp dG=>?_,h.rB,fun b p hp=>by rw[hb b p hp];exact h.vars b p hp⟩
 ·rw[hb b p hp];exact h.cells b p hp
 ·rw[hc b p o hp];exact h.kN b p o v hp
 ·rw[hb b p hp,hO];exact h.maps b p hp
 ·rw[hb b p hp,hO];exact h.kX b p hp
 ·rw[hb b p hp,hb b' p' dG];exact h.sep b b' p p' dQ hp dG
theorem mC {m':Mem}(hb:∀b p,ρ b=some p->(m'.blk b)=(m.blk b))(hh:m'.bh=m.bh)(hhm:m'.home=m.home)(hf:m'.floor=m.floor)(ho:m'.opn=m.opn)(N:Nat):eK (ax ρ m) (ax ρ m') N:=by
 have hR:∀b p o,ρ b=some p->m'.nC b o->m.nC b o:=fun b p o hp=>by unfold Mem.nC;rw[hb b p hp,hh];exact id
 have hW:∀b p o,ρ b=some p->m'.okW b o->m.okW b o:=fun b p o hp x=>⟨hR b p o hp x.1,by have :=x.2;rwa[hf,ho]at this⟩
 have hO:∀b,m'.bI b=m.bI b:=fun b=>by unfold Mem.bI;rw[hh,hhm]
 refine⟨?_,?_,?_⟩
 ·rintro c x ⟨b,p,h1,h2,h3,h4,h5⟩;exact .inl ⟨b,p,h1,h2,h3,h4,hR b p _ h1 h5⟩
 ·rintro c x ⟨b,p,h1,h2,h3,h4,h5⟩;exact .inl ⟨b,p,h1,h2,h3,h4,hW b p _ h1 h5⟩
 ·rintro c ⟨b,p,h1,h2,h3,h4⟩;exact .inl ⟨b,p,h1,h2,by rwa[hb b p h1]at h3,by rwa[hO]at h4⟩
theorem rm (h:fL ρ m w):ρ m.next=none:=by
 cases hp:ρ m.next with
 |none=>rfl
 |some p=>exact absurd (h.mo _ _ hp) ai
theorem kK (h:fL ρ m w)(k:dZ):∀b p,ρ b=some p->((m.alloc k).blk b)=(m.blk b):=by
 intro b p hp;rw[Mem.cD,bW];rintro rfl;rw[rm h]at hp;cases hp
theorem fL.bump(h:fL ρ m w)(k:dZ):fL ρ (m.alloc k) w:=h.Fw du (kK h k) rfl rfl rfl
theorem fL.lay(h:fL ρ m w){b:Nat}(hb:ρ b=none)(cB:b<m.next){w':ao}{o:Obj}(OF:w'.heap=w.heap.push o){p:Pl}(Zx:p.c=w.heap.size)
  (zi:(m.blk b).kind=1->p.d=0/\p.sz=(m.blk b).sz/\(m.blk b).cs.length<=p.room/\∃C e fr,o= .cells C e fr/\p.room<=C.size/\(∀x,x<p.room->¬(fr.1<=x/\x<fr.2))/\
   ∀(i:Nat) v,(m.blk b).cs[i]?=some (some v)->∃v',C[i]?=some v'/\aQ ρ v v')
  (Mm:(m.blk b).kind=2->∃lp,o= .map lp (m.blk b).clock/\bH (yy ρ) (m.blk b).es.toList lp.toList)
  (JA:(m.blk b).kind=3->p.d=0/\o= .stringIter (m.blk b).str (m.blk b).pos):fL (ρ.put b p) m w':=by
 have hle:=dw.tS hb p;have hold:∀c,c<w.heap.size->w'.heap[c]?=w.heap[c]?:=fun c hc=>by rw[OF,Array.getElem?_push_lt hc];simp[hc]
 have oN:w'.heap[w.heap.size]?=some o:=by rw[OF];simp
 have kY:∀c x,c<w.heap.size->w'.cell? ⟨c,x,none⟩=w.cell? ⟨c,x,none⟩:=fun c x hc=>by unfold ao.cell?;simp only[hold c hc]
 have fI:∀c,c<w.heap.size->w'.shape? c=w.shape? c:=fun c hc=>by unfold ao.shape?;simp only[hold c hc]
 have DN:∀c x,c<w.heap.size->w'.frozen? ⟨c,x,none⟩=w.frozen? ⟨c,x,none⟩:=fun c x hc=>by unfold ao.frozen?;simp only[hold c hc]
 have dS:∀b' p',ρ.put b p b'=some p'->(b'=b/\p'=p)\/(b'≠b/\ρ b'=some p'):=by
  intro b' p' dG;unfold dw.put at dG
  split at dG
  ·rename_i e;exact .inl ⟨e,(Option.some.inj dG).symm⟩
  ·rename_i e;exact .inr ⟨e,dG⟩
 refine⟨fun b' p' dG=>?_,fun b' p' dG hk=>?_,fun b' p' x v dG hc=>?_,fun b' p' x dG hx hk ny=>?_,fun b' p' dG hk ho=>?_,fun b' p' dG hk ho=>?_,fun yp yo nB oG dQ pV AJ k₁ k₂ hc=>?_,fun b' p' dG=>?_,fun b' p' dG hk Be=>?_⟩
 ·rcases dS _ _ dG with⟨rfl,rfl⟩|⟨_,hq⟩
  ·exact cB
  ·exact h.mo _ _ hq
 ·rcases dS _ _ dG with⟨rfl,rfl⟩|⟨_,hq⟩
  ·obtain⟨h0,h1,h2,C,e,fr,rfl,h3,_⟩:=zi hk;exact⟨h1,h2,e,C.size,by unfold ao.shape?;rw[Zx,oN],ai⟩
  ·obtain⟨h1,h2,e,n,h3,h4⟩:=h.cells _ _ hq hk;exact⟨h1,h2,e,n,by rw[fI _ (h.rB _ _ hq)];exact h3,h4⟩
 ·rcases dS _ _ dG with⟨rfl,rfl⟩|⟨_,hq⟩
  ·have hk:=(Mem.eE hc).1;obtain⟨h0,_,_,C,e,fr,rfl,_,_,h5⟩:=zi hk;have hx:(m.blk b').cs[x]?=some (some v):=by
    unfold Mem.cell at hc
    split at hc
    ·cases hg:(m.blk b').cs[x]? with
     |none=>simp[hg]at hc
     |some u=>cases u<;>simp[hg]at hc;subst hc;rfl
    ·cases hc
   obtain⟨v',Q6,hr⟩:=h5 x v hx;exact⟨v',by unfold ao.cell?;simp only[Zx,oN,h0,Nat.zero_add];simpa using Q6,hr.jN hle⟩
  ·obtain⟨v',h1,h2⟩:=h.kN _ _ _ _ hq hc;exact⟨v',by rw[kY _ _ (h.rB _ _ hq)];exact h1,h2.jN hle⟩
 ·rcases dS _ _ dG with⟨rfl,rfl⟩|⟨_,hq⟩
  ·obtain⟨h0,_,_,C,e,fr,rfl,h3,h4,_⟩:=zi hk;have :=h4 x hx;unfold ao.frozen?;simp only[Zx,oN,h0,Nat.zero_add];simpa using this
  ·rw[DN _ _ (h.rB _ _ hq)];exact h.thaw _ _ _ hq hx hk ny
 ·rcases dS _ _ dG with⟨rfl,rfl⟩|⟨_,hq⟩
  ·obtain⟨lp,rfl,h1⟩:=Mm hk;exact⟨lp,by rw[Zx,oN],h1.mono fun _ _ x=>⟨x.1.jN hle,x.2.1.jN hle,x.2.2⟩⟩
  ·obtain⟨lp,h1,h2⟩:=h.maps _ _ hq hk ho;exact⟨lp,by rw[hold _ (h.rB _ _ hq)];exact h1,h2.mono fun _ _ x=>⟨x.1.jN hle,x.2.1.jN hle,x.2.2⟩⟩
 ·rcases dS _ _ dG with⟨rfl,rfl⟩|⟨_,hq⟩
  ·obtain⟨h0,rfl⟩:=JA hk;exact⟨h0,by rw[Zx,oN]⟩
  ·obtain⟨h1,h2⟩:=h.kX _ _ hq hk ho;exact⟨h1,by rw[hold _ (h.rB _ _ hq)];exact h2⟩
 ·rcases dS _ _ pV with⟨rfl,rfl⟩|⟨XY,II⟩<;>rcases dS _ _ AJ with⟨rfl,rfl⟩|⟨XX,IH⟩
  ·exact absurd rfl dQ
  ·have :=h.rB _ _ IH;omega
  ·have :=h.rB _ _ II;omega
  ·exact h.sep _ _ _ _ dQ II IH k₁ k₂ hc
 ·rcases dS _ _ dG with⟨rfl,rfl⟩|⟨_,hq⟩
  ·rw[Zx,OF];simp
  ·have :=h.rB _ _ hq;rw[OF];simp;omega
 ·rcases dS _ _ dG with⟨rfl,rfl⟩|⟨_,hq⟩
  ·exact(zi hk).1
  ·exact h.vars _ _ hq hk Be
theorem vT {b:Nat}(hb:ρ b=none){p:Pl}{N:Nat}(hp:N<=p.c):eK (ax ρ m) (ax (ρ.put b p) m) N:=by
 have dS:∀b' p',ρ.put b p b'=some p'->(b'=b/\p'=p)\/ρ b'=some p':=by
  intro b' p' dG;unfold dw.put at dG
  split at dG
  ·rename_i e;exact .inl ⟨e,(Option.some.inj dG).symm⟩
  ·exact .inr dG
 refine⟨?_,?_,?_⟩
 ·rintro c x ⟨b',p',h1,rfl,h3⟩;rcases dS _ _ h1 with⟨_,rfl⟩|h1
  ·exact .inr hp
  ·exact .inl ⟨b',p',h1,rfl,h3⟩
 ·rintro c x ⟨b',p',h1,rfl,h3⟩;rcases dS _ _ h1 with⟨_,rfl⟩|h1
  ·exact .inr hp
  ·exact .inl ⟨b',p',h1,rfl,h3⟩
 ·rintro c ⟨b',p',h1,rfl,h3⟩;rcases dS _ _ h1 with⟨_,rfl⟩|h1
  ·exact .inr hp
  ·exact .inl ⟨b',p',h1,rfl,h3⟩
theorem eK.trans{R eM aip:Perm}{N:Nat}(h:eK R eM N)(k:eK eM aip N):eK R aip N:=
 ⟨fun b o x=>(k.rd b o x).elim (h.rd b o) .inr,fun b o x=>(k.wr b o x).elim (h.wr b o) .inr,fun b x=>(k.ob b x).elim (h.ob b) .inr⟩
theorem fL.kill(h:fL ρ m w)(b:Nat):fL ρ (m.a9 b {}) w:=by
 have eF:∀b',(m.a9 b {}).blk b'=if b=b' then{bK:=m.tick}else m.blk b':=fun b'=>Mem.eC ..
 have dQ:∀b',((m.a9 b {}).blk b').kind≠0->b≠b'/\(m.a9 b {}).blk b'=m.blk b':=by
  intro b' hk;rw[eF]at hk⊢
  by_cases hb:b=b'
  ·rw[bj hb]at hk;exact absurd rfl hk
  ·rw[bW hb];exact⟨hb,rfl⟩
 refine⟨h.mo,fun b' p' dG hk=>?_,fun b' p' x v dG hc=>?_,fun b' p' x dG hx hk ny=>?_,fun b' p' dG hk ho=>?_,fun b' p' dG hk ho=>?_,fun yp yo nB oG Ml pV AJ k₁ k₂ hc=>?_,h.rB,fun b' p' dG hk Be=>?_⟩
 ·obtain⟨_,e⟩:=dQ b' ai;rw[e]at hk⊢;exact h.cells b' p' dG hk
 ·have hk:=(Mem.eE hc).1;obtain⟨_,e⟩:=dQ b' ai;refine h.kN b' p' x v dG ?_;unfold Mem.cell at hc⊢;rw[e]at hc;exact hc
 ·obtain⟨_,e⟩:=dQ b' ai;rw[e]at hk;exact h.thaw b' p' x dG hx hk ny
 ·obtain⟨_,e⟩:=dQ b' ai;rw[e]at hk⊢;exact h.maps b' p' dG hk ho
 ·obtain⟨_,e⟩:=dQ b' ai;rw[e]at hk⊢;exact h.kX b' p' dG hk ho
 ·obtain⟨_,XY⟩:=dQ yp k₁;obtain⟨_,XX⟩:=dQ yo k₂;rw[XY]at k₁⊢;rw[XX]at k₂⊢;exact h.sep yp yo nB oG Ml pV AJ k₁ k₂ hc
 ·obtain⟨_,e⟩:=dQ b' ai;rw[e]at hk Be;exact h.vars b' p' dG hk Be
theorem H5 (b N:Nat):eK (ax ρ m) (ax ρ (m.a9 b {})) N:=by
 have eF:∀b',(m.a9 b {}).blk b'=if b=b' then{bK:=m.tick}else m.blk b':=fun b'=>Mem.eC ..
 have dQ:∀b',((m.a9 b {}).blk b').kind≠0->(m.a9 b {}).blk b'=m.blk b':=by
  intro b' hk;rw[eF]at hk⊢
  by_cases hb:b=b'
  ·rw[bj hb]at hk;exact absurd rfl hk
  ·rw[bW hb]
 refine⟨?_,?_,?_⟩
 ·rintro c x ⟨b',p,h1,h2,h3,h4,h5⟩;have e:=dQ b' (by have :=h5.1;omega);exact .inl ⟨b',p,h1,h2,h3,h4,by unfold Mem.nC at h5⊢;rw[e]at h5;exact h5⟩
 ·rintro c x ⟨b',p,h1,h2,h3,h4,h5⟩;have e:=dQ b' (by have :=h5.1.1;omega);exact .inl ⟨b',p,h1,h2,h3,h4,by unfold Mem.okW Mem.nC at h5⊢;rw[e]at h5;exact h5⟩
 ·rintro c ⟨b',p,h1,h2,h3,h4⟩;have e:=dQ b' ai;exact .inl ⟨b',p,h1,h2,by rwa[e]at h3,h4⟩
structure Left (ρ:dw)(m:Mem)(w:ao)(bq:dw)(m':Mem)(w':ao):Prop where
 le:ρ.le bq
 jM:fL bq m' w'
 within:eK (ax ρ m) (ax bq m') w.heap.size
 old:∀b,b<m.next->bq b=ρ b
theorem Left.refl(h:fL ρ m w):Left ρ m w ρ m w:=⟨ρ.le_refl,h,eK.refl _ _,fun _ _=>rfl⟩
theorem AX {ρ:dw}{n:Nat}{p:Pl}:∀b,b<n->ρ.put n p b=ρ b:=fun b hb=>dw.Lw _ _ ai
theorem pE {P:aC}{R:Perm}{N:Nat}{e:aO}{C:Array ae}{Q:Addr->ao->Prop}(hq:Q ⟨w.heap.size,0,none⟩ {w with heap:=w.heap.push (.cells C e)}):dR P R N (newRow e C) Q w:=hq
theorem fL.cC(h:fL ρ m w){sz ps:Nat}{vs:List ae}{C:Array ae}(e:aO)(hlen:vs.length<=C.size)(hv:∀(i:Nat) v,vs[i]?=some v->∃v',C[i]?=some v'/\aQ ρ v v'):
  Left ρ m w (ρ.put m.next ⟨w.heap.size,0,C.size,sz⟩) (m.alloc {kind:=1,sz:=sz,cs:=vs.map some,pos:=ps}) {w with heap:=w.heap.push (.cells C e)}:=by
 have hn:=rm h;have j7:(m.alloc {kind:=1,sz:=sz,cs:=vs.map some,pos:=ps}).blk m.next={kind:=1,sz:=sz,cs:=vs.map some,pos:=ps,bK:=m.tick}:=by rw[Mem.cD,bj rfl]
 refine⟨dw.tS hn _,(h.bump {kind:=1,sz:=sz,cs:=vs.map some,pos:=ps}).lay hn du (o:= .cells C e) rfl rfl (fun _=>?_) (fun hk=>by rw[j7]at hk;simp at hk) (fun hk=>by rw[j7]at hk;simp at hk),
  (mC (kK h _) rfl rfl rfl rfl _).trans (vT hn (aj _)),AX⟩
 rw[j7];refine⟨rfl,rfl,by simpa using hlen,C,e,(0,0),rfl,aj _,fun x _ hx=>by omega,fun i v hi=>?_⟩;rw[List.getElem?_map,az]at hi;obtain⟨u,hu,hx⟩:=hi;obtain rfl:u=v:=by simpa using hx
 exact hv i u hu
theorem fL.PX(h:fL ρ m w){sz ps:Nat}{vs:List ae}{qV:List ae}(e:aO)(hv:bH (aQ ρ) vs qV):
  Left ρ m w (ρ.put m.next ⟨w.heap.size,0,qV.length,sz⟩) (m.alloc {kind:=1,sz:=sz,cs:=vs.map some,pos:=ps}) {w with heap:=w.heap.push (.cells qV.toArray e)}:=by
 have :=h.cC (sz:=sz) (ps:=ps) (vs:=vs) (C:=qV.toArray) e (by simp[hv.length]) (fun i v hi=>by simpa using hv.get hi);simpa using this
theorem fL.EZ(h:fL ρ m w){sz ps:Nat}{G G':Array ae}(e:aO)(hv:bH (aQ ρ) G.toList G'.toList):
  Left ρ m w (ρ.put m.next ⟨w.heap.size,0,G'.size,sz⟩) (m.alloc {kind:=1,sz:=sz,cs:=G.toList.map some,pos:=ps}) {w with heap:=w.heap.push (.cells G' e)}:=by
 have :=h.cC (sz:=sz) (ps:=ps) (vs:=G.toList) (C:=G') e (by have :=hv.length;simp at this;simp;omega) (fun i v hi=>by simpa using hv.get hi);exact this
end
end Go.AM
namespace Go.AM
open Go
section types
variable {P:aC}{R:Perm}{N:Nat}{w:ao}{t:aO}
theorem B7 {α:Type}{a:α}{Q:α->ao->Prop}(h:Q a w):dR P R N (pure a) Q w:=h
theorem aG {Q:TypeDesc->ao->Prop}{d:TypeDesc}(h:P.underlying t=some d)(hq:Q d w):dR P R N (underlying t) Q w:=by
 unfold underlying;rw[ar]
 show dR P R N (match P.underlying t with |some d=>pure d|none=>stuck "no such type") Q w
 rw[h];exact hq
theorem gP {Q:TypeInfo->ao->Prop}{d:TypeInfo}(h:P.info? t=some d)(hq:Q d w):dR P R N (typeInfo t) Q w:=by
 unfold typeInfo;rw[ar]
 show dR P R N (match P.info? t with |some d=>pure d|none=>stuck "no such type") Q w
 rw[h];exact hq
theorem Lk {n:Nat}(h:ep P t=some n):∃i,P.info? t=some i/\i.size=n:=by
 unfold ep at h;exact az.1 h
theorem dM {Q:Nat->ao->Prop}{n:Nat}(h:ep P t=some n)(hq:Q n w):dR P R N (sizeOf t) Q w:=by
 obtain⟨i,hi,rfl⟩:=Lk h;unfold sizeOf;rw[ar];exact gP hi hq
theorem KR {z:ae}(h:iw P t=some z):∃i,P.info? t=some i/\i.zero=some z:=by
 unfold iw at h
 split at h
 ·rename_i i hi
  split at h
  ·rename_i z' hz
   split at h
   ·simp only[ah]at h;subst h;exact⟨i,hi,hz⟩
   ·cases h
  ·cases h
 ·cases h
theorem jE {z:ae}(h:iw P t=some z):z.cells.toList.all de=true/\ep P t=some z.cells.size:=by
 unfold iw at h
 split at h
 ·rename_i i hi
  split at h
  ·rename_i z' hz
   split at h
   ·rename_i hc;simp only[ah]at h;subst h;simp only[ag,beq_iff_eq]at hc;exact⟨hc.1,by unfold ep;rw[hi,hc.2];rfl⟩
   ·cases h
  ·cases h
 ·cases h
theorem fe {Q:ae->ao->Prop}{z:ae}(h:iw P t=some z)(hq:Q z w):dR P R N (zeroValue t) Q w:=by
 obtain⟨i,hi,hz⟩:=KR h;unfold zeroValue;rw[ar];refine gP hi ?_;rw[hz];exact hq
theorem uQ {Q:Bool->ao->Prop}{b:Bool}(h:zC P t=some b)(hq:Q b w):dR P R N (isAgg t) Q w:=by
 unfold zC at h;obtain⟨d,hd,hb⟩:=az.1 h;unfold isAgg;rw[ar];refine aG hd ?_;subst hb;cases d<;>exact hq
end types
section
variable {P:aC}{ρ:dw}{m:Mem}{w:ao}{N:Nat}
theorem z7 (h:fL ρ m w){t:aO}{p p' v:ae}(hp:aQ ρ p p')(hl:ky P t p m=some v){Q:ae->ao->Prop}(hq:∀v',aQ ρ v v'->Q v' w):
  dR P (ax ρ m) N (Instr.loadAt t p') Q w:=by
 unfold ky at hl
 split at hl
 ·rename_i b o;obtain⟨pl,dB,_,rfl⟩:=cP.1 hp;unfold Instr.loadAt loadVar;rw[ar]
  show dR P (ax ρ m) N (isAgg t>>=fun x=>if x=true then(do let n<-sizeOf t;let cs<-loadCells ⟨pl.c,pl.d+o,none⟩ n;pure (.agg cs))else Go.load ⟨pl.c,pl.d+o,none⟩) Q w
  rw[ar]
  split at hl
  ·rename_i ha;obtain⟨n,hn,hl⟩:=bC.1 hl;obtain⟨l,XD,rfl⟩:=az.1 hl;refine uQ ha ?_;simp only[if_true];rw[ar];refine dM hn ?_;rw[ar];refine h.qL dB XD (fun qV Qa=>?_);exact hq _ (gN.2 ⟨_,rfl,by simpa using Qa⟩)
  ·rename_i ha;obtain⟨l,hl,hh⟩:=bC.1 hl;refine uQ ha ?_;simp only[cF,if_false];obtain⟨u,v',h1,h2,h3,h4⟩:=h.z8 dB hl (show 0<1 by omega);have :u=v:=by
    cases l with
    |nil=>simp at hh
    |cons x l=>simp at hh h1;rw[<-h1,hh]
   subst this;exact B8 h3 h4 (hq _ h2)
  ·cases hl
 ·cases hl
theorem px (h:fL ρ m w){b:Nat}{pl:Pl}(dB:ρ b=some pl){o:Nat}{vs qV:List ae}{m':Mem}(hs:m.dP b o vs=some m')(hv:bH (aQ ρ) vs qV){Q:Unit->ao->Prop}
  (hq:∀w',Left ρ m w ρ m' w'->w'.drawn=w.drawn->Q () w'):dR P (ax ρ m) N (storeCells ⟨pl.c,pl.d+o,none⟩ qV) Q w:=by
 obtain⟨cs,rfl,hk,Jw,CJ,lY⟩:=Mem.qi hs;obtain⟨_,_,pK⟩:=lF CJ;have hlen:=hv.length;refine pD qV 0 w (fun v Q6=>?_) (fun j hj=>?_) (fun w' hw=>hq w' ⟨ρ.le_refl,h.wrote dB hv hk CJ (by simpa using hw),Ea hk CJ _,fun _ _=>rfl⟩ hw.drawn)
 ·obtain⟨i,hi⟩:=List.mem_iff_getElem?.1 Q6;obtain⟨u,hu,hr⟩:=hv.get' hi;exact hr.NN (lY u (List.mem_of_getElem? hu))
 ·rw[Nat.add_zero,Nat.add_assoc];obtain⟨u,hu⟩:=pK j ai;obtain⟨hh,hf⟩:=Mem.qM Jw (i:=j) ai;have hc:m.cell b (o+j)=some u:=by unfold Mem.cell;rw[bj ⟨hk,hh⟩,hu];rfl
  obtain⟨u',TT,_⟩:=h.kN b pl _ u dB hc;have hr:=iM h dB hc;have hw:m.okW b (o+j):=⟨Mem.eE hc,hf⟩;exact⟨by rw[TT];rfl,h.thaw b pl _ dB hr hk (Mem.ku Jw),yI dB hr hw⟩
theorem F7 (h:fL ρ m w){t:aO}{p p' x x':ae}{m':Mem}(hp:aQ ρ p p')(hx:aQ ρ x x')(hs:v8 P t p x m=some m'){Q:Unit->ao->Prop}(hq:∀w',Left ρ m w ρ m' w'->Q () w'):
  dR P (ax ρ m) N (Instr.storeAt t p' x') Q w:=by
 unfold v8 at hs
 split at hs
 ·rename_i b o;obtain⟨pl,dB,_,rfl⟩:=cP.1 hp
  split at hs
  ·rename_i ig;have hc:=hx.cells;have hl:=hc.length;simp only[Array.length_toList]at hl;unfold Instr.storeAt storeVar;rw[ar]
   show dR P (ax ρ m) N (sizeOf t>>=fun n=>if x'.cells.size≠n then(do stuck "storeVar: the value has not the size of the variable";storeCells ⟨pl.c,pl.d+o,none⟩ x'.cells.toList)else(do pure PUnit.unit;storeCells ⟨pl.c,pl.d+o,none⟩ x'.cells.toList)) Q w
   rw[ar];refine dM ig ?_;rw[bW (by simpa using hl.symm)];exact px h dB hs hc fun w' hw _=>hq w' hw
  ·cases hs
 ·cases hs
theorem Cc (h:fL ρ m w){t:aO}{v v':ae}(hv:bH (aQ ρ) v.cells.toList v'.cells.toList){sz ps:Nat}{Q:Addr->ao->Prop}
  (hq:∀w' bq,Left ρ m w bq (m.alloc {kind:=1,sz:=sz,cs:=v.cells.toList.map some,pos:=ps}) w'->aQ bq (ptrTo m.next 0) (.pointer (some ⟨w.heap.size,0,none⟩))->Q ⟨w.heap.size,0,none⟩ w'):
  dR P (ax ρ m) N (newVar t v') Q w:=by
 unfold newVar;refine pE ?_;have :=h.PX (sz:=sz) (ps:=ps) (vs:=v.cells.toList) t hv;refine hq _ _ (by simpa using this) (cP.2 ⟨_,dw.kr ..,rfl,rfl⟩)
theorem zo {s:aO}{p p' v:ae}{f:Nat}(hp:aQ ρ p p')(hf:sw P s p f=some v){Q:ae->ao->Prop}{R:Perm}(hq:∀v',aQ ρ v v'->Q v' w):dR P R N (Instr.fieldAt s p' f) Q w:=by
 unfold sw at hf
 split at hf
 ·rename_i fields b o hu
  split at hf
  ·rename_i fd hfd
   split at hf
   ·rename_i k hk;simp only[ah]at hf;subst hf;obtain⟨pl,dB,_,rfl⟩:=cP.1 hp;unfold Instr.fieldAt;rw[ar];refine aG hu ?_
    show dR P R N (match fields[f]? with |some f=>(do let a<-Instr.sureAddr (.pointer (some ⟨pl.c,pl.d+o,none⟩));pure (.pointer (some (<-fieldPlace a f))))|_=>stuck "fieldAddr: no such field") Q w
    rw[hfd]
    show dR P R N (do let a<-(pure (some (<-fieldPlace ⟨pl.c,pl.d+o,none⟩ fd)));pure (.pointer a)) Q w
    unfold fieldPlace;simp only[bind_assoc,pure_bind];rw[ar];refine dM hk ?_;rw[bW ai];simp only[pure_bind];rw[iZ,Nat.add_assoc];exact hq _ (cP.2 ⟨pl,dB,rfl,rfl⟩)
   ·cases hf
  ·cases hf
 ·cases hf
theorem y9 {t:aO}{x x' i i' v:ae}(hx:aQ ρ x x')(hi:aQ ρ i i')(hf:pJ P t x i=some v){Q:ae->ao->Prop}{R:Perm}(hq:∀v',aQ ρ v v'->Q v' w):dR P R N (Instr.indexAt t x' i') Q w:=by
 unfold pJ at hf
 split at hf
 ·rename_i e b o len cap k n hu;obtain⟨pl,gC,dB,_,rfl,_⟩:=bZ.1 hx;obtain rfl:=(aF (by rfl)).1 hi
  split at hf
  ·rename_i hb;obtain⟨s,hs,rfl⟩:=az.1 hf;unfold Instr.indexAt;simp only[asIntOf,pure_bind];rw[ar];refine aG hu ?_;simp only[pure_bind];rw[ar];refine aG hu ?_;simp only[bj hb];rw[ar];refine dM hs ?_;rw[iZ,Nat.add_assoc];exact hq _ (cP.2 ⟨pl,dB,rfl,rfl⟩)
  ·cases hf
 ·rename_i len e b o k n hu;obtain⟨pl,dB,_,rfl⟩:=cP.1 hx;obtain rfl:=(aF (by rfl)).1 hi
  split at hf
  ·rename_i hb;obtain⟨s,hs,rfl⟩:=az.1 hf;unfold Instr.indexAt;simp only[asIntOf,pure_bind];rw[ar];refine aG hu ?_;simp only[Instr.sureAddr,pure_bind];rw[ar];refine aG hu ?_;simp only[bj hb];rw[ar];refine dM hs ?_;rw[iZ,Nat.add_assoc];exact hq _ (cP.2 ⟨pl,dB,rfl,rfl⟩)
  ·cases hf
 ·cases hf
theorem zU {t:aO}{cs jf:Array ae}{off:Nat}{v:ae}(hc:bH (aQ ρ) cs.toList jf.toList)(hf:NK P t cs off=some v){Q:ae->ao->Prop}{R:Perm}(hq:∀v',aQ ρ v v'->Q v' w):dR P R N (part t jf off) Q w:=by
 unfold NK at hf;unfold part;rw[ar]
 split at hf
 ·rename_i ha;obtain⟨n,hn,rfl⟩:=az.1 hf;refine uQ ha ?_;simp only[if_true];rw[ar];refine dM hn ?_;refine hq _ (gN.2 ⟨_,rfl,?_⟩);simp only[Array.toList_extract,List.extract_eq_take_drop];exact(hc.drop off).take _
 ·rename_i ha;refine uQ ha ?_;simp only[cF,if_false];obtain⟨v',h1,h2⟩:=hc.get (i:=off) (by simpa using hf);rw[show jf[off]?=some v' by simpa using h1];exact hq _ h2
 ·cases hf
theorem He {s:aO}{x x' v:ae}{f:Nat}(hx:aQ ρ x x')(hf:Hf P s x f=some v){Q:ae->ao->Prop}{R:Perm}(hq:∀v',aQ ρ v v'->Q v' w):dR P R N (Instr.field s x' f) Q w:=by
 unfold Hf at hf
 split at hf
 ·rename_i fields cs hu;obtain⟨fd,hfd,Mp⟩:=bC.1 hf;obtain⟨jf,rfl,hc⟩:=gN.1 hx;unfold Instr.field;rw[ar];refine aG hu ?_;simp only[hfd,asAgg,pure_bind];exact zU hc Mp hq
 ·cases hf
theorem G2 {t:aO}{x x' i i' v:ae}(hx:aQ ρ x x')(hi:aQ ρ i i')(hf:wB P t x i=some v){Q:ae->ao->Prop}{R:Perm}(hq:∀v',aQ ρ v v'->Q v' w):dR P R N (Instr.index t x' i') Q w:=by
 unfold wB at hf
 split at hf
 ·rename_i len e cs k n hu;obtain⟨jf,rfl,hc⟩:=gN.1 hx;obtain rfl:=(aF (by rfl)).1 hi
  split at hf
  ·rename_i hb;obtain⟨s,hs,Mp⟩:=bC.1 hf;unfold Instr.index;simp only[asIntOf,pure_bind];rw[ar];refine aG hu ?_;simp only[bj hb];rw[ar];refine dM hs ?_;exact zU hc Mp hq
  ·cases hf
 ·cases hf
theorem wO {v:ae}{d y h:Nat}{code:BoundsCode}(hb:gH (some v) d=some h)(hy:h<=y){Q:Nat->ao->Prop}{R:Perm}(hq:Q h w):dR P R N (Instr.sliceBound v y code) Q w:=by
 unfold gH at hb
 split at hb
 ·rename_i e;cases e
 ·rename_i k n e;cases e
  split at hb
  ·simp only[ah]at hb;subst hb;simp only[Instr.sliceBound,asIntOf,pure_bind];rw[bj ⟨ft,ai⟩];exact hq
  ·cases hb
 ·cases hb
theorem uu {d h:Nat}(hb:gH none d=some h):h=d:=by simpa[gH]using hb.symm
theorem kC {isS:Bool}{len cap l h:Nat}{lo hi:Option ae}(hl:gH lo 0=some l)(hh:gH hi len=some h)(hlh:l<=h)(hc:h<=cap){Q:Nat×Nat×Nat->ao->Prop}{R:Perm}(hq:Q (l,h,cap) w):
  dR P R N (Instr.sliceBounds isS len cap lo hi none) Q w:=by
 unfold Instr.sliceBounds;simp only[pure_bind];cases hi with
 |none=>
  obtain rfl:=uu hh;cases lo with
  |none=>obtain rfl:=uu hl;exact hq
  |some v=>
   simp only[];rw[ar];exact wO hl hlh hq
 |some u=>
  simp only[];rw[ar];refine wO hh hc ?_;cases lo with
  |none=>obtain rfl:=uu hl;exact hq
  |some v=>
   simp only[];rw[ar];exact wO hl hlh hq
def HO (ρ:dw):Option ae->Option ae->Prop
 |none,none=>True
 |some a,some b=>aQ ρ a b
 |_,_=>False
theorem qY {v:Option ae}{v':Option ae}(h:HO ρ v v'){d n:Nat}(hb:gH v d=some n):v'=v:=by
 unfold gH at hb
 split at hb
 ·cases v' with
  |none=>rfl
  |some b=>exact h.elim
 ·cases v' with
  |none=>exact h.elim
  |some b=>rw[(aF (by rfl)).1 h]
 ·cases hb
theorem Gb (abW:fL ρ m w){t:aO}{x x' v:ae}{lo hi lo' Ej:Option ae}(hx:aQ ρ x x')(jd:HO ρ lo lo')(hhi:HO ρ hi Ej)(hf:iy P t x lo hi m=some v)
  {Q:ae->ao->Prop}{R:Perm}(hq:∀v',aQ ρ v v'->Q v' w):dR P R N (Instr.sliceAt t x' lo' Ej none) Q w:=by
 unfold iy at hf
 split at hf
 ·rename_i e b o len cap hu
  split at hf
  ·rename_i l h s hl hh hs;obtain rfl:=qY jd hl;obtain rfl:=qY hhi hh;obtain⟨pl,gC,dB,_,rfl,mN⟩:=bZ.1 hx;unfold Instr.sliceAt;rw[ar];refine aG hu ?_;simp only[Instr.slice];rw[ar];refine aG hu ?_;simp only[];rw[ar]
   split at hf
   ·rename_i hc;rw[bj hc]at mN
    split at hf
    ·rename_i hb;simp only[ah]at hf;subst hf;refine kC hl hh hb.1 ai ?_;simp only[];rw[ar];refine dM hs ?_;refine hq _ (bZ.2 ⟨pl,gC-l,dB,rfl,?_,?_⟩)
     ·congr 1
      rcases hb.2.2 with h0|h0
      ·subst h0;split<;>simp[iZ]
      ·rw[bW ai];simp only[cU,iZ,Nat.add_assoc]
     ·rw[bj rfl];refine⟨ai,?_⟩;rcases hb.2.2 with h0|⟨h0,h1,h2⟩
      ·subst h0;simp;exact mN.2
      ·obtain⟨ig,_⟩:=abW.cells b pl dB h1;have e2:pl.sz=s:=by rw[ig,h2]
       rw[e2]at mN⊢;have :l*s+(gC-l)*s=gC*s:=by rw[<-Nat.add_mul];congr 1;omega
       simp only[];have h3:=mN.2;simp only at h3;omega
    ·cases hf
   ·rename_i hc;rw[bW hc]at mN;subst mN
    split at hf
    ·rename_i hb;simp only[ah]at hf;subst hf;refine kC hl hh hb.2.1 hb.2.2 ?_;simp only[];rw[ar];refine dM hs ?_
     by_cases h0:gC=l
     ·simp only[h0,if_true];exact hq _ (by rw[bj h0];exact bZ.2 ⟨pl,l-l,dB,rfl,rfl,by rw[bW (by unfold cH;omega)];omega⟩)
     ·simp only[h0,if_false,cU,iZ,Nat.add_assoc];exact hq _ (by rw[bW h0];exact bZ.2 ⟨pl,gC-l,dB,rfl,rfl,by rw[bW (by have :=hb.1;omega)]⟩)
    ·cases hf
  ·cases hf
 ·rename_i e len cap hu
  split at hf
  ·rename_i l h s hl hh hs;obtain rfl:=qY jd hl;obtain rfl:=qY hhi hh;obtain rfl:=(aF (by rfl)).1 hx
   split at hf
   ·rename_i hb;simp only[ah]at hf;subst hf;unfold Instr.sliceAt;rw[ar];refine aG hu ?_;simp only[Instr.slice];rw[ar];refine aG hu ?_;simp only[];rw[ar];refine kC hl hh hb.2.1 hb.2.2 ?_;simp only[];rw[ar];refine dM hs ?_;have e1:(if cap=l then(none:Option Addr)else Option.map (fun x:Addr=>x.add (l*s)) none)=none:=by split<;>rfl
    rw[e1];exact hq _ ((aF (by rfl)).2 rfl)
   ·cases hf
  ·cases hf
 ·rename_i n e b o hu
  split at hf
  ·rename_i l h s hl hh hs;obtain rfl:=qY jd hl;obtain rfl:=qY hhi hh;obtain⟨pl,dB,_,rfl⟩:=cP.1 hx
   split at hf
   ·rename_i hb;simp only[ah]at hf;subst hf;unfold Instr.sliceAt;rw[ar];refine aG hu ?_;simp only[Instr.sureAddr,pure_bind];rw[ar];refine kC hl hh hb.2.1 hb.2.2 ?_;simp only[];rw[ar];refine dM hs ?_
    by_cases h0:n=l
    ·simp only[h0,if_true];exact hq _ (by rw[bj h0];exact bZ.2 ⟨pl,n-l,dB,rfl,by rw[h0],by rw[bW (by have :=hb.1;omega)]⟩)
    ·simp only[h0,if_false,iZ,Nat.add_assoc];exact hq _ (by rw[bW h0];exact bZ.2 ⟨pl,n-l,dB,rfl,rfl,by rw[bW (by have :=hb.1;omega)]⟩)
   ·cases hf
  ·cases hf
 ·cases hf
end
end Go.AM
namespace Go.AM
open Go
section
variable {P:aC}{ρ:dw}{m:Mem}{w:ao}{N:Nat}
theorem Ep {l l':List ae}(h:bH (aQ ρ) l l')(off:Nat):∀{cs jf:Array ae} (j:Nat),bH (aQ ρ) cs.toList jf.toList->
  bH (aQ ρ) ((l.zipIdx j).foldl (fun cs (x:ae×Nat)=>cs.setIfInBounds (off+x.2) x.1) cs).toList ((l'.zipIdx j).foldl (fun cs (x:ae×Nat)=>cs.setIfInBounds (off+x.2) x.1) jf).toList:=by
 induction l generalizing l' with
 |nil=>intro cs jf j hc;cases l' with
  |nil=>exact hc
  |cons _ _=>exact h.elim
 |cons a l ih=>
  intro cs jf j hc;cases l' with
  |nil=>exact h.elim
  |cons b l'=>
   simp only[List.zipIdx_cons,List.foldl_cons];refine ih h.2 (j+1) ?_;simp only[Array.toList_setIfInBounds];exact hc.set h.1 _
theorem xd (cs v:Array ae)(off:Nat):(v.zipIdx.foldl (fun(cs:Array ae) (x:ae×Nat)=>cs.setIfInBounds (off+x.2) x.1) cs)=(v.toList.zipIdx.foldl (fun cs (x:ae×Nat)=>cs.setIfInBounds (off+x.2) x.1) cs):=by
 rw[<-Array.foldl_toList,Array.toList_zipIdx]
theorem xZ {place:Nat->Option (Nat×Nat)}:∀{parts wm:List (Nat×ae)} {cs jf r:Array ae},bH (fun a b=>b.1=a.1/\aQ ρ a.2 b.2) parts wm->bH (aQ ρ) cs.toList jf.toList->
  Instr.fill place cs parts=some r->∃r',Instr.fill place jf wm=some r'/\bH (aQ ρ) r.toList r'.toList:=by
 intro parts
 induction parts with
 |nil=>
  intro wm cs jf r hp hc h;cases wm with
  |cons _ _=>exact hp.elim
  |nil=>
   simp only[Instr.fill,ah]at h⊢;subst h;exact⟨_,rfl,hc⟩
 |cons x parts ih=>
  intro wm cs jf r hp hc h;cases wm with
  |nil=>exact hp.elim
  |cons y wm=>
   obtain⟨i,v⟩:=x;obtain⟨i',v'⟩:=y;obtain⟨⟨rfl,hv⟩,hp⟩:=hp;simp only[Instr.fill]at h⊢;cases dB:place i' with
   |none=>rw[dB]at h;cases h
   |some q=>
    obtain⟨off,size⟩:=q;rw[dB]at h;simp only[]at h⊢;have Qi:=hv.cells;have e1:v'.cells.size=v.cells.size:=by simpa using Qi.length.symm
    have e2:jf.size=cs.size:=by simpa using hc.length.symm
    rw[e1,e2]
    split at h
    ·cases h
    ·rename_i Ul;rw[bW Ul];refine ih hp ?_ h;rw[xd,xd];exact Ep Qi off 0 hc
theorem yH {t:aO}{z:ae}(h:iw P t=some z):bH (aQ ρ) z.cells.toList z.cells.toList:=iF (jE h).1
theorem ug {l:Array ae}(h:l.toList.all de=true)(i:Nat):de (l[i]!)=true:=by
 by_cases hi:i<l.size
 ·rw[getElem!_pos l i hi];exact aB.1 h _ du
 ·rw[getElem!_neg l i hi];rfl
theorem uO {t:aO}{z:ae}(h:iw P t=some z)(n:Nat):bH (aQ ρ) ((Array.range n).map (z.cells[·%z.cells.size]!)).toList ((Array.range n).map (z.cells[·%z.cells.size]!)).toList:=by
 refine iF ?_;rw[aB];intro x hx;simp only[Array.toList_map,List.mem_map]at hx;obtain⟨i,_,rfl⟩:=hx;exact ug (jE h).1 _
theorem Hz {t:aO}{ps:List (Nat×ae)}{ps':Array (Nat×ae)}{v:ae}(hp:bH (fun a b=>b.1=a.1/\aQ ρ a.2 b.2) ps ps'.toList)(hb:Dl P t ps=some v)
  {Q:ae->ao->Prop}{R:Perm}(hq:∀v',aQ ρ v v'->Q v' w):dR P R N (Instr.build t ps') Q w:=by
 unfold Dl at hb
 split at hb
 ·rename_i z fields Om hu
  split at hb
  ·rename_i places dB;obtain⟨r,hr,rfl⟩:=az.1 hb;obtain⟨r',HT,zf⟩:=xZ hp (yH Om) hr;unfold Instr.build;rw[ar];refine fe Om ?_;simp only[];rw[ar];refine aG hu ?_;simp only[];rw[ar];have key:∀(l:List Field) (pl:List (Nat×Nat)) (Q:List (Nat×Nat)->ao->Prop),l.mapM (m:=Option) (fun f=>(ep P f.type).map fun n=>(f.offset,n))=some pl->Q pl w->
     dR P R N (l.mapM (m:=Sem) fun f=>do pure (f.offset,<-sizeOf f.type)) Q w:=by
    intro l
    induction l with
    |nil=>intro pl Q h hq;simp at h;subst h;simpa using B7 hq
    |cons f l ih=>
     intro pl Q h hq;rw[List.mapM_cons]at h⊢;simp only[Option.bind_eq_bind,bC,az,Option.pure_def,ah]at h;obtain⟨x,⟨n,hn,rfl⟩,ys,Zh,rfl⟩:=h;simp only[bind_assoc,pure_bind];rw[ar];refine dM hn ?_;rw[ar];exact ih ys _ Zh (B7 hq)
   rw[Array.mapM_eq_mapM_toList]at dB⊢;simp only[Option.map_eq_map,az]at dB;obtain⟨pl,dB,rfl⟩:=dB;rw[<-bind_pure_comp,ar];refine key fields.toList pl _ dB ?_
   show dR P R N (pure pl.toArray) _ w
   refine B7 ?_;simp only[HT];exact hq _ (gN.2 ⟨_,rfl,zf⟩)
  ·cases hb
 ·rename_i z n e Om hu;obtain⟨s,hs,nU⟩:=bC.1 hb;obtain⟨r,hr,rfl⟩:=az.1 nU;obtain⟨r',HT,zf⟩:=xZ hp (yH Om) hr;unfold Instr.build;rw[ar];refine fe Om ?_;simp only[];rw[ar];refine aG hu ?_;simp only[];rw[ar];refine dM hs ?_;simp only[HT];exact hq _ (gN.2 ⟨_,rfl,zf⟩)
 ·cases hb
theorem yq (h:fL ρ m w){t:aO}{n:Nat}{ps:List (Nat×ae)}{ps':Array (Nat×ae)}{v:ae}{m':Mem}(hp:bH (fun a b=>b.1=a.1/\aQ ρ a.2 b.2) ps ps'.toList)
  (hb:bY P t n ps m=some (v,m')){Q:ae->ao->Prop}{R:Perm}(hq:∀v' w' bq,Left ρ m w bq m' w'->aQ bq v v'->Q v' w'):dR P R N (Instr.buildSlice t n ps') Q w:=by
 unfold bY at hb
 split at hb
 ·rename_i e hu
  split at hb
  ·rename_i size z hs Om
   split at hb
   ·cases hb
   ·rename_i ig;obtain⟨r,hr,nU⟩:=az.1 hb;simp only[au]at nU;obtain⟨rfl,rfl⟩:=nU;obtain⟨r',HT,zf⟩:=xZ hp (uO Om _) hr;unfold Instr.buildSlice;rw[ar];refine aG hu ?_;simp only[];rw[ar];refine dM hs ?_;rw[bW ai];have fin:dR P R N (do
      let a<-newRow e r'
      pure (.slice (some a) n n)) Q w:=by
     rw[ar];refine pE ?_;have hL:=h.EZ (sz:=size) (ps:=0) (G:=r) (G':=r') e zf;refine hq _ _ _ hL (bZ.2 ⟨_,n,dw.kr ..,rfl,rfl,?_⟩);rw[bW ai]
    by_cases h0:n*size=0
    ·rw[bj h0];have e0:(Array.range (n*size)).map (fun x=>(#[]:Array ae)[x%(#[]:Array ae).size]!)=(Array.range (n*size)).map (fun x=>z.cells[x%z.cells.size]!):=by rw[h0];simp
     show dR P R N (match Instr.fill (fun i=>some (i*size,size)) ((Array.range (n*size)).map (fun x=>(#[]:Array ae)[x%(#[]:Array ae).size]!)) ps'.toList with
      |some cells=>(do let a<-newRow e cells;pure (.slice (some a) n n))
      |_=>stuck "buildSlice: a part of the wrong size") Q w
     rw[e0,HT];exact fin
    ·rw[bW h0];simp only[bind_assoc,pure_bind];rw[ar];refine fe Om ?_;simp only[HT];exact fin
  ·cases hb
 ·cases hb
theorem yW (h:fL ρ m w){t:aO}{l l' c c' v:ae}{m':Mem}(hl:aQ ρ l l')(hc:aQ ρ c c')(hb:fP P t l c m=some (v,m')){Q:ae->ao->Prop}{R:Perm}
  (hq:∀v' w' bq,Left ρ m w bq m' w'->aQ bq v v'->Q v' w'):dR P R N (Instr.makeSlice t l' c') Q w:=by
 unfold fP at hb
 split at hb
 ·rename_i e l c hu;obtain rfl:=(aF (by rfl)).1 hl;obtain rfl:=(aF (by rfl)).1 hc
  split at hb
  ·rename_i i z hi hz
   split at hb
   ·rename_i Ul;simp only[ah,au]at hb;obtain⟨rfl,rfl⟩:=hb;obtain⟨h1,h2,h3,h4⟩:=Ul;have hs:ep P e=some i.size:=by unfold ep;rw[hi];rfl
    have w1:bU.i64.wrap l=l:=by unfold bU.wrap;simp[bU.min,bU.max,bU.signed,bU.bits];omega
    have w2:bU.i64.wrap c=c:=by unfold bU.wrap;simp[bU.min,bU.max,bU.signed,bU.bits];omega
    unfold Instr.makeSlice;rw[ar];refine aG hu ?_;simp only[asInt,asIntOf,pure_bind];rw[ar];refine gP hi ?_;simp only[w1,w2];have h5:(i.bytes:Int)*c<=1099511627776:=by rw[Int.mul_comm];exact h3
    have n1:(decide (c<0)||decide ((i.bytes:Int)*c>2^48))=false:=by
     simp only[Bool.or_eq_false_iff,decide_eq_false_iff_not];omega
    rw[n1];have n2:(false||decide (l<0)||decide (l>c))=false:=by
     simp only[Bool.false_or,Bool.or_eq_false_iff,decide_eq_false_iff_not];omega
    rw[n2];simp only[cF,if_false];rw[ar];have tZ:dR P R N (askRoom (c.toNat*i.bytes)) (fun _ w'=>w'=w) w:=by
     unfold askRoom
     split
     ·exact⟨trivial,rfl⟩
     ·rfl
    refine IZ tZ ?_;intro _ w' e';rw[e'];rw[ar];refine dM hs ?_;have fin:dR P R N (do
      let a<-newRow e ((Array.range (c.toNat*i.size)).map (z.cells[·%z.cells.size]!))
      pure (.slice (some a) l.toNat c.toNat)) Q w:=by
     rw[ar];refine pE ?_;have hL:=h.EZ (sz:=i.size) (ps:=0) (G:=(Array.range (c.toNat*i.size)).map (z.cells[·%z.cells.size]!)) e (uO hz _);refine hq _ _ _ hL (bZ.2 ⟨_,c.toNat,dw.kr ..,rfl,rfl,?_⟩);rw[bW (by unfold cH;omega)]
    by_cases h0:c.toNat*i.size=0
    ·rw[bj h0];have e0:(Array.range (c.toNat*i.size)).map (fun x=>(#[]:Array ae)[x%(#[]:Array ae).size]!)=(Array.range (c.toNat*i.size)).map (fun x=>z.cells[x%z.cells.size]!):=by rw[h0];simp
     show dR P R N (do
      let a<-newRow e ((Array.range (c.toNat*i.size)).map (fun x=>(#[]:Array ae)[x%(#[]:Array ae).size]!))
      pure (.slice (some a) l.toNat c.toNat)) Q w
     rw[e0];exact fin
    ·rw[bW h0];rw[ar];exact fe hz fin
   ·cases hb
  ·cases hb
 ·cases hb
theorem oP (h:fL ρ m w){size n:Nat}{x x':ae}(hx:aQ ρ x x'){l:List ae}(hf:lR m size n x=some l){Q:Array ae->ao->Prop}
  (hq:∀l':List ae,bH (aQ ρ) l l'->Q l'.toArray w):dR P (ax ρ m) N (Builtin.firstCells size n x') Q w:=by
 unfold lR at hf
 split at hf
 ·rename_i b o len cap;obtain⟨pl,gC,dB,_,rfl,_⟩:=bZ.1 hx;exact h.qL dB hf hq
 ·rename_i len cap;obtain rfl:=(aF (by rfl)).1 hx;simp only[ah]at hf;subst hf;exact hq [] trivial
 ·rename_i s;obtain rfl:=(aF (by rfl)).1 hx
  split at hf
  ·rename_i hc;simp only[ah]at hf;subst hf;have e:(s.extract 0 n).data.map (fun b=>(ae.int .u8 b.toNat))=(s.data.toList.map fun b=>(ae.int .u8 b.toNat)).toArray:=by
    rw[hc.2];have :s.extract 0 s.size=s:=by
     apply ByteArray.ext;simp
    rw[this];apply Array.ext';simp
   show Q ((s.extract 0 n).data.map fun b=>(ae.int .u8 b.toNat)) w
   rw[e];exact hq _ (iF (by rw[aB];intro x hx;obtain⟨b,_,rfl⟩:=List.mem_map.1 hx;rfl))
  ·cases hf
 ·cases hf
theorem Cw {x x':ae}(hx:aQ ρ x x'){n:Nat}(hf:GU x=some n){Q:Nat->ao->Prop}{R:Perm}(hq:Q n w):dR P R N (Builtin.lenOf x') Q w:=by
 unfold GU at hf
 split at hf
 ·rename_i a l c;simp only[ah]at hf;subst hf;cases a with
  |none=>obtain rfl:=(aF (by rfl)).1 hx;exact hq
  |some a=>obtain⟨pl,gC,_,_,rfl,_⟩:=bZ.1 hx;exact hq
 ·simp only[ah]at hf;subst hf;obtain rfl:=(aF (by rfl)).1 hx;exact hq
 ·cases hf
theorem Ds (h:fL ρ m w){b o len n size:Nat}{pl:Pl}(dB:ρ b=some pl)(hk:(m.blk b).kind=1)(ig:(m.blk b).sz=size)(vr:m.fA b=true)(pK:((m.blk b).cs.drop o).all (·.isSome)=true)
  {old new xJ:List ae}(hold:fU ((m.blk b).cs.drop o) (len*size)=some old)(oN:bH (aQ ρ) new xJ)(Xz:new.length=n*size)(tZ:o+(len+n)*size<=pl.room)
  {w':ao}(hw:Au w w' pl.c (pl.d+o+len*size) xJ):
  Left ρ m w (ρ.put m.next ⟨pl.c,pl.d+o,pl.room-o,size⟩) ((m.a9 b {}).alloc {kind:=1,sz:=size,cs:=(old++new).map some}) w':=by
 have hn:=rm h;have ZM:b<m.next:=h.mo b pl dB;obtain⟨Qe,XD⟩:=qH hold;obtain⟨Ot,hfo⟩:=Mem.lK vr;obtain⟨amu,Ra,e0,n0,abY,hn0⟩:=h.cells b pl dB hk;have hmul:(len+n)*size=len*size+n*size:=Nat.add_mul ..;have akC:xJ.length=n*size:=by rw[<-oN.length,Xz]
 have j7:∀b',((m.a9 b {}).alloc {kind:=1,sz:=size,cs:=(old++new).map some}).blk b'=if m.next=b' then{kind:=1,sz:=size,cs:=(old++new).map some,bK:=m.tick+1}else if b=b' then{bK:=m.tick}else m.blk b':=by
  intro b';rw[Mem.cD,Mem.eC];rfl
 have j0:∀b',b'≠m.next->(((m.a9 b {}).alloc {kind:=1,sz:=size,cs:=(old++new).map some}).blk b').kind≠0->b'≠b/\((m.a9 b {}).alloc {kind:=1,sz:=size,cs:=(old++new).map some}).blk b'=m.blk b':=by
  intro b' gA gh;rw[j7,bW (Ne.symm gA)]at gh⊢
  by_cases ny:b=b'
  ·rw[bj ny]at gh;exact absurd rfl gh
  ·rw[bW ny];exact⟨Ne.symm ny,rfl⟩
 generalize hM:(m.a9 b {}).alloc {kind:=1,sz:=size,cs:=(old++new).map some}=M at j7 j0⊢;have hMn:M.next=m.next+1:=by rw[<-hM];rfl
 have OK:M.bh=m.bh:=by rw[<-hM];rfl
 have hMf:M.floor=m.floor:=by rw[<-hM];rfl
 have hMo:M.opn=m.opn:=by rw[<-hM];rfl
 have JH:M.base=m.base:=by rw[<-hM];rfl
 have hMm:M.home=m.home:=by rw[<-hM];rfl
 have T0:∀b',M.bI b'=m.bI b':=fun b'=>by unfold Mem.bI;rw[OK,hMm]
 have Af:M.blk m.next={kind:=1,sz:=size,cs:=(old++new).map some,bK:=m.tick+1}:=by rw[j7,bj rfl]
 have dS:∀b' p',ρ.put m.next ⟨pl.c,pl.d+o,pl.room-o,size⟩ b'=some p'->(b'=m.next/\p'=⟨pl.c,pl.d+o,pl.room-o,size⟩)\/(b'≠m.next/\ρ b'=some p'):=by
  intro b' p' dG;unfold dw.put at dG
  split at dG
  ·rename_i e;exact .inl ⟨e,(Option.some.inj dG).symm⟩
  ·rename_i e;exact .inr ⟨e,dG⟩
 have T3:∀x,m.nC b (o+x):=fun x=>⟨hk,dW Ot _,fun cB=>by
  have h1:=aB.1 pK;obtain⟨y,hy⟩:∃y,((m.blk b).cs.drop o)[x]?=some y:=⟨_,List.getElem?_eq_getElem (by simp;omega)⟩;have h2:=h1 y (List.mem_of_getElem? hy);obtain⟨v,rfl⟩:=qU.1 h2;rw[List.getElem?_drop]at hy;exact⟨v,hy⟩⟩
 have T2:∀x,m.okW b (o+x):=fun x=>⟨T3 x,hfo.imp id fun y=>jU y _⟩
 have Qi:=dw.tS hn ⟨pl.c,pl.d+o,pl.room-o,size⟩;refine⟨Qi,⟨fun b' p' dG=>?_,fun b' p' dG gh=>?_,fun b' p' x v dG hc=>?_,fun b' p' x dG hx gh ny=>?_,fun b' p' dG gh pW=>?_,fun b' p' dG gh pW=>?_,fun yp yo nB oG dQ pV AJ k₁ k₂ hc=>?_,fun b' p' dG=>?_,fun b' p' dG gh Be=>?_⟩,⟨?_,?_,?_⟩,AX⟩
 ·rcases dS _ _ dG with⟨rfl,rfl⟩|⟨_,hq⟩
  ·omega
  ·have :=h.mo _ _ hq;omega
 ·rcases dS _ _ dG with⟨rfl,rfl⟩|⟨gA,hq⟩
  ·rw[Af];refine⟨rfl,?_,e0,n0,by rw[hw.shape];exact abY,?_⟩
   ·simp only[List.length_map,List.length_append];omega
   ·show pl.d+o+(pl.room-o)<=n0;omega
  ·obtain⟨_,e⟩:=j0 b' gA ai;rw[e]at gh⊢;obtain⟨g1,g2,e1,n1,g3,g4⟩:=h.cells _ _ hq gh;exact⟨g1,g2,e1,n1,by rw[hw.shape];exact g3,g4⟩
 ·rcases dS _ _ dG with⟨rfl,rfl⟩|⟨gA,hq⟩
  ·have hx:(old++new)[x]?=some v:=by
    unfold Mem.cell at hc;rw[Af]at hc
    split at hc
    ·simp only[List.getElem?_map]at hc;cases hg:(old++new)[x]? with
     |none=>simp[hg]at hc
     |some u=>simp[hg]at hc;rw[hc]
    ·cases hc
   show∃v',w'.cell? ⟨pl.c,pl.d+o+x,none⟩=some v'/\_
   rw[hw.cell];rcases Nat.lt_or_ge x (len*size)with cB|uV
   ·rw[List.getElem?_append_left ai]at hx;obtain⟨u,hu,hu2⟩:=XD x cB;rw[hu2]at hx;cases hx;rw[List.getElem?_drop]at hu;have kY:m.cell b (o+x)=some v:=by unfold Mem.cell;rw[bj ⟨hk,dW Ot _⟩,hu];rfl
    obtain⟨v',Zn,hv2⟩:=h.kN b pl _ v dB kY;refine⟨v',?_,hv2.jN Qi⟩;rw[bW ai,show pl.d+o+x=pl.d+(o+x) by omega];exact Zn
   ·rw[List.getElem?_append_right ai]at hx;obtain⟨v',Zn,hv2⟩:=oN.get hx;have :x-old.length<xJ.length:=by
     rcases Nat.lt_or_ge (x-old.length) xJ.length with h1|h1
     ·exact h1
     ·rw[List.getElem?_eq_none h1]at Zn;cases Zn
    refine⟨v',?_,hv2.jN Qi⟩;rw[bj ⟨ai,ai⟩,show pl.d+o+x-(pl.d+o+len*size)=x-old.length by omega];exact Zn
  ·have hkM:=(Mem.eE hc).1;obtain⟨ny,e⟩:=j0 b' gA ai;have Fe:m.cell b' x=some v:=by unfold Mem.cell at hc⊢;rw[e,OK]at hc;exact hc
   obtain⟨v',Zn,hv2⟩:=h.kN b' p' x v hq Fe;refine⟨v',?_,hv2.jN Qi⟩;have gh:=(Mem.eE Fe).1;have HT:=iM h hq Fe
   by_cases th:p'.c=pl.c
   ·have :=(h.sep b b' pl p' (Ne.symm ny) dB hq ai ai th.symm).2.2;rw[th,hw.cell,bW ai,<-th];exact Zn
   ·rw[hw.De th];exact Zn
 ·rw[hw.qQ];rcases dS _ _ dG with⟨rfl,rfl⟩|⟨gA,hq⟩
  ·have :=h.thaw b pl (o+x) dB (by simp only at hx;omega) hk (Mem.r7 vr);rw[<-Nat.add_assoc]at this;exact this
  ·obtain⟨_,e⟩:=j0 b' gA ai;rw[e]at gh;rw[JH]at ny;exact h.thaw b' p' x hq hx gh ny
 ·rcases dS _ _ dG with⟨rfl,rfl⟩|⟨gA,hq⟩
  ·rw[Af]at gh;simp at gh
  ·obtain⟨ny,e⟩:=j0 b' gA ai;rw[e]at gh⊢;rw[T0]at pW;obtain⟨lp,g1,g2⟩:=h.maps _ _ hq gh pW;have dQ:p'.c≠pl.c:=fun th=>by have :=(h.sep b b' pl p' (Ne.symm ny) dB hq ai ai th.symm).2.1;omega
   exact⟨lp,by rw[hw.others _ dQ];exact g1,g2.mono fun _ _ x=>⟨x.1.jN Qi,x.2.1.jN Qi,x.2.2⟩⟩
 ·rcases dS _ _ dG with⟨rfl,rfl⟩|⟨gA,hq⟩
  ·rw[Af]at gh;simp at gh
  ·obtain⟨ny,e⟩:=j0 b' gA ai;rw[e]at gh⊢;rw[T0]at pW;obtain⟨g1,g2⟩:=h.kX _ _ hq gh pW;have dQ:p'.c≠pl.c:=fun th=>by have :=(h.sep b b' pl p' (Ne.symm ny) dB hq ai ai th.symm).2.1;omega
   exact⟨g1,by rw[hw.others _ dQ];exact g2⟩
 ·rcases dS _ _ pV with⟨rfl,rfl⟩|⟨ZK,Zw⟩<;>rcases dS _ _ AJ with⟨rfl,rfl⟩|⟨ZJ,Zv⟩
  ·exact absurd rfl dQ
  ·obtain⟨ny,e⟩:=j0 yo ZJ k₂;rw[e]at k₂⊢;have :=h.sep b yo pl oG (Ne.symm ny) dB Zv ai k₂ hc;rw[Af];refine⟨rfl,this.2.1,?_⟩
   show pl.room-o=0\/oG.room=0\/pl.d+o+(pl.room-o)<=oG.d\/oG.d+oG.room<=pl.d+o
   omega
  ·obtain⟨ny,e⟩:=j0 yp ZK k₁;rw[e]at k₁⊢;have :=h.sep b yp pl nB (Ne.symm ny) dB Zw ai k₁ hc.symm;rw[Af];refine⟨this.2.1,rfl,?_⟩
   show nB.room=0\/pl.room-o=0\/nB.d+nB.room<=pl.d+o\/pl.d+o+(pl.room-o)<=nB.d
   omega
  ·obtain⟨_,XY⟩:=j0 yp ZK k₁;obtain⟨_,XX⟩:=j0 yo ZJ k₂;rw[XY]at k₁⊢;rw[XX]at k₂⊢;exact h.sep yp yo nB oG dQ Zw Zv k₁ k₂ hc
 ·rw[hw.size];rcases dS _ _ dG with⟨rfl,rfl⟩|⟨gA,hq⟩
  ·exact h.rB b pl dB
  ·exact h.rB _ _ hq
 ·rcases dS _ _ dG with⟨rfl,rfl⟩|⟨gA,hq⟩
  ·rw[Af]at Be;simp at Be
  ·obtain⟨_,e⟩:=j0 b' gA ai;rw[e]at gh Be;exact h.vars b' p' hq gh Be
 ·rintro c x ⟨b',p',g1,g2,g3,g4,g5⟩;rcases dS _ _ g1 with⟨rfl,rfl⟩|⟨gA,hq⟩
  ·simp only at g3 g4;refine .inl ⟨b,pl,dB,g2,ai,ai,?_⟩;rw[show x-pl.d=o+(x-(pl.d+o)) by omega];exact T3 _
  ·obtain⟨_,e⟩:=j0 b' gA (by have :=g5.1;omega);exact .inl ⟨b',p',hq,g2,g3,g4,by unfold Mem.nC at g5⊢;rw[e,OK]at g5;exact g5⟩
 ·rintro c x ⟨b',p',g1,g2,g3,g4,g5⟩;rcases dS _ _ g1 with⟨rfl,rfl⟩|⟨gA,hq⟩
  ·simp only at g3 g4;refine .inl ⟨b,pl,dB,g2,ai,ai,?_⟩;rw[show x-pl.d=o+(x-(pl.d+o)) by omega];exact T2 _
  ·obtain⟨_,e⟩:=j0 b' gA (by have :=g5.1.1;omega);exact .inl ⟨b',p',hq,g2,g3,g4,by unfold Mem.okW Mem.nC at g5⊢;rw[e,OK,hMf,hMo]at g5;exact g5⟩
 ·rintro c ⟨b',p',g1,g2,g3,g4⟩;rcases dS _ _ g1 with⟨rfl,rfl⟩|⟨gA,hq⟩
  ·rw[Af]at g3;simp at g3
  ·obtain⟨_,e⟩:=j0 b' gA ai;exact .inl ⟨b',p',hq,g2,by rwa[e]at g3,by rwa[T0]at g4⟩
end
end Go.AM
namespace Go.AM
open Go
section
variable {P:aC}{ρ:dw}{m:Mem}{w:ao}{N:Nat}
theorem I0 {n:Nat}{R:Perm}{Q:Unit->ao->Prop}(hq:Q () w):dR P R N (askRoom n) Q w:=by
 unfold askRoom
 split
 ·exact⟨trivial,hq⟩
 ·exact hq
theorem Py (h:fL ρ m w)(d:Nat):fL ρ m {w with drawn:=d}:=h.keeps (bg.at _ _ _)
theorem Az {z:ae}(hz:z.cells.toList.all de=true)(n:Nat):(Builtin.zeroCells z.cells n).toList.all de=true:=by
 unfold Builtin.zeroCells;rw[aB];intro x hx;simp only[Array.toList_map,List.mem_map]at hx;obtain⟨i,_,rfl⟩:=hx;exact ug hz _
theorem Bo (z:Array ae)(n:Nat):(Builtin.zeroCells z n).size=n*z.size:=by simp[Builtin.zeroCells]
theorem MJ (need old:Nat)(e:aO)(t:Nat)(h:need<=2^46):need<=(Question.appendCap need old e).cut t/\(Question.appendCap need old e).cut t<cH:=by
 simp only[Question.cut];have :t%(2^63-need)<2^63-need:=Nat.mod_lt _ ai;unfold cH;omega
theorem Lo {w:ao}{c e n x:Nat}(h:w.shape? c=some (e,n))(hx:x<n):(w.cell? ⟨c,x,none⟩).isSome=true:=by
 unfold ao.shape? at h;unfold ao.cell?
 split at h
 ·rename_i C e' f hh;simp only[ah,au]at h;simp only[hh];have :x<C.size:=ai;simp[this]
 ·cases h
theorem IT {b o:Nat}(hk:(m.blk b).kind=1)(vr:m.fA b=true)(pK:((m.blk b).cs.drop o).all (·.isSome)=true):∀x,m.okW b (o+x):=by
 obtain⟨Ot,hfo⟩:=Mem.lK vr;refine fun x=>⟨⟨hk,dW Ot _,fun cB=>?_⟩,hfo.imp id fun y=>jU y _⟩
 have h1:=aB.1 pK;obtain⟨y,hy⟩:∃y,((m.blk b).cs.drop o)[x]?=some y:=⟨_,List.getElem?_eq_getElem (by simp;omega)⟩;have h2:=h1 y (List.mem_of_getElem? hy);obtain⟨v,rfl⟩:=qU.1 h2;rw[List.getElem?_drop]at hy;exact⟨v,hy⟩
def qF (ρ:dw)(len cap:Nat)(base uz:Option Addr)(gC:Nat):Prop:=
 match base with
 |some a=>∃p,ρ a.block=some p/\a.spot=none/\uz=some ⟨p.c,p.d+a.off,none⟩/\(if cap=cH then len<=gC/\a.off+gC*p.sz<=p.room else gC=cap)
 |none=>uz=none/\gC=cap
theorem qF.of{len cap:Nat}{base:Option Addr}{s':ae}(h:aQ ρ (.slice base len cap) s'):∃uz gC,s'= .slice uz len gC/\qF ρ len cap base uz gC:=by
 cases base with
 |none=>obtain rfl:=(aF (by rfl)).1 h;exact⟨none,cap,rfl,rfl,rfl⟩
 |some a=>obtain⟨p,gC,h1,h2,h3,h4⟩:=bZ.1 h;exact⟨_,gC,h3,p,h1,h2,rfl,h4⟩
theorem qF.exact{len cap gC:Nat}{base uz:Option Addr}(h:qF ρ len cap base uz gC)(hc:cap≠cH):gC=cap:=by
 cases base with
 |none=>exact h.2
 |some a=>obtain⟨p,_,_,_,h4⟩:=h;rw[bW hc]at h4;exact h4
theorem tL {n old:Nat}{e:aO}{R:Perm}{Q:Nat->ao->Prop}(hn:n<=2^46)(hq:∀nc,n<=nc->nc<cH->Q nc {w with drawn:=w.drawn+1}):dR P R N (choose (.appendCap n old e)) Q w:=by
 obtain⟨Qj,Un⟩:=MJ n old e (w.tape w.drawn (.appendCap n old e)) hn;exact hq _ Qj Un
set_option maxHeartbeats 1000000 in
theorem Eu(h:fL ρ m w){kW:Array aO}{ty:aO}{s s' x x' v:ae}{m':Mem}(hs:aQ ρ s s')(hx:aQ ρ x x')(ha:cZ P kW s x m=some (v,m'))
  {Q:ae->ao->Prop}(hq:∀v' w' bq,Left ρ m w bq m' w'->aQ bq v v'->Q v' w'):dR P (ax ρ m) N (Builtin.append_ kW ty #[s',x']) Q w:=by
 unfold cZ at ha
 split at ha
 ·rename_i e xt base len cap fp hxt;obtain⟨st,Mh,fp⟩:=bC.1 fp
  split at ha
  ·rename_i size n xe Ou hlen hxu
   split at ha
   ·cases ha
   ·rename_i new oN
    split at ha
    ·cases ha
    ·rename_i OG;have CQ:zj P e (len+n)=true:=by
      cases hg:zj P e (len+n)with
      |false=>exact absurd (.inl hg) OG
      |true=>rfl
     have Xz:new.length=n*size:=Decidable.byContradiction fun hg=>OG (.inr (.inl hg))
     have ahd:∀u∈new,u.oneCell'=true:=by
      cases hg:new.all (·.oneCell')with
      |false=>exact absurd (.inr (.inr hg)) OG
      |true=>exact fun u hu=>aB.1 hg u hu
     clear OG;unfold zj at CQ
     split at CQ
     case h_2=>cases CQ
     rename_i i hi;simp only[ag,iB]at CQ;obtain⟨⟨⟨VG,nN⟩,nU⟩,hz⟩:=CQ;obtain⟨z,hz⟩:=qU.1 hz;obtain⟨hzp,Vx⟩:=jE hz;have aki:z.cells.size=size:=by rw[Ou]at Vx;exact(Option.some.inj Vx).symm
     obtain⟨uz,gC,s9,mN⟩:=qF.of hs;subst s9;have amh:(len+n)*size=len*size+n*size:=Nat.add_mul ..;unfold Builtin.append_;simp only[Mh,hxt,List.getElem?_toArray,List.getElem?_cons_zero,List.getElem?_cons_succ];rw[ar];refine aG fp ?_;simp only[];rw[ar];refine dM Ou ?_;rw[ar];refine aG hxu ?_;simp only[pure_bind,cF,if_false,Bool.not_false,if_true,false_or];rw[ar];refine Cw hx hlen ?_
     by_cases ml:len+n<=gC
     ·rw[bj ml,ar];refine oP h hx oN fun xJ xV=>?_
      by_cases hc:cap=cH
      ·rw[bj hc]at ha
       split at ha
       ·rename_i b o;obtain⟨pl,dB,_,rfl,mN⟩:=mN;rw[bj hc]at mN;simp only[iZ]at dB mN⊢;rw[ar];simp only[]at ha
        split at ha
        ·rename_i hk;simp only[ag,beq_iff_eq]at hk;obtain⟨⟨⟨vM,Jy⟩,T9⟩,hk4⟩:=hk
         split at ha
         ·rename_i old hold;simp only[ah,au]at ha;obtain⟨rfl,rfl⟩:=ha;obtain⟨akz,Ra,e0,n0,abY,hn0⟩:=h.cells b pl dB vM;have ag7:pl.sz=size:=by rw[akz,Jy]
          rw[ag7]at mN;have hmul:(len+n)*size<=gC*size:=Nat.mul_le_mul_right _ ml;have T2:=IT vM T9 hk4;have akC:xJ.length=n*size:=by rw[<-xV.length,Xz]
          refine pD xJ 0 w (fun u hu=>?_) (fun j hj=>?_) (fun w' hw=>?_)
          ·obtain⟨i,hi⟩:=List.mem_iff_getElem?.1 hu;obtain⟨u',TT,hr⟩:=xV.get' hi;exact hr.NN (ahd _ (List.mem_of_getElem? TT))
          ·have e2:pl.d+o+len*size+0+j=pl.d+(o+(len*size+j)):=ai;rw[e2];have DK:o+(len*size+j)<pl.room:=ai;exact⟨Lo abY ai,h.thaw b pl _ dB DK vM (Mem.r7 T9),yI dB DK (T2 _)⟩
          ·rw[Nat.add_zero]at hw;have hL:=Ds h dB vM Jy T9 hk4 hold xV Xz (n:=n) ai hw;refine hq _ _ _ hL (bZ.2 ⟨_,gC,dw.kr ..,rfl,rfl,?_⟩);rw[bj rfl];refine⟨ml,?_⟩
           show 0+gC*size<=pl.room-o
           omega
         ·cases ha
        ·cases ha
       ·cases ha
      ·rw[bW hc]at ha;obtain rfl:=mN.exact hc;rw[bj ml]at ha;cases base with
       |none=>
        obtain⟨rfl,_⟩:=mN;simp only[ah,au]at ha;obtain⟨rfl,rfl⟩:=ha;exact hq _ _ _ (Left.refl h) ((aF (by rfl)).2 rfl)
       |some a=>
        obtain⟨pl,dB,Zq,rfl,mN⟩:=mN;obtain⟨b,o,sp⟩:=a;simp only at Zq dB mN;subst Zq;simp only[iZ];rw[ar];obtain⟨m2,yC,Ut⟩:=az.1 ha;simp only[au]at Ut;obtain⟨rfl,rfl⟩:=Ut;have :=px (P:=P) (N:=N) h dB yC xV (Q:=fun _ w'=>Q (.slice (some ⟨pl.c,pl.d+o,none⟩) (len+n) gC) w') (fun w' hL _=>hq _ _ _ hL (bZ.2 ⟨pl,gC,dB,rfl,rfl,by rw[bW hc]⟩));rw[show pl.d+o+len*size=pl.d+(o+len*size) by omega];exact this
     ·
      have cB:gC<len+n:=ai;rw[bW ml,ar];refine gP hi ?_;rw[bW (by rintro⟨_,h2⟩;omega),ar];refine gP hi ?_;have amB:=growslice_fits (need:=len+n) (old:=gC) (bytes:=i.bytes) cB ai;rw[bW ai,ar];refine tL nU fun nc hn1 hn2=>?_
      generalize Zj:({w with drawn:=w.drawn+1}:ao)=aN;have pV:fL ρ m aN:=by rw[<-Zj];exact Py h _
      have agW:aN.heap.size=w.heap.size:=by rw[<-Zj]
      rw[ar];refine gP hi ?_;rw[ar];refine I0 ?_;rw[ar];obtain⟨old,hold,Qc,rC⟩:∃old,lR m size len (.slice base len cap)=some old/\old.length=len*size/\
        ∀(C:Array ae),(old++new).length<=C.size->nc*size<=C.size->(∀(i:Nat) v,(old++new)[i]?=some v->∃v',C[i]?=some v'/\aQ ρ v v')->Q (.slice (some ⟨aN.heap.size,0,none⟩) (len+n) nc) {aN with heap:=aN.heap.push (.cells C e)}:=by
       by_cases hc:cap=cH
       ·rw[bj hc]at ha
        split at ha
        ·rename_i b o;obtain⟨pl,dB,_,_,_⟩:=mN;simp only[]at ha
         split at ha
         ·rename_i hk;simp only[ag,beq_iff_eq]at hk;obtain⟨⟨⟨vM,Jy⟩,T9⟩,hk4⟩:=hk
          split at ha
          ·rename_i old hold;simp only[ah,au]at ha;obtain⟨rfl,rfl⟩:=ha;refine⟨old,?_,(qH hold).1,fun C hC1 hC2 hC3=>?_⟩
           ·show m.dK b o (len*size)=some old
            unfold Mem.dK;simp only[];rw[bj (by rw[vM,gk (Mem.lK T9).1];rfl)];exact hold
           ·have hL:=(pV.kill b).cC (sz:=size) (ps:=0) (vs:=old++new) (C:=C) e hC1 hC3;have hL':Left ρ m w _ _ _:=⟨hL.le,hL.jM,by rw[<-agW];exact(H5 b _).trans hL.within,hL.old⟩;refine hq _ _ _ hL' (bZ.2 ⟨_,nc,dw.kr ..,rfl,congrArg (fun k=>ae.slice (some ⟨aN.heap.size,k,none⟩) (len+n) nc) (Nat.zero_add 0).symm,?_⟩);rw[bj rfl];exact⟨hn1,by simpa using hC2⟩
          ·cases ha
         ·cases ha
        ·cases ha
       ·rw[bW hc]at ha;obtain rfl:=mN.exact hc;rw[bW ai]at ha
        split at ha
        ·rename_i old hold
         split at ha
         ·rename_i Qc;simp only[ah,au]at ha;obtain⟨rfl,rfl⟩:=ha;refine⟨old,hold,Qc,fun C hC1 hC2 hC3=>?_⟩;have hL:=(pV.cC (sz:=size) (ps:=0) (vs:=old++new) (C:=C) e hC1 hC3);have hL':Left ρ m w _ _ _:=⟨hL.le,hL.jM,by rw[<-agW];exact hL.within,hL.old⟩;refine hq _ _ _ hL' (bZ.2 ⟨_,nc,dw.kr ..,rfl,congrArg (fun k=>ae.slice (some ⟨aN.heap.size,k,none⟩) (len+n) nc) (Nat.zero_add 0).symm,?_⟩);rw[bj rfl];exact⟨hn1,by simpa using hC2⟩
         ·cases ha
        ·cases ha
      refine oP pV hs hold fun WG j0=>?_
      rw[ar];refine oP pV hx oN fun xJ xV=>?_
      rw[ar];refine fe hz ?_;rw[ar];refine pE ?_;have hzl:=Bo z.cells (nc-(len+n));have Qe:=j0.length;have XD:=xV.length;have hnc:nc*size=(len+n)*size+(nc-(len+n))*size:=by rw[<-Nat.add_mul];congr 1;omega
      refine rC _ ?_ ?_ fun i v hi=>?_
      ·simp only[Array.size_append,List.size_toArray,List.length_append];omega
      ·simp only[Array.size_append,List.size_toArray,hzl,aki];omega
      ·obtain⟨v',h1,h2⟩:=(j0.append xV).get hi;refine⟨v',?_,h2⟩;have cB:i<(WG++xJ).length:=by
        rcases Nat.lt_or_ge i (WG++xJ).length with g|g
        ·exact g
        ·rw[List.getElem?_eq_none g]at h1;cases h1
       have e0:WG.toArray++xJ.toArray=(WG++xJ).toArray:=du;rw[e0,Array.getElem?_append_left (by simpa using cB)];simpa using h1
  ·cases ha
 ·cases ha
end
end Go.AM
