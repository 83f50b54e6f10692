/-
  What the claim stands on, part 1.
-/
import Derived.Calls
import Derived.Laws.Sem
import Derived.Conc.Events
import Derived.Laws.Append
set_option linter.unusedVariables false
set_option linter.unusedSimpArgs false
open Option renaming some → Z, none → Y
open Bool renaming true → U, false → O
open Go renaming Value → ab, World → ar, Program → aE, TypeId → aT, IntKind → bY, Operand → cd, Oper → iK
open Bool renaming and_eq_true → ag, false_eq_true → cK
open Option.some renaming injEq → ah
open Nat renaming le_refl → aj, lt_of_lt_of_le → aZ, le_trans → bV
open Prod.mk renaming injEq → ay
open List renaming all_eq_true → aB, mem_cons → aN
open Option renaming map_eq_some_iff → aD, bind_eq_some_iff → bM, map_some → dk, isSome_iff_exists → sH
namespace Go.AM
open Go
structure eh where
 kind:Nat:=0
 sz:Nat:=0
 cs:List (Option ab):=[]
 es:Array MapEntry:=#[]
 clock:Nat:=0
 str:ByteArray:=.empty
 pos:Nat:=0
 bq:Nat:=0
def I0 {α:Type}(d:α):List α->Nat->α->List α
 | [],0,v=>[v]
 | [],i+1,v=>d::I0 d [] i v
 |_::t,0,v=>v::t
 |x::t,i+1,v=>x::I0 d t i v
def Ej {α:Type}(d:α):List α->Nat->α
 | [],_=>d
 |x::_,0=>x
 |_::t,i+1=>Ej d t i
structure N8 (α:Type) where
 a:α
 b:α
 c:α
 d:α
 e:α
 f:α
 g:α
 h:α
def N8.all{α:Type}(x:α):N8 α:=⟨x,x,x,x,x,x,x,x⟩
def N8.get{α:Type}(n:N8 α)(i:Nat):α:=
 match i with
 |0=>n.a
 |1=>n.b
 |2=>n.c
 |3=>n.d
 |4=>n.e
 |5=>n.f
 |6=>n.g
 |_=>n.h
def N8.put{α:Type}(n:N8 α)(i:Nat)(x:α):N8 α:=
 match n with
 |⟨a,b,c,d,e,f,g,h⟩=>
  match i with
  |0=>⟨x,b,c,d,e,f,g,h⟩
  |1=>⟨a,x,c,d,e,f,g,h⟩
  |2=>⟨a,b,x,d,e,f,g,h⟩
  |3=>⟨a,b,c,x,e,f,g,h⟩
  |4=>⟨a,b,c,d,x,f,g,h⟩
  |5=>⟨a,b,c,d,e,x,g,h⟩
  |6=>⟨a,b,c,d,e,f,x,h⟩
  |_=>⟨a,b,c,d,e,f,g,x⟩
theorem N8.Jr{α:Type}(x:α)(i:Nat):(N8.all x).get i=x:=by
 unfold N8.get N8.all
 split<;>rfl
theorem N8.get_put{α:Type}(n:N8 α)(x:α){i j:Nat}(hi:i<8)(a:j<8):(n.put i x).get j=if i=j then x else n.get j:=by
 match i,j,hi,a with
 |0,0,_,_|0,1,_,_|0,2,_,_|0,3,_,_|0,4,_,_|0,5,_,_|0,6,_,_|0,7,_,_=>rfl
 |1,0,_,_|1,1,_,_|1,2,_,_|1,3,_,_|1,4,_,_|1,5,_,_|1,6,_,_|1,7,_,_=>rfl
 |2,0,_,_|2,1,_,_|2,2,_,_|2,3,_,_|2,4,_,_|2,5,_,_|2,6,_,_|2,7,_,_=>rfl
 |3,0,_,_|3,1,_,_|3,2,_,_|3,3,_,_|3,4,_,_|3,5,_,_|3,6,_,_|3,7,_,_=>rfl
 |4,0,_,_|4,1,_,_|4,2,_,_|4,3,_,_|4,4,_,_|4,5,_,_|4,6,_,_|4,7,_,_=>rfl
 |5,0,_,_|5,1,_,_|5,2,_,_|5,3,_,_|5,4,_,_|5,5,_,_|5,6,_,_|5,7,_,_=>rfl
 |6,0,_,_|6,1,_,_|6,2,_,_|6,3,_,_|6,4,_,_|6,5,_,_|6,6,_,_|6,7,_,_=>rfl
 |7,0,_,_|7,1,_,_|7,2,_,_|7,3,_,_|7,4,_,_|7,5,_,_|7,6,_,_|7,7,_,_=>rfl
abbrev Hp1:=N8 eh
abbrev Hp2:=N8 Hp1
abbrev Hp3:=N8 Hp2
abbrev Hp4:=N8 Hp3
def hp1:Hp1:=N8.all {}
def Zt:Hp2:=N8.all hp1
def hp3:Hp3:=N8.all Zt
def hp4:Hp4:=N8.all hp3
abbrev jE:=List Hp4
def tK (b k:Nat):Nat:=Nat.mod (Nat.div b k) 8
def Yo (n:Hp4)(b:Nat):eh:=(((n.get (tK b 512)).get (tK b 64)).get (tK b 8)).get (Nat.mod b 8)
def afJ (n:Hp4)(b:Nat)(k:eh):Hp4:=
 n.put (tK b 512) ((n.get (tK b 512)).put (tK b 64) (((n.get (tK b 512)).get (tK b 64)).put (tK b 8) ((((n.get (tK b 512)).get (tK b 64)).get (tK b 8)).put (Nat.mod b 8) k)))
def jE.get(h:jE)(b:Nat):eh:=Yo (Ej hp4 h (Nat.div b 4096)) b
def jE.put(h:jE)(b:Nat)(k:eh):jE:=I0 hp4 h (Nat.div b 4096) (afJ (Ej hp4 h (Nat.div b 4096)) b k)
abbrev Span:=Nat×Nat×Option Nat
def bL (l:List Span)(b o:Nat):Bool:=l.any λs=>decide (s.1<=b)&&decide (b<s.2.1)&&(match s.2.2 with |none=>U|some y=>y==o)
def ix (l:List Span)(b:Nat):Bool:=l.any λs=>decide (s.1<=b)&&decide (b<s.2.1)&&s.2.2.isNone
def meets (l:List Span)(b o n:Nat):Bool:=l.any λs=>decide (s.1<=b)&&decide (b<s.2.1)&&(match s.2.2 with |none=>U|some y=>decide (o<=y)&&decide (y<o+n))
def aP (l:List Span)(b:Nat):Bool:=l.any λs=>decide (s.1<=b)&&decide (b<s.2.1)
structure Cz where
 lo:Nat
 hi:Nat
 qm:List Span
 bI:List Span
 heap:jE
structure Mem where
 heap:jE
 next:Nat
 tick:Nat
 base:Nat
 home:Nat
 floor:Nat
 opn:List Span
 bI:List Span
 wg:Option Nat
 pend:List Cz
 deaf:Nat
def Mem.blk(m:Mem)(b:Nat):eh:=m.heap.get b
def Mem.bB(m:Mem)(b:Nat)(k:eh):Mem:={m with heap:=m.heap.put b {k with bq:=m.tick},tick:=m.tick+1}
def Mem.alloc(m:Mem)(k:eh):Mem:={m with heap:=m.heap.put m.next {k with bq:=m.tick},tick:=m.tick+1,next:=m.next+1}
def gG:List (Option ab)->Nat->Option (List ab)
 |_,0=>Z []
 |some v::t,n+1=>(gG t n).map (v::·)
 |_,_=>Y
def eU:List (Option ab)->Nat->List ab->Option (List (Option ab))
 |l,_,[]=>Z l
 |some _::t,0,v::vs=>(eU t 0 vs).map (Z v::·)
 |x::t,i+1,vs=>(eU t i vs).map (x::·)
 |_,_,_=>Y
def Mem.dP(m:Mem)(b o n:Nat):Option (List ab):=
 let k:=m.blk b
 if k.kind==1&&!meets m.bI b o n then gG (k.cs.drop o) n else Y
def Mem.dh(m:Mem)(b o n:Nat):Bool:=
 !meets m.bI b o n&&decide (m.base<=b)&&(decide (m.floor<=b)||ix m.opn b||(List.range n).all λi=>bL m.opn b (o+i))
def Mem.dW(m:Mem)(b o:Nat)(vs:List ab):Option Mem:=
 let k:=m.blk b
 if k.kind==1&&m.dh b o vs.length&&vs.all (·.oneCell')then(eU k.cs o vs).map λcs=>m.bB b {k with cs:=cs}else Y
def Mem.fL(m:Mem)(b:Nat):Bool:=!aP m.bI b&&decide (m.base<=b)&&(decide (m.floor<=b)||ix m.opn b)
def Mem.bQ(m:Mem)(b:Nat):Bool:=!aP m.bI b&&decide (m.home<=b)
def dp:Nat:=18446744073709551616
def de:ab->Bool
 | .bool _| .int _ _| .string _| .nilIface| .nilFunc| .pointer Y| .slice Y _ _| .map Y=>U
 |_=>O
def plain:ab->Bool
 | .agg cs=>cs.toList.all de
 | .tuple cs=>cs.toList.all de
 |v=>de v
def ptrTo (b o:Nat):ab:=.pointer (Z ⟨b,o,Y⟩)
def _root_.Go.Sem.aQ{α:Type}(P:aE):Sem α->Option α
 | .pure a=>Z a
 | .program k=>(k P).aQ P
 |_=>Y
def zK (P:aE)(t:aT):Option Bool:=(P.underlying t).map λd=>match d with | .struct _| .array _ _=>U|_=>O
def eS (P:aE)(t:aT):Option Nat:=(P.info? t).map (·.size)
def iT (P:aE)(t:aT):Option ab:=
 match P.info? t with
 |some i=>match i.zero with
  |some z=>if z.cells.toList.all de&&z.cells.size==i.size then Z z else Y
  |none=>Y
 |none=>Y
def kY (P:aE)(t:aT)(p:ab)(m:Mem):Option ab:=
 match p with
 | .pointer (Z ⟨b,o,Y⟩)=>
  match zK P t with
  |some U=>(eS P t).bind λn=>(m.dP b o n).map λl=> .agg l.toArray
  |some O=>(m.dP b o 1).bind (·.head?)
  |none=>Y
 |_=>Y
def xD (P:aE)(t:aT)(p x:ab)(m:Mem):Option Mem:=
 match p with
 | .pointer (Z ⟨b,o,Y⟩)=>if eS P t=Z x.cells.size then m.dW b o x.cells.toList else Y
 |_=>Y
def cI (m:Mem)(sz:Nat)(cs:List ab):ab×Mem:=(ptrTo m.next 0,m.alloc {kind:=1,sz:=sz,cs:=cs.map Z,pos:=1})
def P1 (P:aE)(t:aT)(cs:Array ab)(off:Nat):Option ab:=
 match zK P t with
 |some U=>(eS P t).map λn=> .agg (cs.extract off (off+n))
 |some O=>cs[off]?
 |none=>Y
def um (P:aE)(s:aT)(p:ab)(f:Nat):Option ab:=
 match P.underlying s,p with
 |some (.struct fields),.pointer (Z ⟨b,o,Y⟩)=>
  match fields[f]? with
  |some fd=>match eS P fd.type with
   |some (_+1)=>Z (ptrTo b (o+fd.offset))
   |_=>Y
  |none=>Y
 |_,_=>Y
def Ju (P:aE)(s:aT)(x:ab)(f:Nat):Option ab:=
 match P.underlying s,x with
 |some (.struct fields),.agg cs=>(fields[f]?).bind λfd=>P1 P fd.type cs fd.offset
 |_,_=>Y
def qZ (P:aE)(t:aT)(x i:ab):Option ab:=
 match P.underlying t,x,i with
 |some (.slice e),.slice (Z ⟨b,o,Y⟩) len _,.int _ n=>
  if 0<=n/\n<len then(eS P e).map λs=>ptrTo b (o+n.toNat*s)else Y
 |some (.array len e),.pointer (Z ⟨b,o,Y⟩),.int _ n=>
  if 0<=n/\n<len then(eS P e).map λs=>ptrTo b (o+n.toNat*s)else Y
 |_,_,_=>Y
def xQ (P:aE)(t:aT)(x i:ab):Option ab:=
 match P.underlying t,x,i with
 |some (.array len e),.agg cs,.int _ n=>if 0<=n/\n<len then(eS P e).bind λs=>P1 P e cs (n.toNat*s)else Y
 |_,_,_=>Y
def ky (v:Option ab)(d:Nat):Option Nat:=
 match v with
 |none=>Z d
 |some (.int _ n)=>if 0<=n then Z n.toNat else Y
 |_=>Y
def jv (P:aE)(t:aT)(x:ab)(lo hi:Option ab)(m:Mem):Option ab:=
 match P.underlying t,x with
 |some (.slice e),.slice (Z ⟨b,o,Y⟩) len cap=>
  match ky lo 0,ky hi len,eS P e with
  |some l,Z h,Z s=>
   if cap=dp then
    (if l<=h/\h<=len/\(l=0\/(l<len/\(m.blk b).kind=1/\(m.blk b).sz=s))then Z (.slice (Z ⟨b,o+l*s,Y⟩) (h-l) dp)else Y)
   else if cap<dp/\l<=h/\h<=cap then Z (.slice (Z (if cap=l then⟨b,o,Y⟩else⟨b,o+l*s,Y⟩)) (h-l) (cap-l))else Y
  |_,_,_=>Y
 |some (.slice e),.slice Y len cap=>
  match ky lo 0,ky hi len,eS P e with
  |some l,Z h,Z s=>if cap<dp/\l<=h/\h<=cap then Z (.slice Y (h-l) (cap-l))else Y
  |_,_,_=>Y
 |some (.array n e),.pointer (Z ⟨b,o,Y⟩)=>
  match ky lo 0,ky hi n,eS P e with
  |some l,Z h,Z s=>if n<dp/\l<=h/\h<=n then Z (.slice (Z (if n=l then⟨b,o,Y⟩else⟨b,o+l*s,Y⟩)) (h-l) (n-l))else Y
  |_,_,_=>Y
 |_,_=>Y
def mr (m:Mem)(size n:Nat):ab->Option (List ab)
 | .slice (Z ⟨b,o,Y⟩) _ _=>m.dP b o (n*size)
 | .slice Y _ _=>Z []
 | .string s=>if size=1/\n=s.size then Z (s.data.toList.map λb=> .int .u8 b.toNat)else Y
 |_=>Y
def Gh:ab->Option Nat
 | .slice _ n _=>Z n
 | .string s=>Z s.size
 |_=>Y
def AB (P:aE)(e:aT)(need:Nat):Bool:=match P.info? e with |some i=>decide (0<i.bytes)&&decide (need*i.bytes<=2^47)&&decide (need<=2^46)&&(iT P e).isSome|none=>O
def cJ (P:aE)(mH:Array aT)(s x:ab)(m:Mem):Option (ab×Mem):=
 match(mH[0]?).bind P.underlying,mH[1]?,s with
 |some (.slice e),Z xt,.slice base len cap=>
  match eS P e,Gh x,P.underlying xt with
  |some size,Z n,Z (.slice _)=>
   match mr m size n x with
   |none=>Y
   |some new=>
    if AB P e (len+n)=O\/new.length≠n*size\/new.all (·.oneCell')=O then Y else
    if cap=dp then
     match base with
     |some ⟨b,o,Y⟩=>
      let k:=m.blk b
      if k.kind==1&&k.sz==size&&m.fL b&&(k.cs.drop o).all (·.isSome)then
       match gG (k.cs.drop o) (len*size)with
       |some old=>
        let m':=(m.bB b {}).alloc {kind:=1,sz:=size,cs:=(old++new).map Z}
        some (.slice (Z ⟨m.next,0,Y⟩) (len+n) dp,m')
       |none=>Y
      else Y
     |_=>Y
    else if len+n<=cap then
     match base with
     |some ⟨b,o,Y⟩=>(m.dW b (o+len*size) new).map λm'=>(.slice base (len+n) cap,m')
     |none=>Z (.slice Y (len+n) cap,m)
     |_=>Y
    else match mr m size len s with
     |some old=>if old.length=len*size then Z (.slice (Z ⟨m.next,0,Y⟩) (len+n) dp,m.alloc {kind:=1,sz:=size,cs:=(old++new).map Z})else Y
     |none=>Y
  |_,_,_=>Y
 |_,_,_=>Y
def HS (P:aE)(mH:Array aT)(d s:ab)(m:Mem):Option (ab×Mem):=
 match(mH[0]?).bind P.underlying,d with
 |some (.slice e),.slice base dl _=>
  match eS P e,Gh s with
  |some size,Z sl=>
   match s with
   | .slice .. =>
    (mr m size (Nat.min sl dl) s).bind λcells=>
     match base with
     |some ⟨b,o,Y⟩=>(m.dW b o cells).map λm'=>(goInt (Nat.min sl dl:Nat),m')
     |none=>Z (goInt (Nat.min sl dl:Nat),m)
     |_=>Y
   |_=>Y
  |_,_=>Y
 |_,_=>Y
def oR (P:aE)(mH:Array aT)(x:ab)(m:Mem):Option (ab×Mem):=
 match(mH[0]?).bind P.underlying,x with
 |some (.slice e),.slice base n _=>
  match base with
  |none=>Z (.tuple #[],m)
  |some ⟨b,o,Y⟩=>
   if n=0 then Z (.tuple #[],m)
   else(iT P e).bind λz=>(m.dW b o (Builtin.zeroCells z.cells n).toList).map λm'=>(.tuple #[],m')
  |_=>Y
 |_,_=>Y
def tk (P:aE)(t:aT)(xc yc:Bool)(x y:ab):Option Bool:=
 match P.underlying t,x,y with
 |some (.pointer _),.pointer Y,.pointer b=>Z b.isNone
 |some (.pointer _),.pointer (Z _),.pointer Y=>Z O
 |some (.slice _),.slice Y _ _,.slice b _ _=>Z b.isNone
 |some (.slice _),.slice (Z _) _ _,.slice Y _ _=>Z O
 |some (.interface _),.nilIface,.nilIface=>if xc||yc then Z U else Y
 |some (.interface _),.nilIface,.iface _ _=>Z O
 |some (.interface _),.iface _ _,.nilIface=>Z O
 |_,_,_=>Y
def isConst:cd->Bool
 | .const _=>U
 |_=>O
def strKeys:List MapEntry->Bool
 | []=>U
 |e::es=>(match e.key with | .string _=>U|_=>O)&&strKeys es
def lV (s:ByteArray):List MapEntry->Nat->Option (Nat×ab)
 | [],_=>Y
 |e::es,i=>match e.key with | .string k=>if s==k then Z (i,e.val)else lV s es (i+1)|_=>Y
def jA (P:aE)(t:aT)(x k:ab)(ok:Bool)(m:Mem):Option ab:=
 match P.underlying t,x,k with
 |some (.map kt et),.map r,.string s=>
  match P.underlying kt,iT P et with
  |some .string,Z z=>
   match(match r with
    |none=>Z #[]
    |some b=>let q:=m.blk b;if q.kind==2&&m.bQ b then Z q.es else Y)with
   |some es=>if strKeys es.toList then
     let v:=match lV s es.toList 0 with |some (_,v)=>(v,U)|none=>(z,O)
     some (if ok then .tuple #[v.1,.bool v.2]else v.1)
    else Y
   |none=>Y
  |_,_=>Y
 |_,_,_=>Y
def ml (P:aE)(t:aT)(x k v:ab)(m:Mem):Option Mem:=
 match P.underlying t,x,k with
 |some (.map kt _),.map (Z b),.string s=>
  match P.underlying kt with
  |some .string=>
   let q:=m.blk b
   if q.kind==2&&m.bQ b&&strKeys q.es.toList then
    match lV s q.es.toList 0 with
    |some (i,_)=>Z (m.bB b {q with es:=q.es.modify i λe=>{e with key:=k,val:=v}})
    |none=>Z (m.bB b {q with es:=q.es.push {key:=k,val:=v,born:=q.clock},clock:=q.clock+1})
   else Y
  |_=>Y
 |_,_,_=>Y
def rL (P:aE)(x:ab)(t a:aT)(ok:Bool):Option ab:=
 match P.underlying a,x,ok with
 |some (.interface _),_,_=>Y
 |some _,.nilIface,U=>(iT P a).map λz=> .tuple #[z,.bool O]
 |some _,.iface d v,U=>if d=a then Z (.tuple #[v,.bool U])else(iT P a).map λz=> .tuple #[z,.bool O]
 |_,_,_=>Y
def Fp (P:aE)(t:aT)(parts:List (Nat×ab)):Option ab:=
 match iT P t,P.underlying t with
 |some z,Z (.struct fields)=>
  match fields.mapM (m:=Option) λf=>(eS P f.type).map λn=>(f.offset,n)with
  |some places=>(Instr.fill (places[·]?) z.cells parts).map .agg
  |none=>Y
 |some z,Z (.array _ e)=>(eS P e).bind λn=>(Instr.fill (λi=>Z (i*n,n)) z.cells parts).map .agg
 |_,_=>Y
def bW (P:aE)(t:aT)(len:Nat)(parts:List (Nat×ab))(m:Mem):Option (ab×Mem):=
 match P.underlying t with
 |some (.slice e)=>
  match eS P e,iT P e with
  |some size,Z z=>
   if len*size>2^24\/dp<=len then Y else
   (Instr.fill (λi=>Z (i*size,size)) ((Array.range (len*size)).map (z.cells[·%z.cells.size]!)) parts).map λcs=>
    (.slice (Z ⟨m.next,0,Y⟩) len len,m.alloc {kind:=1,sz:=size,cs:=cs.toList.map Z})
  |_,_=>Y
 |_=>Y
def gC (P:aE)(t:aT)(l c:ab)(m:Mem):Option (ab×Mem):=
 match P.underlying t,l,c with
 |some (.slice e),.int .i64 l,.int .i64 c=>
  match P.info? e,iT P e with
  |some i,Z z=>
   if 0<=l/\l<=c/\c*i.bytes<=2^40/\c<=2^40 then
    some (.slice (Z ⟨m.next,0,Y⟩) l.toNat c.toNat,
     m.alloc {kind:=1,sz:=i.size,cs:=(((Array.range (c.toNat*i.size)).map (z.cells[·%z.cells.size]!)).toList.map Z)})
   else Y
  |_,_=>Y
 |_,_,_=>Y
def gp (P:aE)(s d:aT)(x:ab)(m:Mem):Option (ab×Mem):=
 match P.underlying s,P.underlying d,x with
 |some (.pointer t),Z .unsafePointer,.pointer (Z ⟨b,o,Y⟩)=>
  let k:=m.blk b
  match eS P t with
  |some (_+1)=>if k.kind==1&&decide (o<k.cs.length)then Z (x,m)else Y
  |_=>Y
 |some .string,Z (.slice e),.string s=>
  match P.underlying e with
  |some (.int .u8)=>if s.size=0\/s.size>2^46 then Y else
    some (.slice (Z ⟨m.next,0,Y⟩) s.size dp,m.alloc {kind:=1,sz:=1,cs:=s.data.toList.map λb=>Z (.int .u8 b.toNat)})
  |_=>Y
 |some (.slice e),Z .string,.slice a len _=>
  match P.underlying e,a with
  |some (.int .u8),Y=>Z (.string .empty,m)
  |some (.int .u8),Z ⟨b,o,Y⟩=>
   (m.dP b o len).bind λl=>(l.mapM (m:=Option) λv=>match v with | .int .u8 n=>Z (UInt8.ofNat n.toNat)|_=>Y).map λbs=>(.string ⟨bs.toArray⟩,m)
  |_,_=>Y
 |_,_,_=>Y
def z9 (P:aE)(t:aT)(x:ab)(m:Mem):Option (ab×Mem):=
 match P.underlying t,x with
 |some .string,.string s=>Z (ptrTo m.next 0,m.alloc {kind:=3,str:=s,pos:=0})
 |_,_=>Y
def Hd (it:ab)(isS:Bool)(m:Mem):Option (ab×Mem):=
 match it,isS with
 | .pointer (Z ⟨b,0,Y⟩),U=>
  let k:=m.blk b
  if k.kind==3&&m.bQ b then
   if k.pos<k.str.size then
    let d:=Utf8.decode k.str k.pos
    some (.tuple #[.bool U,goInt k.pos,.int .i32 d.1],m.bB b {k with pos:=k.pos+d.2})
   else Z (.tuple #[.bool O],m)
  else Y
 |_,_=>Y
def dv (P:aE)(ev:cd->ab)(o:iK):Option ab:=
 if o.op.operands.all (λx=>plain (ev x))then
  match(execOp ev o).aQ P with
  |some (.value v)=>if plain v then Z v else Y
  |_=>Y
 else Y
def gP (P:aE)(recv:ab)(name:String):Option (Nat×ab):=
 match recv with
 | .iface t v=>
  match P.info? t,P.underlying t with
  |some i,Z (.pointer _)=>
   match i.methods.find? (·.name==name)with
   |some mt=>match mt.path.toList,mt.func with
    | [],Z (f,U)=>Z (f,v)
    |_,_=>Y
   |none=>Y
  |_,_=>Y
 |_=>Y
def dL (P:aE)(ev:cd->ab)(o:iK)(m:Mem):Option (ab×Mem):=
 match o.op with
 | .move x=>Z (ev x,m)
 | .assign x=>Z (ev x,m)
 | .pick c a b=>match ev c with | .bool t=>Z (if t then ev a else ev b,m)|_=>Y
 | .alloc e=>(iT P e).map λz=>cI m 0 z.cells.toList
 | .box _ v=>Z (cI m 0 (ev v).cells.toList)
 | .build t ps=>(Fp P t (ps.map λ(i,x)=>(i,ev x)).toList).map λv=>(v,m)
 | .buildSlice t n ps=>bW P t n (ps.map λ(i,x)=>(i,ev x)).toList m
 | .load t a=>(kY P t (ev a) m).map λv=>(v,m)
 | .store t a x=>(xD P t (ev a) (ev x) m).map λm'=>(undef,m')
 | .nilCheck x=>match ev x with
  | .pointer (Z a)=>Z (.pointer (Z a),m)
  | .func (.method name) first cap=>match(first[0]?:Option ab)with
   |some r=>if(gP P r name).isSome then Z (.func (.method name) first cap,m)else Y
   |none=>Y
  |_=>Y
 | .binOp op t x y _=>
  match op with
  | .eql=>match tk P t (isConst x) (isConst y) (ev x) (ev y)with |some b=>Z (.bool b,m)|none=>(dv P ev o).map λv=>(v,m)
  | .neq=>match tk P t (isConst x) (isConst y) (ev x) (ev y)with |some b=>Z (.bool (!b),m)|none=>(dv P ev o).map λv=>(v,m)
  |_=>(dv P ev o).map λv=>(v,m)
 | .unOp .. =>(dv P ev o).map λv=>(v,m)
 | .convert s d x=>match gp P s d (ev x) m with |some r=>Z r|none=>(dv P ev o).map λv=>(v,m)
 | .makeInterface t x=>match P.underlying t with |some (.interface _)=>Y|some _=>Z (.iface t (ev x),m)|none=>Y
 | .makeFunc fn f c=>Z (.func fn (f.map ev) (c.map ev),m)
 | .makeMap _ Y=>Z (.map (Z m.next),m.alloc {kind:=2})
 | .makeSlice t l c=>gC P t (ev l) (ev c) m
 | .slice t x lo hi Y=>match jv P t (ev x) (lo.map ev) (hi.map ev) m with |some v=>Z (v,m)|none=>(dv P ev o).map λv=>(v,m)
 | .fieldAddr s x f=>(um P s (ev x) f).map λv=>(v,m)
 | .field s x f=>(Ju P s (ev x) f).map λv=>(v,m)
 | .indexAddr t x i=>(qZ P t (ev x) (ev i)).map λv=>(v,m)
 | .index t x i=>match xQ P t (ev x) (ev i)with |some v=>Z (v,m)|none=>(dv P ev o).map λv=>(v,m)
 | .lookup t x i ok=>(jA P t (ev x) (ev i) ok m).map λv=>(v,m)
 | .mapUpdate t x k v=>(ml P t (ev x) (ev k) (ev v) m).map λm'=>(undef,m')
 | .typeAssert x t a ok=>(rL P (ev x) t a ok).map λv=>(v,m)
 | .extract t i=>match ev t with | .tuple vs=>(vs[i]?).map λv=>(v,m)|_=>Y
 | .range t x=>z9 P t (ev x) m
 | .next it s=>Hd (ev it) s m
 | .call {callee:=.builtin b,args,argTypes}=>
  match b,args.toList with
  | .append,[s,x]=>cJ P argTypes (ev s) (ev x) m
  | .copy,[d,s]=>HS P argTypes (ev d) (ev s) m
  | .clear,[x]=>oR P argTypes (ev x) m
  | .len,[x]=>match(argTypes[0]?).bind P.underlying,ev x with
   |some (.slice _),.slice _ n _=>Z (goInt n,m)
   |_,_=>(dv P ev o).map λv=>(v,m)
  | .min,_=>(dv P ev o).map λv=>(v,m)
  | .max,_=>(dv P ev o).map λv=>(v,m)
  |_,_=>Y
 |_=>Y
structure Ext where
 disable:Nat
 enable:Nat
 acquire:Nat
 vg:Nat
 HU:Nat
 MR:Nat
 Nl:Nat
 xy:Nat
 HD:Nat
 HB:Nat
def vB (X:Ext)(f:Nat)(args:List ab)(m:Mem):Option (ab×Mem):=
 if f=X.disable then(match args with | []=>Z (.tuple #[],{m with deaf:=m.deaf+1})|_=>Y)
 else if f=X.enable then(match args with | []=>Z (.tuple #[],{m with deaf:=m.deaf-1})|_=>Y)
 else if f=X.acquire then(match args with | [.pointer (Z ⟨_,_,Y⟩)]=>Z (.tuple #[],m)|_=>Y)
 else if f=X.vg then(match args with | [.pointer (Z ⟨_,_,Y⟩)]=>Z (.tuple #[],m)|_=>Y)
 else if f=X.HU then
  (match args with
   | [.pointer (Z ⟨b,o,Y⟩),.int .i32 x,.int .i32 y]=>
    match m.dP b o 1 with
    |some [.int .i32 v]=>if v=x then(m.dW b o [.int .i32 y]).map λm'=>(.bool U,m')else if m.base<=b then Z (.bool O,m)else Y
    |_=>Y
   |_=>Y)
 else if f=X.MR then
  (match args with
   | [.pointer (Z ⟨b,o,Y⟩),.int .i32 y]=>
    match m.dP b o 1 with
    |some [.int .i32 v]=>(m.dW b o [.int .i32 (bY.i32.wrap (v+y))]).map λm'=>(.int .i32 (bY.i32.wrap (v+y)),m')
    |_=>Y
   |_=>Y)
 else Y
abbrev cH:=Nat->List ab->Mem->Option (ab×Mem)
def tS (X:Ext)(dR:ab)(m:Mem):Option (Nat×Nat×Nat):=
 match dR with
 | .func (.func f) _ cap=>
  if f=X.HD\/f=X.HB then
   match(cap[0]?:Option ab),(cap[1]?:Option ab)with
   |some (.pointer (Z ⟨pb,po,Y⟩)),Z (.pointer (Z ⟨ib,io,Y⟩))=>
    match m.dP pb po 1,m.dP ib io 1 with
    |some [.pointer (Z ⟨d,o,Y⟩)],Z [.int .i64 i]=>if 0<=i then Z (d,o,i.toNat)else Y
    |_,_=>Y
   |_,_=>Y
  else Y
 |_=>Y
def BD (m:Mem)(d o j:Nat):Option (List Span):=
 match m.dP d (o+2*j) 1 with
 |some [.slice (Z ⟨b,_,Y⟩) _ _]=>Z [(d,d+1,Z (o+2*j)),(d,d+1,Z (o+2*j+1)),(b,b+1,Y)]
 |some [.slice Y _ _]=>Z [(d,d+1,Z (o+2*j)),(d,d+1,Z (o+2*j+1))]
 |_=>Y
def ql (m:Mem)(d o:Nat):Nat->Option (List Span)
 |0=>Z []
 |j+1=>match ql m d o j,BD m d o j with
  |some l,Z l'=>Z (l'++l)
  |_,_=>Y
def xN (m:Mem)(s:Span):Bool:=
 decide (s.2.1=s.1+1)&&decide (m.base<=s.1)&&decide (m.floor<=s.1)&&decide (s.1<m.next)&&(m.blk s.1).kind==1&&
  (match s.2.2 with |some o=>(((m.blk s.1).cs[o]?).any (·.isSome))|none=>(m.blk s.1).cs.all (·.isSome))
def j0:List Span->Bool
 | []=>U
 |s::l=>(l.all λt=>s.1 !=t.1||(match s.2.2,t.2.2 with |some x,Z y=>x !=y|_,_=>O))&&j0 l
def C3 (call:cH)(fv:ab)(args:List ab)(m:Mem):Option (ab×Mem):=
 match fv with
 | .func (.func f) first cap=>call f (first.toList++args++cap.toList) m
 |_=>Y
def mo (w d o:Nat)(m:Mem):Option Mem:=
 match m.wg with
 |some w'=>if w=w' then Z m else Y
 |none=>match m.dP w 0 2,ql m d o 4 with
  |some [.int .u64 0,.int .u32 0],Z l=>
   if m.dh w 0 2&&m.fL w&&(m.blk w).pos==1&&decide ((m.blk w).cs.length=2)&&decide (m.bI=[])&&decide (m.opn=[])&&decide (m.pend=[])&&decide (m.floor=m.base)&&l.all (λs=>xN m s&&s.1 !=w)&&j0 l
   then Z {m.bB w {}with wg:=Z w,opn:=l,floor:=m.next}else Y
  |_,_=>Y
def yj (s t:Span):Bool:=Nat.ble s.2.1 t.1||Nat.ble t.2.1 s.1||(match s.2.2,t.2.2 with |some x,Z y=>x !=y|_,_=>O)
def xE (X:Ext)(og:cH)(args:List ab)(m:Mem):Option (ab×Mem):=
 match args with
 | [.pointer (Z ⟨w,0,Y⟩),dR]=>
  match tS X dR m with
  |some (d,o,i)=>
   match mo w d o m with
   |some a8=>
    let m:=(cI (cI a8 0 [ptrTo w 0]).2 0 [dR]).2
    match BD m d o i with
    |some l=>
     let rest:=m.opn.filter λs=>!l.contains s
     if m.deaf=0/\m.pend.length<4/\(l.all λs=>m.opn.contains s)=U/\j0 l=U/\(l.all λs=>(rest++m.bI).all (yj s))=U/\((rest++l).all λt=>Nat.ble t.2.1 a8.next)=U/\(l.all λs=>Nat.beq s.2.1 (s.1+1)&&Nat.beq (m.blk s.1).kind 1)=U then
      match C3 og dR [] {m with home:=m.next,floor:=m.next,opn:=l,bI:=rest++m.bI,wg:=Y,pend:=[]}with
      |some (_,m2)=>if m2.deaf=0 then
        some (.tuple #[],{m2 with home:=m.home,floor:=m2.next,opn:=rest,wg:=m.wg,bI:=(m.next,m2.next,Y)::(l++m.bI),pend:={lo:=m.next,hi:=m2.next,qm:=l,bI:=rest++m.bI,heap:=m2.heap}::m.pend})
       else Y
      |none=>Y
     else Y
    |none=>Y
   |none=>Y
  |none=>Y
 |_=>Y
def Hn (args:List ab)(m:Mem):Option (ab×Mem):=
 match args,m.wg with
 | [.pointer (Z ⟨w,0,Y⟩)],Z w'=>if w=w'/\m.deaf=0/\m.opn=[]/\Nat.ble m.base m.next=U then Z (.tuple #[],{m with bI:=[],floor:=m.base,wg:=Y,pend:=[]})else Y
 |_,_=>Y
def fI (o:iK):Bool:=
 match o.op with
 | .move _| .assign _| .pick .. | .fieldAddr .. | .field .. | .extract .. | .unOp .. | .binOp .. | .makeInterface .. | .makeFunc .. | .typeAssert .. | .nilCheck _
 | .index .. | .indexAddr .. | .slice .. | .build .. | .load .. | .lookup .. | .alloc _| .box .. | .buildSlice .. | .makeSlice .. | .makeMap .. =>U
 | .call {callee:=.builtin b,.. }=>match b with | .len| .min| .max=>U|_=>O
 |_=>O
def aF (ops:Array iK):List Nat:=(List.range ops.size).filter λi=>(ops[i]?).any λo=>!fI o
def zy (bN:Array Nat):List Nat->Bool
 |a::b::l=>(bN.getD b 0).testBit a&&zy bN (b::l)
 |_=>U
def cX (bN:Array Nat)(hs:List Nat)(i:Nat):Nat:=(hs.filter λh=>(bN.getD i 0).testBit h).length
def sN (bN:Array Nat)(hs:List Nat)(i:Nat):Nat:=(hs.filter λh=> !(bN.getD h 0).testBit i).length
def lK (ops:Array iK)(o:iK):List Tmp:=
 (o.op.operands.toList.filterMap λx=>match x with | .tmp t=>Z t|_=>Y)++(match o.guard with |some (g,_)=>((ops[g]?).bind (·.dst)).toList|none=>[])
def tidy (ops:Array iK)(bN:Array Nat):Bool:=
 (List.range ops.size).all λi=>(List.range ops.size).all λj=>
  match ops[i]?,ops[j]? with
  |some x,Z y=>(match y.dst with
   |some d=>(i==j||x.dst !=Z d)&&(!(lK ops x).contains d||((bN.getD i 0).testBit j||(bN.getD j 0).testBit i))
   |none=>U)
  |_,_=>U
theorem Cb {p:Prop}[Decidable p](h:p):decide p=U:=decide_eq_true h
theorem yz {p:Prop}[Decidable p](h:¬p):decide p=O:=decide_eq_false h
theorem iU {p:Prop}[Decidable p]:(decide p=U)=p:=decide_eq_true_eq
theorem bh.{u}{c:Prop}{h:Decidable c}(a:c){α:Sort u}{t e:α}:ite c t e=t:=if_pos a
theorem bH.{u}{c:Prop}{h:Decidable c}(a:¬c){α:Sort u}{t e:α}:ite c t e=e:=if_neg a
theorem ai {p:Prop}(h:p:=by omega):p:=h
theorem fS {p:Prop}(h:p:=by assumption):p:=h
theorem dA {p:Prop}(h:p:=by simp):p:=h
theorem eJ {p:Prop}(h:p:=by decide):p:=h
theorem iq {p:Prop}(h:p:=by intro h;cases h):p:=h
theorem Zg {p:Prop}(h:p:=by refine And.intro ?_ dA;intro x a;first |(cases a;done)|(obtain⟨y,_,b⟩:=List.mem_map.1 a;rw[<-b];simp)):p:=h
def bP {α β:Type}(R:α->β->Prop):List α->List β->Prop
 | [],[]=>True
 |a::l,b::r=>R a b/\bP R l r
 |_,_=>False
section
variable {α β γ:Type}{R S:α->β->Prop}
theorem bP.length{l r}(h:bP R l r):l.length=r.length:=by
 induction l generalizing r with
 |nil=>cases r<;>simp_all [bP]
 |cons a l c=>cases r with
  |nil=>exact h.elim
  |cons b r=>simp[c h.2]
theorem bP.mono{l r}(h:bP R l r)(d:∀a b,R a b->S a b):bP S l r:=by
 induction l generalizing r with
 |nil=>cases r<;>simp_all [bP]
 |cons a l c=>cases r with
  |nil=>exact h.elim
  |cons b r=>exact⟨d _ _ h.1,c h.2⟩
theorem bP.get{l r}(h:bP R l r){i:Nat}{a}(c:l[i]?=Z a):∃b,r[i]?=Z b/\R a b:=by
 induction l generalizing r i with
 |nil=>simp at c
 |cons x l d=>cases r with
  |nil=>exact h.elim
  |cons b r=>cases i with
   |zero=>simp at c;subst c;exact⟨b,rfl,h.1⟩
   |succ i=>simp at c;simpa using d h.2 c
theorem bP.get'{l r}(h:bP R l r){i:Nat}{b}(c:r[i]?=Z b):∃a,l[i]?=Z a/\R a b:=by
 induction l generalizing r i with
 |nil=>cases r<;>simp_all [bP]
 |cons x l d=>cases r with
  |nil=>exact h.elim
  |cons y r=>cases i with
   |zero=>simp at c;subst c;exact⟨x,rfl,h.1⟩
   |succ i=>simp at c;simpa using d h.2 c
theorem bP.IQ{l:List α}{r:List β}(c:l.length=r.length)(h:∀(i:Nat) a b,l[i]?=Z a->r[i]?=Z b->R a b):bP R l r:=by
 induction l generalizing r with
 |nil=>cases r<;>simp_all [bP]
 |cons x l d=>cases r with
  |nil=>simp at c
  |cons y r=>exact⟨h 0 _ _ rfl rfl,d (by simpa using c) λi a b f e=>h (i+1) a b (by simpa using f) (by simpa using e)⟩
theorem bP.append{l d r c}(h:bP R l r)(f:bP R d c):bP R (l++d) (r++c):=by
 induction l generalizing r with
 |nil=>cases r<;>simp_all [bP]
 |cons a l e=>cases r with
  |nil=>exact h.elim
  |cons b r=>exact⟨h.1,e h.2⟩
theorem bP.qU{b:Type}{f:b->α}{g:b->β}{l:List b}(h:∀x∈l,R (f x) (g x)):bP R (l.map f) (l.map g):=by
 induction l with
 |nil=>trivial
 |cons a l c=>exact⟨h a dA,c λx d=>h x (by simp[d])⟩
theorem bP.set{l r}(h:bP R l r){a b}(d:R a b)(i:Nat):bP R (l.set i a) (r.set i b):=by
 induction l generalizing r i with
 |nil=>cases r<;>simp_all [bP]
 |cons x l c=>cases r with
  |nil=>exact h.elim
  |cons y r=>cases i with
   |zero=>exact⟨d,h.2⟩
   |succ i=>exact⟨h.1,c h.2 i⟩
theorem bP.drop{l r}(h:bP R l r)(i:Nat):bP R (l.drop i) (r.drop i):=by
 induction l generalizing r i with
 |nil=>cases r<;>simp_all [bP]
 |cons x l a=>cases r with
  |nil=>exact h.elim
  |cons y r=>cases i with
   |zero=>exact h
   |succ i=>exact a h.2 i
theorem bP.take{l r}(h:bP R l r)(i:Nat):bP R (l.take i) (r.take i):=by
 induction l generalizing r i with
 |nil=>cases r<;>simp_all [bP]
 |cons x l a=>cases r with
  |nil=>exact h.elim
  |cons y r=>cases i with
   |zero=>trivial
   |succ i=>exact⟨h.1,a h.2 i⟩
theorem bP.refl{R:α->α->Prop}{l:List α}(h:∀a∈l,R a a):bP R l l:=by
 induction l with
 |nil=>trivial
 |cons a l b=>exact⟨h a dA,b λx c=>h x (by simp[c])⟩
theorem bP.getD{l r}(h:bP R l r){a b}(f:R a b)(i:Nat):R (l.getD i a) (r.getD i b):=by
 simp only[List.getD_eq_getElem?_getD];cases d:l[i]? with
 |none=>
  have :r[i]?=Y:=by
   have :=h.length;simp only[List.getElem?_eq_none_iff]at*;omega
  simp[this,f]
 |some x=>
  obtain⟨y,c,e⟩:=h.get d;simp[c,e]
end
structure Pl where
 c:Nat
 d:Nat
 room:Nat
 sz:Nat
abbrev dz:=Nat->Option Pl
def dz.le(ρ bK:dz):Prop:=∀b p,ρ b=Z p->bK b=Z p
theorem dz.le_refl(ρ:dz):ρ.le ρ:=λ_ _ h=>h
theorem dz.le_trans{ρ c a:dz}(h:ρ.le c)(d:c.le a):ρ.le a:=λb p x=>d b p (h b p x)
def VR (ρ:dz):Nat->ab->ab->Prop
 |0,_,_=>False
 |n+1,v,v'=>
  match v with
  | .pointer (Z a)=>∃p,ρ a.block=Z p/\a.spot=Y/\v'=.pointer (Z ⟨p.c,p.d+a.off,Y⟩)
  | .slice (Z a) len cap=>∃p gX,ρ a.block=Z p/\a.spot=Y/\v'=.slice (Z ⟨p.c,p.d+a.off,Y⟩) len gX/\(if cap=dp then len<=gX/\a.off+gX*p.sz<=p.room else gX=cap)
  | .map (Z r)=>∃p,ρ r=Z p/\v'=.map (Z p.c)
  | .func fn f c=>∃f' c',v'=.func fn f' c'/\bP (VR ρ n) f.toList f'.toList/\bP (VR ρ n) c.toList c'.toList
  | .iface t x=>∃x',v'=.iface t x'/\VR ρ n x x'
  | .agg cs=>∃gS,v'=.agg gS/\bP (VR ρ n) cs.toList gS.toList
  | .tuple cs=>∃gS,v'=.tuple gS/\bP (VR ρ n) cs.toList gS.toList
  |v=>v'=v
def aV (ρ:dz)(v v':ab):Prop:=∃n,VR ρ n v v'
section
variable {ρ bK:dz}
theorem VR.more:∀{n:Nat}{v g:ab},VR ρ n v g->VR ρ (n+1) v g:=by
 intro n
 induction n with
 |zero=>intro v g h;exact h.elim
 |succ n d=>
  intro v g h;cases v with
  |pointer a=>cases a<;>exact h
  |slice a l c=>cases a<;>exact h
  |map r=>cases r<;>exact h
  |func o f c=>
   obtain⟨k,m,e,j,i⟩:=h;exact⟨k,m,e,j.mono λ_ _=>d,i.mono λ_ _=>d⟩
  |iface t x=>obtain⟨b,e,h⟩:=h;exact⟨b,e,d h⟩
  |agg cs=>obtain⟨b,e,h⟩:=h;exact⟨b,e,h.mono λ_ _=>d⟩
  |tuple cs=>obtain⟨b,e,h⟩:=h;exact⟨b,e,h.mono λ_ _=>d⟩
  |_=>exact h
theorem VR.le{n m:Nat}(h:n<=m){v a}(c:VR ρ n v a):VR ρ m v a:=by
 induction h with
 |refl=>exact c
 |step _ b=>exact b.more
theorem VR.iX(h:ρ.le bK):∀{n:Nat}{v k:ab},VR ρ n v k->VR bK n v k:=by
 intro n
 induction n with
 |zero=>intro v k h;exact h.elim
 |succ n j=>
  intro v k b;cases v with
  |pointer a=>cases a with
   |none=>exact b
   |some a=>obtain⟨p,g,d⟩:=b;exact⟨p,h _ _ g,d⟩
  |slice a l c=>cases a with
   |none=>exact b
   |some a=>obtain⟨p,m,g,d⟩:=b;exact⟨p,m,h _ _ g,d⟩
  |map r=>cases r with
   |none=>exact b
   |some a=>obtain⟨p,g,d⟩:=b;exact⟨p,h _ _ g,d⟩
  |func q f c=>
   obtain⟨o,m,e,g,d⟩:=b;exact⟨o,m,e,g.mono λ_ _=>j,d.mono λ_ _=>j⟩
  |iface t x=>obtain⟨i,e,h⟩:=b;exact⟨i,e,j h⟩
  |agg cs=>obtain⟨i,e,h⟩:=b;exact⟨i,e,h.mono λ_ _=>j⟩
  |tuple cs=>obtain⟨i,e,h⟩:=b;exact⟨i,e,h.mono λ_ _=>j⟩
  |_=>exact b
theorem aV.iX(h:ρ.le bK){v a}(b:aV ρ v a):aV bK v a:=let⟨n,x⟩:=b;⟨n,x.iX h⟩
theorem v8 {l r}(h:bP (aV ρ) l r):∃n,bP (VR ρ n) l r:=by
 induction l generalizing r with
 |nil=>exact⟨0,by cases r<;>simp_all [bP]⟩
 |cons a l c=>cases r with
  |nil=>exact h.elim
  |cons b r=>
   obtain⟨n,d⟩:=h.1;obtain⟨k,e⟩:=c h.2;exact⟨max n k,d.le (Nat.le_max_left _ _),e.mono λ_ _=>VR.le (Nat.le_max_right _ _)⟩
theorem vV {n:Nat}{l r}(h:bP (VR ρ n) l r):bP (aV ρ) l r:=h.mono λ_ _ x=>⟨n,x⟩
theorem iz {cs b}:aV ρ (.agg cs) b↔∃a,b=.agg a/\bP (aV ρ) cs.toList a.toList:=by
 constructor
 .rintro⟨n,h⟩;cases n with
  |zero=>exact h.elim
  |succ n=>obtain⟨a,e,h⟩:=h;exact⟨a,e,vV h⟩
 .rintro⟨a,e,h⟩;obtain⟨n,h⟩:=v8 h;exact⟨n+1,a,e,h⟩
theorem fw {cs b}:aV ρ (.tuple cs) b↔∃a,b=.tuple a/\bP (aV ρ) cs.toList a.toList:=by
 constructor
 .rintro⟨n,h⟩;cases n with
  |zero=>exact h.elim
  |succ n=>obtain⟨a,e,h⟩:=h;exact⟨a,e,vV h⟩
 .rintro⟨a,e,h⟩;obtain⟨n,h⟩:=v8 h;exact⟨n+1,a,e,h⟩
theorem gB {t x c}:aV ρ (.iface t x) c↔∃b,c=.iface t b/\aV ρ x b:=by
 constructor
 .rintro⟨n,h⟩;cases n with
  |zero=>exact h.elim
  |succ n=>obtain⟨a,e,h⟩:=h;exact⟨a,e,n,h⟩
 .rintro⟨a,e,n,h⟩;exact⟨n+1,a,e,h⟩
theorem gA {fn f c g}:aV ρ (.func fn f c) g↔∃a b,g=.func fn a b/\bP (aV ρ) f.toList a.toList/\bP (aV ρ) c.toList b.toList:=by
 constructor
 .rintro⟨n,h⟩;cases n with
  |zero=>exact h.elim
  |succ n=>obtain⟨a,b,e,h,d⟩:=h;exact⟨a,b,e,vV h,vV d⟩
 .rintro⟨a,b,e,h,d⟩;obtain⟨n,h⟩:=v8 h;obtain⟨k,d⟩:=v8 d;exact⟨max n k+1,a,b,e,h.mono λ_ _=>VR.le (Nat.le_max_left _ _),d.mono λ_ _=>VR.le (Nat.le_max_right _ _)⟩
theorem cQ {a b}:aV ρ (.pointer (Z a)) b↔∃p,ρ a.block=Z p/\a.spot=Y/\b=.pointer (Z ⟨p.c,p.d+a.off,Y⟩):=by
 constructor
 .rintro⟨n,h⟩;cases n with
  |zero=>exact h.elim
  |succ n=>exact h
 .intro h;exact⟨1,h⟩
theorem cp {a}{len b:Nat}{f}:aV ρ (.slice (Z a) len b) f↔∃p e,ρ a.block=Z p/\a.spot=Y/\f=.slice (Z ⟨p.c,p.d+a.off,Y⟩) len e/\(if b=dp then len<=e/\a.off+e*p.sz<=p.room else e=b):=by
 constructor
 .rintro⟨n,h⟩;cases n with
  |zero=>exact h.elim
  |succ n=>exact h
 .intro h;exact⟨1,h⟩
theorem jG {r:Nat}{a}:aV ρ (.map (Z r)) a↔∃p,ρ r=Z p/\a=.map (Z p.c):=by
 constructor
 .rintro⟨n,h⟩;cases n with
  |zero=>exact h.elim
  |succ n=>exact h
 .intro h;exact⟨1,h⟩
theorem aG {v b}(d:de v=U):aV ρ v b↔b=v:=by
 constructor
 .rintro⟨n,h⟩;cases n with
  |zero=>exact h.elim
  |succ n=>cases v with
   |pointer a=>cases a<;>simp_all [de,VR]
   |slice a l c=>cases a<;>simp_all [de,VR]
   |map a=>cases a<;>simp_all [de,VR]
   |_=>first |exact h|(simp[de]at d)
 .intro h;refine⟨1,?_⟩;cases v with
  |pointer a=>cases a<;>simp_all [de,VR]
  |slice a l c=>cases a<;>simp_all [de,VR]
  |map a=>cases a<;>simp_all [de,VR]
  |_=>first |exact h|(simp[de]at d)
theorem rQ {l r:List ab}(c:l.all de=U)(h:bP (aV ρ) l r):r=l:=by
 induction l generalizing r with
 |nil=>cases r<;>simp_all [bP]
 |cons a l d=>cases r with
  |nil=>exact h.elim
  |cons b r=>
   simp only[List.all_cons,ag]at c;rw[(aG c.1).1 h.1,d c.2 h.2]
theorem jo {l:List ab}(b:l.all de=U):bP (aV ρ) l l:=by
 refine bP.refl λa c=>(aG ?_).2 rfl
 exact aB.1 b a c
theorem Nn {v c}(a:plain v=U)(h:aV ρ v c):c=v:=by
 cases v with
 |agg cs=>
  obtain⟨d,e,b⟩:=iz.1 h;have :=rQ a b;rw[e,Array.ext' this]
 |tuple cs=>
  obtain⟨d,e,b⟩:=fw.1 h;have :=rQ a b;rw[e,Array.ext' this]
 |_=>exact(aG (by exact a)).1 h
theorem cz {v}(a:plain v=U):aV ρ v v:=by
 cases v with
 |agg cs=>exact iz.2 ⟨cs,rfl,jo a⟩
 |tuple cs=>exact fw.2 ⟨cs,rfl,jo a⟩
 |_=>exact(aG (by exact a)).2 rfl
theorem oy:aV ρ undef undef:=cz rfl
theorem kJ:aV ρ (.tuple #[]) (.tuple #[]):=cz rfl
theorem aV.cells{v g}(h:aV ρ v g):bP (aV ρ) v.cells.toList g.cells.toList:=by
 cases v with
 |agg cs=>obtain⟨j,e,i⟩:=iz.1 h;subst e;exact i
 |tuple cs=>obtain⟨j,rfl,_⟩:=fw.1 h;exact⟨h,trivial⟩
 |iface t x=>obtain⟨o,rfl,_⟩:=gB.1 h;exact⟨h,trivial⟩
 |func q f c=>obtain⟨u,m,rfl,_⟩:=gA.1 h;exact⟨h,trivial⟩
 |pointer a=>cases a with
  |none=>have :=(aG (by rfl)).1 h;subst this;exact⟨h,trivial⟩
  |some a=>obtain⟨p,_,_,rfl⟩:=cQ.1 h;exact⟨h,trivial⟩
 |slice a l c=>cases a with
  |none=>have :=(aG (by rfl)).1 h;subst this;exact⟨h,trivial⟩
  |some a=>obtain⟨p,m,_,_,rfl,_⟩:=cp.1 h;exact⟨h,trivial⟩
 |map r=>cases r with
  |none=>have :=(aG (by rfl)).1 h;subst this;exact⟨h,trivial⟩
  |some a=>obtain⟨p,_,rfl⟩:=jG.1 h;exact⟨h,trivial⟩
 |bool b=>have :=(aG (by rfl)).1 h;subst this;exact⟨h,trivial⟩
 |int k n=>have :=(aG (by rfl)).1 h;subst this;exact⟨h,trivial⟩
 |string s=>have :=(aG (by rfl)).1 h;subst this;exact⟨h,trivial⟩
 |nilFunc=>have :=(aG (by rfl)).1 h;subst this;exact⟨h,trivial⟩
 |nilIface=>have :=(aG (by rfl)).1 h;subst this;exact⟨h,trivial⟩
 |float k b=>obtain⟨n,d⟩:=h;cases n with |zero=>exact d.elim|succ n=>have e:g=_:=d;subst e;exact⟨⟨1,rfl⟩,trivial⟩
 |complex k a b=>obtain⟨n,d⟩:=h;cases n with |zero=>exact d.elim|succ n=>have e:g=_:=d;subst e;exact⟨⟨1,rfl⟩,trivial⟩
 |chan r=>obtain⟨n,d⟩:=h;cases n with |zero=>exact d.elim|succ n=>have e:g=_:=d;subst e;exact⟨⟨1,rfl⟩,trivial⟩
theorem aV.P4{v b}(h:aV ρ v b)(d:v.oneCell'=U):b.oneCell'=U:=by
 cases v with
 |agg cs=>simp[ab.oneCell']at d
 |tuple cs=>simp[ab.oneCell']at d
 |iface t x=>obtain⟨j,rfl,_⟩:=gB.1 h;rfl
 |func k f c=>obtain⟨m,i,rfl,_⟩:=gA.1 h;rfl
 |pointer a=>cases a with
  |none=>have :=(aG (by rfl)).1 h;subst this;rfl
  |some a=>obtain⟨p,_,_,rfl⟩:=cQ.1 h;rfl
 |slice a l c=>cases a with
  |none=>have :=(aG (by rfl)).1 h;subst this;rfl
  |some a=>obtain⟨p,i,_,_,rfl,_⟩:=cp.1 h;rfl
 |map r=>cases r with
  |none=>have :=(aG (by rfl)).1 h;subst this;rfl
  |some a=>obtain⟨p,_,rfl⟩:=jG.1 h;rfl
 |_=>obtain⟨n,g⟩:=h;cases n with |zero=>exact g.elim|succ n=>have e:b=_:=g;subst e;exact d
end
theorem SG {α:Type}(d:α)(l:List α)(i:Nat)(v:α)(j:Nat):Ej d (I0 d l i v) j=if i=j then v else Ej d l j:=by
 induction l generalizing i j with
 |nil=>
  induction i generalizing j with
  |zero=>cases j<;>simp[I0,Ej]
  |succ i a=>cases j with
   |zero=>simp[I0,Ej]
   |succ j=>simp[I0,Ej,a]
 |cons x l a=>
  cases i with
  |zero=>cases j<;>simp[I0,Ej]
  |succ i=>cases j<;>simp[I0,Ej,a]
theorem Ym (n:Hp4)(b:Nat)(k:eh)(b':Nat)(h:b / 4096=b' / 4096):Yo (afJ n b k) b'=if b=b' then k else Yo n b':=by
 have d (x k:Nat):tK x k=x / k%8:=rfl;have e (x:Nat):Nat.mod x 8=x%8:=rfl;have l (x k:Nat):tK x k<8:=by rw[d];omega
 have i (x:Nat):Nat.mod x 8<8:=by rw[e];omega
 unfold Yo afJ;rw[N8.get_put _ _ (l ..) (l ..)]
 by_cases a:tK b 512=tK b' 512
 .rw[bh a,N8.get_put _ _ (l ..) (l ..)]
  by_cases c:tK b 64=tK b' 64
  .rw[bh c,N8.get_put _ _ (l ..) (l ..)]
   by_cases f:tK b 8=tK b' 8
   .rw[bh f,N8.get_put _ _ (i ..) (i ..),a,c,f]
    by_cases g:Nat.mod b 8=Nat.mod b' 8
    .rw[bh g,bh (by simp only[d,e]at a c f g;omega)]
    .rw[bH g,bH (by rintro rfl;exact g rfl)]
   .rw[bH f,bH (by rintro rfl;exact f rfl),a,c]
  .rw[bH c,bH (by rintro rfl;exact c rfl),a]
 .rw[bH a,bH (by rintro rfl;exact a rfl)]
theorem jE.get_put(h:jE)(b:Nat)(k:eh)(b':Nat):(h.put b k).get b'=if b=b' then k else h.get b':=by
 unfold jE.get jE.put;rw[SG]
 by_cases a:Nat.div b 4096=Nat.div b' 4096
 .rw[bh a,Ym _ _ _ _ a,a]
 .rw[bH a,bH (by rintro rfl;exact a rfl)]
theorem Mem.eP(m:Mem)(b:Nat)(k:eh)(b':Nat):(m.bB b k).blk b'=if b=b' then{k with bq:=m.tick}else m.blk b':=jE.get_put ..
theorem Mem.cC(m:Mem)(k:eh)(b':Nat):(m.alloc k).blk b'=if m.next=b' then{k with bq:=m.tick}else m.blk b':=jE.get_put ..
section
variable (m:Mem)(b:Nat)(k:eh)
@[simp] theorem Mem.adL:(m.bB b k).next=m.next:=rfl
@[simp] theorem Mem.adJ:(m.bB b k).tick=m.tick+1:=rfl
@[simp] theorem Mem.adO:(m.bB b k).base=m.base:=rfl
@[simp] theorem Mem.adM:(m.bB b k).home=m.home:=rfl
@[simp] theorem Mem.Z8:(m.bB b k).floor=m.floor:=rfl
@[simp] theorem Mem.afc:(m.bB b k).opn=m.opn:=rfl
@[simp] theorem Mem.NK:(m.bB b k).bI=m.bI:=rfl
@[simp] theorem Mem.aiz:(m.bB b k).wg=m.wg:=rfl
@[simp] theorem Mem.adK:(m.bB b k).pend=m.pend:=rfl
@[simp] theorem Mem.adN:(m.bB b k).deaf=m.deaf:=rfl
@[simp] theorem Mem.aid:(m.alloc k).next=m.next+1:=rfl
@[simp] theorem Mem.aib:(m.alloc k).tick=m.tick+1:=rfl
@[simp] theorem Mem.aih:(m.alloc k).base=m.base:=rfl
@[simp] theorem Mem.aie:(m.alloc k).home=m.home:=rfl
@[simp] theorem Mem.aeO:(m.alloc k).floor=m.floor:=rfl
@[simp] theorem Mem.aiA:(m.alloc k).opn=m.opn:=rfl
@[simp] theorem Mem.aiB:(m.alloc k).bI=m.bI:=rfl
@[simp] theorem Mem.anI:(m.alloc k).wg=m.wg:=rfl
@[simp] theorem Mem.aic:(m.alloc k).pend=m.pend:=rfl
@[simp] theorem Mem.aif:(m.alloc k).deaf=m.deaf:=rfl
end
theorem sr {l}{n:Nat}{vs}(h:gG l n=Z vs):vs.length=n/\∀i:Nat,i<n->∃v,l[i]?=Z (Z v)/\vs[i]?=Z v:=by
 induction n generalizing l vs with
 |zero=>
  have :vs=[]:=by cases l<;>simpa[gG]using h.symm
  subst this;exact⟨rfl,λi c=>by omega⟩
 |succ n a=>
  cases l with
  |nil=>simp[gG]at h
  |cons x l=>cases x with
   |none=>simp[gG]at h
   |some v=>
    simp only[gG,aD]at h;obtain⟨r,b,rfl⟩:=h;obtain⟨e,d⟩:=a b;refine⟨by simp[e],λi c=>?_⟩;cases i with
    |zero=>exact⟨v,dA,dA⟩
    |succ i=>simpa using d i ai
theorem nu {l}{o:Nat}{vs b}(h:eU l o vs=Z b):
  b.length=l.length/\(∀i:Nat,b[i]?=if o<=i/\i<o+vs.length then(vs[i-o]?).map Z else l[i]?)/\(∀i:Nat,i<vs.length->∃v,l[o+i]?=Z (Z v)):=by
 induction l generalizing o vs b with
 |nil=>
  cases vs with
  |nil=>
   simp[eU]at h;subst h;exact⟨rfl,λi=>by simp,λi a=>by simp at a⟩
  |cons v vs=>cases o<;>simp[eU]at h
 |cons x l j=>
  cases vs with
  |nil=>
   simp[eU]at h;subst h;refine⟨rfl,λi=>?_,λi a=>by simp at a⟩;simp;omega
  |cons v vs=>
   cases o with
   |zero=>
    cases x with
    |none=>simp[eU]at h
    |some u=>
     simp only[eU,aD]at h;obtain⟨r,c,rfl⟩:=h;obtain⟨g,f,d⟩:=j c;refine⟨by simp[g],λi=>?_,λi a=>?_⟩
     .cases i with
      |zero=>simp
      |succ i=>
       have :=f i;simp only[Nat.zero_le,true_and,Nat.zero_add,Nat.sub_zero]at this;simp only[List.getElem?_cons_succ,this,Nat.zero_le,true_and,Nat.zero_add,List.length_cons,Nat.add_lt_add_iff_right,Nat.sub_zero]
     .cases i with
      |zero=>exact⟨u,dA⟩
      |succ i=>simpa using d i (by simpa using a)
   |succ o=>
    simp only[eU,aD]at h;obtain⟨r,c,rfl⟩:=h;obtain⟨g,f,d⟩:=j c;refine⟨by simp[g],λi=>?_,λi a=>?_⟩
    .cases i with
     |zero=>simp
     |succ i=>
      have :=f i;have e:(o+1<=i+1/\i+1<o+1+(v::vs).length)=(o<=i/\i<o+(v::vs).length):=propext ⟨λh=>⟨ai,ai⟩,λh=>⟨ai,ai⟩⟩;simp only[List.getElem?_cons_succ,this,e,Nat.add_sub_add_right]
    .obtain⟨u,k⟩:=d i a;exact⟨u,by rw[show o+1+i=(o+i)+1 by omega];simpa using k⟩
def Mem.cell(m:Mem)(b o:Nat):Option ab:=if(m.blk b).kind=1/\bL m.bI b o=O then((m.blk b).cs[o]?).join else Y
def Mem.px(m:Mem)(b o:Nat):Prop:=(m.blk b).kind=1/\bL m.bI b o=O/\(o<(m.blk b).cs.length->∃v,(m.blk b).cs[o]?=Z (Z v))
def Mem.okW(m:Mem)(b o:Nat):Prop:=m.px b o/\(m.floor<=b\/bL m.opn b o=U)
theorem Mem.eW{m:Mem}{b o:Nat}{v}(h:m.cell b o=Z v):m.px b o:=by
 unfold Mem.cell at h
 split at h
 .rename_i a;refine⟨a.1,a.2,λ_=>?_⟩;cases c:(m.blk b).cs[o]? with
  |none=>simp[c]at h
  |some x=>cases x with
   |none=>simp[c]at h
   |some u=>exact⟨u,rfl⟩
 .cases h
theorem y5 {l}{b o n:Nat}(h:meets l b o n=O){i:Nat}(hi:i<n):bL l b (o+i)=O:=by
 unfold meets bL at*;rw[List.any_eq_false]at*;intro s e;have :=h s e;intro a;apply this;simp only[ag]at a⊢;refine⟨a.1,?_⟩;cases d:s.2.2 with
 |none=>rfl
 |some y=>
  have c:=a.2;rw[d]at c;simp at c;simp;omega
theorem eH {l}{b:Nat}(h:aP l b=O)(o:Nat):bL l b o=O:=by
 unfold aP bL at*;rw[List.any_eq_false]at*;intro s c;have :=h s c;intro a;apply this;simp only[ag]at a⊢;exact a.1
theorem gV {l}{b:Nat}(h:aP l b=O)(o n:Nat):meets l b o n=O:=by
 unfold aP meets at*;rw[List.any_eq_false]at*;intro s c;have :=h s c;intro a;apply this;simp only[ag]at a⊢;exact a.1
theorem kQ {l}{b:Nat}(h:ix l b=U)(o:Nat):bL l b o=U:=by
 unfold ix bL at*;rw[List.any_eq_true]at*;obtain⟨s,c,a⟩:=h;refine⟨s,c,?_⟩;simp only[ag]at a⊢;refine⟨a.1,?_⟩;have :=a.2;cases d:s.2.2<;>simp_all
theorem Mem.qV{m:Mem}{b o n:Nat}{vs:List ab}(h:m.dP b o n=Z vs):
  (m.blk b).kind=1/\vs.length=n/\∀i:Nat,i<n->∃v,vs[i]?=Z v/\m.cell b (o+i)=Z v:=by
 unfold Mem.dP at h;simp only[]at h
 split at h
 .rename_i a;simp only[ag,beq_iff_eq,Bool.not_eq_true']at a;obtain⟨f,e⟩:=sr h;refine⟨a.1,f,λi d=>?_⟩;obtain⟨v,c,g⟩:=e i d;refine⟨v,g,?_⟩;unfold Mem.cell;rw[bh ⟨a.1,y5 a.2 d⟩];rw[List.getElem?_drop]at c;simp[c]
 .cases h
theorem Mem.sD{m:Mem}{b o n:Nat}(h:m.dh b o n=U){i:Nat}(hi:i<n):bL m.bI b (o+i)=O/\(m.floor<=b\/bL m.opn b (o+i)=U):=by
 unfold Mem.dh at h;simp only[ag,Bool.not_eq_true',Bool.or_eq_true,iU]at h;refine⟨y5 h.1.1 hi,?_⟩;rcases h.2 with(a|a)|a
 .exact .inl a
 .exact .inr (kQ a _)
 .rw[aB]at a;exact .inr (a i (by simpa using hi))
theorem Mem.lM{m:Mem}{b o n:Nat}(h:m.dh b o n=U):m.base<=b:=by
 unfold Mem.dh at h;simp only[ag,iU]at h;exact h.1.2
theorem Mem.nG{m:Mem}{b:Nat}(h:m.fL b=U):aP m.bI b=O/\(m.floor<=b\/ix m.opn b=U):=by
 unfold Mem.fL at h;simp only[ag,Bool.not_eq_true',Bool.or_eq_true,iU]at h;exact⟨h.1.1,h.2⟩
theorem Mem.tW{m:Mem}{b:Nat}(h:m.fL b=U):m.base<=b:=by
 unfold Mem.fL at h;simp only[ag,iU]at h;exact h.1.2
theorem Mem.rN{m:Mem}{b o:Nat}{vs m'}(h:m.dW b o vs=Z m'):
  ∃c,m'=m.bB b {m.blk b with cs:=c}/\(m.blk b).kind=1/\m.dh b o vs.length=U/\eU (m.blk b).cs o vs=Z c/\∀v∈vs,v.oneCell'=U:=by
 unfold Mem.dW at h;simp only[]at h
 split at h
 .rename_i a;simp only[ag,beq_iff_eq]at a;rw[aD]at h;obtain⟨c,e,rfl⟩:=h;exact⟨c,rfl,a.1.1,a.1.2,e,λv d=>aB.1 a.2 v d⟩
 .cases h
structure Perm where
 rd:Nat->Nat->Prop
 wr:Nat->Nat->Prop
 ob:Nat->Prop
 deaf:Nat
def IW:Mark->Prop
 | .disable| .enable| .release _| .read _| .write _=>False
 |_=>True
def dY {α:Type}(P:aE)(R:Perm)(N:Nat):Sem α->(α->ar->Prop)->ar->Prop
 | .pure a,Q,w=>Q a w
 | .load m a k,Q,w=>∃v,w.cell? a=Z v/\R.rd a.block a.off/\dY P R N (k v) Q w
 | .store m a v k,Q,w=>v.oneCell'=U/\(∃u,w.cell? a=Z u)/\w.frozen? a=O/\R.wr a.block a.off/\dY P R N k Q (w.setCell a v)
 | .new o k,Q,w=>dY P R N (k w.heap.size) Q {w with heap:=w.heap.push o}
 | .shape r k,Q,w=>dY P R N (k (w.shape? r)) Q w
 | .freeze a n k,Q,w=>N<=a.block/\dY P R N k Q (w.freeze a n)
 | .frozen a k,Q,w=>dY P R N (k (w.frozen? a)) Q w
 | .getObj r k,Q,w=>∃o,w.heap[r]?=Z o/\(∀C t f,o≠ .cells C t f)/\o.isChan=O/\R.ob r/\dY P R N (k o) Q w
 | .setObj r o k,Q,w=>(∃o',w.heap[r]?=Z o'/\∀C t f,o'≠ .cells C t f)/\(∀C t f,o≠ .cells C t f)/\o.isChan=O/\R.ob r/\dY P R N k Q {w with heap:=w.heap.setIfInBounds r o}
 | .choose q k,Q,w=>dY P R N (k (if q.forced then 0 else q.cut (w.tape w.drawn q))) Q (if q.forced then w else{w with drawn:=w.drawn+1})
 | .sys _ _,_,_=>False
 | .program k,Q,w=>dY P R N (k P) Q w
 | .mark m k,Q,w=>IW m/\dY P R N k Q w
 | .halt _,_,_=>False
theorem au {α d:Type}{P R}{N:Nat}(x:Sem α)(f:α->Sem d)(Q:d->ar->Prop)(w:ar):
  dY P R N (x>>=f) Q w↔dY P R N x (λa e=>dY P R N (f a) Q e) w:=by
 show dY P R N (x.bind f) Q w↔ _
 induction x generalizing w with
 |pure a=>exact Iff.rfl
 |load m a k b=>simp only[Sem.bind,dY,b]
 |store m a v k b=>simp only[Sem.bind,dY,b]
 |new o k b=>simp only[Sem.bind,dY,b]
 |shape r k b=>simp only[Sem.bind,dY,b]
 |freeze a n k b=>simp only[Sem.bind,dY,b]
 |frozen a k b=>simp only[Sem.bind,dY,b]
 |getObj r k b=>simp only[Sem.bind,dY,b]
 |setObj r o k b=>simp only[Sem.bind,dY,b]
 |choose q k b=>simp only[Sem.bind,dY,b]
 |sys c k b=>simp only[Sem.bind,dY]
 |program k b=>simp only[Sem.bind,dY,b]
 |mark m k b=>simp only[Sem.bind,dY,b]
 |halt h=>simp only[Sem.bind,dY]
theorem Ln {α:Type}{P:aE}{R:Perm}{N:Nat}{x:Sem α}{Q Q':α->ar->Prop}{w:ar}(h:dY P R N x Q w)(g:∀a w,Q a w->Q' a w):dY P R N x Q' w:=by
 induction x generalizing w with
 |pure a=>exact g _ _ h
 |load m a k b=>obtain⟨v,f,e,d⟩:=h;exact⟨v,f,e,b _ d⟩
 |store m a v k b=>exact⟨h.1,h.2.1,h.2.2.1,h.2.2.2.1,b h.2.2.2.2⟩
 |new o k b=>exact b _ h
 |shape r k b=>exact b _ h
 |freeze a n k b=>exact⟨h.1,b h.2⟩
 |frozen a k b=>exact b _ h
 |getObj r k b=>obtain⟨o,f,e,d,j,i⟩:=h;exact⟨o,f,e,d,j,b _ i⟩
 |setObj r o k b=>exact⟨h.1,h.2.1,h.2.2.1,h.2.2.2.1,b h.2.2.2.2⟩
 |choose q k b=>exact b _ h
 |sys c k b=>exact h
 |program k b=>exact b _ h
 |mark m k b=>exact⟨h.1,b h.2⟩
 |halt l=>exact h
def OY (w:ar)(a:Addr):Option (Nat×Nat):=match w.heap[a.block]? with
 |some (.cells _ _ r)=>Z r
 |_=>Y
theorem vz {w w' a}(h:OY w' a=OY w a):w'.frozen? a=w.frozen? a:=by
 have e:∀w:ar,w.frozen? a=match OY w a with |some (b,c)=>decide (b<=a.off)&&decide (a.off<c)|none=>O:=by
  intro w;unfold ar.frozen? OY;cases w.heap[a.block]? with
  |none=>rfl
  |some o=>cases o<;>rfl
 rw[e,e,h]
structure uW (R:Perm)(N:Nat)(w w':ar):Prop where
 tape:w'.tape=w.tape
 os:w'.os=w.os
 output:w'.output=w.output
 size:w.heap.size<=w'.heap.size
 shape:∀b,b<N->w'.shape? b=w.shape? b
 cell:∀b o,b<N->¬R.wr b o->w'.cell? ⟨b,o,Y⟩=w.cell? ⟨b,o,Y⟩
 sE:∀b o,b<N->OY w' ⟨b,o,Y⟩=OY w ⟨b,o,Y⟩
 obj:∀b,b<N->¬R.ob b->(w.shape? b)=Y->w'.heap[b]?=w.heap[b]?
theorem uW.refl(R:Perm)(N:Nat)(w:ar):uW R N w w:=⟨rfl,rfl,rfl,aj _,λ_ _=>rfl,λ_ _ _ _=>rfl,λ_ _ _=>rfl,λ_ _ _ _=>rfl⟩
theorem uW.trans{R}{N:Nat}{w aR c}(h:uW R N w aR)(k:uW R N aR c):uW R N w c:=
 ⟨k.tape.trans h.tape,k.os.trans h.os,k.output.trans h.output,bV h.size k.size,λb a=>(k.shape b a).trans (h.shape b a),λb o a d=>(k.cell b o a d).trans (h.cell b o a d),
  λb o a=>(k.sE b o a).trans (h.sE b o a),λb a f e=>(k.obj b a f (by rw[h.shape b a];exact e)).trans (h.obj b a f e)⟩
def pH (R:Perm)(e:Event):Prop:=
 match e.loc with
 | .cell a=>a.spot=Y/\(if e.write then R.wr a.block a.off else R.rd a.block a.off)
 | .obj r=>R.ob r/\e.sync=O
 | .mark m=>IW m
 |_=>False
theorem sw (w:ar)(a:Addr)(v:ab)(b:Nat):(w.setCell a v).shape? b=w.shape? b:=by
 unfold ar.shape? ar.setCell;simp only[Array.getElem?_modify]
 by_cases h:a.block=b
 .subst h;cases hb:w.heap[a.block]? with
  |none=>simp
  |some o=>cases o with
   |cells c e f=>simp only[if_true,dk];split<;>simp
   |_=>simp
 .simp[h]
theorem iJ (w:ar)(a:Addr)(v:ab)(b o:Nat)(j:a.spot=Y):(w.setCell a v).cell? ⟨b,o,Y⟩=if a.block=b/\a.off=o/\(w.cell? ⟨b,o,Y⟩).isSome then Z v else w.cell? ⟨b,o,Y⟩:=by
 unfold ar.cell? ar.setCell;simp only[Array.getElem?_modify,j,Option.isSome_none,cK,if_false]
 by_cases h:a.block=b
 .subst h;cases hb:w.heap[a.block]? with
  |none=>simp
  |some i=>cases i with
   |cells c e f=>
    simp only[if_true,dk,Array.getElem?_setIfInBounds]
    by_cases g:a.off=o
    .subst g
     by_cases d:a.off<c.size
     .simp[d]
     .simp[d]
    .simp[g]
   |_=>simp
 .simp[h]
theorem qo (w:ar)(a:Addr)(v:ab)(b o:Nat):OY (w.setCell a v) ⟨b,o,Y⟩=OY w ⟨b,o,Y⟩:=by
 unfold OY ar.setCell;simp only[Array.getElem?_modify]
 by_cases h:a.block=b
 .subst h;cases hb:w.heap[a.block]? with
  |none=>simp
  |some c=>cases c<;>simp
 .simp[h]
theorem yN {w:ar}{a v}(h:w.cell? a=Z v):a.spot=Y:=by
 unfold ar.cell? at h
 split at h
 .split at h
  .cases h
  .rename_i b;simpa using b
 .cases h
theorem oC {α:Type}{P:aE}{R:Perm}{N:Nat}{x:Sem α}{Q:α->ar->Prop}{w:ar}(E:N<=w.heap.size)(h:dY P R N x Q w):
  ∃a p,x.run P w=.ok a p/\Q a p/\uW R N w p/\∀d,∃l:List Event,x.events P w d=d++l.toArray/\∀e∈l,pH R e:=by
 induction x generalizing w with
 |pure a=>exact⟨a,w,rfl,h,uW.refl ..,λd=>⟨[],by simp[Sem.events,Sem.runT,-Sem.runT_eq],dA⟩⟩
 |load m a k j=>
  obtain⟨v,g,B,G⟩:=h;obtain⟨x,p,t,A,z,y⟩:=j v E G;refine⟨x,p,by simp only[Sem.run,g];exact t,A,z,λd=>?_⟩;obtain⟨l,C,D⟩:=y (d.push ⟨.cell a,O,m== .atomic⟩);refine⟨⟨.cell a,O,m== .atomic⟩::l,?_,?_⟩
  .have :(Sem.load m a k).events P w d=(k v).events P w (d.push ⟨.cell a,O,m== .atomic⟩):=by simp only[Sem.events,Sem.runT,g]
   rw[this,C];simp
  .intro e s;rcases aN.1 s with rfl|s
   .exact⟨yN g,B⟩
   .exact D e s
 |store m a v k j=>
  obtain⟨h0,⟨u,g⟩,B,G,L⟩:=h;have hs:=yN g;obtain⟨x,p,t,A,z,y⟩:=j (w:=w.setCell a v) (by simpa[ar.setCell]using E) L;have S:(Sem.store m a v k).run P w=k.run P (w.setCell a v):=by
   cases v<;>first |(simp[ab.oneCell']at h0;done)|simp only[Sem.run,g,B,cK,if_false]
  have T:∀d,(Sem.store m a v k).events P w d=k.events P (w.setCell a v) (d.push ⟨.cell a,U,m== .atomic⟩):=by
   intro d;cases v<;>first |(simp[ab.oneCell']at h0;done)|simp only[Sem.events,Sem.runT,g,B,cK,if_false]
  refine⟨x,p,by rw[S];exact t,A,?_,λd=>?_⟩
  .refine uW.trans ?_ z;refine⟨rfl,rfl,rfl,by simp[ar.setCell],λb _=>sw ..,λb o _ hw=>?_,λb o _=>qo ..,λb _ _ gh=>?_⟩
   .rw[iJ _ _ _ _ _ hs,bH];rintro⟨rfl,rfl,_⟩;exact hw G
   .have Ay:a.block≠b:=by
     rintro rfl;unfold ar.cell? at g;unfold ar.shape? at gh
     split at g
     .rename_i hh;simp[hh]at gh
     .cases g
    unfold ar.setCell;simp only[Array.getElem?_modify,Ay,if_false]
  .obtain⟨l,C,D⟩:=y (d.push ⟨.cell a,U,m== .atomic⟩);refine⟨⟨.cell a,U,m== .atomic⟩::l,by rw[T,C];simp,?_⟩;intro e s;rcases aN.1 s with rfl|s
   .exact⟨hs,G⟩
   .exact D e s
 |new o k j=>
  obtain⟨x,p,t,A,z,y⟩:=j w.heap.size (w:={w with heap:=w.heap.push o}) (by simp;omega) h;refine⟨x,p,t,A,uW.trans ?_ z,y⟩;have F:∀b,b<N->(w.heap.push o)[b]?=w.heap[b]?:=λb f=>by rw[Array.getElem?_push_lt ai];simp[aZ f E]
  refine⟨rfl,rfl,rfl,dA,λb f=>?_,λb o f _=>?_,λb o f=>?_,λb f _ _=>F b f⟩
  .unfold ar.shape?;simp only[F b f]
  .unfold ar.cell?;simp only[F b f]
  .unfold OY;simp only[F b f]
 |shape r k j=>exact j _ E h
 |freeze a n k j=>
  obtain⟨g,B⟩:=h;obtain⟨x,p,t,A,z,y⟩:=j (w:=w.freeze a n) (by unfold ar.freeze;split<;>simpa using E) B;refine⟨x,p,t,A,uW.trans ?_ z,y⟩;have F:∀b,b<N->(w.freeze a n).heap[b]?=w.heap[b]?:=λb f=>by
   unfold ar.freeze
   split
   .rfl
   .simp only[Array.getElem?_modify];rw[bH ai]
  have X:(w.freeze a n).tape=w.tape/\(w.freeze a n).os=w.os/\(w.freeze a n).output=w.output/\w.heap.size<=(w.freeze a n).heap.size:=by
   unfold ar.freeze;split<;>simp
  refine⟨X.1,X.2.1,X.2.2.1,X.2.2.2,λb f=>?_,λb o f _=>?_,λb o f=>?_,λb f _ _=>F b f⟩
  .unfold ar.shape?;simp only[F b f]
  .unfold ar.cell?;simp only[F b f]
  .unfold OY;simp only[F b f]
 |frozen a k j=>exact j _ E h
 |getObj r k j=>
  obtain⟨o,g,B,G,L,h5⟩:=h;obtain⟨x,p,t,A,z,y⟩:=j o E h5;have S:(Sem.getObj r k).run P w=(k o).run P w:=by
   cases o<;>first |(simp only[Sem.run,g];done)|exact absurd rfl (B _ _ _)
  have T:∀d,(Sem.getObj r k).events P w d=(k o).events P w (d.push ⟨.obj r,O,o.isChan⟩):=by
   intro d;cases o<;>first |(simp only[Sem.events,Sem.runT,g];done)|exact absurd rfl (B _ _ _)
  refine⟨x,p,by rw[S];exact t,A,z,λd=>?_⟩;obtain⟨l,C,D⟩:=y (d.push ⟨.obj r,O,o.isChan⟩);refine⟨⟨.obj r,O,o.isChan⟩::l,by rw[T,C];simp,?_⟩;intro e s;rcases aN.1 s with rfl|s
  .exact⟨L,G⟩
  .exact D e s
 |setObj r o k j=>
  obtain⟨⟨M,g,V⟩,B,G,L,h5⟩:=h;obtain⟨x,p,t,A,z,y⟩:=j (w:={w with heap:=w.heap.setIfInBounds r o}) (by simpa using E) h5;have S:(Sem.setObj r o k).run P w=k.run P {w with heap:=w.heap.setIfInBounds r o}:=by
   cases M<;>first |(simp only[Sem.run,g];done)|exact absurd rfl (V _ _ _)
  have T:∀d,(Sem.setObj r o k).events P w d=k.events P {w with heap:=w.heap.setIfInBounds r o} (d.push ⟨.obj r,U,o.isChan⟩):=by
   intro d;cases M<;>first |(simp only[Sem.events,Sem.runT,g];done)|exact absurd rfl (V _ _ _)
  have hrl:r<w.heap.size:=by
   rcases Nat.lt_or_ge r w.heap.size with h|h
   .exact h
   .simp[Array.getElem?_eq_none h]at g
  have W:∀b,b≠r->(w.heap.setIfInBounds r o)[b]?=w.heap[b]?:=λb f=>Array.getElem?_setIfInBounds_ne (Ne.symm f)
  have J:(w.heap.setIfInBounds r o)[r]?=Z o:=by simp[hrl]
  refine⟨x,p,by rw[S];exact t,A,uW.trans ?_ z,λd=>?_⟩
  .refine⟨rfl,rfl,rfl,dA,λb f=>?_,λb i f _=>?_,λb i f=>?_,λb f ho _=>?_⟩
   .unfold ar.shape?
    by_cases H:b=r
    .subst H;simp only[J,g];cases o<;>first |exact absurd rfl (B _ _ _)|(cases M<;>first |exact absurd rfl (V _ _ _)|rfl)
    .simp only[W b H]
   .unfold ar.cell?
    by_cases H:b=r
    .subst H;simp only[J,g];cases o<;>first |exact absurd rfl (B _ _ _)|(cases M<;>first |exact absurd rfl (V _ _ _)|rfl)
    .simp only[W b H]
   .unfold OY
    by_cases H:b=r
    .subst H;simp only[J,g];cases o<;>first |exact absurd rfl (B _ _ _)|(cases M<;>first |exact absurd rfl (V _ _ _)|rfl)
    .simp only[W b H]
   .exact W b (by rintro rfl;exact ho L)
  .obtain⟨l,C,D⟩:=y (d.push ⟨.obj r,U,o.isChan⟩);refine⟨⟨.obj r,U,o.isChan⟩::l,by rw[T,C];simp,?_⟩;intro e s;rcases aN.1 s with rfl|s
   .exact⟨L,G⟩
   .exact D e s
 |choose q k j=>
  obtain⟨x,p,t,A,z,y⟩:=j _ (w:=if q.forced then w else{w with drawn:=w.drawn+1}) (by split<;>exact E) h
  by_cases K:q.forced=U
  .simp only[K,if_true]at t z y;refine⟨x,p,by simp only[Sem.run,K,if_true];exact t,A,z,λd=>?_⟩;obtain⟨l,C,D⟩:=y d;exact⟨l,by rw[<-C];simp only[Sem.events,Sem.runT,K,if_true],D⟩
  .simp only[K,cK,if_false]at t z y;refine⟨x,p,by simp only[Sem.run,K,cK,if_false];exact t,A,uW.trans (aR:={w with drawn:=w.drawn+1}) ⟨rfl,rfl,rfl,aj _,λ_ _=>rfl,λ_ _ _ _=>rfl,λ_ _ _=>rfl,λ_ _ _ _=>rfl⟩ z,λd=>?_⟩;obtain⟨l,C,D⟩:=y d;exact⟨l,by rw[<-C];simp only[Sem.events,Sem.runT,K,cK,if_false],D⟩
 |sys c k j=>exact h.elim
 |program k j=>exact j _ E h
 |mark m k j=>
  obtain⟨g,B⟩:=h;obtain⟨x,p,t,A,z,y⟩:=j E B;refine⟨x,p,t,A,z,λd=>?_⟩;obtain⟨l,C,D⟩:=y (d.push ⟨.mark m,O,U⟩);refine⟨⟨.mark m,O,U⟩::l,?_,?_⟩
  .have :(Sem.mark m k).events P w d=k.events P w (d.push ⟨.mark m,O,U⟩):=by simp only[Sem.events,Sem.runT]
   rw[this,C];simp
  .intro e s;rcases aN.1 s with rfl|s
   .exact g
   .exact D e s
 |halt h'=>exact h.elim
def zO (ρ:dz)(e e':MapEntry):Prop:=aV ρ e.key e'.key/\aV ρ e.val e'.val/\e'.born=e.born
structure gq (ρ:dz)(m:Mem)(w:ar):Prop where
 oe:∀b p,ρ b=Z p->b<m.next
 cells:∀b p,ρ b=Z p->(m.blk b).kind=1->p.sz=(m.blk b).sz/\(m.blk b).cs.length<=p.room/\∃e n,w.shape? p.c=Z (e,n)/\p.d+p.room<=n
 lZ:∀b p o v,ρ b=Z p->m.cell b o=Z v->∃v',w.cell? ⟨p.c,p.d+o,Y⟩=Z v'/\aV ρ v v'
 thaw:∀b p o,ρ b=Z p->o<p.room->(m.blk b).kind=1->m.base<=b->w.frozen? ⟨p.c,p.d+o,Y⟩=O
 maps:∀b p,ρ b=Z p->(m.blk b).kind=2->m.bQ b=U->∃mT,w.heap[p.c]?=Z (.map mT (m.blk b).clock)/\bP (zO ρ) (m.blk b).es.toList mT.toList
 mJ:∀b p,ρ b=Z p->(m.blk b).kind=3->m.bQ b=U->p.d=0/\w.heap[p.c]?=Z (.stringIter (m.blk b).str (m.blk b).pos)
 sep:∀b b' p p',b≠b'->ρ b=Z p->ρ b'=Z p'->(m.blk b).kind≠0->(m.blk b').kind≠0->p.c=p'.c->(m.blk b).kind=1/\(m.blk b').kind=1/\(p.room=0\/p'.room=0\/p.d+p.room<=p'.d\/p'.d+p'.room<=p.d)
 sX:∀b p,ρ b=Z p->p.c<w.heap.size
 vars:∀b p,ρ b=Z p->(m.blk b).kind=1->(m.blk b).pos=1->p.d=0
def az (ρ:dz)(m:Mem):Perm where
 rd c x:=∃b p,ρ b=Z p/\p.c=c/\p.d<=x/\x<p.d+p.room/\m.px b (x-p.d)
 wr c x:=∃b p,ρ b=Z p/\p.c=c/\p.d<=x/\x<p.d+p.room/\m.okW b (x-p.d)
 ob c:=∃b p,ρ b=Z p/\p.c=c/\((m.blk b).kind=2\/(m.blk b).kind=3)/\m.bQ b=U
 deaf:=m.deaf
theorem nz {ρ m}{c x:Nat}(h:(az ρ m).wr c x):(az ρ m).rd c x:=by
 obtain⟨b,p,g,f,e,d,a⟩:=h;exact⟨b,p,g,f,e,d,a.1⟩
structure bC (R:Perm)(w aR:ar):Prop where
 tape:aR.tape=w.tape
 os:aR.os=w.os
 output:aR.output=w.output
 size:w.heap.size<=aR.heap.size
 shape:∀b,b<w.heap.size->aR.shape? b=w.shape? b
 cell:∀b o,R.rd b o->aR.cell? ⟨b,o,Y⟩=w.cell? ⟨b,o,Y⟩
 sE:∀b o,b<w.heap.size->OY aR ⟨b,o,Y⟩=OY w ⟨b,o,Y⟩
 obj:∀b,R.ob b->aR.heap[b]?=w.heap[b]?
theorem bC.refl(R:Perm)(w:ar):bC R w w:=⟨rfl,rfl,rfl,aj _,λ_ _=>rfl,λ_ _ _=>rfl,λ_ _ _=>rfl,λ_ _=>rfl⟩
theorem bC.trans{R w aR a}(h:bC R w aR)(k:bC R aR a):bC R w a:=
 ⟨k.tape.trans h.tape,k.os.trans h.os,k.output.trans h.output,bV h.size k.size,λb c=>(k.shape b (aZ c h.size)).trans (h.shape b c),
  λb o x=>(k.cell b o x).trans (h.cell b o x),λb o x=>(k.sE b o (aZ x h.size)).trans (h.sE b o x),λb x=>(k.obj b x).trans (h.obj b x)⟩
theorem bC.at(R:Perm)(w:ar)(d:Nat):bC R w {w with drawn:=d}:=⟨rfl,rfl,rfl,aj _,λ_ _=>rfl,λ_ _ _=>rfl,λ_ _ _=>rfl,λ_ _=>rfl⟩
section
variable {ρ:dz}{m:Mem}{w aR:ar}
theorem jw (h:gq ρ m w){b:Nat}{p}(d:ρ b=Z p){o:Nat}{v}(a:m.cell b o=Z v):o<p.room:=by
 have e:=(Mem.eW a).1;obtain⟨_,f,_⟩:=h.cells b p d e;unfold Mem.cell at a
 split at a
 .rcases Nat.lt_or_ge o (m.blk b).cs.length with g|c
  .omega
  .simp[List.getElem?_eq_none c]at a
 .cases a
theorem DK (h:gq ρ m w){b:Nat}{p}(a:ρ b=Z p){o:Nat}{v}(e:m.cell b o=Z v):(az ρ m).rd p.c (p.d+o):=
 ⟨b,p,a,rfl,ai,by have :=jw h a e;omega,by rw[Nat.add_sub_cancel_left];exact Mem.eW e⟩
theorem zV {b:Nat}{p}(e:ρ b=Z p){o:Nat}(f:o<p.room)(a:m.okW b o):(az ρ m).wr p.c (p.d+o):=
 ⟨b,p,e,rfl,ai,ai,by rw[Nat.add_sub_cancel_left];exact a⟩
theorem gq.keeps(h:gq ρ m w)(k:bC (az ρ m) w aR):gq ρ m aR where
 oe:=h.oe
 cells b p a c:=by
  obtain⟨g,f,e,n,r,q⟩:=h.cells b p a c;exact⟨g,f,e,n,by rw[k.shape _ (h.sX b p a)];exact r,q⟩
 lZ b p o v a i:=by
  obtain⟨j,g,f⟩:=h.lZ b p o v a i;exact⟨j,by rw[k.cell _ _ (DK h a i)];exact g,f⟩
 thaw b p o a d c hb:=by rw[vz (k.sE _ _ (h.sX b p a))];exact h.thaw b p o a d c hb
 maps b p a c d:=by
  obtain⟨l,g,f⟩:=h.maps b p a c d;exact⟨l,by rw[k.obj _ ⟨b,p,a,rfl,.inl c,d⟩];exact g,f⟩
 mJ b p a c d:=by
  obtain⟨g,f⟩:=h.mJ b p a c d;exact⟨g,by rw[k.obj _ ⟨b,p,a,rfl,.inr c,d⟩];exact f⟩
 sep:=h.sep
 sX b p a:=aZ (h.sX b p a) k.size
 vars:=h.vars
structure eZ (R R':Perm)(N:Nat):Prop where
 rd:∀b o,R'.rd b o->R.rd b o\/N<=b
 wr:∀b o,R'.wr b o->R.wr b o\/N<=b
 ob:∀b,R'.ob b->R.ob b\/N<=b
theorem eZ.refl(R:Perm)(N:Nat):eZ R R N:=⟨λ_ _=> .inl,λ_ _=> .inl,λ_=> .inl⟩
theorem gq.BC(h:gq ρ m w){b:Nat}{p}(e:ρ b=Z p){o:Nat}{vs}{n:Nat}(j:m.dP b o n=Z vs){i:Nat}(hi:i<n):
  ∃v a,vs[i]?=Z v/\aV ρ v a/\w.cell? ⟨p.c,p.d+(o+i),Y⟩=Z a/\(az ρ m).rd p.c (p.d+(o+i)):=by
 obtain⟨_,_,k⟩:=Mem.qV j;obtain⟨v,g,f⟩:=k i hi;obtain⟨a,q,l⟩:=h.lZ b p _ v e f;exact⟨v,a,g,l,q,DK h e f⟩
theorem jL (c d i:Nat):(⟨c,d,Y⟩:Addr).add i=⟨c,d+i,Y⟩:=by
 unfold Addr.add
 split
 .rename_i h;subst h;rfl
 .rfl
theorem DX {P}{R:Perm}{N:Nat}{a b Q v}(h:w.cell? a=Z v)(c:R.rd a.block a.off)(d:Q v w):dY P R N (Go.load a b) Q w:=⟨v,h,c,d⟩
theorem rU {P}{R:Perm}{N:Nat}{a:Addr}{Q}:∀(n i:Nat) (acc:Array ab) (vs:List ab),
  (∀j:Nat,j<n->∃v,vs[j]?=Z v/\w.cell? (a.add (i+j))=Z v/\R.rd (a.add (i+j)).block (a.add (i+j)).off)->vs.length=n->Q (acc++vs.toArray) w->dY P R N (loadCellsFrom a i n acc) Q w
 |0,i,acc,vs,_,b,c=>by
  have :vs=[]:=List.eq_nil_of_length_eq_zero b;subst this
  show Q acc w
  simpa using c
 |n+1,i,acc,vs,h,b,c=>by
  obtain⟨v,d,g,f⟩:=h 0 ai;cases vs with
  |nil=>simp at b
  |cons x vs=>
   simp at d;subst d;simp only[loadCellsFrom];rw[au];refine DX (by simpa using g) (by simpa using f) ?_;refine rU n (i+1) (acc.push x) vs (λj o=>?_) (by simpa using b) (by simpa using c);obtain⟨u,m,l,k⟩:=h (j+1) ai;have e:i+1+j=i+(j+1):=ai;rw[e];exact⟨u,by simpa using m,l,k⟩
theorem gq.sx(h:gq ρ m w){P}{N:Nat}{b:Nat}{p}(B:ρ b=Z p){o n:Nat}{vs}(x:m.dP b o n=Z vs){Q}
  (A:∀f:List ab,bP (aV ρ) vs f->Q f.toArray w):dY P (az ρ m) N (loadCells ⟨p.c,p.d+o,Y⟩ n) Q w:=by
 obtain⟨_,hlen,_⟩:=Mem.qV x;have r:∃f:List ab,f.length=n/\∀i:Nat,i<n->∃v e,vs[i]?=Z v/\f[i]?=Z e/\aV ρ v e/\w.cell? ⟨p.c,p.d+(o+i),Y⟩=Z e/\(az ρ m).rd p.c (p.d+(o+i)):=by
  refine⟨(List.range n).map λi=>(w.cell? ⟨p.c,p.d+(o+i),Y⟩).getD undef,dA,λi k=>?_⟩;obtain⟨v,e,t,g,q,s⟩:=h.BC B x k;exact⟨v,e,t,by simp[k,q],g,q,s⟩
 obtain⟨f,z,u⟩:=r;unfold loadCells;refine rU n 0 #[] f (λj C=>?_) z ?_
 .obtain⟨v,e,_,g,_,s,D⟩:=u j C;rw[Nat.zero_add,jL];exact⟨e,g,by rw[Nat.add_assoc];exact s,by simpa[Nat.add_assoc]using D⟩
 .simp only[Array.empty_append];refine A f (bP.IQ (by rw[hlen,z]) λi a b l y=>?_);have k:i<n:=by
   rcases Nat.lt_or_ge i n with h|h
   .exact h
   .rw[List.getElem?_eq_none ai]at l;cases l
  obtain⟨v,e,t,g,q,_⟩:=u i k;rw[t]at l;rw[g]at y;cases l;cases y;exact q
structure B4 (w w':ar)(c d:Nat)(vs:List ab):Prop where
 tape:w'.tape=w.tape
 drawn:w'.drawn=w.drawn
 os:w'.os=w.os
 output:w'.output=w.output
 size:w'.heap.size=w.heap.size
 others:∀b,b≠c->w'.heap[b]?=w.heap[b]?
 shape:∀b,w'.shape? b=w.shape? b
 cell:∀x,w'.cell? ⟨c,x,Y⟩=if d<=x/\x<d+vs.length then vs[x-d]? else w.cell? ⟨c,x,Y⟩
 sE:∀b x,w'.frozen? ⟨b,x,Y⟩=w.frozen? ⟨b,x,Y⟩
theorem B4.Fh{w w'}{c d:Nat}{vs}(h:B4 w w' c d vs){b:Nat}(a:b≠c)(x:Nat):w'.cell? ⟨b,x,Y⟩=w.cell? ⟨b,x,Y⟩:=by
 unfold ar.cell?;simp only[h.others b a]
theorem RE (w:ar)(c d:Nat):B4 w w c d []:=⟨rfl,rfl,rfl,rfl,rfl,λ_ _=>rfl,λ_=>rfl,λx=>by simp;omega,λ_ _=>rfl⟩
theorem Nk {w w':ar}{c d:Nat}{v:ab}{vs:List ab}(f:(w.cell? ⟨c,d,Y⟩).isSome=U)(h:B4 (w.setCell ⟨c,d,Y⟩ v) w' c (d+1) vs):B4 w w' c d (v::vs) where
 tape:=h.tape
 drawn:=h.drawn
 os:=h.os
 output:=h.output
 size:=by rw[h.size];simp[ar.setCell]
 others b hb:=by
  rw[h.others b hb];unfold ar.setCell;simp only[Array.getElem?_modify,Ne.symm hb,if_false]
 shape b:=by rw[h.shape,sw]
 cell x:=by
  rw[h.cell,iJ _ _ _ _ _ rfl]
  by_cases e:d+1<=x/\x<d+1+vs.length
  .rw[bh e,bh ⟨ai,by simp;omega⟩];rw[show x-d=(x-(d+1))+1 by omega];simp
  .rw[bH e]
   by_cases a:d=x
   .subst a;rw[bh ⟨rfl,rfl,f⟩,bh ⟨ai,dA⟩];simp
   .rw[bH (by rintro⟨_,g,_⟩;exact a g),bH (by simp;omega)]
 sE b x:=by rw[h.sE,vz (qo ..)]
theorem qS {P:aE}{R:Perm}{N:Nat}{c d:Nat}{Q:Unit->ar->Prop}:∀(vs:List ab) (i:Nat) (w:ar),(∀v∈vs,v.oneCell'=U)->
  (∀j:Nat,j<vs.length->(w.cell? ⟨c,d+i+j,Y⟩).isSome=U/\w.frozen? ⟨c,d+i+j,Y⟩=O/\R.wr c (d+i+j))->(∀b,B4 w b c (d+i) vs->Q () b)->dY P R N (storeCells ⟨c,d,Y⟩ vs i) Q w
 | [],i,w,_,_,f=>f w (RE ..)
 |v::vs,i,w,g,h,f=>by
  simp only[storeCells];rw[au];have a:=h 0 dA;simp only[Nat.add_zero]at a;obtain⟨u,m⟩:=sH.1 a.1
  show dY P R N (.store .plain _ v (.pure ())) _ w
  rw[jL];refine⟨g v dA,⟨u,m⟩,a.2.1,a.2.2,?_⟩;refine qS vs (i+1) _ (λx l=>g x (by simp[l])) (λj r=>?_) (λb k=>f b ?_)
  .obtain⟨q,p,o⟩:=h (j+1) (by simp;omega);have e:d+(i+1)+j=d+i+(j+1):=ai;rw[e];refine⟨?_,by rw[vz (qo ..)];exact p,o⟩;rw[iJ _ _ _ _ _ rfl,bH (by rintro⟨_,n,_⟩;simp at n)];exact q
  .rw[show d+(i+1)=d+i+1 by omega]at k;exact Nk a.1 k
theorem gq.wrote(h:gq ρ m w){b:Nat}{p:Pl}(C:ρ b=Z p){o:Nat}{vs sK:List ab}(Q:bP (aV ρ) vs sK){cs:List (Option ab)}(hk:(m.blk b).kind=1)(Ey:eU (m.blk b).cs o vs=Z cs)
  {w':ar}(r:B4 w w' p.c (p.d+o) sK):gq ρ (m.bB b {m.blk b with cs:=cs}) w':=by
 obtain⟨hl,hg,q0⟩:=nu Ey;have hlen:=Q.length;have A:∀a,(m.bB b {m.blk b with cs:=cs}).blk a=if b=a then{m.blk b with cs:=cs,bq:=m.tick}else m.blk a:=λa=>Mem.eP ..
 have q:∀a,((m.bB b {m.blk b with cs:=cs}).blk a).kind=(m.blk a).kind:=λa=>by rw[A];split<;>simp_all
 obtain⟨ja,sY,e,n,gh,hn⟩:=h.cells b p C hk;refine⟨h.oe,λa f g i=>?_,λa f l v g j=>?_,λa f l g F i gR=>?_,λa f g i F=>?_,λa f g i F=>?_,λV W pq X H G Cm z t j=>?_,λa f g=>by rw[r.size];exact h.sX a f g,λa f g i L=>?_⟩
 .rw[q]at i;obtain⟨E,D,e',n',g3,g4⟩:=h.cells a f g i;refine⟨?_,?_,e',n',by rw[r.shape];exact g3,g4⟩
  .rw[A];split
   .rename_i k;subst k;exact E
   .exact E
  .rw[A];split
   .rename_i k;subst k;simpa[hl]using D
   .exact D
 .by_cases k:b=a
  .subst k;obtain rfl:p=f:=by rw[C]at g;exact Option.some.inj g
   unfold Mem.cell at j;rw[A]at j;simp only[if_true,Mem.NK]at j
   split at j
   .rename_i hh;rw[hg]at j
    by_cases N:o<=l/\l<o+vs.length
    .rw[bh N]at j;obtain⟨x,P⟩:∃x,vs[l-o]?=Z x:=⟨_,List.getElem?_eq_getElem ai⟩;simp[P]at j;subst j;obtain⟨y,B,J⟩:=Q.get P;refine⟨y,?_,J⟩;rw[r.cell,bh ⟨ai,ai⟩,show p.d+l-(p.d+o)=l-o by omega];exact B
    .rw[bH N]at j;have K:m.cell b l=Z v:=by unfold Mem.cell;rw[bh hh];exact j
     obtain⟨y,B,J⟩:=h.lZ b p l v C K;refine⟨y,?_,J⟩;rw[r.cell,bH ai];exact B
   .cases j
  .have K:m.cell a l=Z v:=by
    unfold Mem.cell at j⊢;rw[A,bH k]at j;exact j
   obtain⟨y,B,J⟩:=h.lZ a f l v g K;refine⟨y,?_,J⟩;have i:=(Mem.eW K).1;have Ew:=jw h g K
   by_cases s:f.c=p.c
   .have :=(h.sep b a p f k C g ai ai s.symm).2.2;have hvl:o+vs.length<=(m.blk b).cs.length\/vs.length=0:=by
     rcases Nat.eq_zero_or_pos vs.length with T|T
     .exact .inr T
     .obtain⟨u,R⟩:=q0 (vs.length-1) ai;rcases Nat.lt_or_ge (o+(vs.length-1)) (m.blk b).cs.length with S|S
      .left;omega
      .rw[List.getElem?_eq_none S]at R;cases R
    rw[s,r.cell,bH ai,<-s];exact B
   .rw[r.Fh s];exact B
 .rw[r.sE];rw[q]at i;exact h.thaw a f l g F i gR
 .have k:b≠a:=by rintro rfl;rw[q]at i;omega
  have M:(m.bB b {m.blk b with cs:=cs}).blk a=m.blk a:=by rw[A,bH k]
  rw[q]at i;obtain⟨mT,E,D⟩:=h.maps a f g i F;have H:f.c≠p.c:=λs=>by have :=(h.sep b a p f k C g ai ai s.symm).2.1;omega
  exact⟨mT,by rw[r.others _ H,M];exact E,by rw[M];exact D⟩
 .have k:b≠a:=by rintro rfl;rw[q]at i;omega
  have M:(m.bB b {m.blk b with cs:=cs}).blk a=m.blk a:=by rw[A,bH k]
  rw[q]at i;obtain⟨E,D⟩:=h.mJ a f g i F;have H:f.c≠p.c:=λs=>by have :=(h.sep b a p f k C g ai ai s.symm).2.1;omega
  exact⟨E,by rw[r.others _ H,M];exact D⟩
 .rw[q]at z t⊢;rw[q];exact h.sep V W pq X H G Cm z t j
 .rw[q]at i;refine h.vars a f g i ?_;rw[A]at L
  split at L
  .rename_i e;subst e;exact L
  .exact L
theorem Gb {b:Nat}{o:Nat}{vs:List ab}{cs:List (Option ab)}(D:(m.blk b).kind=1)(B:eU (m.blk b).cs o vs=Z cs)(N:Nat):eZ (az ρ m) (az ρ (m.bB b {m.blk b with cs:=cs})) N:=by
 obtain⟨v,w,s⟩:=nu B;have i:∀a,(m.bB b {m.blk b with cs:=cs}).blk a=if b=a then{m.blk b with cs:=cs,bq:=m.tick}else m.blk a:=λa=>Mem.eP ..
 have l:∀a,((m.bB b {m.blk b with cs:=cs}).blk a).kind=(m.blk a).kind:=λa=>by rw[i];split<;>simp_all
 have n:∀a d,(m.bB b {m.blk b with cs:=cs}).px a d->m.px a d:=by
  rintro a d ⟨A,z,q⟩;refine⟨by rw[<-l a];exact A,z,λr=>?_⟩
  by_cases hb:b=a
  .subst hb;have :=q (by rw[i,bh rfl];simpa[v]using r);rw[i,bh rfl]at this;obtain⟨x,j⟩:=this;rw[w]at j
   split at j
   .rename_i C;obtain⟨u,t⟩:=s (d-o) ai;exact⟨u,by rw[show d=o+(d-o) by omega];exact t⟩
   .exact⟨x,j⟩
  .have :=q (by rw[i,bH hb];exact r);rw[i,bH hb]at this;exact this
 refine⟨?_,?_,?_⟩
 .rintro c x ⟨a,p,h,g,f,e,k⟩;exact .inl ⟨a,p,h,g,f,e,n _ _ k⟩
 .rintro c x ⟨a,p,h,g,f,e,k,y⟩;exact .inl ⟨a,p,h,g,f,e,n _ _ k,y⟩
 .rintro c ⟨a,p,h,g,f,e⟩;exact .inl ⟨a,p,h,g,by rwa[l]at f,e⟩
end
def dz.put(ρ:dz)(b:Nat)(p:Pl):dz:=λx=>if x=b then Z p else ρ x
theorem dz.vr{ρ:dz}{b:Nat}(h:ρ b=Y)(p:Pl):ρ.le (ρ.put b p):=by
 intro x q a;unfold dz.put;rw[bH (by rintro rfl;rw[h]at a;cases a)];exact a
theorem dz.lL(ρ:dz)(b:Nat)(p:Pl):ρ.put b p b=Z p:=by simp[dz.put]
theorem dz.NU(ρ:dz){b x:Nat}(p:Pl)(h:x≠b):ρ.put b p x=ρ x:=by simp[dz.put,h]
section
variable {ρ:dz}{m:Mem}{w:ar}
theorem gq.HN(h:gq ρ m w){m':Mem}(l:m.next<=m'.next)(c:∀b p,ρ b=Z p->(m'.blk b)=(m.blk b))(f:m'.bI=m.bI)(t:m'.base=m.base)(d:m'.home=m.home):gq ρ m' w:=by
 have q:∀b p o,ρ b=Z p->m'.cell b o=m.cell b o:=λb p o a=>by unfold Mem.cell;rw[c b p a,f]
 have g:∀b,m'.bQ b=m.bQ b:=λb=>by unfold Mem.bQ;rw[f,d]
 refine⟨λb p a=>aZ (h.oe b p a) l,λb p a=>?_,λb p o v a=>?_,λb p o a s n k=>h.thaw b p o a s (by rwa[c b p a]at n) (by rwa[t]at k),λb p a=>?_,λb p a=>?_,λb j p e r a i=>?_,h.sX,λb p a=>by rw[c b p a];exact h.vars b p a⟩
 .rw[c b p a];exact h.cells b p a
 .rw[q b p o a];exact h.lZ b p o v a
 .rw[c b p a,g];exact h.maps b p a
 .rw[c b p a,g];exact h.mJ b p a
 .rw[c b p a,c j e i];exact h.sep b j p e r a i
theorem oj {m':Mem}(k:∀b p,ρ b=Z p->(m'.blk b)=(m.blk b))(j:m'.bI=m.bI)(h:m'.home=m.home)(q:m'.floor=m.floor)(n:m'.opn=m.opn)(N:Nat):eZ (az ρ m) (az ρ m') N:=by
 have l:∀b p o,ρ b=Z p->m'.px b o->m.px b o:=λb p o g=>by unfold Mem.px;rw[k b p g,j];exact id
 have r:∀b p o,ρ b=Z p->m'.okW b o->m.okW b o:=λb p o g x=>⟨l b p o g x.1,by have :=x.2;rwa[q,n]at this⟩
 have s:∀b,m'.bQ b=m.bQ b:=λb=>by unfold Mem.bQ;rw[j,h]
 refine⟨?_,?_,?_⟩
 .rintro c x ⟨b,p,a,f,e,d,i⟩;exact .inl ⟨b,p,a,f,e,d,l b p _ a i⟩
 .rintro c x ⟨b,p,a,f,e,d,i⟩;exact .inl ⟨b,p,a,f,e,d,r b p _ a i⟩
 .rintro c ⟨b,p,a,f,e,d⟩;exact .inl ⟨b,p,a,f,by rwa[k b p a]at e,by rwa[s]at d⟩
theorem sT (h:gq ρ m w):ρ m.next=Y:=by
 cases a:ρ m.next with
 |none=>rfl
 |some p=>exact absurd (h.oe _ _ a) ai
theorem lY (h:gq ρ m w)(k:eh):∀b p,ρ b=Z p->((m.alloc k).blk b)=(m.blk b):=by
 intro b p a;rw[Mem.cC,bH];rintro rfl;rw[sT h]at a;cases a
theorem gq.bump(h:gq ρ m w)(k:eh):gq ρ (m.alloc k) w:=h.HN dA (lY h k) rfl rfl rfl
theorem gq.lay(h:gq ρ m w){b:Nat}(hb:ρ b=Y)(cF:b<m.next){w':ar}{o:Obj}(J:w'.heap=w.heap.push o){p:Pl}(l:p.c=w.heap.size)
  (K:(m.blk b).kind=1->p.d=0/\p.sz=(m.blk b).sz/\(m.blk b).cs.length<=p.room/\∃C e fr,o=.cells C e fr/\p.room<=C.size/\(∀x,x<p.room->¬(fr.1<=x/\x<fr.2))/\
   ∀(i:Nat) v,(m.blk b).cs[i]?=Z (Z v)->∃z,C[i]?=Z z/\aV ρ v z)
  (XM:(m.blk b).kind=2->∃A,o=.map A (m.blk b).clock/\bP (zO ρ) (m.blk b).es.toList A.toList)
  (LZ:(m.blk b).kind=3->p.d=0/\o=.stringIter (m.blk b).str (m.blk b).pos):gq (ρ.put b p) m w':=by
 have q:=dz.vr hb p;have hold:∀c,c<w.heap.size->w'.heap[c]?=w.heap[c]?:=λc g=>by rw[J,Array.getElem?_push_lt g];simp[g]
 have F:w'.heap[w.heap.size]?=Z o:=by rw[J];simp
 have W:∀c x,c<w.heap.size->w'.cell? ⟨c,x,Y⟩=w.cell? ⟨c,x,Y⟩:=λc x g=>by unfold ar.cell?;simp only[hold c g]
 have gh:∀c,c<w.heap.size->w'.shape? c=w.shape? c:=λc g=>by unfold ar.shape?;simp only[hold c g]
 have FQ:∀c x,c<w.heap.size->w'.frozen? ⟨c,x,Y⟩=w.frozen? ⟨c,x,Y⟩:=λc x g=>by unfold ar.frozen?;simp only[hold c g]
 have t:∀k r,ρ.put b p k=Z r->(k=b/\r=p)\/(k≠b/\ρ k=Z r):=by
  intro k r f;unfold dz.put at f
  split at f
  .rename_i e;exact .inl ⟨e,(Option.some.inj f).symm⟩
  .rename_i e;exact .inr ⟨e,f⟩
 refine⟨λk r f=>?_,λk r f j=>?_,λk r x v f g=>?_,λk r x f H j V=>?_,λk r f j L=>?_,λk r f j L=>?_,λzD zB pq qh Q G Cm E D g=>?_,λk r f=>?_,λk r f j T=>?_⟩
 .rcases t _ _ f with⟨rfl,rfl⟩|⟨_,a⟩
  .exact cF
  .exact h.oe _ _ a
 .rcases t _ _ f with⟨rfl,rfl⟩|⟨_,a⟩
  .obtain⟨B,s,y,C,e,fr,rfl,N,_⟩:=K j;exact⟨s,y,e,C.size,by unfold ar.shape?;rw[l,F],ai⟩
  .obtain⟨s,y,e,n,N,M⟩:=h.cells _ _ a j;exact⟨s,y,e,n,by rw[gh _ (h.sX _ _ a)];exact N,M⟩
 .rcases t _ _ f with⟨rfl,rfl⟩|⟨_,a⟩
  .have j:=(Mem.eW g).1;obtain⟨B,_,_,C,e,fr,rfl,_,_,h5⟩:=K j;have H:(m.blk k).cs[x]?=Z (Z v):=by
    unfold Mem.cell at g
    split at g
    .cases P:(m.blk k).cs[x]? with
     |none=>simp[P]at g
     |some u=>cases u<;>simp[P]at g;subst g;rfl
    .cases g
   obtain⟨z,T2,X⟩:=h5 x v H;exact⟨z,by unfold ar.cell?;simp only[l,F,B,Nat.zero_add];simpa using T2,X.iX q⟩
  .obtain⟨z,s,y⟩:=h.lZ _ _ _ _ a g;exact⟨z,by rw[W _ _ (h.sX _ _ a)];exact s,y.iX q⟩
 .rcases t _ _ f with⟨rfl,rfl⟩|⟨_,a⟩
  .obtain⟨B,_,_,C,e,fr,rfl,N,M,_⟩:=K j;have :=M x H;unfold ar.frozen?;simp only[l,F,B,Nat.zero_add];simpa using this
  .rw[FQ _ _ (h.sX _ _ a)];exact h.thaw _ _ _ a H j V
 .rcases t _ _ f with⟨rfl,rfl⟩|⟨_,a⟩
  .obtain⟨A,rfl,s⟩:=XM j;exact⟨A,by rw[l,F],s.mono λ_ _ x=>⟨x.1.iX q,x.2.1.iX q,x.2.2⟩⟩
  .obtain⟨A,s,y⟩:=h.maps _ _ a j L;exact⟨A,by rw[hold _ (h.sX _ _ a)];exact s,y.mono λ_ _ x=>⟨x.1.iX q,x.2.1.iX q,x.2.2⟩⟩
 .rcases t _ _ f with⟨rfl,rfl⟩|⟨_,a⟩
  .obtain⟨B,rfl⟩:=LZ j;exact⟨B,by rw[l,F]⟩
  .obtain⟨s,y⟩:=h.mJ _ _ a j L;exact⟨s,by rw[hold _ (h.sX _ _ a)];exact y⟩
 .rcases t _ _ G with⟨rfl,rfl⟩|⟨ac2,R⟩<;>rcases t _ _ Cm with⟨rfl,rfl⟩|⟨ac1,S⟩
  .exact absurd rfl Q
  .have :=h.sX _ _ S;omega
  .have :=h.sX _ _ R;omega
  .exact h.sep _ _ _ _ Q R S E D g
 .rcases t _ _ f with⟨rfl,rfl⟩|⟨_,a⟩
  .rw[l,J];simp
  .have :=h.sX _ _ a;rw[J];simp;omega
 .rcases t _ _ f with⟨rfl,rfl⟩|⟨_,a⟩
  .exact(K j).1
  .exact h.vars _ _ a j T
theorem xx {b:Nat}(k:ρ b=Y){p:Pl}{N:Nat}(i:N<=p.c):eZ (az ρ m) (az (ρ.put b p) m) N:=by
 have j:∀f d,ρ.put b p f=Z d->(f=b/\d=p)\/ρ f=Z d:=by
  intro f d h;unfold dz.put at h
  split at h
  .rename_i e;exact .inl ⟨e,(Option.some.inj h).symm⟩
  .exact .inr h
 refine⟨?_,?_,?_⟩
 .rintro c x ⟨f,d,a,rfl,g⟩;rcases j _ _ a with⟨_,rfl⟩|a
  .exact .inr i
  .exact .inl ⟨f,d,a,rfl,g⟩
 .rintro c x ⟨f,d,a,rfl,g⟩;rcases j _ _ a with⟨_,rfl⟩|a
  .exact .inr i
  .exact .inl ⟨f,d,a,rfl,g⟩
 .rintro c ⟨f,d,a,rfl,g⟩;rcases j _ _ a with⟨_,rfl⟩|a
  .exact .inr i
  .exact .inl ⟨f,d,a,rfl,g⟩
theorem eZ.trans{R c a}{N:Nat}(h:eZ R c N)(k:eZ c a N):eZ R a N:=
 ⟨λb o x=>(k.rd b o x).elim (h.rd b o) .inr,λb o x=>(k.wr b o x).elim (h.wr b o) .inr,λb x=>(k.ob b x).elim (h.ob b) .inr⟩
theorem gq.kill(h:gq ρ m w)(b:Nat):gq ρ (m.bB b {}) w:=by
 have A:∀a,(m.bB b {}).blk a=if b=a then{bq:=m.tick}else m.blk a:=λa=>Mem.eP ..
 have j:∀a,((m.bB b {}).blk a).kind≠0->b≠a/\(m.bB b {}).blk a=m.blk a:=by
  intro a c;rw[A]at c⊢
  by_cases hb:b=a
  .rw[bh hb]at c;exact absurd rfl c
  .rw[bH hb];exact⟨hb,rfl⟩
 refine⟨h.oe,λa d i c=>?_,λa d x v i k=>?_,λa d x i z c y=>?_,λa d i c n=>?_,λa d i c n=>?_,λq r u t B l C g f k=>?_,h.sX,λa d i c s=>?_⟩
 .obtain⟨_,e⟩:=j a ai;rw[e]at c⊢;exact h.cells a d i c
 .have c:=(Mem.eW k).1;obtain⟨_,e⟩:=j a ai;refine h.lZ a d x v i ?_;unfold Mem.cell at k⊢;rw[e]at k;exact k
 .obtain⟨_,e⟩:=j a ai;rw[e]at c;exact h.thaw a d x i z c y
 .obtain⟨_,e⟩:=j a ai;rw[e]at c⊢;exact h.maps a d i c n
 .obtain⟨_,e⟩:=j a ai;rw[e]at c⊢;exact h.mJ a d i c n
 .obtain⟨_,o⟩:=j q g;obtain⟨_,p⟩:=j r f;rw[o]at g⊢;rw[p]at f⊢;exact h.sep q r u t B l C g f k
 .obtain⟨_,e⟩:=j a ai;rw[e]at c s;exact h.vars a d i c s
theorem Kf (b N:Nat):eZ (az ρ m) (az ρ (m.bB b {})) N:=by
 have l:∀a,(m.bB b {}).blk a=if b=a then{bq:=m.tick}else m.blk a:=λa=>Mem.eP ..
 have k:∀a,((m.bB b {}).blk a).kind≠0->(m.bB b {}).blk a=m.blk a:=by
  intro a j;rw[l]at j⊢
  by_cases hb:b=a
  .rw[bh hb]at j;exact absurd rfl j
  .rw[bH hb]
 refine⟨?_,?_,?_⟩
 .rintro c x ⟨a,p,i,h,g,f,d⟩;have e:=k a (by have :=d.1;omega);exact .inl ⟨a,p,i,h,g,f,by unfold Mem.px at d⊢;rw[e]at d;exact d⟩
 .rintro c x ⟨a,p,i,h,g,f,d⟩;have e:=k a (by have :=d.1.1;omega);exact .inl ⟨a,p,i,h,g,f,by unfold Mem.okW Mem.px at d⊢;rw[e]at d;exact d⟩
 .rintro c ⟨a,p,i,h,g,f⟩;have e:=k a ai;exact .inl ⟨a,p,i,h,by rwa[e]at g,f⟩
structure Left (ρ:dz)(m:Mem)(w:ar)(bK:dz)(m':Mem)(w':ar):Prop where
 le:ρ.le bK
 kH:gq bK m' w'
 within:eZ (az ρ m) (az bK m') w.heap.size
 old:∀b,b<m.next->bK b=ρ b
theorem Left.refl(h:gq ρ m w):Left ρ m w ρ m w:=⟨ρ.le_refl,h,eZ.refl _ _,λ_ _=>rfl⟩
theorem CE {ρ:dz}{n:Nat}{p}:∀b,b<n->ρ.put n p b=ρ b:=λb a=>dz.NU _ _ ai
theorem qT {P R}{N:Nat}{e C Q}(a:Q ⟨w.heap.size,0,Y⟩ {w with heap:=w.heap.push (.cells C e)}):dY P R N (newRow e C) Q w:=a
theorem gq.cI(h:gq ρ m w){sz ps:Nat}{vs:List ab}{C:Array ab}(e:aT)(hlen:vs.length<=C.size)(j:∀(i:Nat) v,vs[i]?=Z v->∃d,C[i]?=Z d/\aV ρ v d):
  Left ρ m w (ρ.put m.next ⟨w.heap.size,0,C.size,sz⟩) (m.alloc {kind:=1,sz:=sz,cs:=vs.map Z,pos:=ps}) {w with heap:=w.heap.push (.cells C e)}:=by
 have c:=sT h;have b:(m.alloc {kind:=1,sz:=sz,cs:=vs.map Z,pos:=ps}).blk m.next={kind:=1,sz:=sz,cs:=vs.map Z,pos:=ps,bq:=m.tick}:=by rw[Mem.cC,bh rfl]
 refine⟨dz.vr c _,(h.bump {kind:=1,sz:=sz,cs:=vs.map Z,pos:=ps}).lay c dA (o:=.cells C e) rfl rfl (λ_=>?_) (λa=>by rw[b]at a;simp at a) (λa=>by rw[b]at a;simp at a),
  (oj (lY h _) rfl rfl rfl rfl _).trans (xx c (aj _)),CE⟩
 rw[b];refine⟨rfl,rfl,by simpa using hlen,C,e,(0,0),rfl,aj _,λx _ f=>by omega,λi v g=>?_⟩;rw[List.getElem?_map,aD]at g;obtain⟨u,k,f⟩:=g;obtain rfl:u=v:=by simpa using f
 exact j i u k
theorem gq.Sw(h:gq ρ m w){sz ps:Nat}{vs sK}(e:aT)(a:bP (aV ρ) vs sK):
  Left ρ m w (ρ.put m.next ⟨w.heap.size,0,sK.length,sz⟩) (m.alloc {kind:=1,sz:=sz,cs:=vs.map Z,pos:=ps}) {w with heap:=w.heap.push (.cells sK.toArray e)}:=by
 have :=h.cI (sz:=sz) (ps:=ps) (vs:=vs) (C:=sK.toArray) e (by simp[a.length]) (λi v b=>by simpa using a.get b);simpa using this
theorem gq.He(h:gq ρ m w){sz ps:Nat}{G G':Array ab}(e:aT)(a:bP (aV ρ) G.toList G'.toList):
  Left ρ m w (ρ.put m.next ⟨w.heap.size,0,G'.size,sz⟩) (m.alloc {kind:=1,sz:=sz,cs:=G.toList.map Z,pos:=ps}) {w with heap:=w.heap.push (.cells G' e)}:=by
 have :=h.cI (sz:=sz) (ps:=ps) (vs:=G.toList) (C:=G') e (by have :=a.length;simp at this;simp;omega) (λi v b=>by simpa using a.get b);exact this
end
section types
variable {P:aE}{R:Perm}{N:Nat}{w:ar}{t:aT}
theorem DW {α:Type}{a:α}{Q:α->ar->Prop}(h:Q a w):dY P R N (pure a) Q w:=h
theorem aH {Q d}(h:P.underlying t=Z d)(a:Q d w):dY P R N (underlying t) Q w:=by
 unfold underlying;rw[au]
 show dY P R N (match P.underlying t with |some d=>pure d|none=>stuck "no such type") Q w
 rw[h];exact a
theorem iB {Q d}(h:P.info? t=Z d)(a:Q d w):dY P R N (typeInfo t) Q w:=by
 unfold typeInfo;rw[au]
 show dY P R N (match P.info? t with |some d=>pure d|none=>stuck "no such type") Q w
 rw[h];exact a
theorem NF {n:Nat}(h:eS P t=Z n):∃i,P.info? t=Z i/\i.size=n:=by
 unfold eS at h;exact aD.1 h
theorem dS {Q}{n:Nat}(h:eS P t=Z n)(a:Q n w):dY P R N (sizeOf t) Q w:=by
 obtain⟨i,b,rfl⟩:=NF h;unfold sizeOf;rw[au];exact iB b a
theorem Nh {z}(h:iT P t=Z z):∃i,P.info? t=Z i/\i.zero=Z z:=by
 unfold iT at h
 split at h
 .rename_i i b
  split at h
  .rename_i c a
   split at h
   .simp only[ah]at h;subst h;exact⟨i,b,a⟩
   .cases h
  .cases h
 .cases h
theorem kl {z}(h:iT P t=Z z):z.cells.toList.all de=U/\eS P t=Z z.cells.size:=by
 unfold iT at h
 split at h
 .rename_i i b
  split at h
  .rename_i c d
   split at h
   .rename_i a;simp only[ah]at h;subst h;simp only[ag,beq_iff_eq]at a;exact⟨a.1,by unfold eS;rw[b,a.2];rfl⟩
   .cases h
  .cases h
 .cases h
theorem fD {Q z}(h:iT P t=Z z)(b:Q z w):dY P R N (zeroValue t) Q w:=by
 obtain⟨i,c,a⟩:=Nh h;unfold zeroValue;rw[au];refine iB c ?_;rw[a];exact b
theorem wj {Q}{b:Bool}(h:zK P t=Z b)(a:Q b w):dY P R N (isAgg t) Q w:=by
 unfold zK at h;obtain⟨d,c,e⟩:=aD.1 h;unfold isAgg;rw[au];refine aH c ?_;subst e;cases d<;>exact a
end types
section
variable {P:aE}{ρ:dz}{m:Mem}{w:ar}{N:Nat}
theorem BB (h:gq ρ m w){t p j v}(s:aV ρ p j)(a:kY P t p m=Z v){Q}(k:∀f,aV ρ v f->Q f w):
  dY P (az ρ m) N (Instr.loadAt t j) Q w:=by
 unfold kY at a
 split at a
 .rename_i b o;obtain⟨e,r,_,rfl⟩:=cQ.1 s;unfold Instr.loadAt loadVar;rw[au]
  show dY P (az ρ m) N (isAgg t>>=λx=>if x=U then(do let n<-sizeOf t;let C<-loadCells ⟨e.c,e.d+o,Y⟩ n;pure (.agg C))else Go.load ⟨e.c,e.d+o,Y⟩) Q w
  rw[au]
  split at a
  .rename_i i;obtain⟨n,y,a⟩:=bM.1 a;obtain⟨l,D,rfl⟩:=aD.1 a;refine wj i ?_;simp only[if_true];rw[au];refine dS y ?_;rw[au];refine h.sx r D (λF E=>?_);exact k _ (iz.2 ⟨_,rfl,by simpa using E⟩)
  .rename_i i;obtain⟨l,a,g⟩:=bM.1 a;refine wj i ?_;simp only[cK,if_false];obtain⟨u,f,q,B,A,z⟩:=h.BC r a (show 0<1 by omega);have :u=v:=by
    cases l with
    |nil=>simp at g
    |cons x l=>simp at g q;rw[<-q,g]
   subst this;exact DX A z (k _ B)
  .cases a
 .cases a
theorem qM (h:gq ρ m w){b:Nat}{e:Pl}(f:ρ b=Z e){o:Nat}{vs sK:List ab}{m':Mem}(y:m.dW b o vs=Z m')(n:bP (aV ρ) vs sK){Q:Unit->ar->Prop}
  (z:∀a,Left ρ m w ρ m' a->a.drawn=w.drawn->Q () a):dY P (az ρ m) N (storeCells ⟨e.c,e.d+o,Y⟩ sK) Q w:=by
 obtain⟨H,rfl,l,s,r,x⟩:=Mem.rN y;obtain⟨_,_,t⟩:=nu r;have hlen:=n.length;refine qS sK 0 w (λv E=>?_) (λj G=>?_) (λa g=>z a ⟨ρ.le_refl,h.wrote f n l r (by simpa using g),Gb l r _,λ_ _=>rfl⟩ g.drawn)
 .obtain⟨i,A⟩:=List.mem_iff_getElem?.1 E;obtain⟨u,p,k⟩:=n.get' A;exact k.P4 (x u (List.mem_of_getElem? p))
 .rw[Nat.add_zero,Nat.add_assoc];obtain⟨u,p⟩:=t j ai;obtain⟨B,C⟩:=Mem.sD s (i:=j) ai;have q:m.cell b (o+j)=Z u:=by unfold Mem.cell;rw[bh ⟨l,B⟩,p];rfl
  obtain⟨F,D,_⟩:=h.lZ b e _ u f q;have k:=jw h f q;have g:m.okW b (o+j):=⟨Mem.eW q,C⟩;exact⟨by rw[D];rfl,h.thaw b e _ f k l (Mem.lM s),zV f k g⟩
theorem Il (h:gq ρ m w){t:aT}{p i x e:ab}{m':Mem}(u:aV ρ p i)(q:aV ρ x e)(a:xD P t p x m=Z m'){Q:Unit->ar->Prop}(s:∀f,Left ρ m w ρ m' f->Q () f):
  dY P (az ρ m) N (Instr.storeAt t i e) Q w:=by
 unfold xD at a
 split at a
 .rename_i b o;obtain⟨g,v,_,rfl⟩:=cQ.1 u
  split at a
  .rename_i l;have k:=q.cells;have j:=k.length;simp only[Array.length_toList]at j;unfold Instr.storeAt storeVar;rw[au]
   show dY P (az ρ m) N (sizeOf t>>=λn=>if e.cells.size≠n then(do stuck "storeVar: the value has not the size of the variable";storeCells ⟨g.c,g.d+o,Y⟩ e.cells.toList)else(do pure PUnit.unit;storeCells ⟨g.c,g.d+o,Y⟩ e.cells.toList)) Q w
   rw[au];refine dS l ?_;rw[bH (by simpa using j.symm)];exact qM h v a k λf r _=>s f r
  .cases a
 .cases a
theorem D9 (h:gq ρ m w){t}{v b:ab}(d:bP (aV ρ) v.cells.toList b.cells.toList){sz ps:Nat}{Q}
  (e:∀a c,Left ρ m w c (m.alloc {kind:=1,sz:=sz,cs:=v.cells.toList.map Z,pos:=ps}) a->aV c (ptrTo m.next 0) (.pointer (Z ⟨w.heap.size,0,Y⟩))->Q ⟨w.heap.size,0,Y⟩ a):
  dY P (az ρ m) N (newVar t b) Q w:=by
 unfold newVar;refine qT ?_;have :=h.Sw (sz:=sz) (ps:=ps) (vs:=v.cells.toList) t d;refine e _ _ (by simpa using this) (cQ.2 ⟨_,dz.lL ..,rfl,rfl⟩)
theorem AI {s:aT}{p j v:ab}{f:Nat}(n:aV ρ p j)(e:um P s p f=Z v){Q:ab->ar->Prop}{R:Perm}(m:∀i,aV ρ v i->Q i w):dY P R N (Instr.fieldAt s j f) Q w:=by
 unfold um at e
 split at e
 .rename_i fields b o l
  split at e
  .rename_i r h
   split at e
   .rename_i k q;simp only[ah]at e;subst e;obtain⟨g,t,_,rfl⟩:=cQ.1 n;unfold Instr.fieldAt;rw[au];refine aH l ?_
    show dY P R N (match fields[f]? with |some f=>(do let a<-Instr.sureAddr (.pointer (Z ⟨g.c,g.d+o,Y⟩));pure (.pointer (Z (<-fieldPlace a f))))|_=>stuck "fieldAddr: no such field") Q w
    rw[h]
    show dY P R N (do let a<-(pure (Z (<-fieldPlace ⟨g.c,g.d+o,Y⟩ r)));pure (.pointer a)) Q w
    unfold fieldPlace;simp only[bind_assoc,pure_bind];rw[au];refine dS q ?_;rw[bH ai];simp only[pure_bind];rw[jL,Nat.add_assoc];exact m _ (cQ.2 ⟨g,t,rfl,rfl⟩)
   .cases e
  .cases e
 .cases e
theorem Ar {t:aT}{x j i m v:ab}(p:aV ρ x j)(hi:aV ρ i m)(a:qZ P t x i=Z v){Q:ab->ar->Prop}{R:Perm}(q:∀l,aV ρ v l->Q l w):dY P R N (Instr.indexAt t j m) Q w:=by
 unfold qZ at a
 split at a
 .rename_i e b o len r k n c;obtain⟨d,u,h,_,rfl,_⟩:=cp.1 p;obtain rfl:=(aG (by rfl)).1 hi
  split at a
  .rename_i g;obtain⟨s,f,rfl⟩:=aD.1 a;unfold Instr.indexAt;simp only[asIntOf,pure_bind];rw[au];refine aH c ?_;simp only[pure_bind];rw[au];refine aH c ?_;simp only[bh g];rw[au];refine dS f ?_;rw[jL,Nat.add_assoc];exact q _ (cQ.2 ⟨d,h,rfl,rfl⟩)
  .cases a
 .rename_i len e b o k n c;obtain⟨d,h,_,rfl⟩:=cQ.1 p;obtain rfl:=(aG (by rfl)).1 hi
  split at a
  .rename_i g;obtain⟨s,f,rfl⟩:=aD.1 a;unfold Instr.indexAt;simp only[asIntOf,pure_bind];rw[au];refine aH c ?_;simp only[Instr.sureAddr,pure_bind];rw[au];refine aH c ?_;simp only[bh g];rw[au];refine dS f ?_;rw[jL,Nat.add_assoc];exact q _ (cQ.2 ⟨d,h,rfl,rfl⟩)
  .cases a
 .cases a
theorem Bq {t}{cs e:Array ab}{a:Nat}{v}(g:bP (aV ρ) cs.toList e.toList)(b:P1 P t cs a=Z v){Q R}(f:∀c,aV ρ v c->Q c w):dY P R N (part t e a) Q w:=by
 unfold P1 at b;unfold part;rw[au]
 split at b
 .rename_i d;obtain⟨n,h,rfl⟩:=aD.1 b;refine wj d ?_;simp only[if_true];rw[au];refine dS h ?_;refine f _ (iz.2 ⟨_,rfl,?_⟩);simp only[Array.toList_extract,List.extract_eq_take_drop];exact(g.drop a).take _
 .rename_i d;refine wj d ?_;simp only[cK,if_false];obtain⟨c,k,j⟩:=g.get (i:=a) (by simpa using b);rw[show e[a]?=Z c by simpa using k];exact f _ j
 .cases b
theorem Jt {s x c v}{f:Nat}(e:aV ρ x c)(a:Ju P s x f=Z v){Q R}(h:∀d,aV ρ v d->Q d w):dY P R N (Instr.field s c f) Q w:=by
 unfold Ju at a
 split at a
 .rename_i fields m g;obtain⟨l,b,j⟩:=bM.1 a;obtain⟨k,rfl,i⟩:=iz.1 e;unfold Instr.field;rw[au];refine aH g ?_;simp only[b,asAgg,pure_bind];exact Bq i j h
 .cases a
theorem Je {t:aT}{x b i d v:ab}(f:aV ρ x b)(hi:aV ρ i d)(a:xQ P t x i=Z v){Q:ab->ar->Prop}{R:Perm}(j:∀c,aV ρ v c->Q c w):dY P R N (Instr.index t b d) Q w:=by
 unfold xQ at a
 split at a
 .rename_i len e q k n g;obtain⟨p,rfl,l⟩:=iz.1 f;obtain rfl:=(aG (by rfl)).1 hi
  split at a
  .rename_i m;obtain⟨s,h,o⟩:=bM.1 a;unfold Instr.index;simp only[asIntOf,pure_bind];rw[au];refine aH g ?_;simp only[bh m];rw[au];refine dS h ?_;exact Bq l o j
  .cases a
 .cases a
theorem ye {v:ab}{d y h:Nat}{code:BoundsCode}(a:ky (Z v) d=Z h)(c:h<=y){Q:Nat->ar->Prop}{R:Perm}(b:Q h w):dY P R N (Instr.sliceBound v y code) Q w:=by
 unfold ky at a
 split at a
 .rename_i e;cases e
 .rename_i k n e;cases e
  split at a
  .simp only[ah]at a;subst a;simp only[Instr.sliceBound,asIntOf,pure_bind];rw[bh ⟨fS,ai⟩];exact b
  .cases a
 .cases a
theorem vH {d h:Nat}(a:ky Y d=Z h):h=d:=by simpa[ky]using a.symm
theorem lQ {e:Bool}{len a l h:Nat}{lo hi}(d:ky lo 0=Z l)(f:ky hi len=Z h)(b:l<=h)(g:h<=a){Q R}(c:Q (l,h,a) w):
  dY P R N (Instr.sliceBounds e len a lo hi Y) Q w:=by
 unfold Instr.sliceBounds;simp only[pure_bind];cases hi with
 |none=>
  obtain rfl:=vH f;cases lo with
  |none=>obtain rfl:=vH d;exact c
  |some v=>
   simp only[];rw[au];exact ye d b c
 |some u=>
  simp only[];rw[au];refine ye f g ?_;cases lo with
  |none=>obtain rfl:=vH d;exact c
  |some v=>
   simp only[];rw[au];exact ye d b c
def JX (ρ:dz):Option ab->Option ab->Prop
 |none,Y=>True
 |some a,Z b=>aV ρ a b
 |_,_=>False
theorem sM {v a}(h:JX ρ v a){d n:Nat}(c:ky v d=Z n):a=v:=by
 unfold ky at c
 split at c
 .cases a with
  |none=>rfl
  |some b=>exact h.elim
 .cases a with
  |none=>exact h.elim
  |some b=>rw[(aG (by rfl)).1 h]
 .cases c
theorem Ir (E:gq ρ m w){t:aT}{x F v:ab}{lo hi y H:Option ab}(C:aV ρ x F)(B:JX ρ lo y)(k:JX ρ hi H)(a:jv P t x lo hi m=Z v)
  {Q:ab->ar->Prop}{R:Perm}(u:∀G,aV ρ v G->Q G w):dY P R N (Instr.sliceAt t F y H Y) Q w:=by
 unfold jv at a
 split at a
 .rename_i e b o len A j
  split at a
  .rename_i l h s f g r;obtain rfl:=sM B f;obtain rfl:=sM k g;obtain⟨i,z,p,_,rfl,q⟩:=cp.1 C;unfold Instr.sliceAt;rw[au];refine aH j ?_;simp only[Instr.slice];rw[au];refine aH j ?_;simp only[];rw[au]
   split at a
   .rename_i D;rw[bh D]at q
    split at a
    .rename_i d;simp only[ah]at a;subst a;refine lQ f g d.1 ai ?_;simp only[];rw[au];refine dS r ?_;refine u _ (cp.2 ⟨i,z-l,p,rfl,?_,?_⟩)
     .congr 1
      rcases d.2.2 with c|c
      .subst c;split<;>simp[jL]
      .rw[bH ai];simp only[dk,jL,Nat.add_assoc]
     .rw[bh rfl];refine⟨ai,?_⟩;rcases d.2.2 with c|⟨c,M,L⟩
      .subst c;simp;exact q.2
      .obtain⟨J,_⟩:=E.cells b i p M;have S:i.sz=s:=by rw[J,L]
       rw[S]at q⊢;have :l*s+(z-l)*s=z*s:=by rw[<-Nat.add_mul];congr 1;omega
       simp only[];have K:=q.2;simp only at K;omega
    .cases a
   .rename_i D;rw[bH D]at q;subst q
    split at a
    .rename_i d;simp only[ah]at a;subst a;refine lQ f g d.2.1 d.2.2 ?_;simp only[];rw[au];refine dS r ?_
     by_cases c:z=l
     .simp only[c,if_true];exact u _ (by rw[bh c];exact cp.2 ⟨i,l-l,p,rfl,rfl,by rw[bH (by unfold dp;omega)];omega⟩)
     .simp only[c,if_false,dk,jL,Nat.add_assoc];exact u _ (by rw[bH c];exact cp.2 ⟨i,z-l,p,rfl,rfl,by rw[bH (by have :=d.1;omega)]⟩)
    .cases a
  .cases a
 .rename_i e len A j
  split at a
  .rename_i l h s f g r;obtain rfl:=sM B f;obtain rfl:=sM k g;obtain rfl:=(aG (by rfl)).1 C
   split at a
   .rename_i d;simp only[ah]at a;subst a;unfold Instr.sliceAt;rw[au];refine aH j ?_;simp only[Instr.slice];rw[au];refine aH j ?_;simp only[];rw[au];refine lQ f g d.2.1 d.2.2 ?_;simp only[];rw[au];refine dS r ?_;have T:(if A=l then(Y:Option Addr)else Option.map (λx:Addr=>x.add (l*s)) Y)=Y:=by split<;>rfl
    rw[T];exact u _ ((aG (by rfl)).2 rfl)
   .cases a
  .cases a
 .rename_i n e b o j
  split at a
  .rename_i l h s f g r;obtain rfl:=sM B f;obtain rfl:=sM k g;obtain⟨i,p,_,rfl⟩:=cQ.1 C
   split at a
   .rename_i d;simp only[ah]at a;subst a;unfold Instr.sliceAt;rw[au];refine aH j ?_;simp only[Instr.sureAddr,pure_bind];rw[au];refine lQ f g d.2.1 d.2.2 ?_;simp only[];rw[au];refine dS r ?_
    by_cases c:n=l
    .simp only[c,if_true];exact u _ (by rw[bh c];exact cp.2 ⟨i,n-l,p,rfl,by rw[c],by rw[bH (by have :=d.1;omega)]⟩)
    .simp only[c,if_false,jL,Nat.add_assoc];exact u _ (by rw[bH c];exact cp.2 ⟨i,n-l,p,rfl,rfl,by rw[bH (by have :=d.1;omega)]⟩)
   .cases a
  .cases a
 .cases a
end
section
variable {P:aE}{ρ:dz}{m:Mem}{w:ar}{N:Nat}
theorem Gu {l c}(h:bP (aV ρ) l c)(d:Nat):∀{cs e:Array ab} (j:Nat),bP (aV ρ) cs.toList e.toList->
  bP (aV ρ) ((l.zipIdx j).foldl (λcs (x:ab×Nat)=>cs.setIfInBounds (d+x.2) x.1) cs).toList ((c.zipIdx j).foldl (λcs (x:ab×Nat)=>cs.setIfInBounds (d+x.2) x.1) e).toList:=by
 induction l generalizing c with
 |nil=>intro cs e j f;cases c with
  |nil=>exact f
  |cons _ _=>exact h.elim
 |cons a l g=>
  intro cs e j f;cases c with
  |nil=>exact h.elim
  |cons b c=>
   simp only[List.zipIdx_cons,List.foldl_cons];refine g h.2 (j+1) ?_;simp only[Array.toList_setIfInBounds];exact f.set h.1 _
theorem yy (cs v:Array ab)(a:Nat):(v.zipIdx.foldl (λ(cs:Array ab) (x:ab×Nat)=>cs.setIfInBounds (a+x.2) x.1) cs)=(v.toList.zipIdx.foldl (λcs (x:ab×Nat)=>cs.setIfInBounds (a+x.2) x.1) cs):=by
 rw[<-Array.foldl_toList,Array.toList_zipIdx]
theorem zn {place:Nat->Option (Nat×Nat)}:∀{parts c:List (Nat×ab)} {cs e r:Array ab},bP (λa b=>b.1=a.1/\aV ρ a.2 b.2) parts c->bP (aV ρ) cs.toList e.toList->
  Instr.fill place cs parts=Z r->∃j,Instr.fill place e c=Z j/\bP (aV ρ) r.toList j.toList:=by
 intro parts
 induction parts with
 |nil=>
  intro c cs e r d f h;cases c with
  |cons _ _=>exact d.elim
  |nil=>
   simp only[Instr.fill,ah]at h⊢;subst h;exact⟨_,rfl,f⟩
 |cons x parts n=>
  intro c cs e r d f h;cases c with
  |nil=>exact d.elim
  |cons y c=>
   obtain⟨i,v⟩:=x;obtain⟨o,m⟩:=y;obtain⟨⟨rfl,p⟩,d⟩:=d;simp only[Instr.fill]at h⊢;cases k:place o with
   |none=>rw[k]at h;cases h
   |some q=>
    obtain⟨g,size⟩:=q;rw[k]at h;simp only[]at h⊢;have l:=p.cells;have t:m.cells.size=v.cells.size:=by simpa using l.length.symm
    have s:e.size=cs.size:=by simpa using f.length.symm
    rw[t,s]
    split at h
    .cases h
    .rename_i u;rw[bH u];refine n d ?_ h;rw[yy,yy];exact Gu l g 0 f
theorem zU {t z}(h:iT P t=Z z):bP (aV ρ) z.cells.toList z.cells.toList:=jo (kl h).1
theorem vy {l:Array ab}(h:l.toList.all de=U)(i:Nat):de (l[i]!)=U:=by
 by_cases a:i<l.size
 .rw[getElem!_pos l i a];exact aB.1 h _ dA
 .rw[getElem!_neg l i a];rfl
theorem v9 {t z}(h:iT P t=Z z)(n:Nat):bP (aV ρ) ((Array.range n).map (z.cells[·%z.cells.size]!)).toList ((Array.range n).map (z.cells[·%z.cells.size]!)).toList:=by
 refine jo ?_;rw[aB];intro x a;simp only[Array.toList_map,List.mem_map]at a;obtain⟨i,_,rfl⟩:=a;exact vy (kl h).1 _
theorem JL {t:aT}{ps:List (Nat×ab)}{i:Array (Nat×ab)}{v:ab}(C:bP (λa b=>b.1=a.1/\aV ρ a.2 b.2) ps i.toList)(d:Fp P t ps=Z v)
  {Q:ab->ar->Prop}{R:Perm}(g:∀B,aV ρ v B->Q B w):dY P R N (Instr.build t i) Q w:=by
 unfold Fp at d
 split at d
 .rename_i z fields k q
  split at d
  .rename_i places j;obtain⟨r,u,rfl⟩:=aD.1 d;obtain⟨E,y,A⟩:=zn C (zU k) u;unfold Instr.build;rw[au];refine fD k ?_;simp only[];rw[au];refine aH q ?_;simp only[];rw[au];have o:∀(l:List Field) (c:List (Nat×Nat)) (Q:List (Nat×Nat)->ar->Prop),l.mapM (m:=Option) (λf=>(eS P f.type).map λn=>(f.offset,n))=Z c->Q c w->
     dY P R N (l.mapM (m:=Sem) λf=>do pure (f.offset,<-sizeOf f.type)) Q w:=by
    intro l
    induction l with
    |nil=>intro c Q h g;simp at h;subst h;simpa using DW g
    |cons f l G=>
     intro c Q h g;rw[List.mapM_cons]at h⊢;simp only[Option.bind_eq_bind,bM,aD,Option.pure_def,ah]at h;obtain⟨x,⟨n,J,rfl⟩,D,p,rfl⟩:=h;simp only[bind_assoc,pure_bind];rw[au];refine dS J ?_;rw[au];exact G D _ p (DW g)
   rw[Array.mapM_eq_mapM_toList]at j⊢;simp only[Option.map_eq_map,aD]at j;obtain⟨c,j,rfl⟩:=j;rw[<-bind_pure_comp,au];refine o fields.toList c _ j ?_
   show dY P R N (pure c.toArray) _ w
   refine DW ?_;simp only[y];exact g _ (iz.2 ⟨_,rfl,A⟩)
  .cases d
 .rename_i z n e k q;obtain⟨s,H,F⟩:=bM.1 d;obtain⟨r,u,rfl⟩:=aD.1 F;obtain⟨E,y,A⟩:=zn C (zU k) u;unfold Instr.build;rw[au];refine fD k ?_;simp only[];rw[au];refine aH q ?_;simp only[];rw[au];refine dS H ?_;simp only[y];exact g _ (iz.2 ⟨_,rfl,A⟩)
 .cases d
theorem zG (h:gq ρ m w){t:aT}{n:Nat}{ps:List (Nat×ab)}{d:Array (Nat×ab)}{v:ab}{m':Mem}(B:bP (λa b=>b.1=a.1/\aV ρ a.2 b.2) ps d.toList)
  (c:bW P t n ps m=Z (v,m')){Q:ab->ar->Prop}{R:Perm}(A:∀j g o,Left ρ m w o m' g->aV o v j->Q j g):dY P R N (Instr.buildSlice t n d) Q w:=by
 unfold bW at c
 split at c
 .rename_i e s
  split at c
  .rename_i size z u p
   split at c
   .cases c
   .rename_i F;obtain⟨r,y,l⟩:=aD.1 c;simp only[ay]at l;obtain⟨rfl,rfl⟩:=l;obtain⟨k,q,E⟩:=zn B (v9 p _) y;unfold Instr.buildSlice;rw[au];refine aH s ?_;simp only[];rw[au];refine dS u ?_;rw[bH ai];have fin:dY P R N (do
      let a<-newRow e k
      pure (.slice (Z a) n n)) Q w:=by
     rw[au];refine qT ?_;have C:=h.He (sz:=size) (ps:=0) (G:=r) (G':=k) e E;refine A _ _ _ C (cp.2 ⟨_,n,dz.lL ..,rfl,rfl,?_⟩);rw[bH ai]
    by_cases f:n*size=0
    .rw[bh f];have D:(Array.range (n*size)).map (λx=>(#[]:Array ab)[x%(#[]:Array ab).size]!)=(Array.range (n*size)).map (λx=>z.cells[x%z.cells.size]!):=by rw[f];simp
     show dY P R N (match Instr.fill (λi=>Z (i*size,size)) ((Array.range (n*size)).map (λx=>(#[]:Array ab)[x%(#[]:Array ab).size]!)) d.toList with
      |some cells=>(do let a<-newRow e cells;pure (.slice (Z a) n n))
      |_=>stuck "buildSlice: a part of the wrong size") Q w
     rw[D,q];exact fin
    .rw[bH f];simp only[bind_assoc,pure_bind];rw[au];refine fD p ?_;simp only[q];exact fin
  .cases c
 .cases c
theorem Aj (h:gq ρ m w){t:aT}{l j c o v:ab}{m':Mem}(D:aV ρ l j)(E:aV ρ c o)(b:gC P t l c m=Z (v,m')){Q:ab->ar->Prop}{R:Perm}
  (C:∀g d p,Left ρ m w p m' d->aV p v g->Q g d):dY P R N (Instr.makeSlice t j o) Q w:=by
 unfold gC at b
 split at b
 .rename_i e l c A;obtain rfl:=(aG (by rfl)).1 D;obtain rfl:=(aG (by rfl)).1 E
  split at b
  .rename_i i z n k
   split at b
   .rename_i L;simp only[ah,ay]at b;obtain⟨rfl,rfl⟩:=b;obtain⟨V,T,H,S⟩:=L;have B:eS P e=Z i.size:=by unfold eS;rw[n];rfl
    have r:bY.i64.wrap l=l:=by unfold bY.wrap;simp[bY.min,bY.max,bY.signed,bY.bits];omega
    have q:bY.i64.wrap c=c:=by unfold bY.wrap;simp[bY.min,bY.max,bY.signed,bY.bits];omega
    unfold Instr.makeSlice;rw[au];refine aH A ?_;simp only[asInt,asIntOf,pure_bind];rw[au];refine iB n ?_;simp only[r,q];have M:(i.bytes:Int)*c<=1099511627776:=by rw[Int.mul_comm];exact H
    have y:(decide (c<0)||decide ((i.bytes:Int)*c>2^48))=O:=by
     simp only[Bool.or_eq_false_iff,decide_eq_false_iff_not];omega
    rw[y];have u:(O||decide (l<0)||decide (l>c))=O:=by
     simp only[Bool.false_or,Bool.or_eq_false_iff,decide_eq_false_iff_not];omega
    rw[u];simp only[cK,if_false];rw[au];have s:dY P R N (askRoom (c.toNat*i.bytes)) (λ_ d=>d=w) w:=by
     unfold askRoom
     split
     .exact⟨trivial,rfl⟩
     .rfl
    refine Ln s ?_;intro _ d K;rw[K];rw[au];refine dS B ?_;have fin:dY P R N (do
      let a<-newRow e ((Array.range (c.toNat*i.size)).map (z.cells[·%z.cells.size]!))
      pure (.slice (Z a) l.toNat c.toNat)) Q w:=by
     rw[au];refine qT ?_;have F:=h.He (sz:=i.size) (ps:=0) (G:=(Array.range (c.toNat*i.size)).map (z.cells[·%z.cells.size]!)) e (v9 k _);refine C _ _ _ F (cp.2 ⟨_,c.toNat,dz.lL ..,rfl,rfl,?_⟩);rw[bH (by unfold dp;omega)]
    by_cases f:c.toNat*i.size=0
    .rw[bh f];have J:(Array.range (c.toNat*i.size)).map (λx=>(#[]:Array ab)[x%(#[]:Array ab).size]!)=(Array.range (c.toNat*i.size)).map (λx=>z.cells[x%z.cells.size]!):=by rw[f];simp
     show dY P R N (do
      let a<-newRow e ((Array.range (c.toNat*i.size)).map (λx=>(#[]:Array ab)[x%(#[]:Array ab).size]!))
      pure (.slice (Z a) l.toNat c.toNat)) Q w
     rw[J];exact fin
    .rw[bH f];rw[au];exact fD k fin
   .cases b
  .cases b
 .cases b
theorem qq (h:gq ρ m w){size n:Nat}{x g}(c:aV ρ x g){l}(a:mr m size n x=Z l){Q}
  (d:∀i:List ab,bP (aV ρ) l i->Q i.toArray w):dY P (az ρ m) N (Builtin.firstCells size n g) Q w:=by
 unfold mr at a
 split at a
 .rename_i b o len f;obtain⟨p,q,k,_,rfl,_⟩:=cp.1 c;exact h.sx k a d
 .rename_i len f;obtain rfl:=(aG (by rfl)).1 c;simp only[ah]at a;subst a;exact d [] trivial
 .rename_i s;obtain rfl:=(aG (by rfl)).1 c
  split at a
  .rename_i j;simp only[ah]at a;subst a;have e:(s.extract 0 n).data.map (λb=>(ab.int .u8 b.toNat))=(s.data.toList.map λb=>(ab.int .u8 b.toNat)).toArray:=by
    rw[j.2];have :s.extract 0 s.size=s:=by
     apply ByteArray.ext;simp
    rw[this];apply Array.ext';simp
   show Q ((s.extract 0 n).data.map λb=>(ab.int .u8 b.toNat)) w
   rw[e];exact d _ (jo (by rw[aB];intro x c;obtain⟨b,_,rfl⟩:=List.mem_map.1 c;rfl))
  .cases a
 .cases a
theorem Ek {x f}(d:aV ρ x f){n:Nat}(b:Gh x=Z n){Q R}(e:Q n w):dY P R N (Builtin.lenOf f) Q w:=by
 unfold Gh at b
 split at b
 .rename_i a l c;simp only[ah]at b;subst b;cases a with
  |none=>obtain rfl:=(aG (by rfl)).1 d;exact e
  |some a=>obtain⟨g,h,_,_,rfl,_⟩:=cp.1 d;exact e
 .simp only[ah]at b;subst b;obtain rfl:=(aG (by rfl)).1 d;exact e
 .cases b
theorem Fw (h:gq ρ m w){b o len n size:Nat}{f}(B:ρ b=Z f)(hk:(m.blk b).kind=1)(ja:(m.blk b).sz=size)(wQ:m.fL b=U)(q0:((m.blk b).cs.drop o).all (·.isSome)=U)
  {old new W}(hold:gG ((m.blk b).cs.drop o) (len*size)=Z old)(kj:bP (aV ρ) new W)(hnl:new.length=n*size)(sY:o+(len+n)*size<=f.room)
  {w'}(F:B4 w w' f.c (f.d+o+len*size) W):
  Left ρ m w (ρ.put m.next ⟨f.c,f.d+o,f.room-o,size⟩) ((m.bB b {}).alloc {kind:=1,sz:=size,cs:=(old++new).map Z}) w':=by
 have hn:=sT h;have hbn:b<m.next:=h.oe b f B;obtain⟨LX,Zu⟩:=sr hold;obtain⟨QE,hfo⟩:=Mem.nG wQ;obtain⟨ar2,T5,e0,n0,agT,hn0⟩:=h.cells b f B hk;have hmul:(len+n)*size=len*size+n*size:=Nat.add_mul ..;have ap3:W.length=n*size:=by rw[<-kj.length,hnl]
 have lC:∀a,((m.bB b {}).alloc {kind:=1,sz:=size,cs:=(old++new).map Z}).blk a=if m.next=a then{kind:=1,sz:=size,cs:=(old++new).map Z,bq:=m.tick+1}else if b=a then{bq:=m.tick}else m.blk a:=by
  intro a;rw[Mem.cC,Mem.eP];rfl
 have t:∀a,a≠m.next->(((m.bB b {}).alloc {kind:=1,sz:=size,cs:=(old++new).map Z}).blk a).kind≠0->a≠b/\((m.bB b {}).alloc {kind:=1,sz:=size,cs:=(old++new).map Z}).blk a=m.blk a:=by
  intro a p j;rw[lC,bH (Ne.symm p)]at j⊢
  by_cases r:b=a
  .rw[bh r]at j;exact absurd rfl j
  .rw[bH r];exact⟨Ne.symm r,rfl⟩
 generalize S:(m.bB b {}).alloc {kind:=1,sz:=size,cs:=(old++new).map Z}=M at lC t⊢;have hMn:M.next=m.next+1:=by rw[<-S];rfl
 have QU:M.bI=m.bI:=by rw[<-S];rfl
 have hMf:M.floor=m.floor:=by rw[<-S];rfl
 have hMo:M.opn=m.opn:=by rw[<-S];rfl
 have Mb:M.base=m.base:=by rw[<-S];rfl
 have hMm:M.home=m.home:=by rw[<-S];rfl
 have XF:∀a,M.bQ a=m.bQ a:=λa=>by unfold Mem.bQ;rw[QU,hMm]
 have N:M.blk m.next={kind:=1,sz:=size,cs:=(old++new).map Z,bq:=m.tick+1}:=by rw[lC,bh rfl]
 have A:∀a g,ρ.put m.next ⟨f.c,f.d+o,f.room-o,size⟩ a=Z g->(a=m.next/\g=⟨f.c,f.d+o,f.room-o,size⟩)\/(a≠m.next/\ρ a=Z g):=by
  intro a g q;unfold dz.put at q
  split at q
  .rename_i e;exact .inl ⟨e,(Option.some.inj q).symm⟩
  .rename_i e;exact .inr ⟨e,q⟩
 have XI:∀x,m.px b (o+x):=λx=>⟨hk,eH QE _,λcF=>by
  have h1:=aB.1 q0;obtain⟨y,hy⟩:∃y,((m.blk b).cs.drop o)[x]?=Z y:=⟨_,List.getElem?_eq_getElem (by simp;omega)⟩;have h2:=h1 y (List.mem_of_getElem? hy);obtain⟨v,rfl⟩:=sH.1 h2;rw[List.getElem?_drop]at hy;exact⟨v,hy⟩⟩
 have XH:∀x,m.okW b (o+x):=λx=>⟨XI x,hfo.imp id λy=>kQ y _⟩
 have V:=dz.vr hn ⟨f.c,f.d+o,f.room-o,size⟩;refine⟨V,⟨λa g q=>?_,λa g q j=>?_,λa g x v q s=>?_,λa g x q K j r=>?_,λa g q j X=>?_,λa g q j X=>?_,λzD zB R Q T h₁ Cm l k s=>?_,λa g q=>?_,λa g q j yr=>?_⟩,⟨?_,?_,?_⟩,CE⟩
 .rcases A _ _ q with⟨rfl,rfl⟩|⟨_,i⟩
  .omega
  .have :=h.oe _ _ i;omega
 .rcases A _ _ q with⟨rfl,rfl⟩|⟨p,i⟩
  .rw[N];refine⟨rfl,?_,e0,n0,by rw[F.shape];exact agT,?_⟩
   .simp only[List.length_map,List.length_append];omega
   .show f.d+o+(f.room-o)<=n0;omega
  .obtain⟨_,e⟩:=t a p ai;rw[e]at j⊢;obtain⟨E,z,e1,n1,D,H⟩:=h.cells _ _ i j;exact⟨E,z,e1,n1,by rw[F.shape];exact D,H⟩
 .rcases A _ _ q with⟨rfl,rfl⟩|⟨p,i⟩
  .have K:(old++new)[x]?=Z v:=by
    unfold Mem.cell at s;rw[N]at s
    split at s
    .simp only[List.getElem?_map]at s;cases hg:(old++new)[x]? with
     |none=>simp[hg]at s
     |some u=>simp[hg]at s;rw[s]
    .cases s
   show∃P,w'.cell? ⟨f.c,f.d+o+x,Y⟩=Z P/\_
   rw[F.cell];rcases Nat.lt_or_ge x (len*size)with cF|uV
   .rw[List.getElem?_append_left ai]at K;obtain⟨u,hu,hu2⟩:=Zu x cF;rw[hu2]at K;cases K;rw[List.getElem?_drop]at hu;have mK:m.cell b (o+x)=Z v:=by unfold Mem.cell;rw[bh ⟨hk,eH QE _⟩,hu];rfl
    obtain⟨P,L,C⟩:=h.lZ b f _ v B mK;refine⟨P,?_,C.iX V⟩;rw[bH ai,show f.d+o+x=f.d+(o+x) by omega];exact L
   .rw[List.getElem?_append_right ai]at K;obtain⟨P,L,C⟩:=kj.get K;have :x-old.length<W.length:=by
     rcases Nat.lt_or_ge (x-old.length) W.length with h1|h1
     .exact h1
     .rw[List.getElem?_eq_none h1]at L;cases L
    refine⟨P,?_,C.iX V⟩;rw[bh ⟨ai,ai⟩,show f.d+o+x-(f.d+o+len*size)=x-old.length by omega];exact L
  .have hkM:=(Mem.eW s).1;obtain⟨r,e⟩:=t a p ai;have EK:m.cell a x=Z v:=by unfold Mem.cell at s⊢;rw[e,QU]at s;exact s
   obtain⟨P,L,C⟩:=h.lZ a g x v i EK;refine⟨P,?_,C.iX V⟩;have j:=(Mem.eW EK).1;have Ew:=jw h i EK
   by_cases J:g.c=f.c
   .have :=(h.sep b a f g (Ne.symm r) B i ai ai J.symm).2.2;rw[J,F.cell,bH ai,<-J];exact L
   .rw[F.Fh J];exact L
 .rw[F.sE];rcases A _ _ q with⟨rfl,rfl⟩|⟨p,i⟩
  .have :=h.thaw b f (o+x) B (by simp only at K;omega) hk (Mem.tW wQ);rw[<-Nat.add_assoc]at this;exact this
  .obtain⟨_,e⟩:=t a p ai;rw[e]at j;rw[Mb]at r;exact h.thaw a g x i K j r
 .rcases A _ _ q with⟨rfl,rfl⟩|⟨p,i⟩
  .rw[N]at j;simp at j
  .obtain⟨r,e⟩:=t a p ai;rw[e]at j⊢;rw[XF]at X;obtain⟨mT,E,z⟩:=h.maps _ _ i j X;have T:g.c≠f.c:=λJ=>by have :=(h.sep b a f g (Ne.symm r) B i ai ai J.symm).2.1;omega
   exact⟨mT,by rw[F.others _ T];exact E,z.mono λ_ _ x=>⟨x.1.iX V,x.2.1.iX V,x.2.2⟩⟩
 .rcases A _ _ q with⟨rfl,rfl⟩|⟨p,i⟩
  .rw[N]at j;simp at j
  .obtain⟨r,e⟩:=t a p ai;rw[e]at j⊢;rw[XF]at X;obtain⟨E,z⟩:=h.mJ _ _ i j X;have T:g.c≠f.c:=λJ=>by have :=(h.sep b a f g (Ne.symm r) B i ai ai J.symm).2.1;omega
   exact⟨E,by rw[F.others _ T];exact z⟩
 .rcases A _ _ h₁ with⟨rfl,rfl⟩|⟨aet,aek⟩<;>rcases A _ _ Cm with⟨rfl,rfl⟩|⟨aes,aej⟩
  .exact absurd rfl T
  .obtain⟨r,e⟩:=t zB aes k;rw[e]at k⊢;have :=h.sep b zB f Q (Ne.symm r) B aej ai k s;rw[N];refine⟨rfl,this.2.1,?_⟩
   show f.room-o=0\/Q.room=0\/f.d+o+(f.room-o)<=Q.d\/Q.d+Q.room<=f.d+o
   omega
  .obtain⟨r,e⟩:=t zD aet l;rw[e]at l⊢;have :=h.sep b zD f R (Ne.symm r) B aek ai l s.symm;rw[N];refine⟨this.2.1,rfl,?_⟩
   show R.room=0\/f.room-o=0\/R.d+R.room<=f.d+o\/f.d+o+(f.room-o)<=R.d
   omega
  .obtain⟨_,ac2⟩:=t zD aet l;obtain⟨_,ac1⟩:=t zB aes k;rw[ac2]at l⊢;rw[ac1]at k⊢;exact h.sep zD zB R Q T aek aej l k s
 .rw[F.size];rcases A _ _ q with⟨rfl,rfl⟩|⟨p,i⟩
  .exact h.sX b f B
  .exact h.sX _ _ i
 .rcases A _ _ q with⟨rfl,rfl⟩|⟨p,i⟩
  .rw[N]at yr;simp at yr
  .obtain⟨_,e⟩:=t a p ai;rw[e]at j yr;exact h.vars a g i j yr
 .rintro c x ⟨a,g,E,z,D,H,G⟩;rcases A _ _ E with⟨rfl,rfl⟩|⟨p,i⟩
  .simp only at D H;refine .inl ⟨b,f,B,z,ai,ai,?_⟩;rw[show x-f.d=o+(x-(f.d+o)) by omega];exact XI _
  .obtain⟨_,e⟩:=t a p (by have :=G.1;omega);exact .inl ⟨a,g,i,z,D,H,by unfold Mem.px at G⊢;rw[e,QU]at G;exact G⟩
 .rintro c x ⟨a,g,E,z,D,H,G⟩;rcases A _ _ E with⟨rfl,rfl⟩|⟨p,i⟩
  .simp only at D H;refine .inl ⟨b,f,B,z,ai,ai,?_⟩;rw[show x-f.d=o+(x-(f.d+o)) by omega];exact XH _
  .obtain⟨_,e⟩:=t a p (by have :=G.1.1;omega);exact .inl ⟨a,g,i,z,D,H,by unfold Mem.okW Mem.px at G⊢;rw[e,QU,hMf,hMo]at G;exact G⟩
 .rintro c ⟨a,g,E,z,D,H⟩;rcases A _ _ E with⟨rfl,rfl⟩|⟨p,i⟩
  .rw[N]at D;simp at D
  .obtain⟨_,e⟩:=t a p ai;exact .inl ⟨a,g,i,z,by rwa[e]at D,by rwa[XF]at H⟩
end
section
variable {P:aE}{ρ:dz}{m:Mem}{w:ar}{N:Nat}
theorem Lo {n:Nat}{R Q}(a:Q () w):dY P R N (askRoom n) Q w:=by
 unfold askRoom
 split
 .exact⟨trivial,a⟩
 .exact a
theorem RX (h:gq ρ m w)(d:Nat):gq ρ m {w with drawn:=d}:=h.keeps (bC.at _ _ _)
theorem Ca {z:ab}(b:z.cells.toList.all de=U)(n:Nat):(Builtin.zeroCells z.cells n).toList.all de=U:=by
 unfold Builtin.zeroCells;rw[aB];intro x a;simp only[Array.toList_map,List.mem_map]at a;obtain⟨i,_,rfl⟩:=a;exact vy b _
theorem Da (z:Array ab)(n:Nat):(Builtin.zeroCells z n).size=n*z.size:=by simp[Builtin.zeroCells]
theorem O8 (need old:Nat)(e:aT)(t:Nat)(h:need<=2^46):need<=(Question.appendCap need old e).cut t/\(Question.appendCap need old e).cut t<dp:=by
 simp only[Question.cut];have :t%(2^63-need)<2^63-need:=Nat.mod_lt _ ai;unfold dp;omega
theorem NJ {w:ar}{c e n x:Nat}(h:w.shape? c=Z (e,n))(b:x<n):(w.cell? ⟨c,x,Y⟩).isSome=U:=by
 unfold ar.shape? at h;unfold ar.cell?
 split at h
 .rename_i C d f a;simp only[ah,ay]at h;simp only[a];have :x<C.size:=ai;simp[this]
 .cases h
theorem Lk {b o:Nat}(f:(m.blk b).kind=1)(d:m.fL b=U)(e:((m.blk b).cs.drop o).all (·.isSome)=U):∀x,m.okW b (o+x):=by
 obtain⟨i,c⟩:=Mem.nG d;refine λx=>⟨⟨f,eH i _,λj=>?_⟩,c.imp id λy=>kQ y _⟩
 have h:=aB.1 e;obtain⟨y,a⟩:∃y,((m.blk b).cs.drop o)[x]?=Z y:=⟨_,List.getElem?_eq_getElem (by simp;omega)⟩;have g:=h y (List.mem_of_getElem? a);obtain⟨v,rfl⟩:=sH.1 g;rw[List.getElem?_drop]at a;exact⟨v,a⟩
def sj (ρ:dz)(len cap:Nat)(base vM:Option Addr)(gX:Nat):Prop:=
 match base with
 |some a=>∃p,ρ a.block=Z p/\a.spot=Y/\vM=Z ⟨p.c,p.d+a.off,Y⟩/\(if cap=dp then len<=gX/\a.off+gX*p.sz<=p.room else gX=cap)
 |none=>vM=Y/\gX=cap
theorem sj.of{len b:Nat}{base e}(h:aV ρ (.slice base len b) e):∃d c,e=.slice d len c/\sj ρ len b base d c:=by
 cases base with
 |none=>obtain rfl:=(aG (by rfl)).1 h;exact⟨Y,b,rfl,rfl,rfl⟩
 |some a=>obtain⟨p,c,j,i,g,f⟩:=cp.1 h;exact⟨_,c,g,p,j,i,rfl,f⟩
theorem sj.exact{len b d:Nat}{base e}(h:sj ρ len b base e d)(f:b≠dp):d=b:=by
 cases base with
 |none=>exact h.2
 |some a=>obtain⟨p,_,_,_,c⟩:=h;rw[bH f]at c;exact c
theorem vj {n old:Nat}{e R Q}(c:n<=2^46)(b:∀a,n<=a->a<dp->Q a {w with drawn:=w.drawn+1}):dY P R N (choose (.appendCap n old e)) Q w:=by
 obtain⟨d,f⟩:=O8 n old e (w.tape w.drawn (.appendCap n old e)) c;exact b _ d f
set_option maxHeartbeats 1000000 in
theorem Gy(h:gq ρ m w){mH ty s s' x x' v m'}(hs:aV ρ s s')(hx:aV ρ x x')(f:cJ P mH s x m=Z (v,m'))
  {Q}(hq:∀G T bK,Left ρ m w bK m' T->aV bK v G->Q G T):dY P (az ρ m) N (Builtin.append_ mH ty #[s',x']) Q w:=by
 unfold cJ at f
 split at f
 .rename_i e xt base len S fA hxt;obtain⟨st,OF,fA⟩:=bM.1 fA
  split at f
  .rename_i size n xe QF hlen hxu
   split at f
   .cases f
   .rename_i new kj
    split at f
    .cases f
    .rename_i QQ;have EG:AB P e (len+n)=U:=by
      cases V:AB P e (len+n)with
      |false=>exact absurd (.inl V) QQ
      |true=>rfl
     have hnl:new.length=n*size:=Decidable.byContradiction λV=>QQ (.inr (.inl V))
     have amq:∀u∈new,u.oneCell'=U:=by
      cases V:new.all (·.oneCell')with
      |false=>exact absurd (.inr (.inr V)) QQ
      |true=>exact λu hu=>aB.1 V u hu
     clear QQ;unfold AB at EG
     split at EG
     case h_2=>cases EG
     rename_i i J;simp only[ag,iU]at EG;obtain⟨⟨⟨Zy,nK⟩,nJ⟩,hz⟩:=EG;obtain⟨z,hz⟩:=sH.1 hz;obtain⟨hzp,hzs⟩:=kl hz;have apK:z.cells.size=size:=by rw[QF]at hzs;exact(Option.some.inj hzs).symm
     obtain⟨vM,D,ui,r⟩:=sj.of hs;subst ui;have arR:(len+n)*size=len*size+n*size:=Nat.add_mul ..;unfold Builtin.append_;simp only[OF,hxt,List.getElem?_toArray,List.getElem?_cons_zero,List.getElem?_cons_succ];rw[au];refine aH fA ?_;simp only[];rw[au];refine dS QF ?_;rw[au];refine aH hxu ?_;simp only[pure_bind,cK,if_false,Bool.not_false,if_true,false_or];rw[au];refine Ek hx hlen ?_
     by_cases X:len+n<=D
     .rw[bh X,au];refine qq h hx kj λF E=>?_
      by_cases A:S=dp
      .rw[bh A]at f
       split at f
       .rename_i b o;obtain⟨l,t,_,rfl,r⟩:=r;rw[bh A]at r;simp only[jL]at t r⊢;rw[au];simp only[]at f
        split at f
        .rename_i hk;simp only[ag,beq_iff_eq]at hk;obtain⟨⟨⟨W,Hr⟩,XQ⟩,H⟩:=hk
         split at f
         .rename_i old hold;simp only[ah,ay]at f;obtain⟨rfl,rfl⟩:=f;obtain⟨ap0,T5,e0,n0,agT,hn0⟩:=h.cells b l t W;have amm:l.sz=size:=by rw[ap0,Hr]
          rw[amm]at r;have hmul:(len+n)*size<=D*size:=Nat.mul_le_mul_right _ X;have XH:=Lk W XQ H;have ap3:F.length=n*size:=by rw[<-E.length,hnl]
          refine qS F 0 w (λu hu=>?_) (λj hj=>?_) (λT hw=>?_)
          .obtain⟨i,J⟩:=List.mem_iff_getElem?.1 hu;obtain⟨u',Xs,hr⟩:=E.get' J;exact hr.P4 (amq _ (List.mem_of_getElem? Xs))
          .have e2:l.d+o+len*size+0+j=l.d+(o+(len*size+j)):=ai;rw[e2];have wN:o+(len*size+j)<l.room:=ai;exact⟨NJ agT ai,h.thaw b l _ t wN W (Mem.tW XQ),zV t wN (XH _)⟩
          .rw[Nat.add_zero]at hw;have q:=Fw h t W Hr XQ H hold E hnl (n:=n) ai hw;refine hq _ _ _ q (cp.2 ⟨_,D,dz.lL ..,rfl,rfl,?_⟩);rw[bh rfl];refine⟨X,?_⟩
           show 0+D*size<=l.room-o
           omega
         .cases f
        .cases f
       .cases f
      .rw[bH A]at f;obtain rfl:=r.exact A;rw[bh X]at f;cases base with
       |none=>
        obtain⟨rfl,_⟩:=r;simp only[ah,ay]at f;obtain⟨rfl,rfl⟩:=f;exact hq _ _ _ (Left.refl h) ((aG (by rfl)).2 rfl)
       |some a=>
        obtain⟨l,t,aeg,rfl,r⟩:=r;obtain⟨b,o,sp⟩:=a;simp only at aeg t r;subst aeg;simp only[jL];rw[au];obtain⟨m2,zQ,Yf⟩:=aD.1 f;simp only[ay]at Yf;obtain⟨rfl,rfl⟩:=Yf;have :=qM (P:=P) (N:=N) h t zQ E (Q:=λ_ T=>Q (.slice (Z ⟨l.c,l.d+o,Y⟩) (len+n) D) T) (λT q _=>hq _ _ _ q (cp.2 ⟨l,D,t,rfl,rfl,by rw[bH A]⟩));rw[show l.d+o+len*size=l.d+(o+len*size) by omega];exact this
     .
      have cF:D<len+n:=ai;rw[bH X,au];refine iB J ?_;rw[bH (by rintro⟨_,h2⟩;omega),au];refine iB J ?_;have ar8:=growslice_fits (need:=len+n) (old:=D) (bytes:=i.bytes) cF ai;rw[bH ai,au];refine vj nJ λy hn1 hn2=>?_
      generalize aec:({w with drawn:=w.drawn+1}:ar)=aR;have p:gq ρ m aR:=by rw[<-aec];exact RX h _
      have amb:aR.heap.size=w.heap.size:=by rw[<-aec]
      rw[au];refine iB J ?_;rw[au];refine Lo ?_;rw[au];obtain⟨old,hold,SV,q8⟩:∃old,mr m size len (.slice base len S)=Z old/\old.length=len*size/\
        ∀(C:Array ab),(old++new).length<=C.size->y*size<=C.size->(∀(i:Nat) v,(old++new)[i]?=Z v->∃G,C[i]?=Z G/\aV ρ v G)->Q (.slice (Z ⟨aR.heap.size,0,Y⟩) (len+n) y) {aR with heap:=aR.heap.push (.cells C e)}:=by
       by_cases A:S=dp
       .rw[bh A]at f
        split at f
        .rename_i b o;obtain⟨l,t,_,_,_⟩:=r;simp only[]at f
         split at f
         .rename_i hk;simp only[ag,beq_iff_eq]at hk;obtain⟨⟨⟨W,Hr⟩,XQ⟩,H⟩:=hk
          split at f
          .rename_i old hold;simp only[ah,ay]at f;obtain⟨rfl,rfl⟩:=f;refine⟨old,?_,(sr hold).1,λC R M L=>?_⟩
           .show m.dP b o (len*size)=Z old
            unfold Mem.dP;simp only[];rw[bh (by rw[W,gV (Mem.nG XQ).1];rfl)];exact hold
           .have q:=(p.kill b).cI (sz:=size) (ps:=0) (vs:=old++new) (C:=C) e R L;have K:Left ρ m w _ _ _:=⟨q.le,q.kH,by rw[<-amb];exact(Kf b _).trans q.within,q.old⟩;refine hq _ _ _ K (cp.2 ⟨_,y,dz.lL ..,rfl,congrArg (λk=>ab.slice (Z ⟨aR.heap.size,k,Y⟩) (len+n) y) (Nat.zero_add 0).symm,?_⟩);rw[bh rfl];exact⟨hn1,by simpa using M⟩
          .cases f
         .cases f
        .cases f
       .rw[bH A]at f;obtain rfl:=r.exact A;rw[bH ai]at f
        split at f
        .rename_i old hold
         split at f
         .rename_i SV;simp only[ah,ay]at f;obtain⟨rfl,rfl⟩:=f;refine⟨old,hold,SV,λC R M L=>?_⟩;have q:=(p.cI (sz:=size) (ps:=0) (vs:=old++new) (C:=C) e R L);have K:Left ρ m w _ _ _:=⟨q.le,q.kH,by rw[<-amb];exact q.within,q.old⟩;refine hq _ _ _ K (cp.2 ⟨_,y,dz.lL ..,rfl,congrArg (λk=>ab.slice (Z ⟨aR.heap.size,k,Y⟩) (len+n) y) (Nat.zero_add 0).symm,?_⟩);rw[bh rfl];exact⟨hn1,by simpa using M⟩
         .cases f
        .cases f
      refine qq p hs hold λB kZ=>?_
      rw[au];refine qq p hx kj λF E=>?_
      rw[au];refine fD hz ?_;rw[au];refine qT ?_;have hzl:=Da z.cells (y-(len+n));have LX:=kZ.length;have Zu:=E.length;have hnc:y*size=(len+n)*size+(y-(len+n))*size:=by rw[<-Nat.add_mul];congr 1;omega
      refine q8 _ ?_ ?_ λi v J=>?_
      .simp only[Array.size_append,List.size_toArray,List.length_append];omega
      .simp only[Array.size_append,List.size_toArray,hzl,apK];omega
      .obtain⟨G,h1,h2⟩:=(kZ.append E).get J;refine⟨G,?_,h2⟩;have cF:i<(B++F).length:=by
        rcases Nat.lt_or_ge i (B++F).length with g|g
        .exact g
        .rw[List.getElem?_eq_none g]at h1;cases h1
       have e0:B.toArray++F.toArray=(B++F).toArray:=dA;rw[e0,Array.getElem?_append_left (by simpa using cF)];simpa using h1
  .cases f
 .cases f
end
end Go.AM
