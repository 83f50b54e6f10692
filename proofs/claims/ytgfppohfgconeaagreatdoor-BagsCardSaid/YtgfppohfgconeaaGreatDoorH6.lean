/-
  What the claim stands on, part 6.
-/
import Derived.Test.YtgfppohfgconeaaGreatDoorH5
import Derived.Laws.StructEq
set_option linter.unusedVariables false
set_option linter.unusedSimpArgs false
open Go.Proofs.Tryz renaming prog → ab
open Go renaming Value → ae, Program → aC, TypeId → aO, Operand → bS, IntKind → bU, Oper → gK
open Nat renaming le_of_ble_eq_true → af, le_refl → aj, eq_of_beq_eq_true → ay, lt_of_lt_of_le → aW, le_trans → bV
open Bool renaming and_eq_true → ag, false_eq_true → cF
open Option.some renaming injEq → ah
open Prod.mk renaming injEq → au
open Option renaming map_eq_some_iff → az, map_some → cU, bind_some → dq, isSome_iff_exists → qU
open List renaming all_eq_true → aB
namespace Go.AM
open Go
inductive T (α:Type) where
 |done(a:α)
 |fail
 |mem(f:Mem->Option (ae×Mem))(k:ae->T α)
 |call(f:Nat)(args:List ae)(k:ae->T α)
 |bM(fv:ae)(args:List ae)(k:ae->T α)
 |lP(r:Option (Nat×ae))(args:List ae)(k:ae->T α)
 |val(r:Option ae)(k:ae->T α)
 |cond(v:ae)(k:Bool->T α)
 |idx(n:Int)(len:Nat)(k:Nat->T α)
def den {R:Type}(cl:cE):T R->Mem->Option (R×Mem)
 | .done a,m=>some (a,m)
 | .fail,_=>none
 | .mem f k,m=>match f m with |some (v,m')=>den cl (k v) m'|none=>none
 | .call f args k,m=>match cl f args m with |some (v,m')=>den cl (k v) m'|none=>none
 | .bM fv args k,m=>match fv with
  | .func (.func f) first cap=>(match cl f (first.toList++args++cap.toList) m with |some (v,m')=>den cl (k v) m'|none=>none)
  |_=>none
 | .lP r args k,m=>match r with
  |some (f,recv)=>(match cl f (recv::args) m with |some (v,m')=>den cl (k v) m'|none=>none)
  |none=>none
 | .val r k,m=>match r with |some v=>den cl (k v) m|none=>none
 | .cond v k,m=>match v with | .bool b=>den cl (k b) m|_=>none
 | .idx n len k,m=>match n with | .ofNat i=>(match Nat.blt i len with |true=>den cl (k i) m|false=>none)| .negSucc _=>none
section
variable {R:Type}
def IK (p:ae)(k:Nat->Nat->T R):T R:=match p with | .pointer (some ⟨b,o,none⟩)=>k b o|_=> .fail
def oj (x y:ae)(k:bU->Int->Int->T R):T R:=
 match x with
 | .int a i=>match y with
  | .int b j=>match Nat.beq (xI a) (xI b)with |true=>k a i j|false=> .fail
  |_=> .fail
 |_=> .fail
def Ib (x y:ae)(k:ByteArray->ByteArray->T R):T R:=
 match x with
 | .string a=>match y with
  | .string b=>k a b
  |_=> .fail
 |_=> .fail
def Lz (r:Option ae)(k:ae->T R):T R:=match r with |some v=>k v|none=> .fail
def H0 (q:Int->Int->Option Nat)(f:Int->Int->Int)(a:bU)(i j:Int):Int:=
 match q i j with
 |some n=>match Nat.blt n (gv a)with |true=> .ofNat n|false=>a.wrap (f i j)
 |none=>a.wrap (f i j)
def Q3 (nS:Bool)(i j:Int):Int:=
 match cO j i with
 |true=>match nS with |true=>i|false=>j
 |false=>match nS with |true=>j|false=>i
def Ar (s:ByteArray)(i:Nat):Nat:=match wN s.data.toList i with |some b=>b.toNat|none=>0
def acP (x:bS):bS:=match x with | .const _=> .const .nilFunc|_=> .tmp 0
def acQ (c:Bool):bS:=match c with |true=> .const .nilFunc|false=> .tmp 0
def pu (P:aC)(lf:List ae)(s:Sem ae):Option ae:=
 match lf.all plain with
 |true=>match s.aM P with
  |some v=>match plain v with |true=>some v|false=>none
  |none=>none
 |false=>none
def gE (P:aC)(op:BinOp)(t:aO)(cx cy:Bool)(a b:ae):Option ae:=pu P [a,b] (do eqGuard op t (acQ cx) (acQ cy) a b;binOp op t a b)
def eq2 (P:aC)(op:BinOp)(t:aO)(cx cy:Bool)(a b:ae)(k:ae->T R):T R:=
 match op with
 | .eql=>(match rF P t cx cy a b with |some v=>k (.bool v)|none=> .val (gE P op t cx cy a b) k)
 | .neq=>(match rF P t cx cy a b with |some v=>k (.bool (!v))|none=> .val (gE P op t cx cy a b) k)
 |_=> .val (gE P op t cx cy a b) k
def aD (b o:Nat)(m:Mem):Option (ae×Mem):=
 match m.blk b with
 |⟨1,_,cs,_,_,_,_,_⟩=>match OE m b o 1 with
  |true=>match JV o cs with
   |some v::_=>some (v,m)
   |_=>none
  |false=>none
 |_=>none
def eU (n b o:Nat)(m:Mem):Option (ae×Mem):=match m.dK b o n with |some l=>some (.agg l.toArray,m)|none=>none
def eH (b o:Nat)(v:ae)(m:Mem):Option (ae×Mem):=
 match lj v with
 |false=>none
 |true=>match m.blk b with
  |⟨1,sz,cs,es,c,str,pos,_⟩=>match P2 m b o with
   |true=>match wi o cs v with
    |some jf=>some (undef,{m with heap:=m.heap.put b ⟨1,sz,jf,es,c,str,pos,m.tick⟩,tick:=Nat.succ m.tick})
    |none=>none
   |false=>none
  |_=>none
def DT (b o:Nat)(vs:List ae)(m:Mem):Option (ae×Mem):=match m.dP b o vs with |some m'=>some (undef,m')|none=>none
def lU (cs:List (Option ae))(m:Mem):Option (ae×Mem):=
 some (ptrTo m.next 0,{m with heap:=m.heap.put m.next ⟨1,0,cs,#[],0,.empty,1,m.tick⟩,tick:=Nat.succ m.tick,next:=Nat.succ m.next})
def lB (P:aC)(t:aO)(x:ae)(lo hi:Option ae)(m:Mem):Option (ae×Mem):=match iy P t x lo hi m with |some v=>some (v,m)|none=>none
def uR (P:aC)(t:aO)(x k:ae)(ok:Bool)(m:Mem):Option (ae×Mem):=match iQ P t x k ok m with |some v=>some (v,m)|none=>none
def Tf (P:aC)(t:aO)(x k v:ae)(m:Mem):Option (ae×Mem):=match kT P t x k v m with |some m'=>some (undef,m')|none=>none
def I7 (m:Mem):Option (ae×Mem):=some (.map (some m.next),m.alloc {kind:=2})
def N1 (P:aC)(first :Array ae)(name:String)(v:ae):Option ae:=
 match(first[0]?:Option ae)with
 |some r=>match(jQ P r name).isSome with |true=>some v|false=>none
 |none=>none
def ik (q:Nat->Nat->Nat)(a:bU)(i j:Int)(d:Option ae):Option ae:=
 match i with
 | .ofNat i=>match j with
  | .ofNat (j+1)=>match Nat.blt i (gv a)with |true=>some (.int a (.ofNat (q i (Nat.succ j))))|false=>d
  |_=>d
 |_=>d
def rJ (q:Nat->Nat->Nat)(a:bU)(i j:Int)(d:Option ae):Option ae:=
 match i with
 | .ofNat i=>match j with
  | .ofNat j=>match Nat.blt i (gv a)&&Nat.blt j (gv a)with |true=>some (.int a (.ofNat (q i j)))|false=>d
  |_=>none
 |_=>d
def Hy (a b:ByteArray):Option ae:=match Nat.blt (a.size+b.size) 9223372036854775808 with |true=>some (.string (a++b))|false=>none
abbrev DO (R:Type):=Tm->(ae->T R)->T R
def ac2 (P:aC)(op:BinOp)(t:aO)(cx cy:Bool)(x y:j9):DO R:=
 match P.underlying t with
 |some (.int _)=>match op with
  | .lss=>fun tm k=>oj (x tm) (y tm) fun _ i j=>k (.bool (cO i j))
  | .leq=>fun tm k=>oj (x tm) (y tm) fun _ i j=>k (.bool (fM i j))
  | .gtr=>fun tm k=>oj (x tm) (y tm) fun _ i j=>k (.bool (nV i j))
  | .geq=>fun tm k=>oj (x tm) (y tm) fun _ i j=>k (.bool (gU i j))
  | .eql=>fun tm k=>oj (x tm) (y tm) fun _ i j=>k (.bool (ie i j))
  | .neq=>fun tm k=>oj (x tm) (y tm) fun _ i j=>k (.bool (nK i j))
  | .add=>fun tm k=>oj (x tm) (y tm) fun a i j=>k (.int a (H0 Vb Int.add a i j))
  | .sub=>fun tm k=>oj (x tm) (y tm) fun a i j=>k (.int a (H0 vZ Int.sub a i j))
  | .mul=>fun tm k=>oj (x tm) (y tm) fun a i j=>k (.int a (H0 noQ Int.mul a i j))
  | .or=>fun tm k=>oj (x tm) (y tm) fun a i j=> .val (rJ Nat.lor a i j (gE P op t cx cy (x tm) (y tm))) k
  | .and=>fun tm k=>oj (x tm) (y tm) fun a i j=> .val (rJ Nat.land a i j (gE P op t cx cy (x tm) (y tm))) k
  | .xor=>fun tm k=>oj (x tm) (y tm) fun a i j=> .val (rJ Nat.xor a i j (gE P op t cx cy (x tm) (y tm))) k
  | .quo=>fun tm k=>oj (x tm) (y tm) fun a i j=> .val (ik Nat.div a i j (gE P op t cx cy (x tm) (y tm))) k
  | .rem=>fun tm k=>oj (x tm) (y tm) fun a i j=> .val (ik Nat.mod a i j (gE P op t cx cy (x tm) (y tm))) k
  |_=>fun tm k=> .val (gE P op t cx cy (x tm) (y tm)) k
 |some .string=>match op with
  | .eql=>fun tm k=>Ib (x tm) (y tm) fun a b=>k (.bool ((a.toList==b.toList)==true))
  | .neq=>fun tm k=>Ib (x tm) (y tm) fun a b=>k (.bool ((a.toList==b.toList)==false))
  | .add=>fun tm k=>Ib (x tm) (y tm) fun a b=> .val (Hy a b) k
  |_=>fun tm k=> .val (gE P op t cx cy (x tm) (y tm)) k
 |_=>fun tm k=>eq2 P op t cx cy (x tm) (y tm) k
def loadT (P:aC)(t:aO)(x:j9):Option (DO R):=
 match zC P t with
 |some true=>match ep P t with
  |some n=>some fun tm k=>IK (x tm) fun b o=> .mem (eU n b o) k
  |none=>none
 |some false=>some fun tm k=>IK (x tm) fun b o=> .mem (aD b o) k
 |none=>none
def storeT (P:aC)(t:aO)(p x:j9):Option (DO R):=
 match ep P t with
 |some n=>match zC P t with
  |some true=>some fun tm k=>IK (p tm) fun b o=>match x tm with
   | .agg cs=>(match Nat.beq n cs.size with |true=> .mem (DT b o cs.toList) k|false=> .fail)
   |_=> .fail
  |some false=>match Nat.beq n 1 with |true=>some fun tm k=>IK (p tm) fun b o=> .mem (eH b o (x tm)) k|false=>none
  |none=>none
 |none=>none
def wG (P:aC)(s:aO)(p:j9)(f:Nat):Option (DO R):=
 match P.underlying s with
 |some (.struct fields)=>match fields[f]? with
  |some fd=>match ep P fd.type with
   |some (_+1)=>some fun tm k=>IK (p tm) fun b o=>k (ptrTo b (Nat.add o fd.offset))
   |_=>none
  |none=>none
 |_=>none
def wz (P:aC)(t:aO)(x i:j9):Option (DO R):=
 match P.underlying t with
 |some (.slice e)=>match ep P e with
  |some s=>some fun tm k=>match x tm with
   | .slice (some ⟨b,o,none⟩) len _=>(match i tm with | .int _ n=> .idx n len fun j=>k (ptrTo b (Nat.add o (Nat.mul j s)))|_=> .fail)
   |_=> .fail
  |none=>none
 |some (.array len e)=>match ep P e with
  |some s=>some fun tm k=>IK (x tm) fun b o=>match i tm with | .int _ n=> .idx n len fun j=>k (ptrTo b (Nat.add o (Nat.mul j s)))|_=> .fail
  |none=>none
 |_=>none
def Mc (P:aC)(t:aO)(x i:j9):Option (DO R):=
 match P.underlying t with
 |some .string=>some fun tm k=>match x tm with
  | .string s=>(match i tm with | .int _ n=> .idx n s.size fun j=>k (.int .u8 (.ofNat (Ar s j)))|_=> .fail)
  |_=> .fail
 |_=>some fun tm k=>Lz (wB P t (x tm) (i tm)) k
def abI (P:aC)(t:aO)(x:j9):Option (DO R):=
 match P.underlying t with
 |some .string=>some fun tm k=>match x tm with | .string s=>k (.int .i64 (.ofNat s.size))|_=> .fail
 |some (.slice _)=>some fun tm k=>match x tm with | .slice _ n _=>k (.int .i64 (.ofNat n))|_=> .fail
 |_=>none
def Te (nS:Bool)(x y:j9):DO R:=fun tm k=>match x tm with
 | .int a i=>match y tm with
  | .int _ j=>k (.int a (Q3 nS i j))
  |_=> .fail
 |_=> .fail
def Ci (f:Tm->Mem->Option (ae×Mem)):DO R:=fun tm k=> .mem (f tm) k
def Up (P:aC)(t:aO):Bool:=match P.underlying t with
 |some (.struct fields)=>fields.any fun f=>match P.underlying f.type with |some (.interface _)=>true|_=>false
 |_=>false
def UD (P:aC)(o:gK):Option (DO R):=
 match o.op with
 | .unOp op _ x=>some fun tm k=> .val (pu P [dz tm x] (Op.unary op (dz tm x))) k
 | .build t ps=>match Up P t with
  |true=>some fun tm k=> .val (Dl P t (ps.map fun(i,x)=>(i,dz tm x)).toList) k
  |false=>some fun tm k=>Lz (Dl P t (ps.map fun(i,x)=>(i,dz tm x)).toList) k
 | .buildSlice t n ps=>some (Ci fun tm=>bY P t n (ps.map fun(i,x)=>(i,dz tm x)).toList)
 | .convert s d x=>some fun tm k=>match P.underlying s,P.underlying d with
  |some (.int _),some (.int _)=> .val (pu P [dz tm x] (convert s d (dz tm x))) k
  |_,_=> .mem (fK P s d (dz tm x)) k
 | .makeInterface t x=>match P.underlying t with |some (.interface _)=>none|some _=>some fun tm k=>k (.iface t (dz tm x))|none=>none
 | .makeFunc fn f c=>some fun tm k=>k (.func fn (f.map (dz tm)) (c.map (dz tm)))
 | .makeMap _ none=>some (Ci fun _=>I7)
 | .makeSlice t l c=>some (Ci fun tm=>fP P t (dz tm l) (dz tm c))
 | .slice t x lo hi none=>some fun tm k=>match dz tm x with
  | .string s=> .val (pu P (.string s::((lo.map (dz tm)).toList++(hi.map (dz tm)).toList)) (Instr.sliceAt t (.string s) (lo.map (dz tm)) (hi.map (dz tm)) none)) k
  |v=> .mem (lB P t v (lo.map (dz tm)) (hi.map (dz tm))) k
 | .field s x f=>some fun tm k=>Lz (Hf P s (dz tm x) f) k
 | .lookup t x i ok=>some (Ci fun tm=>uR P t (dz tm x) (dz tm i) ok)
 | .mapUpdate t x i v=>some (Ci fun tm=>Tf P t (dz tm x) (dz tm i) (dz tm v))
 | .typeAssert x t a ok=>some fun tm k=>Lz (qg P (dz tm x) t a ok) k
 | .range t x=>some (Ci fun tm=>yO P t (dz tm x))
 | .next it s=>some (Ci fun tm=>EY (dz tm it) s)
 | .call {callee:= .builtin b,args,argTypes}=>
  match b,args.toList with
  | .append,[s,x]=>some (Ci fun tm=>cZ P argTypes (dz tm s) (dz tm x))
  | .copy,[d,s]=>some (Ci fun tm=>Fz P argTypes (dz tm d) (dz tm s))
  | .clear,[x]=>some (Ci fun tm=>j8 P argTypes (dz tm x))
  |_,_=>none
 |_=>none
def yS (P:aC)(o:gK):Option (DO R):=
 match o.op with
 | .move x=>eJ x fun x=>some fun tm k=>k (x tm)
 | .assign x=>eJ x fun x=>some fun tm k=>k (x tm)
 | .pick c x y=>eJ c fun c=>eJ x fun x=>eJ y fun y=>some fun tm k=> .cond (c tm) fun b=>match b with |true=>k (x tm)|false=>k (y tm)
 | .binOp op t x y _=>let cx:=isConst x;let cy:=isConst y;eJ x fun x=>eJ y fun y=>some (ac2 P op t cx cy x y)
 | .load t x=>eJ x fun x=>loadT P t x
 | .store t p x=>eJ p fun p=>eJ x fun x=>storeT P t p x
 | .fieldAddr s p f=>eJ p fun p=>wG P s p f
 | .indexAddr t x i=>eJ x fun x=>eJ i fun i=>wz P t x i
 | .index t x i=>eJ x fun x=>eJ i fun i=>Mc P t x i
 | .extract x i=>eJ x fun x=>some fun tm k=>match x tm with | .tuple vs=>Lz vs.toList[i]? k|_=> .fail
 | .unOp .not _ x=>eJ x fun x=>some fun tm k=>match x tm with | .bool b=>k (.bool (!b))|_=> .fail
 | .nilCheck x=>eJ x fun x=>some fun tm k=>match x tm with
  | .pointer (some a)=>k (.pointer (some a))
  | .func (.method name) first cap=> .val (N1 P first name (.func (.method name) first cap)) k
  |_=> .fail
 | .alloc e=>match iw P e with
  |some z=>some fun _ k=> .mem (lU (z.cells.toList.map some)) k
  |none=>none
 | .box _ x=>eJ x fun x=>some fun tm k=> .mem (lU ((x tm).cells.toList.map some)) k
 | .call {callee:= .builtin .min,args,.. }=>match args.toList with
  | [x,y]=>eJ x fun x=>eJ y fun y=>some (Te false x y)
  |_=>none
 | .call {callee:= .builtin .max,args,.. }=>match args.toList with
  | [x,y]=>eJ x fun x=>eJ y fun y=>some (Te true x y)
  |_=>none
 | .call {callee:= .value (.func f),args,.. }=>sO args.toList fun xs=>some fun tm k=> .call f (KN xs tm) k
 | .call {callee:= .value x,args,.. }=>eJ x fun x=>sO args.toList fun xs=>some fun tm k=> .bM (x tm) (KN xs tm) k
 | .call {callee:= .invoke r name,args,.. }=>eJ r fun r=>sO args.toList fun xs=>some fun tm k=> .lP (jQ P (r tm) name) (KN xs tm) k
 | .call {callee:= .builtin .len,args,argTypes}=>match args.toList,argTypes.toList with
  | [x],t::_=>eJ x fun x=>abI P t x
  |_,_=>none
 |_=>UD P o
end
end Go.AM
namespace Go.AM
open Go
def wU {R:Type}(op:lu)(t:DO R):Prop:=
 ∀(cl:cE) (tm:Tm) (m:Mem) (K:ae->T R) (r:R×Mem),den cl (t tm K) m=some r->∃v m',(∀df k,op cl tm m df k=k v m' df)/\den cl (K v) m'=some r
section
variable {R:Type}{P:aC}{o:gK}{cl:cE}{tm:Tm}{m:Mem}{r:R×Mem}
theorem jS {f:Mem->Option (ae×Mem)}{k:ae->T R}(h:den cl (.mem f k) m=some r):∃v m',f m=some (v,m')/\den cl (k v) m'=some r:=by
 unfold den at h
 split at h
 ·exact⟨_,_,ft,h⟩
 ·cases h
theorem kJ {x:Option ae}{k:ae->T R}(h:den cl (.val x k) m=some r):∃v,x=some v/\den cl (k v) m=some r:=by
 unfold den at h
 split at h
 ·exact⟨_,rfl,h⟩
 ·cases h
theorem C7 {x:ae}{k:Bool->T R}(h:den cl (.cond x k) m=some r):∃b,x= .bool b/\den cl (k b) m=some r:=by
 unfold den at h
 split at h
 ·exact⟨_,rfl,h⟩
 ·cases h
theorem Hl {n:Int}{len:Nat}{k:Nat->T R}(h:den cl (.idx n len k) m=some r):∃i,n= .ofNat i/\Nat.blt i len=true/\den cl (k i) m=some r:=by
 unfold den at h
 split at h
 ·split at h
  ·exact⟨_,rfl,ft,h⟩
  ·cases h
 ·cases h
theorem yj {x:Option ae}{k:ae->T R}(h:den cl (Lz x k) m=some r):∃v,x=some v/\den cl (k v) m=some r:=by
 unfold Lz at h
 split at h
 ·exact⟨_,rfl,h⟩
 ·cases h
theorem uW {p:ae}{k:Nat->Nat->T R}(h:den cl (IK p k) m=some r):∃b o,p= .pointer (some ⟨b,o,none⟩)/\den cl (k b o) m=some r:=by
 unfold IK at h
 split at h
 ·exact⟨_,_,rfl,h⟩
 ·cases h
theorem yk {x y:ae}{k:bU->Int->Int->T R}(h:den cl (oj x y k) m=some r):∃a i j,x= .int a i/\y= .int a j/\den cl (k a i j) m=some r:=by
 unfold oj at h
 split at h
 ·split at h
  ·split at h
   ·rename_i hb;obtain rfl:=tQ hb;exact⟨_,_,_,rfl,rfl,h⟩
   ·cases h
  ·cases h
 ·cases h
theorem C6 {x y:ae}{k:ByteArray->ByteArray->T R}(h:den cl (Ib x y k) m=some r):∃a b,x= .string a/\y= .string b/\den cl (k a b) m=some r:=by
 unfold Ib at h
 split at h
 ·split at h
  ·exact⟨_,_,rfl,rfl,h⟩
  ·cases h
 ·cases h
theorem gG {v:ae}{m':Mem}(h:dE P (dz tm) o m=some (v,m')):∀df k,jr P o cl tm m df k=k v m' df:=by
 intro df k;unfold jr;rw[h]
theorem pd (a:bU):Nat.beq (xI a) (xI a)=true:=by cases a<;>rfl
theorem acI {f:Int->Int->Bool}{x y:j9}{a:bU}{i j:Int}(hx:x tm= .int a i)(hy:y tm= .int a j):∀df k,Es f x y cl tm m df k=k (.bool (f i j)) m df:=by
 intro df k;unfold Es;rw[hx,hy];simp only[pd,if_true]
theorem aij {q:Int->Int->Option Nat}{f:Int->Int->Int}{x y:j9}{a:bU}{i j:Int}(hx:x tm= .int a i)(hy:y tm= .int a j):∀df k,arF q f x y cl tm m df k=k (.int a (H0 q f a i j)) m df:=by
 intro df k;unfold arF H0;rw[hx,hy];simp only[pd,if_true];cases q i j with
 |none=>rfl
 |some n=>cases hb:Nat.blt n (gv a)<;>simp only[hb,if_true,cF,if_false]
theorem O0 (x:bS):acQ (isConst x)=acP x:=by cases x<;>rfl
theorem JQ {op:BinOp}{t:aO}{x y:bS}{a b:ae}:eqGuard op t (acP x) (acP y) a b=eqGuard op t x y a b:=by
 unfold eqGuard;cases x<;>cases y<;>rfl
theorem ni {s:Sem ae}{v:ae}(h:s.aM P=some v):Sem.aM P (s.bind fun v=>Sem.pure (Next.value v))=some (.value v):=by
 induction s with
 |pure a=>simp only[Sem.aM,ah]at h;subst h;rfl
 |program k ih=>exact ih P h
 |_=>simp[Sem.aM]at h
theorem NH {lf:List ae}{s:Sem ae}{v:ae}(h:pu P lf s=some v):lf.all plain=true/\s.aM P=some v/\plain v=true:=by
 unfold pu at h
 split at h
 ·split at h
  ·split at h
   ·cases h;exact⟨ft,ft,ft⟩
   ·cases h
  ·cases h
 ·cases h
theorem yP {op:BinOp}{t u:aO}{x y:bS}{ev:bS->ae}{v:ae}(ho:o.op= .binOp op t x y u)(h:gE P op t (isConst x) (isConst y) (ev x) (ev y)=some v):dp P ev o=some v:=by
 unfold gE at h;obtain⟨h1,h2,h3⟩:=NH h;refine hY ?_ ?_ h3
 ·rw[ho];simpa[Op.operands]using h1
 ·rw[O0,O0,JQ]at h2;unfold execOp;rw[ho];exact ni h2
theorem u7 {op:BinOp}{t u:aO}{x y:bS}(ho:o.op= .binOp op t x y u){v:ae}(h:dp P (dz tm) o=some v)
  (hn:op= .eql\/op= .neq->rF P t (isConst x) (isConst y) (dz tm x) (dz tm y)=none):dE P (dz tm) o m=some (v,m):=by
 unfold dE;rw[ho];simp only[]
 split
 ·rw[hn (.inl rfl),h];rfl
 ·rw[hn (.inr rfl),h];rfl
 ·rw[h];rfl
theorem Qq {op:BinOp}{t u:aO}{x y:bS}(ho:o.op= .binOp op t x y u){K:ae->T R}(h:den cl (eq2 P op t (isConst x) (isConst y) (dz tm x) (dz tm y) K) m=some r):
  ∃v m',(∀df k,jr P o cl tm m df k=k v m' df)/\den cl (K v) m'=some r:=by
 unfold eq2 at h
 split at h
 ·split at h
  ·rename_i v hv;refine⟨_,_,gG ?_,h⟩;unfold dE;rw[ho];simp only[hv]
  ·rename_i hv;obtain⟨v,h1,h2⟩:=kJ h;exact⟨_,_,gG (u7 ho (yP ho h1) fun _=>hv),h2⟩
 ·split at h
  ·rename_i v hv;refine⟨_,_,gG ?_,h⟩;unfold dE;rw[ho];simp only[hv]
  ·rename_i hv;obtain⟨v,h1,h2⟩:=kJ h;exact⟨_,_,gG (u7 ho (yP ho h1) fun _=>hv),h2⟩
 ·rename_i n1 n2;obtain⟨v,h1,h2⟩:=kJ h;exact⟨_,_,gG (u7 ho (yP ho h1) fun hc=>hc.elim (fun e=>absurd e n1) fun e=>absurd e n2),h2⟩
theorem NI {op:BinOp}{t u:aO}{x y:bS}(ho:o.op= .binOp op t x y u)(h1:op≠ .eql)(h2:op≠ .neq){K:ae->T R}(h:den cl (.val (gE P op t (isConst x) (isConst y) (dz tm x) (dz tm y)) K) m=some r):
  ∃v m',(∀df k,jr P o cl tm m df k=k v m' df)/\den cl (K v) m'=some r:=by
 obtain⟨v,e1,e2⟩:=kJ h;exact⟨_,_,gG (u7 ho (yP ho e1) fun hc=>hc.elim (fun e=>absurd e h1) fun e=>absurd e h2),e2⟩
theorem Qr {op:BinOp}{t u:aO}{x y:bS}{q:Nat->Nat->Nat}(ho:o.op= .binOp op t x y u)(h1:op≠ .eql)(h2:op≠ .neq){K:ae->T R}{a:bU}{i j:Int}(hx:dz tm x= .int a i)(hy:dz tm y= .int a j)
  (h:den cl (.val (ik q a i j (gE P op t (isConst x) (isConst y) (dz tm x) (dz tm y))) K) m=some r):
  ∃v m',(∀df k,Hh P o q (ex x) (ex y) cl tm m df k=k v m' df)/\den cl (K v) m'=some r:=by
 obtain⟨v,e1,e2⟩:=kJ h;have gen:gE P op t (isConst x) (isConst y) (dz tm x) (dz tm y)=some v->∀df k,jr P o cl tm m df k=k v m df:=fun e=>gG (u7 ho (yP ho e) fun hc=>hc.elim (fun e=>absurd e h1) fun e=>absurd e h2)
 refine⟨v,m,fun df k=>?_,e2⟩;cases i with
 |negSucc i=>unfold Hh;simp only[ex,hx];exact gen e1 df k
 |ofNat i=>
  cases j with
  |negSucc j=>unfold Hh;simp only[ex,hx,hy];exact gen e1 df k
  |ofNat j=>
   cases j with
   |zero=>unfold Hh;simp only[ex,hx,hy];exact gen e1 df k
   |succ j=>
    unfold ik at e1;unfold Hh;simp only[ex,hx,hy];cases hb:Nat.blt i (gv a)with
    |true=>
     simp only[hb]at e1;cases e1;simp only[pd,hb,Bool.and_self,if_true]
    |false=>
     simp only[hb]at e1;simp only[pd,hb,Bool.true_and,cF,if_false];exact gen e1 df k
end
end Go.AM
namespace Go.AM
open Go
section
variable {R:Type}{P:aC}{o:gK}
theorem MU {op:BinOp}{t u:aO}{x y:bS}{q:Nat->Nat->Nat}{cl:cE}{tm:Tm}{m:Mem}{r:R×Mem}(ho:o.op= .binOp op t x y u)(h1:op≠ .eql)(h2:op≠ .neq){K:ae->T R}{a:bU}{i j:Int}(hx:dz tm x= .int a i)(hy:dz tm y= .int a j)
  (h:den cl (.val (rJ q a i j (gE P op t (isConst x) (isConst y) (dz tm x) (dz tm y))) K) m=some r):
  ∃v m',(∀df k,As P o q (ex x) (ex y) cl tm m df k=k v m' df)/\den cl (K v) m'=some r:=by
 obtain⟨v,e1,e2⟩:=kJ h;have gen:gE P op t (isConst x) (isConst y) (dz tm x) (dz tm y)=some v->∀df k,jr P o cl tm m df k=k v m df:=fun e=>gG (u7 ho (yP ho e) fun hc=>hc.elim (fun e=>absurd e h1) fun e=>absurd e h2)
 refine⟨v,m,fun df k=>?_,e2⟩;cases i with
 |negSucc i=>unfold As;simp only[ex,hx];exact gen e1 df k
 |ofNat i=>
  cases j with
  |negSucc j=>cases e1
  |ofNat j=>
   unfold rJ at e1;unfold As;simp only[ex,hx,hy];cases hb:Nat.blt i (gv a)&&Nat.blt j (gv a)with
   |true=>
    simp only[hb]at e1;cases e1;simp only[pd,Bool.true_and,hb,if_true]
   |false=>
    simp only[hb]at e1;simp only[pd,Bool.true_and,hb,cF,if_false];exact gen e1 df k
theorem MV {op:BinOp}{t u:aO}{x y:bS}(ho:o.op= .binOp op t x y u){f:lu}(hf:U5 P o op t (ex x) (ex y)=some f):wU f (ac2 (R:=R) P op t (isConst x) (isConst y) (ex x) (ex y)):=by
 intro cl tm m K r h;unfold U5 at hf;unfold ac2 at h
 split at hf
 ·rename_i kk hu;simp only[hu]at h;cases op<;>simp only[ah]at hf<;>subst hf<;>simp only[ex]at h
  all_goals first
   |(obtain⟨a,i,j,hx,hy,h⟩:=yk h;exact⟨_,_,acI hx hy,h⟩)
   |(obtain⟨a,i,j,hx,hy,h⟩:=yk h;exact⟨_,_,aij hx hy,h⟩)
   |(obtain⟨a,i,j,hx,hy,h⟩:=yk h;exact MU ho eS eS hx hy h)
   |(obtain⟨a,i,j,hx,hy,h⟩:=yk h;exact Qr ho eS eS hx hy h)
   |exact NI ho eS eS h
 ·rename_i hu;simp only[hu]at h
  split at hf<;>(try simp only[ex]at h)<;>simp only[ah]at hf<;>subst hf
  ·obtain⟨a,b,hx,hy,h⟩:=C6 h;refine⟨_,_,fun df k=>?_,h⟩;unfold yK;simp only[ex,hx,hy]
  ·obtain⟨a,b,hx,hy,h⟩:=C6 h;refine⟨_,_,fun df k=>?_,h⟩;unfold yK;simp only[ex,hx,hy]
  ·obtain⟨a,b,hx,hy,h⟩:=C6 h;obtain⟨v,e,h⟩:=kJ h;refine⟨_,_,fun df k=>?_,h⟩;unfold Hy at e;unfold Yl;simp only[ex,hx,hy]
   split at e
   ·rename_i hb;cases e;simp only[hb,if_true]
   ·cases e
  ·rename_i n1 n2 n3;exact NI ho n1 n2 h
 ·rename_i n1 n2;cases hf;have h:den cl (eq2 P op t (isConst x) (isConst y) (dz tm x) (dz tm y) K) m=some r:=by
   revert h
   cases hu:P.underlying t with
   |none=>exact id
   |some d=>cases d<;>first |exact id|exact absurd hu (n1 _)|exact absurd hu n2
  exact Qq ho h
theorem Jc {t:aO}{x:bS}{f:lu}{g:DO R}(hf:Je P o t (ex x)=some f)(hg:loadT P t (ex x)=some g):wU f g:=by
 intro cl tm m K r h;unfold Je at hf;unfold loadT at hg
 split at hf
 ·rename_i ha;simp only[ha]at hg
  split at hf
  ·rename_i n hn;simp only[hn]at hg;cases hf;cases hg;obtain⟨b,oo,hp,h⟩:=uW h;obtain⟨v,m',e,h⟩:=jS h;refine⟨v,m',fun df k=>?_,h⟩;unfold eU at e;unfold LQ AF adb;rw[hp];simp only[]
   split at e
   ·rename_i l hl;cases e;rw[hl]
   ·cases e
  ·rename_i hn;simp only[hn]at hg;cases hg
 ·rename_i ha;simp only[ha]at hg;cases hf;cases hg;obtain⟨b,oo,hp,h⟩:=uW h;obtain⟨v,m',e,h⟩:=jS h;refine⟨v,m',fun df k=>?_,h⟩;unfold aD at e;unfold LR AF z8;rw[hp];simp only[]
  split at e
  ·rename_i hb;simp only[hb]
   split at e
   ·rename_i hh;rw[bj hh]
    split at e
    ·rename_i hd;cases e;simp only[hd]
    ·cases e
   ·cases e
  ·cases e
 ·rename_i ha;simp only[ha]at hg;cases hg
theorem F5 {t:aO}{p x:bS}{f:lu}{g:DO R}(hf:BC P o t (ex p) (ex x)=some f)(hg:storeT P t (ex p) (ex x)=some g):wU f g:=by
 intro cl tm m K r h;unfold BC at hf;unfold storeT at hg
 split at hf
 ·rename_i n hn;simp only[hn]at hg;cases hf
  split at hg
  ·cases hg;obtain⟨b,oo,hp,h⟩:=uW h;unfold AV;simp only[ex]at h
   split at h
   ·rename_i cs hx
    split at h
    ·rename_i hb;obtain⟨v,m',e,h⟩:=jS h;refine⟨v,m',fun df k=>?_,h⟩;rw[hp];simp only[ex,hx,AF,hb,if_true];unfold DT at e
     split at e
     ·rename_i m₁ hm;cases e;rw[hm];rfl
     ·cases e
    ·cases h
   ·cases h
  ·split at hg
   ·rename_i hb;cases hg;obtain⟨b,oo,hp,h⟩:=uW h;obtain⟨v,m',e,h⟩:=jS h;refine⟨v,m',fun df k=>?_,h⟩;unfold eH at e
    split at e
    ·cases e
    ·rename_i ho1;have hna:∀cs,dz tm x≠ .agg cs:=fun cs hx=>by
      simp only[ex,hx]at ho1;cases ho1
     unfold AV;rw[hp];simp only[ex,AF,hb,ho1,if_true];have key:(BF m b oo (dz tm x) fun m'=>k undef m' df)=k v m' df:=by
      unfold BF
      split at e
      ·rename_i HV;simp only[HV]
       split at e
       ·rename_i hh;rw[bj hh]
        split at e
        ·rename_i hd;cases e;simp only[hd]
        ·cases e
       ·cases e
      ·cases e
     revert key
     cases hx:dz tm x<;>first |exact id|exact absurd hx (hna _)
   ·cases hg
  ·cases hg
 ·rename_i hn;simp only[hn]at hg;cases hg
theorem zm {s:aO}{p:bS}{i:Nat}{f:lu}{g:DO R}(hf:pN P o s (ex p) i=some f)(hg:wG P s (ex p) i=some g):wU f g:=by
 intro cl tm m K r h;unfold pN at hf;unfold wG at hg
 split at hg
 ·rename_i fields hu;simp only[hu]at hf
  split at hg
  ·rename_i fd hfd;simp only[hfd]at hf
   split at hg
   ·rename_i n hs;simp only[hs]at hf;cases hf;cases hg;obtain⟨b,oo,hp,h⟩:=uW h;refine⟨_,_,fun df k=>?_,h⟩;unfold Nb;rw[hp];rfl
   ·cases hg
  ·cases hg
 ·cases hg
theorem y7 {t:aO}{x i:bS}{f:lu}{g:DO R}(hf:pI P o t (ex x) (ex i)=some f)(hg:wz P t (ex x) (ex i)=some g):wU f g:=by
 intro cl tm m K r h;unfold pI at hf;unfold wz at hg
 split at hg
 ·rename_i e hu;simp only[hu]at hf
  split at hg
  ·rename_i s hs;simp only[hs]at hf;cases hf;cases hg;simp only[ex]at h
   split at h
   ·rename_i b oo len c hx
    split at h
    ·rename_i kk n hi;obtain⟨j,rfl,hb,h⟩:=Hl h;refine⟨_,_,fun df k=>?_,h⟩;unfold GZ PY;simp only[ex,hx,hi,hb,if_true]
    ·cases h
   ·cases h
  ·cases hg
 ·rename_i len e hu;simp only[hu]at hf
  split at hg
  ·rename_i s hs;simp only[hs]at hf;cases hf;cases hg;obtain⟨b,oo,hp,h⟩:=uW h;simp only[ex]at h
   split at h
   ·rename_i kk n hi;obtain⟨j,rfl,hb,h⟩:=Hl h;refine⟨_,_,fun df k=>?_,h⟩;unfold G1 PY AF;rw[hp];simp only[ex,hi,hb,if_true]
   ·cases h
  ·cases hg
 ·cases hg
theorem FD:∀{l:List UInt8}{i:Nat},i<l.length->∃b,wN l i=some b
 | [],i,h=>by simp at h
 |b::l,0,h=>⟨b,rfl⟩
 |b::l,i+1,h=>FD (l:=l) (by simpa using h)
theorem GY {t:aO}{x i:bS}{f:lu}{g:DO R}(ho:o.op= .index t x i)(hf:CC P o t (ex x) (ex i)=some f)(hg:Mc P t (ex x) (ex i)=some g):wU f g:=by
 intro cl tm m K r h;unfold CC at hf;unfold Mc at hg
 split at hf
 ·rename_i hu;simp only[hu]at hg;cases hf;cases hg;simp only[ex]at h
  split at h
  ·rename_i s hx
   split at h
   ·rename_i kk n hi;obtain⟨j,rfl,hb,h⟩:=Hl h;rw[j3,iB]at hb;obtain⟨bb,ny⟩:=FD (l:=s.data.toList) (i:=j) (by simpa using hb);refine⟨_,_,fun df k=>?_,h⟩;unfold U0 Ar;simp only[ex,hx,hi,ny]
   ·cases h
  ·cases h
 ·rename_i hn
  split at hg
  ·rename_i hu;exact absurd hu hn
  ·cases hf;cases hg;obtain⟨v,e,h⟩:=yj h;refine⟨_,_,gG ?_,h⟩;unfold dE;rw[ho];simp only[ex]at e;simp only[e]
theorem LW {t:aO}{x:bS}{f:lu}{g:DO R}(hf:Tx P o t (ex x)=some f)(hg:abI P t (ex x)=some g):wU f g:=by
 intro cl tm m K r h;unfold Tx at hf;unfold abI at hg
 split at hg
 ·rename_i hu;simp only[hu]at hf;cases hf;cases hg;simp only[ex]at h
  split at h
  ·rename_i s hx;refine⟨_,_,fun df k=>?_,h⟩;unfold LX;simp only[ex,hx]
  ·cases h
 ·rename_i e hu;simp only[hu]at hf;cases hf;cases hg;simp only[ex]at h
  split at h
  ·rename_i s n c hx;refine⟨_,_,fun df k=>?_,h⟩;unfold Tw;simp only[ex,hx]
  ·cases h
 ·cases hg
theorem LN {nS:Bool}{x y:bS}:wU (LO P o nS (ex x) (ex y)) (Te (R:=R) nS (ex x) (ex y)):=by
 intro cl tm m K r h;unfold Te at h;simp only[ex]at h
 split at h
 ·rename_i a i hx
  split at h
  ·rename_i b j hy;refine⟨_,_,fun df k=>?_,h⟩;unfold LO Q3;simp only[ex,hx,hy];cases cO j i<;>cases nS<;>rfl
  ·cases h
 ·cases h
theorem hZ {f:Tm->Mem->Option (ae×Mem)}(hf:∀tm m,f tm m=dE P (dz tm) o m):wU (jr P o) (Ci (R:=R) f):=by
 intro cl tm m K r h;obtain⟨v,m',e,h⟩:=jS h;exact⟨v,m',gG (by rw[<-hf];exact e),h⟩
end
end Go.AM
namespace Go.AM
open Go
section
variable {R:Type}{P:aC}{o:gK}
theorem LB {ev:bS->ae}{m:Mem}{v:ae}(h:dp P ev o=some v)(hk:(∃op t x,o.op= .unOp op t x)\/(∃s d x a b,o.op= .convert s d x/\P.underlying s=some (.int a)/\P.underlying d=some (.int b))\/(∃t x lo hi s,o.op= .slice t x lo hi none/\ev x= .string s)):dE P ev o m=some (v,m):=by
 unfold dE;rcases hk with⟨op,t,x,ho⟩|⟨s,d,x,a,b,ho,h1,h2⟩|⟨t,x,lo,hi,s,ho,hs⟩
 ·rw[ho];simp only[h,cU]
 ·rw[ho];simp only[];have e:fK P s d (ev x) m=none:=by
   unfold fK;rw[h1,h2]
  rw[e,h];rfl
 ·rw[ho];simp only[];have e:iy P t (ev x) (lo.map ev) (hi.map ev) m=none:=by
   unfold iy;rw[hs]
   split<;>first |rfl|(rename_i h;cases h)
  rw[e,h];rfl
theorem My {g:DO R}(hg:UD P o=some g):wU (jr P o) g:=by
 unfold UD at hg
 split at hg
 ·rename_i op t x ho;cases hg;intro cl tm m K r h;obtain⟨v,e,h⟩:=kJ h;obtain⟨h1,h2,h3⟩:=NH e;refine⟨_,_,gG (LB (hY (by rw[ho];simpa[Op.operands]using h1) ?_ h3) (.inl ⟨_,_,_,ho⟩)),h⟩;unfold execOp;rw[ho];exact ni h2
 ·rename_i t ps ho
  split at hg
  ·cases hg;intro cl tm m K r h;obtain⟨v,e,h⟩:=kJ h;refine⟨_,_,gG ?_,h⟩;unfold dE;rw[ho];simp only[e];rfl
  ·cases hg;intro cl tm m K r h;obtain⟨v,e,h⟩:=yj h;refine⟨_,_,gG ?_,h⟩;unfold dE;rw[ho];simp only[e];rfl
 ·rename_i t n ps ho;cases hg;exact hZ fun tm m=>by unfold dE;rw[ho]
 ·rename_i s d x ho;cases hg;intro cl tm m K r h
  dsimp only at h
  split at h
  ·rename_i a b hs hd;obtain⟨v,e,h⟩:=kJ h;obtain⟨h1,h2,h3⟩:=NH e;refine⟨_,_,gG (LB (hY (by rw[ho];simpa[Op.operands]using h1) ?_ h3) (.inr (.inl ⟨_,_,_,_,_,ho,hs,hd⟩))),h⟩;unfold execOp;rw[ho];exact ni h2
  ·obtain⟨v,m',e,h⟩:=jS h;refine⟨v,m',gG ?_,h⟩;unfold dE;rw[ho];simp only[e]
 ·rename_i t x ho
  split at hg
  ·cases hg
  ·rename_i d hu hn;cases hg;intro cl tm m K r h;refine⟨_,_,gG ?_,h⟩;unfold dE;rw[ho];simp only[]
   split
   ·rename_i ms TT;rw[hn]at TT;exact absurd TT (by intro e;cases e;exact hu _ rfl)
   ·rfl
   ·rename_i TT;rw[hn]at TT;cases TT
  ·cases hg
 ·rename_i fn f c ho;cases hg;intro cl tm m K r h;refine⟨_,_,gG ?_,h⟩;unfold dE;rw[ho]
 ·rename_i t ho;cases hg;exact hZ fun tm m=>by unfold dE I7;rw[ho]
 ·rename_i t l c ho;cases hg;exact hZ fun tm m=>by unfold dE;rw[ho]
 ·rename_i t x lo hi ho;cases hg;intro cl tm m K r h
  dsimp only at h
  split at h
  ·rename_i s hs;obtain⟨v,e,h⟩:=kJ h;obtain⟨h1,h2,h3⟩:=NH e;refine⟨_,_,gG (LB (hY ?_ ?_ h3) (.inr (.inr ⟨_,_,_,_,_,ho,hs⟩))),h⟩
   ·rw[ho];simp only[Op.operands];cases lo<;>cases hi<;>simpa[hs]using h1
   ·unfold execOp;rw[ho];simp only[hs];exact ni h2
  ·obtain⟨v,m',e,h⟩:=jS h;refine⟨v,m',gG ?_,h⟩;unfold lB at e
   split at e
   ·rename_i v' hv;cases e;unfold dE;rw[ho];simp only[hv]
   ·cases e
 ·rename_i s x f ho;cases hg;intro cl tm m K r h;obtain⟨v,e,h⟩:=yj h;refine⟨_,_,gG ?_,h⟩;unfold dE;rw[ho];simp only[e];rfl
 ·rename_i t x i ok ho;cases hg;exact hZ fun tm m=>by
   unfold dE uR;rw[ho];simp only[];cases iQ P t (dz tm x) (dz tm i) ok m<;>rfl
 ·rename_i t x i v ho;cases hg;exact hZ fun tm m=>by
   unfold dE Tf;rw[ho];simp only[];cases kT P t (dz tm x) (dz tm i) (dz tm v) m<;>rfl
 ·rename_i x t a ok ho;cases hg;intro cl tm m K r h;obtain⟨v,e,h⟩:=yj h;refine⟨_,_,gG ?_,h⟩;unfold dE;rw[ho];simp only[e];rfl
 ·rename_i t x ho;cases hg;exact hZ fun tm m=>by unfold dE;rw[ho]
 ·rename_i it s ho;cases hg;exact hZ fun tm m=>by unfold dE;rw[ho]
 ·rename_i b args kW ho
  split at hg
  ·rename_i s x ha;cases hg;exact hZ fun tm m=>by unfold dE;rw[ho];simp only[ha]
  ·rename_i s x ha;cases hg;exact hZ fun tm m=>by unfold dE;rw[ho];simp only[ha]
  ·rename_i x ha;cases hg;exact hZ fun tm m=>by unfold dE;rw[ho];simp only[ha]
  ·cases hg
 ·cases hg
theorem PJ {f:lu}{g:DO R}(hf:gX P o=some f)(hg:yS P o=some g):wU f g:=by
 have last:gX P o=some (jr P o)->yS (R:=R) P o=UD P o->wU f g:=fun h1 h2=>by
  rw[h1]at hf;cases hf;rw[h2]at hg;exact My hg
 cases ho:o.op with
 |move x=>
  unfold gX at hf;unfold yS at hg;simp only[ho]at hf hg;have hf:=aH hf;have hg:=aH hg;cases hf;cases hg;exact fun cl tm m K r h=>⟨_,_,fun _ _=>rfl,h⟩
 |assign x=>
  unfold gX at hf;unfold yS at hg;simp only[ho]at hf hg;have hf:=aH hf;have hg:=aH hg;cases hf;cases hg;exact fun cl tm m K r h=>⟨_,_,fun _ _=>rfl,h⟩
 |pick c x y=>
  unfold gX at hf;unfold yS at hg;simp only[ho]at hf hg;have hf:=aH (aH (aH hf));have hg:=aH (aH (aH hg));cases hf;cases hg;intro cl tm m K r h;obtain⟨b,hb,h⟩:=C7 h;cases b with
  |true=>exact⟨_,_,fun _ _=>by unfold IP;simp only[hb],h⟩
  |false=>exact⟨_,_,fun _ _=>by unfold IP;simp only[hb],h⟩
 |binOp op t x y u=>
  unfold gX at hf;unfold yS at hg;simp only[ho]at hf hg;have hf:=aH (aH hf);have hg:=aH (aH hg);cases hg;exact MV ho hf
 |load t x=>
  unfold gX at hf;unfold yS at hg;simp only[ho]at hf hg;exact Jc (aH hf) (aH hg)
 |store t p x=>
  unfold gX at hf;unfold yS at hg;simp only[ho]at hf hg;exact F5 (aH (aH hf)) (aH (aH hg))
 |fieldAddr s p i=>
  unfold gX at hf;unfold yS at hg;simp only[ho]at hf hg;exact zm (aH hf) (aH hg)
 |indexAddr t x i=>
  unfold gX at hf;unfold yS at hg;simp only[ho]at hf hg;exact y7 (aH (aH hf)) (aH (aH hg))
 |index t x i=>
  unfold gX at hf;unfold yS at hg;simp only[ho]at hf hg;exact GY ho (aH (aH hf)) (aH (aH hg))
 |extract x i=>
  unfold gX at hf;unfold yS at hg;simp only[ho]at hf hg;have hf:=aH hf;have hg:=aH hg;cases hf;cases hg;intro cl tm m K r h
  dsimp only at h
  split at h
  ·rename_i vs hx;obtain⟨v,e,h⟩:=yj h;exact⟨_,_,fun _ _=>by unfold x9;simp only[hx,e],h⟩
  ·cases h
 |unOp op t x=>
  cases op with
  |not=>
   unfold gX at hf;unfold yS at hg;simp only[ho]at hf hg;have hf:=aH hf;have hg:=aH hg;cases hf;cases hg;intro cl tm m K r h
   dsimp only at h
   split at h
   ·rename_i b hx;exact⟨_,_,fun _ _=>by unfold WK;simp only[hx],h⟩
   ·cases h
  |_=>exact last (by unfold gX;rw[ho]) (by unfold yS;rw[ho])
 |nilCheck x=>
  unfold gX at hf;unfold yS at hg;simp only[ho]at hf hg;have hf:=aH hf;have hg:=aH hg;cases hf;cases hg;intro cl tm m K r h
  dsimp only at h
  split at h
  ·rename_i a hx;exact⟨_,_,fun _ _=>by unfold SZ;simp only[hx],h⟩
  ·rename_i name first cap hx
   obtain⟨v,e,h⟩:=kJ h;refine⟨v,m,fun df k=>?_,h⟩;have dC:dE P (dz tm) o m=some (v,m):=by
    unfold dE;rw[ho];simp only[hx];unfold N1 at e
    split at e
    ·rename_i r' hr;simp only[hr]
     split at e
     ·rename_i hs;cases e;rw[bj hs]
     ·cases e
    ·cases e
   unfold SZ;simp only[hx];exact gG dC df k
  ·cases h
 |alloc e=>
  unfold gX at hf;unfold yS at hg;simp only[ho]at hf hg
  split at hf
  ·rename_i z hz;simp only[hz]at hg;cases hf;cases hg;intro cl tm m K r h;obtain⟨v,m',e,h⟩:=jS h;cases e;exact⟨_,_,fun _ _=>rfl,h⟩
  ·cases hf
 |box e x=>
  unfold gX at hf;unfold yS at hg;simp only[ho]at hf hg;have hf:=aH hf;have hg:=aH hg;cases hf;cases hg;intro cl tm m K r h;obtain⟨v,m',e,h⟩:=jS h;cases e;exact⟨_,_,fun _ _=>rfl,h⟩
 |call c=>
  obtain⟨callee,args,kW⟩:=c;cases callee with
  |value x=>
   have main:(∃f',x= .func f')\/(∀f',x≠ .func f'):=by
    cases x with
    |func f'=>exact .inl ⟨_,rfl⟩
    |_=>exact .inr fun _ h=>by cases h
   rcases main with⟨f',rfl⟩|hnf
   ·unfold gX at hf;unfold yS at hg;simp only[ho]at hf hg;obtain⟨os,hf,CK⟩:=fF hf;obtain⟨os',hg,Mj⟩:=fF hg;cases hf;cases hg;intro cl tm m K r h;unfold den at h
    split at h
    ·rename_i v m' hc;refine⟨v,m',fun df k=>?_,h⟩;unfold UX;rw[CK,<-Mj,hc];rfl
    ·cases h
   ·have AO:(eJ x fun x=>sO args.toList fun xs=>some (Kb x xs))=some f:=by
     unfold gX at hf;simp only[ho]at hf;cases x with
     |func f'=>exact absurd rfl (hnf f')
     |_=>exact hf
    have Mo:(eJ x fun x=>sO args.toList fun xs=>some fun tm k=>T.bM (x tm) (KN xs tm) k)=some g:=by
     unfold yS at hg;simp only[ho]at hg;cases x with
     |func f'=>exact absurd rfl (hnf f')
     |_=>exact hg
    obtain⟨os,hf,CK⟩:=fF (aH AO);obtain⟨os',hg,Mj⟩:=fF (aH Mo);cases hf;cases hg;intro cl tm m K r h;unfold den at h
    split at h
    ·rename_i ff first cap hx
     split at h
     ·rename_i v m' hc;refine⟨v,m',fun df k=>?_,h⟩;unfold Kb;simp only[hx];rw[CK,<-Mj,hc];rfl
     ·cases h
    ·cases h
  |invoke rc name=>
   unfold gX at hf;unfold yS at hg;simp only[ho]at hf hg;obtain⟨os,hf,CK⟩:=fF (aH hf);obtain⟨os',hg,Mj⟩:=fF (aH hg);cases hf;cases hg;intro cl tm m K r h;unfold den at h
   split at h
   ·rename_i ff recv hx
    split at h
    ·rename_i v m' hc;refine⟨v,m',fun df k=>?_,h⟩;unfold O1;simp only[hx];rw[CK,<-Mj,hc];rfl
    ·cases h
   ·cases h
  |builtin b=>
   have ahg:∀nS,(match args.toList with | [x,y]=>eJ x fun x=>eJ y fun y=>some (LO P o nS x y)|_=>some (jr P o))=some f->(match args.toList with | [x,y]=>eJ x fun x=>eJ y fun y=>some (Te nS x y)|_=>none)=some g->wU f g:=by
    intro nS hf hg
    split at hg
    ·rename_i x y ha;simp only[ha]at hf;have hf:=aH (aH hf);have hg:=aH (aH hg);cases hf;cases hg;exact LN
    ·cases hg
   cases b with
   |min=>unfold gX at hf;unfold yS at hg;simp only[ho]at hf hg;exact ahg false hf hg
   |max=>unfold gX at hf;unfold yS at hg;simp only[ho]at hf hg;exact ahg true hf hg
   |len=>
    unfold gX at hf;unfold yS at hg;simp only[ho]at hf hg
    split at hg
    ·rename_i x t l ha ht;simp only[ha,ht]at hf;exact LW (aH hf) (aH hg)
    ·cases hg
   |_=>exact last (by unfold gX;rw[ho]) (by unfold yS;rw[ho])
 |defer c=>
  unfold yS UD at hg;simp only[ho]at hg;cases hg
 |_=>exact last (by unfold gX;rw[ho]) (by unfold yS;rw[ho])
end
end Go.AM
namespace Go.AM
open Go
section
variable {R:Type}
abbrev RC (R:Type):=(Tm->Df->T R)->Tm->Df->T R
def CV (g:j9)(want:Bool)(yes no:RC R):RC R:=fun K tm df=>match g tm with
 | .bool b=> .cond (.bool b) fun b=>match b with
  |true=>match want with |true=>yes K tm df|false=>no K tm df
  |false=>match want with |true=>no K tm df|false=>yes K tm df
 |_=>no K tm df
def abi (P:aC)(ops:Array gK)(i:Nat)(rest:RC R):Option (RC R):=
 match ops[i]? with
 |none=>none
 |some o=>match o.op with
  | .defer {callee:= .value x,args,.. }=>match o.guard with
   |none=>match o.dst with
    |none=>eJ x fun x=>sO args.toList fun xs=>some fun K tm df=>(match x tm with
     | .func (.func f) first cap=>rest K tm ((f,first.toList++KN xs tm++cap.toList)::df)
     |_=> .fail)
    |some _=>none
   |some _=>none
  |_=>match yS P o with
   |none=>none
   |some op=>match o.guard with
    |none=>match o.dst with
     |some d=>FZ d fun _ p=>some fun K tm df=>op tm fun v=>rest K (p v tm) df
     |none=>some fun K tm df=>op tm fun _=>rest K tm df
    |some (j,want)=>match(ops[j]?).bind (·.dst)with
     |some g=>FZ g fun gx _=>match o.dst with
      |some d=>FZ d fun _ p=>some (CV gx want (fun K tm df=>op tm fun v=>rest K (p v tm) df) fun K tm df=>rest K (p undef tm) df)
      |none=>some (CV gx want (fun K tm df=>op tm fun _=>rest K tm df) rest)
     |none=>none
def nO (v:ae)(m:Mem):Option (ae×Mem):=some (jj m v,m)
def zT (m:Mem):Option (ae×Mem):=match m.pend with | []=>some (undef,m)|_=>none
def fS (saved v:ae)(look:Mem->Bool)(m:Mem):Option (ae×Mem):=match xA saved (jj m v)&&look m with |true=>some (undef,m)|false=>none
def wF (v:ae)(m:Mem):Bool:=match mV v with |some b=>Nat.ble m.floor b|none=>true
def Tn (P:aC)(o:gK)(tm:Tm):Mem->Bool:=
 match o.op with
 | .load t a=>fun m=>(ky P t (dz tm a) m).isSome
 | .lookup t x i ok=>fun m=>(iQ P t (dz tm x) (dz tm i) ok m).isSome
 | .slice t x lo hi none=>fun m=>(iy P t (dz tm x) (lo.map (dz tm)) (hi.map (dz tm)) m).isSome
 | .slice _ _ _ _ (some _)=>fun _=>false
 |_=>wF (dz tm (match mD o with |some x=>x|none=> .const undef))
def Ni (ops:Array gK)(o:gK)(yes no:RC R):Option (RC R):=
 match o.guard with
 |none=>some yes
 |some (j,want)=>match(ops[j]?).bind (·.dst)with
  |some g=>some (CV (dj g) want yes no)
  |none=>some no
def RB (P:aC)(ops:Array gK)(t:mX)(rest:RC R):Option (RC R):=
 match t with
 |(0,i,slot)=>match abi P ops i rest with
  |some f=>some (match slot with |0=>f|_=>fun K tm df=> .mem zT fun _=>f K tm df)
  |none=>none
 |(1,i,slot)=>match ops[i]? with
  |some o=>match mD o with
   |some x=>Ni ops o (fun K tm df=> .mem (nO (dz tm x)) fun v=>rest K (tC slot v tm) df) (fun K tm df=>rest K (tC slot undef tm) df)
   |none=>none
  |none=>none
 |(_,i,slot)=>match ops[i]? with
  |some o=>match mD o with
   |some x=>Ni ops o (fun K tm df=> .mem (fS (dj slot tm) (dz tm x) (Tn P o tm)) fun _=>rest K tm df) rest
   |none=>none
  |none=>none
def yJ (P:aC)(ops:Array gK):List mX->Option (RC R)
 | []=>some fun K=>K
 |t::l=>match yJ P ops l with
  |some rest=>RB P ops t rest
  |none=>none
abbrev KT (R:Type):=Exit->Tm->Df->T R
abbrev CT (R:Type):=KT R->Tm->Df->T R
def adQ (a b:CT R):CT R:=fun K=>a fun e tm df=>match e with
 | .normal=>b K tm df
 |e=>K e tm df
def ahR (x:j9)(a b:CT R):CT R:=fun K tm df=> .cond (x tm) fun c=>match c with |true=>a K tm df|false=>b K tm df
def ac1 (id:Nat)(a:CT R):CT R:=fun K=>a fun e tm df=>match e with
 | .exit j=>match Nat.beq j id with |true=>K .normal tm df|false=>K (.exit j) tm df
 |e=>K e tm df
def I9 (a:CT R):Nat->CT R
 |0=>fun _ _ _=> .fail
 |n+1=>fun K=>a fun e tm df=>match e with
  | .normal=>I9 a n K tm df
  |e=>K e tm df
def oB (P:aC)(nt:Nat):Nat->Code->Option (CT R)
 |0,_=>none
 |n+1,c=>match c with
  | .skip=>some fun K=>K .normal
  | .label _=>some fun K=>K .normal
  | .seq a b=>match oB P nt n a with
   |some a=>match oB P nt n b with
    |some b=>some (adQ a b)
    |none=>none
   |none=>none
  | .cond x a b=>match oB P nt n a with
   |some a=>match oB P nt n b with
    |some b=>eJ x fun x=>some (ahR x a b)
    |none=>none
   |none=>none
  | .block id b=>match oB P nt n b with
   |some b=>some (ac1 id b)
   |none=>none
  | .loop b=>match oB P nt n b with
   |some b=>some (I9 b 100000)
   |none=>none
  | .exit id=>some fun K=>K (.exit id)
  | .ret=>some fun K=>K .ret
  | .goto l=>some fun K=>K (.goto l)
  | .region _ ops draw=>match draw with
   |true=>match UN ops nt with
    |some l=>match yJ (R:=R) P ops l with
     |some f=>some fun K=>f (K .normal)
     |none=>none
    |none=>none
   |false=>match yJ (R:=R) P ops ((List.range ops.size).map fun i=>(0,i,0))with
    |some f=>some fun K=>f (K .normal)
    |none=>none
  | .scope b=>match oB P nt n b with
   |some g=>some fun K=>g fun e tm df=>match e with
    | .goto _=> .fail
    |e=>K e tm df
   |none=>none
  |_=>none
def oh (P:aC)(t:aO)(p:ae)(m:Mem):Option (ae×Mem):=match ky P t p m with |some v=>some (v,m)|none=>none
def IC (P:aC)(nt:Nat)(tm:Tm):List ResultVar->(List ae->T R)->T R
 | [],k=>k []
 | .tmp t::l,k=>match Nat.blt t nt with |true=>IC P nt tm l fun vs=>k (dj t tm::vs)|false=> .fail
 | .cell a t::l,k=>match Nat.blt a nt with |true=> .mem (oh P t (dj a tm)) fun v=>IC P nt tm l fun vs=>k (v::vs)|false=> .fail
def uX (P:aC)(X:Ext):Df->T R->T R
 | [],k=>k
 |(f,args)::ds,k=>match dY P f&& !(Nat.beq f X.KX||Nat.beq f X.vV)with
  |true=> .call f args fun _=>uX P X ds k
  |false=> .fail
def Z6 (P:aC)(X:Ext)(nt:Nat)(rs:List ResultVar)(g:CT ae)(args:List ae):T ae:=
 match Nat.ble args.length nt with
 |true=>match DS args with
  |some tm=>g (fun e tm df=>match e with
   | .normal=>uX P X df (IC P nt tm rs fun vs=>match vs with | [v]=> .done v|vs=> .done (.tuple vs.toArray))
   | .ret=>uX P X df (IC P nt tm rs fun vs=>match vs with | [v]=> .done v|vs=> .done (.tuple vs.toArray))
   |_=> .fail) tm []
  |none=> .fail
 |false=> .fail
def XU (P:aC)(X:Ext)(f:Nat)(args:List ae):T ae:=
 match P.funcs[f]? with
 |some fn=>match fn.body with
  |some c=>match oB P fn.ntmps 1000 c with
   |some g=>Z6 P X fn.ntmps fn.results.toList g args
   |none=> .fail
  |none=> .fail
 |none=> .fail
end
end Go.AM
namespace Go.AM
open Go
section
variable {R:Type}{P:aC}
def wT (f:im)(g:RC R):Prop:=
 ∀(cl:cE) (K:Tm->Df->T R) (tm:Tm) (df:Df) (m:Mem) (r:R×Mem),den cl (g K tm df) m=some r->∃st,f cl tm m df=some st/\den cl (K st.tm st.df) st.mem=some r
theorem su {g:j9}{want:Bool}{yes no:RC R}{f fy fn:im}(hy:wT fy yes)(hn:wT fn no)
  (h1:∀cl tm m df,g tm= .bool want->f cl tm m df=fy cl tm m df)(h2:∀cl tm m df,g tm≠ .bool want->f cl tm m df=fn cl tm m df):wT f (CV g want yes no):=by
 intro cl K tm df m r h;unfold CV at h
 split at h
 ·rename_i b hb;obtain⟨b',e,h⟩:=C7 h;cases e
  by_cases hw:b=want
  ·subst hw;rw[h1 _ _ _ _ hb];refine hy _ _ _ _ _ _ ?_
   revert h;cases b<;>exact id
  ·rw[h2 _ _ _ _ (by rw[hb];intro e;cases e;exact hw rfl)];refine hn _ _ _ _ _ _ ?_
   revert h
   cases b<;>cases want<;>first |exact absurd rfl hw|exact id
 ·rename_i hb;rw[h2 _ _ _ _ (hb _)];exact hn _ _ _ _ _ _ h
theorem BG {op:lu}{t:DO R}{p:Put}{rest:im}{rt:RC R}(ho:wU op t)(hr:wT rest rt):wT (Ns p op rest) fun K tm df=>t tm fun v=>rt K (p v tm) df:=by
 intro cl K tm df m r h;obtain⟨v,m',e,h⟩:=ho _ _ _ _ _ h;obtain⟨st,e2,h⟩:=hr _ _ _ _ _ _ h;exact⟨st,by unfold Ns;rw[e];exact e2,h⟩
theorem zM {op:lu}{t:DO R}{rest:im}{rt:RC R}(ho:wU op t)(hr:wT rest rt):wT (Ig op rest) fun K tm df=>t tm fun _=>rt K tm df:=by
 intro cl K tm df m r h;obtain⟨v,m',e,h⟩:=ho _ _ _ _ _ h;obtain⟨st,e2,h⟩:=hr _ _ _ _ _ _ h;exact⟨st,by unfold Ig;rw[e];exact e2,h⟩
theorem LD {nt i:Nat}{ops:Array gK}{rest f:im}{rt g:RC R}(hf:SE P nt ops i rest=some f)(hg:abi P ops i rt=some g)(hr:wT rest rt):wT f g:=by
 unfold SE at hf;unfold abi at hg
 split at hg
 ·cases hg
 ·rename_i o ho;rw[ho]at hf;simp only[]at hf
  split at hf
  ·split at hf
   ·cases hf
   ·rename_i op dC
    split at hg
    ·rename_i x args kW hd
     split at hg
     ·rename_i Ue
      split at hg
      ·rename_i aco;simp only[Ue,aco]at hf;cases hf;obtain⟨os',hg,Mj⟩:=fF (aH hg);cases hg;unfold gX at dC;simp only[hd]at dC;obtain⟨os,dC,CK⟩:=fF (aH dC);cases dC;intro cl K tm df m r h
       dsimp only at h
       split at h
       ·rename_i ff first cap hx
        obtain⟨st,e2,h⟩:=hr _ _ _ _ _ _ h;refine⟨st,?_,h⟩;unfold Ig Hn noK;simp only[hx];rw[CK,<-Mj];exact e2
       ·cases h
      ·cases hg
     ·cases hg
    ·split at hg
     ·cases hg
     ·rename_i t ht;have h1:=PJ dC ht
      split at hg
      ·rename_i Ue;simp only[Ue]at hf
       split at hg
       ·rename_i d hd;simp only[hd]at hf;have hf:=(ja hf).2;have hg:=(ja hg).2;cases hf;cases hg;exact BG h1 hr
       ·rename_i hd;simp only[hd]at hf;cases hf;cases hg;exact zM h1 hr
      ·rename_i j want Ue;simp only[Ue]at hf
       split at hg
       ·rename_i gg hgg;simp only[hgg]at hf
        split at hf
        ·have hf:=(ja hf).2;have hg:=(ja hg).2
         split at hg
         ·rename_i d hd;simp only[hd]at hf;have hf:=(ja hf).2;have hg:=(ja hg).2;cases hf;cases hg;refine su (BG h1 hr) (fn:=fun cl tm m df=>rest cl (tC d undef tm) m df) (fun cl K tm df m r h=>hr _ _ _ _ _ _ h) ?_ ?_
          ·intro cl tm m df hb;unfold Hb Ns;cases want<;>simp only[hb]<;>rfl
          ·intro cl tm m df hb;unfold Hb
           split
           ·cases want with
            |true=>exact absurd ‹dj gg tm=_› hb
            |false=>rfl
           ·cases want with
            |true=>rfl
            |false=>exact absurd ‹dj gg tm=_› hb
           ·rfl
         ·rename_i hd;simp only[hd]at hf;cases hf;cases hg;refine su (zM h1 hr) hr ?_ ?_
          ·intro cl tm m df hb;unfold Ha Ig;cases want<;>simp only[hb]<;>rfl
          ·intro cl tm m df hb;unfold Ha
           split
           ·cases want with
            |true=>exact absurd ‹dj gg tm=_› hb
            |false=>rfl
           ·cases want with
            |true=>rfl
            |false=>exact absurd ‹dj gg tm=_› hb
           ·rfl
        ·cases hf
       ·cases hg
  ·cases hf
theorem zG {ops:Array gK}{o:gK}{yes no g:RC R}{f fy fn:im}(hg:Ni ops o yes no=some g)(hy:wT fy yes)(hn:wT fn no)
  (h1:∀cl tm m df,cY ops o tm=true->f cl tm m df=fy cl tm m df)(h2:∀cl tm m df,cY ops o tm=false->f cl tm m df=fn cl tm m df):wT f g:=by
 unfold Ni at hg
 split at hg
 ·rename_i Ue;cases hg;intro cl K tm df m r h;rw[h1 _ _ _ _ (by unfold cY;rw[Ue])];exact hy _ _ _ _ _ _ h
 ·rename_i j want Ue
  split at hg
  ·rename_i gg hgg;cases hg;refine su hy hn (fun cl tm m df hb=>h1 _ _ _ _ ?_) fun cl tm m df hb=>h2 _ _ _ _ ?_
   ·unfold cY;simp only[Ue,hgg,hb];simp
   ·unfold cY;simp only[Ue,hgg]
    split
    ·rename_i b e;rw[e]at hb;cases b<;>cases want<;>first |rfl|exact absurd rfl hb
    ·rfl
  ·rename_i hgg;cases hg;intro cl K tm df m r h;rw[h2 _ _ _ _ (by unfold cY;simp only[Ue,hgg])];exact hn _ _ _ _ _ _ h
theorem Jb {o:gK}{x:bS}(hx:mD o=some x){tm:Tm}{m:Mem}(h:Tn P o tm m=true):(if looks o then(dE P (dz tm) o m).isSome else match mV (dz tm x)with |some b=>Nat.ble m.floor b|none=>true)=true:=by
 unfold Tn at h;cases ho:o.op with
 |load t a=>
  simp only[ho]at h;have :looks o=true:=by unfold looks;rw[ho]
  rw[bj this];unfold dE;rw[ho];simp only[Option.isSome_map];exact h
 |lookup t y i ok=>
  simp only[ho]at h;have :looks o=true:=by unfold looks;rw[ho]
  rw[bj this];unfold dE;rw[ho];simp only[Option.isSome_map];exact h
 |slice t y lo hi mx=>
  cases mx with
  |some _=>simp only[ho]at h;cases h
  |none=>
   simp only[ho]at h;have :looks o=true:=by unfold looks;rw[ho]
   rw[bj this];unfold dE;rw[ho];simp only[];cases hs:iy P t (dz tm y) (lo.map (dz tm)) (hi.map (dz tm)) m with
   |none=>rw[hs]at h;cases h
   |some v=>rfl
 |_=>
  have :looks o=false:=by unfold looks;rw[ho]
  rw[this,bW eS];simp only[ho,hx,wF]at h;exact h
theorem H9 {nt:Nat}{ops:Array gK}{t:mX}{rest f:im}{rt g:RC R}(hf:zI P nt ops t rest=some f)(hg:RB P ops t rt=some g)(hr:wT rest rt):wT f g:=by
 unfold zI at hf;unfold RB at hg
 split at hg
 ·rename_i i slot;simp only[]at hf
  split at hg
  ·rename_i g' Mo
   split at hf
   ·rename_i f' AO;have h1:=LD AO Mo hr;cases hf;cases hg;cases slot with
    |zero=>exact h1
    |succ slot=>
     intro cl K tm df m r h;obtain⟨v,m',e,h⟩:=jS h;unfold zT at e
     split at e
     ·rename_i hp;cases e;obtain⟨st,e2,h⟩:=h1 _ _ _ _ _ _ h;refine⟨st,?_,h⟩;simp only[NJ,hp];exact e2
     ·cases e
   ·cases hf
  ·cases hg
 ·rename_i i slot;simp only[]at hf
  split at hg
  ·rename_i o ho;simp only[ho]at hf
   split at hg
   ·rename_i x hx;simp only[hx]at hf
    split at hf
    ·cases hf;refine zG hg (fy:=fun cl tm m df=>rest cl (tC slot (jj m (dz tm x)) tm) m df) (fn:=fun cl tm m df=>rest cl (tC slot undef tm) m df) ?_ (fun cl K tm df m r h=>hr _ _ _ _ _ _ h) ?_ ?_
     ·intro cl K tm df m r h;obtain⟨v,m',e,h⟩:=jS h;cases e;exact hr _ _ _ _ _ _ h
     ·intro cl tm m df hw;unfold R2;rw[bj hw]
     ·intro cl tm m df hw;unfold R2;rw[bW (by rw[hw];decide)]
    ·cases hf
   ·cases hg
  ·cases hg
 ·rename_i c i slot h0 h1;have hf:(match ops[i]? with |some o=>(match mD o with |some x=>some (sD P ops o x slot rest)|none=>none)|none=>none)=some f:=by
   revert hf
   cases c with
   |zero=>exact absurd rfl h0
   |succ c=>
    cases c with
    |zero=>exact absurd rfl h1
    |succ c=>exact id
  split at hg
  ·rename_i o ho;simp only[ho]at hf
   split at hg
   ·rename_i x hx;simp only[hx]at hf;cases hf;refine zG hg (fy:=fun cl tm m df=>sD P ops o x slot rest cl tm m df) (fn:=rest) ?_ hr (fun _ _ _ _ _=>rfl) ?_
    ·intro cl K tm df m r h;obtain⟨v,m',e,h⟩:=jS h;unfold fS at e
     split at e
     ·rename_i hb;cases e;obtain⟨st,e2,h⟩:=hr _ _ _ _ _ _ h;refine⟨st,?_,h⟩;have hb:=(ag _ _).mp hb;have hl:=Jb hx hb.2
      show sD P ops o x slot rest cl tm m df=some st
      by_cases hw:cY ops o tm=true
      ·unfold sD;simp only[hw,hb.1,if_true,Bool.true_and];exact(bj hl).trans e2
      ·have Jp:sD P ops o x slot rest cl tm m df=rest cl tm m df:=by unfold sD;rw[bW hw]
       rw[Jp];exact e2
     ·cases e
    ·intro cl tm m df hw;unfold sD;rw[bW (by rw[hw];decide)]
   ·cases hg
  ·cases hg
theorem xn {nt:Nat}{ops:Array gK}:∀{l:List mX}{f:im}{g:RC R},g9 P nt ops l=some f->yJ P ops l=some g->wT f g
 | [],f,g,hf,hg=>by
  cases hf;cases hg;intro cl K tm df m r h;exact⟨⟨tm,m,df⟩,rfl,h⟩
 |t::l,f,g,hf,hg=>by
  unfold g9 at hf;unfold yJ at hg
  split at hf
  ·split at hg
   ·exact H9 hf hg (xn ft ft)
   ·cases hg
  ·cases hf
end
end Go.AM
namespace Go.AM
open Go
section
variable {R:Type}{P:aC}{X:Ext}
def Vg (f:F)(g:CT R):Prop:=
 ∀(cl:cE) (K:KT R) (tm:Tm) (df:Df) (m:Mem) (r:R×Mem),den cl (g K tm df) m=some r->∃e st,f cl ⟨tm,m,df⟩=some (e,st)/\den cl (K e st.tm st.df) st.mem=some r
theorem z6 {a:F}{b:CT R}(h:Vg a b):∀n,Vg (fun cl st=>xN a cl n st) (I9 b n)
 |0=>by intro cl K tm df m r hd;unfold I9 den at hd;cases hd
 |n+1=>by
  intro cl K tm df m r hd;unfold I9 at hd;obtain⟨e,st,e1,hd⟩:=h _ _ _ _ _ _ hd;unfold xN;simp only[e1];cases e with
  |normal=>exact z6 h n _ _ _ _ _ _ hd
  |_=>exact⟨_,_,rfl,hd⟩
theorem gW {nt:Nat}:∀{n:Nat}{c:Code}{f:F}{g:CT R},comp P nt n c=some f->oB P nt n c=some g->Vg f g
 |0,c,f,g,hf,hg=>by cases hf
 |n+1,c,f,g,hf,hg=>by
  cases c with
  |skip=>cases hf;cases hg;exact fun cl K tm df m r h=>⟨_,_,rfl,h⟩
  |label l=>cases hf;cases hg;exact fun cl K tm df m r h=>⟨_,_,rfl,h⟩
  |seq a b=>
   unfold comp at hf;unfold oB at hg;simp only[]at hf hg
   split at hf
   ·rename_i fa ha
    split at hf
    ·rename_i fb hb
     split at hg
     ·rename_i ga hga
      split at hg
      ·rename_i gb Qg;cases hf;cases hg;intro cl K tm df m r h;obtain⟨e,st,e1,h⟩:=gW ha hga _ _ _ _ _ _ h;cases e with
       |normal=>
        obtain⟨e,jL,e2,h⟩:=gW hb Qg _ _ _ _ _ _ h;exact⟨e,jL,by unfold oE;rw[e1];exact e2,h⟩
       |_=>exact⟨_,_,by unfold oE;rw[e1],h⟩
      ·cases hg
     ·cases hg
    ·cases hf
   ·cases hf
  |cond x a b=>
   unfold comp at hf;unfold oB at hg;simp only[]at hf hg
   split at hf
   ·split at hf
    ·rename_i fa ha
     split at hf
     ·rename_i fb hb
      split at hg
      ·rename_i ga hga
       split at hg
       ·rename_i gb Qg;have hf:=aH hf;have hg:=aH hg;cases hf;cases hg;intro cl K tm df m r h;obtain⟨c,hc,h⟩:=C7 h;unfold OV;simp only[hc];cases c with
        |true=>exact gW ha hga _ _ _ _ _ _ h
        |false=>exact gW hb Qg _ _ _ _ _ _ h
       ·cases hg
      ·cases hg
     ·cases hf
    ·cases hf
   ·cases hf
  |block id b=>
   unfold comp at hf;unfold oB at hg;simp only[]at hf hg
   split at hf
   ·split at hg
    ·rename_i fb hb _ gb Qg;cases hf;cases hg;intro cl K tm df m r h;obtain⟨e,st,e1,h⟩:=gW hb Qg _ _ _ _ _ _ h;unfold HA;simp only[e1];cases e with
     |exit j=>
      simp only[]at h;cases hj:Nat.beq j id with
      |true=>simp only[hj]at h;exact⟨_,_,by simp only[hj,if_true],h⟩
      |false=>simp only[hj]at h;exact⟨_,_,by simp only[hj,cF,if_false],h⟩
     |_=>exact⟨_,_,rfl,h⟩
    ·cases hg
   ·cases hf
  |loop b=>
   unfold comp at hf;unfold oB at hg;simp only[]at hf hg
   split at hf
   ·split at hg
    ·rename_i fb hb _ gb Qg;cases hf;cases hg;exact z6 (gW hb Qg) 100000
    ·cases hg
   ·cases hf
  |exit id=>cases hf;cases hg;exact fun cl K tm df m r h=>⟨_,_,rfl,h⟩
  |ret=>cases hf;cases hg;exact fun cl K tm df m r h=>⟨_,_,rfl,h⟩
  |goto l=>cases hf;cases hg;exact fun cl K tm df m r h=>⟨_,_,rfl,h⟩
  |region id ops draw=>
   unfold comp at hf;unfold oB at hg;simp only[]at hf hg;have key:∀{l:List mX}{o:im}{q:RC R},g9 P nt ops l=some o->yJ P ops l=some q->Vg (PF o) (fun K=>q (K .normal)):=by
    intro l o q ho hq cl K tm df m r h;obtain⟨st,e,h⟩:=xn ho hq _ _ _ _ _ _ h;exact⟨_,_,by unfold PF;simp only[e],h⟩
   cases draw with
   |true=>
    rw[bj rfl]at hf;simp only[]at hg
    split at hf
    ·rename_i l hl;simp only[hl]at hg
     split at hf
     ·split at hg
      ·cases hf;cases hg;exact key ft ft
      ·cases hg
     ·cases hf
    ·cases hf
   |false=>
    rw[bW eS]at hf;simp only[]at hg
    split at hf
    ·split at hg
     ·cases hf;cases hg;exact key ft ft
     ·cases hg
    ·cases hf
  |scope b=>
   unfold comp at hf;unfold oB at hg;simp only[]at hf hg
   split at hf
   ·split at hg
    ·rename_i fb hb _ gb Qg;cases hf;cases hg;intro cl K tm df m r h;obtain⟨e,st,e1,h⟩:=gW hb Qg _ _ _ _ _ _ h;refine⟨e,st,?_,?_⟩
     ·show yN _ _ cl (999+1) fb _=_
      unfold yN;rw[e1];cases e with
      |goto l=>unfold den at h;cases h
      |_=>rfl
     ·cases e with
      |goto l=>unfold den at h;cases h
      |_=>exact h
    ·cases hg
   ·cases hf
  |_=>cases hg
theorem vS {cl:cE}{r:R×Mem}{k:T R}:∀{df:Df}{m:Mem},den cl (uX P X df k) m=some r->∃m',oQ P X cl df m=some m'/\den cl k m'=some r
 | [],m,h=>⟨m,rfl,h⟩
 |(f,args)::ds,m,h=>by
  unfold uX at h;unfold oQ
  split at h
  ·rename_i hb;rw[bj hb];unfold den at h
   split at h
   ·rename_i v m' hc;obtain⟨m2,e,h⟩:=vS h;exact⟨m2,by rw[hc];exact e,h⟩
   ·cases h
  ·cases h
theorem wj {cl:cE}{r:R×Mem}{nt:Nat}{tm:Tm}{m:Mem}:∀{rs:List ResultVar}{k:List ae->T R},den cl (IC P nt tm rs k) m=some r->∃vs,vj P nt m tm rs=some vs/\den cl (k vs) m=some r
 | [],k,h=>⟨[],rfl,h⟩
 | .tmp t::l,k,h=>by
  unfold IC at h
  split at h
  ·rename_i hb;obtain⟨vs,e,h⟩:=wj h;exact⟨_,by unfold vj;rw[bj hb,e],h⟩
  ·cases h
 | .cell a t::l,k,h=>by
  unfold IC at h
  split at h
  ·rename_i hb;obtain⟨v,m',e,h⟩:=jS h;unfold oh at e
   split at e
   ·rename_i v' hv;cases e;obtain⟨vs,e,h⟩:=wj h;exact⟨_,by unfold vj;rw[bj hb,hv,e],h⟩
   ·cases e
  ·cases h
theorem Mz {f:Nat}{args:List ae}{cl:cE}{m:Mem}{v:ae}{m':Mem}{fn:Func}{c:Code}(Qh:P.funcs[f]?=some fn)(hc:fn.body=some c)(qy:Nat.ble fn.ntmps 512=true)(hs:(comp P fn.ntmps 1000 c).isSome=true)
  (h:den cl (XU P X f args) m=some (v,m')):(jY P X f).body cl args m=some (v,m'):=by
 unfold XU at h;simp only[Qh,hc]at h
 split at h
 ·rename_i g hg;obtain⟨b,hb⟩:=qU.1 hs;have e0:(jY P X f).body cl args m=yr P X fn.ntmps fn.results.toList b cl args m:=by
   unfold jY;simp only[Qh,hc,qy,if_true,hb]
  rw[e0];unfold Z6 at h;unfold yr
  split at h
  ·rename_i hle;rw[bj hle]
   split at h
   ·rename_i tm Xp;rw[Xp];simp only[];obtain⟨e,st,e1,h⟩:=gW hb hg _ _ _ _ _ _ h;rw[e1];have fin:∀{st:Ss},den cl (uX P X st.df (IC P fn.ntmps st.tm fn.results.toList fun vs=>match vs with | [v]=> .done v|vs=> .done (.tuple vs.toArray))) st.mem=some (v,m')->
      (match oQ P X cl st.df st.mem with |none=>none|some m'=>match lC P fn.ntmps fn.results.toList st.tm m' with |some v=>some (v,m')|none=>none)=some (v,m'):=by
     intro st h;obtain⟨m2,e2,h⟩:=vS h;obtain⟨vs,e3,h⟩:=wj h;rw[e2];simp only[lC,e3]
     split at h
     ·cases h;rfl
     ·rename_i hns;cases h
      split
      ·rename_i h1;split at h1
       ·rename_i h0;cases h0;exact(hns _ rfl).elim
       ·rename_i h2;cases h1;cases h2;rfl
       ·rename_i h2;cases h2
      ·rename_i h1;split at h1
       ·cases h1
       ·cases h1
       ·rename_i h2;cases h2
    cases e with
    |normal=>exact fin h
    |ret=>exact fin h
    |_=>unfold den at h;cases h
   ·cases h
  ·cases h
 ·cases h
end
inductive pT where
 |mem(f:Mem->Option (ae×Mem))(v:ae)
 |call(f:Nat)(args:List ae)(v:ae)
 |bM(fv:ae)(args:List ae)(v:ae)
 |lP(r:Option (Nat×ae))(args:List ae)(v:ae)
 |val(r:Option ae)(v:ae)
 |cond(v:ae)(b:Bool)
 |idx(n:Int)(len:Nat)(i:Nat)
def yl {R:Type}(e:pT)(r:Option (List pT×R)):Option (List pT×R):=match r with |some (l,a)=>some (e::l,a)|none=>none
def follow {R:Type}:T R->List pT->Option (List pT×R)
 | .done a,[]=>some ([],a)
 | .mem f k,.mem _ v::L=>yl (.mem f v) (follow (k v) L)
 | .call f args k,.call _ _ v::L=>yl (.call f args v) (follow (k v) L)
 | .bM fv args k,.bM _ _ v::L=>yl (.bM fv args v) (follow (k v) L)
 | .lP r args k,.lP _ _ v::L=>yl (.lP r args v) (follow (k v) L)
 | .val r k,.val _ v::L=>yl (.val r v) (follow (k v) L)
 | .cond v k,.cond _ b::L=>yl (.cond v b) (follow (k b) L)
 | .idx n len k,.idx _ _ i::L=>yl (.idx n len i) (follow (k i) L)
 |_,_=>none
theorem mT {R:Type}{e:pT}{r:Option (List pT×R)}{L:List pT}{a:R}(h:yl e r=some (L,a)):∃l,L=e::l/\r=some (l,a):=by
 unfold yl at h
 split at h
 ·cases h;exact⟨_,rfl,rfl⟩
 ·cases h
inductive Kw (cl:cE):Mem->List pT->Mem->Prop
 |nil {m:Mem}:Kw cl m [] m
 |mem {m m1 m':Mem}{f:Mem->Option (ae×Mem)} {v:ae}{L:List pT} (h:f m=some (v,m1)) (k:Kw cl m1 L m'):Kw cl m (.mem f v::L) m'
 |call {m m1 m':Mem}{f:Nat}{args:List ae}{v:ae}{L:List pT} (h:cl f args m=some (v,m1)) (k:Kw cl m1 L m'):Kw cl m (.call f args v::L) m'
 |bM {m m1 m':Mem}{f:Nat}{first cap:Array ae}{args:List ae}{v:ae}{L:List pT} (h:cl f (first.toList++args++cap.toList) m=some (v,m1)) (k:Kw cl m1 L m'):Kw cl m (.bM (.func (.func f) first cap) args v::L) m'
 |lP {m m1 m':Mem}{f:Nat}{recv:ae}{args:List ae}{v:ae}{L:List pT} (h:cl f (recv::args) m=some (v,m1)) (k:Kw cl m1 L m'):Kw cl m (.lP (some (f,recv)) args v::L) m'
 |val {m m':Mem}{r:Option ae}{v:ae}{L:List pT} (h:r=some v) (k:Kw cl m L m'):Kw cl m (.val r v::L) m'
 |cond {m m':Mem}{v:ae}{b:Bool}{L:List pT} (h:v= .bool b) (k:Kw cl m L m'):Kw cl m (.cond v b::L) m'
 |idx {m m':Mem}{n:Int}{len i:Nat}{L:List pT} (h:n=(i:Int)) (hl:i<len) (k:Kw cl m L m'):Kw cl m (.idx n len i::L) m'
theorem CY {R:Type}{cl:cE}:∀{t:T R}{Yv L:List pT}{a:R}{m m':Mem},follow t Yv=some (L,a)->Kw cl m L m'->den cl t m=some (a,m'):=by
 intro t Yv
 induction Yv generalizing t with
 |nil=>
  intro L a m m' h hc;cases t with
  |done a=>cases h;cases hc;rfl
  |_=>unfold follow at h;cases h
 |cons e Yv ih=>
  intro L a m m' h hc;cases t with
  |done a=>unfold follow at h;cases h
  |fail=>unfold follow at h;cases h
  |mem f k=>
   cases e with
   |mem f' v=>obtain⟨l,rfl,h'⟩:=mT h;cases hc with |mem h1 h2=>unfold den;rw[h1];exact ih h' h2
   |_=>cases h
  |call f args k=>
   cases e with
   |call f' bJ v=>obtain⟨l,rfl,h'⟩:=mT h;cases hc with |call h1 h2=>unfold den;rw[h1];exact ih h' h2
   |_=>cases h
  |bM fv args k=>
   cases e with
   |bM f' bJ v=>obtain⟨l,rfl,h'⟩:=mT h;cases hc with |bM h1 h2=>unfold den;simp only[h1];exact ih h' h2
   |_=>cases h
  |lP r args k=>
   cases e with
   |lP f' bJ v=>obtain⟨l,rfl,h'⟩:=mT h;cases hc with |lP h1 h2=>unfold den;simp only[h1];exact ih h' h2
   |_=>cases h
  |val r k=>
   cases e with
   |val r' v=>obtain⟨l,rfl,h'⟩:=mT h;cases hc with |val h1 h2=>unfold den;simp only[h1];exact ih h' h2
   |_=>cases h
  |cond v k=>
   cases e with
   |cond v' b=>obtain⟨l,rfl,h'⟩:=mT h;cases hc with |cond h1 h2=>unfold den;simp only[h1];exact ih h' h2
   |_=>cases h
  |idx n len k=>
   cases e with
   |idx n' agG i=>
    obtain⟨l,rfl,h'⟩:=mT h;cases hc with
    |idx h1 h2 h3=>
     unfold den;subst h1
     show(match Nat.blt i len with |true=>den cl (k i) m|false=>none)=_
     rw[j3,AA h2];exact ih h' h3
   |_=>cases h
end Go.AM
namespace Go.AM
set_option maxRecDepth 1000000
open Go Go.Conc Go.Proofs
def fj:Code->Bool
 | .seq a b=>fj a&&fj b
 | .cond _ a b=>fj a&&fj b
 | .block _ a=>fj a
 | .loop a=>fj a
 | .scope _=>false
 |_=>true
theorem jz {P:aC}{nt:Nat}:∀{n:Nat}{c:Code}{f:F},fj c=true->comp P nt n c=some f->comp P nt (n+1) c=some f
 |0,_,_,_,h=>by cases h
 |n+1,c,f,hp,h=>by
  cases c with
  |seq a b=>
   unfold fj at hp;rw[ag]at hp;unfold comp at h⊢;simp only[]at h⊢
   split at h
   ·rename_i fa ha
    split at h
    ·rename_i fb hb;rw[jz hp.1 ha,jz hp.2 hb];exact h
    ·cases h
   ·cases h
  |cond x a b=>
   unfold fj at hp;rw[ag]at hp;unfold comp at h⊢;simp only[]at h⊢
   split at h
   ·rename_i hg;rw[bj hg]
    split at h
    ·rename_i fa ha
     split at h
     ·rename_i fb hb;rw[jz hp.1 ha,jz hp.2 hb];exact h
     ·cases h
    ·cases h
   ·cases h
  |block i a=>
   unfold fj at hp;unfold comp at h⊢;simp only[]at h⊢
   split at h
   ·rename_i fa ha;rw[jz hp ha];exact h
   ·cases h
  |loop a=>
   unfold fj at hp;unfold comp at h⊢;simp only[]at h⊢
   split at h
   ·rename_i fa ha;rw[jz hp ha];exact h
   ·cases h
  |scope b=>cases hp
  |_=>exact h
def iK (f:Nat):Bool:=Nat.beq f 137||Nat.beq f 140||Nat.beq f 14||Nat.beq f 22||Nat.beq f 38||Nat.beq f 73||Nat.beq f 75
structure fZ where
 C:Nat->Nat->cE
 step:∀M n f args m,iK f=false->C M (n+1) f args m=(jY ab X0 f).body (C M n) args m
def Ev (K:fZ)(f:Nat)(args:List ae)(m:Mem)(v:ae)(m':Mem):Prop:=∃N,∀M n,N<=M->N<=n->K.C M n f args m=some (v,m')
inductive Ch (K:fZ):Mem->List pT->Mem->Prop
 |nil {m:Mem}:Ch K m [] m
 |mem {m m1 m':Mem}{f:Mem->Option (ae×Mem)} {v:ae}{L:List pT} (h:f m=some (v,m1)) (k:Ch K m1 L m'):Ch K m (.mem f v::L) m'
 |call {m m1 m':Mem}{f:Nat}{args:List ae}{v:ae}{L:List pT} (h:Ev K f args m v m1) (k:Ch K m1 L m'):Ch K m (.call f args v::L) m'
 |bM {m m1 m':Mem}{f:Nat}{first cap:Array ae}{args:List ae}{v:ae}{L:List pT} (h:Ev K f (first.toList++args++cap.toList) m v m1) (k:Ch K m1 L m'):Ch K m (.bM (.func (.func f) first cap) args v::L) m'
 |lP {m m1 m':Mem}{r:Option (Nat×ae)} {f:Nat}{recv:ae}{args:List ae}{v:ae}{L:List pT} (hr:r=some (f,recv)) (h:Ev K f (recv::args) m v m1) (k:Ch K m1 L m'):Ch K m (.lP r args v::L) m'
 |val {m m':Mem}{r:Option ae}{v:ae}{L:List pT} (h:r=some v) (k:Ch K m L m'):Ch K m (.val r v::L) m'
 |cond {m m':Mem}{v:ae}{b:Bool}{L:List pT} (h:v= .bool b) (k:Ch K m L m'):Ch K m (.cond v b::L) m'
 |idx {m m':Mem}{n:Int}{len i:Nat}{L:List pT} (h:n=(i:Int)) (hl:i<len) (k:Ch K m L m'):Ch K m (.idx n len i::L) m'
theorem Ch.chN{K:fZ}{m m':Mem}{L:List pT}(h:Ch K m L m'):∃N,∀M n,N<=M->N<=n->Kw (K.C M n) m L m':=by
 induction h with
 |nil=>exact⟨0,fun _ _ _ _=> .nil⟩
 |mem h _ ih=>obtain⟨N,ih⟩:=ih;exact⟨N,fun M n a b=> .mem h (ih M n a b)⟩
 |call h _ ih=>
  obtain⟨N,ih⟩:=ih;obtain⟨N',h⟩:=h;exact⟨N+N',fun M n a b=> .call (h M n ai ai) (ih M n ai ai)⟩
 |bM h _ ih=>
  obtain⟨N,ih⟩:=ih;obtain⟨N',h⟩:=h;exact⟨N+N',fun M n a b=> .bM (h M n ai ai) (ih M n ai ai)⟩
 |lP hr h _ ih=>
  subst hr;obtain⟨N,ih⟩:=ih;obtain⟨N',h⟩:=h;exact⟨N+N',fun M n a b=> .lP (h M n ai ai) (ih M n ai ai)⟩
 |val h _ ih=>obtain⟨N,ih⟩:=ih;exact⟨N,fun M n a b=> .val h (ih M n a b)⟩
 |cond h _ ih=>obtain⟨N,ih⟩:=ih;exact⟨N,fun M n a b=> .cond h (ih M n a b)⟩
 |idx h hl _ ih=>obtain⟨N,ih⟩:=ih;exact⟨N,fun M n a b=> .idx h hl (ih M n a b)⟩
noncomputable def wI(f:Nat):Bool:=match ab.funcs[f]? with
 |some fn=>match fn.body with
  |some c=>Nat.ble fn.ntmps 512&&(comp ab fn.ntmps 1000 c).isSome
  |none=>false
 |none=>false
def Path (f:Nat)(args:List ae)(L:List pT)(v:ae):Prop:=wI f=true/\follow (XU ab X0 f args) L=some (L,v)
theorem aY {K:fZ}{f:Nat}{args:List ae}{L:List pT}{v:ae}{m m':Mem}(p:Path f args L v)(h:Ch K m L m')(hs:iK f=false:=by rfl):Ev K f args m v m':=by
 obtain⟨p1,p2⟩:=p;obtain⟨N,h⟩:=h.chN;refine⟨N+1,fun M n a b=>?_⟩;obtain⟨n,rfl⟩:∃k,n=k+1:=⟨n-1,ai⟩;rw[K.step M n f args m hs];unfold wI at p1
 split at p1
 ·rename_i fn Qh
  split at p1
  ·rename_i c hc;rw[ag]at p1;exact Mz Qh hc p1.1 p1.2 (CY p2 (h M n ai ai))
  ·cases p1
 ·cases p1
def vf (K:fZ)(nt:Nat)(c:Code)(st:Ss)(e:Exit)(jL:Ss):Prop:=∃N,∀M n,N<=M->N<=n->∃f,comp ab nt 1000 c=some f/\f (K.C M n) st=some (e,jL)
def bu (is:List Nat)(tm:Tm):List ae:=is.map fun i=>dj i tm
theorem vf.block{K:fZ}{nt id:Nat}{a:Code}{st iq:Ss}{e e':Exit}(h1:vf K nt a st e iq)(he:(match e with | .exit j=>if Nat.beq j id then Exit.normal else .exit j|e=>e)=e')(hp:fj a=true)(hs:(comp ab nt 1000 (.block id a)).isSome=true):vf K nt (.block id a) st e' iq:=by
 obtain⟨N,h1⟩:=h1;refine⟨N,fun M n x y=>?_⟩;obtain⟨fa,ha,ea⟩:=h1 M n ai ai;obtain⟨f,hf⟩:=qU.1 hs;refine⟨f,hf,?_⟩;unfold comp at hf;simp only[]at hf
 split at hf
 ·rename_i fa' mn;cases hf;have :=(jz hp mn).symm.trans ha;cases this;subst he;unfold HA;rw[ea];cases e with
  |exit j=>simp only[];split<;>rfl
  |_=>rfl
 ·cases hf
def vB (K:fZ)(nt:Nat)(a:Code)(k:Nat)(st:Ss)(e:Exit)(jL:Ss):Prop:=∃N,∀M n,N<=M->N<=n->∃f,comp ab nt 1000 a=some f/\xN f (K.C M n) k st=some (e,jL)
theorem vB.next{K:fZ}{nt k:Nat}{a:Code}{st iq yB:Ss}{e:Exit}(h1:vf K nt a st .normal iq)(h2:vB K nt a k iq e yB):vB K nt a (k+1) st e yB:=by
 obtain⟨N,h1⟩:=h1;obtain⟨N',h2⟩:=h2;refine⟨N+N',fun M n x y=>?_⟩;obtain⟨fa,ha,ea⟩:=h1 M n ai ai;obtain⟨fb,hb,eb⟩:=h2 M n ai ai;have :=ha.symm.trans hb;cases this;exact⟨fa,ha,by unfold xN;rw[ea];exact eb⟩
theorem vB.out{K:fZ}{nt k:Nat}{a:Code}{st iq:Ss}{e:Exit}(h1:vf K nt a st e iq)(he:e≠ .normal):vB K nt a (k+1) st e iq:=by
 obtain⟨N,h1⟩:=h1;refine⟨N,fun M n x y=>?_⟩;obtain⟨fa,ha,ea⟩:=h1 M n ai ai;refine⟨fa,ha,?_⟩;unfold xN;rw[ea];cases e<;>first |rfl|exact absurd rfl he
theorem vf.loop{K:fZ}{nt:Nat}{a:Code}{st iq:Ss}{e:Exit}(h1:vB K nt a 100000 st e iq)(hp:fj a=true)(hs:(comp ab nt 1000 (.loop a)).isSome=true):vf K nt (.loop a) st e iq:=by
 obtain⟨N,h1⟩:=h1;refine⟨N,fun M n x y=>?_⟩;obtain⟨fa,ha,ea⟩:=h1 M n ai ai;obtain⟨f,hf⟩:=qU.1 hs;refine⟨f,hf,?_⟩;unfold comp at hf;simp only[]at hf
 split at hf
 ·rename_i fa' mn;cases hf;have :=(jz hp mn).symm.trans ha;cases this;exact ea
 ·cases hf
noncomputable def eY(f:Nat):Nat:=match ab.funcs[f]? with |some fn=>fn.ntmps|none=>0
theorem OP {K:fZ}{f:Nat}{args:List ae}{m m':Mem}{tm cV:Tm}{e:Exit}{v:ae}(hc:wI f=true)(ht:(if Nat.ble args.length (eY f)then DS args else none)=some tm)(h:vf K (eY f) (bN f) ⟨tm,m,[]⟩ e ⟨cV,m',[]⟩)(he:e= .normal\/e= .ret)
  (hr:lC ab (eY f) (rsT f) cV m'=some v)(hs:iK f=false:=by rfl):Ev K f args m v m':=by
 obtain⟨N,h⟩:=h;refine⟨N+1,fun M n a b=>?_⟩;obtain⟨n,rfl⟩:∃k,n=k+1:=⟨n-1,ai⟩;rw[K.step M n f args m hs];obtain⟨g,hg,eg⟩:=h M n ai ai;unfold wI at hc
 split at hc
 ·rename_i fn Qh
  split at hc
  ·rename_i c th;rw[ag]at hc;have e1:eY f=fn.ntmps:=by unfold eY;rw[Qh]
   have e2:bN f=c:=by unfold bN;rw[Qh];simp only[dq,th]
   have e3:rsT f=fn.results.toList:=by unfold rsT;rw[Qh]
   rw[e1,e2]at hg;rw[e1]at ht;rw[e1,e3]at hr;unfold jY;simp only[Qh,th,hc.1,if_true,hg];unfold yr;rw[ht];simp only[eg];rcases he with rfl|rfl<;>simp only[OR,oQ,hr]
  ·cases hc
 ·cases hc
theorem N8.Gn{α:Type}(n:N8 α)(i:Nat):n.put i (n.get i)=n:=by
 obtain⟨a,b,c,d,e,f,g,h⟩:=n
 match i with
 |0|1|2|3|4|5|6|_+7=>rfl
theorem Pp {i:Nat}{v:ae}{tm:Tm}(h:dj i tm=v):tC i v tm=tm:=by
 subst h;unfold tC dj;rw[N8.Gn,N8.Gn,N8.Gn]
end Go.AM
namespace Go.AM
set_option maxRecDepth 1000000
open Go Go.Conc Go.Proofs
abbrev vI (n:Int):ae:= .int .i64 n
abbrev vP (b o:Nat):ae:= .pointer (some ⟨b,o,none⟩)
abbrev vL (b o l c:Nat):ae:= .slice (some ⟨b,o,none⟩) l c
abbrev bL (i j:Int):Int:=H0 Vb Int.add .i64 i j
abbrev bQ (i j:Int):Int:=H0 vZ Int.sub .i64 i j
abbrev kQ (i j:Int):Int:=H0 noQ Int.mul .i64 i j
abbrev jo (P:aC)(t:aO)(a:ae)(m:Mem):Bool:=(ky P t a m).isSome
end Go.AM
namespace Go.AM
set_option maxRecDepth 1000000
open Go Go.Conc Go.Proofs
structure Kp (m m':Mem)(S:Nat->Prop):Prop where
 next:m.next<=m'.next
 bh:m'.bh=m.bh
 opn:m'.opn=m.opn
 base:m'.base=m.base
 home:m'.home=m.home
 floor:m'.floor=m.floor
 wg:m'.wg=m.wg
 pend:m'.pend=m.pend
 deaf:m'.deaf=m.deaf
 blk:∀b,b<m.next->¬S b->m'.blk b=m.blk b
def fu:Nat->Prop:=fun _=>False
section
variable {m m1 m':Mem}{S S':Nat->Prop}
theorem Kp.refl(m:Mem)(S:Nat->Prop):Kp m m S:=⟨aj _,rfl,rfl,rfl,rfl,rfl,rfl,rfl,rfl,fun _ _ _=>rfl⟩
theorem Kp.mono(h:Kp m m' S)(k:∀b,b<m.next->S b->S' b):Kp m m' S':={h with blk:=fun b hb hs=>h.blk b hb fun x=>hs (k b hb x)}
theorem Kp.trans(h:Kp m m1 S)(k:Kp m1 m' S')(hk:∀b,b<m.next->S' b->S b):Kp m m' S:=
 ⟨bV h.next k.next,k.bh.trans h.bh,k.opn.trans h.opn,k.base.trans h.base,k.home.trans h.home,k.floor.trans h.floor,k.wg.trans h.wg,k.pend.trans h.pend,k.deaf.trans h.deaf,
  fun b hb hs=>(k.blk b (aW hb h.next) fun x=>hs (hk b hb x)).trans (h.blk b hb hs)⟩
theorem Kp.aZ(h:Kp m m1 S)(k:Kp m1 m' fu):Kp m m' S:=h.trans k fun _ _ h=>h.elim
theorem Kp.vl(h:Kp m m' fu):Kp m m' S:=h.mono fun _ _ h=>h.elim
theorem Kp.new{N:Nat}(h:Kp m m1 S)(k:Kp m1 m' S')(hn:m.next<=N)(hk:∀b,S' b->N<=b):Kp m m' S:=h.trans k fun b hb hs=>absurd (hk b hs) ai
structure Gd (m:Mem):Prop where
 pend:m.pend=[]
 deaf:m.deaf=0
 bf:m.base<=m.floor
 fn:m.floor<=m.next
 hn:m.home<=m.next
 bh:∀s∈m.bh,s.2.1<=m.next
theorem Gd.ext(h:Gd m)(k:Kp m m' S):Gd m':=
 ⟨k.pend.trans h.pend,k.deaf.trans h.deaf,by rw[k.base,k.floor];exact h.bf,by rw[k.floor];exact bV h.fn k.next,by rw[k.home];exact bV h.hn k.next,fun s hs=>by rw[k.bh]at hs;exact bV (h.bh s hs) k.next⟩
theorem Gd.fresh(h:Gd m){b:Nat}(hb:m.next<=b):aJ m.bh b=false:=gQ fun x hx _ h2=>by have :=h.bh x hx;omega
abbrev Own (m:Mem)(b:Nat):Prop:=m.fA b=true
theorem Own.ext{b:Nat}(h:Own m b)(k:Kp m m' S):Own m' b:=by unfold Own Mem.fA at h⊢;rw[k.bh,k.base,k.floor,k.opn];exact h
theorem Gd.own(h:Gd m)(k:Kp m m' S){b:Nat}(hb:m.next<=b):Own m' b:=by
 have h1:=h.fresh hb;unfold Own Mem.fA;rw[k.bh,k.base,k.floor,h1];have :=h.bf;have :=h.fn;simp only[Bool.not_false,Bool.true_and,ag,Bool.or_eq_true,iB];exact⟨ai,.inl ai⟩
theorem Own.may{b:Nat}(h:Own m b)(o n:Nat):m.dh b o n=true:=by
 unfold Own Mem.fA at h;unfold Mem.dh;simp only[ag,Bool.or_eq_true,iB,Bool.not_eq_true']at h⊢;exact⟨⟨gk h.1.1 o n,h.1.2⟩,h.2.elim (fun x=> .inl (.inl x)) fun x=> .inl (.inr x)⟩
structure Obj (m:Mem)(b sz:Nat)(cs:List ae):Prop where
 lt:b<m.next
 kind:(m.blk b).kind=1
 sz:(m.blk b).sz=sz
 cs:(m.blk b).cs=cs.map some
 Bu:aJ m.bh b=false
theorem Obj.ext{b sz:Nat}{cs:List ae}(h:Obj m b sz cs)(k:Kp m m' S)(hs:¬S b):Obj m' b sz cs:=by
 have e:=k.blk b h.lt hs;exact⟨aW h.lt k.next,by rw[e];exact h.kind,by rw[e];exact h.sz,by rw[e];exact h.cs,by rw[k.bh];exact h.Bu⟩
theorem Obj.cf{b sz:Nat}{cs:List ae}(h:Obj m b sz cs)(k:Kp m m' fu):Obj m' b sz cs:=h.ext k id
theorem kh:∀{cs:List ae}{n:Nat},n<=cs.length->fU (cs.map some) n=some (cs.take n)
 |_,0,_=>by simp[fU]
 | [],n+1,h=>by simp at h
 |v::cs,n+1,h=>by simp only[List.map_cons,fU,kh (cs:=cs) (n:=n) (by simpa using h),cU,List.take_succ_cons]
theorem jR {b sz o n:Nat}{cs vs:List ae}(h:Obj m b sz cs)(hv:(cs.drop o).take n=vs)(hn:o+n<=cs.length):m.dK b o n=some vs:=by
 unfold Mem.dK;simp only[h.kind,gk h.Bu o n,h.cs,beq_self_eq_true,Bool.not_false,Bool.and_self,if_true];rw[<-List.map_drop,kh (by simp;omega),hv]
theorem dX {b sz o n:Nat}{cs vs:List ae}(h:Obj m b sz cs)(hv:(cs.drop o).take n=vs)(hn:o+n<=cs.length):eU n b o m=some (.agg vs.toArray,m):=by
 unfold eU;rw[jR h hv hn]
theorem aS {b sz o:Nat}{cs:List ae}{v:ae}(h:Obj m b sz cs)(hv:cs[o]?=some v):aD b o m=some (v,m):=by
 unfold aD;have hk:=h.kind;have hc:=h.cs;cases hb:m.blk b with
 |mk kind z c es clock str pos bK=>
  rw[hb]at hk hc;simp only at hk hc;subst hk hc;simp only[CP,gk h.Bu o 1,Bool.not_false,yh];have :(cs.map some).drop o=some v::(cs.drop (o+1)).map some:=by
   rw[<-List.map_drop];have hd:cs.drop o=v::cs.drop (o+1):=by
    obtain⟨cB,he⟩:=List.getElem?_eq_some_iff.1 hv;rw[<-he];exact List.drop_eq_getElem_cons cB
   rw[hd];rfl
  rw[this]
def sY (cs:List ae)(o:Nat):List ae->List ae
 | []=>cs
 |v::vs=>sY (cs.set o v) (o+1) vs
theorem jH:∀(vs:List ae) (x:ae) (cs:List ae) (o:Nat),sY (x::cs) (o+1) vs=x::sY cs o vs
 | [],_,_,_=>rfl
 |v::vs,x,cs,o=>by unfold sY;simp only[List.set_cons_succ];exact jH vs x (cs.set o v) (o+1)
theorem lH:∀{cs:List ae}{o:Nat}{vs:List ae},o+vs.length<=cs.length->eD (cs.map some) o vs=some ((sY cs o vs).map some)
 |cs,o,[],_=>by cases cs<;>cases o<;>rfl
 | [],o,v::vs,h=>by simp at h
 |c::cs,0,v::vs,h=>by
  simp only[List.map_cons,eD];rw[lH (cs:=cs) (o:=0) (vs:=vs) (by simp at h;omega)]
  show some (some v::(sY cs 0 vs).map some)=some ((sY (v::cs) 1 vs).map some)
  rw[jH];rfl
 |c::cs,o+1,v::vs,h=>by
  simp only[List.map_cons,eD];rw[lH (cs:=cs) (o:=o) (vs:=v::vs) (by simp at h⊢;omega),jH];rfl
theorem pO {b:Nat}{k:dZ}:Kp m (m.a9 b k) (fun x=>x=b):=⟨aj _,rfl,rfl,rfl,rfl,rfl,rfl,rfl,rfl,fun x _ hx=>by rw[Mem.eC,bW (fun e=>hx e.symm)]⟩
theorem mF {b sz o:Nat}{cs:List ae}(vs:List ae)(h:Obj m b sz cs)(hw:m.dh b o vs.length=true)(hn:o+vs.length<=cs.length)(hv:vs.all (·.oneCell')=true):
  ∃m',DT b o vs m=some (undef,m')/\Obj m' b sz (sY cs o vs)/\Kp m m' (fun x=>x=b):=by
 have e:m.dP b o vs=some (m.a9 b {m.blk b with cs:=(sY cs o vs).map some}):=by
  unfold Mem.dP;simp only[h.kind,hw,hv,h.cs,beq_self_eq_true,Bool.and_self,if_true,lH hn,cU]
 refine⟨m.a9 b {m.blk b with cs:=(sY cs o vs).map some},by unfold DT;rw[e],⟨h.lt,?_,?_,?_,h.Bu⟩,pO⟩
 ·rw[Mem.eC,bj rfl];exact h.kind
 ·rw[Mem.eC,bj rfl];exact h.sz
 ·rw[Mem.eC,bj rfl]
theorem EN:∀{o:Nat}{cs:List ae}{v:ae},o<cs.length->∃l,wi o (cs.map some) v=some l:=by
 intro o
 induction o using Nat.strongRecOn with
 |ind o ih=>
  intro cs v h;rcases o with _|_|_|_|_|_|_|_|o<;>rcases cs with _|⟨c0,_|⟨c1,_|⟨c2,_|⟨c3,_|⟨c4,_|⟨c5,_|⟨c6,_|⟨c7,t⟩⟩⟩⟩⟩⟩⟩⟩<;>
   first
   |exact⟨_,rfl⟩
   |(exfalso;simp only[List.length_cons,List.length_nil]at h;omega)
   |(obtain⟨l,hl⟩:=ih o ai (cs:=t) (v:=v) (by simp only[List.length_cons]at h;omega)
     exact⟨_,by simp only[List.map_cons,wi,hl];rfl⟩)
theorem N7 {b o:Nat}(h:m.dh b o 1=true):P2 m b o=true:=by
 unfold P2
 split
 ·exact Nat.ble_eq_true_of_le (Mem.ku h)
 ·exact h
theorem jF {b sz o:Nat}{cs:List ae}(v:ae)(h:Obj m b sz cs)(hw:m.dh b o 1=true)(hn:o<cs.length)(h1:lj v=true:=by rfl):
  ∃m',eH b o v m=some (undef,m')/\Obj m' b sz (cs.set o v)/\Kp m m' (fun x=>x=b):=by
 obtain⟨l,hl⟩:=EN (v:=v) hn;have hp:=AW _ _ _ _ hl;rw[lH (cs:=cs) (o:=o) (vs:=[v]) (by simp;omega)]at hp;obtain rfl:=Option.some.inj hp;have hk:=h.kind;have hc:=h.cs;have hz:=h.sz;unfold eH;cases hb:m.blk b with
 |mk kind z c es clock str pos bK=>
  rw[hb]at hk hc hz;simp only at hk hc hz;subst hk hc hz;simp only[h1,N7 hw,hl];refine⟨_,rfl,⟨h.lt,?_,?_,?_,h.Bu⟩,⟨aj _,rfl,rfl,rfl,rfl,rfl,rfl,rfl,rfl,fun x _ hx=>?_⟩⟩
  ·show((m.heap.put b _).get b).kind=1
   rw[iU.get_put,bj rfl]
  ·show((m.heap.put b _).get b).sz=_
   rw[iU.get_put,bj rfl]
  ·show((m.heap.put b _).get b).cs=_
   rw[iU.get_put,bj rfl];rfl
  ·show(m.heap.put b _).get x=m.blk x
   rw[iU.get_put,bW (fun e=>hx e.symm)];rfl
theorem gJ (h:Gd m){k:dZ}{cs:List ae}{sz:Nat}(hk:k.kind=1)(hs:k.sz=sz)(hc:k.cs=cs.map some):Obj (m.alloc k) m.next sz cs/\Kp m (m.alloc k) fu/\(m.alloc k).next=m.next+1:=by
 refine⟨⟨Nat.lt_succ_self _,?_,?_,?_,h.fresh (aj _)⟩,⟨Nat.le_succ _,rfl,rfl,rfl,rfl,rfl,rfl,rfl,rfl,fun x hx _=>?_⟩,rfl⟩
 ·rw[Mem.cD,bj rfl];exact hk
 ·rw[Mem.cD,bj rfl];exact hs
 ·rw[Mem.cD,bj rfl];exact hc
 ·rw[Mem.cD,bW ai]
theorem cA (h:Gd m)(cs:List ae):∃m',lU (cs.map some) m=some (vP m.next 0,m')/\Obj m' m.next 0 cs/\Kp m m' fu/\m'.next=m.next+1/\(m'.blk m.next).pos=1:=by
 obtain⟨h1,h2,h3⟩:=gJ (m:=m) h (k:=⟨1,0,cs.map some,#[],0,.empty,1,0⟩) rfl rfl rfl;exact⟨m.alloc ⟨1,0,cs.map some,#[],0,.empty,1,0⟩,rfl,h1,h2,h3,by rw[Mem.cD,bj rfl]⟩
theorem aK (h:Gd m):zT m=some (undef,m):=by unfold zT;rw[h.pend]
theorem km (b o:Nat):nO (vP b o) m=some (vI ((m.blk b).bK:Int),m):=rfl
theorem J5 {v:ae}{b s:Nat}{lk:Mem->Bool}(hv:mV v=some b)(hs:(m.blk b).bK=s)(hl:lk m=true):fS (vI s) v lk m=some (undef,m):=by
 unfold fS jj;rw[hv,hl];subst hs
 show(match Nat.beq (m.blk b).bK (m.blk b).bK&&true with |true=>_|false=>_)=_
 rw[show Nat.beq (m.blk b).bK (m.blk b).bK=true from Nat.beq_refl _];rfl
end
end Go.AM
namespace Go.AM
set_option maxRecDepth 1000000
open Go Go.Conc Go.Proofs
theorem aU.{u}{α:Sort u}{a b:α}(h:a=b:=by kernel_rfl):a=b:=h
def UG:List Nat:=[1,2,3,4,5,9,10,21,22,25,28,29,47,54,55,66,67,72,74,84,89,93,97,98,99,100,101,104,120,131,147,150,155,156,157,158,159,162,173,174,223,258,259,301,302,322,346,347,371,376,395,396,439,440]
theorem UF:(UG.all fun t=>zC ab t==some false)=true:=aU
theorem ahK {t:Nat}(h:UG.contains t=true):zC ab t=some false:=by
 have :=aB.1 UF t (by simpa using h);simpa using this
theorem Hv {m:Mem}{b o sz s t:Nat}{cs:List ae}{v:ae}(h:Obj m b sz cs)(hv:cs[o]?=some v)(hs:(m.blk b).bK=s)(ht:UG.contains t=true:=by rfl):fS (vI s) (vP b o) (jo ab t (vP b o)) m=some (undef,m):=by
 refine J5 rfl hs ?_;unfold jo ky;simp only[ahK ht];obtain⟨cB,he⟩:=List.getElem?_eq_some_iff.1 hv;have :m.dK b o 1=some [v]:=jR h (by rw[List.drop_eq_getElem_cons cB];simp[he]) ai;rw[this];rfl
theorem alx {m:Mem}{v:ae}{b s:Nat}(hv:mV v=some b)(hf:m.floor<=b)(hs:(m.blk b).bK=s):fS (vI s) v (wF v) m=some (undef,m):=by
 refine J5 hv hs ?_;unfold wF;rw[hv];exact Nat.ble_eq_true_of_le hf
section
variable {P:aC}
theorem gz {α β:Type}{x:Sem α}{f:α->Sem β}:(x>>=f).aM P=(x.aM P).bind fun a=>(f a).aM P:=by
 show(x.bind f).aM P=_
 induction x with
 |pure a=>rfl
 |program k ih=>exact ih P
 |_=>rfl
theorem oH {α:Type}(a:α):(pure a:Sem α).aM P=some a:=rfl
theorem BV:(program:Sem aC).aM P=some P:=rfl
theorem BW (d:Nat)(t:aO)(k k':bU)(a b:Int)(h:P.underlying t=some (.int k')):(Op.equalIn (d+1) t (.int k a) (.int k b)).aM P=some (a==b):=by
 simp only[Op.equalIn,gz,fE h,dq,if_true,oH]
theorem AG (d:Nat)(t:aO)(a b:Bool)(h:P.underlying t=some .bool):(Op.equalIn (d+1) t (.bool a) (.bool b)).aM P=some (a==b):=by
 simp only[Op.equalIn,gz,fE h,dq,oH]
theorem xF (d:Nat)(t:aO)(a b:ByteArray)(h:P.underlying t=some .string):(Op.equalIn (d+1) t (.string a) (.string b)).aM P=some (a==b):=by
 simp only[Op.equalIn,gz,fE h,dq,oH]
theorem St {α:Type}{c:Prop}[Decidable c]{x y:Sem α}:(if c then x else y).aM P=if c then x.aM P else y.aM P:=by split<;>rfl
theorem xE (d:Nat)(t:aO)(xs ys:Array ae)(ht:P.underlying t=some (.struct (P.fieldsOf t)))(hp:P.stoodInHeld t=false):
  (Op.equalIn (d+1) t (.agg xs) (.agg ys)).aM P=(Op.eqFields d xs ys (P.fieldsOf t).toList).aM P:=by
 simp only[Op.equalIn,gz,fE ht,dq,BV,hp,cF,if_false];rw[<-Array.forIn_toList];generalize(P.fieldsOf t).toList=fs;clear ht
 induction fs with
 |nil=>simp[Op.eqFields,oH]
 |cons f fs ih=>
  simp only[List.forIn_cons,Op.eqFields,gz,St]
  split
  ·cases(part f.type xs f.offset).aM P with
   |none=>rfl
   |some a=>
    simp only[dq];cases(part f.type ys f.offset).aM P with
    |none=>rfl
    |some b=>
     simp only[dq];cases(Op.equalIn d f.type a b).aM P with
     |none=>rfl
     |some r=>
      cases r
      ·simp only[dq,Bool.not_false,if_true,oH]
      ·simp only[dq,Bool.not_true,cF,if_false,oH];exact ih
  ·simp only[oH,dq];exact ih
theorem BY (op:BinOp)(t:aO)(x y:bS)(xs ys:Array ae)(hm:P.eqGuardType P.depth t=false):(eqGuard op t x y (.agg xs) (.agg ys)).aM P=some ():=by
 cases op<;>simp[eqGuard,gz,BV,hm,oH]
end
structure V where
 k:Int
 n:Int
 s:ByteArray
 b:Bool
def V.beq(x y:V):Bool:=x.k==y.k&&(x.n==y.n&&(x.s==y.s&&x.b==y.b))
theorem V.beq_iff{x y:V}:x.beq y=true↔x=y:=by
 obtain⟨k1,n1,s1,b1⟩:=x;obtain⟨k2,n2,s2,b2⟩:=y;simp only[V.beq,V.mk.injEq,ag,beq_iff_eq,bytes_beq]
def V.cells(v:V):List ae:=[vI v.k,vI v.n,.string v.s,.bool v.b]
abbrev V.val(v:V):ae:= .agg #[vI v.k,vI v.n,.string v.s,.bool v.b]
theorem adL:ab.underlying 49=some (.struct (ab.fieldsOf 49)):=aU
theorem V5:ab.stoodInHeld 49=false:=aU
theorem aiD:ab.underlying 3=some (.int .i64):=aU
theorem aiC:ab.underlying 4=some .bool:=aU
theorem VZ:ab.underlying 9=some .string:=aU
theorem UH (k1 n1:Int)(s1:ByteArray)(b1:Bool)(k2 n2:Int)(s2:ByteArray)(b2:Bool):
  (ab.fieldsOf 49).toList.map (fun f=>((f.name != "_":Bool),f.type,(part f.type #[vI k1,vI n1,.string s1,.bool b1] f.offset).aM ab,(part f.type #[vI k2,vI n2,.string s2,.bool b2] f.offset).aM ab))=
  [(true,3,some (vI k1),some (vI k2)),(true,3,some (vI n1),some (vI n2)),(true,9,some (.string s1),some (.string s2)),(true,4,some (.bool b1),some (.bool b2))]:=aU
theorem zS {d:Nat}{xs ys:Array ae}:∀{fs:List Field}{l:List (Bool×Nat×Option ae×Option ae)},
  fs.map (fun f=>((f.name != "_":Bool),f.type,(part f.type xs f.offset).aM ab,(part f.type ys f.offset).aM ab))=l->
  (Op.eqFields d xs ys fs).aM ab=l.foldr (fun x r=>if x.1 then x.2.2.1.bind fun a=>x.2.2.2.bind fun b=>((Op.equalIn d x.2.1 a b).aM ab).bind fun c=>if c then r else some false else r) (some true)
 | [],l,h=>by subst h;rfl
 |f::fs,l,h=>by
  subst h;simp only[List.map_cons,List.foldr_cons];rw[<-zS (fs:=fs) rfl]
  conv=>lhs;unfold Op.eqFields
  by_cases hn:f.name= "_"
  ·simp only[hn,bne_self_eq_false,ne_eq,not_true_eq_false,if_false,cF]
  ·have :(f.name != "_")=true:=by simpa using hn
   simp only[hn,this,ne_eq,not_false_eq_true,if_true,gz,St,oH];cases(part f.type xs f.offset).aM ab with
   |none=>rfl
   |some a=>
    cases(part f.type ys f.offset).aM ab with
    |none=>rfl
    |some b=>
     simp only[dq];cases(Op.equalIn d f.type a b).aM ab with
     |none=>rfl
     |some c=>cases c<;>rfl
theorem alk (x y:V):(Op.equalIn 10000 49 x.val y.val).aM ab=some (x.beq y):=by
 rw[show(10000:Nat)=9999+1 from rfl,xE 9999 49 _ _ adL V5,zS (UH x.k x.n x.s x.b y.k y.n y.s y.b)];simp only[List.foldr_cons,List.foldr_nil,if_true,dq,show(9999:Nat)=9998+1 from rfl,BW 9998 3 _ _ _ _ aiD,xF 9998 9 _ _ VZ,AG 9998 4 _ _ aiC];unfold V.beq;cases x.k==y.k<;>cases x.n==y.n<;>cases x.s==y.s<;>cases x.b==y.b<;>rfl
theorem XQ:ab.eqGuardType ab.depth 49=false:=aU
theorem tK {P:aC}{l:List ae}{s:Sem ae}{v:ae}(h1:l.all plain=true)(h2:s.aM P=some v)(h3:plain v=true):pu P l s=some v:=by
 unfold pu;simp only[h1,h2,h3]
theorem Ce (cx cy:Bool)(x y:V):gE ab .neq 49 cx cy x.val y.val=some (.bool (!x.beq y)):=by
 refine tK rfl ?_ rfl;rw[gz,BY _ _ _ _ _ _ XQ]
 show(Sem.aM ab (Op.equal 49 x.val y.val>>=fun b=>(pure (ae.bool (!b)):Sem ae)))=_
 rw[gz]
 show Option.bind ((Op.equalIn 10000 49 x.val y.val).aM ab) _=_
 rw[alk];rfl
theorem abB (cx cy:Bool)(a b:ByteArray):gE ab .lss 9 cx cy (.string a) (.string b)=some (.bool (Op.bytesLess a.toList b.toList)):=by
 refine tK rfl ?_ rfl;rw[gz];rfl
theorem ahF (cx cy:Bool)(a b:ByteArray):gE ab .gtr 9 cx cy (.string a) (.string b)=some (.bool (!(Op.bytesLess a.toList b.toList||a.toList==b.toList))):=by
 refine tK rfl ?_ rfl;rw[gz];rfl
theorem HF {q:Int->Int->Option Nat}{f:Int->Int->Int}{a:bU}{i j:Int}(hq:∀n,q i j=some n->f i j=n):H0 q f a i j=a.wrap (f i j):=by
 unfold H0
 split
 ·rename_i n hn
  split
  ·rename_i hb;rw[hq n hn,rS hb];rfl
  ·rfl
 ·rfl
theorem QR (i j:Int):bL i j=bU.i64.wrap (i+j):=HF fun n h=>by
 unfold Vb at h
 split at h
 ·cases h;rfl
 ·cases h
theorem Pu (i j:Int):bQ i j=bU.i64.wrap (i-j):=HF fun n h=>by
 unfold vZ at h
 split at h
 ·split at h
  ·rename_i a b hb;cases h;have :=af hb
   show((a:Int)-(b:Int))=((a-b:Nat):Int)
   omega
  ·cases h
 ·cases h
theorem PZ (i j:Int):kQ i j=bU.i64.wrap (i*j):=HF fun n h=>by cases h
theorem vd {i j:Int}(h:KD (i+j)):bL i j=i+j:=(QR i j).trans (qf h)
theorem xr {i j:Int}(h:KD (i-j)):bQ i j=i-j:=(Pu i j).trans (qf h)
theorem N5 {i j:Int}(h:KD (i*j)):kQ i j=i*j:=(PZ i j).trans (qf h)
theorem abJ (i j:Int):fM i j=decide (i<=j):=by unfold fM;rw[fG,Bool.eq_iff_iff];simp
theorem Mx (i j:Int):nV i j=decide (j<i):=fG j i
theorem Hd (i j:Int):gU i j=decide (j<=i):=by unfold gU;rw[fG,Bool.eq_iff_iff];simp
theorem jk (i j:Int):nK i j=decide (i≠j):=by unfold nK;rw[a8,Bool.eq_iff_iff];simp
@[reducible]def gZ (v:V):ae:=.agg #[vI v.k,vI v.n,.string v.s,.bool v.b]
@[reducible]def zsV (v:V):List (Option ae):=[some (vI v.k),some (vI v.n),some (.string v.s),some (.bool v.b)]
@[reducible]def Vq (v:V):List ae:=[vI v.k,vI v.n,.string v.s,.bool v.b]
@[reducible]def VP:List (Option ae):=[some (vI 0),some (vI 0),some (.string .empty),some (.bool false)]
end Go.AM
namespace Go.AM
set_option maxRecDepth 1000000
open Go Go.Conc Go.Proofs
def mY (m:Mem)(v:ae)(sz n:Nat)(cs:List ae):Prop:=
 cs.length=n*sz/\((v= .slice none 0 0/\n=0)\/∃b c,v=vL b 0 n c/\Obj m b sz cs/\(c=cH\/c=n))
def aio (S:Nat->Prop)(v:ae):Prop:=∀b o n c,v=vL b o n c->¬S b
theorem mY.ext{m m':Mem}{S:Nat->Prop}{v:ae}{sz n:Nat}{cs:List ae}(h:mY m v sz n cs)(k:Kp m m' S)(hs:aio S v):mY m' v sz n cs:=by
 refine⟨h.1,h.2.imp id fun⟨b,c,e,o,x⟩=>⟨b,c,e,o.ext k (hs b 0 n c e),x⟩⟩
theorem mY.cf{m m':Mem}{v:ae}{sz n:Nat}{cs:List ae}(h:mY m v sz n cs)(k:Kp m m' fu):mY m' v sz n cs:=h.ext k fun _ _ _ _ _=>id
theorem mY.nil{m:Mem}{sz:Nat}:mY m (.slice none 0 0) sz 0 []:=⟨du,.inl ⟨rfl,rfl⟩⟩
def sI:List (Nat×Nat):=[(104,4),(131,1),(150,1),(155,6),(156,2),(159,1),(162,4),(22,1),(223,6),(28,1),(29,1),(302,2),(395,1),(72,1),(89,2),(93,1),(97,6),(98,2),(99,3),(47,4),(120,1),(301,1)]
noncomputable def ac4(p:Nat×Nat):Bool:=match ab.underlying p.1 with
 |some (.slice e)=>(ep ab e==some p.2)&&Nat.blt 0 p.2&&(match ab.info? e with |some i=>decide (0<i.bytes)&&decide (i.bytes<=1024)&&(iw ab e).isSome|none=>false)
 |_=>false
theorem O6:(sI.all ac4)=true:=aU
theorem sH {t sz:Nat}(h:sI.contains (t,sz)=true):∃e,ab.underlying t=some (.slice e)/\ep ab e=some sz/\0<sz/\∀need,need<=2^30->zj ab e need=true:=by
 have :=aB.1 O6 (t,sz) (by simpa using h);unfold ac4 at this
 split at this
 ·rename_i e he;rw[ag,ag]at this;obtain⟨⟨h1,h0⟩,h2⟩:=this;refine⟨e,he,by simpa using h1,by simpa[Nat.blt_eq]using h0,fun need hn=>?_⟩
  split at h2
  ·rename_i i hi;simp only[ag,iB]at h2;unfold zj;rw[hi];simp only[ag,iB];refine⟨⟨⟨h2.1.1,?_⟩,ai⟩,h2.2⟩
   calc need*i.bytes<=2^30*1024:=Nat.mul_le_mul hn h2.1.2
    _<=2^46:=eS
  ·cases h2
 ·cases this
theorem kZ {m:Mem}{v:ae}{sz n:Nat}{cs:List ae}(h:mY m v sz n cs):lR m sz n v=some cs:=by
 rcases h with⟨hl,⟨rfl,rfl⟩|⟨b,c,rfl,ho,_⟩⟩
 ·have :cs=[]:=by rw[Nat.zero_mul]at hl;exact List.length_eq_zero_iff.1 hl
  subst this;rfl
 ·show m.dK b 0 (n*sz)=some cs
  exact jR ho (by simp[<-hl]) ai
theorem mY.Mb{m:Mem}{v:ae}{sz n:Nat}{cs:List ae}(h:mY m v sz n cs):GU v=some n:=by
 rcases h with⟨hl,⟨rfl,rfl⟩|⟨b,c,rfl,ho,_⟩⟩<;>rfl
theorem O5 {m:Mem}(g:Gd m){t sz n:Nat}{x:ae}{new:List ae}(ht:sI.contains (t,sz)=true)(hx:mY m x sz n new)(h1:∀y∈new,y.oneCell'=true)(hn:n≠0)(hb:n<=2^30):
  ∃m',cZ ab #[t,t] (.slice none 0 0) x m=some (vL m.next 0 n cH,m')/\Obj m' m.next sz new/\Kp m m' fu/\m'.next=m.next+1:=by
 obtain⟨e,h3,h4,h0,h5⟩:=sH ht;have hf:=kZ hx;have hl:=hx.Mb;have hlen:new.length=n*sz:=hx.1;have lY:(new.all (·.oneCell'))=true:=aB.2 h1;have e0:lR m sz 0 (.slice none 0 0)=some []:=rfl;obtain⟨k1,k2,k3⟩:=gJ g (k:={kind:=1,sz:=sz,cs:=new.map some}) (cs:=new) rfl rfl rfl;refine⟨_,?_,k1,k2,k3⟩;unfold cZ;simp only[show(#[t,t]:Array aO)[0]?=some t from rfl,show(#[t,t]:Array aO)[1]?=some t from rfl,dq,h3,h4,hl,hf];rw[bW (by rw[h5 _ ai,hlen,lY];simp),bW eS,bW ai];simp only[e0,List.length_nil,Nat.zero_mul,if_true,List.nil_append,Nat.zero_add]
theorem Yq {m:Mem}(g:Gd m){t sz n b len:Nat}{x:ae}{old new rest:List ae}(ht:sI.contains (t,sz)=true)(ho:Obj m b sz (old++rest))(Qc:old.length=len*sz)(hw:Own m b)(hx:mY m x sz n new)
  (h1:∀y∈new,y.oneCell'=true)(hb:len+n<=2^30):
  ∃m',cZ ab #[t,t] (vL b 0 len cH) x m=some (vL m.next 0 (len+n) cH,m')/\Obj m' m.next sz (old++new)/\Kp m m' (fun y=>y=b)/\m'.next=m.next+1:=by
 obtain⟨e,h3,h4,h0,h5⟩:=sH ht;have hf:=kZ hx;have hl:=hx.Mb;have hlen:new.length=n*sz:=hx.1;have lY:(new.all (·.oneCell'))=true:=aB.2 h1;have htk:fU (((old++rest).map some).drop 0) (len*sz)=some old:=by
  rw[List.drop_zero,kh (by simp;omega),<-Qc];simp
 have g2:Gd (m.a9 b {}):=g.ext pO;obtain⟨k1,k2,k3⟩:=gJ g2 (k:={kind:=1,sz:=sz,cs:=(old++new).map some}) (cs:=old++new) rfl rfl rfl;refine⟨_,?_,k1,Kp.aZ pO k2,k3⟩;unfold cZ;simp only[show(#[t,t]:Array aO)[0]?=some t from rfl,show(#[t,t]:Array aO)[1]?=some t from rfl,dq,h3,h4,hl,hf];rw[bW (by rw[h5 _ ai,hlen,lY];simp),bj trivial];have pK:(((m.blk b).cs.drop 0).all (·.isSome))=true:=by rw[ho.cs];simp
 simp only[ho.kind,ho.sz,ho.cs]at pK⊢;rw[bj (by rw[pK,show m.fA b=true from hw];simp)];simp only[htk]
theorem Obj.sl{m:Mem}{b sz n:Nat}{cs:List ae}(h:Obj m b sz cs)(hl:cs.length=n*sz){c:Nat}(hc:c=cH\/c=n):mY m (vL b 0 n c) sz n cs:=⟨hl,.inr ⟨b,c,rfl,h,hc⟩⟩
theorem ly {m:Mem}(g:Gd m)(z vs:List ae)(hl:z.length=vs.length)(h1:vs.all (·.oneCell')=true):
  ∃m1 m2,lU (z.map some) m=some (vP m.next 0,m1)/\DT m.next 0 vs m1=some (undef,m2)/\Obj m2 m.next 0 vs/\Kp m m2 fu/\m2.next=m.next+1:=by
 obtain⟨m1,e1,o1,k1,n1,_⟩:=cA g z;have hw:=g.own k1 (aj _);obtain⟨m2,e2,o2,k2⟩:=mF (o:=0) vs o1 (hw.may _ _) ai h1;have :sY z 0 vs=vs:=by
  have key:∀(vs z:List ae),z.length=vs.length->sY z 0 vs=vs:=by
   intro vs
   induction vs with
   |nil=>intro z hz;exact List.length_eq_zero_iff.1 hz
   |cons v vs ih=>
    intro z hz;cases z with
    |nil=>simp at hz
    |cons a z=>
     show sY ((a::z).set 0 v) 1 vs=_
     rw[List.set_cons_zero,jH,ih z (by simpa using hz)]
  exact key vs z hl
 rw[this]at o2;refine⟨m1,m2,e1,e2,o2,k1.new k2 (aj _) fun b hb=>by rw[hb];exact aj _,?_⟩;have :=k2.next;have e:m2.next=m1.next:=by
  unfold DT at e2
  split at e2
  ·rename_i m' hm;cases e2;unfold Mem.dP at hm;simp only[]at hm
   split at hm
   ·obtain⟨cs,_,rfl⟩:=az.1 hm;rfl
   ·cases hm
  ·cases e2
 omega
end Go.AM
namespace Go.AM
set_option maxRecDepth 1000000
open Go Go.Conc Go.Proofs
def di:Code->List Code
 | .seq a b=>di a++di b
 |c=>[c]
def oJ:Code->List Nat->Code
 |c,[]=>c
 |c,i::l=>match(di c)[i]? with
  |some (.block _ (.loop b))=>oJ b l
  |some (.block _ b)=>oJ b l
  |some (.cond _ a b)=>match l with
   |0::l'=>oJ a l'
   |_::l'=>oJ b l'
   | []=>c
  |_=>c
noncomputable def oF(nt:Nat):List Code->Option F
 | []=>some xz
 |c::l=>match comp ab nt 1000 c with
  |some a=>match oF nt l with
   |some b=>some (oE a b)
   |none=>none
  |none=>none
def vC (K:fZ)(nt:Nat)(l:List Code)(st:Ss)(e:Exit)(jL:Ss):Prop:=∃N,∀M n,N<=M->N<=n->∃g,oF nt l=some g/\g (K.C M n) st=some (e,jL)
section
variable {K:fZ}{nt:Nat}
theorem Lr {a b c:F}{cl:cE}{st:Ss}:oE (oE a b) c cl st=oE a (oE b c) cl st:=by
 unfold oE;cases a cl st with
 |none=>rfl
 |some x=>obtain⟨e,iq⟩:=x;cases e<;>rfl
theorem EO {a:F}{cl:cE}{st:Ss}:oE a xz cl st=a cl st:=by
 unfold oE xz;cases a cl st with
 |none=>rfl
 |some x=>obtain⟨e,iq⟩:=x;cases e<;>rfl
theorem Lq {a b b':F}{cl:cE}{st:Ss}(h:∀st,b cl st=b' cl st):oE a b cl st=oE a b' cl st:=by
 unfold oE;cases a cl st with
 |none=>rfl
 |some x=>obtain⟨e,iq⟩:=x;cases e<;>first |rfl|exact h _
theorem qk:∀{l l':List Code}{a b:F},oF nt l=some a->oF nt l'=some b->∃g,oF nt (l++l')=some g/\∀cl st,g cl st=oE a b cl st
 | [],l',a,b,ha,hb=>by cases ha;exact⟨b,hb,fun cl st=>rfl⟩
 |c::l,l',a,b,ha,hb=>by
  unfold oF at ha
  split at ha
  ·rename_i f hf
   split at ha
   ·rename_i h hh;cases ha;obtain⟨g,hg,e⟩:=qk hh hb;refine⟨oE f g,?_,fun cl st=>?_⟩
    ·show oF nt (c::(l++l'))=_
     unfold oF;rw[hf,hg]
    ·rw[Lr];exact Lq fun st=>e cl st
   ·cases ha
  ·cases ha
theorem vC.append{l l':List Code}{st iq yB:Ss}{e:Exit}(h:vC K nt l st .normal iq)(k:vC K nt l' iq e yB):vC K nt (l++l') st e yB:=by
 obtain⟨N,h⟩:=h;obtain⟨N',k⟩:=k;refine⟨N+N',fun M n x y=>?_⟩;obtain⟨a,ha,ea⟩:=h M n ai ai;obtain⟨b,hb,eb⟩:=k M n ai ai;obtain⟨g,hg,eg⟩:=qk ha hb;exact⟨g,hg,by rw[eg];unfold oE;rw[ea];exact eb⟩
theorem vC.first{l l':List Code}{st iq:Ss}{e:Exit}(h:vC K nt l st e iq)(he:e≠ .normal)(hs:(oF nt l').isSome=true):vC K nt (l++l') st e iq:=by
 obtain⟨N,h⟩:=h;obtain⟨b,hb⟩:=qU.1 hs;refine⟨N,fun M n x y=>?_⟩;obtain⟨a,ha,ea⟩:=h M n ai ai;obtain⟨g,hg,eg⟩:=qk ha hb;refine⟨g,hg,?_⟩;rw[eg];unfold oE;rw[ea];cases e<;>first |rfl|exact absurd rfl he
theorem vC.single{c:Code}{st iq:Ss}{e:Exit}(h:vf K nt c st e iq):vC K nt [c] st e iq:=by
 obtain⟨N,h⟩:=h;refine⟨N,fun M n x y=>?_⟩;obtain⟨a,ha,ea⟩:=h M n x y;exact⟨oE a xz,by unfold oF oF;rw[ha],by rw[EO];exact ea⟩
theorem Qx {a b:Code}(hp:fj (.seq a b)=true){f:F}(hf:comp ab nt 1000 (.seq a b)=some f):∃fa fb,comp ab nt 1000 a=some fa/\comp ab nt 1000 b=some fb/\f=oE fa fb:=by
 unfold fj at hp;rw[ag]at hp;unfold comp at hf;simp only[]at hf
 split at hf
 ·rename_i fa ha
  split at hf
  ·rename_i fb hb;exact⟨fa,fb,jz hp.1 ha,jz hp.2 hb,(Option.some.inj hf).symm⟩
  ·cases hf
 ·cases hf
theorem XW:∀{c:Code}{f:F},fj c=true->comp ab nt 1000 c=some f->∃g,oF nt (di c)=some g/\∀cl st,g cl st=f cl st:=by
 intro c;have one:∀{c:Code}{f:F},di c=[c]->comp ab nt 1000 c=some f->∃g,oF nt (di c)=some g/\∀cl st,g cl st=f cl st:=fun e h=>
  ⟨_,by rw[e];unfold oF oF;rw[h],fun cl st=>EO⟩
 induction c with
 |seq a b iha ihb=>
  intro f hp hf;obtain⟨fa,fb,ha,hb,rfl⟩:=Qx hp hf;unfold fj at hp;rw[ag]at hp;obtain⟨ga,hga,ea⟩:=iha hp.1 ha;obtain⟨gb,Qg,eb⟩:=ihb hp.2 hb;obtain⟨g,hg,e⟩:=qk hga Qg;refine⟨g,hg,fun cl st=>?_⟩;rw[e];unfold oE;rw[ea];cases fa cl st with
  |none=>rfl
  |some x=>obtain⟨ee,iq⟩:=x;cases ee<;>first |rfl|exact eb _ _
 |_=>intro f _ hf;exact one rfl hf
theorem vC.code{c:Code}{st iq:Ss}{e:Exit}(hp:fj c=true)(hs:(comp ab nt 1000 c).isSome=true)(h:vC K nt (di c) st e iq):vf K nt c st e iq:=by
 obtain⟨N,h⟩:=h;obtain⟨f,hf⟩:=qU.1 hs;obtain⟨g,hg,eg⟩:=XW hp hf;refine⟨N,fun M n x y=>⟨f,hf,?_⟩⟩;obtain⟨g',Mo,eg'⟩:=h M n x y;rw[hg]at Mo;cases Mo;rw[<-eg];exact eg'
noncomputable def Wn(nt:Nat):List Code->Option (CT (Exit×Tm×Df))
 | []=>some fun K=>K .normal
 |c::l=>match oB ab nt 1000 c with
  |some a=>match Wn nt l with
   |some b=>some (adQ a b)
   |none=>none
  |none=>none
noncomputable def R4(nt:Nat)(l:List Code)(tm:Tm):T (Exit×Tm×Df):=match Wn nt l with
 |some g=>g (fun e tm df=> .done (e,tm,df)) tm []
 |none=> .fail
def vu (c:Code)(i j:Nat):List Code:=((di c).take j).drop i
def adn (nt:Nat)(c:Code)(i j:Nat)(tm:Tm)(L:List pT)(e:Exit)(is:List Nat)(vs:List ae):Prop:=
 (oF nt (vu c i j)).isSome=true/\(follow (R4 nt (vu c i j) tm) L).map (fun x=>(x.1,x.2.1,x.2.2.2,bu is x.2.2.1))=some (L,e,[],vs)
theorem BR:∀{l:List Code}{f:F}{g:CT (Exit×Tm×Df)},oF nt l=some f->Wn nt l=some g->Vg f g
 | [],f,g,hf,hg=>by cases hf;cases hg;exact fun cl K tm df m r h=>⟨_,_,rfl,h⟩
 |c::l,f,g,hf,hg=>by
  unfold oF at hf;unfold Wn at hg
  split at hf
  ·rename_i fa ha
   split at hf
   ·rename_i fb hb
    split at hg
    ·rename_i ga hga
     split at hg
     ·rename_i gb Qg;cases hf;cases hg;intro cl K tm df m r h;obtain⟨e,st,e1,h⟩:=gW ha hga _ _ _ _ _ _ h;cases e with
      |normal=>
       obtain⟨e,jL,e2,h⟩:=BR hb Qg _ _ _ _ _ _ h;exact⟨e,jL,by unfold oE;rw[e1];exact e2,h⟩
      |_=>exact⟨_,_,by unfold oE;rw[e1],h⟩
     ·cases hg
    ·cases hg
   ·cases hf
  ·cases hf
theorem aaF {c:Code}{i j:Nat}{tm:Tm}{L:List pT}{e:Exit}{is:List Nat}{vs:List ae}{m m':Mem}(p:adn nt c i j tm L e is vs)(h:Ch K m L m'):∃cV,vC K nt (vu c i j) ⟨tm,m,[]⟩ e ⟨cV,m',[]⟩/\bu is cV=vs:=by
 obtain⟨p1,p2⟩:=p;obtain⟨N,h⟩:=h.chN;obtain⟨x,hx,cN⟩:=az.1 p2;obtain⟨L',e',cV,lX⟩:=x;simp only[au]at cN;obtain⟨rfl,rfl,rfl,hg⟩:=cN;refine⟨cV,⟨N,fun M n a b=>?_⟩,hg⟩;obtain⟨f,hf⟩:=qU.1 p1;refine⟨f,hf,?_⟩;have hd:=CY hx (h M n a b);unfold R4 at hd
 split at hd
 ·rename_i g hg;obtain⟨e2,⟨t2,m2,d2⟩,e3,hd⟩:=BR hf hg _ _ _ _ _ _ hd;cases hd;exact e3
 ·cases hd
def aA (K:fZ)(nt:Nat)(c:Code)(i:Nat)(st:Ss)(e:Exit)(jL:Ss):Prop:=vC K nt ((di c).drop i) st e jL
theorem aA.cut{c:Code}{i j:Nat}{st iq yB:Ss}{e:Exit}(h:vC K nt (vu c i j) st .normal iq)(k:aA K nt c j iq e yB)(jq:i<=j:=by decide):aA K nt c i st e yB:=by
 have e1:(di c).drop i=vu c i j++(di c).drop j:=by
  unfold vu;rw[List.drop_take];have :(di c).drop j=((di c).drop i).drop (j-i):=by rw[List.drop_drop];congr 1;omega
  rw[this,List.take_append_drop]
 unfold aA;rw[e1];exact h.append k
theorem aA.last{c:Code}{i j:Nat}{st iq:Ss}{e:Exit}(h:vC K nt (vu c i j) st e iq)(hj:(di c).length<=j):aA K nt c i st e iq:=by
 unfold aA;unfold vu at h;rwa[List.take_of_length_le hj]at h
theorem aA.whole{c:Code}{st iq:Ss}{e:Exit}(h:aA K nt c 0 st e iq)(hp:fj c=true)(hs:(comp ab nt 1000 c).isSome=true):vf K nt c st e iq:=vC.code hp hs h
def jI (c:Code)(i:Nat):Option (Nat×Code):=match(di c)[i]? with |some (.block id (.loop b))=>some (id,b)|_=>none
theorem aA.loop{c b:Code}{i id:Nat}{st iq yB:Ss}{e e':Exit}(hl:jI c i=some (id,b))(h:vB K nt b 100000 st e' iq)(he:e'= .exit id)(hp:fj b=true)(hs:(comp ab nt 1000 (.block id (.loop b))).isSome=true)(k:aA K nt c (i+1) iq e yB):aA K nt c i st e yB:=by
 unfold jI at hl
 split at hl
 ·rename_i id' b' hg;cases hl;subst he;obtain⟨cB,uV⟩:=List.getElem?_eq_some_iff.1 hg;have e1:(di c).drop i=[.block id (.loop b)]++(di c).drop (i+1):=by rw[List.drop_eq_getElem_cons cB,uV];rfl
  have hls:(comp ab nt 1000 (.loop b)).isSome=true:=by
   obtain⟨f,hf⟩:=qU.1 hs;unfold comp at hf;simp only[]at hf
   split at hf
   ·rename_i f' AO;rw[jz (c:= .loop b) hp AO];rfl
   ·cases hf
  unfold aA;rw[e1];exact(vC.single (vf.block (e':= .normal) (vf.loop h hp hls) du hp hs)).append k
 ·cases hl
theorem aA.Tl{c b:Code}{i id:Nat}{st iq:Ss}(hl:jI c i=some (id,b))(h:vB K nt b 100000 st .ret iq)(hp:fj b=true)(hs:(comp ab nt 1000 (.block id (.loop b))).isSome=true)(hr:(oF nt ((di c).drop (i+1))).isSome=true):aA K nt c i st .ret iq:=by
 unfold jI at hl
 split at hl
 ·rename_i id' b' hg;cases hl;obtain⟨cB,uV⟩:=List.getElem?_eq_some_iff.1 hg;have e1:(di c).drop i=[.block id (.loop b)]++(di c).drop (i+1):=by rw[List.drop_eq_getElem_cons cB,uV];rfl
  have hls:(comp ab nt 1000 (.loop b)).isSome=true:=by
   obtain⟨f,hf⟩:=qU.1 hs;unfold comp at hf;simp only[]at hf
   split at hf
   ·rename_i f' AO;rw[jz (c:= .loop b) hp AO];rfl
   ·cases hf
  unfold aA;rw[e1];exact(vC.single (vf.block (e':= .ret) (vf.loop h hp hls) rfl hp hs)).first g8 hr
 ·cases hl
def iu (c:Code)(i:Nat):Option (Nat×Code):=match(di c)[i]? with |some (.block id b)=>some (id,b)|_=>none
theorem aA.block{c b:Code}{i id:Nat}{st iq yB:Ss}{e e':Exit}(hl:iu c i=some (id,b))(h:aA K nt b 0 st e' iq)(he:e'= .normal\/e'= .exit id)(hp:fj b=true)(hb:(comp ab nt 1000 b).isSome=true)(hs:(comp ab nt 1000 (.block id b)).isSome=true)(k:aA K nt c (i+1) iq e yB):aA K nt c i st e yB:=by
 unfold iu at hl
 split at hl
 ·rename_i id' b' hg;cases hl;obtain⟨cB,uV⟩:=List.getElem?_eq_some_iff.1 hg;have e1:(di c).drop i=[.block id b]++(di c).drop (i+1):=by rw[List.drop_eq_getElem_cons cB,uV];rfl
  unfold aA;rw[e1];exact(vC.single (vf.block (e':= .normal) (aA.whole h hp hb) (by rcases he with rfl|rfl<;>simp) hp hs)).append k
 ·cases hl
theorem aA.QL{c b:Code}{i id:Nat}{st iq:Ss}(hl:iu c i=some (id,b))(h:aA K nt b 0 st .ret iq)(hp:fj b=true)(hb:(comp ab nt 1000 b).isSome=true)(hs:(comp ab nt 1000 (.block id b)).isSome=true)(hr:(oF nt ((di c).drop (i+1))).isSome=true):aA K nt c i st .ret iq:=by
 unfold iu at hl
 split at hl
 ·rename_i id' b' hg;cases hl;obtain⟨cB,uV⟩:=List.getElem?_eq_some_iff.1 hg;have e1:(di c).drop i=[.block id b]++(di c).drop (i+1):=by rw[List.drop_eq_getElem_cons cB,uV];rfl
  unfold aA;rw[e1];exact(vC.single (vf.block (e':= .ret) (aA.whole h hp hb) rfl hp hs)).first g8 hr
 ·cases hl
theorem vf.cond{x:bS}{a b:Code}{v:Bool}{st iq:Ss}{e:Exit}(hx:dz st.tm x= .bool v)(h:vf K nt (match v with |true=>a|false=>b) st e iq)(hp:fj (.cond x a b)=true)(hs:(comp ab nt 1000 (.cond x a b)).isSome=true):vf K nt (.cond x a b) st e iq:=by
 obtain⟨N,h⟩:=h;obtain⟨f,hf⟩:=qU.1 hs;refine⟨N,fun M n y z=>⟨f,hf,?_⟩⟩;obtain⟨g,hg,eg⟩:=h M n y z;unfold fj at hp;rw[ag]at hp;unfold comp at hf;simp only[]at hf
 split at hf
 ·split at hf
  ·rename_i fa ha
   split at hf
   ·rename_i fb hb;have hf:=aH hf;cases hf;unfold OV;simp only[hx];cases v with
    |true=>have :=(jz hp.1 ha).symm.trans hg;cases this;exact eg
    |false=>have :=(jz hp.2 hb).symm.trans hg;cases this;exact eg
   ·cases hf
  ·cases hf
 ·cases hf
def um (c:Code)(i:Nat):Option (bS×Code×Code):=match(di c)[i]? with |some (.cond x a b)=>some (x,a,b)|_=>none
theorem aA.cond{c a b:Code}{x:bS}{i:Nat}{v:Bool}{st iq yB:Ss}{e:Exit}(hl:um c i=some (x,a,b))(hx:dz st.tm x= .bool v)(h:vf K nt (match v with |true=>a|false=>b) st .normal iq)(hp:fj (.cond x a b)=true)(hs:(comp ab nt 1000 (.cond x a b)).isSome=true)(k:aA K nt c (i+1) iq e yB):aA K nt c i st e yB:=by
 unfold um at hl
 split at hl
 ·rename_i hg;cases hl;obtain⟨cB,uV⟩:=List.getElem?_eq_some_iff.1 hg;have e1:(di c).drop i=[.cond x a b]++(di c).drop (i+1):=by rw[List.drop_eq_getElem_cons cB,uV];rfl
  unfold aA;rw[e1];exact(vC.single (vf.cond hx h hp hs)).append k
 ·cases hl
end
end Go.AM
namespace Go.AM
set_option maxRecDepth 1000000
open Go Go.Conc Go.Proofs
def Sr:List Nat->List ae->Tm->Tm
 |i::is,v::vs,tm=>tC i v (Sr is vs tm)
 |_,_,tm=>tm
theorem ET:∀{is:List Nat}{vs:List ae}{tm:Tm},bu is tm=vs->Sr is vs tm=tm
 | [],_,tm,_=>rfl
 |i::is,[],tm,h=>rfl
 |i::is,v::vs,tm,h=>by
  unfold bu at h;simp only[List.map_cons,List.cons.injEq]at h;unfold Sr;rw[ET (is:=is) (vs:=vs) h.2,Pp h.1]
def uB (nt:Nat)(c:Code)(i j:Nat)(Vw:List Nat)(Vr:List ae)(L:List pT)(e:Exit)(is:List Nat)(vs:List ae):Prop:=∀g:Tm,adn nt c i j (Sr Vw Vr g) L e is vs
noncomputable abbrev bX (f:Nat)(p:List Nat):Code:=oJ (bN f) p
abbrev aT (f:Nat)(p:List Nat):=uB (eY f) (bX f p)
abbrev dJ (f:Nat):=uB (eY f) (bN f)
section
variable {K:fZ}{nt:Nat}
theorem aR {c:Code}{i j:Nat}{Vw is:List Nat}{Vr vs:List ae}{L:List pT}{e:Exit}{tm:Tm}{m m':Mem}(p:uB nt c i j Vw Vr L e is vs)(h0:bu Vw tm=Vr)(h:Ch K m L m'):∃cV,vC K nt (vu c i j) ⟨tm,m,[]⟩ e ⟨cV,m',[]⟩/\bu is cV=vs:=by
 have :=p tm;rw[ET h0]at this;exact aaF this h
noncomputable def codeOk(nt:Nat)(c:Code):Bool:=fj c&&(comp ab nt 1000 c).isSome&&Nat.ble (di c).length 99
abbrev iP (f:Nat)(p:List Nat):Prop:=codeOk (eY f) (oJ (bN f) p)=true
theorem eW {c:Code}(h:codeOk nt c=true):fj c=true/\(comp ab nt 1000 c).isSome=true/\(di c).length<=99:=by
 unfold codeOk at h;rw[ag,ag]at h;exact⟨h.1.1,h.1.2,af h.2⟩
theorem aA.code{c:Code}{st jL:Ss}{e:Exit}(h:aA K nt c 0 st e jL)(eZ:codeOk nt c=true):vf K nt c st e jL:=h.whole (eW eZ).1 (eW eZ).2.1
theorem aI {c:Code}{Vw is:List Nat}{Vr vs:List ae}{L:List pT}{e:Exit}{tm:Tm}{m m':Mem}(eZ:codeOk nt c=true)(p:uB nt c 0 99 Vw Vr L e is vs)(h0:bu Vw tm=Vr)(h:Ch K m L m'):∃cV,vf K nt c ⟨tm,m,[]⟩ e ⟨cV,m',[]⟩/\bu is cV=vs:=by
 obtain⟨cV,h1,h2⟩:=aR p h0 h;exact⟨cV,(aA.last h1 (eW eZ).2.2).code eZ,h2⟩
theorem jx {a:Code}{Inv:Nat->Tm->Mem->Prop}{dm:Exit->Tm->Mem->Prop}
  (vK:∀n tm m,Inv n tm m->(∃n' cV m',n'<n/\vf K nt a ⟨tm,m,[]⟩ .normal ⟨cV,m',[]⟩/\Inv n' cV m')\/∃e cV m',e≠ .normal/\vf K nt a ⟨tm,m,[]⟩ e ⟨cV,m',[]⟩/\dm e cV m'):
  ∀{n k:Nat}{tm:Tm}{m:Mem},Inv n tm m->n<k->∃e cV m',e≠ .normal/\vB K nt a k ⟨tm,m,[]⟩ e ⟨cV,m',[]⟩/\dm e cV m':=by
 intro n
 induction n using Nat.strongRecOn with
 |ind n ih=>
  intro k tm m hi hk;obtain⟨k,rfl⟩:∃j,k=j+1:=⟨k-1,ai⟩;rcases vK n tm m hi with⟨n',cV,m',hn,hx,Ej⟩|⟨e,cV,m',he,hx,hp⟩
  ·obtain⟨e,QY,m2,he,hl,hp⟩:=ih n' hn (k:=k) Ej ai;exact⟨e,QY,m2,he,vB.next hx hl,hp⟩
  ·exact⟨e,cV,m',he,vB.out hx he,hp⟩
noncomputable def lN(nt:Nat)(c b:Code)(i id:Nat):Bool:=(match jI c i with |some (j,_)=>Nat.beq j id|none=>false)&&codeOk nt b&&(comp ab nt 1000 (.block id (.loop b))).isSome
theorem aA.E3{c:Code}{i:Nat}{id:Nat}{st iq yB:Ss}{e e':Exit}{b:Code}(hl:jI c i=some (id,b))(eZ:lN nt c b i id=true)(h:vB K nt b 100000 st e' iq)(he:e'= .exit id)(k:aA K nt c (i+1) iq e yB):aA K nt c i st e yB:=by
 unfold lN at eZ;rw[ag,ag]at eZ;exact aA.loop hl h he (eW eZ.1.2).1 eZ.2 k
theorem aA.Co{c:Code}{i:Nat}{id:Nat}{st iq:Ss}{b:Code}(hl:jI c i=some (id,b))(eZ:lN nt c b i id=true)(h:vB K nt b 100000 st .ret iq)(hr:(oF nt ((di c).drop (i+1))).isSome=true):aA K nt c i st .ret iq:=by
 unfold lN at eZ;rw[ag,ag]at eZ;exact aA.Tl hl h (eW eZ.1.2).1 eZ.2 hr
end
def entry (args:List ae):Tm:=match DS args with |some t=>t|none=>lr
noncomputable def NC(nt:Nat):List ResultVar->List Nat->Bool
 | [],[]=>true
 | .tmp t::l,i::is=>Nat.beq t i&&Nat.blt t nt&&NC nt l is
 |_,_=>false
noncomputable def jy(f n:Nat)(is:List Nat):Bool:=wI f&&codeOk (eY f) (bN f)&&NC (eY f) (rsT f) is&&Nat.ble n (eY f)&&Nat.ble n 16
def adX:List ae->ae
 | [v]=>v
 |vs=> .tuple vs.toArray
theorem ND {nt:Nat}{tm:Tm}{m:Mem}:∀{rs:List ResultVar}{is:List Nat},NC nt rs is=true->vj ab nt m tm rs=some (bu is tm)
 | [],[],_=>rfl
 | .tmp t::l,i::is,h=>by
  unfold NC at h;rw[ag,ag]at h;have :=ay h.1.1;subst this;unfold vj;rw[bj h.1.2,ND h.2];rfl
 | [],_::_,h=>by cases h
 | .tmp _::_,[],h=>by cases h
 | .cell _ _::_,_,h=>by cases h
theorem EI:∀{l:List ae},l.length<=16->∃t,DS l=some t:=by
 intro l h;have :QZ (QZ l)=[]:=by
  have e:∀l:List ae,j5 l=l.drop 1:=fun l=>by cases l<;>rfl
  have e8:∀l:List ae,QZ l=l.drop 8:=fun l=>by unfold QZ;simp only[e,List.drop_drop]
  rw[e8,e8,List.drop_drop];exact List.drop_of_length_le ai
 unfold DS;rw[this];exact⟨_,rfl⟩
theorem eB {K:fZ}{f:Nat}{args:List ae}{m m':Mem}{cV:Tm}{e:Exit}{is:List Nat}{vs:List ae}(eZ:jy f args.length is=true)(h:aA K (eY f) (bN f) 0 ⟨entry args,m,[]⟩ e ⟨cV,m',[]⟩)(he:e= .normal\/e= .ret)(hg:bu is cV=vs)(hs:iK f=false:=by rfl):Ev K f args m (adX vs) m':=by
 unfold jy at eZ;simp only[ag]at eZ;obtain⟨⟨⟨⟨h1,h2⟩,h3⟩,h4⟩,h5⟩:=eZ;obtain⟨t,ht⟩:=EI (l:=args) (af h5);have he1:entry args=t:=by unfold entry;rw[ht]
 rw[he1]at h;refine OP h1 (tm:=t) (by rw[bj h4,ht]) (h.code h2) he ?_ hs;unfold lC;rw[ND h3,hg];unfold adX
 match vs with
 | []=>rfl
 | [v]=>rfl
 |v::w::l=>rfl
@[reducible]def aP (x b:Bool):pT:=.cond (.bool x) b
@[reducible]def zF:pT:=.cond (.bool true) true
@[reducible]def dx:pT:=.cond (.bool false) false
@[reducible]def zvE:ae:=.string .empty
@[reducible]def fq:ae:=.slice none 0 0
@[reducible]noncomputable def gp:pT:=.mem zT undef
@[reducible]def jX (s:ByteArray):ae:=.string s
@[reducible]def mB (l:List (Option ae))(b:Nat):pT:=.mem (lU l) (vP b 0)
@[reducible]def uE (b o:Nat)(l:List ae):pT:=.mem (DT b o l) undef
@[reducible]def uF (n b:Nat)(v:ae):pT:=.mem (eU n b 0) v
@[reducible]noncomputable def Yx (t b:Nat)(v:ae):pT:=.mem (oh ab t (vP b 0)) v
theorem lV {f:Nat}{args:List ae}{L:List pT}{v:ae}(h1:wI f=true:=by kernel_rfl)(h2:follow (XU ab X0 f args) L=some (L,v):=by kernel_rfl):Path f args L v:=⟨h1,h2⟩
theorem dc {nt:Nat}{c:Code}{i j:Nat}{Vw:List Nat}{Vr:List ae}{L:List pT}{e:Exit}{is:List Nat}{vs:List ae}(h:∀g:Tm,adn nt c i j (Sr Vw Vr g) L e is vs:=by exact fun _=>⟨by kernel_rfl,by kernel_rfl⟩):uB nt c i j Vw Vr L e is vs:=h
end Go.AM
namespace Go.AM
set_option maxRecDepth 1000000
open Go Go.Conc Go.Proofs
section
variable {K:fZ}{m:Mem}
theorem ajz (x:Int):Path 259 [vI x]
 []
 (.bool (nK x x)):=lV
theorem ajy (a:ByteArray):Path 260 [jX a]
 []
 (.bool ((a.toList==a.toList)==false)):=lV
theorem agb (x y:Int):Path 216 [vI x,vI y]
 [.call 259 [vI x] (.bool false),
  .call 259 [vI y] (.bool false),
  dx,
  dx,
  aP (cO x y) true]
 (vI (-1)):=lV
theorem agc (x y:Int):Path 216 [vI x,vI y]
 [.call 259 [vI x] (.bool false),
  .call 259 [vI y] (.bool false),
  dx,
  dx,
  aP (cO x y) false,
  aP (nV x y) true]
 (vI 1):=lV
theorem agd (x y:Int):Path 216 [vI x,vI y]
 [.call 259 [vI x] (.bool false),
  .call 259 [vI y] (.bool false),
  dx,
  dx,
  aP (cO x y) false,
  aP (nV x y) false]
 (vI 0):=lV
theorem af8 (a b:ByteArray)(b1:Bool):Path 217 [jX a,jX b]
 [.call 260 [jX a] (.bool false),
  .call 260 [jX b] (.bool false),
  dx,
  dx,
  .val (gE ab .lss 9 false false (jX a) (jX b)) (.bool b1),
  aP b1 true]
 (vI (-1)):=lV
theorem af9 (a b:ByteArray)(b1 b2:Bool):Path 217 [jX a,jX b]
 [.call 260 [jX a] (.bool false),
  .call 260 [jX b] (.bool false),
  dx,
  dx,
  .val (gE ab .lss 9 false false (jX a) (jX b)) (.bool b1),
  aP b1 false,
  .val (gE ab .gtr 9 false false (jX a) (jX b)) (.bool b2),
  aP b2 true]
 (vI 1):=lV
theorem aga (a b:ByteArray)(b1 b2:Bool):Path 217 [jX a,jX b]
 [.call 260 [jX a] (.bool false),
  .call 260 [jX b] (.bool false),
  dx,
  dx,
  .val (gE ab .lss 9 false false (jX a) (jX b)) (.bool b1),
  aP b1 false,
  .val (gE ab .gtr 9 false false (jX a) (jX b)) (.bool b2),
  aP b2 false]
 (vI 0):=lV
theorem af6:Path 218 [.bool true]
 [zF]
 (vI 1):=lV
theorem af7:Path 218 [.bool false]
 [dx]
 (vI 0):=lV
theorem QE (x:Int):Ev K 259 [vI x] m (.bool false) m:=by
 have h:=aY (K:=K) (m:=m) (ajz x) .nil;rwa[jk,yA du]at h
theorem QC (a:ByteArray):Ev K 260 [.string a] m (.bool false) m:=by
 have h:=aY (K:=K) (m:=m) (ajy a) .nil;rwa[show((a.toList==a.toList)==false)=false by simp]at h
def sC (x y:Int):Int:=if x<y then -1 else if y<x then 1 else 0
theorem acW (x y:Int):Ev K 216 [vI x,vI y] m (vI (sC x y)) m:=by
 unfold sC
 split
 ·rename_i h;exact aY (agb x y) (.call (QE x)<| .call (QE y)<| .cond rfl<| .cond rfl<| .cond (by rw[fG,AA h]) .nil)
 ·rename_i h
  split
  ·rename_i h2;exact aY (agc x y) (.call (QE x)<| .call (QE y)<| .cond rfl<| .cond rfl<| .cond (by rw[fG,yA h])<| .cond (by rw[Mx,AA h2]) .nil)
  ·rename_i h2;exact aY (agd x y) (.call (QE x)<| .call (QE y)<| .cond rfl<| .cond rfl<| .cond (by rw[fG,yA h])<| .cond (by rw[Mx,yA h2]) .nil)
def Da (a b:ByteArray):Int:=if Op.bytesLess a.toList b.toList then -1 else if Op.bytesLess a.toList b.toList||a.toList==b.toList then 0 else 1
theorem alF (a b:ByteArray):Ev K 217 [.string a,.string b] m (vI (Da a b)) m:=by
 unfold Da
 split
 ·rename_i h;exact aY (af8 a b true) (.call (QC a)<| .call (QC b)<| .cond rfl<| .cond rfl<| .val (by rw[abB,h])<| .cond rfl .nil)
 ·rename_i h;have h:Op.bytesLess a.toList b.toList=false:=by simpa using h
  split
  ·rename_i h2;exact aY (aga a b false false) (.call (QC a)<| .call (QC b)<| .cond rfl<| .cond rfl<| .val (by rw[abB,h])<| .cond rfl<| .val (by rw[ahF,h2];rfl)<| .cond rfl .nil)
  ·rename_i h2;have h2:(Op.bytesLess a.toList b.toList||a.toList==b.toList)=false:=by simpa using h2
   exact aY (af9 a b false true) (.call (QC a)<| .call (QC b)<| .cond rfl<| .cond rfl<| .val (by rw[abB,h])<| .cond rfl<| .val (by rw[ahF,h2];rfl)<| .cond rfl .nil)
def vF (b:Bool):Int:=if b then 1 else 0
theorem aib (b:Bool):Ev K 218 [.bool b] m (vI (vF b)) m:=by
 cases b
 ·exact aY af7 (.cond rfl .nil)
 ·exact aY af6 (.cond rfl .nil)
theorem abf (p:Nat)(y1:Int):Path 215 [vL p 0 4 4]
 [zF,
  .idx 0 4 0,
  .mem (aD p 0) (vI y1),
  aP (nK y1 0) true]
 (vI y1):=lV
theorem abe (p:Nat)(y1 y2:Int):Path 215 [vL p 0 4 4]
 [zF,
  .idx 0 4 0,
  .mem (aD p 0) (vI y1),
  aP (nK y1 0) false,
  zF,
  .idx 1 4 1,
  .mem (aD p 1) (vI y2),
  aP (nK y2 0) true]
 (vI y2):=lV
theorem abd (p:Nat)(y1 y2 y3:Int):Path 215 [vL p 0 4 4]
 [zF,
  .idx 0 4 0,
  .mem (aD p 0) (vI y1),
  aP (nK y1 0) false,
  zF,
  .idx 1 4 1,
  .mem (aD p 1) (vI y2),
  aP (nK y2 0) false,
  zF,
  .idx 2 4 2,
  .mem (aD p 2) (vI y3),
  aP (nK y3 0) true]
 (vI y3):=lV
theorem abc (p:Nat)(y1 y2 y3 y4:Int):Path 215 [vL p 0 4 4]
 [zF,
  .idx 0 4 0,
  .mem (aD p 0) (vI y1),
  aP (nK y1 0) false,
  zF,
  .idx 1 4 1,
  .mem (aD p 1) (vI y2),
  aP (nK y2 0) false,
  zF,
  .idx 2 4 2,
  .mem (aD p 2) (vI y3),
  aP (nK y3 0) false,
  zF,
  .idx 3 4 3,
  .mem (aD p 3) (vI y4),
  aP (nK y4 0) true]
 (vI y4):=lV
theorem abb (p:Nat)(y1 y2 y3 y4:Int):Path 215 [vL p 0 4 4]
 [zF,
  .idx 0 4 0,
  .mem (aD p 0) (vI y1),
  aP (nK y1 0) false,
  zF,
  .idx 1 4 1,
  .mem (aD p 1) (vI y2),
  aP (nK y2 0) false,
  zF,
  .idx 2 4 2,
  .mem (aD p 2) (vI y3),
  aP (nK y3 0) false,
  zF,
  .idx 3 4 3,
  .mem (aD p 3) (vI y4),
  aP (nK y4 0) false,
  dx]
 (vI 0):=lV
theorem ajK (a b:V)(gD oU σ1 σ2 σ3 σ4 σ5 σ6 KQ:Nat)(x1 x2 x3 x4 x5 x6 x7:Int):Path 155 [gZ a,gZ b]
 [mB (zsV a) gD,
  mB (zsV b) oU,
  .mem (aD gD 0) (vI a.k),
  .mem (aD oU 0) (vI b.k),
  .mem (aD gD 1) (vI a.n),
  .mem (nO (vP gD 1)) (vI σ1),
  .mem (aD oU 1) (vI b.n),
  .mem (nO (vP oU 1)) (vI σ2),
  .mem (aD gD 2) (jX a.s),
  .mem (nO (vP gD 2)) (vI σ3),
  .mem (aD oU 2) (jX b.s),
  .mem (nO (vP oU 2)) (vI σ4),
  .mem (aD gD 3) (.bool a.b),
  .mem (nO (vP gD 3)) (vI σ5),
  .mem (aD oU 3) (.bool b.b),
  .mem (nO (vP oU 3)) (vI σ6),
  gp,
  .call 216 [vI a.k,vI b.k] (vI x1),
  .mem (fS (vI σ1) (vP gD 1) (jo ab 3 (vP gD 1))) undef,
  .mem (fS (vI σ2) (vP oU 1) (jo ab 3 (vP oU 1))) undef,
  .mem (fS (vI σ3) (vP gD 2) (jo ab 9 (vP gD 2))) undef,
  .mem (fS (vI σ4) (vP oU 2) (jo ab 9 (vP oU 2))) undef,
  .mem (fS (vI σ5) (vP gD 3) (jo ab 4 (vP gD 3))) undef,
  .mem (fS (vI σ6) (vP oU 3) (jo ab 4 (vP oU 3))) undef,
  gp,
  .call 216 [vI a.n,vI b.n] (vI x2),
  .mem (fS (vI σ3) (vP gD 2) (jo ab 9 (vP gD 2))) undef,
  .mem (fS (vI σ4) (vP oU 2) (jo ab 9 (vP oU 2))) undef,
  .mem (fS (vI σ5) (vP gD 3) (jo ab 4 (vP gD 3))) undef,
  .mem (fS (vI σ6) (vP oU 3) (jo ab 4 (vP oU 3))) undef,
  gp,
  .call 217 [jX a.s,jX b.s] (vI x3),
  .mem (fS (vI σ5) (vP gD 3) (jo ab 4 (vP gD 3))) undef,
  .mem (fS (vI σ6) (vP oU 3) (jo ab 4 (vP oU 3))) undef,
  gp,
  .call 218 [.bool a.b] (vI x4),
  .mem (fS (vI σ6) (vP oU 3) (jo ab 4 (vP oU 3))) undef,
  gp,
  .call 218 [.bool b.b] (vI x5),
  gp,
  .call 216 [vI x4,vI x5] (vI x6),
  .mem (bY ab 22 4 [(0,(vI x1)),(1,(vI x2)),(2,(vI x3)),(3,(vI x6))]) (vL KQ 0 4 4),
  gp,
  .call 215 [vL KQ 0 4 4] (vI x7)]
 (vI x7):=lV
def WB:List Int->Int
 | []=>0
 |x::l=>if x≠0 then x else WB l
theorem alG {b:Nat}{y1 y2 y3 y4:Int}{c:Nat}(h:Obj m b 1 [vI y1,vI y2,vI y3,vI y4]):Ev K 215 [vL b 0 4 4] m (vI (WB [y1,y2,y3,y4])) m:=by
 unfold WB WB WB WB WB;have t:∀{y:Int},y≠0->ae.bool (nK y 0)= .bool true:=fun h=>by rw[jk,AA h]
 have f:∀{y:Int},¬y≠0->ae.bool (nK y 0)= .bool false:=fun h=>by rw[jk,yA h]
 split
 ·rename_i h1;exact aY (abf b y1) (.cond rfl<| .idx rfl eS<| .mem (aS h rfl)<| .cond (t h1) .nil)
 ·rename_i h1
  split
  ·rename_i h2;exact aY (abe b y1 y2) (.cond rfl<| .idx rfl eS<| .mem (aS h rfl)<| .cond (f h1)<| .cond rfl<| .idx rfl eS<| .mem (aS h rfl)<| .cond (t h2) .nil)
  ·rename_i h2
   split
   ·rename_i h3;exact aY (abd b y1 y2 y3) (.cond rfl<| .idx rfl eS<| .mem (aS h rfl)<| .cond (f h1)<| .cond rfl<| .idx rfl eS<| .mem (aS h rfl)<| .cond (f h2)<| .cond rfl<| .idx rfl eS<| .mem (aS h rfl)<| .cond (t h3) .nil)
   ·rename_i h3
    split
    ·rename_i h4;exact aY (abc b y1 y2 y3 y4) (.cond rfl<| .idx rfl eS<| .mem (aS h rfl)<| .cond (f h1)<| .cond rfl<| .idx rfl eS<| .mem (aS h rfl)<| .cond (f h2)<| .cond rfl<| .idx rfl eS<| .mem (aS h rfl)<| .cond (f h3)<| .cond rfl<| .idx rfl eS<| .mem (aS h rfl)<| .cond (t h4) .nil)
    ·rename_i h4;exact aY (abb b y1 y2 y3 y4) (.cond rfl<| .idx rfl eS<| .mem (aS h rfl)<| .cond (f h1)<| .cond rfl<| .idx rfl eS<| .mem (aS h rfl)<| .cond (f h2)<| .cond rfl<| .idx rfl eS<| .mem (aS h rfl)<| .cond (f h3)<| .cond rfl<| .idx rfl eS<| .mem (aS h rfl)<| .cond (f h4)<| .cond rfl .nil)
theorem ac0 (a b c d:Int):bY ab 22 4 [(0,vI a),(1,vI b),(2,vI c),(3,vI d)] m=some (vL m.next 0 4 4,m.alloc {kind:=1,sz:=1,cs:=[some (vI a),some (vI b),some (vI c),some (vI d)]}):=aU
def wJ (a b:V):Int:=WB [sC a.k b.k,sC a.n b.n,Da a.s b.s,sC (vF a.b) (vF b.b)]
theorem alT (g:Gd m)(a b:V):∃m',Ev K 155 [a.val,b.val] m (vI (wJ a b)) m'/\Kp m m' fu:=by
 obtain⟨m1,e1,o1,k1,n1,_⟩:=cA g a.cells;obtain⟨m2,e2,o2,k2,n2,_⟩:=cA (g.ext k1) b.cells;have g2:=(g.ext k1).ext k2;have o1':=o1.cf k2;obtain⟨o3,k3,n3⟩:=gJ g2 (k:={kind:=1,sz:=1,cs:=[some (vI (sC a.k b.k)),some (vI (sC a.n b.n)),some (vI (Da a.s b.s)),some (vI (sC (vF a.b) (vF b.b)))]}) (cs:=[vI (sC a.k b.k),vI (sC a.n b.n),vI (Da a.s b.s),vI (sC (vF a.b) (vF b.b))]) rfl rfl rfl;refine⟨_,aY (ajK a b ..) (by
  refine .mem e1<| .mem e2 ?_
  repeat first |exact .nil|refine .cond rfl ?_|refine .mem (aK ft) ?_|refine .mem (aS ft rfl) ?_|refine .mem (dX ft rfl du) ?_|refine .mem (km _ _) ?_|refine .mem (Hv ft rfl rfl) ?_
  refine .call (acW _ _) ?_
  repeat first |exact .nil|refine .cond rfl ?_|refine .mem (aK ft) ?_|refine .mem (aS ft rfl) ?_|refine .mem (dX ft rfl du) ?_|refine .mem (km _ _) ?_|refine .mem (Hv ft rfl rfl) ?_
  refine .call (acW _ _) ?_
  repeat first |exact .nil|refine .cond rfl ?_|refine .mem (aK ft) ?_|refine .mem (aS ft rfl) ?_|refine .mem (dX ft rfl du) ?_|refine .mem (km _ _) ?_|refine .mem (Hv ft rfl rfl) ?_
  refine .call (alF _ _) ?_
  repeat first |exact .nil|refine .cond rfl ?_|refine .mem (aK ft) ?_|refine .mem (aS ft rfl) ?_|refine .mem (dX ft rfl du) ?_|refine .mem (km _ _) ?_|refine .mem (Hv ft rfl rfl) ?_
  refine .call (aib _) ?_
  repeat first |exact .nil|refine .cond rfl ?_|refine .mem (aK ft) ?_|refine .mem (aS ft rfl) ?_|refine .mem (dX ft rfl du) ?_|refine .mem (km _ _) ?_|refine .mem (Hv ft rfl rfl) ?_
  refine .call (aib _) ?_
  repeat first |exact .nil|refine .cond rfl ?_|refine .mem (aK ft) ?_|refine .mem (aS ft rfl) ?_|refine .mem (dX ft rfl du) ?_|refine .mem (km _ _) ?_|refine .mem (Hv ft rfl rfl) ?_
  refine .call (acW _ _) (.mem (ac0 ..) (.mem (aK (g2.ext k3)) (.call (alG o3 (c:=4)) .nil)))),(k1.aZ k2).aZ k3⟩
end
end Go.AM
namespace Go.AM
set_option maxRecDepth 1000000
open Go Go.Conc Go.Proofs
abbrev vU (b:Nat):ae:= .int .u8 b
end Go.AM
namespace Go.AM
set_option maxRecDepth 1000000
open Go Go.Conc Go.Proofs
section
variable {K:fZ}{m:Mem}
theorem Pt {i j:Int}{n:Nat}(h:vZ i j=some n):Int.sub i j=n:=by
 unfold vZ at h
 split at h
 ·split at h
  ·rename_i a b hb;cases h;have :=af hb
   show((a:Int)-(b:Int))=((a-b:Nat):Int)
   omega
  ·cases h
 ·cases h
theorem aii {a b:Nat}:(ae.bool (cO a b))= .bool (decide (a<b)):=by rw[fG];congr 1;rw[Bool.eq_iff_iff];simp
end
end Go.AM
namespace Go.AM
set_option maxRecDepth 1000000
open Go Go.Conc Go.Proofs
def spL:List ByteArray:=[⟨#[]⟩,⟨#[]⟩,⟨#[]⟩,⟨#[]⟩,⟨#[]⟩,⟨#[40]⟩,⟨#[41]⟩,⟨#[44]⟩,⟨#[46]⟩,⟨#[59]⟩,⟨#[42]⟩,⟨#[61]⟩,⟨#[60,62]⟩,⟨#[60]⟩,⟨#[60,61]⟩,⟨#[62]⟩,⟨#[62,61]⟩,⟨#[43]⟩,⟨#[45]⟩,⟨#[47]⟩,⟨#[37]⟩,⟨#[124,124]⟩,⟨#[65,76,76]⟩,⟨#[65,78,68]⟩,⟨#[65,83]⟩,⟨#[66,79,79,76]⟩,⟨#[67,82,69,65,84,69]⟩,⟨#[70,65,76,83,69]⟩,⟨#[70,82,79,77]⟩,⟨#[73,78,83,69,82,84]⟩,⟨#[73,78,84]⟩,⟨#[73,78,84,79]⟩,⟨#[73,83]⟩,⟨#[74,79,73,78]⟩,⟨#[78,79,84]⟩,⟨#[78,85,76,76]⟩,⟨#[79,78]⟩,⟨#[79,82]⟩,⟨#[82,69,67,85,82,83,73,86,69]⟩,⟨#[83,69,76,69,67,84]⟩,⟨#[84,65,66,76,69]⟩,⟨#[84,69,88,84]⟩,⟨#[84,82,85,69]⟩,⟨#[85,78,73,79,78]⟩,⟨#[86,65,76,85,69,83]⟩,⟨#[87,72,69,82,69]⟩,⟨#[87,73,84,72]⟩]
def Vm (m:Mem):Prop:=Obj m 0 0 (spL.map .string)
theorem Vm.ext{m m':Mem}{S:Nat->Prop}(h:Vm m)(k:Kp m m' S)(hs:¬S 0):Vm m':=Obj.ext h k hs
end Go.AM
namespace Go.AM
set_option maxRecDepth 1000000
open Go Go.Conc Go.Proofs
def wM (l:List UInt8):List ae:=l.map fun b=>vU b.toNat
theorem adK:ab.underlying 72=some (.slice 5):=aU
theorem aiB:ab.underlying 5=some (.int .u8):=aU
theorem z5:∀(l:List UInt8),(wM l).mapM (m:=Option) (fun v=>match v with | .int .u8 n=>some (UInt8.ofNat n.toNat)|_=>none)=some l
 | []=>rfl
 |b::l=>by
  show((vU b.toNat::wM l).mapM (m:=Option) _)=_
  rw[List.mapM_cons];have :(UInt8.ofNat ((b.toNat:Int)).toNat)=b:=du;simp only[this,z5 l];rfl
theorem RF {m:Mem}{l:List UInt8}{b c sz:Nat}(h:Obj m b sz (wM l)):fK ab 72 9 (vL b 0 l.length c) m=some (.string ⟨l.toArray⟩,m):=by
 unfold fK;simp only[VZ,adK,aiB];have e:m.dK b 0 l.length=some (wM l):=jR h (by rw[List.drop_zero];exact List.take_of_length_le (by simp[wM])) (by simp[wM]);rw[e];exact congrArg (Option.map fun bs=>(ae.string ⟨bs.toArray⟩,m)) (z5 l)
end Go.AM
namespace Go.AM
set_option maxRecDepth 1000000
open Go Go.Conc Go.Proofs
structure W where
 k:Int
 a:Nat
 z:Nat
 s:ByteArray
 n:Int
theorem lO {m:Mem}{b sz t n:Nat}{cs:List ae}(h:Obj m b sz cs)(hn:cs.length=n)(ht:zC ab t=some true)(hz:ep ab t=some n):oh ab t (vP b 0) m=some (.agg cs.toArray,m):=by
 unfold oh ky;simp only[ht,hz,dq,jR h (o:=0) (n:=n) (by rw[List.drop_zero,<-hn,List.take_length]) ai,cU]
section
variable {K:fZ}{m:Mem}
theorem Td (a b:Nat):Q3 false a b=((min a b:Nat):Int):=by
 unfold Q3;rw[fG]
 by_cases h:(b:Int)<a
 ·rw[AA h];simp only[];omega
 ·rw[yA h];simp only[];omega
theorem abz (a b:Nat):Q3 true a b=((max a b:Nat):Int):=by
 unfold Q3;rw[fG]
 by_cases h:(b:Int)<a
 ·rw[AA h];simp only[];omega
 ·rw[yA h];simp only[];omega
end
@[reducible]def zvW (w:W):ae:=.agg #[vI w.k,vI (w.a:Int),vI (w.z:Int),.string w.s,vI w.n]
@[reducible]def zcW (w:W):List ae:=[vI w.k,vI (w.a:Int),vI (w.z:Int),.string w.s,vI w.n]
@[reducible]def zz1:List (Option ae):=[some (vI 0),some (vI 0),some (vI 0),some (.string .empty),some (vI 0)]
end Go.AM
namespace Go.AM
set_option maxRecDepth 1000000
open Go Go.Conc Go.Proofs
structure RS where
 w:W
 d:Int
 e:Int
 p:Int
end Go.AM
namespace Go.AM
set_option maxRecDepth 1000000
open Go Go.Conc Go.Proofs
inductive E where
 |nil
 |bin(op:Int)(l r:E)
 |pre(op:Int)(x:E)
 |TJ(x:E)(no:Bool)
 |lit(v:V)
 |ref(s c:ByteArray)
abbrev v7 (s:ByteArray):ae:= .string s
section
variable {K:fZ}{m:Mem}{r:Nat}{T:ByteArray}{s s':RS}
theorem aac:zC ab 49=some true/\ep ab 49=some 4:=⟨aU,aU⟩
end
end Go.AM
namespace Go.AM
set_option maxRecDepth 1000000
open Go Go.Conc Go.Proofs
def dOk (s:RS):Prop:=0<=s.d/\s.d<100
instance aix (s:RS):Decidable (dOk s):=by unfold dOk;infer_instance
end Go.AM
namespace Go.AM
set_option maxRecDepth 1000000
open Go Go.Conc Go.Proofs
theorem XV (l:List ae):∀(k:Nat) (arr:Array ae),k+l.length<=arr.size->((l.zipIdx k).foldl (fun cs (x:ae×Nat)=>cs.setIfInBounds x.2 x.1) arr).size=arr.size/\
  ∀i:Nat,((l.zipIdx k).foldl (fun cs (x:ae×Nat)=>cs.setIfInBounds x.2 x.1) arr)[i]?=if k<=i/\i<k+l.length then l[i-k]? else arr[i]?:=by
 induction l with
 |nil=>intro k arr h;exact⟨rfl,fun i=>by rw[bW (by simp only[List.length_nil];omega)];rfl⟩
 |cons v l ih=>
  intro k arr h;simp only[List.length_cons]at h;rw[List.zipIdx_cons,List.foldl_cons];obtain⟨h1,h2⟩:=ih (k+1) (arr.setIfInBounds k v) (by simp;omega);refine⟨by rw[h1];simp,fun i=>?_⟩;rw[h2 i,Array.getElem?_setIfInBounds];simp only[List.length_cons]
  by_cases hk:k=i
  ·subst hk;rw[bW ai,bj rfl,bj ai,bj ai];simp
  ·by_cases hi:k+1<=i/\i<k+1+l.length
   ·rw[bj hi,bj ai];obtain⟨j,rfl⟩:∃j,i=k+1+j:=⟨i-(k+1),ai⟩;rw[show k+1+j-(k+1)=j by omega,show k+1+j-k=j+1 by omega];rfl
   ·rw[bW hi,bW hk,bW ai]
theorem bs1 {m:Mem}{t sz:Nat}{v:ae}(ht:sI.contains (t,sz)=true)(hv:v.cells.size=sz)(hs:sz<=6):bY ab t 1 [(0,v)] m=some (vL m.next 0 1 1,m.alloc {kind:=1,sz:=sz,cs:=v.cells.toList.map some}):=by
 have :=aB.1 O6 (t,sz) (by simpa using ht);unfold ac4 at this
 split at this
 ·rename_i e he;rw[ag,ag]at this;obtain⟨⟨h1,h0⟩,h2⟩:=this;have h1:ep ab e=some sz:=by simpa using h1
  split at h2
  ·rename_i i hi;rw[ag]at h2;obtain⟨z,hz⟩:=qU.1 h2.2;unfold bY;simp only[he,h1,hz];rw[bW (by rw[Nat.one_mul];intro h;exact h.elim (fun h=>by omega) (fun h=>absurd h eS))];unfold Instr.fill;simp only[Nat.zero_mul,Nat.zero_add,Nat.one_mul];rw[bW (by simp[hv])];unfold Instr.fill;simp only[cU];have key:=XV v.cells.toList 0 ((Array.range sz).map (z.cells[·%z.cells.size]!)) (by simp[hv]);have e3:(Array.foldl (fun cs (x:ae×Nat)=>match x with |(c,j)=>cs.setIfInBounds j c) ((Array.range sz).map (z.cells[·%z.cells.size]!)) v.cells.zipIdx)=v.cells:=by
    rw[show v.cells.zipIdx=(v.cells.toList.zipIdx).toArray from by apply Array.toList_inj.1;rw[Array.toList_zipIdx],List.foldl_toArray];apply Array.ext_getElem?;intro i;refine(key.2 i).trans ?_
    by_cases hi:i<sz
    ·rw[bj ⟨ai,by simp[hv];omega⟩];simp
    ·rw[bW (by simp[hv];omega),Array.getElem?_eq_none (by simp;omega),Array.getElem?_eq_none ai]
   exact congrArg (fun c:Array ae=>some (vL m.next 0 1 1,m.alloc {kind:=1,sz:=sz,cs:=c.toList.map some})) e3
  ·cases h2
 ·cases this
theorem Ko {m:Mem}(g:Gd m){t sz n b len:Nat}{x:ae}{old new:List ae}(ht:sI.contains (t,sz)=true)(ho:Obj m b sz old)(Qc:old.length=len*sz)(hn:n≠0)(hx:mY m x sz n new)
  (h1:∀y∈new,y.oneCell'=true)(hb:len+n<=2^30):
  ∃m',cZ ab #[t,t] (vL b 0 len len) x m=some (vL m.next 0 (len+n) cH,m')/\Obj m' m.next sz (old++new)/\Kp m m' fu/\m'.next=m.next+1:=by
 obtain⟨e,h3,h4,h0,h5⟩:=sH ht;have hf:=kZ hx;have hl:=hx.Mb;have hlen:new.length=n*sz:=hx.1;have lY:(new.all (·.oneCell'))=true:=aB.2 h1;have e0:lR m sz len (vL b 0 len len)=some old:=kZ (ho.sl Qc (.inr rfl));obtain⟨k1,k2,k3⟩:=gJ g (k:={kind:=1,sz:=sz,cs:=(old++new).map some}) (cs:=old++new) rfl rfl rfl;refine⟨_,?_,k1,k2,k3⟩;unfold cZ;simp only[show(#[t,t]:Array aO)[0]?=some t from rfl,show(#[t,t]:Array aO)[1]?=some t from rfl,dq,h3,h4,hl,hf];have hI:len≠cH:=fun e=>absurd hb (by rw[e];intro h;exact absurd (bV (Nat.le_add_right _ _) h) eS)
 rw[bW (by rw[h5 _ ai,hlen,lY];simp),bW hI,bW ai];simp only[e0];rw[bj Qc]
end Go.AM
namespace Go.AM
set_option maxRecDepth 1000000
open Go Go.Conc Go.Proofs
structure oD (α:Type) where
 R:(Nat->Prop)->α->Mem->ae->Prop
 mono:∀{B B':Nat->Prop}{x:α}{m:Mem}{v:ae},R B x m v->(∀b,B b->B' b)->R B' x m v
 ext:∀{B S:Nat->Prop}{x:α}{m m':Mem}{v:ae},R B x m v->Kp m m' S->(∀b,B b->¬S b)->R B x m' v
def jD (m m':Mem)(b:Nat):Prop:=m.next<=b/\b<m'.next
def iX {α:Type}(val:α->ae):oD α:=⟨fun _ x _ v=>v=val x,fun h _=>h,fun h _ _=>h⟩
def cJ {α:Type}(Q:α->ae->Prop):List α->List ae->Prop
 | [],cs=>cs=[]
 |x::l,cs=>∃v rest,cs=v.cells.toList++rest/\Q x v/\cJ Q l rest
theorem cJ.mono{α:Type}{Q Q':α->ae->Prop}:∀{l:List α}{cs:List ae},cJ Q l cs->(∀x v,x∈l->Q x v->Q' x v)->cJ Q' l cs
 | [],cs,h,_=>h
 |x::l,cs,h,k=>by
  obtain⟨v,rest,e,q,h⟩:=h;exact⟨v,rest,e,k x v (List.mem_cons_self ..) q,h.mono fun x v hx=>k x v (List.mem_cons_of_mem _ hx)⟩
theorem cJ.snoc{α:Type}{Q:α->ae->Prop}{x:α}{v:ae}(hq:Q x v):∀{l:List α}{cs:List ae},cJ Q l cs->cJ Q (l++[x]) (cs++v.cells.toList)
 | [],cs,h=>by
  have h:cs=[]:=h;subst h;exact⟨v,[],du,hq,rfl⟩
 |y::l,cs,h=>by
  obtain⟨u,rest,rfl,q,h⟩:=h;exact⟨u,rest++v.cells.toList,by rw[List.append_assoc],q,h.snoc hq⟩
def okV (sz:Nat)(v:ae):Prop:=v.cells.size=sz/\∀y∈v.cells.toList,y.oneCell'=true
theorem cJ.one{α:Type}{Q:α->ae->Prop}{sz:Nat}:∀{l:List α}{cs:List ae},cJ (fun x v=>Q x v/\okV sz v) l cs->cs.length=l.length*sz/\∀y∈cs,y.oneCell'=true
 | [],cs,h=>by have h:cs=[]:=h;subst h;simp
 |x::l,cs,h=>by
  obtain⟨u,rest,rfl,q,h⟩:=h;obtain⟨h1,h2⟩:=h.one;refine⟨by simp[h1,q.2.1,Nat.add_mul];omega,fun y hy=>?_⟩;rcases List.mem_append.1 hy with hy|hy
  ·exact q.2.2 y hy
  ·exact h2 y hy
def aX {α:Type}(E:oD α)(sz:Nat):oD (List α) where
 R B l m v:=∃cs,mY m v sz l.length cs/\(∀b o n c,v=vL b o n c->B b)/\cJ (fun x u=>E.R B x m u/\okV sz u) l cs
 mono:=by
  rintro B B' x m v ⟨cs,h1,h2,h3⟩ k;exact⟨cs,h1,fun b o n c e=>k b (h2 b o n c e),h3.mono fun x u _ q=>⟨E.mono q.1 k,q.2⟩⟩
 ext:=by
  rintro B S x m m' v ⟨cs,h1,h2,h3⟩ k hs;exact⟨cs,h1.ext k fun b o n c e=>hs b (h2 b o n c e),h2,h3.mono fun x u _ q=>⟨E.ext q.1 k hs,q.2⟩⟩
end Go.AM
namespace Go.AM
set_option maxRecDepth 1000000
open Go Go.Conc Go.Proofs
theorem mY.lj{m:Mem}{v:ae}{sz n:Nat}{cs:List ae}(h:mY m v sz n cs):lj v=true/\v.oneCell'=true:=by
 rcases h with⟨hl,⟨rfl,rfl⟩|⟨b,c,rfl,ho,_⟩⟩<;>exact⟨rfl,rfl⟩
theorem aX.lj{α:Type}{E:oD α}{sz:Nat}{B:Nat->Prop}{l:List α}{m:Mem}{v:ae}(h:(aX E sz).R B l m v):Go.AM.lj v=true/\v.oneCell'=true:=by
 obtain⟨cs,h,_⟩:=h;exact h.lj
theorem aX.nil{α:Type}{E:oD α}{sz:Nat}{B:Nat->Prop}{m:Mem}:(aX E sz).R B [] m (.slice none 0 0):=⟨[],mY.nil,fun b o n c e=>(by cases e),rfl⟩
end Go.AM
namespace Go.AM
set_option maxRecDepth 1000000
open Go Go.Conc Go.Proofs
structure FN where
 n:ByteArray
 k:Int
abbrev FN.val(c:FN):ae:= .agg #[.string c.n,vI c.k]
def qz:oD (List FN):=aX (iX FN.val) 2
end Go.AM
namespace Go.AM
set_option maxRecDepth 1000000
open Go Go.Conc Go.Proofs
inductive X where
 |bin(op:Int)(l r:X)
 |no(x:X)
 |TJ(x:X)
 |lit(v:V)
 |Aq(p:Nat)(i j:Int)
def XR (B:Nat->Prop):X->Mem->ae->Prop
 | .bin op l r,m,v=>∃b lv rv,v= .iface 305 (vP b 0)/\B b/\Obj m b 0 [vI op,lv,rv]/\XR B l m lv/\XR B r m rv
 | .no x,m,v=>∃b xv,v= .iface 390 (vP b 0)/\B b/\Obj m b 0 [xv]/\XR B x m xv
 | .TJ x,m,v=>∃b xv,v= .iface 393 (vP b 0)/\B b/\Obj m b 0 [xv]/\XR B x m xv
 | .lit u,m,v=>∃b,v= .iface 317 (vP b 0)/\B b/\Obj m b 0 u.cells
 | .Aq p i j,m,v=>∃b,v= .iface 396 (vP b 0)/\B b/\Obj m b 0 [vP p 0,vI i,vI j]
theorem XR.mono{B B':Nat->Prop}(k:∀b,B b->B' b):∀{x:X}{m:Mem}{v:ae},XR B x m v->XR B' x m v
 | .bin ..,_,_,⟨b,lv,rv,e,hb,o,h1,h2⟩=>⟨b,lv,rv,e,k b hb,o,XR.mono k h1,XR.mono k h2⟩
 | .no ..,_,_,⟨b,xv,e,hb,o,h⟩=>⟨b,xv,e,k b hb,o,XR.mono k h⟩
 | .TJ ..,_,_,⟨b,xv,e,hb,o,h⟩=>⟨b,xv,e,k b hb,o,XR.mono k h⟩
 | .lit ..,_,_,⟨b,e,hb,o⟩=>⟨b,e,k b hb,o⟩
 | .Aq ..,_,_,⟨b,e,hb,o⟩=>⟨b,e,k b hb,o⟩
theorem XR.ext{B S:Nat->Prop}{m m':Mem}(k:Kp m m' S)(hs:∀b,B b->¬S b):∀{x:X}{v:ae},XR B x m v->XR B x m' v
 | .bin ..,_,⟨b,lv,rv,e,hb,o,h1,h2⟩=>⟨b,lv,rv,e,hb,o.ext k (hs b hb),XR.ext k hs h1,XR.ext k hs h2⟩
 | .no ..,_,⟨b,xv,e,hb,o,h⟩=>⟨b,xv,e,hb,o.ext k (hs b hb),XR.ext k hs h⟩
 | .TJ ..,_,⟨b,xv,e,hb,o,h⟩=>⟨b,xv,e,hb,o.ext k (hs b hb),XR.ext k hs h⟩
 | .lit ..,_,⟨b,e,hb,o⟩=>⟨b,e,hb,o.ext k (hs b hb)⟩
 | .Aq ..,_,⟨b,e,hb,o⟩=>⟨b,e,hb,o.ext k (hs b hb)⟩
def nG:oD X:=⟨XR,fun h k=>XR.mono k h,fun h k hs=>XR.ext k hs h⟩
theorem XR.form{B:Nat->Prop}{x:X}{m:Mem}{v:ae}(h:XR B x m v):∃t b,v= .iface t (vP b 0):=by
 cases x with
 |bin op l r=>obtain⟨b,_,_,e,_⟩:=h;exact⟨_,b,e⟩
 |no x=>obtain⟨b,_,e,_⟩:=h;exact⟨_,b,e⟩
 |TJ x=>obtain⟨b,_,e,_⟩:=h;exact⟨_,b,e⟩
 |lit v=>obtain⟨b,e,_⟩:=h;exact⟨_,b,e⟩
 |Aq p i j=>obtain⟨b,e,_⟩:=h;exact⟨_,b,e⟩
end Go.AM
namespace Go.AM
set_option maxRecDepth 1000000
open Go Go.Conc Go.Proofs
theorem mY.form{m:Mem}{v:ae}{sz n:Nat}{cs:List ae}(h:mY m v sz n cs):∃a c,v= .slice a n c:=by
 rcases h with⟨_,⟨rfl,rfl⟩|⟨b,c,rfl,_⟩⟩<;>exact⟨_,_,rfl⟩
theorem mY.pos{m:Mem}{v:ae}{sz n j:Nat}{cs:List ae}(h:mY m v sz n cs)(hj:j<n):∃b c,v=vL b 0 n c/\Obj m b sz cs:=by
 rcases h with⟨_,⟨rfl,rfl⟩|⟨b,c,rfl,o,_⟩⟩
 ·omega
 ·exact⟨b,c,rfl,o⟩
theorem aX.form{α:Type}{E:oD α}{sz:Nat}{B:Nat->Prop}{l:List α}{m:Mem}{v:ae}(h:(aX E sz).R B l m v):∃a c,v= .slice a l.length c:=by
 obtain⟨cs,h,_⟩:=h;exact h.form
theorem cJ.len{α:Type}{Q:α->ae->Prop}{sz:Nat}{l:List α}{cs:List ae}(h:cJ (fun x v=>Q x v/\okV sz v) l cs):cs.length=l.length*sz:=h.one.1
theorem cJ.get{α:Type}{Q:α->ae->Prop}{sz:Nat}:∀{l:List α}{cs:List ae}{j:Nat},cJ (fun x v=>Q x v/\okV sz v) l cs->(h:j<l.length)->∃v,(cs.drop (j*sz)).take sz=v.cells.toList/\Q l[j] v/\okV sz v
 | [],_,_,_,h=>by simp at h
 |x::l,cs,0,hc,h=>by
  obtain⟨v,rest,rfl,q,hr⟩:=hc;exact⟨v,by rw[Nat.zero_mul,List.drop_zero,List.take_left' (by simp[q.2.1])],q.1,q.2⟩
 |x::l,cs,j+1,hc,h=>by
  obtain⟨v,rest,rfl,q,hr⟩:=hc;obtain⟨u,h1,h2,h3⟩:=hr.get (j:=j) (by simpa using h);refine⟨u,?_,h2,h3⟩;rw[Nat.add_mul,Nat.one_mul,Nat.add_comm,<-List.drop_drop,List.drop_left' (by simp[q.2.1]),h1]
theorem aX.get{α:Type}{E:oD α}{sz:Nat}{B:Nat->Prop}{l:List α}{m:Mem}{v:ae}{j:Nat}(h:(aX E sz).R B l m v)(hj:j<l.length):
  ∃b c u cs,v=vL b 0 l.length c/\B b/\Obj m b sz cs/\(cs.drop (j*sz)).take sz=u.cells.toList/\j*sz+sz<=cs.length/\E.R B l[j] m u/\okV sz u:=by
 obtain⟨cs,h1,h2,h3⟩:=h;obtain⟨b,c,rfl,o⟩:=h1.pos hj;obtain⟨u,e,q,ok⟩:=h3.get hj;refine⟨b,c,u,cs,rfl,h2 _ _ _ _ rfl,o,e,?_,q,ok⟩;rw[h3.len];have :(j+1)*sz<=l.length*sz:=Nat.mul_le_mul_right _ hj;rw[Nat.add_mul,Nat.one_mul]at this;exact this
end Go.AM
namespace Go.AM
set_option maxRecDepth 1000000
open Go Go.Conc Go.Proofs
theorem eI {K:fZ}{nt:Nat}{a:Code}{Inv:Nat->Tm->Mem->Prop}{dm:Exit->Tm->Mem->Prop}(n:Nat)
  (vK:∀j tm m,j<n->Inv j tm m->(∃cV m',vf K nt a ⟨tm,m,[]⟩ .normal ⟨cV,m',[]⟩/\Inv (j+1) cV m')\/∃e cV m',e≠ .normal/\vf K nt a ⟨tm,m,[]⟩ e ⟨cV,m',[]⟩/\dm e cV m')
  (G6:∀tm m,Inv n tm m->∃e cV m',e≠ .normal/\vf K nt a ⟨tm,m,[]⟩ e ⟨cV,m',[]⟩/\dm e cV m')
  {tm:Tm}{m:Mem}(h0:Inv 0 tm m)(hn:n<90000):∃e cV m',e≠ .normal/\vB K nt a 100000 ⟨tm,m,[]⟩ e ⟨cV,m',[]⟩/\dm e cV m':=
 jx (Inv:=fun k tm m=>∃j,k=n-j/\j<=n/\Inv j tm m) (dm:=dm)
  (by
   rintro k tm m ⟨j,rfl,hj,hi⟩
   by_cases h:j<n
   ·rcases vK j tm m h hi with⟨cV,m',hx,Ej⟩|h
    ·exact .inl ⟨_,cV,m',ai,hx,j+1,rfl,h,Ej⟩
    ·exact .inr h
   ·have :j=n:=ai;subst this;exact .inr (G6 tm m hi))
  (n:=n) (k:=100000) ⟨0,ai,ai,h0⟩ ai
theorem GK {j n:Nat}(h:j<n):(.bool (cO j n):ae)= .bool true:=by rw[aii,AA h]
theorem Ed (n:Nat):(.bool (cO n n):ae)= .bool false:=by rw[aii,yA ai]
theorem add1 {j:Nat}(h:j<90000):bL j 1=((j+1:Nat):Int):=by rw[vd ⟨ai,ai⟩];rfl
def jw:V:=⟨0,0,.empty,false⟩
section
variable {K:fZ}{m:Mem}{c:Nat}{M1 M2:ae}{f:Int}{B:Nat->Prop}
theorem ahJ {cs vs:List ae}{a n i:Nat}(h:(cs.drop a).take n=vs)(hi:i<n):cs[a+i]?=vs[i]?:=by
 rw[<-h,List.getElem?_take_of_lt hi,List.getElem?_drop]
end
end Go.AM
namespace Go.AM
set_option maxRecDepth 1000000
open Go Go.Conc Go.Proofs
def aau (b:Bool):V:=⟨3,0,.empty,b⟩
def Lv (a b:Int):Int:=bU.i64.wrap (a.tdiv b)
def Se (a b:Int):Int:=a.tmod b
theorem aaU (cx cy:Bool)(a b:Int)(hb:b≠0):gE ab .quo 3 cx cy (vI a) (vI b)=some (vI (Lv a b)):=by
 refine tK rfl ?_ rfl;rw[gz]
 show(Op.intDiv .quo .i64 a b).aM ab=_
 unfold Op.intDiv;simp only[hb,if_false];rfl
theorem aaR (cx cy:Bool)(a b:Int)(hb:b≠0):gE ab .rem 3 cx cy (vI a) (vI b)=some (vI (Se a b)):=by
 refine tK rfl ?_ rfl;rw[gz]
 show(Op.intDiv .rem .i64 a b).aM ab=_
 unfold Op.intDiv;simp only[hb,if_false];rfl
theorem ahN (a b:Int)(hb:b≠0):ik Nat.div .i64 a b (gE ab .quo 3 false false (vI a) (vI b))=some (vI (Lv a b)):=by
 rw[aaU _ _ a b hb];unfold ik
 split
 ·rename_i i
  split
  ·rename_i j
   split
   ·rename_i h;have h:i<9223372036854775808:=Nat.lt_of_succ_le (af h);have e:Lv (.ofNat i) (.ofNat (j+1))=((i / (j+1):Nat):Int):=by
     unfold Lv;rw[show Int.tdiv (.ofNat i) (.ofNat (j+1))=((i / (j+1):Nat):Int)from rfl];have h2:=Nat.div_le_self i (j+1);generalize i / (j+1)=d at h2;exact qf ⟨ai,ai⟩
    rw[e];rfl
   ·rfl
  ·rfl
 ·rfl
theorem UO (a b:Int)(hb:b≠0):ik Nat.mod .i64 a b (gE ab .rem 3 false false (vI a) (vI b))=some (vI (Se a b)):=by
 rw[aaR _ _ a b hb];unfold ik
 split
 ·rename_i i
  split
  ·rename_i j
   split
   ·rename_i h;have h:i<9223372036854775808:=Nat.lt_of_succ_le (af h);have e:Se (.ofNat i) (.ofNat (j+1))=((i%(j+1):Nat):Int):=by
     rfl
    rw[e];rfl
   ·rfl
  ·rfl
 ·rfl
section
variable {K:fZ}{m:Mem}
theorem adY {m0:Mem}{S:Nat->Prop}{b:Nat}(g0:Gd m0)(k:Kp m0 m S)(hb:m0.next<=b)(o:Obj m b 0 [vI 0,vI 0,.string .empty,.bool false])(u:V):
  ∃m',DT b 0 [vI u.k,vI u.n,.string u.s,.bool u.b] m=some (undef,m')/\oh ab 49 (vP b 0) m'=some (.agg #[vI u.k,vI u.n,.string u.s,.bool u.b],m')/\Kp m m' (fun y=>y=b):=by
 obtain⟨m',e,o',k'⟩:=mF (o:=0) [vI u.k,vI u.n,.string u.s,.bool u.b] o ((g0.own k hb).may _ _) (af rfl) rfl;exact⟨m',e,lO o' rfl aac.1 aac.2,k'⟩
theorem ajW {m0 m1 m2:Mem}{b:Nat}(k:Kp m0 m1 fu)(k':Kp m1 m2 (fun y=>y=b))(hb:m0.next<=b):Kp m0 m2 fu:=k.new k' (N:=m0.next) (aj _) fun y hy=>by rw[hy];exact hb
theorem aaw {m':Mem}{b:Nat}(k:Kp m m' fu)(h:b<m.next):(m'.blk b).bK=(m.blk b).bK:=by rw[k.blk b h id]
end
end Go.AM
namespace Go.AM
set_option maxRecDepth 1000000
open Go Go.Conc Go.Proofs
def DI (cv:Nat->Int->Int->V):X->V×Int
 | .lit v=>(v,0)
 | .Aq p i j=>(cv p i j,0)
 |_=>(jw,0)
def X.all(L:V->Prop)(C:Nat->Int->Int->Prop):X->Prop
 | .lit v=>L v
 | .Aq p i j=>C p i j
 |_=>False
def pz (v:V):Prop:=v.s.size<2^60
theorem mOf {b:Nat}:jQ ab (.iface 317 (vP b 0)) "Of"=some (346,vP b 0)/\jQ ab (.iface 396 (vP b 0)) "Of"=some (351,vP b 0):=by
 refine⟨?_,?_⟩<;>kernel_rfl
section
variable {K:fZ}{B:Nat->Prop}
theorem aju (q:Nat)(rw :ae)(u:V)(gD:Nat):Path 346 [vP q 0,rw]
 [mB VP gD,
  uF 4 q (gZ u),
  uE gD 0 (Vq u),
  Yx 49 gD (gZ u)]
 (.tuple #[gZ u,vI 0]):=lV
theorem aA.fw{K:fZ}{nt:Nat}{c:Code}{i id:Nat}{st iq yB:Ss}{e:Exit}{b:Code}(h:vB K nt b 100000 st (.exit id) iq)(k:aA K nt c (i+1) iq e yB)(hl:jI c i=some (id,b):=by kernel_rfl)(eZ:lN nt c b i id=true:=by kernel_rfl):aA K nt c i st e yB:=aA.E3 hl eZ h rfl k
theorem neT {a:Int}(h:a≠0):(.bool (nK a 0):ae)= .bool true:=by rw[jk,AA h]
theorem cOf {R:Mem->Prop}{cv:Nat->Int->Int->V}{rv:ae}(hR:∀m m',R m->Kp m m' fu->R m')
  (akX:∀p i j m b,pz (cv p i j)->Gd m->R m->Obj m b 0 [vP p 0,vI i,vI j]->∃m',Ev K 351 [vP b 0,rv] m (.tuple #[(cv p i j).val,vI 0]) m'/\Kp m m' fu):
  ∀(x:X) (m:Mem) (xv:ae),Gd m->R m->XR B x m xv->x.all pz (fun p i j=>pz (cv p i j))->
   ∃f b m',jQ ab xv "Of"=some (f,vP b 0)/\Ev K f [vP b 0,rv] m (.tuple #[(DI cv x).1.val,vI (DI cv x).2]) m'/\Kp m m' fu:=by
 intro x
 induction x with
 |lit u=>
  rintro m xv g hr ⟨b,rfl,hb,ob⟩ hs;obtain⟨m1,e1,o1,k1,n1,_⟩:=cA g [vI 0,vI 0,.string .empty,.bool false];have l1:eU 4 b 0 m1=some (u.val,m1):=dX (vs:=u.cells) (ob.cf k1) rfl (af rfl);obtain⟨m2,e2,e3,k2⟩:=adY g k1 (aj _) o1 u;exact⟨346,b,m2,mOf.1,aY (aju b rv u _) (.mem e1<| .mem l1<| .mem e2<| .mem e3 .nil),ajW k1 k2 (aj _)⟩
 |Aq p i j=>
  rintro m xv g hr ⟨b,rfl,hb,ob⟩ hs;obtain⟨m',e,k⟩:=akX p i j m b hs g hr ob;exact⟨351,b,m',mOf.2,e,k⟩
 |no x ih=>exact fun _ _ _ _ _ h=>h.elim
 |TJ x ih=>exact fun _ _ _ _ _ h=>h.elim
 |bin op l r ihl ihr=>exact fun _ _ _ _ _ h=>h.elim
end
end Go.AM
