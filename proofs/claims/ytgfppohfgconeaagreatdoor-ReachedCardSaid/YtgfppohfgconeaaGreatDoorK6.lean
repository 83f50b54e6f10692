/-
  What the claim stands on, part 6.
-/
import Derived.Test.YtgfppohfgconeaaGreatDoorK5
import Derived.Laws.StructEq
set_option linter.unusedVariables false
set_option linter.unusedSimpArgs false
open Go.Proofs.Tryz renaming prog → ab
open Go renaming Value → ae, Program → aD, TypeId → aM, Operand → bX, IntKind → cf, Oper → gU
open Nat renaming le_of_ble_eq_true → af, le_refl → ai, eq_of_beq_eq_true → aA, lt_of_lt_of_le → aW, le_trans → cp
open Bool renaming and_eq_true → ag, false_eq_true → bU
open Option.some renaming injEq → ah
open Prod.mk renaming injEq → ay
open List renaming all_eq_true → aB
open Option renaming map_eq_some_iff → aC, bind_some → a9, map_some → cN, isSome_iff_exists → iA
namespace Go.AM
open Go
inductive T (α:Type) where
 |done(a:α)
 |fail
 |mem(f:Mem->Option (ae×Mem))(k:ae->T α)
 |call(f:Nat)(args:List ae)(k:ae->T α)
 |gD(fv:ae)(args:List ae)(k:ae->T α)
 |eN(r:Option (Nat×ae))(args:List ae)(k:ae->T α)
 |val(r:Option ae)(k:ae->T α)
 |cond(v:ae)(k:Bool->T α)
 |idx(n:Int)(len:Nat)(k:Nat->T α)
def den {R:Type}(cl:cB):T R->Mem->Option (R×Mem)
 | .done a,m=>some (a,m)
 | .fail,_=>none
 | .mem f k,m=>match f m with |some (v,m')=>den cl (k v) m'|none=>none
 | .call f args k,m=>match cl f args m with |some (v,m')=>den cl (k v) m'|none=>none
 | .gD fv args k,m=>match fv with
  | .func (.func f) first cap=>(match cl f (first.toList++args++cap.toList) m with |some (v,m')=>den cl (k v) m'|none=>none)
  |_=>none
 | .eN r args k,m=>match r with
  |some (f,recv)=>(match cl f (recv::args) m with |some (v,m')=>den cl (k v) m'|none=>none)
  |none=>none
 | .val r k,m=>match r with |some v=>den cl (k v) m|none=>none
 | .cond v k,m=>match v with | .bool b=>den cl (k b) m|_=>none
 | .idx n len k,m=>match n with | .ofNat i=>(match Nat.blt i len with |true=>den cl (k i) m|false=>none)| .negSucc _=>none
section
variable {R:Type}
def IU (p:ae)(k:Nat->Nat->T R):T R:=match p with | .pointer (some ⟨b,o,none⟩)=>k b o|_=> .fail
def oB (x y:ae)(k:cf->Int->Int->T R):T R:=
 match x with
 | .int a i=>match y with
  | .int b j=>match Nat.beq (xC a) (xC b)with |true=>k a i j|false=> .fail
  |_=> .fail
 |_=> .fail
def Iq (x y:ae)(k:ByteArray->ByteArray->T R):T R:=
 match x with
 | .string a=>match y with
  | .string b=>k a b
  |_=> .fail
 |_=> .fail
def LQ (r:Option ae)(k:ae->T R):T R:=match r with |some v=>k v|none=> .fail
def WL (q:Int->Int->Option Nat)(f:Int->Int->Int)(a:cf)(i j:Int):Int:=
 match q i j with
 |some n=>match Nat.blt n (iN a)with |true=> .ofNat n|false=>a.wrap (f i j)
 |none=>a.wrap (f i j)
def RE (oe:Bool)(i j:Int):Int:=
 match gB j i with
 |true=>match oe with |true=>i|false=>j
 |false=>match oe with |true=>j|false=>i
def Au (s:ByteArray)(i:Nat):Nat:=match wI s.data.toList i with |some b=>b.toNat|none=>0
def adX (x:bX):bX:=match x with | .const _=> .const .nilFunc|_=> .tmp 0
def adY (c:Bool):bX:=match c with |true=> .const .nilFunc|false=> .tmp 0
def pu (P:aD)(lI:List ae)(s:Sem ae):Option ae:=
 match lI.all plain with
 |true=>match s.aH P with
  |some v=>match plain v with |true=>some v|false=>none
  |none=>none
 |false=>none
def jZ (P:aD)(op:BinOp)(t:aM)(cx cy:Bool)(a b:ae):Option ae:=pu P [a,b] (do eqGuard op t (adY cx) (adY cy) a b;binOp op t a b)
def eq2 (P:aD)(op:BinOp)(t:aM)(cx cy:Bool)(a b:ae)(k:ae->T R):T R:=
 match op with
 | .eql=>(match rK P t cx cy a b with |some v=>k (.bool v)|none=> .val (jZ P op t cx cy a b) k)
 | .neq=>(match rK P t cx cy a b with |some v=>k (.bool (!v))|none=> .val (jZ P op t cx cy a b) k)
 |_=> .val (jZ P op t cx cy a b) k
def aP (b o:Nat)(m:Mem):Option (ae×Mem):=
 match m.blk b with
 |⟨1,_,cs,_,_,_,_,_⟩=>match OY m b o 1 with
  |true=>match J8 o cs with
   |some v::_=>some (v,m)
   |_=>none
  |false=>none
 |_=>none
def eW (n b o:Nat)(m:Mem):Option (ae×Mem):=match m.dB b o n with |some l=>some (.agg l.toArray,m)|none=>none
def gJ (b o:Nat)(v:ae)(m:Mem):Option (ae×Mem):=
 match kI v with
 |false=>none
 |true=>match m.blk b with
  |⟨1,sz,cs,es,c,str,pos,_⟩=>match Qs m b o with
   |true=>match v7 o cs v with
    |some gQ=>some (undef,{m with heap:=m.heap.put b ⟨1,sz,gQ,es,c,str,pos,m.tick⟩,tick:=Nat.succ m.tick})
    |none=>none
   |false=>none
  |_=>none
def Eb (b o:Nat)(vs:List ae)(m:Mem):Option (ae×Mem):=match m.dK b o vs with |some m'=>some (undef,m')|none=>none
def mZ (cs:List (Option ae))(m:Mem):Option (ae×Mem):=
 some (ptrTo m.next 0,{m with heap:=m.heap.put m.next ⟨1,0,cs,#[],0,.empty,1,m.tick⟩,tick:=Nat.succ m.tick,next:=Nat.succ m.next})
def nZ (P:aD)(t:aM)(x:ae)(lo hi:Option ae)(m:Mem):Option (ae×Mem):=match jb P t x lo hi m with |some v=>some (v,m)|none=>none
def oL (P:aD)(t:aM)(x k:ae)(ok:Bool)(m:Mem):Option (ae×Mem):=match gH P t x k ok m with |some v=>some (v,m)|none=>none
def y7 (P:aD)(t:aM)(x k v:ae)(m:Mem):Option (ae×Mem):=match jf P t x k v m with |some m'=>some (undef,m')|none=>none
def xH (m:Mem):Option (ae×Mem):=some (.map (some m.next),m.alloc {kind:=2})
def uY (P:aD)(first :Array ae)(name:String)(v:ae):Option ae:=
 match(first[0]?:Option ae)with
 |some r=>match(dR P r name).isSome with |true=>some v|false=>none
 |none=>none
def kK (q:Nat->Nat->Nat)(a:cf)(i j:Int)(d:Option ae):Option ae:=
 match i with
 | .ofNat i=>match j with
  | .ofNat (j+1)=>match Nat.blt i (iN a)with |true=>some (.int a (.ofNat (q i (Nat.succ j))))|false=>d
  |_=>d
 |_=>d
def Kt (q:Nat->Nat->Nat)(a:cf)(i j:Int)(d:Option ae):Option ae:=
 match i with
 | .ofNat i=>match j with
  | .ofNat j=>match Nat.blt i (iN a)&&Nat.blt j (iN a)with |true=>some (.int a (.ofNat (q i j)))|false=>d
  |_=>none
 |_=>d
def vw (a b:ByteArray):Option ae:=match Nat.blt (a.size+b.size) 9223372036854775808 with |true=>some (.string (a++b))|false=>none
abbrev DY (R:Type):=Tm->(ae->T R)->T R
def aec (P:aD)(op:BinOp)(t:aM)(cx cy:Bool)(x y:kC):DY R:=
 match P.underlying t with
 |some (.int _)=>match op with
  | .lss=>fun tm k=>oB (x tm) (y tm) fun _ i j=>k (.bool (gB i j))
  | .leq=>fun tm k=>oB (x tm) (y tm) fun _ i j=>k (.bool (Yu i j))
  | .gtr=>fun tm k=>oB (x tm) (y tm) fun _ i j=>k (.bool (qE i j))
  | .geq=>fun tm k=>oB (x tm) (y tm) fun _ i j=>k (.bool (EE i j))
  | .eql=>fun tm k=>oB (x tm) (y tm) fun _ i j=>k (.bool (dd i j))
  | .neq=>fun tm k=>oB (x tm) (y tm) fun _ i j=>k (.bool (tB i j))
  | .add=>fun tm k=>oB (x tm) (y tm) fun a i j=>k (.int a (WL V7 Int.add a i j))
  | .sub=>fun tm k=>oB (x tm) (y tm) fun a i j=>k (.int a (WL SA Int.sub a i j))
  | .mul=>fun tm k=>oB (x tm) (y tm) fun a i j=>k (.int a (WL noQ Int.mul a i j))
  | .or=>fun tm k=>oB (x tm) (y tm) fun a i j=> .val (Kt Nat.lor a i j (jZ P op t cx cy (x tm) (y tm))) k
  | .and=>fun tm k=>oB (x tm) (y tm) fun a i j=> .val (Kt Nat.land a i j (jZ P op t cx cy (x tm) (y tm))) k
  | .xor=>fun tm k=>oB (x tm) (y tm) fun a i j=> .val (Kt Nat.xor a i j (jZ P op t cx cy (x tm) (y tm))) k
  | .quo=>fun tm k=>oB (x tm) (y tm) fun a i j=> .val (kK Nat.div a i j (jZ P op t cx cy (x tm) (y tm))) k
  | .rem=>fun tm k=>oB (x tm) (y tm) fun a i j=> .val (kK Nat.mod a i j (jZ P op t cx cy (x tm) (y tm))) k
  |_=>fun tm k=> .val (jZ P op t cx cy (x tm) (y tm)) k
 |some .string=>match op with
  | .eql=>fun tm k=>Iq (x tm) (y tm) fun a b=>k (.bool ((a.toList==b.toList)==true))
  | .neq=>fun tm k=>Iq (x tm) (y tm) fun a b=>k (.bool ((a.toList==b.toList)==false))
  | .add=>fun tm k=>Iq (x tm) (y tm) fun a b=> .val (vw a b) k
  |_=>fun tm k=> .val (jZ P op t cx cy (x tm) (y tm)) k
 |_=>fun tm k=>eq2 P op t cx cy (x tm) (y tm) k
def loadT (P:aD)(t:aM)(x:kC):Option (DY R):=
 match yv P t with
 |some true=>match ep P t with
  |some n=>some fun tm k=>IU (x tm) fun b o=> .mem (eW n b o) k
  |none=>none
 |some false=>some fun tm k=>IU (x tm) fun b o=> .mem (aP b o) k
 |none=>none
def storeT (P:aD)(t:aM)(p x:kC):Option (DY R):=
 match ep P t with
 |some n=>match yv P t with
  |some true=>some fun tm k=>IU (p tm) fun b o=>match x tm with
   | .agg cs=>(match Nat.beq n cs.size with |true=> .mem (Eb b o cs.toList) k|false=> .fail)
   |_=> .fail
  |some false=>match Nat.beq n 1 with |true=>some fun tm k=>IU (p tm) fun b o=> .mem (gJ b o (x tm)) k|false=>none
  |none=>none
 |none=>none
def wy (P:aD)(s:aM)(p:kC)(f:Nat):Option (DY R):=
 match P.underlying s with
 |some (.struct fields)=>match fields[f]? with
  |some fd=>match ep P fd.type with
   |some (_+1)=>some fun tm k=>IU (p tm) fun b o=>k (ptrTo b (Nat.add o fd.offset))
   |_=>none
  |none=>none
 |_=>none
def wm (P:aD)(t:aM)(x i:kC):Option (DY R):=
 match P.underlying t with
 |some (.slice e)=>match ep P e with
  |some s=>some fun tm k=>match x tm with
   | .slice (some ⟨b,o,none⟩) len _=>(match i tm with | .int _ n=> .idx n len fun j=>k (ptrTo b (Nat.add o (Nat.mul j s)))|_=> .fail)
   |_=> .fail
  |none=>none
 |some (.array len e)=>match ep P e with
  |some s=>some fun tm k=>IU (x tm) fun b o=>match i tm with | .int _ n=> .idx n len fun j=>k (ptrTo b (Nat.add o (Nat.mul j s)))|_=> .fail
  |none=>none
 |_=>none
def Mm (P:aD)(t:aM)(x i:kC):Option (DY R):=
 match P.underlying t with
 |some .string=>some fun tm k=>match x tm with
  | .string s=>(match i tm with | .int _ n=> .idx n s.size fun j=>k (.int .u8 (.ofNat (Au s j)))|_=> .fail)
  |_=> .fail
 |_=>some fun tm k=>LQ (wo P t (x tm) (i tm)) k
def acQ (P:aD)(t:aM)(x:kC):Option (DY R):=
 match P.underlying t with
 |some .string=>some fun tm k=>match x tm with | .string s=>k (.int .i64 (.ofNat s.size))|_=> .fail
 |some (.slice _)=>some fun tm k=>match x tm with | .slice _ n _=>k (.int .i64 (.ofNat n))|_=> .fail
 |_=>none
def T4 (oe:Bool)(x y:kC):DY R:=fun tm k=>match x tm with
 | .int a i=>match y tm with
  | .int _ j=>k (.int a (RE oe i j))
  |_=> .fail
 |_=> .fail
def Cg (f:Tm->Mem->Option (ae×Mem)):DY R:=fun tm k=> .mem (f tm) k
def Vh (P:aD)(t:aM):Bool:=match P.underlying t with
 |some (.struct fields)=>fields.any fun f=>match P.underlying f.type with |some (.interface _)=>true|_=>false
 |_=>false
def Vw (P:aD)(o:gU):Option (DY R):=
 match o.op with
 | .unOp op _ x=>some fun tm k=> .val (pu P [du tm x] (Op.unary op (du tm x))) k
 | .build t ps=>match Vh P t with
  |true=>some fun tm k=> .val (Dv P t (ps.map fun(i,x)=>(i,du tm x)).toList) k
  |false=>some fun tm k=>LQ (Dv P t (ps.map fun(i,x)=>(i,du tm x)).toList) k
 | .buildSlice t n ps=>some (Cg fun tm=>bh P t n (ps.map fun(i,x)=>(i,du tm x)).toList)
 | .convert s d x=>some fun tm k=>match P.underlying s,P.underlying d with
  |some (.int _),some (.int _)=> .val (pu P [du tm x] (convert s d (du tm x))) k
  |_,_=> .mem (fN P s d (du tm x)) k
 | .makeInterface t x=>match P.underlying t with |some (.interface _)=>none|some _=>some fun tm k=>k (.iface t (du tm x))|none=>none
 | .makeFunc fn f c=>some fun tm k=>k (.func fn (f.map (du tm)) (c.map (du tm)))
 | .makeMap _ none=>some (Cg fun _=>xH)
 | .makeSlice t l c=>some (Cg fun tm=>fT P t (du tm l) (du tm c))
 | .slice t x lo hi none=>some fun tm k=>match du tm x with
  | .string s=> .val (pu P (.string s::((lo.map (du tm)).toList++(hi.map (du tm)).toList)) (Instr.sliceAt t (.string s) (lo.map (du tm)) (hi.map (du tm)) none)) k
  |v=> .mem (nZ P t v (lo.map (du tm)) (hi.map (du tm))) k
 | .field s x f=>some fun tm k=>LQ (Ht P s (du tm x) f) k
 | .lookup t x i ok=>some (Cg fun tm=>oL P t (du tm x) (du tm i) ok)
 | .mapUpdate t x i v=>some (Cg fun tm=>y7 P t (du tm x) (du tm i) (du tm v))
 | .typeAssert x t a ok=>some fun tm k=>LQ (qk P (du tm x) t a ok) k
 | .range t x=>some (Cg fun tm=>yT P t (du tm x))
 | .next it s=>some (Cg fun tm=>Fq (du tm it) s)
 | .call {callee:= .builtin b,args,argTypes}=>
  match b,args.toList with
  | .append,[s,x]=>some (Cg fun tm=>cK P argTypes (du tm s) (du tm x))
  | .copy,[d,s]=>some (Cg fun tm=>yi P argTypes (du tm d) (du tm s))
  | .clear,[x]=>some (Cg fun tm=>mX P argTypes (du tm x))
  |_,_=>none
 |_=>none
def yZ (P:aD)(o:gU):Option (DY R):=
 match o.op with
 | .move x=>eG x fun x=>some fun tm k=>k (x tm)
 | .assign x=>eG x fun x=>some fun tm k=>k (x tm)
 | .pick c x y=>eG c fun c=>eG x fun x=>eG y fun y=>some fun tm k=> .cond (c tm) fun b=>match b with |true=>k (x tm)|false=>k (y tm)
 | .binOp op t x y _=>let cx:=isConst x;let cy:=isConst y;eG x fun x=>eG y fun y=>some (aec P op t cx cy x y)
 | .load t x=>eG x fun x=>loadT P t x
 | .store t p x=>eG p fun p=>eG x fun x=>storeT P t p x
 | .fieldAddr s p f=>eG p fun p=>wy P s p f
 | .indexAddr t x i=>eG x fun x=>eG i fun i=>wm P t x i
 | .index t x i=>eG x fun x=>eG i fun i=>Mm P t x i
 | .extract x i=>eG x fun x=>some fun tm k=>match x tm with | .tuple vs=>LQ vs.toList[i]? k|_=> .fail
 | .unOp .not _ x=>eG x fun x=>some fun tm k=>match x tm with | .bool b=>k (.bool (!b))|_=> .fail
 | .nilCheck x=>eG x fun x=>some fun tm k=>match x tm with
  | .pointer (some a)=>k (.pointer (some a))
  | .func (.method name) first cap=> .val (uY P first name (.func (.method name) first cap)) k
  |_=> .fail
 | .alloc e=>match gL P e with
  |some z=>some fun _ k=> .mem (mZ (z.cells.toList.map some)) k
  |none=>none
 | .box _ x=>eG x fun x=>some fun tm k=> .mem (mZ ((x tm).cells.toList.map some)) k
 | .call {callee:= .builtin .min,args,.. }=>match args.toList with
  | [x,y]=>eG x fun x=>eG y fun y=>some (T4 false x y)
  |_=>none
 | .call {callee:= .builtin .max,args,.. }=>match args.toList with
  | [x,y]=>eG x fun x=>eG y fun y=>some (T4 true x y)
  |_=>none
 | .call {callee:= .value (.func f),args,.. }=>sX args.toList fun xs=>some fun tm k=> .call f (KV xs tm) k
 | .call {callee:= .value x,args,.. }=>eG x fun x=>sX args.toList fun xs=>some fun tm k=> .gD (x tm) (KV xs tm) k
 | .call {callee:= .invoke r name,args,.. }=>eG r fun r=>sX args.toList fun xs=>some fun tm k=> .eN (dR P (r tm) name) (KV xs tm) k
 | .call {callee:= .builtin .len,args,argTypes}=>match args.toList,argTypes.toList with
  | [x],t::_=>eG x fun x=>acQ P t x
  |_,_=>none
 |_=>Vw P o
end
end Go.AM
namespace Go.AM
open Go
def wP {R:Type}(op:lO)(t:DY R):Prop:=
 ∀(cl:cB) (tm:Tm) (m:Mem) (K:ae->T R) (r:R×Mem),den cl (t tm K) m=some r->∃v m',(∀df k,op cl tm m df k=k v m' df)/\den cl (K v) m'=some r
section
variable {R:Type}{P:aD}{o:gU}{cl:cB}{tm:Tm}{m:Mem}{r:R×Mem}
theorem j4 {f:Mem->Option (ae×Mem)}{k:ae->T R}(h:den cl (.mem f k) m=some r):∃v m',f m=some (v,m')/\den cl (k v) m'=some r:=by
 unfold den at h
 split at h
 ·exact⟨_,_,nV,h⟩
 ·cases h
theorem kY {x:Option ae}{k:ae->T R}(h:den cl (.val x k) m=some r):∃v,x=some v/\den cl (k v) m=some r:=by
 unfold den at h
 split at h
 ·exact⟨_,rfl,h⟩
 ·cases h
theorem Dc {x:ae}{k:Bool->T R}(h:den cl (.cond x k) m=some r):∃b,x= .bool b/\den cl (k b) m=some r:=by
 unfold den at h
 split at h
 ·exact⟨_,rfl,h⟩
 ·cases h
theorem HB {n:Int}{len:Nat}{k:Nat->T R}(h:den cl (.idx n len k) m=some r):∃i,n= .ofNat i/\Nat.blt i len=true/\den cl (k i) m=some r:=by
 unfold den at h
 split at h
 ·split at h
  ·exact⟨_,rfl,nV,h⟩
  ·cases h
 ·cases h
theorem yg {x:Option ae}{k:ae->T R}(h:den cl (LQ x k) m=some r):∃v,x=some v/\den cl (k v) m=some r:=by
 unfold LQ at h
 split at h
 ·exact⟨_,rfl,h⟩
 ·cases h
theorem u7 {p:ae}{k:Nat->Nat->T R}(h:den cl (IU p k) m=some r):∃b o,p= .pointer (some ⟨b,o,none⟩)/\den cl (k b o) m=some r:=by
 unfold IU at h
 split at h
 ·exact⟨_,_,rfl,h⟩
 ·cases h
theorem yh {x y:ae}{k:cf->Int->Int->T R}(h:den cl (oB x y k) m=some r):∃a i j,x= .int a i/\y= .int a j/\den cl (k a i j) m=some r:=by
 unfold oB at h
 split at h
 ·split at h
  ·split at h
   ·rename_i hb;obtain rfl:=tX hb;exact⟨_,_,_,rfl,rfl,h⟩
   ·cases h
  ·cases h
 ·cases h
theorem Db {x y:ae}{k:ByteArray->ByteArray->T R}(h:den cl (Iq x y k) m=some r):∃a b,x= .string a/\y= .string b/\den cl (k a b) m=some r:=by
 unfold Iq at h
 split at h
 ·split at h
  ·exact⟨_,_,rfl,rfl,h⟩
  ·cases h
 ·cases h
theorem gP {v:ae}{m':Mem}(h:dx P (du tm) o m=some (v,m')):∀df k,jC P o cl tm m df k=k v m' df:=by
 intro df k;unfold jC;rw[h]
theorem ph (a:cf):Nat.beq (xC a) (xC a)=true:=by cases a<;>rfl
theorem adT {f:Int->Int->Bool}{x y:kC}{a:cf}{i j:Int}(hx:x tm= .int a i)(hy:y tm= .int a j):∀df k,EK f x y cl tm m df k=k (.bool (f i j)) m df:=by
 intro df k;unfold EK;rw[hx,hy];simp only[ph,if_true]
theorem aiO {q:Int->Int->Option Nat}{f:Int->Int->Int}{x y:kC}{a:cf}{i j:Int}(hx:x tm= .int a i)(hy:y tm= .int a j):∀df k,arF q f x y cl tm m df k=k (.int a (WL q f a i j)) m df:=by
 intro df k;unfold arF WL;rw[hx,hy];simp only[ph,if_true];cases q i j with
 |none=>rfl
 |some n=>cases hb:Nat.blt n (iN a)<;>simp only[hb,if_true,bU,if_false]
theorem Pp (x:bX):adY (isConst x)=adX x:=by cases x<;>rfl
theorem J4 {op:BinOp}{t:aM}{x y:bX}{a b:ae}:eqGuard op t (adX x) (adX y) a b=eqGuard op t x y a b:=by
 unfold eqGuard;cases x<;>cases y<;>rfl
theorem ny {s:Sem ae}{v:ae}(h:s.aH P=some v):Sem.aH P (s.bind fun v=>Sem.pure (Next.value v))=some (.value v):=by
 induction s with
 |pure a=>simp only[Sem.aH,ah]at h;subst h;rfl
 |program k ih=>exact ih P h
 |_=>simp[Sem.aH]at h
theorem N2 {lI:List ae}{s:Sem ae}{v:ae}(h:pu P lI s=some v):lI.all plain=true/\s.aH P=some v/\plain v=true:=by
 unfold pu at h
 split at h
 ·split at h
  ·split at h
   ·cases h;exact⟨nV,nV,nV⟩
   ·cases h
  ·cases h
 ·cases h
theorem yX {op:BinOp}{t u:aM}{x y:bX}{ev:bX->ae}{v:ae}(ho:o.op= .binOp op t x y u)(h:jZ P op t (isConst x) (isConst y) (ev x) (ev y)=some v):dc P ev o=some v:=by
 unfold jZ at h;obtain⟨h1,h2,h3⟩:=N2 h;refine ix ?_ ?_ h3
 ·rw[ho];simpa[Op.operands]using h1
 ·rw[Pp,Pp,J4]at h2;unfold execOp;rw[ho];exact ny h2
theorem vf {op:BinOp}{t u:aM}{x y:bX}(ho:o.op= .binOp op t x y u){v:ae}(h:dc P (du tm) o=some v)
  (hn:op= .eql\/op= .neq->rK P t (isConst x) (isConst y) (du tm x) (du tm y)=none):dx P (du tm) o m=some (v,m):=by
 unfold dx;rw[ho];simp only[]
 split
 ·rw[hn (.inl rfl),h];rfl
 ·rw[hn (.inr rfl),h];rfl
 ·rw[h];rfl
theorem QX {op:BinOp}{t u:aM}{x y:bX}(ho:o.op= .binOp op t x y u){K:ae->T R}(h:den cl (eq2 P op t (isConst x) (isConst y) (du tm x) (du tm y) K) m=some r):
  ∃v m',(∀df k,jC P o cl tm m df k=k v m' df)/\den cl (K v) m'=some r:=by
 unfold eq2 at h
 split at h
 ·split at h
  ·rename_i v hv;refine⟨_,_,gP ?_,h⟩;unfold dx;rw[ho];simp only[hv]
  ·rename_i hv;obtain⟨v,h1,h2⟩:=kY h;exact⟨_,_,gP (vf ho (yX ho h1) fun _=>hv),h2⟩
 ·split at h
  ·rename_i v hv;refine⟨_,_,gP ?_,h⟩;unfold dx;rw[ho];simp only[hv]
  ·rename_i hv;obtain⟨v,h1,h2⟩:=kY h;exact⟨_,_,gP (vf ho (yX ho h1) fun _=>hv),h2⟩
 ·rename_i n1 n2;obtain⟨v,h1,h2⟩:=kY h;exact⟨_,_,gP (vf ho (yX ho h1) fun hc=>hc.elim (fun e=>absurd e n1) fun e=>absurd e n2),h2⟩
theorem N4 {op:BinOp}{t u:aM}{x y:bX}(ho:o.op= .binOp op t x y u)(h1:op≠ .eql)(h2:op≠ .neq){K:ae->T R}(h:den cl (.val (jZ P op t (isConst x) (isConst y) (du tm x) (du tm y)) K) m=some r):
  ∃v m',(∀df k,jC P o cl tm m df k=k v m' df)/\den cl (K v) m'=some r:=by
 obtain⟨v,e1,e2⟩:=kY h;exact⟨_,_,gP (vf ho (yX ho e1) fun hc=>hc.elim (fun e=>absurd e h1) fun e=>absurd e h2),e2⟩
theorem QZ {op:BinOp}{t u:aM}{x y:bX}{q:Nat->Nat->Nat}(ho:o.op= .binOp op t x y u)(h1:op≠ .eql)(h2:op≠ .neq){K:ae->T R}{a:cf}{i j:Int}(hx:du tm x= .int a i)(hy:du tm y= .int a j)
  (h:den cl (.val (kK q a i j (jZ P op t (isConst x) (isConst y) (du tm x) (du tm y))) K) m=some r):
  ∃v m',(∀df k,Hw P o q (ex x) (ex y) cl tm m df k=k v m' df)/\den cl (K v) m'=some r:=by
 obtain⟨v,e1,e2⟩:=kY h;have gen:jZ P op t (isConst x) (isConst y) (du tm x) (du tm y)=some v->∀df k,jC P o cl tm m df k=k v m df:=fun e=>gP (vf ho (yX ho e) fun hc=>hc.elim (fun e=>absurd e h1) fun e=>absurd e h2)
 refine⟨v,m,fun df k=>?_,e2⟩;cases i with
 |negSucc i=>unfold Hw;simp only[ex,hx];exact gen e1 df k
 |ofNat i=>
  cases j with
  |negSucc j=>unfold Hw;simp only[ex,hx,hy];exact gen e1 df k
  |ofNat j=>
   cases j with
   |zero=>unfold Hw;simp only[ex,hx,hy];exact gen e1 df k
   |succ j=>
    unfold kK at e1;unfold Hw;simp only[ex,hx,hy];cases hb:Nat.blt i (iN a)with
    |true=>
     simp only[hb]at e1;cases e1;simp only[ph,hb,Bool.and_self,if_true]
    |false=>
     simp only[hb]at e1;simp only[ph,hb,Bool.true_and,bU,if_false];exact gen e1 df k
end
end Go.AM
namespace Go.AM
open Go
section
variable {R:Type}{P:aD}{o:gU}
theorem Nh {op:BinOp}{t u:aM}{x y:bX}{q:Nat->Nat->Nat}{cl:cB}{tm:Tm}{m:Mem}{r:R×Mem}(ho:o.op= .binOp op t x y u)(h1:op≠ .eql)(h2:op≠ .neq){K:ae->T R}{a:cf}{i j:Int}(hx:du tm x= .int a i)(hy:du tm y= .int a j)
  (h:den cl (.val (Kt q a i j (jZ P op t (isConst x) (isConst y) (du tm x) (du tm y))) K) m=some r):
  ∃v m',(∀df k,Av P o q (ex x) (ex y) cl tm m df k=k v m' df)/\den cl (K v) m'=some r:=by
 obtain⟨v,e1,e2⟩:=kY h;have gen:jZ P op t (isConst x) (isConst y) (du tm x) (du tm y)=some v->∀df k,jC P o cl tm m df k=k v m df:=fun e=>gP (vf ho (yX ho e) fun hc=>hc.elim (fun e=>absurd e h1) fun e=>absurd e h2)
 refine⟨v,m,fun df k=>?_,e2⟩;cases i with
 |negSucc i=>unfold Av;simp only[ex,hx];exact gen e1 df k
 |ofNat i=>
  cases j with
  |negSucc j=>cases e1
  |ofNat j=>
   unfold Kt at e1;unfold Av;simp only[ex,hx,hy];cases hb:Nat.blt i (iN a)&&Nat.blt j (iN a)with
   |true=>
    simp only[hb]at e1;cases e1;simp only[ph,Bool.true_and,hb,if_true]
   |false=>
    simp only[hb]at e1;simp only[ph,Bool.true_and,hb,bU,if_false];exact gen e1 df k
theorem Nk {op:BinOp}{t u:aM}{x y:bX}(ho:o.op= .binOp op t x y u){f:lO}(hf:V0 P o op t (ex x) (ex y)=some f):wP f (aec (R:=R) P op t (isConst x) (isConst y) (ex x) (ex y)):=by
 intro cl tm m K r h;unfold V0 at hf;unfold aec at h
 split at hf
 ·rename_i kk hu;simp only[hu]at h;cases op<;>simp only[ah]at hf<;>subst hf<;>simp only[ex]at h
  all_goals first
   |(obtain⟨a,i,j,hx,hy,h⟩:=yh h;exact⟨_,_,adT hx hy,h⟩)
   |(obtain⟨a,i,j,hx,hy,h⟩:=yh h;exact⟨_,_,aiO hx hy,h⟩)
   |(obtain⟨a,i,j,hx,hy,h⟩:=yh h;exact Nh ho eS eS hx hy h)
   |(obtain⟨a,i,j,hx,hy,h⟩:=yh h;exact QZ ho eS eS hx hy h)
   |exact N4 ho eS eS h
 ·rename_i hu;simp only[hu]at h
  split at hf<;>(try simp only[ex]at h)<;>simp only[ah]at hf<;>subst hf
  ·obtain⟨a,b,hx,hy,h⟩:=Db h;refine⟨_,_,fun df k=>?_,h⟩;unfold yN;simp only[ex,hx,hy]
  ·obtain⟨a,b,hx,hy,h⟩:=Db h;refine⟨_,_,fun df k=>?_,h⟩;unfold yN;simp only[ex,hx,hy]
  ·obtain⟨a,b,hx,hy,h⟩:=Db h;obtain⟨v,e,h⟩:=kY h;refine⟨_,_,fun df k=>?_,h⟩;unfold vw at e;unfold Nc;simp only[ex,hx,hy]
   split at e
   ·rename_i hb;cases e;simp only[hb,if_true]
   ·cases e
  ·rename_i n1 n2 n3;exact N4 ho n1 n2 h
 ·rename_i n1 n2;cases hf;have h:den cl (eq2 P op t (isConst x) (isConst y) (du tm x) (du tm y) K) m=some r:=by
   revert h
   cases hu:P.underlying t with
   |none=>exact id
   |some d=>cases d<;>first |exact id|exact absurd hu (n1 _)|exact absurd hu n2
  exact QX ho h
theorem Jk {t:aM}{x:bX}{f:lO}{g:DY R}(hf:Jm P o t (ex x)=some f)(hg:loadT P t (ex x)=some g):wP f g:=by
 intro cl tm m K r h;unfold Jm at hf;unfold loadT at hg
 split at hf
 ·rename_i ha;simp only[ha]at hg
  split at hf
  ·rename_i n hn;simp only[hn]at hg;cases hf;cases hg;obtain⟨b,oo,hp,h⟩:=u7 h;obtain⟨v,m',e,h⟩:=j4 h;refine⟨v,m',fun df k=>?_,h⟩;unfold eW at e;unfold L8 AJ aen;rw[hp];simp only[]
   split at e
   ·rename_i l hl;cases e;rw[hl]
   ·cases e
  ·rename_i hn;simp only[hn]at hg;cases hg
 ·rename_i ha;simp only[ha]at hg;cases hf;cases hg;obtain⟨b,oo,hp,h⟩:=u7 h;obtain⟨v,m',e,h⟩:=j4 h;refine⟨v,m',fun df k=>?_,h⟩;unfold aP at e;unfold L9 AJ Ad;rw[hp];simp only[]
  split at e
  ·rename_i hb;simp only[hb]
   split at e
   ·rename_i hh;rw[bC hh]
    split at e
    ·rename_i hd;cases e;simp only[hd]
    ·cases e
   ·cases e
  ·cases e
 ·rename_i ha;simp only[ha]at hg;cases hg
theorem Gt {t:aM}{p x:bX}{f:lO}{g:DY R}(hf:BC P o t (ex p) (ex x)=some f)(hg:storeT P t (ex p) (ex x)=some g):wP f g:=by
 intro cl tm m K r h;unfold BC at hf;unfold storeT at hg
 split at hf
 ·rename_i n hn;simp only[hn]at hg;cases hf
  split at hg
  ·cases hg;obtain⟨b,oo,hp,h⟩:=u7 h;unfold AZ;simp only[ex]at h
   split at h
   ·rename_i cs hx
    split at h
    ·rename_i hb;obtain⟨v,m',e,h⟩:=j4 h;refine⟨v,m',fun df k=>?_,h⟩;rw[hp];simp only[ex,hx,AJ,hb,if_true];unfold Eb at e
     split at e
     ·rename_i m₁ hm;cases e;rw[hm];rfl
     ·cases e
    ·cases h
   ·cases h
  ·split at hg
   ·rename_i hb;cases hg;obtain⟨b,oo,hp,h⟩:=u7 h;obtain⟨v,m',e,h⟩:=j4 h;refine⟨v,m',fun df k=>?_,h⟩;unfold gJ at e
    split at e
    ·cases e
    ·rename_i ho1;have hna:∀cs,du tm x≠ .agg cs:=fun cs hx=>by
      simp only[ex,hx]at ho1;cases ho1
     unfold AZ;rw[hp];simp only[ex,AJ,hb,ho1,if_true];have key:(BF m b oo (du tm x) fun m'=>k undef m' df)=k v m' df:=by
      unfold BF
      split at e
      ·rename_i H5;simp only[H5]
       split at e
       ·rename_i hh;rw[bC hh]
        split at e
        ·rename_i hd;cases e;simp only[hd]
        ·cases e
       ·cases e
      ·cases e
     revert key
     cases hx:du tm x<;>first |exact id|exact absurd hx (hna _)
   ·cases hg
  ·cases hg
 ·rename_i hn;simp only[hn]at hg;cases hg
theorem zw {s:aM}{p:bX}{i:Nat}{f:lO}{g:DY R}(hf:pT P o s (ex p) i=some f)(hg:wy P s (ex p) i=some g):wP f g:=by
 intro cl tm m K r h;unfold pT at hf;unfold wy at hg
 split at hg
 ·rename_i fields hu;simp only[hu]at hf
  split at hg
  ·rename_i fd hfd;simp only[hfd]at hf
   split at hg
   ·rename_i n hs;simp only[hs]at hf;cases hf;cases hg;obtain⟨b,oo,hp,h⟩:=u7 h;refine⟨_,_,fun df k=>?_,h⟩;unfold Ns;rw[hp];rfl
   ·cases hg
  ·cases hg
 ·cases hg
theorem zg {t:aM}{x i:bX}{f:lO}{g:DY R}(hf:pL P o t (ex x) (ex i)=some f)(hg:wm P t (ex x) (ex i)=some g):wP f g:=by
 intro cl tm m K r h;unfold pL at hf;unfold wm at hg
 split at hg
 ·rename_i e hu;simp only[hu]at hf
  split at hg
  ·rename_i s hs;simp only[hs]at hf;cases hf;cases hg;simp only[ex]at h
   split at h
   ·rename_i b oo len c hx
    split at h
    ·rename_i kk n hi;obtain⟨j,rfl,hb,h⟩:=HB h;refine⟨_,_,fun df k=>?_,h⟩;unfold Ha Qo;simp only[ex,hx,hi,hb,if_true]
    ·cases h
   ·cases h
  ·cases hg
 ·rename_i len e hu;simp only[hu]at hf
  split at hg
  ·rename_i s hs;simp only[hs]at hf;cases hf;cases hg;obtain⟨b,oo,hp,h⟩:=u7 h;simp only[ex]at h
   split at h
   ·rename_i kk n hi;obtain⟨j,rfl,hb,h⟩:=HB h;refine⟨_,_,fun df k=>?_,h⟩;unfold Hc Qo AJ;rw[hp];simp only[ex,hi,hb,if_true]
   ·cases h
  ·cases hg
 ·cases hg
theorem F7:∀{l:List UInt8}{i:Nat},i<l.length->∃b,wI l i=some b
 | [],i,h=>by simp at h
 |b::l,0,h=>⟨b,rfl⟩
 |b::l,i+1,h=>F7 (l:=l) (by simpa using h)
theorem G9 {t:aM}{x i:bX}{f:lO}{g:DY R}(ho:o.op= .index t x i)(hf:CA P o t (ex x) (ex i)=some f)(hg:Mm P t (ex x) (ex i)=some g):wP f g:=by
 intro cl tm m K r h;unfold CA at hf;unfold Mm at hg
 split at hf
 ·rename_i hu;simp only[hu]at hg;cases hf;cases hg;simp only[ex]at h
  split at h
  ·rename_i s hx
   split at h
   ·rename_i kk n hi;obtain⟨j,rfl,hb,h⟩:=HB h;rw[kl,jQ]at hb;obtain⟨bb,nC⟩:=F7 (l:=s.data.toList) (i:=j) (by simpa using hb);refine⟨_,_,fun df k=>?_,h⟩;unfold VV Au;simp only[ex,hx,hi,nC]
   ·cases h
  ·cases h
 ·rename_i hn
  split at hg
  ·rename_i hu;exact absurd hu hn
  ·cases hf;cases hg;obtain⟨v,e,h⟩:=yg h;refine⟨_,_,gP ?_,h⟩;unfold dx;rw[ho];simp only[ex]at e;simp only[e]
theorem Mc {t:aM}{x:bX}{f:lO}{g:DY R}(hf:Un P o t (ex x)=some f)(hg:acQ P t (ex x)=some g):wP f g:=by
 intro cl tm m K r h;unfold Un at hf;unfold acQ at hg
 split at hg
 ·rename_i hu;simp only[hu]at hf;cases hf;cases hg;simp only[ex]at h
  split at h
  ·rename_i s hx;refine⟨_,_,fun df k=>?_,h⟩;unfold Md;simp only[ex,hx]
  ·cases h
 ·rename_i e hu;simp only[hu]at hf;cases hf;cases hg;simp only[ex]at h
  split at h
  ·rename_i s n c hx;refine⟨_,_,fun df k=>?_,h⟩;unfold Um;simp only[ex,hx]
  ·cases h
 ·cases hg
theorem L1 {oe:Bool}{x y:bX}:wP (L2 P o oe (ex x) (ex y)) (T4 (R:=R) oe (ex x) (ex y)):=by
 intro cl tm m K r h;unfold T4 at h;simp only[ex]at h
 split at h
 ·rename_i a i hx
  split at h
  ·rename_i b j hy;refine⟨_,_,fun df k=>?_,h⟩;unfold L2 RE;simp only[ex,hx,hy];cases gB j i<;>cases oe<;>rfl
  ·cases h
 ·cases h
theorem iz {f:Tm->Mem->Option (ae×Mem)}(hf:∀tm m,f tm m=dx P (du tm) o m):wP (jC P o) (Cg (R:=R) f):=by
 intro cl tm m K r h;obtain⟨v,m',e,h⟩:=j4 h;exact⟨v,m',gP (by rw[<-hf];exact e),h⟩
end
end Go.AM
namespace Go.AM
open Go
section
variable {R:Type}{P:aD}{o:gU}
theorem LR {ev:bX->ae}{m:Mem}{v:ae}(h:dc P ev o=some v)(hk:(∃op t x,o.op= .unOp op t x)\/(∃s d x a b,o.op= .convert s d x/\P.underlying s=some (.int a)/\P.underlying d=some (.int b))\/(∃t x lo hi s,o.op= .slice t x lo hi none/\ev x= .string s)):dx P ev o m=some (v,m):=by
 unfold dx;rcases hk with⟨op,t,x,ho⟩|⟨s,d,x,a,b,ho,h1,h2⟩|⟨t,x,lo,hi,s,ho,hs⟩
 ·rw[ho];simp only[h,cN]
 ·rw[ho];simp only[];have e:fN P s d (ev x) m=none:=by
   unfold fN;rw[h1,h2]
  rw[e,h];rfl
 ·rw[ho];simp only[];have e:jb P t (ev x) (lo.map ev) (hi.map ev) m=none:=by
   unfold jb;rw[hs]
   split<;>first |rfl|(rename_i h;cases h)
  rw[e,h];rfl
theorem MK {g:DY R}(hg:Vw P o=some g):wP (jC P o) g:=by
 unfold Vw at hg
 split at hg
 ·rename_i op t x ho;cases hg;intro cl tm m K r h;obtain⟨v,e,h⟩:=kY h;obtain⟨h1,h2,h3⟩:=N2 e;refine⟨_,_,gP (LR (ix (by rw[ho];simpa[Op.operands]using h1) ?_ h3) (.inl ⟨_,_,_,ho⟩)),h⟩;unfold execOp;rw[ho];exact ny h2
 ·rename_i t ps ho
  split at hg
  ·cases hg;intro cl tm m K r h;obtain⟨v,e,h⟩:=kY h;refine⟨_,_,gP ?_,h⟩;unfold dx;rw[ho];simp only[e];rfl
  ·cases hg;intro cl tm m K r h;obtain⟨v,e,h⟩:=yg h;refine⟨_,_,gP ?_,h⟩;unfold dx;rw[ho];simp only[e];rfl
 ·rename_i t n ps ho;cases hg;exact iz fun tm m=>by unfold dx;rw[ho]
 ·rename_i s d x ho;cases hg;intro cl tm m K r h
  dsimp only at h
  split at h
  ·rename_i a b hs hd;obtain⟨v,e,h⟩:=kY h;obtain⟨h1,h2,h3⟩:=N2 e;refine⟨_,_,gP (LR (ix (by rw[ho];simpa[Op.operands]using h1) ?_ h3) (.inr (.inl ⟨_,_,_,_,_,ho,hs,hd⟩))),h⟩;unfold execOp;rw[ho];exact ny h2
  ·obtain⟨v,m',e,h⟩:=j4 h;refine⟨v,m',gP ?_,h⟩;unfold dx;rw[ho];simp only[e]
 ·rename_i t x ho
  split at hg
  ·cases hg
  ·rename_i d hu hn;cases hg;intro cl tm m K r h;refine⟨_,_,gP ?_,h⟩;unfold dx;rw[ho];simp only[]
   split
   ·rename_i ms QI;rw[hn]at QI;exact absurd QI (by intro e;cases e;exact hu _ rfl)
   ·rfl
   ·rename_i QI;rw[hn]at QI;cases QI
  ·cases hg
 ·rename_i fn f c ho;cases hg;intro cl tm m K r h;refine⟨_,_,gP ?_,h⟩;unfold dx;rw[ho]
 ·rename_i t ho;cases hg;exact iz fun tm m=>by unfold dx xH;rw[ho]
 ·rename_i t l c ho;cases hg;exact iz fun tm m=>by unfold dx;rw[ho]
 ·rename_i t x lo hi ho;cases hg;intro cl tm m K r h
  dsimp only at h
  split at h
  ·rename_i s hs;obtain⟨v,e,h⟩:=kY h;obtain⟨h1,h2,h3⟩:=N2 e;refine⟨_,_,gP (LR (ix ?_ ?_ h3) (.inr (.inr ⟨_,_,_,_,_,ho,hs⟩))),h⟩
   ·rw[ho];simp only[Op.operands];cases lo<;>cases hi<;>simpa[hs]using h1
   ·unfold execOp;rw[ho];simp only[hs];exact ny h2
  ·obtain⟨v,m',e,h⟩:=j4 h;refine⟨v,m',gP ?_,h⟩;unfold nZ at e
   split at e
   ·rename_i v' hv;cases e;unfold dx;rw[ho];simp only[hv]
   ·cases e
 ·rename_i s x f ho;cases hg;intro cl tm m K r h;obtain⟨v,e,h⟩:=yg h;refine⟨_,_,gP ?_,h⟩;unfold dx;rw[ho];simp only[e];rfl
 ·rename_i t x i ok ho;cases hg;exact iz fun tm m=>by
   unfold dx oL;rw[ho];simp only[];cases gH P t (du tm x) (du tm i) ok m<;>rfl
 ·rename_i t x i v ho;cases hg;exact iz fun tm m=>by
   unfold dx y7;rw[ho];simp only[];cases jf P t (du tm x) (du tm i) (du tm v) m<;>rfl
 ·rename_i x t a ok ho;cases hg;intro cl tm m K r h;obtain⟨v,e,h⟩:=yg h;refine⟨_,_,gP ?_,h⟩;unfold dx;rw[ho];simp only[e];rfl
 ·rename_i t x ho;cases hg;exact iz fun tm m=>by unfold dx;rw[ho]
 ·rename_i it s ho;cases hg;exact iz fun tm m=>by unfold dx;rw[ho]
 ·rename_i b args lB ho
  split at hg
  ·rename_i s x ha;cases hg;exact iz fun tm m=>by unfold dx;rw[ho];simp only[ha]
  ·rename_i s x ha;cases hg;exact iz fun tm m=>by unfold dx;rw[ho];simp only[ha]
  ·rename_i x ha;cases hg;exact iz fun tm m=>by unfold dx;rw[ho];simp only[ha]
  ·cases hg
 ·cases hg
theorem Qb {f:lO}{g:DY R}(hf:ij P o=some f)(hg:yZ P o=some g):wP f g:=by
 have last:ij P o=some (jC P o)->yZ (R:=R) P o=Vw P o->wP f g:=fun h1 h2=>by
  rw[h1]at hf;cases hf;rw[h2]at hg;exact MK hg
 cases ho:o.op with
 |move x=>
  unfold ij at hf;unfold yZ at hg;simp only[ho]at hf hg;have hf:=aK hf;have hg:=aK hg;cases hf;cases hg;exact fun cl tm m K r h=>⟨_,_,fun _ _=>rfl,h⟩
 |assign x=>
  unfold ij at hf;unfold yZ at hg;simp only[ho]at hf hg;have hf:=aK hf;have hg:=aK hg;cases hf;cases hg;exact fun cl tm m K r h=>⟨_,_,fun _ _=>rfl,h⟩
 |pick c x y=>
  unfold ij at hf;unfold yZ at hg;simp only[ho]at hf hg;have hf:=aK (aK (aK hf));have hg:=aK (aK (aK hg));cases hf;cases hg;intro cl tm m K r h;obtain⟨b,hb,h⟩:=Dc h;cases b with
  |true=>exact⟨_,_,fun _ _=>by unfold IZ;simp only[hb],h⟩
  |false=>exact⟨_,_,fun _ _=>by unfold IZ;simp only[hb],h⟩
 |binOp op t x y u=>
  unfold ij at hf;unfold yZ at hg;simp only[ho]at hf hg;have hf:=aK (aK hf);have hg:=aK (aK hg);cases hg;exact Nk ho hf
 |load t x=>
  unfold ij at hf;unfold yZ at hg;simp only[ho]at hf hg;exact Jk (aK hf) (aK hg)
 |store t p x=>
  unfold ij at hf;unfold yZ at hg;simp only[ho]at hf hg;exact Gt (aK (aK hf)) (aK (aK hg))
 |fieldAddr s p i=>
  unfold ij at hf;unfold yZ at hg;simp only[ho]at hf hg;exact zw (aK hf) (aK hg)
 |indexAddr t x i=>
  unfold ij at hf;unfold yZ at hg;simp only[ho]at hf hg;exact zg (aK (aK hf)) (aK (aK hg))
 |index t x i=>
  unfold ij at hf;unfold yZ at hg;simp only[ho]at hf hg;exact G9 ho (aK (aK hf)) (aK (aK hg))
 |extract x i=>
  unfold ij at hf;unfold yZ at hg;simp only[ho]at hf hg;have hf:=aK hf;have hg:=aK hg;cases hf;cases hg;intro cl tm m K r h
  dsimp only at h
  split at h
  ·rename_i vs hx;obtain⟨v,e,h⟩:=yg h;exact⟨_,_,fun _ _=>by unfold x9;simp only[hx,e],h⟩
  ·cases h
 |unOp op t x=>
  cases op with
  |not=>
   unfold ij at hf;unfold yZ at hg;simp only[ho]at hf hg;have hf:=aK hf;have hg:=aK hg;cases hf;cases hg;intro cl tm m K r h
   dsimp only at h
   split at h
   ·rename_i b hx;exact⟨_,_,fun _ _=>by unfold Yf;simp only[hx],h⟩
   ·cases h
  |_=>exact last (by unfold ij;rw[ho]) (by unfold yZ;rw[ho])
 |nilCheck x=>
  unfold ij at hf;unfold yZ at hg;simp only[ho]at hf hg;have hf:=aK hf;have hg:=aK hg;cases hf;cases hg;intro cl tm m K r h
  dsimp only at h
  split at h
  ·rename_i a hx;exact⟨_,_,fun _ _=>by unfold TR;simp only[hx],h⟩
  ·rename_i name first cap hx
   obtain⟨v,e,h⟩:=kY h;refine⟨v,m,fun df k=>?_,h⟩;have dq:dx P (du tm) o m=some (v,m):=by
    unfold dx;rw[ho];simp only[hx];unfold uY at e
    split at e
    ·rename_i r' hr;simp only[hr]
     split at e
     ·rename_i hs;cases e;rw[bC hs]
     ·cases e
    ·cases e
   unfold TR;simp only[hx];exact gP dq df k
  ·cases h
 |alloc e=>
  unfold ij at hf;unfold yZ at hg;simp only[ho]at hf hg
  split at hf
  ·rename_i z hz;simp only[hz]at hg;cases hf;cases hg;intro cl tm m K r h;obtain⟨v,m',e,h⟩:=j4 h;cases e;exact⟨_,_,fun _ _=>rfl,h⟩
  ·cases hf
 |box e x=>
  unfold ij at hf;unfold yZ at hg;simp only[ho]at hf hg;have hf:=aK hf;have hg:=aK hg;cases hf;cases hg;intro cl tm m K r h;obtain⟨v,m',e,h⟩:=j4 h;cases e;exact⟨_,_,fun _ _=>rfl,h⟩
 |call c=>
  obtain⟨callee,args,lB⟩:=c;cases callee with
  |value x=>
   have main:(∃f',x= .func f')\/(∀f',x≠ .func f'):=by
    cases x with
    |func f'=>exact .inl ⟨_,rfl⟩
    |_=>exact .inr fun _ h=>by cases h
   rcases main with⟨f',rfl⟩|hnf
   ·unfold ij at hf;unfold yZ at hg;simp only[ho]at hf hg;obtain⟨os,hf,CF⟩:=fD hf;obtain⟨os',hg,Mu⟩:=fD hg;cases hf;cases hg;intro cl tm m K r h;unfold den at h
    split at h
    ·rename_i v m' hc;refine⟨v,m',fun df k=>?_,h⟩;unfold VT;rw[CF,<-Mu,hc];rfl
    ·cases h
   ·have AT:(eG x fun x=>sX args.toList fun xs=>some (Kl x xs))=some f:=by
     unfold ij at hf;simp only[ho]at hf;cases x with
     |func f'=>exact absurd rfl (hnf f')
     |_=>exact hf
    have Hg:(eG x fun x=>sX args.toList fun xs=>some fun tm k=>T.gD (x tm) (KV xs tm) k)=some g:=by
     unfold yZ at hg;simp only[ho]at hg;cases x with
     |func f'=>exact absurd rfl (hnf f')
     |_=>exact hg
    obtain⟨os,hf,CF⟩:=fD (aK AT);obtain⟨os',hg,Mu⟩:=fD (aK Hg);cases hf;cases hg;intro cl tm m K r h;unfold den at h
    split at h
    ·rename_i ff first cap hx
     split at h
     ·rename_i v m' hc;refine⟨v,m',fun df k=>?_,h⟩;unfold Kl;simp only[hx];rw[CF,<-Mu,hc];rfl
     ·cases h
    ·cases h
  |invoke rc name=>
   unfold ij at hf;unfold yZ at hg;simp only[ho]at hf hg;obtain⟨os,hf,CF⟩:=fD (aK hf);obtain⟨os',hg,Mu⟩:=fD (aK hg);cases hf;cases hg;intro cl tm m K r h;unfold den at h
   split at h
   ·rename_i ff recv hx
    split at h
    ·rename_i v m' hc;refine⟨v,m',fun df k=>?_,h⟩;unfold Pq;simp only[hx];rw[CF,<-Mu,hc];rfl
    ·cases h
   ·cases h
  |builtin b=>
   have ahI:∀oe,(match args.toList with | [x,y]=>eG x fun x=>eG y fun y=>some (L2 P o oe x y)|_=>some (jC P o))=some f->(match args.toList with | [x,y]=>eG x fun x=>eG y fun y=>some (T4 oe x y)|_=>none)=some g->wP f g:=by
    intro oe hf hg
    split at hg
    ·rename_i x y ha;simp only[ha]at hf;have hf:=aK (aK hf);have hg:=aK (aK hg);cases hf;cases hg;exact L1
    ·cases hg
   cases b with
   |min=>unfold ij at hf;unfold yZ at hg;simp only[ho]at hf hg;exact ahI false hf hg
   |max=>unfold ij at hf;unfold yZ at hg;simp only[ho]at hf hg;exact ahI true hf hg
   |len=>
    unfold ij at hf;unfold yZ at hg;simp only[ho]at hf hg
    split at hg
    ·rename_i x t l ha ht;simp only[ha,ht]at hf;exact Mc (aK hf) (aK hg)
    ·cases hg
   |_=>exact last (by unfold ij;rw[ho]) (by unfold yZ;rw[ho])
 |defer c=>
  unfold yZ Vw at hg;simp only[ho]at hg;cases hg
 |_=>exact last (by unfold ij;rw[ho]) (by unfold yZ;rw[ho])
end
end Go.AM
namespace Go.AM
open Go
section
variable {R:Type}
abbrev RC (R:Type):=(Tm->Df->T R)->Tm->Df->T R
def CP (g:kC)(want:Bool)(yes no:RC R):RC R:=fun K tm df=>match g tm with
 | .bool b=> .cond (.bool b) fun b=>match b with
  |true=>match want with |true=>yes K tm df|false=>no K tm df
  |false=>match want with |true=>no K tm df|false=>yes K tm df
 |_=>no K tm df
def acu (P:aD)(ops:Array gU)(i:Nat)(rest:RC R):Option (RC R):=
 match ops[i]? with
 |none=>none
 |some o=>match o.op with
  | .defer {callee:= .value x,args,.. }=>match o.guard with
   |none=>match o.dst with
    |none=>eG x fun x=>sX args.toList fun xs=>some fun K tm df=>(match x tm with
     | .func (.func f) first cap=>rest K tm ((f,first.toList++KV xs tm++cap.toList)::df)
     |_=> .fail)
    |some _=>none
   |some _=>none
  |_=>match yZ P o with
   |none=>none
   |some op=>match o.guard with
    |none=>match o.dst with
     |some d=>Gq d fun _ p=>some fun K tm df=>op tm fun v=>rest K (p v tm) df
     |none=>some fun K tm df=>op tm fun _=>rest K tm df
    |some (j,want)=>match(ops[j]?).bind (·.dst)with
     |some g=>Gq g fun gx _=>match o.dst with
      |some d=>Gq d fun _ p=>some (CP gx want (fun K tm df=>op tm fun v=>rest K (p v tm) df) fun K tm df=>rest K (p undef tm) df)
      |none=>some (CP gx want (fun K tm df=>op tm fun _=>rest K tm df) rest)
     |none=>none
def gk (v:ae)(m:Mem):Option (ae×Mem):=some (jB m v,m)
def zZ (m:Mem):Option (ae×Mem):=match m.pend with | []=>some (undef,m)|_=>none
def cZ (saved v:ae)(look:Mem->Bool)(m:Mem):Option (ae×Mem):=match xx saved (jB m v)&&look m with |true=>some (undef,m)|false=>none
def pS (v:ae)(m:Mem):Bool:=match mY v with |some b=>Nat.ble m.floor b|none=>true
def Ue (P:aD)(o:gU)(tm:Tm):Mem->Bool:=
 match o.op with
 | .load t a=>fun m=>(j9 P t (du tm a) m).isSome
 | .lookup t x i ok=>fun m=>(gH P t (du tm x) (du tm i) ok m).isSome
 | .slice t x lo hi none=>fun m=>(jb P t (du tm x) (lo.map (du tm)) (hi.map (du tm)) m).isSome
 | .slice _ _ _ _ (some _)=>fun _=>false
 |_=>pS (du tm (match mC o with |some x=>x|none=> .const undef))
def NA (ops:Array gU)(o:gU)(yes no:RC R):Option (RC R):=
 match o.guard with
 |none=>some yes
 |some (j,want)=>match(ops[j]?).bind (·.dst)with
  |some g=>some (CP (cY g) want yes no)
  |none=>some no
def So (P:aD)(ops:Array gU)(t:ni)(rest:RC R):Option (RC R):=
 match t with
 |(0,i,slot)=>match acu P ops i rest with
  |some f=>some (match slot with |0=>f|_=>fun K tm df=> .mem zZ fun _=>f K tm df)
  |none=>none
 |(1,i,slot)=>match ops[i]? with
  |some o=>match mC o with
   |some x=>NA ops o (fun K tm df=> .mem (gk (du tm x)) fun v=>rest K (tJ slot v tm) df) (fun K tm df=>rest K (tJ slot undef tm) df)
   |none=>none
  |none=>none
 |(_,i,slot)=>match ops[i]? with
  |some o=>match mC o with
   |some x=>NA ops o (fun K tm df=> .mem (cZ (cY slot tm) (du tm x) (Ue P o tm)) fun _=>rest K tm df) rest
   |none=>none
  |none=>none
def yM (P:aD)(ops:Array gU):List ni->Option (RC R)
 | []=>some fun K=>K
 |t::l=>match yM P ops l with
  |some rest=>So P ops t rest
  |none=>none
abbrev KT (R:Type):=Exit->Tm->Df->T R
abbrev CT (R:Type):=KT R->Tm->Df->T R
def ae3 (a b:CT R):CT R:=fun K=>a fun e tm df=>match e with
 | .normal=>b K tm df
 |e=>K e tm df
def aio (x:kC)(a b:CT R):CT R:=fun K tm df=> .cond (x tm) fun c=>match c with |true=>a K tm df|false=>b K tm df
def ad6 (id:Nat)(a:CT R):CT R:=fun K=>a fun e tm df=>match e with
 | .exit j=>match Nat.beq j id with |true=>K .normal tm df|false=>K (.exit j) tm df
 |e=>K e tm df
def Jh (a:CT R):Nat->CT R
 |0=>fun _ _ _=> .fail
 |n+1=>fun K=>a fun e tm df=>match e with
  | .normal=>Jh a n K tm df
  |e=>K e tm df
def oC (P:aD)(nt:Nat):Nat->Code->Option (CT R)
 |0,_=>none
 |n+1,c=>match c with
  | .skip=>some fun K=>K .normal
  | .label _=>some fun K=>K .normal
  | .seq a b=>match oC P nt n a with
   |some a=>match oC P nt n b with
    |some b=>some (ae3 a b)
    |none=>none
   |none=>none
  | .cond x a b=>match oC P nt n a with
   |some a=>match oC P nt n b with
    |some b=>eG x fun x=>some (aio x a b)
    |none=>none
   |none=>none
  | .block id b=>match oC P nt n b with
   |some b=>some (ad6 id b)
   |none=>none
  | .loop b=>match oC P nt n b with
   |some b=>some (Jh b 100000)
   |none=>none
  | .exit id=>some fun K=>K (.exit id)
  | .ret=>some fun K=>K .ret
  | .goto l=>some fun K=>K (.goto l)
  | .region _ ops draw=>match draw with
   |true=>match VG ops nt with
    |some l=>match yM (R:=R) P ops l with
     |some f=>some fun K=>f (K .normal)
     |none=>none
    |none=>none
   |false=>match yM (R:=R) P ops ((List.range ops.size).map fun i=>(0,i,0))with
    |some f=>some fun K=>f (K .normal)
    |none=>none
  | .scope b=>match oC P nt n b with
   |some g=>some fun K=>g fun e tm df=>match e with
    | .goto _=> .fail
    |e=>K e tm df
   |none=>none
  |_=>none
def oA (P:aD)(t:aM)(p:ae)(m:Mem):Option (ae×Mem):=match j9 P t p m with |some v=>some (v,m)|none=>none
def IK (P:aD)(nt:Nat)(tm:Tm):List ResultVar->(List ae->T R)->T R
 | [],k=>k []
 | .tmp t::l,k=>match Nat.blt t nt with |true=>IK P nt tm l fun vs=>k (cY t tm::vs)|false=> .fail
 | .cell a t::l,k=>match Nat.blt a nt with |true=> .mem (oA P t (cY a tm)) fun v=>IK P nt tm l fun vs=>k (v::vs)|false=> .fail
def u9 (P:aD)(X:Ext):Df->T R->T R
 | [],k=>k
 |(f,args)::ds,k=>match dM P f&& !(Nat.beq f X.K'||Nat.beq f X.vR)with
  |true=> .call f args fun _=>u9 P X ds k
  |false=> .fail
def aa1 (P:aD)(X:Ext)(nt:Nat)(rs:List ResultVar)(g:CT ae)(args:List ae):T ae:=
 match Nat.ble args.length nt with
 |true=>match Ea args with
  |some tm=>g (fun e tm df=>match e with
   | .normal=>u9 P X df (IK P nt tm rs fun vs=>match vs with | [v]=> .done v|vs=> .done (.tuple vs.toArray))
   | .ret=>u9 P X df (IK P nt tm rs fun vs=>match vs with | [v]=> .done v|vs=> .done (.tuple vs.toArray))
   |_=> .fail) tm []
  |none=> .fail
 |false=> .fail
def Zh (P:aD)(X:Ext)(f:Nat)(args:List ae):T ae:=
 match P.funcs[f]? with
 |some fn=>match fn.body with
  |some c=>match oC P fn.ntmps 1000 c with
   |some g=>aa1 P X fn.ntmps fn.results.toList g args
   |none=> .fail
  |none=> .fail
 |none=> .fail
end
end Go.AM
namespace Go.AM
open Go
section
variable {R:Type}{P:aD}
def wO (f:iE)(g:RC R):Prop:=
 ∀(cl:cB) (K:Tm->Df->T R) (tm:Tm) (df:Df) (m:Mem) (r:R×Mem),den cl (g K tm df) m=some r->∃st,f cl tm m df=some st/\den cl (K st.tm st.df) st.mem=some r
theorem sG {g:kC}{want:Bool}{yes no:RC R}{f fy fn:iE}(hy:wO fy yes)(hn:wO fn no)
  (h1:∀cl tm m df,g tm= .bool want->f cl tm m df=fy cl tm m df)(h2:∀cl tm m df,g tm≠ .bool want->f cl tm m df=fn cl tm m df):wO f (CP g want yes no):=by
 intro cl K tm df m r h;unfold CP at h
 split at h
 ·rename_i b hb;obtain⟨b',e,h⟩:=Dc h;cases e
  by_cases hw:b=want
  ·subst hw;rw[h1 _ _ _ _ hb];refine hy _ _ _ _ _ _ ?_
   revert h;cases b<;>exact id
  ·rw[h2 _ _ _ _ (by rw[hb];intro e;cases e;exact hw rfl)];refine hn _ _ _ _ _ _ ?_
   revert h
   cases b<;>cases want<;>first |exact absurd rfl hw|exact id
 ·rename_i hb;rw[h2 _ _ _ _ (hb _)];exact hn _ _ _ _ _ _ h
theorem BG {op:lO}{t:DY R}{p:Put}{rest:iE}{rt:RC R}(ho:wP op t)(hr:wO rest rt):wO (NM p op rest) fun K tm df=>t tm fun v=>rt K (p v tm) df:=by
 intro cl K tm df m r h;obtain⟨v,m',e,h⟩:=ho _ _ _ _ _ h;obtain⟨st,e2,h⟩:=hr _ _ _ _ _ _ h;exact⟨st,by unfold NM;rw[e];exact e2,h⟩
theorem zR {op:lO}{t:DY R}{rest:iE}{rt:RC R}(ho:wP op t)(hr:wO rest rt):wO (Iu op rest) fun K tm df=>t tm fun _=>rt K tm df:=by
 intro cl K tm df m r h;obtain⟨v,m',e,h⟩:=ho _ _ _ _ _ h;obtain⟨st,e2,h⟩:=hr _ _ _ _ _ _ h;exact⟨st,by unfold Iu;rw[e];exact e2,h⟩
theorem LU {nt i:Nat}{ops:Array gU}{rest f:iE}{rt g:RC R}(hf:Ty P nt ops i rest=some f)(hg:acu P ops i rt=some g)(hr:wO rest rt):wO f g:=by
 unfold Ty at hf;unfold acu at hg
 split at hg
 ·cases hg
 ·rename_i o ho;rw[ho]at hf;simp only[]at hf
  split at hf
  ·split at hf
   ·cases hf
   ·rename_i op dq
    split at hg
    ·rename_i x args lB hd
     split at hg
     ·rename_i U7
      split at hg
      ·rename_i ady;simp only[U7,ady]at hf;cases hf;obtain⟨os',hg,Mu⟩:=fD (aK hg);cases hg;unfold ij at dq;simp only[hd]at dq;obtain⟨os,dq,CF⟩:=fD (aK dq);cases dq;intro cl K tm df m r h
       dsimp only at h
       split at h
       ·rename_i ff first cap hx
        obtain⟨st,e2,h⟩:=hr _ _ _ _ _ _ h;refine⟨st,?_,h⟩;unfold Iu HE noK;simp only[hx];rw[CF,<-Mu];exact e2
       ·cases h
      ·cases hg
     ·cases hg
    ·split at hg
     ·cases hg
     ·rename_i t ht;have h1:=Qb dq ht
      split at hg
      ·rename_i U7;simp only[U7]at hf
       split at hg
       ·rename_i d hd;simp only[hd]at hf;have hf:=(ju hf).2;have hg:=(ju hg).2;cases hf;cases hg;exact BG h1 hr
       ·rename_i hd;simp only[hd]at hf;cases hf;cases hg;exact zR h1 hr
      ·rename_i j want U7;simp only[U7]at hf
       split at hg
       ·rename_i gg hgg;simp only[hgg]at hf
        split at hf
        ·have hf:=(ju hf).2;have hg:=(ju hg).2
         split at hg
         ·rename_i d hd;simp only[hd]at hf;have hf:=(ju hf).2;have hg:=(ju hg).2;cases hf;cases hg;refine sG (BG h1 hr) (fn:=fun cl tm m df=>rest cl (tJ d undef tm) m df) (fun cl K tm df m r h=>hr _ _ _ _ _ _ h) ?_ ?_
          ·intro cl tm m df hb;unfold Hn NM;cases want<;>simp only[hb]<;>rfl
          ·intro cl tm m df hb;unfold Hn
           split
           ·cases want with
            |true=>exact absurd ‹cY gg tm=_› hb
            |false=>rfl
           ·cases want with
            |true=>rfl
            |false=>exact absurd ‹cY gg tm=_› hb
           ·rfl
         ·rename_i hd;simp only[hd]at hf;cases hf;cases hg;refine sG (zR h1 hr) hr ?_ ?_
          ·intro cl tm m df hb;unfold Hm Iu;cases want<;>simp only[hb]<;>rfl
          ·intro cl tm m df hb;unfold Hm
           split
           ·cases want with
            |true=>exact absurd ‹cY gg tm=_› hb
            |false=>rfl
           ·cases want with
            |true=>rfl
            |false=>exact absurd ‹cY gg tm=_› hb
           ·rfl
        ·cases hf
       ·cases hg
  ·cases hf
theorem zL {ops:Array gU}{o:gU}{yes no g:RC R}{f fy fn:iE}(hg:NA ops o yes no=some g)(hy:wO fy yes)(hn:wO fn no)
  (h1:∀cl tm m df,cP ops o tm=true->f cl tm m df=fy cl tm m df)(h2:∀cl tm m df,cP ops o tm=false->f cl tm m df=fn cl tm m df):wO f g:=by
 unfold NA at hg
 split at hg
 ·rename_i U7;cases hg;intro cl K tm df m r h;rw[h1 _ _ _ _ (by unfold cP;rw[U7])];exact hy _ _ _ _ _ _ h
 ·rename_i j want U7
  split at hg
  ·rename_i gg hgg;cases hg;refine sG hy hn (fun cl tm m df hb=>h1 _ _ _ _ ?_) fun cl tm m df hb=>h2 _ _ _ _ ?_
   ·unfold cP;simp only[U7,hgg,hb];simp
   ·unfold cP;simp only[U7,hgg]
    split
    ·rename_i b e;rw[e]at hb;cases b<;>cases want<;>first |rfl|exact absurd rfl hb
    ·rfl
  ·rename_i hgg;cases hg;intro cl K tm df m r h;rw[h2 _ _ _ _ (by unfold cP;simp only[U7,hgg])];exact hn _ _ _ _ _ _ h
theorem Jj {o:gU}{x:bX}(hx:mC o=some x){tm:Tm}{m:Mem}(h:Ue P o tm m=true):(if looks o then(dx P (du tm) o m).isSome else match mY (du tm x)with |some b=>Nat.ble m.floor b|none=>true)=true:=by
 unfold Ue at h;cases ho:o.op with
 |load t a=>
  simp only[ho]at h;have :looks o=true:=by unfold looks;rw[ho]
  rw[bC this];unfold dx;rw[ho];simp only[Option.isSome_map];exact h
 |lookup t y i ok=>
  simp only[ho]at h;have :looks o=true:=by unfold looks;rw[ho]
  rw[bC this];unfold dx;rw[ho];simp only[Option.isSome_map];exact h
 |slice t y lo hi mx=>
  cases mx with
  |some _=>simp only[ho]at h;cases h
  |none=>
   simp only[ho]at h;have :looks o=true:=by unfold looks;rw[ho]
   rw[bC this];unfold dx;rw[ho];simp only[];cases hs:jb P t (du tm y) (lo.map (du tm)) (hi.map (du tm)) m with
   |none=>rw[hs]at h;cases h
   |some v=>rfl
 |_=>
  have :looks o=false:=by unfold looks;rw[ho]
  rw[this,bS eS];simp only[ho,hx,pS]at h;exact h
theorem Im {nt:Nat}{ops:Array gU}{t:ni}{rest f:iE}{rt g:RC R}(hf:zO P nt ops t rest=some f)(hg:So P ops t rt=some g)(hr:wO rest rt):wO f g:=by
 unfold zO at hf;unfold So at hg
 split at hg
 ·rename_i i slot;simp only[]at hf
  split at hg
  ·rename_i g' Hg
   split at hf
   ·rename_i f' AT;have h1:=LU AT Hg hr;cases hf;cases hg;cases slot with
    |zero=>exact h1
    |succ slot=>
     intro cl K tm df m r h;obtain⟨v,m',e,h⟩:=j4 h;unfold zZ at e
     split at e
     ·rename_i hp;cases e;obtain⟨st,e2,h⟩:=h1 _ _ _ _ _ _ h;refine⟨st,?_,h⟩;simp only[N5,hp];exact e2
     ·cases e
   ·cases hf
  ·cases hg
 ·rename_i i slot;simp only[]at hf
  split at hg
  ·rename_i o ho;simp only[ho]at hf
   split at hg
   ·rename_i x hx;simp only[hx]at hf
    split at hf
    ·cases hf;refine zL hg (fy:=fun cl tm m df=>rest cl (tJ slot (jB m (du tm x)) tm) m df) (fn:=fun cl tm m df=>rest cl (tJ slot undef tm) m df) ?_ (fun cl K tm df m r h=>hr _ _ _ _ _ _ h) ?_ ?_
     ·intro cl K tm df m r h;obtain⟨v,m',e,h⟩:=j4 h;cases e;exact hr _ _ _ _ _ _ h
     ·intro cl tm m df hw;unfold SN;rw[bC hw]
     ·intro cl tm m df hw;unfold SN;rw[bS (by rw[hw];decide)]
    ·cases hf
   ·cases hg
  ·cases hg
 ·rename_i c i slot h0 h1;have hf:(match ops[i]? with |some o=>(match mC o with |some x=>some (sI P ops o x slot rest)|none=>none)|none=>none)=some f:=by
   revert hf
   cases c with
   |zero=>exact absurd rfl h0
   |succ c=>
    cases c with
    |zero=>exact absurd rfl h1
    |succ c=>exact id
  split at hg
  ·rename_i o ho;simp only[ho]at hf
   split at hg
   ·rename_i x hx;simp only[hx]at hf;cases hf;refine zL hg (fy:=fun cl tm m df=>sI P ops o x slot rest cl tm m df) (fn:=rest) ?_ hr (fun _ _ _ _ _=>rfl) ?_
    ·intro cl K tm df m r h;obtain⟨v,m',e,h⟩:=j4 h;unfold cZ at e
     split at e
     ·rename_i hb;cases e;obtain⟨st,e2,h⟩:=hr _ _ _ _ _ _ h;refine⟨st,?_,h⟩;have hb:=(ag _ _).mp hb;have hl:=Jj hx hb.2
      show sI P ops o x slot rest cl tm m df=some st
      by_cases hw:cP ops o tm=true
      ·unfold sI;simp only[hw,hb.1,if_true,Bool.true_and];exact(bC hl).trans e2
      ·have Mp:sI P ops o x slot rest cl tm m df=rest cl tm m df:=by unfold sI;rw[bS hw]
       rw[Mp];exact e2
     ·cases e
    ·intro cl tm m df hw;unfold sI;rw[bS (by rw[hw];decide)]
   ·cases hg
  ·cases hg
theorem xk {nt:Nat}{ops:Array gU}:∀{l:List ni}{f:iE}{g:RC R},iw P nt ops l=some f->yM P ops l=some g->wO f g
 | [],f,g,hf,hg=>by
  cases hf;cases hg;intro cl K tm df m r h;exact⟨⟨tm,m,df⟩,rfl,h⟩
 |t::l,f,g,hf,hg=>by
  unfold iw at hf;unfold yM at hg
  split at hf
  ·split at hg
   ·exact Im hf hg (xk nV nV)
   ·cases hg
  ·cases hf
end
end Go.AM
namespace Go.AM
open Go
section
variable {R:Type}{P:aD}{X:Ext}
def Wc (f:F)(g:CT R):Prop:=
 ∀(cl:cB) (K:KT R) (tm:Tm) (df:Df) (m:Mem) (r:R×Mem),den cl (g K tm df) m=some r->∃e st,f cl ⟨tm,m,df⟩=some (e,st)/\den cl (K e st.tm st.df) st.mem=some r
theorem Ab {a:F}{b:CT R}(h:Wc a b):∀n,Wc (fun cl st=>xK a cl n st) (Jh b n)
 |0=>by intro cl K tm df m r hd;unfold Jh den at hd;cases hd
 |n+1=>by
  intro cl K tm df m r hd;unfold Jh at hd;obtain⟨e,st,e1,hd⟩:=h _ _ _ _ _ _ hd;unfold xK;simp only[e1];cases e with
  |normal=>exact Ab h n _ _ _ _ _ _ hd
  |_=>exact⟨_,_,rfl,hd⟩
theorem ig {nt:Nat}:∀{n:Nat}{c:Code}{f:F}{g:CT R},comp P nt n c=some f->oC P nt n c=some g->Wc f g
 |0,c,f,g,hf,hg=>by cases hf
 |n+1,c,f,g,hf,hg=>by
  cases c with
  |skip=>cases hf;cases hg;exact fun cl K tm df m r h=>⟨_,_,rfl,h⟩
  |label l=>cases hf;cases hg;exact fun cl K tm df m r h=>⟨_,_,rfl,h⟩
  |seq a b=>
   unfold comp at hf;unfold oC at hg;simp only[]at hf hg
   split at hf
   ·rename_i fa ha
    split at hf
    ·rename_i fb hb
     split at hg
     ·rename_i ga hga
      split at hg
      ·rename_i gb QL;cases hf;cases hg;intro cl K tm df m r h;obtain⟨e,st,e1,h⟩:=ig ha hga _ _ _ _ _ _ h;cases e with
       |normal=>
        obtain⟨e,jX,e2,h⟩:=ig hb QL _ _ _ _ _ _ h;exact⟨e,jX,by unfold oG;rw[e1];exact e2,h⟩
       |_=>exact⟨_,_,by unfold oG;rw[e1],h⟩
      ·cases hg
     ·cases hg
    ·cases hf
   ·cases hf
  |cond x a b=>
   unfold comp at hf;unfold oC at hg;simp only[]at hf hg
   split at hf
   ·split at hf
    ·rename_i fa ha
     split at hf
     ·rename_i fb hb
      split at hg
      ·rename_i ga hga
       split at hg
       ·rename_i gb QL;have hf:=aK hf;have hg:=aK hg;cases hf;cases hg;intro cl K tm df m r h;obtain⟨c,hc,h⟩:=Dc h;unfold VK;simp only[hc];cases c with
        |true=>exact ig ha hga _ _ _ _ _ _ h
        |false=>exact ig hb QL _ _ _ _ _ _ h
       ·cases hg
      ·cases hg
     ·cases hf
    ·cases hf
   ·cases hf
  |block id b=>
   unfold comp at hf;unfold oC at hg;simp only[]at hf hg
   split at hf
   ·split at hg
    ·rename_i fb hb _ gb QL;cases hf;cases hg;intro cl K tm df m r h;obtain⟨e,st,e1,h⟩:=ig hb QL _ _ _ _ _ _ h;unfold HR;simp only[e1];cases e with
     |exit j=>
      simp only[]at h;cases hj:Nat.beq j id with
      |true=>simp only[hj]at h;exact⟨_,_,by simp only[hj,if_true],h⟩
      |false=>simp only[hj]at h;exact⟨_,_,by simp only[hj,bU,if_false],h⟩
     |_=>exact⟨_,_,rfl,h⟩
    ·cases hg
   ·cases hf
  |loop b=>
   unfold comp at hf;unfold oC at hg;simp only[]at hf hg
   split at hf
   ·split at hg
    ·rename_i fb hb _ gb QL;cases hf;cases hg;exact Ab (ig hb QL) 100000
    ·cases hg
   ·cases hf
  |exit id=>cases hf;cases hg;exact fun cl K tm df m r h=>⟨_,_,rfl,h⟩
  |ret=>cases hf;cases hg;exact fun cl K tm df m r h=>⟨_,_,rfl,h⟩
  |goto l=>cases hf;cases hg;exact fun cl K tm df m r h=>⟨_,_,rfl,h⟩
  |region id ops draw=>
   unfold comp at hf;unfold oC at hg;simp only[]at hf hg;have key:∀{l:List ni}{o:iE}{q:RC R},iw P nt ops l=some o->yM P ops l=some q->Wc (P6 o) (fun K=>q (K .normal)):=by
    intro l o q ho hq cl K tm df m r h;obtain⟨st,e,h⟩:=xk ho hq _ _ _ _ _ _ h;exact⟨_,_,by unfold P6;simp only[e],h⟩
   cases draw with
   |true=>
    rw[bC rfl]at hf;simp only[]at hg
    split at hf
    ·rename_i l hl;simp only[hl]at hg
     split at hf
     ·split at hg
      ·cases hf;cases hg;exact key nV nV
      ·cases hg
     ·cases hf
    ·cases hf
   |false=>
    rw[bS eS]at hf;simp only[]at hg
    split at hf
    ·split at hg
     ·cases hf;cases hg;exact key nV nV
     ·cases hg
    ·cases hf
  |scope b=>
   unfold comp at hf;unfold oC at hg;simp only[]at hf hg
   split at hf
   ·split at hg
    ·rename_i fb hb _ gb QL;cases hf;cases hg;intro cl K tm df m r h;obtain⟨e,st,e1,h⟩:=ig hb QL _ _ _ _ _ _ h;refine⟨e,st,?_,?_⟩
     ·show yR _ _ cl (999+1) fb _=_
      unfold yR;rw[e1];cases e with
      |goto l=>unfold den at h;cases h
      |_=>rfl
     ·cases e with
      |goto l=>unfold den at h;cases h
      |_=>exact h
    ·cases hg
   ·cases hf
  |_=>cases hg
theorem vO {cl:cB}{r:R×Mem}{k:T R}:∀{df:Df}{m:Mem},den cl (u9 P X df k) m=some r->∃m',oS P X cl df m=some m'/\den cl k m'=some r
 | [],m,h=>⟨m,rfl,h⟩
 |(f,args)::ds,m,h=>by
  unfold u9 at h;unfold oS
  split at h
  ·rename_i hb;rw[bC hb];unfold den at h
   split at h
   ·rename_i v m' hc;obtain⟨m2,e,h⟩:=vO h;exact⟨m2,by rw[hc];exact e,h⟩
   ·cases h
  ·cases h
theorem v9 {cl:cB}{r:R×Mem}{nt:Nat}{tm:Tm}{m:Mem}:∀{rs:List ResultVar}{k:List ae->T R},den cl (IK P nt tm rs k) m=some r->∃vs,vj P nt m tm rs=some vs/\den cl (k vs) m=some r
 | [],k,h=>⟨[],rfl,h⟩
 | .tmp t::l,k,h=>by
  unfold IK at h
  split at h
  ·rename_i hb;obtain⟨vs,e,h⟩:=v9 h;exact⟨_,by unfold vj;rw[bC hb,e],h⟩
  ·cases h
 | .cell a t::l,k,h=>by
  unfold IK at h
  split at h
  ·rename_i hb;obtain⟨v,m',e,h⟩:=j4 h;unfold oA at e
   split at e
   ·rename_i v' hv;cases e;obtain⟨vs,e,h⟩:=v9 h;exact⟨_,by unfold vj;rw[bC hb,hv,e],h⟩
   ·cases e
  ·cases h
theorem MM {f:Nat}{args:List ae}{cl:cB}{m:Mem}{v:ae}{m':Mem}{fn:Func}{c:Code}(QM:P.funcs[f]?=some fn)(hc:fn.body=some c)(qD:Nat.ble fn.ntmps 512=true)(hs:(comp P fn.ntmps 1000 c).isSome=true)
  (h:den cl (Zh P X f args) m=some (v,m')):(j8 P X f).body cl args m=some (v,m'):=by
 unfold Zh at h;simp only[QM,hc]at h
 split at h
 ·rename_i g hg;obtain⟨b,hb⟩:=iA.1 hs;have e0:(j8 P X f).body cl args m=yp P X fn.ntmps fn.results.toList b cl args m:=by
   unfold j8;simp only[QM,hc,qD,if_true,hb]
  rw[e0];unfold aa1 at h;unfold yp
  split at h
  ·rename_i hle;rw[bC hle]
   split at h
   ·rename_i tm YL;rw[YL];simp only[];obtain⟨e,st,e1,h⟩:=ig hb hg _ _ _ _ _ _ h;rw[e1];have fin:∀{st:Ss},den cl (u9 P X st.df (IK P fn.ntmps st.tm fn.results.toList fun vs=>match vs with | [v]=> .done v|vs=> .done (.tuple vs.toArray))) st.mem=some (v,m')->
      (match oS P X cl st.df st.mem with |none=>none|some m'=>match lS P fn.ntmps fn.results.toList st.tm m' with |some v=>some (v,m')|none=>none)=some (v,m'):=by
     intro st h;obtain⟨m2,e2,h⟩:=vO h;obtain⟨vs,e3,h⟩:=v9 h;rw[e2];simp only[lS,e3]
     split at h
     ·cases h;rfl
     ·rename_i hns;cases h
      split
      ·rename_i h1;split at h1
       ·rename_i h0;cases h0;exact(hns _ rfl).elim
       ·rename_i h2;cases h1;cases h2;rfl
       ·rename_i h2;cases h2
      ·rename_i h1;split at h1
       ·cases h1
       ·cases h1
       ·rename_i h2;cases h2
    cases e with
    |normal=>exact fin h
    |ret=>exact fin h
    |_=>unfold den at h;cases h
   ·cases h
  ·cases h
 ·cases h
end
inductive pX where
 |mem(f:Mem->Option (ae×Mem))(v:ae)
 |call(f:Nat)(args:List ae)(v:ae)
 |gD(fv:ae)(args:List ae)(v:ae)
 |eN(r:Option (Nat×ae))(args:List ae)(v:ae)
 |val(r:Option ae)(v:ae)
 |cond(v:ae)(b:Bool)
 |idx(n:Int)(len:Nat)(i:Nat)
def yj {R:Type}(e:pX)(r:Option (List pX×R)):Option (List pX×R):=match r with |some (l,a)=>some (e::l,a)|none=>none
def follow {R:Type}:T R->List pX->Option (List pX×R)
 | .done a,[]=>some ([],a)
 | .mem f k,.mem _ v::L=>yj (.mem f v) (follow (k v) L)
 | .call f args k,.call _ _ v::L=>yj (.call f args v) (follow (k v) L)
 | .gD fv args k,.gD _ _ v::L=>yj (.gD fv args v) (follow (k v) L)
 | .eN r args k,.eN _ _ v::L=>yj (.eN r args v) (follow (k v) L)
 | .val r k,.val _ v::L=>yj (.val r v) (follow (k v) L)
 | .cond v k,.cond _ b::L=>yj (.cond v b) (follow (k b) L)
 | .idx n len k,.idx _ _ i::L=>yj (.idx n len i) (follow (k i) L)
 |_,_=>none
theorem mU {R:Type}{e:pX}{r:Option (List pX×R)}{L:List pX}{a:R}(h:yj e r=some (L,a)):∃l,L=e::l/\r=some (l,a):=by
 unfold yj at h
 split at h
 ·cases h;exact⟨_,rfl,rfl⟩
 ·cases h
inductive KD (cl:cB):Mem->List pX->Mem->Prop
 |nil {m:Mem}:KD cl m [] m
 |mem {m m1 m':Mem}{f:Mem->Option (ae×Mem)} {v:ae}{L:List pX} (h:f m=some (v,m1)) (k:KD cl m1 L m'):KD cl m (.mem f v::L) m'
 |call {m m1 m':Mem}{f:Nat}{args:List ae}{v:ae}{L:List pX} (h:cl f args m=some (v,m1)) (k:KD cl m1 L m'):KD cl m (.call f args v::L) m'
 |gD {m m1 m':Mem}{f:Nat}{first cap:Array ae}{args:List ae}{v:ae}{L:List pX} (h:cl f (first.toList++args++cap.toList) m=some (v,m1)) (k:KD cl m1 L m'):KD cl m (.gD (.func (.func f) first cap) args v::L) m'
 |eN {m m1 m':Mem}{f:Nat}{recv:ae}{args:List ae}{v:ae}{L:List pX} (h:cl f (recv::args) m=some (v,m1)) (k:KD cl m1 L m'):KD cl m (.eN (some (f,recv)) args v::L) m'
 |val {m m':Mem}{r:Option ae}{v:ae}{L:List pX} (h:r=some v) (k:KD cl m L m'):KD cl m (.val r v::L) m'
 |cond {m m':Mem}{v:ae}{b:Bool}{L:List pX} (h:v= .bool b) (k:KD cl m L m'):KD cl m (.cond v b::L) m'
 |idx {m m':Mem}{n:Int}{len i:Nat}{L:List pX} (h:n=(i:Int)) (hl:i<len) (k:KD cl m L m'):KD cl m (.idx n len i::L) m'
theorem CX {R:Type}{cl:cB}:∀{t:T R}{ZS L:List pX}{a:R}{m m':Mem},follow t ZS=some (L,a)->KD cl m L m'->den cl t m=some (a,m'):=by
 intro t ZS
 induction ZS generalizing t with
 |nil=>
  intro L a m m' h hc;cases t with
  |done a=>cases h;cases hc;rfl
  |_=>unfold follow at h;cases h
 |cons e ZS ih=>
  intro L a m m' h hc;cases t with
  |done a=>unfold follow at h;cases h
  |fail=>unfold follow at h;cases h
  |mem f k=>
   cases e with
   |mem f' v=>obtain⟨l,rfl,h'⟩:=mU h;cases hc with |mem h1 h2=>unfold den;rw[h1];exact ih h' h2
   |_=>cases h
  |call f args k=>
   cases e with
   |call f' bJ v=>obtain⟨l,rfl,h'⟩:=mU h;cases hc with |call h1 h2=>unfold den;rw[h1];exact ih h' h2
   |_=>cases h
  |gD fv args k=>
   cases e with
   |gD f' bJ v=>obtain⟨l,rfl,h'⟩:=mU h;cases hc with |gD h1 h2=>unfold den;simp only[h1];exact ih h' h2
   |_=>cases h
  |eN r args k=>
   cases e with
   |eN f' bJ v=>obtain⟨l,rfl,h'⟩:=mU h;cases hc with |eN h1 h2=>unfold den;simp only[h1];exact ih h' h2
   |_=>cases h
  |val r k=>
   cases e with
   |val r' v=>obtain⟨l,rfl,h'⟩:=mU h;cases hc with |val h1 h2=>unfold den;simp only[h1];exact ih h' h2
   |_=>cases h
  |cond v k=>
   cases e with
   |cond v' b=>obtain⟨l,rfl,h'⟩:=mU h;cases hc with |cond h1 h2=>unfold den;simp only[h1];exact ih h' h2
   |_=>cases h
  |idx n len k=>
   cases e with
   |idx n' ag7 i=>
    obtain⟨l,rfl,h'⟩:=mU h;cases hc with
    |idx h1 h2 h3=>
     unfold den;subst h1
     show(match Nat.blt i len with |true=>den cl (k i) m|false=>none)=_
     rw[kl,vB h2];exact ih h' h3
   |_=>cases h
end Go.AM
namespace Go.AM
set_option maxRecDepth 1000000
open Go Go.Conc Go.Proofs
def fS:Code->Bool
 | .seq a b=>fS a&&fS b
 | .cond _ a b=>fS a&&fS b
 | .block _ a=>fS a
 | .loop a=>fS a
 | .scope _=>false
 |_=>true
theorem kZ {P:aD}{nt:Nat}:∀{n:Nat}{c:Code}{f:F},fS c=true->comp P nt n c=some f->comp P nt (n+1) c=some f
 |0,_,_,_,h=>by cases h
 |n+1,c,f,hp,h=>by
  cases c with
  |seq a b=>
   unfold fS at hp;rw[ag]at hp;unfold comp at h⊢;simp only[]at h⊢
   split at h
   ·rename_i fa ha
    split at h
    ·rename_i fb hb;rw[kZ hp.1 ha,kZ hp.2 hb];exact h
    ·cases h
   ·cases h
  |cond x a b=>
   unfold fS at hp;rw[ag]at hp;unfold comp at h⊢;simp only[]at h⊢
   split at h
   ·rename_i hg;rw[bC hg]
    split at h
    ·rename_i fa ha
     split at h
     ·rename_i fb hb;rw[kZ hp.1 ha,kZ hp.2 hb];exact h
     ·cases h
    ·cases h
   ·cases h
  |block i a=>
   unfold fS at hp;unfold comp at h⊢;simp only[]at h⊢
   split at h
   ·rename_i fa ha;rw[kZ hp ha];exact h
   ·cases h
  |loop a=>
   unfold fS at hp;unfold comp at h⊢;simp only[]at h⊢
   split at h
   ·rename_i fa ha;rw[kZ hp ha];exact h
   ·cases h
  |scope b=>cases hp
  |_=>exact h
def ja (f:Nat):Bool:=Nat.beq f 137||Nat.beq f 140||Nat.beq f 14||Nat.beq f 22||Nat.beq f 38||Nat.beq f 73||Nat.beq f 75
structure gS where
 C:Nat->Nat->cB
 step:∀M n f args m,ja f=false->C M (n+1) f args m=(j8 ab X0 f).body (C M n) args m
def Ev (K:gS)(f:Nat)(args:List ae)(m:Mem)(v:ae)(m':Mem):Prop:=∃N,∀M n,N<=M->N<=n->K.C M n f args m=some (v,m')
inductive Ch (K:gS):Mem->List pX->Mem->Prop
 |nil {m:Mem}:Ch K m [] m
 |mem {m m1 m':Mem}{f:Mem->Option (ae×Mem)} {v:ae}{L:List pX} (h:f m=some (v,m1)) (k:Ch K m1 L m'):Ch K m (.mem f v::L) m'
 |call {m m1 m':Mem}{f:Nat}{args:List ae}{v:ae}{L:List pX} (h:Ev K f args m v m1) (k:Ch K m1 L m'):Ch K m (.call f args v::L) m'
 |gD {m m1 m':Mem}{f:Nat}{first cap:Array ae}{args:List ae}{v:ae}{L:List pX} (h:Ev K f (first.toList++args++cap.toList) m v m1) (k:Ch K m1 L m'):Ch K m (.gD (.func (.func f) first cap) args v::L) m'
 |eN {m m1 m':Mem}{r:Option (Nat×ae)} {f:Nat}{recv:ae}{args:List ae}{v:ae}{L:List pX} (hr:r=some (f,recv)) (h:Ev K f (recv::args) m v m1) (k:Ch K m1 L m'):Ch K m (.eN r args v::L) m'
 |val {m m':Mem}{r:Option ae}{v:ae}{L:List pX} (h:r=some v) (k:Ch K m L m'):Ch K m (.val r v::L) m'
 |cond {m m':Mem}{v:ae}{b:Bool}{L:List pX} (h:v= .bool b) (k:Ch K m L m'):Ch K m (.cond v b::L) m'
 |idx {m m':Mem}{n:Int}{len i:Nat}{L:List pX} (h:n=(i:Int)) (hl:i<len) (k:Ch K m L m'):Ch K m (.idx n len i::L) m'
theorem Ch.chN{K:gS}{m m':Mem}{L:List pX}(h:Ch K m L m'):∃N,∀M n,N<=M->N<=n->KD (K.C M n) m L m':=by
 induction h with
 |nil=>exact⟨0,fun _ _ _ _=> .nil⟩
 |mem h _ ih=>obtain⟨N,ih⟩:=ih;exact⟨N,fun M n a b=> .mem h (ih M n a b)⟩
 |call h _ ih=>
  obtain⟨N,ih⟩:=ih;obtain⟨N',h⟩:=h;exact⟨N+N',fun M n a b=> .call (h M n aj aj) (ih M n aj aj)⟩
 |gD h _ ih=>
  obtain⟨N,ih⟩:=ih;obtain⟨N',h⟩:=h;exact⟨N+N',fun M n a b=> .gD (h M n aj aj) (ih M n aj aj)⟩
 |eN hr h _ ih=>
  subst hr;obtain⟨N,ih⟩:=ih;obtain⟨N',h⟩:=h;exact⟨N+N',fun M n a b=> .eN (h M n aj aj) (ih M n aj aj)⟩
 |val h _ ih=>obtain⟨N,ih⟩:=ih;exact⟨N,fun M n a b=> .val h (ih M n a b)⟩
 |cond h _ ih=>obtain⟨N,ih⟩:=ih;exact⟨N,fun M n a b=> .cond h (ih M n a b)⟩
 |idx h hl _ ih=>obtain⟨N,ih⟩:=ih;exact⟨N,fun M n a b=> .idx h hl (ih M n a b)⟩
noncomputable def wB(f:Nat):Bool:=match ab.funcs[f]? with
 |some fn=>match fn.body with
  |some c=>Nat.ble fn.ntmps 512&&(comp ab fn.ntmps 1000 c).isSome
  |none=>false
 |none=>false
def Path (f:Nat)(args:List ae)(L:List pX)(v:ae):Prop:=wB f=true/\follow (Zh ab X0 f args) L=some (L,v)
theorem aJ {K:gS}{f:Nat}{args:List ae}{L:List pX}{v:ae}{m m':Mem}(p:Path f args L v)(h:Ch K m L m')(hs:ja f=false:=by rfl):Ev K f args m v m':=by
 obtain⟨p1,p2⟩:=p;obtain⟨N,h⟩:=h.chN;refine⟨N+1,fun M n a b=>?_⟩;obtain⟨n,rfl⟩:∃k,n=k+1:=⟨n-1,aj⟩;rw[K.step M n f args m hs];unfold wB at p1
 split at p1
 ·rename_i fn QM
  split at p1
  ·rename_i c hc;rw[ag]at p1;exact MM QM hc p1.1 p1.2 (CX p2 (h M n aj aj))
  ·cases p1
 ·cases p1
def Bm (K:gS)(nt:Nat)(c:Code)(st:Ss)(e:Exit)(jX:Ss):Prop:=∃N,∀M n,N<=M->N<=n->∃f,comp ab nt 1000 c=some f/\f (K.C M n) st=some (e,jX)
def dL (is:List Nat)(tm:Tm):List ae:=is.map fun i=>cY i tm
theorem Bm.block{K:gS}{nt id:Nat}{a:Code}{st jL:Ss}{e e':Exit}(h1:Bm K nt a st e jL)(he:(match e with | .exit j=>if Nat.beq j id then Exit.normal else .exit j|e=>e)=e')(hp:fS a=true)(hs:(comp ab nt 1000 (.block id a)).isSome=true):Bm K nt (.block id a) st e' jL:=by
 obtain⟨N,h1⟩:=h1;refine⟨N,fun M n x y=>?_⟩;obtain⟨fa,ha,ea⟩:=h1 M n aj aj;obtain⟨f,hf⟩:=iA.1 hs;refine⟨f,hf,?_⟩;unfold comp at hf;simp only[]at hf
 split at hf
 ·rename_i fa' mN;cases hf;have :=(kZ hp mN).symm.trans ha;cases this;subst he;unfold HR;rw[ea];cases e with
  |exit j=>simp only[];split<;>rfl
  |_=>rfl
 ·cases hf
def ET (K:gS)(nt:Nat)(a:Code)(k:Nat)(st:Ss)(e:Exit)(jX:Ss):Prop:=∃N,∀M n,N<=M->N<=n->∃f,comp ab nt 1000 a=some f/\xK f (K.C M n) k st=some (e,jX)
theorem ET.next{K:gS}{nt k:Nat}{a:Code}{st jL zS:Ss}{e:Exit}(h1:Bm K nt a st .normal jL)(h2:ET K nt a k jL e zS):ET K nt a (k+1) st e zS:=by
 obtain⟨N,h1⟩:=h1;obtain⟨N',h2⟩:=h2;refine⟨N+N',fun M n x y=>?_⟩;obtain⟨fa,ha,ea⟩:=h1 M n aj aj;obtain⟨fb,hb,eb⟩:=h2 M n aj aj;have :=ha.symm.trans hb;cases this;exact⟨fa,ha,by unfold xK;rw[ea];exact eb⟩
theorem ET.out{K:gS}{nt k:Nat}{a:Code}{st jL:Ss}{e:Exit}(h1:Bm K nt a st e jL)(he:e≠ .normal):ET K nt a (k+1) st e jL:=by
 obtain⟨N,h1⟩:=h1;refine⟨N,fun M n x y=>?_⟩;obtain⟨fa,ha,ea⟩:=h1 M n aj aj;refine⟨fa,ha,?_⟩;unfold xK;rw[ea];cases e<;>first |rfl|exact absurd rfl he
theorem Bm.loop{K:gS}{nt:Nat}{a:Code}{st jL:Ss}{e:Exit}(h1:ET K nt a 100000 st e jL)(hp:fS a=true)(hs:(comp ab nt 1000 (.loop a)).isSome=true):Bm K nt (.loop a) st e jL:=by
 obtain⟨N,h1⟩:=h1;refine⟨N,fun M n x y=>?_⟩;obtain⟨fa,ha,ea⟩:=h1 M n aj aj;obtain⟨f,hf⟩:=iA.1 hs;refine⟨f,hf,?_⟩;unfold comp at hf;simp only[]at hf
 split at hf
 ·rename_i fa' mN;cases hf;have :=(kZ hp mN).symm.trans ha;cases this;exact ea
 ·cases hf
noncomputable def j0(f:Nat):Nat:=match ab.funcs[f]? with |some fn=>fn.ntmps|none=>0
theorem O9 {K:gS}{f:Nat}{args:List ae}{m m':Mem}{tm fe:Tm}{e:Exit}{v:ae}(hc:wB f=true)(ht:(if Nat.ble args.length (j0 f)then Ea args else none)=some tm)(h:Bm K (j0 f) (cI f) ⟨tm,m,[]⟩ e ⟨fe,m',[]⟩)(he:e= .normal\/e= .ret)
  (hr:lS ab (j0 f) (rsT f) fe m'=some v)(hs:ja f=false:=by rfl):Ev K f args m v m':=by
 obtain⟨N,h⟩:=h;refine⟨N+1,fun M n a b=>?_⟩;obtain⟨n,rfl⟩:∃k,n=k+1:=⟨n-1,aj⟩;rw[K.step M n f args m hs];obtain⟨g,hg,eg⟩:=h M n aj aj;unfold wB at hc
 split at hc
 ·rename_i fn QM
  split at hc
  ·rename_i c uo;rw[ag]at hc;have e1:j0 f=fn.ntmps:=by unfold j0;rw[QM]
   have e2:cI f=c:=by unfold cI;rw[QM];simp only[a9,uo]
   have e3:rsT f=fn.results.toList:=by unfold rsT;rw[QM]
   rw[e1,e2]at hg;rw[e1]at ht;rw[e1,e3]at hr;unfold j8;simp only[QM,uo,hc.1,if_true,hg];unfold yp;rw[ht];simp only[eg];rcases he with rfl|rfl<;>simp only[Pb,oS,hr]
  ·cases hc
 ·cases hc
theorem N8.GJ{α:Type}(n:N8 α)(i:Nat):n.put i (n.get i)=n:=by
 obtain⟨a,b,c,d,e,f,g,h⟩:=n
 match i with
 |0|1|2|3|4|5|6|_+7=>rfl
theorem PO {i:Nat}{v:ae}{tm:Tm}(h:cY i tm=v):tJ i v tm=tm:=by
 subst h;unfold tJ cY;rw[N8.GJ,N8.GJ,N8.GJ]
end Go.AM
namespace Go.AM
set_option maxRecDepth 1000000
open Go Go.Conc Go.Proofs
abbrev vI (n:Int):ae:= .int .i64 n
abbrev vP (b o:Nat):ae:= .pointer (some ⟨b,o,none⟩)
abbrev vL (b o l c:Nat):ae:= .slice (some ⟨b,o,none⟩) l c
abbrev fg (i j:Int):Int:=WL V7 Int.add .i64 i j
abbrev oF (i j:Int):Int:=WL SA Int.sub .i64 i j
abbrev oK (i j:Int):Int:=WL noQ Int.mul .i64 i j
abbrev eI (P:aD)(t:aM)(a:ae)(m:Mem):Bool:=(j9 P t a m).isSome
end Go.AM
namespace Go.AM
set_option maxRecDepth 1000000
open Go Go.Conc Go.Proofs
structure Kp (m m':Mem)(S:Nat->Prop):Prop where
 next:m.next<=m'.next
 bl:m'.bl=m.bl
 opn:m'.opn=m.opn
 base:m'.base=m.base
 home:m'.home=m.home
 floor:m'.floor=m.floor
 wg:m'.wg=m.wg
 pend:m'.pend=m.pend
 deaf:m'.deaf=m.deaf
 blk:∀b,b<m.next->¬S b->m'.blk b=m.blk b
def fu:Nat->Prop:=fun _=>False
section
variable {m m1 m':Mem}{S S':Nat->Prop}
theorem Kp.refl(m:Mem)(S:Nat->Prop):Kp m m S:=⟨ai _,rfl,rfl,rfl,rfl,rfl,rfl,rfl,rfl,fun _ _ _=>rfl⟩
theorem Kp.mono(h:Kp m m' S)(k:∀b,b<m.next->S b->S' b):Kp m m' S':={h with blk:=fun b hb hs=>h.blk b hb fun x=>hs (k b hb x)}
theorem Kp.trans(h:Kp m m1 S)(k:Kp m1 m' S')(hk:∀b,b<m.next->S' b->S b):Kp m m' S:=
 ⟨cp h.next k.next,k.bl.trans h.bl,k.opn.trans h.opn,k.base.trans h.base,k.home.trans h.home,k.floor.trans h.floor,k.wg.trans h.wg,k.pend.trans h.pend,k.deaf.trans h.deaf,
  fun b hb hs=>(k.blk b (aW hb h.next) fun x=>hs (hk b hb x)).trans (h.blk b hb hs)⟩
theorem Kp.aS(h:Kp m m1 S)(k:Kp m1 m' fu):Kp m m' S:=h.trans k fun _ _ h=>h.elim
theorem Kp.tA(h:Kp m m' fu):Kp m m' S:=h.mono fun _ _ h=>h.elim
theorem Kp.new{N:Nat}(h:Kp m m1 S)(k:Kp m1 m' S')(hn:m.next<=N)(hk:∀b,S' b->N<=b):Kp m m' S:=h.trans k fun b hb hs=>absurd (hk b hs) aj
structure Gd (m:Mem):Prop where
 pend:m.pend=[]
 deaf:m.deaf=0
 bf:m.base<=m.floor
 fn:m.floor<=m.next
 hn:m.home<=m.next
 bl:∀s∈m.bl,s.2.1<=m.next
theorem Gd.ext(h:Gd m)(k:Kp m m' S):Gd m':=
 ⟨k.pend.trans h.pend,k.deaf.trans h.deaf,by rw[k.base,k.floor];exact h.bf,by rw[k.floor];exact cp h.fn k.next,by rw[k.home];exact cp h.hn k.next,fun s hs=>by rw[k.bl]at hs;exact cp (h.bl s hs) k.next⟩
theorem Gd.fresh(h:Gd m){b:Nat}(hb:m.next<=b):aL m.bl b=false:=g8 fun x hx _ h2=>by have :=h.bl x hx;omega
abbrev Own (m:Mem)(b:Nat):Prop:=m.ft b=true
theorem Own.ext{b:Nat}(h:Own m b)(k:Kp m m' S):Own m' b:=by unfold Own Mem.ft at h⊢;rw[k.bl,k.base,k.floor,k.opn];exact h
theorem Gd.own(h:Gd m)(k:Kp m m' S){b:Nat}(hb:m.next<=b):Own m' b:=by
 have h1:=h.fresh hb;unfold Own Mem.ft;rw[k.bl,k.base,k.floor,h1];have :=h.bf;have :=h.fn;simp only[Bool.not_false,Bool.true_and,ag,Bool.or_eq_true,jQ];exact⟨aj,.inl aj⟩
theorem Own.may{b:Nat}(h:Own m b)(o n:Nat):m.cS b o n=true:=by
 unfold Own Mem.ft at h;unfold Mem.cS;simp only[ag,Bool.or_eq_true,jQ,Bool.not_eq_true']at h⊢;exact⟨⟨gv h.1.1 o n,h.1.2⟩,h.2.elim (fun x=> .inl (.inl x)) fun x=> .inl (.inr x)⟩
structure Obj (m:Mem)(b sz:Nat)(cs:List ae):Prop where
 lt:b<m.next
 kind:(m.blk b).kind=1
 sz:(m.blk b).sz=sz
 cs:(m.blk b).cs=cs.map some
 yL:aL m.bl b=false
theorem Obj.ext{b sz:Nat}{cs:List ae}(h:Obj m b sz cs)(k:Kp m m' S)(hs:¬S b):Obj m' b sz cs:=by
 have e:=k.blk b h.lt hs;exact⟨aW h.lt k.next,by rw[e];exact h.kind,by rw[e];exact h.sz,by rw[e];exact h.cs,by rw[k.bl];exact h.yL⟩
theorem Obj.aR{b sz:Nat}{cs:List ae}(h:Obj m b sz cs)(k:Kp m m' fu):Obj m' b sz cs:=h.ext k id
theorem kE:∀{cs:List ae}{n:Nat},n<=cs.length->fX (cs.map some) n=some (cs.take n)
 |_,0,_=>by simp[fX]
 | [],n+1,h=>by simp at h
 |v::cs,n+1,h=>by simp only[List.map_cons,fX,kE (cs:=cs) (n:=n) (by simpa using h),cN,List.take_succ_cons]
theorem jx {b sz o n:Nat}{cs vs:List ae}(h:Obj m b sz cs)(hv:(cs.drop o).take n=vs)(hn:o+n<=cs.length):m.dB b o n=some vs:=by
 unfold Mem.dB;simp only[h.kind,gv h.yL o n,h.cs,beq_self_eq_true,Bool.not_false,Bool.and_self,if_true];rw[<-List.map_drop,kE (by simp;omega),hv]
theorem bW {b sz o n:Nat}{cs vs:List ae}(h:Obj m b sz cs)(hv:(cs.drop o).take n=vs)(hn:o+n<=cs.length):eW n b o m=some (.agg vs.toArray,m):=by
 unfold eW;rw[jx h hv hn]
theorem aN {b sz o:Nat}{cs:List ae}{v:ae}(h:Obj m b sz cs)(hv:cs[o]?=some v):aP b o m=some (v,m):=by
 unfold aP;have hk:=h.kind;have hc:=h.cs;cases hb:m.blk b with
 |mk kind z c es clock str pos aZ=>
  rw[hb]at hk hc;simp only at hk hc;subst hk hc;simp only[CK,gv h.yL o 1,Bool.not_false,yf];have :(cs.map some).drop o=some v::(cs.drop (o+1)).map some:=by
   rw[<-List.map_drop];have hd:cs.drop o=v::cs.drop (o+1):=by
    obtain⟨cC,he⟩:=List.getElem?_eq_some_iff.1 hv;rw[<-he];exact List.drop_eq_getElem_cons cC
   rw[hd];rfl
  rw[this]
def tN (cs:List ae)(o:Nat):List ae->List ae
 | []=>cs
 |v::vs=>tN (cs.set o v) (o+1) vs
theorem lR:∀(vs:List ae) (x:ae) (cs:List ae) (o:Nat),tN (x::cs) (o+1) vs=x::tN cs o vs
 | [],_,_,_=>rfl
 |v::vs,x,cs,o=>by unfold tN;simp only[List.set_cons_succ];exact lR vs x (cs.set o v) (o+1)
theorem lV:∀{cs:List ae}{o:Nat}{vs:List ae},o+vs.length<=cs.length->eA (cs.map some) o vs=some ((tN cs o vs).map some)
 |cs,o,[],_=>by cases cs<;>cases o<;>rfl
 | [],o,v::vs,h=>by simp at h
 |c::cs,0,v::vs,h=>by
  simp only[List.map_cons,eA];rw[lV (cs:=cs) (o:=0) (vs:=vs) (by simp at h;omega)]
  show some (some v::(tN cs 0 vs).map some)=some ((tN (v::cs) 1 vs).map some)
  rw[lR];rfl
 |c::cs,o+1,v::vs,h=>by
  simp only[List.map_cons,eA];rw[lV (cs:=cs) (o:=o) (vs:=v::vs) (by simp at h⊢;omega),lR];rfl
theorem mQ {b:Nat}{k:dJ}:Kp m (m.a8 b k) (fun x=>x=b):=⟨ai _,rfl,rfl,rfl,rfl,rfl,rfl,rfl,rfl,fun x _ hx=>by rw[Mem.dE,bS (fun e=>hx e.symm)]⟩
theorem kq {b sz o:Nat}{cs:List ae}(vs:List ae)(h:Obj m b sz cs)(hw:m.cS b o vs.length=true)(hn:o+vs.length<=cs.length)(hv:vs.all (·.oneCell')=true):
  ∃m',Eb b o vs m=some (undef,m')/\Obj m' b sz (tN cs o vs)/\Kp m m' (fun x=>x=b):=by
 have e:m.dK b o vs=some (m.a8 b {m.blk b with cs:=(tN cs o vs).map some}):=by
  unfold Mem.dK;simp only[h.kind,hw,hv,h.cs,beq_self_eq_true,Bool.and_self,if_true,lV hn,cN]
 refine⟨m.a8 b {m.blk b with cs:=(tN cs o vs).map some},by unfold Eb;rw[e],⟨h.lt,?_,?_,?_,h.yL⟩,mQ⟩
 ·rw[Mem.dE,bC rfl];exact h.kind
 ·rw[Mem.dE,bC rfl];exact h.sz
 ·rw[Mem.dE,bC rfl]
theorem Fc:∀{o:Nat}{cs:List ae}{v:ae},o<cs.length->∃l,v7 o (cs.map some) v=some l:=by
 intro o
 induction o using Nat.strongRecOn with
 |ind o ih=>
  intro cs v h;rcases o with _|_|_|_|_|_|_|_|o<;>rcases cs with _|⟨c0,_|⟨c1,_|⟨c2,_|⟨c3,_|⟨c4,_|⟨c5,_|⟨c6,_|⟨c7,t⟩⟩⟩⟩⟩⟩⟩⟩<;>
   first
   |exact⟨_,rfl⟩
   |(exfalso;simp only[List.length_cons,List.length_nil]at h;omega)
   |(obtain⟨l,hl⟩:=ih o aj (cs:=t) (v:=v) (by simp only[List.length_cons]at h;omega)
     exact⟨_,by simp only[List.map_cons,v7,hl];rfl⟩)
theorem Ou {b o:Nat}(h:m.cS b o 1=true):Qs m b o=true:=by
 unfold Qs
 split
 ·exact Nat.ble_eq_true_of_le (Mem.kJ h)
 ·exact h
theorem iZ {b sz o:Nat}{cs:List ae}(v:ae)(h:Obj m b sz cs)(hw:m.cS b o 1=true)(hn:o<cs.length)(h1:kI v=true:=by rfl):
  ∃m',gJ b o v m=some (undef,m')/\Obj m' b sz (cs.set o v)/\Kp m m' (fun x=>x=b):=by
 obtain⟨l,hl⟩:=Fc (v:=v) hn;have hp:=A0 _ _ _ _ hl;rw[lV (cs:=cs) (o:=o) (vs:=[v]) (by simp;omega)]at hp;obtain rfl:=Option.some.inj hp;have hk:=h.kind;have hc:=h.cs;have hz:=h.sz;unfold gJ;cases hb:m.blk b with
 |mk kind z c es clock str pos aZ=>
  rw[hb]at hk hc hz;simp only at hk hc hz;subst hk hc hz;simp only[h1,Ou hw,hl];refine⟨_,rfl,⟨h.lt,?_,?_,?_,h.yL⟩,⟨ai _,rfl,rfl,rfl,rfl,rfl,rfl,rfl,rfl,fun x _ hx=>?_⟩⟩
  ·show((m.heap.put b _).get b).kind=1
   rw[ji.get_put,bC rfl]
  ·show((m.heap.put b _).get b).sz=_
   rw[ji.get_put,bC rfl]
  ·show((m.heap.put b _).get b).cs=_
   rw[ji.get_put,bC rfl];rfl
  ·show(m.heap.put b _).get x=m.blk x
   rw[ji.get_put,bS (fun e=>hx e.symm)];rfl
theorem gC (h:Gd m){k:dJ}{cs:List ae}{sz:Nat}(hk:k.kind=1)(hs:k.sz=sz)(hc:k.cs=cs.map some):Obj (m.alloc k) m.next sz cs/\Kp m (m.alloc k) fu/\(m.alloc k).next=m.next+1:=by
 refine⟨⟨Nat.lt_succ_self _,?_,?_,?_,h.fresh (ai _)⟩,⟨Nat.le_succ _,rfl,rfl,rfl,rfl,rfl,rfl,rfl,rfl,fun x hx _=>?_⟩,rfl⟩
 ·rw[Mem.bY,bC rfl];exact hk
 ·rw[Mem.bY,bC rfl];exact hs
 ·rw[Mem.bY,bC rfl];exact hc
 ·rw[Mem.bY,bS aj]
theorem aV (h:Gd m)(cs:List ae):∃m',mZ (cs.map some) m=some (vP m.next 0,m')/\Obj m' m.next 0 cs/\Kp m m' fu/\m'.next=m.next+1/\(m'.blk m.next).pos=1:=by
 obtain⟨h1,h2,h3⟩:=gC (m:=m) h (k:=⟨1,0,cs.map some,#[],0,.empty,1,0⟩) rfl rfl rfl;exact⟨m.alloc ⟨1,0,cs.map some,#[],0,.empty,1,0⟩,rfl,h1,h2,h3,by rw[Mem.bY,bC rfl]⟩
theorem bM (h:Gd m):zZ m=some (undef,m):=by unfold zZ;rw[h.pend]
theorem dW (b o:Nat):gk (vP b o) m=some (vI ((m.blk b).aZ:Int),m):=rfl
theorem Dl {v:ae}{b s:Nat}{lk:Mem->Bool}(hv:mY v=some b)(hs:(m.blk b).aZ=s)(hl:lk m=true):cZ (vI s) v lk m=some (undef,m):=by
 unfold cZ jB;rw[hv,hl];subst hs
 show(match Nat.beq (m.blk b).aZ (m.blk b).aZ&&true with |true=>_|false=>_)=_
 rw[show Nat.beq (m.blk b).aZ (m.blk b).aZ=true from Nat.beq_refl _];rfl
end
end Go.AM
namespace Go.AM
set_option maxRecDepth 1000000
open Go Go.Conc Go.Proofs
theorem aY.{u}{α:Sort u}{a b:α}(h:a=b:=by kernel_rfl):a=b:=h
def Vz:List Nat:=[1,2,3,4,5,9,10,21,22,25,28,29,47,54,55,66,67,72,74,84,89,93,97,98,99,100,101,104,120,131,147,150,155,156,157,158,159,162,173,174,223,258,259,301,302,322,346,347,371,376,395,396,439,440]
theorem Vy:(Vz.all fun t=>yv ab t==some false)=true:=aY
theorem aid {t:Nat}(h:Vz.contains t=true):yv ab t=some false:=by
 have :=aB.1 Vy t (by simpa using h);simpa using this
theorem wE {m:Mem}{b o sz s t:Nat}{cs:List ae}{v:ae}(h:Obj m b sz cs)(hv:cs[o]?=some v)(hs:(m.blk b).aZ=s)(ht:Vz.contains t=true:=by rfl):cZ (vI s) (vP b o) (eI ab t (vP b o)) m=some (undef,m):=by
 refine Dl rfl hs ?_;unfold eI j9;simp only[aid ht];obtain⟨cC,he⟩:=List.getElem?_eq_some_iff.1 hv;have :m.dB b o 1=some [v]:=jx h (by rw[List.drop_eq_getElem_cons cC];simp[he]) aj;rw[this];rfl
theorem alS {m:Mem}{b o sz s t n:Nat}{cs vs:List ae}(h:Obj m b sz cs)(hv:(cs.drop o).take n=vs)(hn:o+n<=cs.length)(ht:yv ab t=some true)(hz:ep ab t=some n)(hs:(m.blk b).aZ=s):cZ (vI s) (vP b o) (eI ab t (vP b o)) m=some (undef,m):=by
 refine Dl rfl hs ?_;unfold eI j9;simp only[ht,hz,a9,jx h hv hn];rfl
theorem adW {m:Mem}{v:ae}{b s:Nat}(hv:mY v=some b)(hf:m.floor<=b)(hs:(m.blk b).aZ=s):cZ (vI s) v (pS v) m=some (undef,m):=by
 refine Dl hv hs ?_;unfold pS;rw[hv];exact Nat.ble_eq_true_of_le hf
section
variable {P:aD}
theorem gY {α β:Type}{x:Sem α}{f:α->Sem β}:(x>>=f).aH P=(x.aH P).bind fun a=>(f a).aH P:=by
 show(x.bind f).aH P=_
 induction x with
 |pure a=>rfl
 |program k ih=>exact ih P
 |_=>rfl
theorem kT {α:Type}(a:α):(pure a:Sem α).aH P=some a:=rfl
theorem BV:(program:Sem aD).aH P=some P:=rfl
theorem tR (d:Nat)(t:aM)(k k':cf)(a b:Int)(h:P.underlying t=some (.int k')):(Op.equalIn (d+1) t (.int k a) (.int k b)).aH P=some (a==b):=by
 simp only[Op.equalIn,gY,eP h,a9,if_true,kT]
theorem sV (d:Nat)(t:aM)(a b:Bool)(h:P.underlying t=some .bool):(Op.equalIn (d+1) t (.bool a) (.bool b)).aH P=some (a==b):=by
 simp only[Op.equalIn,gY,eP h,a9,kT]
theorem qx (d:Nat)(t:aM)(a b:ByteArray)(h:P.underlying t=some .string):(Op.equalIn (d+1) t (.string a) (.string b)).aH P=some (a==b):=by
 simp only[Op.equalIn,gY,eP h,a9,kT]
theorem LN {α:Type}{c:Prop}[Decidable c]{x y:Sem α}:(if c then x else y).aH P=if c then x.aH P else y.aH P:=by split<;>rfl
theorem qw (d:Nat)(t:aM)(xs ys:Array ae)(ht:P.underlying t=some (.struct (P.fieldsOf t)))(hp:P.stoodInHeld t=false):
  (Op.equalIn (d+1) t (.agg xs) (.agg ys)).aH P=(Op.eqFields d xs ys (P.fieldsOf t).toList).aH P:=by
 simp only[Op.equalIn,gY,eP ht,a9,BV,hp,bU,if_false];rw[<-Array.forIn_toList];generalize(P.fieldsOf t).toList=fs;clear ht
 induction fs with
 |nil=>simp[Op.eqFields,kT]
 |cons f fs ih=>
  simp only[List.forIn_cons,Op.eqFields,gY,LN]
  split
  ·cases(part f.type xs f.offset).aH P with
   |none=>rfl
   |some a=>
    simp only[a9];cases(part f.type ys f.offset).aH P with
    |none=>rfl
    |some b=>
     simp only[a9];cases(Op.equalIn d f.type a b).aH P with
     |none=>rfl
     |some r=>
      cases r
      ·simp only[a9,Bool.not_false,if_true,kT]
      ·simp only[a9,Bool.not_true,bU,if_false,kT];exact ih
  ·simp only[kT,a9];exact ih
theorem BW (op:BinOp)(t:aM)(x y:bX)(xs ys:Array ae)(hm:P.eqGuardType P.depth t=false):(eqGuard op t x y (.agg xs) (.agg ys)).aH P=some ():=by
 cases op<;>simp[eqGuard,gY,BV,hm,kT]
end
structure V where
 k:Int
 n:Int
 s:ByteArray
 b:Bool
def V.beq(x y:V):Bool:=x.k==y.k&&(x.n==y.n&&(x.s==y.s&&x.b==y.b))
theorem V.beq_iff{x y:V}:x.beq y=true↔x=y:=by
 obtain⟨k1,n1,s1,b1⟩:=x;obtain⟨k2,n2,s2,b2⟩:=y;simp only[V.beq,V.mk.injEq,ag,beq_iff_eq,bytes_beq]
def V.cells(v:V):List ae:=[vI v.k,vI v.n,.string v.s,.bool v.b]
abbrev V.val(v:V):ae:= .agg #[vI v.k,vI v.n,.string v.s,.bool v.b]
theorem Z1:ab.underlying 49=some (.struct (ab.fieldsOf 49)):=aY
theorem NL:ab.stoodInHeld 49=false:=aY
theorem ae0:ab.underlying 3=some (.int .i64):=aY
theorem aeZ:ab.underlying 4=some .bool:=aY
theorem Sg:ab.underlying 9=some .string:=aY
theorem J1 (k1 n1:Int)(s1:ByteArray)(b1:Bool)(k2 n2:Int)(s2:ByteArray)(b2:Bool):
  (ab.fieldsOf 49).toList.map (fun f=>((f.name != "_":Bool),f.type,(part f.type #[vI k1,vI n1,.string s1,.bool b1] f.offset).aH ab,(part f.type #[vI k2,vI n2,.string s2,.bool b2] f.offset).aH ab))=
  [(true,3,some (vI k1),some (vI k2)),(true,3,some (vI n1),some (vI n2)),(true,9,some (.string s1),some (.string s2)),(true,4,some (.bool b1),some (.bool b2))]:=aY
theorem tS {d:Nat}{xs ys:Array ae}:∀{fs:List Field}{l:List (Bool×Nat×Option ae×Option ae)},
  fs.map (fun f=>((f.name != "_":Bool),f.type,(part f.type xs f.offset).aH ab,(part f.type ys f.offset).aH ab))=l->
  (Op.eqFields d xs ys fs).aH ab=l.foldr (fun x r=>if x.1 then x.2.2.1.bind fun a=>x.2.2.2.bind fun b=>((Op.equalIn d x.2.1 a b).aH ab).bind fun c=>if c then r else some false else r) (some true)
 | [],l,h=>by subst h;rfl
 |f::fs,l,h=>by
  subst h;simp only[List.map_cons,List.foldr_cons];rw[<-tS (fs:=fs) rfl]
  conv=>lhs;unfold Op.eqFields
  by_cases hn:f.name= "_"
  ·simp only[hn,bne_self_eq_false,ne_eq,not_true_eq_false,if_false,bU]
  ·have :(f.name != "_")=true:=by simpa using hn
   simp only[hn,this,ne_eq,not_false_eq_true,if_true,gY,LN,kT];cases(part f.type xs f.offset).aH ab with
   |none=>rfl
   |some a=>
    cases(part f.type ys f.offset).aH ab with
    |none=>rfl
    |some b=>
     simp only[a9];cases(Op.equalIn d f.type a b).aH ab with
     |none=>rfl
     |some c=>cases c<;>rfl
theorem alI (x y:V):(Op.equalIn 10000 49 x.val y.val).aH ab=some (x.beq y):=by
 rw[show(10000:Nat)=9999+1 from rfl,qw 9999 49 _ _ Z1 NL,tS (J1 x.k x.n x.s x.b y.k y.n y.s y.b)];simp only[List.foldr_cons,List.foldr_nil,if_true,a9,show(9999:Nat)=9998+1 from rfl,tR 9998 3 _ _ _ _ ae0,qx 9998 9 _ _ Sg,sV 9998 4 _ _ aeZ];unfold V.beq;cases x.k==y.k<;>cases x.n==y.n<;>cases x.s==y.s<;>cases x.b==y.b<;>rfl
theorem Ze:ab.eqGuardType ab.depth 49=false:=aY
theorem zY {P:aD}{l:List ae}{s:Sem ae}{v:ae}(h1:l.all plain=true)(h2:s.aH P=some v)(h3:plain v=true):pu P l s=some v:=by
 unfold pu;simp only[h1,h2,h3]
theorem VB (cx cy:Bool)(x y:V):jZ ab .eql 49 cx cy x.val y.val=some (.bool (x.beq y)):=by
 refine zY rfl ?_ rfl;rw[gY,BW _ _ _ _ _ _ Ze]
 show(Sem.aH ab (Op.equal 49 x.val y.val>>=fun b=>(pure (ae.bool b):Sem ae)))=_
 rw[gY]
 show Option.bind ((Op.equalIn 10000 49 x.val y.val).aH ab) _=_
 rw[alI];rfl
theorem acJ (cx cy:Bool)(a b:ByteArray):jZ ab .lss 9 cx cy (.string a) (.string b)=some (.bool (Op.bytesLess a.toList b.toList)):=by
 refine zY rfl ?_ rfl;rw[gY];rfl
theorem ah8 (cx cy:Bool)(a b:ByteArray):jZ ab .gtr 9 cx cy (.string a) (.string b)=some (.bool (!(Op.bytesLess a.toList b.toList||a.toList==b.toList))):=by
 refine zY rfl ?_ rfl;rw[gY];rfl
theorem Nn {q:Int->Int->Option Nat}{f:Int->Int->Int}{a:cf}{i j:Int}(hq:∀n,q i j=some n->f i j=n):WL q f a i j=a.wrap (f i j):=by
 unfold WL
 split
 ·rename_i n hn
  split
  ·rename_i hb;rw[hq n hn,rZ hb];rfl
  ·rfl
 ·rfl
theorem Rq (i j:Int):fg i j=cf.i64.wrap (i+j):=Nn fun n h=>by
 unfold V7 at h
 split at h
 ·cases h;rfl
 ·cases h
theorem PS (i j:Int):oF i j=cf.i64.wrap (i-j):=Nn fun n h=>by
 unfold SA at h
 split at h
 ·split at h
  ·rename_i a b hb;cases h;have :=af hb
   show((a:Int)-(b:Int))=((a-b:Nat):Int)
   omega
  ·cases h
 ·cases h
theorem Qp (i j:Int):oK i j=cf.i64.wrap (i*j):=Nn fun n h=>by cases h
theorem qK {i j:Int}(h:FC (i+j)):fg i j=i+j:=(Rq i j).trans (r7 h)
theorem NJ {i j:Int}(h:FC (i-j)):oF i j=i-j:=(PS i j).trans (r7 h)
theorem Yl {i j:Int}(h:FC (i*j)):oK i j=i*j:=(Qp i j).trans (r7 h)
theorem acR (i j:Int):Yu i j=decide (i<=j):=by unfold Yu;rw[fp,Bool.eq_iff_iff];simp
theorem zr (i j:Int):qE i j=decide (j<i):=fp j i
theorem Hr (i j:Int):EE i j=decide (j<=i):=by unfold EE;rw[fp,Bool.eq_iff_iff];simp
theorem tY (i j:Int):tB i j=decide (i≠j):=by unfold tB;rw[uA,Bool.eq_iff_iff];simp
@[reducible]def bQ (v:V):ae:=.agg #[vI v.k,vI v.n,.string v.s,.bool v.b]
@[reducible]def qj (v:V):List (Option ae):=[some (vI v.k),some (vI v.n),some (.string v.s),some (.bool v.b)]
@[reducible]def sR (v:V):List ae:=[vI v.k,vI v.n,.string v.s,.bool v.b]
@[reducible]def nY:List (Option ae):=[some (vI 0),some (vI 0),some (.string .empty),some (.bool false)]
end Go.AM
namespace Go.AM
set_option maxRecDepth 1000000
open Go Go.Conc Go.Proofs
def nj (m:Mem)(v:ae)(sz n:Nat)(cs:List ae):Prop:=
 cs.length=n*sz/\((v= .slice none 0 0/\n=0)\/∃b c,v=vL b 0 n c/\Obj m b sz cs/\(c=cD\/c=n))
def aiT (S:Nat->Prop)(v:ae):Prop:=∀b o n c,v=vL b o n c->¬S b
theorem nj.ext{m m':Mem}{S:Nat->Prop}{v:ae}{sz n:Nat}{cs:List ae}(h:nj m v sz n cs)(k:Kp m m' S)(hs:aiT S v):nj m' v sz n cs:=by
 refine⟨h.1,h.2.imp id fun⟨b,c,e,o,x⟩=>⟨b,c,e,o.ext k (hs b 0 n c e),x⟩⟩
theorem nj.aR{m m':Mem}{v:ae}{sz n:Nat}{cs:List ae}(h:nj m v sz n cs)(k:Kp m m' fu):nj m' v sz n cs:=h.ext k fun _ _ _ _ _=>id
theorem nj.nil{m:Mem}{sz:Nat}:nj m (.slice none 0 0) sz 0 []:=⟨de,.inl ⟨rfl,rfl⟩⟩
def sN:List (Nat×Nat):=[(104,4),(131,1),(150,1),(155,6),(156,2),(159,1),(162,4),(22,1),(223,6),(28,1),(29,1),(302,2),(395,1),(72,1),(89,2),(93,1),(97,6),(98,2),(99,3),(47,4),(120,1),(301,1)]
noncomputable def aeg(p:Nat×Nat):Bool:=match ab.underlying p.1 with
 |some (.slice e)=>(ep ab e==some p.2)&&Nat.blt 0 p.2&&(match ab.info? e with |some i=>decide (0<i.bytes)&&decide (i.bytes<=1024)&&(gL ab e).isSome|none=>false)
 |_=>false
theorem Pv:(sN.all aeg)=true:=aY
theorem uK {t sz:Nat}(h:sN.contains (t,sz)=true):∃e,ab.underlying t=some (.slice e)/\ep ab e=some sz/\0<sz/\∀need,need<=2^30->zt ab e need=true:=by
 have :=aB.1 Pv (t,sz) (by simpa using h);unfold aeg at this
 split at this
 ·rename_i e he;rw[ag,ag]at this;obtain⟨⟨h1,h0⟩,h2⟩:=this;refine⟨e,he,by simpa using h1,by simpa[Nat.blt_eq]using h0,fun need hn=>?_⟩
  split at h2
  ·rename_i i hi;simp only[ag,jQ]at h2;unfold zt;rw[hi];simp only[ag,jQ];refine⟨⟨⟨h2.1.1,?_⟩,aj⟩,h2.2⟩
   calc need*i.bytes<=2^30*1024:=Nat.mul_le_mul hn h2.1.2
    _<=2^46:=eS
  ·cases h2
 ·cases this
theorem mP {m:Mem}{v:ae}{sz n:Nat}{cs:List ae}(h:nj m v sz n cs):kA m sz n v=some cs:=by
 rcases h with⟨hl,⟨rfl,rfl⟩|⟨b,c,rfl,ho,_⟩⟩
 ·have :cs=[]:=by rw[Nat.zero_mul]at hl;exact List.length_eq_zero_iff.1 hl
  subst this;rfl
 ·show m.dB b 0 (n*sz)=some cs
  exact jx ho (by simp[<-hl]) aj
theorem nj.UB{m:Mem}{v:ae}{sz n:Nat}{cs:List ae}(h:nj m v sz n cs):Cv v=some n:=by
 rcases h with⟨hl,⟨rfl,rfl⟩|⟨b,c,rfl,ho,_⟩⟩<;>rfl
theorem Pu {m:Mem}(g:Gd m){t sz n:Nat}{x:ae}{new:List ae}(ht:sN.contains (t,sz)=true)(hx:nj m x sz n new)(h1:∀y∈new,y.oneCell'=true)(hn:n≠0)(hb:n<=2^30):
  ∃m',cK ab #[t,t] (.slice none 0 0) x m=some (vL m.next 0 n cD,m')/\Obj m' m.next sz new/\Kp m m' fu/\m'.next=m.next+1:=by
 obtain⟨e,h3,h4,h0,h5⟩:=uK ht;have hf:=mP hx;have hl:=hx.UB;have hlen:new.length=n*sz:=hx.1;have lK:(new.all (·.oneCell'))=true:=aB.2 h1;have e0:kA m sz 0 (.slice none 0 0)=some []:=rfl;obtain⟨k1,k2,k3⟩:=gC g (k:={kind:=1,sz:=sz,cs:=new.map some}) (cs:=new) rfl rfl rfl;refine⟨_,?_,k1,k2,k3⟩;unfold cK;simp only[show(#[t,t]:Array aM)[0]?=some t from rfl,show(#[t,t]:Array aM)[1]?=some t from rfl,a9,h3,h4,hl,hf];rw[bS (by rw[h5 _ aj,hlen,lK];simp),bS eS,bS aj];simp only[e0,List.length_nil,Nat.zero_mul,if_true,List.nil_append,Nat.zero_add]
theorem ZM {m:Mem}(g:Gd m){t sz n b len:Nat}{x:ae}{old new rest:List ae}(ht:sN.contains (t,sz)=true)(ho:Obj m b sz (old++rest))(YS:old.length=len*sz)(hw:Own m b)(hx:nj m x sz n new)
  (h1:∀y∈new,y.oneCell'=true)(hb:len+n<=2^30):
  ∃m',cK ab #[t,t] (vL b 0 len cD) x m=some (vL m.next 0 (len+n) cD,m')/\Obj m' m.next sz (old++new)/\Kp m m' (fun y=>y=b)/\m'.next=m.next+1:=by
 obtain⟨e,h3,h4,h0,h5⟩:=uK ht;have hf:=mP hx;have hl:=hx.UB;have hlen:new.length=n*sz:=hx.1;have lK:(new.all (·.oneCell'))=true:=aB.2 h1;have htk:fX (((old++rest).map some).drop 0) (len*sz)=some old:=by
  rw[List.drop_zero,kE (by simp;omega),<-YS];simp
 have g2:Gd (m.a8 b {}):=g.ext mQ;obtain⟨k1,k2,k3⟩:=gC g2 (k:={kind:=1,sz:=sz,cs:=(old++new).map some}) (cs:=old++new) rfl rfl rfl;refine⟨_,?_,k1,Kp.aS mQ k2,k3⟩;unfold cK;simp only[show(#[t,t]:Array aM)[0]?=some t from rfl,show(#[t,t]:Array aM)[1]?=some t from rfl,a9,h3,h4,hl,hf];rw[bS (by rw[h5 _ aj,hlen,lK];simp),bC trivial];have pO:(((m.blk b).cs.drop 0).all (·.isSome))=true:=by rw[ho.cs];simp
 simp only[ho.kind,ho.sz,ho.cs]at pO⊢;rw[bC (by rw[pO,show m.ft b=true from hw];simp)];simp only[htk]
theorem Obj.sl{m:Mem}{b sz n:Nat}{cs:List ae}(h:Obj m b sz cs)(hl:cs.length=n*sz){c:Nat}(hc:c=cD\/c=n):nj m (vL b 0 n c) sz n cs:=⟨hl,.inr ⟨b,c,rfl,h,hc⟩⟩
theorem iX {m:Mem}(g:Gd m)(z vs:List ae)(hl:z.length=vs.length)(h1:vs.all (·.oneCell')=true):
  ∃m1 m2,mZ (z.map some) m=some (vP m.next 0,m1)/\Eb m.next 0 vs m1=some (undef,m2)/\Obj m2 m.next 0 vs/\Kp m m2 fu/\m2.next=m.next+1:=by
 obtain⟨m1,e1,o1,k1,n1,_⟩:=aV g z;have hw:=g.own k1 (ai _);obtain⟨m2,e2,o2,k2⟩:=kq (o:=0) vs o1 (hw.may _ _) aj h1;have :tN z 0 vs=vs:=by
  have key:∀(vs z:List ae),z.length=vs.length->tN z 0 vs=vs:=by
   intro vs
   induction vs with
   |nil=>intro z hz;exact List.length_eq_zero_iff.1 hz
   |cons v vs ih=>
    intro z hz;cases z with
    |nil=>simp at hz
    |cons a z=>
     show tN ((a::z).set 0 v) 1 vs=_
     rw[List.set_cons_zero,lR,ih z (by simpa using hz)]
  exact key vs z hl
 rw[this]at o2;refine⟨m1,m2,e1,e2,o2,k1.new k2 (ai _) fun b hb=>by rw[hb];exact ai _,?_⟩;have :=k2.next;have e:m2.next=m1.next:=by
  unfold Eb at e2
  split at e2
  ·rename_i m' hm;cases e2;unfold Mem.dK at hm;simp only[]at hm
   split at hm
   ·obtain⟨cs,_,rfl⟩:=aC.1 hm;rfl
   ·cases hm
  ·cases e2
 omega
end Go.AM
namespace Go.AM
set_option maxRecDepth 1000000
open Go Go.Conc Go.Proofs
def dZ:Code->List Code
 | .seq a b=>dZ a++dZ b
 |c=>[c]
def oI:Code->List Nat->Code
 |c,[]=>c
 |c,i::l=>match(dZ c)[i]? with
  |some (.block _ (.loop b))=>oI b l
  |some (.block _ b)=>oI b l
  |some (.cond _ a b)=>match l with
   |0::l'=>oI a l'
   |_::l'=>oI b l'
   | []=>c
  |_=>c
noncomputable def pZ(nt:Nat):List Code->Option F
 | []=>some xr
 |c::l=>match comp ab nt 1000 c with
  |some a=>match pZ nt l with
   |some b=>some (oG a b)
   |none=>none
  |none=>none
def DZ (K:gS)(nt:Nat)(l:List Code)(st:Ss)(e:Exit)(jX:Ss):Prop:=∃N,∀M n,N<=M->N<=n->∃g,pZ nt l=some g/\g (K.C M n) st=some (e,jX)
section
variable {K:gS}{nt:Nat}
theorem LC {a b c:F}{cl:cB}{st:Ss}:oG (oG a b) c cl st=oG a (oG b c) cl st:=by
 unfold oG;cases a cl st with
 |none=>rfl
 |some x=>obtain⟨e,jL⟩:=x;cases e<;>rfl
theorem Fe {a:F}{cl:cB}{st:Ss}:oG a xr cl st=a cl st:=by
 unfold oG xr;cases a cl st with
 |none=>rfl
 |some x=>obtain⟨e,jL⟩:=x;cases e<;>rfl
theorem LB {a b b':F}{cl:cB}{st:Ss}(h:∀st,b cl st=b' cl st):oG a b cl st=oG a b' cl st:=by
 unfold oG;cases a cl st with
 |none=>rfl
 |some x=>obtain⟨e,jL⟩:=x;cases e<;>first |rfl|exact h _
theorem qo:∀{l l':List Code}{a b:F},pZ nt l=some a->pZ nt l'=some b->∃g,pZ nt (l++l')=some g/\∀cl st,g cl st=oG a b cl st
 | [],l',a,b,ha,hb=>by cases ha;exact⟨b,hb,fun cl st=>rfl⟩
 |c::l,l',a,b,ha,hb=>by
  unfold pZ at ha
  split at ha
  ·rename_i f hf
   split at ha
   ·rename_i h hh;cases ha;obtain⟨g,hg,e⟩:=qo hh hb;refine⟨oG f g,?_,fun cl st=>?_⟩
    ·show pZ nt (c::(l++l'))=_
     unfold pZ;rw[hf,hg]
    ·rw[LC];exact LB fun st=>e cl st
   ·cases ha
  ·cases ha
theorem DZ.append{l l':List Code}{st jL zS:Ss}{e:Exit}(h:DZ K nt l st .normal jL)(k:DZ K nt l' jL e zS):DZ K nt (l++l') st e zS:=by
 obtain⟨N,h⟩:=h;obtain⟨N',k⟩:=k;refine⟨N+N',fun M n x y=>?_⟩;obtain⟨a,ha,ea⟩:=h M n aj aj;obtain⟨b,hb,eb⟩:=k M n aj aj;obtain⟨g,hg,eg⟩:=qo ha hb;exact⟨g,hg,by rw[eg];unfold oG;rw[ea];exact eb⟩
theorem DZ.first{l l':List Code}{st jL:Ss}{e:Exit}(h:DZ K nt l st e jL)(he:e≠ .normal)(hs:(pZ nt l').isSome=true):DZ K nt (l++l') st e jL:=by
 obtain⟨N,h⟩:=h;obtain⟨b,hb⟩:=iA.1 hs;refine⟨N,fun M n x y=>?_⟩;obtain⟨a,ha,ea⟩:=h M n aj aj;obtain⟨g,hg,eg⟩:=qo ha hb;refine⟨g,hg,?_⟩;rw[eg];unfold oG;rw[ea];cases e<;>first |rfl|exact absurd rfl he
theorem DZ.single{c:Code}{st jL:Ss}{e:Exit}(h:Bm K nt c st e jL):DZ K nt [c] st e jL:=by
 obtain⟨N,h⟩:=h;refine⟨N,fun M n x y=>?_⟩;obtain⟨a,ha,ea⟩:=h M n x y;exact⟨oG a xr,by unfold pZ pZ;rw[ha],by rw[Fe];exact ea⟩
theorem Q5 {a b:Code}(hp:fS (.seq a b)=true){f:F}(hf:comp ab nt 1000 (.seq a b)=some f):∃fa fb,comp ab nt 1000 a=some fa/\comp ab nt 1000 b=some fb/\f=oG fa fb:=by
 unfold fS at hp;rw[ag]at hp;unfold comp at hf;simp only[]at hf
 split at hf
 ·rename_i fa ha
  split at hf
  ·rename_i fb hb;exact⟨fa,fb,kZ hp.1 ha,kZ hp.2 hb,(Option.some.inj hf).symm⟩
  ·cases hf
 ·cases hf
theorem Zj:∀{c:Code}{f:F},fS c=true->comp ab nt 1000 c=some f->∃g,pZ nt (dZ c)=some g/\∀cl st,g cl st=f cl st:=by
 intro c;have one:∀{c:Code}{f:F},dZ c=[c]->comp ab nt 1000 c=some f->∃g,pZ nt (dZ c)=some g/\∀cl st,g cl st=f cl st:=fun e h=>
  ⟨_,by rw[e];unfold pZ pZ;rw[h],fun cl st=>Fe⟩
 induction c with
 |seq a b iha ihb=>
  intro f hp hf;obtain⟨fa,fb,ha,hb,rfl⟩:=Q5 hp hf;unfold fS at hp;rw[ag]at hp;obtain⟨ga,hga,ea⟩:=iha hp.1 ha;obtain⟨gb,QL,eb⟩:=ihb hp.2 hb;obtain⟨g,hg,e⟩:=qo hga QL;refine⟨g,hg,fun cl st=>?_⟩;rw[e];unfold oG;rw[ea];cases fa cl st with
  |none=>rfl
  |some x=>obtain⟨ee,jL⟩:=x;cases ee<;>first |rfl|exact eb _ _
 |_=>intro f _ hf;exact one rfl hf
theorem DZ.code{c:Code}{st jL:Ss}{e:Exit}(hp:fS c=true)(hs:(comp ab nt 1000 c).isSome=true)(h:DZ K nt (dZ c) st e jL):Bm K nt c st e jL:=by
 obtain⟨N,h⟩:=h;obtain⟨f,hf⟩:=iA.1 hs;obtain⟨g,hg,eg⟩:=Zj hp hf;refine⟨N,fun M n x y=>⟨f,hf,?_⟩⟩;obtain⟨g',Hg,eg'⟩:=h M n x y;rw[hg]at Hg;cases Hg;rw[<-eg];exact eg'
noncomputable def XX(nt:Nat):List Code->Option (CT (Exit×Tm×Df))
 | []=>some fun K=>K .normal
 |c::l=>match oC ab nt 1000 c with
  |some a=>match XX nt l with
   |some b=>some (ae3 a b)
   |none=>none
  |none=>none
noncomputable def S4(nt:Nat)(l:List Code)(tm:Tm):T (Exit×Tm×Df):=match XX nt l with
 |some g=>g (fun e tm df=> .done (e,tm,df)) tm []
 |none=> .fail
def EI (c:Code)(i j:Nat):List Code:=((dZ c).take j).drop i
def aex (nt:Nat)(c:Code)(i j:Nat)(tm:Tm)(L:List pX)(e:Exit)(is:List Nat)(vs:List ae):Prop:=
 (pZ nt (EI c i j)).isSome=true/\(follow (S4 nt (EI c i j) tm) L).map (fun x=>(x.1,x.2.1,x.2.2.2,dL is x.2.2.1))=some (L,e,[],vs)
theorem BQ:∀{l:List Code}{f:F}{g:CT (Exit×Tm×Df)},pZ nt l=some f->XX nt l=some g->Wc f g
 | [],f,g,hf,hg=>by cases hf;cases hg;exact fun cl K tm df m r h=>⟨_,_,rfl,h⟩
 |c::l,f,g,hf,hg=>by
  unfold pZ at hf;unfold XX at hg
  split at hf
  ·rename_i fa ha
   split at hf
   ·rename_i fb hb
    split at hg
    ·rename_i ga hga
     split at hg
     ·rename_i gb QL;cases hf;cases hg;intro cl K tm df m r h;obtain⟨e,st,e1,h⟩:=ig ha hga _ _ _ _ _ _ h;cases e with
      |normal=>
       obtain⟨e,jX,e2,h⟩:=BQ hb QL _ _ _ _ _ _ h;exact⟨e,jX,by unfold oG;rw[e1];exact e2,h⟩
      |_=>exact⟨_,_,by unfold oG;rw[e1],h⟩
     ·cases hg
    ·cases hg
   ·cases hf
  ·cases hf
theorem abz {c:Code}{i j:Nat}{tm:Tm}{L:List pX}{e:Exit}{is:List Nat}{vs:List ae}{m m':Mem}(p:aex nt c i j tm L e is vs)(h:Ch K m L m'):∃fe,DZ K nt (EI c i j) ⟨tm,m,[]⟩ e ⟨fe,m',[]⟩/\dL is fe=vs:=by
 obtain⟨p1,p2⟩:=p;obtain⟨N,h⟩:=h.chN;obtain⟨x,hx,fO⟩:=aC.1 p2;obtain⟨L',e',fe,ml⟩:=x;simp only[ay]at fO;obtain⟨rfl,rfl,rfl,hg⟩:=fO;refine⟨fe,⟨N,fun M n a b=>?_⟩,hg⟩;obtain⟨f,hf⟩:=iA.1 p1;refine⟨f,hf,?_⟩;have hd:=CX hx (h M n a b);unfold S4 at hd
 split at hd
 ·rename_i g hg;obtain⟨e2,⟨t2,m2,d2⟩,e3,hd⟩:=BQ hf hg _ _ _ _ _ _ hd;cases hd;exact e3
 ·cases hd
def aU (K:gS)(nt:Nat)(c:Code)(i:Nat)(st:Ss)(e:Exit)(jX:Ss):Prop:=DZ K nt ((dZ c).drop i) st e jX
theorem aU.cut{c:Code}{i j:Nat}{st jL zS:Ss}{e:Exit}(h:DZ K nt (EI c i j) st .normal jL)(k:aU K nt c j jL e zS)(s7:i<=j:=by decide):aU K nt c i st e zS:=by
 have e1:(dZ c).drop i=EI c i j++(dZ c).drop j:=by
  unfold EI;rw[List.drop_take];have :(dZ c).drop j=((dZ c).drop i).drop (j-i):=by rw[List.drop_drop];congr 1;omega
  rw[this,List.take_append_drop]
 unfold aU;rw[e1];exact h.append k
theorem aU.last{c:Code}{i j:Nat}{st jL:Ss}{e:Exit}(h:DZ K nt (EI c i j) st e jL)(hj:(dZ c).length<=j):aU K nt c i st e jL:=by
 unfold aU;unfold EI at h;rwa[List.take_of_length_le hj]at h
theorem aU.whole{c:Code}{st jL:Ss}{e:Exit}(h:aU K nt c 0 st e jL)(hp:fS c=true)(hs:(comp ab nt 1000 c).isSome=true):Bm K nt c st e jL:=DZ.code hp hs h
def l9 (c:Code)(i:Nat):Option (Nat×Code):=match(dZ c)[i]? with |some (.block id (.loop b))=>some (id,b)|_=>none
theorem aU.loop{c b:Code}{i id:Nat}{st jL zS:Ss}{e e':Exit}(hl:l9 c i=some (id,b))(h:ET K nt b 100000 st e' jL)(he:e'= .exit id)(hp:fS b=true)(hs:(comp ab nt 1000 (.block id (.loop b))).isSome=true)(k:aU K nt c (i+1) jL e zS):aU K nt c i st e zS:=by
 unfold l9 at hl
 split at hl
 ·rename_i id' b' hg;cases hl;subst he;obtain⟨cC,w5⟩:=List.getElem?_eq_some_iff.1 hg;have e1:(dZ c).drop i=[.block id (.loop b)]++(dZ c).drop (i+1):=by rw[List.drop_eq_getElem_cons cC,w5];rfl
  have hls:(comp ab nt 1000 (.loop b)).isSome=true:=by
   obtain⟨f,hf⟩:=iA.1 hs;unfold comp at hf;simp only[]at hf
   split at hf
   ·rename_i f' AT;rw[kZ (c:= .loop b) hp AT];rfl
   ·cases hf
  unfold aU;rw[e1];exact(DZ.single (Bm.block (e':= .normal) (Bm.loop h hp hls) de hp hs)).append k
 ·cases hl
theorem aU.Uc{c b:Code}{i id:Nat}{st jL:Ss}(hl:l9 c i=some (id,b))(h:ET K nt b 100000 st .ret jL)(hp:fS b=true)(hs:(comp ab nt 1000 (.block id (.loop b))).isSome=true)(hr:(pZ nt ((dZ c).drop (i+1))).isSome=true):aU K nt c i st .ret jL:=by
 unfold l9 at hl
 split at hl
 ·rename_i id' b' hg;cases hl;obtain⟨cC,w5⟩:=List.getElem?_eq_some_iff.1 hg;have e1:(dZ c).drop i=[.block id (.loop b)]++(dZ c).drop (i+1):=by rw[List.drop_eq_getElem_cons cC,w5];rfl
  have hls:(comp ab nt 1000 (.loop b)).isSome=true:=by
   obtain⟨f,hf⟩:=iA.1 hs;unfold comp at hf;simp only[]at hf
   split at hf
   ·rename_i f' AT;rw[kZ (c:= .loop b) hp AT];rfl
   ·cases hf
  unfold aU;rw[e1];exact(DZ.single (Bm.block (e':= .ret) (Bm.loop h hp hls) rfl hp hs)).first lQ hr
 ·cases hl
def oV (c:Code)(i:Nat):Option (Nat×Code):=match(dZ c)[i]? with |some (.block id b)=>some (id,b)|_=>none
theorem aU.block{c b:Code}{i id:Nat}{st jL zS:Ss}{e e':Exit}(hl:oV c i=some (id,b))(h:aU K nt b 0 st e' jL)(he:e'= .normal\/e'= .exit id)(hp:fS b=true)(hb:(comp ab nt 1000 b).isSome=true)(hs:(comp ab nt 1000 (.block id b)).isSome=true)(k:aU K nt c (i+1) jL e zS):aU K nt c i st e zS:=by
 unfold oV at hl
 split at hl
 ·rename_i id' b' hg;cases hl;obtain⟨cC,w5⟩:=List.getElem?_eq_some_iff.1 hg;have e1:(dZ c).drop i=[.block id b]++(dZ c).drop (i+1):=by rw[List.drop_eq_getElem_cons cC,w5];rfl
  unfold aU;rw[e1];exact(DZ.single (Bm.block (e':= .normal) (aU.whole h hp hb) (by rcases he with rfl|rfl<;>simp) hp hs)).append k
 ·cases hl
theorem aU.Rk{c b:Code}{i id:Nat}{st jL:Ss}(hl:oV c i=some (id,b))(h:aU K nt b 0 st .ret jL)(hp:fS b=true)(hb:(comp ab nt 1000 b).isSome=true)(hs:(comp ab nt 1000 (.block id b)).isSome=true)(hr:(pZ nt ((dZ c).drop (i+1))).isSome=true):aU K nt c i st .ret jL:=by
 unfold oV at hl
 split at hl
 ·rename_i id' b' hg;cases hl;obtain⟨cC,w5⟩:=List.getElem?_eq_some_iff.1 hg;have e1:(dZ c).drop i=[.block id b]++(dZ c).drop (i+1):=by rw[List.drop_eq_getElem_cons cC,w5];rfl
  unfold aU;rw[e1];exact(DZ.single (Bm.block (e':= .ret) (aU.whole h hp hb) rfl hp hs)).first lQ hr
 ·cases hl
end
end Go.AM
namespace Go.AM
set_option maxRecDepth 1000000
open Go Go.Conc Go.Proofs
def To:List Nat->List ae->Tm->Tm
 |i::is,v::vs,tm=>tJ i v (To is vs tm)
 |_,_,tm=>tm
theorem Fg:∀{is:List Nat}{vs:List ae}{tm:Tm},dL is tm=vs->To is vs tm=tm
 | [],_,tm,_=>rfl
 |i::is,[],tm,h=>rfl
 |i::is,v::vs,tm,h=>by
  unfold dL at h;simp only[List.map_cons,List.cons.injEq]at h;unfold To;rw[Fg (is:=is) (vs:=vs) h.2,PO h.1]
def uM (nt:Nat)(c:Code)(i j:Nat)(Wv:List Nat)(Wp:List ae)(L:List pX)(e:Exit)(is:List Nat)(vs:List ae):Prop:=∀g:Tm,aex nt c i j (To Wv Wp g) L e is vs
noncomputable abbrev iy (f:Nat)(p:List Nat):Code:=oI (cI f) p
abbrev dX (f:Nat)(p:List Nat):=uM (j0 f) (iy f p)
abbrev gN (f:Nat):=uM (j0 f) (cI f)
section
variable {K:gS}{nt:Nat}
theorem cX {c:Code}{i j:Nat}{Wv is:List Nat}{Wp vs:List ae}{L:List pX}{e:Exit}{tm:Tm}{m m':Mem}(p:uM nt c i j Wv Wp L e is vs)(h0:dL Wv tm=Wp)(h:Ch K m L m'):∃fe,DZ K nt (EI c i j) ⟨tm,m,[]⟩ e ⟨fe,m',[]⟩/\dL is fe=vs:=by
 have :=p tm;rw[Fg h0]at this;exact abz this h
noncomputable def codeOk(nt:Nat)(c:Code):Bool:=fS c&&(comp ab nt 1000 c).isSome&&Nat.ble (dZ c).length 99
abbrev vl (f:Nat)(p:List Nat):Prop:=codeOk (j0 f) (oI (cI f) p)=true
theorem gz {c:Code}(h:codeOk nt c=true):fS c=true/\(comp ab nt 1000 c).isSome=true/\(dZ c).length<=99:=by
 unfold codeOk at h;rw[ag,ag]at h;exact⟨h.1.1,h.1.2,af h.2⟩
theorem aU.code{c:Code}{st jX:Ss}{e:Exit}(h:aU K nt c 0 st e jX)(er:codeOk nt c=true):Bm K nt c st e jX:=h.whole (gz er).1 (gz er).2.1
theorem bK {c:Code}{Wv is:List Nat}{Wp vs:List ae}{L:List pX}{e:Exit}{tm:Tm}{m m':Mem}(er:codeOk nt c=true)(p:uM nt c 0 99 Wv Wp L e is vs)(h0:dL Wv tm=Wp)(h:Ch K m L m'):∃fe,Bm K nt c ⟨tm,m,[]⟩ e ⟨fe,m',[]⟩/\dL is fe=vs:=by
 obtain⟨fe,h1,h2⟩:=cX p h0 h;exact⟨fe,(aU.last h1 (gz er).2.2).code er,h2⟩
theorem xJ {a:Code}{Inv:Nat->Tm->Mem->Prop}{dQ:Exit->Tm->Mem->Prop}
  (vG:∀n tm m,Inv n tm m->(∃n' fe m',n'<n/\Bm K nt a ⟨tm,m,[]⟩ .normal ⟨fe,m',[]⟩/\Inv n' fe m')\/∃e fe m',e≠ .normal/\Bm K nt a ⟨tm,m,[]⟩ e ⟨fe,m',[]⟩/\dQ e fe m'):
  ∀{n k:Nat}{tm:Tm}{m:Mem},Inv n tm m->n<k->∃e fe m',e≠ .normal/\ET K nt a k ⟨tm,m,[]⟩ e ⟨fe,m',[]⟩/\dQ e fe m':=by
 intro n
 induction n using Nat.strongRecOn with
 |ind n ih=>
  intro k tm m hi hk;obtain⟨k,rfl⟩:∃j,k=j+1:=⟨k-1,aj⟩;rcases vG n tm m hi with⟨n',fe,m',hn,hx,Ez⟩|⟨e,fe,m',he,hx,hp⟩
  ·obtain⟨e,Rx,m2,he,hl,hp⟩:=ih n' hn (k:=k) Ez aj;exact⟨e,Rx,m2,he,ET.next hx hl,hp⟩
  ·exact⟨e,fe,m',he,ET.out hx he,hp⟩
noncomputable def pJ(nt:Nat)(c b:Code)(i id:Nat):Bool:=(match l9 c i with |some (j,_)=>Nat.beq j id|none=>false)&&codeOk nt b&&(comp ab nt 1000 (.block id (.loop b))).isSome
theorem aU.Cm{c:Code}{i:Nat}{id:Nat}{st jL zS:Ss}{e e':Exit}{b:Code}(hl:l9 c i=some (id,b))(er:pJ nt c b i id=true)(h:ET K nt b 100000 st e' jL)(he:e'= .exit id)(k:aU K nt c (i+1) jL e zS):aU K nt c i st e zS:=by
 unfold pJ at er;rw[ag,ag]at er;exact aU.loop hl h he (gz er.1.2).1 er.2 k
theorem aU.Ud{c:Code}{i:Nat}{id:Nat}{st jL:Ss}{b:Code}(hl:l9 c i=some (id,b))(er:pJ nt c b i id=true)(h:ET K nt b 100000 st .ret jL)(hr:(pZ nt ((dZ c).drop (i+1))).isSome=true):aU K nt c i st .ret jL:=by
 unfold pJ at er;rw[ag,ag]at er;exact aU.Uc hl h (gz er.1.2).1 er.2 hr
end
def entry (args:List ae):Tm:=match Ea args with |some t=>t|none=>lN
noncomputable def NX(nt:Nat):List ResultVar->List Nat->Bool
 | [],[]=>true
 | .tmp t::l,i::is=>Nat.beq t i&&Nat.blt t nt&&NX nt l is
 |_,_=>false
noncomputable def nQ(f n:Nat)(is:List Nat):Bool:=wB f&&codeOk (j0 f) (cI f)&&NX (j0 f) (rsT f) is&&Nat.ble n (j0 f)&&Nat.ble n 16
def afc:List ae->ae
 | [v]=>v
 |vs=> .tuple vs.toArray
theorem NY {nt:Nat}{tm:Tm}{m:Mem}:∀{rs:List ResultVar}{is:List Nat},NX nt rs is=true->vj ab nt m tm rs=some (dL is tm)
 | [],[],_=>rfl
 | .tmp t::l,i::is,h=>by
  unfold NX at h;rw[ag,ag]at h;have :=aA h.1.1;subst this;unfold vj;rw[bC h.1.2,NY h.2];rfl
 | [],_::_,h=>by cases h
 | .tmp _::_,[],h=>by cases h
 | .cell _ _::_,_,h=>by cases h
theorem E4:∀{l:List ae},l.length<=16->∃t,Ea l=some t:=by
 intro l h;have :Ry (Ry l)=[]:=by
  have e:∀l:List ae,ko l=l.drop 1:=fun l=>by cases l<;>rfl
  have e8:∀l:List ae,Ry l=l.drop 8:=fun l=>by unfold Ry;simp only[e,List.drop_drop]
  rw[e8,e8,List.drop_drop];exact List.drop_of_length_le aj
 unfold Ea;rw[this];exact⟨_,rfl⟩
theorem iO {K:gS}{f:Nat}{args:List ae}{m m':Mem}{fe:Tm}{e:Exit}{is:List Nat}{vs:List ae}(er:nQ f args.length is=true)(h:aU K (j0 f) (cI f) 0 ⟨entry args,m,[]⟩ e ⟨fe,m',[]⟩)(he:e= .normal\/e= .ret)(hg:dL is fe=vs)(hs:ja f=false:=by rfl):Ev K f args m (afc vs) m':=by
 unfold nQ at er;simp only[ag]at er;obtain⟨⟨⟨⟨h1,h2⟩,h3⟩,h4⟩,h5⟩:=er;obtain⟨t,ht⟩:=E4 (l:=args) (af h5);have Y7:entry args=t:=by unfold entry;rw[ht]
 rw[Y7]at h;refine O9 h1 (tm:=t) (by rw[bC h4,ht]) (h.code h2) he ?_ hs;unfold lS;rw[NY h3,hg];unfold afc
 match vs with
 | []=>rfl
 | [v]=>rfl
 |v::w::l=>rfl
@[reducible]def bP (x b:Bool):pX:=.cond (.bool x) b
@[reducible]def oZ:pX:=.cond (.bool true) true
@[reducible]def eE:pX:=.cond (.bool false) false
@[reducible]def qZ:ae:=.string .empty
@[reducible]def fE:ae:=.slice none 0 0
@[reducible]noncomputable def oY:pX:=.mem zZ undef
@[reducible]def iF (s:ByteArray):ae:=.string s
@[reducible]def dN (l:List (Option ae))(b:Nat):pX:=.mem (mZ l) (vP b 0)
@[reducible]def jK (b o:Nat)(l:List ae):pX:=.mem (Eb b o l) undef
@[reducible]def iR (n b:Nat)(v:ae):pX:=.mem (eW n b 0) v
@[reducible]noncomputable def rY (t b:Nat)(v:ae):pX:=.mem (oA ab t (vP b 0)) v
theorem fB {f:Nat}{args:List ae}{L:List pX}{v:ae}(h1:wB f=true:=by kernel_rfl)(h2:follow (Zh ab X0 f args) L=some (L,v):=by kernel_rfl):Path f args L v:=⟨h1,h2⟩
theorem jz {nt:Nat}{c:Code}{i j:Nat}{Wv:List Nat}{Wp:List ae}{L:List pX}{e:Exit}{is:List Nat}{vs:List ae}(h:∀g:Tm,aex nt c i j (To Wv Wp g) L e is vs:=by exact fun _=>⟨by kernel_rfl,by kernel_rfl⟩):uM nt c i j Wv Wp L e is vs:=h
end Go.AM
namespace Go.AM
set_option maxRecDepth 1000000
open Go Go.Conc Go.Proofs
section
variable {K:gS}{m:Mem}
theorem aj2 (x:Int):Path 259 [vI x]
 []
 (.bool (tB x x)):=fB
theorem aj1 (a:ByteArray):Path 260 [iF a]
 []
 (.bool ((a.toList==a.toList)==false)):=fB
theorem agE (x y:Int):Path 216 [vI x,vI y]
 [.call 259 [vI x] (.bool false),
  .call 259 [vI y] (.bool false),
  eE,
  eE,
  bP (gB x y) true]
 (vI (-1)):=fB
theorem agF (x y:Int):Path 216 [vI x,vI y]
 [.call 259 [vI x] (.bool false),
  .call 259 [vI y] (.bool false),
  eE,
  eE,
  bP (gB x y) false,
  bP (qE x y) true]
 (vI 1):=fB
theorem agG (x y:Int):Path 216 [vI x,vI y]
 [.call 259 [vI x] (.bool false),
  .call 259 [vI y] (.bool false),
  eE,
  eE,
  bP (gB x y) false,
  bP (qE x y) false]
 (vI 0):=fB
theorem agB (a b:ByteArray)(b1:Bool):Path 217 [iF a,iF b]
 [.call 260 [iF a] (.bool false),
  .call 260 [iF b] (.bool false),
  eE,
  eE,
  .val (jZ ab .lss 9 false false (iF a) (iF b)) (.bool b1),
  bP b1 true]
 (vI (-1)):=fB
theorem agC (a b:ByteArray)(b1 b2:Bool):Path 217 [iF a,iF b]
 [.call 260 [iF a] (.bool false),
  .call 260 [iF b] (.bool false),
  eE,
  eE,
  .val (jZ ab .lss 9 false false (iF a) (iF b)) (.bool b1),
  bP b1 false,
  .val (jZ ab .gtr 9 false false (iF a) (iF b)) (.bool b2),
  bP b2 true]
 (vI 1):=fB
theorem agD (a b:ByteArray)(b1 b2:Bool):Path 217 [iF a,iF b]
 [.call 260 [iF a] (.bool false),
  .call 260 [iF b] (.bool false),
  eE,
  eE,
  .val (jZ ab .lss 9 false false (iF a) (iF b)) (.bool b1),
  bP b1 false,
  .val (jZ ab .gtr 9 false false (iF a) (iF b)) (.bool b2),
  bP b2 false]
 (vI 0):=fB
theorem agz:Path 218 [.bool true]
 [oZ]
 (vI 1):=fB
theorem agA:Path 218 [.bool false]
 [eE]
 (vI 0):=fB
theorem Rd (x:Int):Ev K 259 [vI x] m (.bool false) m:=by
 have h:=aJ (K:=K) (m:=m) (aj2 x) .nil;rwa[tY,w9 de]at h
theorem Rb (a:ByteArray):Ev K 260 [.string a] m (.bool false) m:=by
 have h:=aJ (K:=K) (m:=m) (aj1 a) .nil;rwa[show((a.toList==a.toList)==false)=false by simp]at h
def lL (x y:Int):Int:=if x<y then -1 else if y<x then 1 else 0
theorem ad0 (x y:Int):Ev K 216 [vI x,vI y] m (vI (lL x y)) m:=by
 unfold lL
 split
 ·rename_i h;exact aJ (agE x y) (.call (Rd x)<| .call (Rd y)<| .cond rfl<| .cond rfl<| .cond (by rw[fp,vB h]) .nil)
 ·rename_i h
  split
  ·rename_i h2;exact aJ (agF x y) (.call (Rd x)<| .call (Rd y)<| .cond rfl<| .cond rfl<| .cond (by rw[fp,w9 h])<| .cond (by rw[zr,vB h2]) .nil)
  ·rename_i h2;exact aJ (agG x y) (.call (Rd x)<| .call (Rd y)<| .cond rfl<| .cond rfl<| .cond (by rw[fp,w9 h])<| .cond (by rw[zr,w9 h2]) .nil)
def Dh (a b:ByteArray):Int:=if Op.bytesLess a.toList b.toList then -1 else if Op.bytesLess a.toList b.toList||a.toList==b.toList then 0 else 1
theorem amk (a b:ByteArray):Ev K 217 [.string a,.string b] m (vI (Dh a b)) m:=by
 unfold Dh
 split
 ·rename_i h;exact aJ (agB a b true) (.call (Rb a)<| .call (Rb b)<| .cond rfl<| .cond rfl<| .val (by rw[acJ,h])<| .cond rfl .nil)
 ·rename_i h;have h:Op.bytesLess a.toList b.toList=false:=by simpa using h
  split
  ·rename_i h2;exact aJ (agD a b false false) (.call (Rb a)<| .call (Rb b)<| .cond rfl<| .cond rfl<| .val (by rw[acJ,h])<| .cond rfl<| .val (by rw[ah8,h2];rfl)<| .cond rfl .nil)
  ·rename_i h2;have h2:(Op.bytesLess a.toList b.toList||a.toList==b.toList)=false:=by simpa using h2
   exact aJ (agC a b false true) (.call (Rb a)<| .call (Rb b)<| .cond rfl<| .cond rfl<| .val (by rw[acJ,h])<| .cond rfl<| .val (by rw[ah8,h2];rfl)<| .cond rfl .nil)
def vC (b:Bool):Int:=if b then 1 else 0
theorem aiB (b:Bool):Ev K 218 [.bool b] m (vI (vC b)) m:=by
 cases b
 ·exact aJ agA (.cond rfl .nil)
 ·exact aJ agz (.cond rfl .nil)
theorem acp (p:Nat)(y1:Int):Path 215 [vL p 0 4 4]
 [oZ,
  .idx 0 4 0,
  .mem (aP p 0) (vI y1),
  bP (tB y1 0) true]
 (vI y1):=fB
theorem aco (p:Nat)(y1 y2:Int):Path 215 [vL p 0 4 4]
 [oZ,
  .idx 0 4 0,
  .mem (aP p 0) (vI y1),
  bP (tB y1 0) false,
  oZ,
  .idx 1 4 1,
  .mem (aP p 1) (vI y2),
  bP (tB y2 0) true]
 (vI y2):=fB
theorem acn (p:Nat)(y1 y2 y3:Int):Path 215 [vL p 0 4 4]
 [oZ,
  .idx 0 4 0,
  .mem (aP p 0) (vI y1),
  bP (tB y1 0) false,
  oZ,
  .idx 1 4 1,
  .mem (aP p 1) (vI y2),
  bP (tB y2 0) false,
  oZ,
  .idx 2 4 2,
  .mem (aP p 2) (vI y3),
  bP (tB y3 0) true]
 (vI y3):=fB
theorem acm (p:Nat)(y1 y2 y3 y4:Int):Path 215 [vL p 0 4 4]
 [oZ,
  .idx 0 4 0,
  .mem (aP p 0) (vI y1),
  bP (tB y1 0) false,
  oZ,
  .idx 1 4 1,
  .mem (aP p 1) (vI y2),
  bP (tB y2 0) false,
  oZ,
  .idx 2 4 2,
  .mem (aP p 2) (vI y3),
  bP (tB y3 0) false,
  oZ,
  .idx 3 4 3,
  .mem (aP p 3) (vI y4),
  bP (tB y4 0) true]
 (vI y4):=fB
theorem ack (p:Nat)(y1 y2 y3 y4:Int):Path 215 [vL p 0 4 4]
 [oZ,
  .idx 0 4 0,
  .mem (aP p 0) (vI y1),
  bP (tB y1 0) false,
  oZ,
  .idx 1 4 1,
  .mem (aP p 1) (vI y2),
  bP (tB y2 0) false,
  oZ,
  .idx 2 4 2,
  .mem (aP p 2) (vI y3),
  bP (tB y3 0) false,
  oZ,
  .idx 3 4 3,
  .mem (aP p 3) (vI y4),
  bP (tB y4 0) false,
  eE]
 (vI 0):=fB
theorem akb (a b:V)(bZ dG Ny ZU σ3 σ4 σ5 σ6 im:Nat)(x1 x2 x3 x4 x5 x6 x7:Int):Path 155 [bQ a,bQ b]
 [dN (qj a) bZ,
  dN (qj b) dG,
  .mem (aP bZ 0) (vI a.k),
  .mem (aP dG 0) (vI b.k),
  .mem (aP bZ 1) (vI a.n),
  .mem (gk (vP bZ 1)) (vI Ny),
  .mem (aP dG 1) (vI b.n),
  .mem (gk (vP dG 1)) (vI ZU),
  .mem (aP bZ 2) (iF a.s),
  .mem (gk (vP bZ 2)) (vI σ3),
  .mem (aP dG 2) (iF b.s),
  .mem (gk (vP dG 2)) (vI σ4),
  .mem (aP bZ 3) (.bool a.b),
  .mem (gk (vP bZ 3)) (vI σ5),
  .mem (aP dG 3) (.bool b.b),
  .mem (gk (vP dG 3)) (vI σ6),
  oY,
  .call 216 [vI a.k,vI b.k] (vI x1),
  .mem (cZ (vI Ny) (vP bZ 1) (eI ab 3 (vP bZ 1))) undef,
  .mem (cZ (vI ZU) (vP dG 1) (eI ab 3 (vP dG 1))) undef,
  .mem (cZ (vI σ3) (vP bZ 2) (eI ab 9 (vP bZ 2))) undef,
  .mem (cZ (vI σ4) (vP dG 2) (eI ab 9 (vP dG 2))) undef,
  .mem (cZ (vI σ5) (vP bZ 3) (eI ab 4 (vP bZ 3))) undef,
  .mem (cZ (vI σ6) (vP dG 3) (eI ab 4 (vP dG 3))) undef,
  oY,
  .call 216 [vI a.n,vI b.n] (vI x2),
  .mem (cZ (vI σ3) (vP bZ 2) (eI ab 9 (vP bZ 2))) undef,
  .mem (cZ (vI σ4) (vP dG 2) (eI ab 9 (vP dG 2))) undef,
  .mem (cZ (vI σ5) (vP bZ 3) (eI ab 4 (vP bZ 3))) undef,
  .mem (cZ (vI σ6) (vP dG 3) (eI ab 4 (vP dG 3))) undef,
  oY,
  .call 217 [iF a.s,iF b.s] (vI x3),
  .mem (cZ (vI σ5) (vP bZ 3) (eI ab 4 (vP bZ 3))) undef,
  .mem (cZ (vI σ6) (vP dG 3) (eI ab 4 (vP dG 3))) undef,
  oY,
  .call 218 [.bool a.b] (vI x4),
  .mem (cZ (vI σ6) (vP dG 3) (eI ab 4 (vP dG 3))) undef,
  oY,
  .call 218 [.bool b.b] (vI x5),
  oY,
  .call 216 [vI x4,vI x5] (vI x6),
  .mem (bh ab 22 4 [(0,(vI x1)),(1,(vI x2)),(2,(vI x3)),(3,(vI x6))]) (vL im 0 4 4),
  oY,
  .call 215 [vL im 0 4 4] (vI x7)]
 (vI x7):=fB
def Qa:List Int->Int
 | []=>0
 |x::l=>if x≠0 then x else Qa l
theorem aml {b:Nat}{y1 y2 y3 y4:Int}{c:Nat}(h:Obj m b 1 [vI y1,vI y2,vI y3,vI y4]):Ev K 215 [vL b 0 4 4] m (vI (Qa [y1,y2,y3,y4])) m:=by
 unfold Qa Qa Qa Qa Qa;have t:∀{y:Int},y≠0->ae.bool (tB y 0)= .bool true:=fun h=>by rw[tY,vB h]
 have f:∀{y:Int},¬y≠0->ae.bool (tB y 0)= .bool false:=fun h=>by rw[tY,w9 h]
 split
 ·rename_i h1;exact aJ (acp b y1) (.cond rfl<| .idx rfl eS<| .mem (aN h rfl)<| .cond (t h1) .nil)
 ·rename_i h1
  split
  ·rename_i h2;exact aJ (aco b y1 y2) (.cond rfl<| .idx rfl eS<| .mem (aN h rfl)<| .cond (f h1)<| .cond rfl<| .idx rfl eS<| .mem (aN h rfl)<| .cond (t h2) .nil)
  ·rename_i h2
   split
   ·rename_i h3;exact aJ (acn b y1 y2 y3) (.cond rfl<| .idx rfl eS<| .mem (aN h rfl)<| .cond (f h1)<| .cond rfl<| .idx rfl eS<| .mem (aN h rfl)<| .cond (f h2)<| .cond rfl<| .idx rfl eS<| .mem (aN h rfl)<| .cond (t h3) .nil)
   ·rename_i h3
    split
    ·rename_i h4;exact aJ (acm b y1 y2 y3 y4) (.cond rfl<| .idx rfl eS<| .mem (aN h rfl)<| .cond (f h1)<| .cond rfl<| .idx rfl eS<| .mem (aN h rfl)<| .cond (f h2)<| .cond rfl<| .idx rfl eS<| .mem (aN h rfl)<| .cond (f h3)<| .cond rfl<| .idx rfl eS<| .mem (aN h rfl)<| .cond (t h4) .nil)
    ·rename_i h4;exact aJ (ack b y1 y2 y3 y4) (.cond rfl<| .idx rfl eS<| .mem (aN h rfl)<| .cond (f h1)<| .cond rfl<| .idx rfl eS<| .mem (aN h rfl)<| .cond (f h2)<| .cond rfl<| .idx rfl eS<| .mem (aN h rfl)<| .cond (f h3)<| .cond rfl<| .idx rfl eS<| .mem (aN h rfl)<| .cond (f h4)<| .cond rfl .nil)
theorem ad5 (a b c d:Int):bh ab 22 4 [(0,vI a),(1,vI b),(2,vI c),(3,vI d)] m=some (vL m.next 0 4 4,m.alloc {kind:=1,sz:=1,cs:=[some (vI a),some (vI b),some (vI c),some (vI d)]}):=aY
def kB (a b:V):Int:=Qa [lL a.k b.k,lL a.n b.n,Dh a.s b.s,lL (vC a.b) (vC b.b)]
theorem aiF (g:Gd m)(a b:V):∃m',Ev K 155 [a.val,b.val] m (vI (kB a b)) m'/\Kp m m' fu:=by
 obtain⟨m1,e1,o1,k1,n1,_⟩:=aV g a.cells;obtain⟨m2,e2,o2,k2,n2,_⟩:=aV (g.ext k1) b.cells;have g2:=(g.ext k1).ext k2;have En:=o1.aR k2;obtain⟨o3,k3,n3⟩:=gC g2 (k:={kind:=1,sz:=1,cs:=[some (vI (lL a.k b.k)),some (vI (lL a.n b.n)),some (vI (Dh a.s b.s)),some (vI (lL (vC a.b) (vC b.b)))]}) (cs:=[vI (lL a.k b.k),vI (lL a.n b.n),vI (Dh a.s b.s),vI (lL (vC a.b) (vC b.b))]) rfl rfl rfl;refine⟨_,aJ (akb a b ..) (by
  refine .mem e1<| .mem e2 ?_
  repeat first |exact .nil|refine .cond rfl ?_|refine .mem (bM nV) ?_|refine .mem (aN nV rfl) ?_|refine .mem (bW nV rfl de) ?_|refine .mem (dW _ _) ?_|refine .mem (wE nV rfl rfl) ?_
  refine .call (ad0 _ _) ?_
  repeat first |exact .nil|refine .cond rfl ?_|refine .mem (bM nV) ?_|refine .mem (aN nV rfl) ?_|refine .mem (bW nV rfl de) ?_|refine .mem (dW _ _) ?_|refine .mem (wE nV rfl rfl) ?_
  refine .call (ad0 _ _) ?_
  repeat first |exact .nil|refine .cond rfl ?_|refine .mem (bM nV) ?_|refine .mem (aN nV rfl) ?_|refine .mem (bW nV rfl de) ?_|refine .mem (dW _ _) ?_|refine .mem (wE nV rfl rfl) ?_
  refine .call (amk _ _) ?_
  repeat first |exact .nil|refine .cond rfl ?_|refine .mem (bM nV) ?_|refine .mem (aN nV rfl) ?_|refine .mem (bW nV rfl de) ?_|refine .mem (dW _ _) ?_|refine .mem (wE nV rfl rfl) ?_
  refine .call (aiB _) ?_
  repeat first |exact .nil|refine .cond rfl ?_|refine .mem (bM nV) ?_|refine .mem (aN nV rfl) ?_|refine .mem (bW nV rfl de) ?_|refine .mem (dW _ _) ?_|refine .mem (wE nV rfl rfl) ?_
  refine .call (aiB _) ?_
  repeat first |exact .nil|refine .cond rfl ?_|refine .mem (bM nV) ?_|refine .mem (aN nV rfl) ?_|refine .mem (bW nV rfl de) ?_|refine .mem (dW _ _) ?_|refine .mem (wE nV rfl rfl) ?_
  refine .call (ad0 _ _) (.mem (ad5 ..) (.mem (bM (g2.ext k3)) (.call (aml o3 (c:=4)) .nil)))),(k1.aS k2).aS k3⟩
end
end Go.AM
namespace Go.AM
set_option maxRecDepth 1000000
open Go Go.Conc Go.Proofs
abbrev vU (b:Nat):ae:= .int .u8 b
end Go.AM
namespace Go.AM
set_option maxRecDepth 1000000
open Go Go.Conc Go.Proofs
section
variable {K:gS}{m:Mem}
theorem aiN {a b:Nat}:(ae.bool (gB a b))= .bool (decide (a<b)):=by rw[fp];congr 1;rw[Bool.eq_iff_iff];simp
end
end Go.AM
namespace Go.AM
set_option maxRecDepth 1000000
open Go Go.Conc Go.Proofs
def spL:List ByteArray:=[⟨#[]⟩,⟨#[]⟩,⟨#[]⟩,⟨#[]⟩,⟨#[]⟩,⟨#[40]⟩,⟨#[41]⟩,⟨#[44]⟩,⟨#[46]⟩,⟨#[59]⟩,⟨#[42]⟩,⟨#[61]⟩,⟨#[60,62]⟩,⟨#[60]⟩,⟨#[60,61]⟩,⟨#[62]⟩,⟨#[62,61]⟩,⟨#[43]⟩,⟨#[45]⟩,⟨#[47]⟩,⟨#[37]⟩,⟨#[124,124]⟩,⟨#[65,76,76]⟩,⟨#[65,78,68]⟩,⟨#[65,83]⟩,⟨#[66,79,79,76]⟩,⟨#[67,82,69,65,84,69]⟩,⟨#[70,65,76,83,69]⟩,⟨#[70,82,79,77]⟩,⟨#[73,78,83,69,82,84]⟩,⟨#[73,78,84]⟩,⟨#[73,78,84,79]⟩,⟨#[73,83]⟩,⟨#[74,79,73,78]⟩,⟨#[78,79,84]⟩,⟨#[78,85,76,76]⟩,⟨#[79,78]⟩,⟨#[79,82]⟩,⟨#[82,69,67,85,82,83,73,86,69]⟩,⟨#[83,69,76,69,67,84]⟩,⟨#[84,65,66,76,69]⟩,⟨#[84,69,88,84]⟩,⟨#[84,82,85,69]⟩,⟨#[85,78,73,79,78]⟩,⟨#[86,65,76,85,69,83]⟩,⟨#[87,72,69,82,69]⟩,⟨#[87,73,84,72]⟩]
def Wl (m:Mem):Prop:=Obj m 0 0 (spL.map .string)
theorem Wl.ext{m m':Mem}{S:Nat->Prop}(h:Wl m)(k:Kp m m' S)(hs:¬S 0):Wl m':=Obj.ext h k hs
end Go.AM
namespace Go.AM
set_option maxRecDepth 1000000
open Go Go.Conc Go.Proofs
def wH (l:List UInt8):List ae:=l.map fun b=>vU b.toNat
theorem aeY:ab.underlying 72=some (.slice 5):=aY
theorem ai7:ab.underlying 5=some (.int .u8):=aY
theorem Aa:∀(l:List UInt8),(wH l).mapM (m:=Option) (fun v=>match v with | .int .u8 n=>some (UInt8.ofNat n.toNat)|_=>none)=some l
 | []=>rfl
 |b::l=>by
  show((vU b.toNat::wH l).mapM (m:=Option) _)=_
  rw[List.mapM_cons];have :(UInt8.ofNat ((b.toNat:Int)).toNat)=b:=de;simp only[this,Aa l];rfl
theorem St {m:Mem}{l:List UInt8}{b c sz:Nat}(h:Obj m b sz (wH l)):fN ab 72 9 (vL b 0 l.length c) m=some (.string ⟨l.toArray⟩,m):=by
 unfold fN;simp only[Sg,aeY,ai7];have e:m.dB b 0 l.length=some (wH l):=jx h (by rw[List.drop_zero];exact List.take_of_length_le (by simp[wH])) (by simp[wH]);rw[e];exact congrArg (Option.map fun bs=>(ae.string ⟨bs.toArray⟩,m)) (Aa l)
end Go.AM
namespace Go.AM
set_option maxRecDepth 1000000
open Go Go.Conc Go.Proofs
structure W where
 k:Int
 a:Nat
 z:Nat
 s:ByteArray
 n:Int
theorem ma {m:Mem}{b sz t n:Nat}{cs:List ae}(h:Obj m b sz cs)(hn:cs.length=n)(ht:yv ab t=some true)(hz:ep ab t=some n):oA ab t (vP b 0) m=some (.agg cs.toArray,m):=by
 unfold oA j9;simp only[ht,hz,a9,jx h (o:=0) (n:=n) (by rw[List.drop_zero,<-hn,List.take_length]) aj,cN]
section
variable {K:gS}{m:Mem}
theorem T3 (a b:Nat):RE false a b=((min a b:Nat):Int):=by
 unfold RE;rw[fp]
 by_cases h:(b:Int)<a
 ·rw[vB h];simp only[];omega
 ·rw[w9 h];simp only[];omega
theorem acH (a b:Nat):RE true a b=((max a b:Nat):Int):=by
 unfold RE;rw[fp]
 by_cases h:(b:Int)<a
 ·rw[vB h];simp only[];omega
 ·rw[w9 h];simp only[];omega
end
@[reducible]def zvW (w:W):ae:=.agg #[vI w.k,vI (w.a:Int),vI (w.z:Int),.string w.s,vI w.n]
@[reducible]def zcW (w:W):List ae:=[vI w.k,vI (w.a:Int),vI (w.z:Int),.string w.s,vI w.n]
@[reducible]def zz1:List (Option ae):=[some (vI 0),some (vI 0),some (vI 0),some (.string .empty),some (vI 0)]
end Go.AM
namespace Go.AM
set_option maxRecDepth 1000000
open Go Go.Conc Go.Proofs
structure RS where
 w:W
 d:Int
 e:Int
 p:Int
end Go.AM
namespace Go.AM
set_option maxRecDepth 1000000
open Go Go.Conc Go.Proofs
inductive E where
 |nil
 |bin(op:Int)(l r:E)
 |pre(op:Int)(x:E)
 |KI(x:E)(no:Bool)
 |lit(v:V)
 |ref(s c:ByteArray)
abbrev Bz (s:ByteArray):ae:= .string s
section
variable {K:gS}{m:Mem}{r:Nat}{T:ByteArray}{s s':RS}
theorem Pw:yv ab 49=some true/\ep ab 49=some 4:=⟨aY,aY⟩
end
end Go.AM
namespace Go.AM
set_option maxRecDepth 1000000
open Go Go.Conc Go.Proofs
def dOk (s:RS):Prop:=0<=s.d/\s.d<100
instance ai4 (s:RS):Decidable (dOk s):=by unfold dOk;infer_instance
end Go.AM
namespace Go.AM
set_option maxRecDepth 1000000
open Go Go.Conc Go.Proofs
theorem Zi (l:List ae):∀(k:Nat) (arr:Array ae),k+l.length<=arr.size->((l.zipIdx k).foldl (fun cs (x:ae×Nat)=>cs.setIfInBounds x.2 x.1) arr).size=arr.size/\
  ∀i:Nat,((l.zipIdx k).foldl (fun cs (x:ae×Nat)=>cs.setIfInBounds x.2 x.1) arr)[i]?=if k<=i/\i<k+l.length then l[i-k]? else arr[i]?:=by
 induction l with
 |nil=>intro k arr h;exact⟨rfl,fun i=>by rw[bS (by simp only[List.length_nil];omega)];rfl⟩
 |cons v l ih=>
  intro k arr h;simp only[List.length_cons]at h;rw[List.zipIdx_cons,List.foldl_cons];obtain⟨h1,h2⟩:=ih (k+1) (arr.setIfInBounds k v) (by simp;omega);refine⟨by rw[h1];simp,fun i=>?_⟩;rw[h2 i,Array.getElem?_setIfInBounds];simp only[List.length_cons]
  by_cases hk:k=i
  ·subst hk;rw[bS aj,bC rfl,bC aj,bC aj];simp
  ·by_cases hi:k+1<=i/\i<k+1+l.length
   ·rw[bC hi,bC aj];obtain⟨j,rfl⟩:∃j,i=k+1+j:=⟨i-(k+1),aj⟩;rw[show k+1+j-(k+1)=j by omega,show k+1+j-k=j+1 by omega];rfl
   ·rw[bS hi,bS hk,bS aj]
theorem bs1 {m:Mem}{t sz:Nat}{v:ae}(ht:sN.contains (t,sz)=true)(hv:v.cells.size=sz)(hs:sz<=6):bh ab t 1 [(0,v)] m=some (vL m.next 0 1 1,m.alloc {kind:=1,sz:=sz,cs:=v.cells.toList.map some}):=by
 have :=aB.1 Pv (t,sz) (by simpa using ht);unfold aeg at this
 split at this
 ·rename_i e he;rw[ag,ag]at this;obtain⟨⟨h1,h0⟩,h2⟩:=this;have h1:ep ab e=some sz:=by simpa using h1
  split at h2
  ·rename_i i hi;rw[ag]at h2;obtain⟨z,hz⟩:=iA.1 h2.2;unfold bh;simp only[he,h1,hz];rw[bS (by rw[Nat.one_mul];intro h;exact h.elim (fun h=>by omega) (fun h=>absurd h eS))];unfold Instr.fill;simp only[Nat.zero_mul,Nat.zero_add,Nat.one_mul];rw[bS (by simp[hv])];unfold Instr.fill;simp only[cN];have key:=Zi v.cells.toList 0 ((Array.range sz).map (z.cells[·%z.cells.size]!)) (by simp[hv]);have e3:(Array.foldl (fun cs (x:ae×Nat)=>match x with |(c,j)=>cs.setIfInBounds j c) ((Array.range sz).map (z.cells[·%z.cells.size]!)) v.cells.zipIdx)=v.cells:=by
    rw[show v.cells.zipIdx=(v.cells.toList.zipIdx).toArray from by apply Array.toList_inj.1;rw[Array.toList_zipIdx],List.foldl_toArray];apply Array.ext_getElem?;intro i;refine(key.2 i).trans ?_
    by_cases hi:i<sz
    ·rw[bC ⟨aj,by simp[hv];omega⟩];simp
    ·rw[bS (by simp[hv];omega),Array.getElem?_eq_none (by simp;omega),Array.getElem?_eq_none aj]
   exact congrArg (fun c:Array ae=>some (vL m.next 0 1 1,m.alloc {kind:=1,sz:=sz,cs:=c.toList.map some})) e3
  ·cases h2
 ·cases this
theorem Ky {m:Mem}(g:Gd m){t sz n b len:Nat}{x:ae}{old new:List ae}(ht:sN.contains (t,sz)=true)(ho:Obj m b sz old)(YS:old.length=len*sz)(hn:n≠0)(hx:nj m x sz n new)
  (h1:∀y∈new,y.oneCell'=true)(hb:len+n<=2^30):
  ∃m',cK ab #[t,t] (vL b 0 len len) x m=some (vL m.next 0 (len+n) cD,m')/\Obj m' m.next sz (old++new)/\Kp m m' fu/\m'.next=m.next+1:=by
 obtain⟨e,h3,h4,h0,h5⟩:=uK ht;have hf:=mP hx;have hl:=hx.UB;have hlen:new.length=n*sz:=hx.1;have lK:(new.all (·.oneCell'))=true:=aB.2 h1;have e0:kA m sz len (vL b 0 len len)=some old:=mP (ho.sl YS (.inr rfl));obtain⟨k1,k2,k3⟩:=gC g (k:={kind:=1,sz:=sz,cs:=(old++new).map some}) (cs:=old++new) rfl rfl rfl;refine⟨_,?_,k1,k2,k3⟩;unfold cK;simp only[show(#[t,t]:Array aM)[0]?=some t from rfl,show(#[t,t]:Array aM)[1]?=some t from rfl,a9,h3,h4,hl,hf];have hI:len≠cD:=fun e=>absurd hb (by rw[e];intro h;exact absurd (cp (Nat.le_add_right _ _) h) eS)
 rw[bS (by rw[h5 _ aj,hlen,lK];simp),bS hI,bS aj];simp only[e0];rw[bC YS]
end Go.AM
namespace Go.AM
set_option maxRecDepth 1000000
open Go Go.Conc Go.Proofs
structure nU (α:Type) where
 R:(Nat->Prop)->α->Mem->ae->Prop
 mono:∀{B B':Nat->Prop}{x:α}{m:Mem}{v:ae},R B x m v->(∀b,B b->B' b)->R B' x m v
 ext:∀{B S:Nat->Prop}{x:α}{m m':Mem}{v:ae},R B x m v->Kp m m' S->(∀b,B b->¬S b)->R B x m' v
def iS (m m':Mem)(b:Nat):Prop:=m.next<=b/\b<m'.next
def jq {α:Type}(val:α->ae):nU α:=⟨fun _ x _ v=>v=val x,fun h _=>h,fun h _ _=>h⟩
def cA {α:Type}(Q:α->ae->Prop):List α->List ae->Prop
 | [],cs=>cs=[]
 |x::l,cs=>∃v rest,cs=v.cells.toList++rest/\Q x v/\cA Q l rest
theorem cA.mono{α:Type}{Q Q':α->ae->Prop}:∀{l:List α}{cs:List ae},cA Q l cs->(∀x v,x∈l->Q x v->Q' x v)->cA Q' l cs
 | [],cs,h,_=>h
 |x::l,cs,h,k=>by
  obtain⟨v,rest,e,q,h⟩:=h;exact⟨v,rest,e,k x v (List.mem_cons_self ..) q,h.mono fun x v hx=>k x v (List.mem_cons_of_mem _ hx)⟩
theorem cA.snoc{α:Type}{Q:α->ae->Prop}{x:α}{v:ae}(hq:Q x v):∀{l:List α}{cs:List ae},cA Q l cs->cA Q (l++[x]) (cs++v.cells.toList)
 | [],cs,h=>by
  have h:cs=[]:=h;subst h;exact⟨v,[],de,hq,rfl⟩
 |y::l,cs,h=>by
  obtain⟨u,rest,rfl,q,h⟩:=h;exact⟨u,rest++v.cells.toList,by rw[List.append_assoc],q,h.snoc hq⟩
def okV (sz:Nat)(v:ae):Prop:=v.cells.size=sz/\∀y∈v.cells.toList,y.oneCell'=true
theorem cA.one{α:Type}{Q:α->ae->Prop}{sz:Nat}:∀{l:List α}{cs:List ae},cA (fun x v=>Q x v/\okV sz v) l cs->cs.length=l.length*sz/\∀y∈cs,y.oneCell'=true
 | [],cs,h=>by have h:cs=[]:=h;subst h;simp
 |x::l,cs,h=>by
  obtain⟨u,rest,rfl,q,h⟩:=h;obtain⟨h1,h2⟩:=h.one;refine⟨by simp[h1,q.2.1,Nat.add_mul];omega,fun y hy=>?_⟩;rcases List.mem_append.1 hy with hy|hy
  ·exact q.2.2 y hy
  ·exact h2 y hy
def aT {α:Type}(E:nU α)(sz:Nat):nU (List α) where
 R B l m v:=∃cs,nj m v sz l.length cs/\(∀b o n c,v=vL b o n c->B b)/\cA (fun x u=>E.R B x m u/\okV sz u) l cs
 mono:=by
  rintro B B' x m v ⟨cs,h1,h2,h3⟩ k;exact⟨cs,h1,fun b o n c e=>k b (h2 b o n c e),h3.mono fun x u _ q=>⟨E.mono q.1 k,q.2⟩⟩
 ext:=by
  rintro B S x m m' v ⟨cs,h1,h2,h3⟩ k hs;exact⟨cs,h1.ext k fun b o n c e=>hs b (h2 b o n c e),h2,h3.mono fun x u _ q=>⟨E.ext q.1 k hs,q.2⟩⟩
end Go.AM
namespace Go.AM
set_option maxRecDepth 1000000
open Go Go.Conc Go.Proofs
theorem nj.kI{m:Mem}{v:ae}{sz n:Nat}{cs:List ae}(h:nj m v sz n cs):kI v=true/\v.oneCell'=true:=by
 rcases h with⟨hl,⟨rfl,rfl⟩|⟨b,c,rfl,ho,_⟩⟩<;>exact⟨rfl,rfl⟩
theorem aT.kI{α:Type}{E:nU α}{sz:Nat}{B:Nat->Prop}{l:List α}{m:Mem}{v:ae}(h:(aT E sz).R B l m v):Go.AM.kI v=true/\v.oneCell'=true:=by
 obtain⟨cs,h,_⟩:=h;exact h.kI
theorem aT.nil{α:Type}{E:nU α}{sz:Nat}{B:Nat->Prop}{m:Mem}:(aT E sz).R B [] m (.slice none 0 0):=⟨[],nj.nil,fun b o n c e=>(by cases e),rfl⟩
end Go.AM
namespace Go.AM
set_option maxRecDepth 1000000
open Go Go.Conc Go.Proofs
structure KY where
 n:ByteArray
 k:Int
abbrev KY.val(c:KY):ae:= .agg #[.string c.n,vI c.k]
def qF:nU (List KY):=aT (jq KY.val) 2
end Go.AM
namespace Go.AM
set_option maxRecDepth 1000000
open Go Go.Conc Go.Proofs
inductive X where
 |bin(op:Int)(l r:X)
 |no(x:X)
 |KI(x:X)
 |lit(v:V)
 |jO(p:Nat)(i j:Int)
def XR (B:Nat->Prop):X->Mem->ae->Prop
 | .bin op l r,m,v=>∃b lv rv,v= .iface 305 (vP b 0)/\B b/\Obj m b 0 [vI op,lv,rv]/\XR B l m lv/\XR B r m rv
 | .no x,m,v=>∃b xv,v= .iface 390 (vP b 0)/\B b/\Obj m b 0 [xv]/\XR B x m xv
 | .KI x,m,v=>∃b xv,v= .iface 393 (vP b 0)/\B b/\Obj m b 0 [xv]/\XR B x m xv
 | .lit u,m,v=>∃b,v= .iface 317 (vP b 0)/\B b/\Obj m b 0 u.cells
 | .jO p i j,m,v=>∃b,v= .iface 396 (vP b 0)/\B b/\Obj m b 0 [vP p 0,vI i,vI j]
theorem XR.mono{B B':Nat->Prop}(k:∀b,B b->B' b):∀{x:X}{m:Mem}{v:ae},XR B x m v->XR B' x m v
 | .bin ..,_,_,⟨b,lv,rv,e,hb,o,h1,h2⟩=>⟨b,lv,rv,e,k b hb,o,XR.mono k h1,XR.mono k h2⟩
 | .no ..,_,_,⟨b,xv,e,hb,o,h⟩=>⟨b,xv,e,k b hb,o,XR.mono k h⟩
 | .KI ..,_,_,⟨b,xv,e,hb,o,h⟩=>⟨b,xv,e,k b hb,o,XR.mono k h⟩
 | .lit ..,_,_,⟨b,e,hb,o⟩=>⟨b,e,k b hb,o⟩
 | .jO ..,_,_,⟨b,e,hb,o⟩=>⟨b,e,k b hb,o⟩
theorem XR.ext{B S:Nat->Prop}{m m':Mem}(k:Kp m m' S)(hs:∀b,B b->¬S b):∀{x:X}{v:ae},XR B x m v->XR B x m' v
 | .bin ..,_,⟨b,lv,rv,e,hb,o,h1,h2⟩=>⟨b,lv,rv,e,hb,o.ext k (hs b hb),XR.ext k hs h1,XR.ext k hs h2⟩
 | .no ..,_,⟨b,xv,e,hb,o,h⟩=>⟨b,xv,e,hb,o.ext k (hs b hb),XR.ext k hs h⟩
 | .KI ..,_,⟨b,xv,e,hb,o,h⟩=>⟨b,xv,e,hb,o.ext k (hs b hb),XR.ext k hs h⟩
 | .lit ..,_,⟨b,e,hb,o⟩=>⟨b,e,hb,o.ext k (hs b hb)⟩
 | .jO ..,_,⟨b,e,hb,o⟩=>⟨b,e,hb,o.ext k (hs b hb)⟩
def nR:nU X:=⟨XR,fun h k=>XR.mono k h,fun h k hs=>XR.ext k hs h⟩
theorem XR.form{B:Nat->Prop}{x:X}{m:Mem}{v:ae}(h:XR B x m v):∃t b,v= .iface t (vP b 0):=by
 cases x with
 |bin op l r=>obtain⟨b,_,_,e,_⟩:=h;exact⟨_,b,e⟩
 |no x=>obtain⟨b,_,e,_⟩:=h;exact⟨_,b,e⟩
 |KI x=>obtain⟨b,_,e,_⟩:=h;exact⟨_,b,e⟩
 |lit v=>obtain⟨b,e,_⟩:=h;exact⟨_,b,e⟩
 |jO p i j=>obtain⟨b,e,_⟩:=h;exact⟨_,b,e⟩
end Go.AM
namespace Go.AM
set_option maxRecDepth 1000000
open Go Go.Conc Go.Proofs
theorem nj.form{m:Mem}{v:ae}{sz n:Nat}{cs:List ae}(h:nj m v sz n cs):∃a c,v= .slice a n c:=by
 rcases h with⟨_,⟨rfl,rfl⟩|⟨b,c,rfl,_⟩⟩<;>exact⟨_,_,rfl⟩
theorem nj.pos{m:Mem}{v:ae}{sz n j:Nat}{cs:List ae}(h:nj m v sz n cs)(hj:j<n):∃b c,v=vL b 0 n c/\Obj m b sz cs:=by
 rcases h with⟨_,⟨rfl,rfl⟩|⟨b,c,rfl,o,_⟩⟩
 ·omega
 ·exact⟨b,c,rfl,o⟩
theorem aT.form{α:Type}{E:nU α}{sz:Nat}{B:Nat->Prop}{l:List α}{m:Mem}{v:ae}(h:(aT E sz).R B l m v):∃a c,v= .slice a l.length c:=by
 obtain⟨cs,h,_⟩:=h;exact h.form
theorem cA.len{α:Type}{Q:α->ae->Prop}{sz:Nat}{l:List α}{cs:List ae}(h:cA (fun x v=>Q x v/\okV sz v) l cs):cs.length=l.length*sz:=h.one.1
theorem cA.get{α:Type}{Q:α->ae->Prop}{sz:Nat}:∀{l:List α}{cs:List ae}{j:Nat},cA (fun x v=>Q x v/\okV sz v) l cs->(h:j<l.length)->∃v,(cs.drop (j*sz)).take sz=v.cells.toList/\Q l[j] v/\okV sz v
 | [],_,_,_,h=>by simp at h
 |x::l,cs,0,hc,h=>by
  obtain⟨v,rest,rfl,q,hr⟩:=hc;exact⟨v,by rw[Nat.zero_mul,List.drop_zero,List.take_left' (by simp[q.2.1])],q.1,q.2⟩
 |x::l,cs,j+1,hc,h=>by
  obtain⟨v,rest,rfl,q,hr⟩:=hc;obtain⟨u,h1,h2,h3⟩:=hr.get (j:=j) (by simpa using h);refine⟨u,?_,h2,h3⟩;rw[Nat.add_mul,Nat.one_mul,Nat.add_comm,<-List.drop_drop,List.drop_left' (by simp[q.2.1]),h1]
theorem aT.get{α:Type}{E:nU α}{sz:Nat}{B:Nat->Prop}{l:List α}{m:Mem}{v:ae}{j:Nat}(h:(aT E sz).R B l m v)(hj:j<l.length):
  ∃b c u cs,v=vL b 0 l.length c/\B b/\Obj m b sz cs/\(cs.drop (j*sz)).take sz=u.cells.toList/\j*sz+sz<=cs.length/\E.R B l[j] m u/\okV sz u:=by
 obtain⟨cs,h1,h2,h3⟩:=h;obtain⟨b,c,rfl,o⟩:=h1.pos hj;obtain⟨u,e,q,ok⟩:=h3.get hj;refine⟨b,c,u,cs,rfl,h2 _ _ _ _ rfl,o,e,?_,q,ok⟩;rw[h3.len];have :(j+1)*sz<=l.length*sz:=Nat.mul_le_mul_right _ hj;rw[Nat.add_mul,Nat.one_mul]at this;exact this
end Go.AM
namespace Go.AM
set_option maxRecDepth 1000000
open Go Go.Conc Go.Proofs
theorem fL {K:gS}{nt:Nat}{a:Code}{Inv:Nat->Tm->Mem->Prop}{dQ:Exit->Tm->Mem->Prop}(n:Nat)
  (vG:∀j tm m,j<n->Inv j tm m->(∃fe m',Bm K nt a ⟨tm,m,[]⟩ .normal ⟨fe,m',[]⟩/\Inv (j+1) fe m')\/∃e fe m',e≠ .normal/\Bm K nt a ⟨tm,m,[]⟩ e ⟨fe,m',[]⟩/\dQ e fe m')
  (Hh:∀tm m,Inv n tm m->∃e fe m',e≠ .normal/\Bm K nt a ⟨tm,m,[]⟩ e ⟨fe,m',[]⟩/\dQ e fe m')
  {tm:Tm}{m:Mem}(h0:Inv 0 tm m)(hn:n<90000):∃e fe m',e≠ .normal/\ET K nt a 100000 ⟨tm,m,[]⟩ e ⟨fe,m',[]⟩/\dQ e fe m':=
 xJ (Inv:=fun k tm m=>∃j,k=n-j/\j<=n/\Inv j tm m) (dQ:=dQ)
  (by
   rintro k tm m ⟨j,rfl,hj,hi⟩
   by_cases h:j<n
   ·rcases vG j tm m h hi with⟨fe,m',hx,Ez⟩|h
    ·exact .inl ⟨_,fe,m',aj,hx,j+1,rfl,h,Ez⟩
    ·exact .inr h
   ·have :j=n:=aj;subst this;exact .inr (Hh tm m hi))
  (n:=n) (k:=100000) ⟨0,aj,aj,h0⟩ aj
theorem Jf {j n:Nat}(h:j<n):(.bool (gB j n):ae)= .bool true:=by rw[aiN,vB h]
theorem T9 (n:Nat):(.bool (gB n n):ae)= .bool false:=by rw[aiN,w9 aj]
theorem add1 {j:Nat}(h:j<90000):fg j 1=((j+1:Nat):Int):=by rw[qK ⟨aj,aj⟩];rfl
def cV:V:=⟨0,0,.empty,false⟩
section
variable {K:gS}{m:Mem}{c:Nat}{M1 M2:ae}{f:Int}{B:Nat->Prop}
theorem aic {cs vs:List ae}{a n i:Nat}(h:(cs.drop a).take n=vs)(hi:i<n):cs[a+i]?=vs[i]?:=by
 rw[<-h,List.getElem?_take_of_lt hi,List.getElem?_drop]
end
end Go.AM
