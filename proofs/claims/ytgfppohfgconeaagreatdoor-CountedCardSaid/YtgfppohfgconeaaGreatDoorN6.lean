/-
  What the claim stands on, part 6.
-/
import Derived.Test.YtgfppohfgconeaaGreatDoorN5
import Derived.Laws.StructEq
set_option linter.unusedVariables false
set_option linter.unusedSimpArgs false
open Go.Proofs.Tryz renaming prog → ab
open Go renaming Value → ae, World → ay, Program → aD, TypeId → aM, IntKind → bX, Operand → cd, Oper → im
open Nat renaming le_of_ble_eq_true → af, le_refl → ai, eq_of_beq_eq_true → az, lt_of_lt_of_le → a8, le_trans → cF
open Bool renaming and_eq_true → ag, false_eq_true → bO
open Option.some renaming injEq → ah
open Prod.mk renaming injEq → au
open Option renaming map_eq_some_iff → aB, bind_some → aX, map_some → cT, isSome_iff_exists → iz
open List renaming all_eq_true → aE
namespace Go.AM
open Go
inductive T (α:Type) where
 |done(a:α)
 |fail
 |mem(f:Mem->Option (ae×Mem))(k:ae->T α)
 |call(f:Nat)(args:List ae)(k:ae->T α)
 |fw(fv:ae)(args:List ae)(k:ae->T α)
 |eE(r:Option (Nat×ae))(args:List ae)(k:ae->T α)
 |val(r:Option ae)(k:ae->T α)
 |cond(v:ae)(k:Bool->T α)
 |idx(n:Int)(len:Nat)(k:Nat->T α)
def den {R:Type}(cl:bJ):T R->Mem->Option (R×Mem)
 | .done a,m=>some (a,m)
 | .fail,_=>none
 | .mem f k,m=>match f m with |some (v,m')=>den cl (k v) m'|none=>none
 | .call f args k,m=>match cl f args m with |some (v,m')=>den cl (k v) m'|none=>none
 | .fw fv args k,m=>match fv with
  | .func (.func f) first cap=>(match cl f (first.toList++args++cap.toList) m with |some (v,m')=>den cl (k v) m'|none=>none)
  |_=>none
 | .eE r args k,m=>match r with
  |some (f,recv)=>(match cl f (recv::args) m with |some (v,m')=>den cl (k v) m'|none=>none)
  |none=>none
 | .val r k,m=>match r with |some v=>den cl (k v) m|none=>none
 | .cond v k,m=>match v with | .bool b=>den cl (k b) m|_=>none
 | .idx n len k,m=>match n with | .ofNat i=>(match Nat.blt i len with |true=>den cl (k i) m|false=>none)| .negSucc _=>none
section
variable {R:Type}
def It (p:ae)(k:Nat->Nat->T R):T R:=match p with | .pointer (some ⟨b,o,none⟩)=>k b o|_=> .fail
def oB (x y:ae)(k:bX->Int->Int->T R):T R:=
 match x with
 | .int a i=>match y with
  | .int b j=>match Nat.beq (xg a) (xg b)with |true=>k a i j|false=> .fail
  |_=> .fail
 |_=> .fail
def H3 (x y:ae)(k:ByteArray->ByteArray->T R):T R:=
 match x with
 | .string a=>match y with
  | .string b=>k a b
  |_=> .fail
 |_=> .fail
def Ll (r:Option ae)(k:ae->T R):T R:=match r with |some v=>k v|none=> .fail
def qF (q:Int->Int->Option Nat)(f:Int->Int->Int)(a:bX)(i j:Int):Int:=
 match q i j with
 |some n=>match Nat.blt n (iI a)with |true=> .ofNat n|false=>a.wrap (f i j)
 |none=>a.wrap (f i j)
def Kl (od:Bool)(i j:Int):Int:=
 match eX j i with
 |true=>match od with |true=>i|false=>j
 |false=>match od with |true=>j|false=>i
def cU (s:ByteArray)(i:Nat):Nat:=match sr s.data.toList i with |some b=>b.toNat|none=>0
def adI (x:cd):cd:=match x with | .const _=> .const .nilFunc|_=> .tmp 0
def adJ (c:Bool):cd:=match c with |true=> .const .nilFunc|false=> .tmp 0
def pu (P:aD)(lG:List ae)(s:Sem ae):Option ae:=
 match lG.all plain with
 |true=>match s.aI P with
  |some v=>match plain v with |true=>some v|false=>none
  |none=>none
 |false=>none
def jC (P:aD)(op:BinOp)(t:aM)(cx cy:Bool)(a b:ae):Option ae:=pu P [a,b] (do eqGuard op t (adJ cx) (adJ cy) a b;binOp op t a b)
def eq2 (P:aD)(op:BinOp)(t:aM)(cx cy:Bool)(a b:ae)(k:ae->T R):T R:=
 match op with
 | .eql=>(match rC P t cx cy a b with |some v=>k (.bool v)|none=> .val (jC P op t cx cy a b) k)
 | .neq=>(match rC P t cx cy a b with |some v=>k (.bool (!v))|none=> .val (jC P op t cx cy a b) k)
 |_=> .val (jC P op t cx cy a b) k
def aT (b o:Nat)(m:Mem):Option (ae×Mem):=
 match m.blk b with
 |⟨1,_,cs,_,_,_,_,_⟩=>match Ot m b o 1 with
  |true=>match JE o cs with
   |some v::_=>some (v,m)
   |_=>none
  |false=>none
 |_=>none
def fg (n b o:Nat)(m:Mem):Option (ae×Mem):=match m.dv b o n with |some l=>some (.agg l.toArray,m)|none=>none
def jI (b o:Nat)(v:ae)(m:Mem):Option (ae×Mem):=
 match mH v with
 |false=>none
 |true=>match m.blk b with
  |⟨1,sz,cs,es,c,str,pos,_⟩=>match P1 m b o with
   |true=>match vB o cs v with
    |some gL=>some (undef,{m with heap:=m.heap.put b ⟨1,sz,gL,es,c,str,pos,m.tick⟩,tick:=Nat.succ m.tick})
    |none=>none
   |false=>none
  |_=>none
def Az (b o:Nat)(vs:List ae)(m:Mem):Option (ae×Mem):=match m.dD b o vs with |some m'=>some (undef,m')|none=>none
def ni (cs:List (Option ae))(m:Mem):Option (ae×Mem):=
 some (ptrTo m.next 0,{m with heap:=m.heap.put m.next ⟨1,0,cs,#[],0,.empty,1,m.tick⟩,tick:=Nat.succ m.tick,next:=Nat.succ m.next})
def oc (P:aD)(t:aM)(x:ae)(lo hi:Option ae)(m:Mem):Option (ae×Mem):=match iR P t x lo hi m with |some v=>some (v,m)|none=>none
def xq (P:aD)(t:aM)(x k:ae)(ok:Bool)(m:Mem):Option (ae×Mem):=match gW P t x k ok m with |some v=>some (v,m)|none=>none
def yO (P:aD)(t:aM)(x k v:ae)(m:Mem):Option (ae×Mem):=match iV P t x k v m with |some m'=>some (undef,m')|none=>none
def xm (m:Mem):Option (ae×Mem):=some (.map (some m.next),m.alloc {kind:=2})
def uI (P:aD)(first :Array ae)(name:String)(v:ae):Option ae:=
 match(first[0]?:Option ae)with
 |some r=>match(dN P r name).isSome with |true=>some v|false=>none
 |none=>none
def j0 (q:Nat->Nat->Nat)(a:bX)(i j:Int)(d:Option ae):Option ae:=
 match i with
 | .ofNat i=>match j with
  | .ofNat (j+1)=>match Nat.blt i (iI a)with |true=>some (.int a (.ofNat (q i (Nat.succ j))))|false=>d
  |_=>d
 |_=>d
def J6 (q:Nat->Nat->Nat)(a:bX)(i j:Int)(d:Option ae):Option ae:=
 match i with
 | .ofNat i=>match j with
  | .ofNat j=>match Nat.blt i (iI a)&&Nat.blt j (iI a)with |true=>some (.int a (.ofNat (q i j)))|false=>d
  |_=>none
 |_=>d
def uj (a b:ByteArray):Option ae:=match Nat.blt (a.size+b.size) 9223372036854775808 with |true=>some (.string (a++b))|false=>none
abbrev Ds (R:Type):=Tm->(ae->T R)->T R
def adS (P:aD)(op:BinOp)(t:aM)(cx cy:Bool)(x y:kA):Ds R:=
 match P.underlying t with
 |some (.int _)=>match op with
  | .lss=>fun tm k=>oB (x tm) (y tm) fun _ i j=>k (.bool (eX i j))
  | .leq=>fun tm k=>oB (x tm) (y tm) fun _ i j=>k (.bool (GH i j))
  | .gtr=>fun tm k=>oB (x tm) (y tm) fun _ i j=>k (.bool (sV i j))
  | .geq=>fun tm k=>oB (x tm) (y tm) fun _ i j=>k (.bool (xJ i j))
  | .eql=>fun tm k=>oB (x tm) (y tm) fun _ i j=>k (.bool (cN i j))
  | .neq=>fun tm k=>oB (x tm) (y tm) fun _ i j=>k (.bool (sT i j))
  | .add=>fun tm k=>oB (x tm) (y tm) fun a i j=>k (.int a (qF uw Int.add a i j))
  | .sub=>fun tm k=>oB (x tm) (y tm) fun a i j=>k (.int a (qF vy Int.sub a i j))
  | .mul=>fun tm k=>oB (x tm) (y tm) fun a i j=>k (.int a (qF Gp Int.mul a i j))
  | .or=>fun tm k=>oB (x tm) (y tm) fun a i j=> .val (J6 Nat.lor a i j (jC P op t cx cy (x tm) (y tm))) k
  | .and=>fun tm k=>oB (x tm) (y tm) fun a i j=> .val (J6 Nat.land a i j (jC P op t cx cy (x tm) (y tm))) k
  | .xor=>fun tm k=>oB (x tm) (y tm) fun a i j=> .val (J6 Nat.xor a i j (jC P op t cx cy (x tm) (y tm))) k
  | .quo=>fun tm k=>oB (x tm) (y tm) fun a i j=> .val (j0 Nat.div a i j (jC P op t cx cy (x tm) (y tm))) k
  | .rem=>fun tm k=>oB (x tm) (y tm) fun a i j=> .val (j0 Nat.mod a i j (jC P op t cx cy (x tm) (y tm))) k
  |_=>fun tm k=> .val (jC P op t cx cy (x tm) (y tm)) k
 |some .string=>match op with
  | .eql=>fun tm k=>H3 (x tm) (y tm) fun a b=>k (.bool ((a.toList==b.toList)==true))
  | .neq=>fun tm k=>H3 (x tm) (y tm) fun a b=>k (.bool ((a.toList==b.toList)==false))
  | .add=>fun tm k=>H3 (x tm) (y tm) fun a b=> .val (uj a b) k
  |_=>fun tm k=> .val (jC P op t cx cy (x tm) (y tm)) k
 |_=>fun tm k=>eq2 P op t cx cy (x tm) (y tm) k
def loadT (P:aD)(t:aM)(x:kA):Option (Ds R):=
 match wq P t with
 |some true=>match dV P t with
  |some n=>some fun tm k=>It (x tm) fun b o=> .mem (fg n b o) k
  |none=>none
 |some false=>some fun tm k=>It (x tm) fun b o=> .mem (aT b o) k
 |none=>none
def storeT (P:aD)(t:aM)(p x:kA):Option (Ds R):=
 match dV P t with
 |some n=>match wq P t with
  |some true=>some fun tm k=>It (p tm) fun b o=>match x tm with
   | .agg cs=>(match Nat.beq n cs.size with |true=> .mem (Az b o cs.toList) k|false=> .fail)
   |_=> .fail
  |some false=>match Nat.beq n 1 with |true=>some fun tm k=>It (p tm) fun b o=> .mem (jI b o (x tm)) k|false=>none
  |none=>none
 |none=>none
def vS (P:aD)(s:aM)(p:kA)(f:Nat):Option (Ds R):=
 match P.underlying s with
 |some (.struct fields)=>match fields[f]? with
  |some fd=>match dV P fd.type with
   |some (_+1)=>some fun tm k=>It (p tm) fun b o=>k (ptrTo b (Nat.add o fd.offset))
   |_=>none
  |none=>none
 |_=>none
def vK (P:aD)(t:aM)(x i:kA):Option (Ds R):=
 match P.underlying t with
 |some (.slice e)=>match dV P e with
  |some s=>some fun tm k=>match x tm with
   | .slice (some ⟨b,o,none⟩) len _=>(match i tm with | .int _ n=> .idx n len fun j=>k (ptrTo b (Nat.add o (Nat.mul j s)))|_=> .fail)
   |_=> .fail
  |none=>none
 |some (.array len e)=>match dV P e with
  |some s=>some fun tm k=>It (x tm) fun b o=>match i tm with | .int _ n=> .idx n len fun j=>k (ptrTo b (Nat.add o (Nat.mul j s)))|_=> .fail
  |none=>none
 |_=>none
def LR (P:aD)(t:aM)(x i:kA):Option (Ds R):=
 match P.underlying t with
 |some .string=>some fun tm k=>match x tm with
  | .string s=>(match i tm with | .int _ n=> .idx n s.size fun j=>k (.int .u8 (.ofNat (cU s j)))|_=> .fail)
  |_=> .fail
 |_=>some fun tm k=>Ll (vM P t (x tm) (i tm)) k
def acE (P:aD)(t:aM)(x:kA):Option (Ds R):=
 match P.underlying t with
 |some .string=>some fun tm k=>match x tm with | .string s=>k (.int .i64 (.ofNat s.size))|_=> .fail
 |some (.slice _)=>some fun tm k=>match x tm with | .slice _ n _=>k (.int .i64 (.ofNat n))|_=> .fail
 |_=>none
def Tx (od:Bool)(x y:kA):Ds R:=fun tm k=>match x tm with
 | .int a i=>match y tm with
  | .int _ j=>k (.int a (Kl od i j))
  |_=> .fail
 |_=> .fail
def BS (f:Tm->Mem->Option (ae×Mem)):Ds R:=fun tm k=> .mem (f tm) k
def VU (P:aD)(t:aM):Bool:=match P.underlying t with
 |some (.struct fields)=>fields.any fun f=>match P.underlying f.type with |some (.interface _)=>true|_=>false
 |_=>false
def V7 (P:aD)(o:im):Option (Ds R):=
 match o.op with
 | .unOp op _ x=>some fun tm k=> .val (pu P [dj tm x] (Op.unary op (dj tm x))) k
 | .build t ps=>match VU P t with
  |true=>some fun tm k=> .val (C3 P t (ps.map fun(i,x)=>(i,dj tm x)).toList) k
  |false=>some fun tm k=>Ll (C3 P t (ps.map fun(i,x)=>(i,dj tm x)).toList) k
 | .buildSlice t n ps=>some (BS fun tm=>bI P t n (ps.map fun(i,x)=>(i,dj tm x)).toList)
 | .convert s d x=>some fun tm k=>match P.underlying s,P.underlying d with
  |some (.int _),some (.int _)=> .val (pu P [dj tm x] (convert s d (dj tm x))) k
  |_,_=> .mem (eU P s d (dj tm x)) k
 | .makeInterface t x=>match P.underlying t with |some (.interface _)=>none|some _=>some fun tm k=>k (.iface t (dj tm x))|none=>none
 | .makeFunc fn f c=>some fun tm k=>k (.func fn (f.map (dj tm)) (c.map (dj tm)))
 | .makeMap _ none=>some (BS fun _=>xm)
 | .makeSlice t l c=>some (BS fun tm=>fV P t (dj tm l) (dj tm c))
 | .slice t x lo hi none=>some fun tm k=>match dj tm x with
  | .string s=> .val (pu P (.string s::((lo.map (dj tm)).toList++(hi.map (dj tm)).toList)) (Instr.sliceAt t (.string s) (lo.map (dj tm)) (hi.map (dj tm)) none)) k
  |v=> .mem (oc P t v (lo.map (dj tm)) (hi.map (dj tm))) k
 | .field s x f=>some fun tm k=>Ll (G9 P s (dj tm x) f) k
 | .lookup t x i ok=>some (BS fun tm=>xq P t (dj tm x) (dj tm i) ok)
 | .mapUpdate t x i v=>some (BS fun tm=>yO P t (dj tm x) (dj tm i) (dj tm v))
 | .typeAssert x t a ok=>some fun tm k=>Ll (qh P (dj tm x) t a ok) k
 | .range t x=>some (BS fun tm=>yG P t (dj tm x))
 | .next it s=>some (BS fun tm=>EN (dj tm it) s)
 | .call {callee:= .builtin b,args,argTypes}=>
  match b,args.toList with
  | .append,[s,x]=>some (BS fun tm=>cJ P argTypes (dj tm s) (dj tm x))
  | .copy,[d,s]=>some (BS fun tm=>xU P argTypes (dj tm d) (dj tm s))
  | .clear,[x]=>some (BS fun tm=>mY P argTypes (dj tm x))
  |_,_=>none
 |_=>none
def yM (P:aD)(o:im):Option (Ds R):=
 match o.op with
 | .move x=>eF x fun x=>some fun tm k=>k (x tm)
 | .assign x=>eF x fun x=>some fun tm k=>k (x tm)
 | .pick c x y=>eF c fun c=>eF x fun x=>eF y fun y=>some fun tm k=> .cond (c tm) fun b=>match b with |true=>k (x tm)|false=>k (y tm)
 | .binOp op t x y _=>let cx:=isConst x;let cy:=isConst y;eF x fun x=>eF y fun y=>some (adS P op t cx cy x y)
 | .load t x=>eF x fun x=>loadT P t x
 | .store t p x=>eF p fun p=>eF x fun x=>storeT P t p x
 | .fieldAddr s p f=>eF p fun p=>vS P s p f
 | .indexAddr t x i=>eF x fun x=>eF i fun i=>vK P t x i
 | .index t x i=>eF x fun x=>eF i fun i=>LR P t x i
 | .extract x i=>eF x fun x=>some fun tm k=>match x tm with | .tuple vs=>Ll vs.toList[i]? k|_=> .fail
 | .unOp .not _ x=>eF x fun x=>some fun tm k=>match x tm with | .bool b=>k (.bool (!b))|_=> .fail
 | .nilCheck x=>eF x fun x=>some fun tm k=>match x tm with
  | .pointer (some a)=>k (.pointer (some a))
  | .func (.method name) first cap=> .val (uI P first name (.func (.method name) first cap)) k
  |_=> .fail
 | .alloc e=>match gO P e with
  |some z=>some fun _ k=> .mem (ni (z.cells.toList.map some)) k
  |none=>none
 | .box _ x=>eF x fun x=>some fun tm k=> .mem (ni ((x tm).cells.toList.map some)) k
 | .call {callee:= .builtin .min,args,.. }=>match args.toList with
  | [x,y]=>eF x fun x=>eF y fun y=>some (Tx false x y)
  |_=>none
 | .call {callee:= .builtin .max,args,.. }=>match args.toList with
  | [x,y]=>eF x fun x=>eF y fun y=>some (Tx true x y)
  |_=>none
 | .call {callee:= .value (.func f),args,.. }=>sJ args.toList fun xs=>some fun tm k=> .call f (Kw xs tm) k
 | .call {callee:= .value x,args,.. }=>eF x fun x=>sJ args.toList fun xs=>some fun tm k=> .fw (x tm) (Kw xs tm) k
 | .call {callee:= .invoke r name,args,.. }=>eF r fun r=>sJ args.toList fun xs=>some fun tm k=> .eE (dN P (r tm) name) (Kw xs tm) k
 | .call {callee:= .builtin .len,args,argTypes}=>match args.toList,argTypes.toList with
  | [x],t::_=>eF x fun x=>acE P t x
  |_,_=>none
 |_=>V7 P o
end
end Go.AM
namespace Go.AM
open Go
def wx {R:Type}(op:lM)(t:Ds R):Prop:=
 ∀(cl:bJ) (tm:Tm) (m:Mem) (K:ae->T R) (r:R×Mem),den cl (t tm K) m=some r->∃v m',(∀df k,op cl tm m df k=k v m' df)/\den cl (K v) m'=some r
section
variable {R:Type}{P:aD}{o:im}{cl:bJ}{tm:Tm}{m:Mem}{r:R×Mem}
theorem j3 {f:Mem->Option (ae×Mem)}{k:ae->T R}(h:den cl (.mem f k) m=some r):∃v m',f m=some (v,m')/\den cl (k v) m'=some r:=by
 unfold den at h
 split at h
 ·exact⟨_,_,nZ,h⟩
 ·cases h
theorem kV {x:Option ae}{k:ae->T R}(h:den cl (.val x k) m=some r):∃v,x=some v/\den cl (k v) m=some r:=by
 unfold den at h
 split at h
 ·exact⟨_,rfl,h⟩
 ·cases h
theorem CF {x:ae}{k:Bool->T R}(h:den cl (.cond x k) m=some r):∃b,x= .bool b/\den cl (k b) m=some r:=by
 unfold den at h
 split at h
 ·exact⟨_,rfl,h⟩
 ·cases h
theorem Hf {n:Int}{len:Nat}{k:Nat->T R}(h:den cl (.idx n len k) m=some r):∃i,n= .ofNat i/\Nat.blt i len=true/\den cl (k i) m=some r:=by
 unfold den at h
 split at h
 ·split at h
  ·exact⟨_,rfl,nZ,h⟩
  ·cases h
 ·cases h
theorem xS {x:Option ae}{k:ae->T R}(h:den cl (Ll x k) m=some r):∃v,x=some v/\den cl (k v) m=some r:=by
 unfold Ll at h
 split at h
 ·exact⟨_,rfl,h⟩
 ·cases h
theorem uN {p:ae}{k:Nat->Nat->T R}(h:den cl (It p k) m=some r):∃b o,p= .pointer (some ⟨b,o,none⟩)/\den cl (k b o) m=some r:=by
 unfold It at h
 split at h
 ·exact⟨_,_,rfl,h⟩
 ·cases h
theorem xT {x y:ae}{k:bX->Int->Int->T R}(h:den cl (oB x y k) m=some r):∃a i j,x= .int a i/\y= .int a j/\den cl (k a i j) m=some r:=by
 unfold oB at h
 split at h
 ·split at h
  ·split at h
   ·rename_i hb;obtain rfl:=tJ hb;exact⟨_,_,_,rfl,rfl,h⟩
   ·cases h
  ·cases h
 ·cases h
theorem CE {x y:ae}{k:ByteArray->ByteArray->T R}(h:den cl (H3 x y k) m=some r):∃a b,x= .string a/\y= .string b/\den cl (k a b) m=some r:=by
 unfold H3 at h
 split at h
 ·split at h
  ·exact⟨_,_,rfl,rfl,h⟩
  ·cases h
 ·cases h
theorem gK {v:ae}{m':Mem}(h:dp P (dj tm) o m=some (v,m')):∀df k,jr P o cl tm m df k=k v m' df:=by
 intro df k;unfold jr;rw[h]
theorem oX (a:bX):Nat.beq (xg a) (xg a)=true:=by cases a<;>rfl
theorem adE {f:Int->Int->Bool}{x y:kA}{a:bX}{i j:Int}(hx:x tm= .int a i)(hy:y tm= .int a j):∀df k,Eb f x y cl tm m df k=k (.bool (f i j)) m df:=by
 intro df k;unfold Eb;rw[hx,hy];simp only[oX,if_true]
theorem aiA {q:Int->Int->Option Nat}{f:Int->Int->Int}{x y:kA}{a:bX}{i j:Int}(hx:x tm= .int a i)(hy:y tm= .int a j):∀df k,arF q f x y cl tm m df k=k (.int a (qF q f a i j)) m df:=by
 intro df k;unfold arF qF;rw[hx,hy];simp only[oX,if_true];cases q i j with
 |none=>rfl
 |some n=>cases hb:Nat.blt n (iI a)<;>simp only[hb,if_true,bO,if_false]
theorem OT (x:cd):adJ (isConst x)=adI x:=by cases x<;>rfl
theorem JB {op:BinOp}{t:aM}{x y:cd}{a b:ae}:eqGuard op t (adI x) (adI y) a b=eqGuard op t x y a b:=by
 unfold eqGuard;cases x<;>cases y<;>rfl
theorem ny {s:Sem ae}{v:ae}(h:s.aI P=some v):Sem.aI P (s.bind fun v=>Sem.pure (Next.value v))=some (.value v):=by
 induction s with
 |pure a=>simp only[Sem.aI,ah]at h;subst h;rfl
 |program k ih=>exact ih P h
 |_=>simp[Sem.aI]at h
theorem Nv {lG:List ae}{s:Sem ae}{v:ae}(h:pu P lG s=some v):lG.all plain=true/\s.aI P=some v/\plain v=true:=by
 unfold pu at h
 split at h
 ·split at h
  ·split at h
   ·cases h;exact⟨nZ,nZ,nZ⟩
   ·cases h
  ·cases h
 ·cases h
theorem yK {op:BinOp}{t u:aM}{x y:cd}{ev:cd->ae}{v:ae}(ho:o.op= .binOp op t x y u)(h:jC P op t (isConst x) (isConst y) (ev x) (ev y)=some v):cX P ev o=some v:=by
 unfold jC at h;obtain⟨h1,h2,h3⟩:=Nv h;refine ix ?_ ?_ h3
 ·rw[ho];simpa[Op.operands]using h1
 ·rw[OT,OT,JB]at h2;unfold execOp;rw[ho];exact ny h2
theorem uV {op:BinOp}{t u:aM}{x y:cd}(ho:o.op= .binOp op t x y u){v:ae}(h:cX P (dj tm) o=some v)
  (hn:op= .eql\/op= .neq->rC P t (isConst x) (isConst y) (dj tm x) (dj tm y)=none):dp P (dj tm) o m=some (v,m):=by
 unfold dp;rw[ho];simp only[]
 split
 ·rw[hn (.inl rfl),h];rfl
 ·rw[hn (.inr rfl),h];rfl
 ·rw[h];rfl
theorem Ql {op:BinOp}{t u:aM}{x y:cd}(ho:o.op= .binOp op t x y u){K:ae->T R}(h:den cl (eq2 P op t (isConst x) (isConst y) (dj tm x) (dj tm y) K) m=some r):
  ∃v m',(∀df k,jr P o cl tm m df k=k v m' df)/\den cl (K v) m'=some r:=by
 unfold eq2 at h
 split at h
 ·split at h
  ·rename_i v hv;refine⟨_,_,gK ?_,h⟩;unfold dp;rw[ho];simp only[hv]
  ·rename_i hv;obtain⟨v,h1,h2⟩:=kV h;exact⟨_,_,gK (uV ho (yK ho h1) fun _=>hv),h2⟩
 ·split at h
  ·rename_i v hv;refine⟨_,_,gK ?_,h⟩;unfold dp;rw[ho];simp only[hv]
  ·rename_i hv;obtain⟨v,h1,h2⟩:=kV h;exact⟨_,_,gK (uV ho (yK ho h1) fun _=>hv),h2⟩
 ·rename_i n1 n2;obtain⟨v,h1,h2⟩:=kV h;exact⟨_,_,gK (uV ho (yK ho h1) fun hc=>hc.elim (fun e=>absurd e n1) fun e=>absurd e n2),h2⟩
theorem Nx {op:BinOp}{t u:aM}{x y:cd}(ho:o.op= .binOp op t x y u)(h1:op≠ .eql)(h2:op≠ .neq){K:ae->T R}(h:den cl (.val (jC P op t (isConst x) (isConst y) (dj tm x) (dj tm y)) K) m=some r):
  ∃v m',(∀df k,jr P o cl tm m df k=k v m' df)/\den cl (K v) m'=some r:=by
 obtain⟨v,e1,e2⟩:=kV h;exact⟨_,_,gK (uV ho (yK ho e1) fun hc=>hc.elim (fun e=>absurd e h1) fun e=>absurd e h2),e2⟩
theorem Qn {op:BinOp}{t u:aM}{x y:cd}{q:Nat->Nat->Nat}(ho:o.op= .binOp op t x y u)(h1:op≠ .eql)(h2:op≠ .neq){K:ae->T R}{a:bX}{i j:Int}(hx:dj tm x= .int a i)(hy:dj tm y= .int a j)
  (h:den cl (.val (j0 q a i j (jC P op t (isConst x) (isConst y) (dj tm x) (dj tm y))) K) m=some r):
  ∃v m',(∀df k,Hc P o q (ex x) (ex y) cl tm m df k=k v m' df)/\den cl (K v) m'=some r:=by
 obtain⟨v,e1,e2⟩:=kV h;have gen:jC P op t (isConst x) (isConst y) (dj tm x) (dj tm y)=some v->∀df k,jr P o cl tm m df k=k v m df:=fun e=>gK (uV ho (yK ho e) fun hc=>hc.elim (fun e=>absurd e h1) fun e=>absurd e h2)
 refine⟨v,m,fun df k=>?_,e2⟩;cases i with
 |negSucc i=>unfold Hc;simp only[ex,hx];exact gen e1 df k
 |ofNat i=>
  cases j with
  |negSucc j=>unfold Hc;simp only[ex,hx,hy];exact gen e1 df k
  |ofNat j=>
   cases j with
   |zero=>unfold Hc;simp only[ex,hx,hy];exact gen e1 df k
   |succ j=>
    unfold j0 at e1;unfold Hc;simp only[ex,hx,hy];cases hb:Nat.blt i (iI a)with
    |true=>
     simp only[hb]at e1;cases e1;simp only[oX,hb,Bool.and_self,if_true]
    |false=>
     simp only[hb]at e1;simp only[oX,hb,Bool.true_and,bO,if_false];exact gen e1 df k
end
end Go.AM
namespace Go.AM
open Go
section
variable {R:Type}{P:aD}{o:im}
theorem MG {op:BinOp}{t u:aM}{x y:cd}{q:Nat->Nat->Nat}{cl:bJ}{tm:Tm}{m:Mem}{r:R×Mem}(ho:o.op= .binOp op t x y u)(h1:op≠ .eql)(h2:op≠ .neq){K:ae->T R}{a:bX}{i j:Int}(hx:dj tm x= .int a i)(hy:dj tm y= .int a j)
  (h:den cl (.val (J6 q a i j (jC P op t (isConst x) (isConst y) (dj tm x) (dj tm y))) K) m=some r):
  ∃v m',(∀df k,Ap P o q (ex x) (ex y) cl tm m df k=k v m' df)/\den cl (K v) m'=some r:=by
 obtain⟨v,e1,e2⟩:=kV h;have gen:jC P op t (isConst x) (isConst y) (dj tm x) (dj tm y)=some v->∀df k,jr P o cl tm m df k=k v m df:=fun e=>gK (uV ho (yK ho e) fun hc=>hc.elim (fun e=>absurd e h1) fun e=>absurd e h2)
 refine⟨v,m,fun df k=>?_,e2⟩;cases i with
 |negSucc i=>unfold Ap;simp only[ex,hx];exact gen e1 df k
 |ofNat i=>
  cases j with
  |negSucc j=>cases e1
  |ofNat j=>
   unfold J6 at e1;unfold Ap;simp only[ex,hx,hy];cases hb:Nat.blt i (iI a)&&Nat.blt j (iI a)with
   |true=>
    simp only[hb]at e1;cases e1;simp only[oX,Bool.true_and,hb,if_true]
   |false=>
    simp only[hb]at e1;simp only[oX,Bool.true_and,hb,bO,if_false];exact gen e1 df k
theorem MI {op:BinOp}{t u:aM}{x y:cd}(ho:o.op= .binOp op t x y u){f:lM}(hf:WG P o op t (ex x) (ex y)=some f):wx f (adS (R:=R) P op t (isConst x) (isConst y) (ex x) (ex y)):=by
 intro cl tm m K r h;unfold WG at hf;unfold adS at h
 split at hf
 ·rename_i kk hu;simp only[hu]at h;cases op<;>simp only[ah]at hf<;>subst hf<;>simp only[ex]at h
  all_goals first
   |(obtain⟨a,i,j,hx,hy,h⟩:=xT h;exact⟨_,_,adE hx hy,h⟩)
   |(obtain⟨a,i,j,hx,hy,h⟩:=xT h;exact⟨_,_,aiA hx hy,h⟩)
   |(obtain⟨a,i,j,hx,hy,h⟩:=xT h;exact MG ho gC gC hx hy h)
   |(obtain⟨a,i,j,hx,hy,h⟩:=xT h;exact Qn ho gC gC hx hy h)
   |exact Nx ho gC gC h
 ·rename_i hu;simp only[hu]at h
  split at hf<;>(try simp only[ex]at h)<;>simp only[ah]at hf<;>subst hf
  ·obtain⟨a,b,hx,hy,h⟩:=CE h;refine⟨_,_,fun df k=>?_,h⟩;unfold yB;simp only[ex,hx,hy]
  ·obtain⟨a,b,hx,hy,h⟩:=CE h;refine⟨_,_,fun df k=>?_,h⟩;unfold yB;simp only[ex,hx,hy]
  ·obtain⟨a,b,hx,hy,h⟩:=CE h;obtain⟨v,e,h⟩:=kV h;refine⟨_,_,fun df k=>?_,h⟩;unfold uj at e;unfold QA;simp only[ex,hx,hy]
   split at e
   ·rename_i hb;cases e;simp only[hb,if_true]
   ·cases e
  ·rename_i n1 n2 n3;exact Nx ho n1 n2 h
 ·rename_i n1 n2;cases hf;have h:den cl (eq2 P op t (isConst x) (isConst y) (dj tm x) (dj tm y) K) m=some r:=by
   revert h
   cases hu:P.underlying t with
   |none=>exact id
   |some d=>cases d<;>first |exact id|exact absurd hu (n1 _)|exact absurd hu n2
  exact Ql ho h
theorem IT {t:aM}{x:cd}{f:lM}{g:Ds R}(hf:IW P o t (ex x)=some f)(hg:loadT P t (ex x)=some g):wx f g:=by
 intro cl tm m K r h;unfold IW at hf;unfold loadT at hg
 split at hf
 ·rename_i ha;simp only[ha]at hg
  split at hf
  ·rename_i n hn;simp only[hn]at hg;cases hf;cases hg;obtain⟨b,oo,hp,h⟩:=uN h;obtain⟨v,m',e,h⟩:=j3 h;refine⟨v,m',fun df k=>?_,h⟩;unfold fg at e;unfold LD AB ad0;rw[hp];simp only[]
   split at e
   ·rename_i l hl;cases e;rw[hl]
   ·cases e
  ·rename_i hn;simp only[hn]at hg;cases hg
 ·rename_i ha;simp only[ha]at hg;cases hf;cases hg;obtain⟨b,oo,hp,h⟩:=uN h;obtain⟨v,m',e,h⟩:=j3 h;refine⟨v,m',fun df k=>?_,h⟩;unfold aT at e;unfold LG AB z0;rw[hp];simp only[]
  split at e
  ·rename_i hb;simp only[hb]
   split at e
   ·rename_i hh;rw[bK hh]
    split at e
    ·rename_i hd;cases e;simp only[hd]
    ·cases e
   ·cases e
  ·cases e
 ·rename_i ha;simp only[ha]at hg;cases hg
theorem FV {t:aM}{p x:cd}{f:lM}{g:Ds R}(hf:Bq P o t (ex p) (ex x)=some f)(hg:storeT P t (ex p) (ex x)=some g):wx f g:=by
 intro cl tm m K r h;unfold Bq at hf;unfold storeT at hg
 split at hf
 ·rename_i n hn;simp only[hn]at hg;cases hf
  split at hg
  ·cases hg;obtain⟨b,oo,hp,h⟩:=uN h;unfold AP;simp only[ex]at h
   split at h
   ·rename_i cs hx
    split at h
    ·rename_i hb;obtain⟨v,m',e,h⟩:=j3 h;refine⟨v,m',fun df k=>?_,h⟩;rw[hp];simp only[ex,hx,AB,hb,if_true];unfold Az at e
     split at e
     ·rename_i m₁ hm;cases e;rw[hm];rfl
     ·cases e
    ·cases h
   ·cases h
  ·split at hg
   ·rename_i hb;cases hg;obtain⟨b,oo,hp,h⟩:=uN h;obtain⟨v,m',e,h⟩:=j3 h;refine⟨v,m',fun df k=>?_,h⟩;unfold jI at e
    split at e
    ·cases e
    ·rename_i ho1;have hna:∀cs,dj tm x≠ .agg cs:=fun cs hx=>by
      simp only[ex,hx]at ho1;cases ho1
     unfold AP;rw[hp];simp only[ex,AB,hb,ho1,if_true];have key:(Bs m b oo (dj tm x) fun m'=>k undef m' df)=k v m' df:=by
      unfold Bs
      split at e
      ·rename_i HH;simp only[HH]
       split at e
       ·rename_i hh;rw[bK hh]
        split at e
        ·rename_i hd;cases e;simp only[hd]
        ·cases e
       ·cases e
      ·cases e
     revert key
     cases hx:dj tm x<;>first |exact id|exact absurd hx (hna _)
   ·cases hg
  ·cases hg
 ·rename_i hn;simp only[hn]at hg;cases hg
theorem zg {s:aM}{p:cd}{i:Nat}{f:lM}{g:Ds R}(hf:pI P o s (ex p) i=some f)(hg:vS P s (ex p) i=some g):wx f g:=by
 intro cl tm m K r h;unfold pI at hf;unfold vS at hg
 split at hg
 ·rename_i fields hu;simp only[hu]at hf
  split at hg
  ·rename_i fd hfd;simp only[hfd]at hf
   split at hg
   ·rename_i n hs;simp only[hs]at hf;cases hf;cases hg;obtain⟨b,oo,hp,h⟩:=uN h;refine⟨_,_,fun df k=>?_,h⟩;unfold MP;rw[hp];rfl
   ·cases hg
  ·cases hg
 ·cases hg
theorem yW {t:aM}{x i:cd}{f:lM}{g:Ds R}(hf:pB P o t (ex x) (ex i)=some f)(hg:vK P t (ex x) (ex i)=some g):wx f g:=by
 intro cl tm m K r h;unfold pB at hf;unfold vK at hg
 split at hg
 ·rename_i e hu;simp only[hu]at hf
  split at hg
  ·rename_i s hs;simp only[hs]at hf;cases hf;cases hg;simp only[ex]at h
   split at h
   ·rename_i b oo len c hx
    split at h
    ·rename_i kk n hi;obtain⟨j,rfl,hb,h⟩:=Hf h;refine⟨_,_,fun df k=>?_,h⟩;unfold GL PW;simp only[ex,hx,hi,hb,if_true]
    ·cases h
   ·cases h
  ·cases hg
 ·rename_i len e hu;simp only[hu]at hf
  split at hg
  ·rename_i s hs;simp only[hs]at hf;cases hf;cases hg;obtain⟨b,oo,hp,h⟩:=uN h;simp only[ex]at h
   split at h
   ·rename_i kk n hi;obtain⟨j,rfl,hb,h⟩:=Hf h;refine⟨_,_,fun df k=>?_,h⟩;unfold GN PW AB;rw[hp];simp only[ex,hi,hb,if_true]
   ·cases h
  ·cases hg
 ·cases hg
theorem Fz:∀{l:List UInt8}{i:Nat},i<l.length->∃b,sr l i=some b
 | [],i,h=>by simp at h
 |b::l,0,h=>⟨b,rfl⟩
 |b::l,i+1,h=>Fz (l:=l) (by simpa using h)
theorem GK {t:aM}{x i:cd}{f:lM}{g:Ds R}(ho:o.op= .index t x i)(hf:B9 P o t (ex x) (ex i)=some f)(hg:LR P t (ex x) (ex i)=some g):wx f g:=by
 intro cl tm m K r h;unfold B9 at hf;unfold LR at hg
 split at hf
 ·rename_i hu;simp only[hu]at hg;cases hf;cases hg;simp only[ex]at h
  split at h
  ·rename_i s hx
   split at h
   ·rename_i kk n hi;obtain⟨j,rfl,hb,h⟩:=Hf h;rw[jz,jE]at hb;obtain⟨bb,nA⟩:=Fz (l:=s.data.toList) (i:=j) (by simpa using hb);refine⟨_,_,fun df k=>?_,h⟩;unfold WB cU;simp only[ex,hx,hi,nA]
   ·cases h
  ·cases h
 ·rename_i hn
  split at hg
  ·rename_i hu;exact absurd hu hn
  ·cases hf;cases hg;obtain⟨v,e,h⟩:=xS h;refine⟨_,_,gK ?_,h⟩;unfold dp;rw[ho];simp only[ex]at e;simp only[e]
theorem LJ {t:aM}{x:cd}{f:lM}{g:Ds R}(hf:U1 P o t (ex x)=some f)(hg:acE P t (ex x)=some g):wx f g:=by
 intro cl tm m K r h;unfold U1 at hf;unfold acE at hg
 split at hg
 ·rename_i hu;simp only[hu]at hf;cases hf;cases hg;simp only[ex]at h
  split at h
  ·rename_i s hx;refine⟨_,_,fun df k=>?_,h⟩;unfold LK;simp only[ex,hx]
  ·cases h
 ·rename_i e hu;simp only[hu]at hf;cases hf;cases hg;simp only[ex]at h
  split at h
  ·rename_i s n c hx;refine⟨_,_,fun df k=>?_,h⟩;unfold U0;simp only[ex,hx]
  ·cases h
 ·cases hg
theorem Ly {od:Bool}{x y:cd}:wx (Lz P o od (ex x) (ex y)) (Tx (R:=R) od (ex x) (ex y)):=by
 intro cl tm m K r h;unfold Tx at h;simp only[ex]at h
 split at h
 ·rename_i a i hx
  split at h
  ·rename_i b j hy;refine⟨_,_,fun df k=>?_,h⟩;unfold Lz Kl;simp only[ex,hx,hy];cases eX j i<;>cases od<;>rfl
  ·cases h
 ·cases h
theorem iy {f:Tm->Mem->Option (ae×Mem)}(hf:∀tm m,f tm m=dp P (dj tm) o m):wx (jr P o) (BS (R:=R) f):=by
 intro cl tm m K r h;obtain⟨v,m',e,h⟩:=j3 h;exact⟨v,m',gK (by rw[<-hf];exact e),h⟩
end
end Go.AM
namespace Go.AM
open Go
section
variable {R:Type}{P:aD}{o:im}
theorem Lm {ev:cd->ae}{m:Mem}{v:ae}(h:cX P ev o=some v)(hk:(∃op t x,o.op= .unOp op t x)\/(∃s d x a b,o.op= .convert s d x/\P.underlying s=some (.int a)/\P.underlying d=some (.int b))\/(∃t x lo hi s,o.op= .slice t x lo hi none/\ev x= .string s)):dp P ev o m=some (v,m):=by
 unfold dp;rcases hk with⟨op,t,x,ho⟩|⟨s,d,x,a,b,ho,h1,h2⟩|⟨t,x,lo,hi,s,ho,hs⟩
 ·rw[ho];simp only[h,cT]
 ·rw[ho];simp only[];have e:eU P s d (ev x) m=none:=by
   unfold eU;rw[h1,h2]
  rw[e,h];rfl
 ·rw[ho];simp only[];have e:iR P t (ev x) (lo.map ev) (hi.map ev) m=none:=by
   unfold iR;rw[hs]
   split<;>first |rfl|(rename_i h;cases h)
  rw[e,h];rfl
theorem Mj {g:Ds R}(hg:V7 P o=some g):wx (jr P o) g:=by
 unfold V7 at hg
 split at hg
 ·rename_i op t x ho;cases hg;intro cl tm m K r h;obtain⟨v,e,h⟩:=kV h;obtain⟨h1,h2,h3⟩:=Nv e;refine⟨_,_,gK (Lm (ix (by rw[ho];simpa[Op.operands]using h1) ?_ h3) (.inl ⟨_,_,_,ho⟩)),h⟩;unfold execOp;rw[ho];exact ny h2
 ·rename_i t ps ho
  split at hg
  ·cases hg;intro cl tm m K r h;obtain⟨v,e,h⟩:=kV h;refine⟨_,_,gK ?_,h⟩;unfold dp;rw[ho];simp only[e];rfl
  ·cases hg;intro cl tm m K r h;obtain⟨v,e,h⟩:=xS h;refine⟨_,_,gK ?_,h⟩;unfold dp;rw[ho];simp only[e];rfl
 ·rename_i t n ps ho;cases hg;exact iy fun tm m=>by unfold dp;rw[ho]
 ·rename_i s d x ho;cases hg;intro cl tm m K r h
  dsimp only at h
  split at h
  ·rename_i a b hs hd;obtain⟨v,e,h⟩:=kV h;obtain⟨h1,h2,h3⟩:=Nv e;refine⟨_,_,gK (Lm (ix (by rw[ho];simpa[Op.operands]using h1) ?_ h3) (.inr (.inl ⟨_,_,_,_,_,ho,hs,hd⟩))),h⟩;unfold execOp;rw[ho];exact ny h2
  ·obtain⟨v,m',e,h⟩:=j3 h;refine⟨v,m',gK ?_,h⟩;unfold dp;rw[ho];simp only[e]
 ·rename_i t x ho
  split at hg
  ·cases hg
  ·rename_i d hu hn;cases hg;intro cl tm m K r h;refine⟨_,_,gK ?_,h⟩;unfold dp;rw[ho];simp only[]
   split
   ·rename_i ms Qc;rw[hn]at Qc;exact absurd Qc (by intro e;cases e;exact hu _ rfl)
   ·rfl
   ·rename_i Qc;rw[hn]at Qc;cases Qc
  ·cases hg
 ·rename_i fn f c ho;cases hg;intro cl tm m K r h;refine⟨_,_,gK ?_,h⟩;unfold dp;rw[ho]
 ·rename_i t ho;cases hg;exact iy fun tm m=>by unfold dp xm;rw[ho]
 ·rename_i t l c ho;cases hg;exact iy fun tm m=>by unfold dp;rw[ho]
 ·rename_i t x lo hi ho;cases hg;intro cl tm m K r h
  dsimp only at h
  split at h
  ·rename_i s hs;obtain⟨v,e,h⟩:=kV h;obtain⟨h1,h2,h3⟩:=Nv e;refine⟨_,_,gK (Lm (ix ?_ ?_ h3) (.inr (.inr ⟨_,_,_,_,_,ho,hs⟩))),h⟩
   ·rw[ho];simp only[Op.operands];cases lo<;>cases hi<;>simpa[hs]using h1
   ·unfold execOp;rw[ho];simp only[hs];exact ny h2
  ·obtain⟨v,m',e,h⟩:=j3 h;refine⟨v,m',gK ?_,h⟩;unfold oc at e
   split at e
   ·rename_i v' hv;cases e;unfold dp;rw[ho];simp only[hv]
   ·cases e
 ·rename_i s x f ho;cases hg;intro cl tm m K r h;obtain⟨v,e,h⟩:=xS h;refine⟨_,_,gK ?_,h⟩;unfold dp;rw[ho];simp only[e];rfl
 ·rename_i t x i ok ho;cases hg;exact iy fun tm m=>by
   unfold dp xq;rw[ho];simp only[];cases gW P t (dj tm x) (dj tm i) ok m<;>rfl
 ·rename_i t x i v ho;cases hg;exact iy fun tm m=>by
   unfold dp yO;rw[ho];simp only[];cases iV P t (dj tm x) (dj tm i) (dj tm v) m<;>rfl
 ·rename_i x t a ok ho;cases hg;intro cl tm m K r h;obtain⟨v,e,h⟩:=xS h;refine⟨_,_,gK ?_,h⟩;unfold dp;rw[ho];simp only[e];rfl
 ·rename_i t x ho;cases hg;exact iy fun tm m=>by unfold dp;rw[ho]
 ·rename_i it s ho;cases hg;exact iy fun tm m=>by unfold dp;rw[ho]
 ·rename_i b args ly ho
  split at hg
  ·rename_i s x ha;cases hg;exact iy fun tm m=>by unfold dp;rw[ho];simp only[ha]
  ·rename_i s x ha;cases hg;exact iy fun tm m=>by unfold dp;rw[ho];simp only[ha]
  ·rename_i x ha;cases hg;exact iy fun tm m=>by unfold dp;rw[ho];simp only[ha]
  ·cases hg
 ·cases hg
theorem PI {f:lM}{g:Ds R}(hf:hZ P o=some f)(hg:yM P o=some g):wx f g:=by
 have last:hZ P o=some (jr P o)->yM (R:=R) P o=V7 P o->wx f g:=fun h1 h2=>by
  rw[h1]at hf;cases hf;rw[h2]at hg;exact Mj hg
 cases ho:o.op with
 |move x=>
  unfold hZ at hf;unfold yM at hg;simp only[ho]at hf hg;have hf:=aK hf;have hg:=aK hg;cases hf;cases hg;exact fun cl tm m K r h=>⟨_,_,fun _ _=>rfl,h⟩
 |assign x=>
  unfold hZ at hf;unfold yM at hg;simp only[ho]at hf hg;have hf:=aK hf;have hg:=aK hg;cases hf;cases hg;exact fun cl tm m K r h=>⟨_,_,fun _ _=>rfl,h⟩
 |pick c x y=>
  unfold hZ at hf;unfold yM at hg;simp only[ho]at hf hg;have hf:=aK (aK (aK hf));have hg:=aK (aK (aK hg));cases hf;cases hg;intro cl tm m K r h;obtain⟨b,hb,h⟩:=CF h;cases b with
  |true=>exact⟨_,_,fun _ _=>by unfold Ix;simp only[hb],h⟩
  |false=>exact⟨_,_,fun _ _=>by unfold Ix;simp only[hb],h⟩
 |binOp op t x y u=>
  unfold hZ at hf;unfold yM at hg;simp only[ho]at hf hg;have hf:=aK (aK hf);have hg:=aK (aK hg);cases hg;exact MI ho hf
 |load t x=>
  unfold hZ at hf;unfold yM at hg;simp only[ho]at hf hg;exact IT (aK hf) (aK hg)
 |store t p x=>
  unfold hZ at hf;unfold yM at hg;simp only[ho]at hf hg;exact FV (aK (aK hf)) (aK (aK hg))
 |fieldAddr s p i=>
  unfold hZ at hf;unfold yM at hg;simp only[ho]at hf hg;exact zg (aK hf) (aK hg)
 |indexAddr t x i=>
  unfold hZ at hf;unfold yM at hg;simp only[ho]at hf hg;exact yW (aK (aK hf)) (aK (aK hg))
 |index t x i=>
  unfold hZ at hf;unfold yM at hg;simp only[ho]at hf hg;exact GK ho (aK (aK hf)) (aK (aK hg))
 |extract x i=>
  unfold hZ at hf;unfold yM at hg;simp only[ho]at hf hg;have hf:=aK hf;have hg:=aK hg;cases hf;cases hg;intro cl tm m K r h
  dsimp only at h
  split at h
  ·rename_i vs hx;obtain⟨v,e,h⟩:=xS h;exact⟨_,_,fun _ _=>by unfold xN;simp only[hx,e],h⟩
  ·cases h
 |unOp op t x=>
  cases op with
  |not=>
   unfold hZ at hf;unfold yM at hg;simp only[ho]at hf hg;have hf:=aK hf;have hg:=aK hg;cases hf;cases hg;intro cl tm m K r h
   dsimp only at h
   split at h
   ·rename_i b hx;exact⟨_,_,fun _ _=>by unfold X8;simp only[hx],h⟩
   ·cases h
  |_=>exact last (by unfold hZ;rw[ho]) (by unfold yM;rw[ho])
 |nilCheck x=>
  unfold hZ at hf;unfold yM at hg;simp only[ho]at hf hg;have hf:=aK hf;have hg:=aK hg;cases hf;cases hg;intro cl tm m K r h
  dsimp only at h
  split at h
  ·rename_i a hx;exact⟨_,_,fun _ _=>by unfold Tl;simp only[hx],h⟩
  ·rename_i name first cap hx
   obtain⟨v,e,h⟩:=kV h;refine⟨v,m,fun df k=>?_,h⟩;have di:dp P (dj tm) o m=some (v,m):=by
    unfold dp;rw[ho];simp only[hx];unfold uI at e
    split at e
    ·rename_i r' hr;simp only[hr]
     split at e
     ·rename_i hs;cases e;rw[bK hs]
     ·cases e
    ·cases e
   unfold Tl;simp only[hx];exact gK di df k
  ·cases h
 |alloc e=>
  unfold hZ at hf;unfold yM at hg;simp only[ho]at hf hg
  split at hf
  ·rename_i z hz;simp only[hz]at hg;cases hf;cases hg;intro cl tm m K r h;obtain⟨v,m',e,h⟩:=j3 h;cases e;exact⟨_,_,fun _ _=>rfl,h⟩
  ·cases hf
 |box e x=>
  unfold hZ at hf;unfold yM at hg;simp only[ho]at hf hg;have hf:=aK hf;have hg:=aK hg;cases hf;cases hg;intro cl tm m K r h;obtain⟨v,m',e,h⟩:=j3 h;cases e;exact⟨_,_,fun _ _=>rfl,h⟩
 |call c=>
  obtain⟨callee,args,ly⟩:=c;cases callee with
  |value x=>
   have main:(∃f',x= .func f')\/(∀f',x≠ .func f'):=by
    cases x with
    |func f'=>exact .inl ⟨_,rfl⟩
    |_=>exact .inr fun _ h=>by cases h
   rcases main with⟨f',rfl⟩|hnf
   ·unfold hZ at hf;unfold yM at hg;simp only[ho]at hf hg;obtain⟨os,hf,Cg⟩:=fE hf;obtain⟨os',hg,L2⟩:=fE hg;cases hf;cases hg;intro cl tm m K r h;unfold den at h
    split at h
    ·rename_i v m' hc;refine⟨v,m',fun df k=>?_,h⟩;unfold Ww;rw[Cg,<-L2,hc];rfl
    ·cases h
   ·have GZ:(eF x fun x=>sJ args.toList fun xs=>some (JY x xs))=some f:=by
     unfold hZ at hf;simp only[ho]at hf;cases x with
     |func f'=>exact absurd rfl (hnf f')
     |_=>exact hf
    have GX:(eF x fun x=>sJ args.toList fun xs=>some fun tm k=>T.fw (x tm) (Kw xs tm) k)=some g:=by
     unfold yM at hg;simp only[ho]at hg;cases x with
     |func f'=>exact absurd rfl (hnf f')
     |_=>exact hg
    obtain⟨os,hf,Cg⟩:=fE (aK GZ);obtain⟨os',hg,L2⟩:=fE (aK GX);cases hf;cases hg;intro cl tm m K r h;unfold den at h
    split at h
    ·rename_i ff first cap hx
     split at h
     ·rename_i v m' hc;refine⟨v,m',fun df k=>?_,h⟩;unfold JY;simp only[hx];rw[Cg,<-L2,hc];rfl
     ·cases h
    ·cases h
  |invoke rc name=>
   unfold hZ at hf;unfold yM at hg;simp only[ho]at hf hg;obtain⟨os,hf,Cg⟩:=fE (aK hf);obtain⟨os',hg,L2⟩:=fE (aK hg);cases hf;cases hg;intro cl tm m K r h;unfold den at h
   split at h
   ·rename_i ff recv hx
    split at h
    ·rename_i v m' hc;refine⟨v,m',fun df k=>?_,h⟩;unfold OU;simp only[hx];rw[Cg,<-L2,hc];rfl
    ·cases h
   ·cases h
  |builtin b=>
   have aho:∀od,(match args.toList with | [x,y]=>eF x fun x=>eF y fun y=>some (Lz P o od x y)|_=>some (jr P o))=some f->(match args.toList with | [x,y]=>eF x fun x=>eF y fun y=>some (Tx od x y)|_=>none)=some g->wx f g:=by
    intro od hf hg
    split at hg
    ·rename_i x y ha;simp only[ha]at hf;have hf:=aK (aK hf);have hg:=aK (aK hg);cases hf;cases hg;exact Ly
    ·cases hg
   cases b with
   |min=>unfold hZ at hf;unfold yM at hg;simp only[ho]at hf hg;exact aho false hf hg
   |max=>unfold hZ at hf;unfold yM at hg;simp only[ho]at hf hg;exact aho true hf hg
   |len=>
    unfold hZ at hf;unfold yM at hg;simp only[ho]at hf hg
    split at hg
    ·rename_i x t l ha ht;simp only[ha,ht]at hf;exact LJ (aK hf) (aK hg)
    ·cases hg
   |_=>exact last (by unfold hZ;rw[ho]) (by unfold yM;rw[ho])
 |defer c=>
  unfold yM V7 at hg;simp only[ho]at hg;cases hg
 |_=>exact last (by unfold hZ;rw[ho]) (by unfold yM;rw[ho])
end
end Go.AM
namespace Go.AM
open Go
section
variable {R:Type}
abbrev RC (R:Type):=(Tm->Df->T R)->Tm->Df->T R
def Cr (g:kA)(want:Bool)(yes no:RC R):RC R:=fun K tm df=>match g tm with
 | .bool b=> .cond (.bool b) fun b=>match b with
  |true=>match want with |true=>yes K tm df|false=>no K tm df
  |false=>match want with |true=>no K tm df|false=>yes K tm df
 |_=>no K tm df
def ab6 (P:aD)(ops:Array im)(i:Nat)(rest:RC R):Option (RC R):=
 match ops[i]? with
 |none=>none
 |some o=>match o.op with
  | .defer {callee:= .value x,args,.. }=>match o.guard with
   |none=>match o.dst with
    |none=>eF x fun x=>sJ args.toList fun xs=>some fun K tm df=>(match x tm with
     | .func (.func f) first cap=>rest K tm ((f,first.toList++Kw xs tm++cap.toList)::df)
     |_=> .fail)
    |some _=>none
   |some _=>none
  |_=>match yM P o with
   |none=>none
   |some op=>match o.guard with
    |none=>match o.dst with
     |some d=>FT d fun _ p=>some fun K tm df=>op tm fun v=>rest K (p v tm) df
     |none=>some fun K tm df=>op tm fun _=>rest K tm df
    |some (j,want)=>match(ops[j]?).bind (·.dst)with
     |some g=>FT g fun gx _=>match o.dst with
      |some d=>FT d fun _ p=>some (Cr gx want (fun K tm df=>op tm fun v=>rest K (p v tm) df) fun K tm df=>rest K (p undef tm) df)
      |none=>some (Cr gx want (fun K tm df=>op tm fun _=>rest K tm df) rest)
     |none=>none
def gj (v:ae)(m:Mem):Option (ae×Mem):=some (jo m v,m)
def zQ (m:Mem):Option (ae×Mem):=match m.pend with | []=>some (undef,m)|_=>none
def cW (saved v:ae)(look:Mem->Bool)(m:Mem):Option (ae×Mem):=match w6 saved (jo m v)&&look m with |true=>some (undef,m)|false=>none
def pH (v:ae)(m:Mem):Bool:=match mZ v with |some b=>Nat.ble m.floor b|none=>true
def TD (P:aD)(o:im)(tm:Tm):Mem->Bool:=
 match o.op with
 | .load t a=>fun m=>(j9 P t (dj tm a) m).isSome
 | .lookup t x i ok=>fun m=>(gW P t (dj tm x) (dj tm i) ok m).isSome
 | .slice t x lo hi none=>fun m=>(iR P t (dj tm x) (lo.map (dj tm)) (hi.map (dj tm)) m).isSome
 | .slice _ _ _ _ (some _)=>fun _=>false
 |_=>pH (dj tm (match mE o with |some x=>x|none=> .const undef))
def MX (ops:Array im)(o:im)(yes no:RC R):Option (RC R):=
 match o.guard with
 |none=>some yes
 |some (j,want)=>match(ops[j]?).bind (·.dst)with
  |some g=>some (Cr (cV g) want yes no)
  |none=>some no
def RP (P:aD)(ops:Array im)(t:nj)(rest:RC R):Option (RC R):=
 match t with
 |(0,i,slot)=>match ab6 P ops i rest with
  |some f=>some (match slot with |0=>f|_=>fun K tm df=> .mem zQ fun _=>f K tm df)
  |none=>none
 |(1,i,slot)=>match ops[i]? with
  |some o=>match mE o with
   |some x=>MX ops o (fun K tm df=> .mem (gj (dj tm x)) fun v=>rest K (tn slot v tm) df) (fun K tm df=>rest K (tn slot undef tm) df)
   |none=>none
  |none=>none
 |(_,i,slot)=>match ops[i]? with
  |some o=>match mE o with
   |some x=>MX ops o (fun K tm df=> .mem (cW (cV slot tm) (dj tm x) (TD P o tm)) fun _=>rest K tm df) rest
   |none=>none
  |none=>none
def yz (P:aD)(ops:Array im):List nj->Option (RC R)
 | []=>some fun K=>K
 |t::l=>match yz P ops l with
  |some rest=>RP P ops t rest
  |none=>none
abbrev KT (R:Type):=Exit->Tm->Df->T R
abbrev CT (R:Type):=KT R->Tm->Df->T R
def aeA (a b:CT R):CT R:=fun K=>a fun e tm df=>match e with
 | .normal=>b K tm df
 |e=>K e tm df
def ah7 (x:kA)(a b:CT R):CT R:=fun K tm df=> .cond (x tm) fun c=>match c with |true=>a K tm df|false=>b K tm df
def adQ (id:Nat)(a:CT R):CT R:=fun K=>a fun e tm df=>match e with
 | .exit j=>match Nat.beq j id with |true=>K .normal tm df|false=>K (.exit j) tm df
 |e=>K e tm df
def IP (a:CT R):Nat->CT R
 |0=>fun _ _ _=> .fail
 |n+1=>fun K=>a fun e tm df=>match e with
  | .normal=>IP a n K tm df
  |e=>K e tm df
def oC (P:aD)(nt:Nat):Nat->Code->Option (CT R)
 |0,_=>none
 |n+1,c=>match c with
  | .skip=>some fun K=>K .normal
  | .label _=>some fun K=>K .normal
  | .seq a b=>match oC P nt n a with
   |some a=>match oC P nt n b with
    |some b=>some (aeA a b)
    |none=>none
   |none=>none
  | .cond x a b=>match oC P nt n a with
   |some a=>match oC P nt n b with
    |some b=>eF x fun x=>some (ah7 x a b)
    |none=>none
   |none=>none
  | .block id b=>match oC P nt n b with
   |some b=>some (adQ id b)
   |none=>none
  | .loop b=>match oC P nt n b with
   |some b=>some (IP b 100000)
   |none=>none
  | .exit id=>some fun K=>K (.exit id)
  | .ret=>some fun K=>K .ret
  | .goto l=>some fun K=>K (.goto l)
  | .region _ ops draw=>match draw with
   |true=>match Wi ops nt with
    |some l=>match yz (R:=R) P ops l with
     |some f=>some fun K=>f (K .normal)
     |none=>none
    |none=>none
   |false=>match yz (R:=R) P ops ((List.range ops.size).map fun i=>(0,i,0))with
    |some f=>some fun K=>f (K .normal)
    |none=>none
  | .scope b=>match oC P nt n b with
   |some g=>some fun K=>g fun e tm df=>match e with
    | .goto _=> .fail
    |e=>K e tm df
   |none=>none
  |_=>none
def pz (P:aD)(t:aM)(p:ae)(m:Mem):Option (ae×Mem):=match j9 P t p m with |some v=>some (v,m)|none=>none
def Im (P:aD)(nt:Nat)(tm:Tm):List ResultVar->(List ae->T R)->T R
 | [],k=>k []
 | .tmp t::l,k=>match Nat.blt t nt with |true=>Im P nt tm l fun vs=>k (cV t tm::vs)|false=> .fail
 | .cell a t::l,k=>match Nat.blt a nt with |true=> .mem (pz P t (cV a tm)) fun v=>Im P nt tm l fun vs=>k (v::vs)|false=> .fail
def uO (P:aD)(X:Ext):Df->T R->T R
 | [],k=>k
 |(f,args)::ds,k=>match dE P f&& !(Nat.beq f X.yv||Nat.beq f X.mD)with
  |true=> .call f args fun _=>uO P X ds k
  |false=> .fail
def aaO (P:aD)(X:Ext)(nt:Nat)(rs:List ResultVar)(g:CT ae)(args:List ae):T ae:=
 match Nat.ble args.length nt with
 |true=>match Dw args with
  |some tm=>g (fun e tm df=>match e with
   | .normal=>uO P X df (Im P nt tm rs fun vs=>match vs with | [v]=> .done v|vs=> .done (.tuple vs.toArray))
   | .ret=>uO P X df (Im P nt tm rs fun vs=>match vs with | [v]=> .done v|vs=> .done (.tuple vs.toArray))
   |_=> .fail) tm []
  |none=> .fail
 |false=> .fail
def xK (P:aD)(X:Ext)(f:Nat)(args:List ae):T ae:=
 match P.funcs[f]? with
 |some fn=>match fn.body with
  |some c=>match oC P fn.ntmps 1000 c with
   |some g=>aaO P X fn.ntmps fn.results.toList g args
   |none=> .fail
  |none=> .fail
 |none=> .fail
end
end Go.AM
namespace Go.AM
open Go
section
variable {R:Type}{P:aD}
def wu (f:iC)(g:RC R):Prop:=
 ∀(cl:bJ) (K:Tm->Df->T R) (tm:Tm) (df:Df) (m:Mem) (r:R×Mem),den cl (g K tm df) m=some r->∃st,f cl tm m df=some st/\den cl (K st.tm st.df) st.mem=some r
theorem r6 {g:kA}{want:Bool}{yes no:RC R}{f fy fn:iC}(hy:wu fy yes)(hn:wu fn no)
  (h1:∀cl tm m df,g tm= .bool want->f cl tm m df=fy cl tm m df)(h2:∀cl tm m df,g tm≠ .bool want->f cl tm m df=fn cl tm m df):wu f (Cr g want yes no):=by
 intro cl K tm df m r h;unfold Cr at h
 split at h
 ·rename_i b hb;obtain⟨b',e,h⟩:=CF h;cases e
  by_cases hw:b=want
  ·subst hw;rw[h1 _ _ _ _ hb];refine hy _ _ _ _ _ _ ?_
   revert h;cases b<;>exact id
  ·rw[h2 _ _ _ _ (by rw[hb];intro e;cases e;exact hw rfl)];refine hn _ _ _ _ _ _ ?_
   revert h
   cases b<;>cases want<;>first |exact absurd rfl hw|exact id
 ·rename_i hb;rw[h2 _ _ _ _ (hb _)];exact hn _ _ _ _ _ _ h
theorem Bt {op:lM}{t:Ds R}{p:Put}{rest:iC}{rt:RC R}(ho:wx op t)(hr:wu rest rt):wu (Nf p op rest) fun K tm df=>t tm fun v=>rt K (p v tm) df:=by
 intro cl K tm df m r h;obtain⟨v,m',e,h⟩:=ho _ _ _ _ _ h;obtain⟨st,e2,h⟩:=hr _ _ _ _ _ _ h;exact⟨st,by unfold Nf;rw[e];exact e2,h⟩
theorem zI {op:lM}{t:Ds R}{rest:iC}{rt:RC R}(ho:wx op t)(hr:wu rest rt):wu (H6 op rest) fun K tm df=>t tm fun _=>rt K tm df:=by
 intro cl K tm df m r h;obtain⟨v,m',e,h⟩:=ho _ _ _ _ _ h;obtain⟨st,e2,h⟩:=hr _ _ _ _ _ _ h;exact⟨st,by unfold H6;rw[e];exact e2,h⟩
theorem Lo {nt i:Nat}{ops:Array im}{rest f:iC}{rt g:RC R}(hf:SZ P nt ops i rest=some f)(hg:ab6 P ops i rt=some g)(hr:wu rest rt):wu f g:=by
 unfold SZ at hf;unfold ab6 at hg
 split at hg
 ·cases hg
 ·rename_i o ho;rw[ho]at hf;simp only[]at hf
  split at hf
  ·split at hf
   ·cases hf
   ·rename_i op di
    split at hg
    ·rename_i x args ly hd
     split at hg
     ·rename_i VI
      split at hg
      ·rename_i adi;simp only[VI,adi]at hf;cases hf;obtain⟨os',hg,L2⟩:=fE (aK hg);cases hg;unfold hZ at di;simp only[hd]at di;obtain⟨os,di,Cg⟩:=fE (aK di);cases di;intro cl K tm df m r h
       dsimp only at h
       split at h
       ·rename_i ff first cap hx
        obtain⟨st,e2,h⟩:=hr _ _ _ _ _ _ h;refine⟨st,?_,h⟩;unfold H6 Hh noK;simp only[hx];rw[Cg,<-L2];exact e2
       ·cases h
      ·cases hg
     ·cases hg
    ·split at hg
     ·cases hg
     ·rename_i t ht;have h1:=PI di ht
      split at hg
      ·rename_i VI;simp only[VI]at hf
       split at hg
       ·rename_i d hd;simp only[hd]at hf;have hf:=(jg hf).2;have hg:=(jg hg).2;cases hf;cases hg;exact Bt h1 hr
       ·rename_i hd;simp only[hd]at hf;cases hf;cases hg;exact zI h1 hr
      ·rename_i j want VI;simp only[VI]at hf
       split at hg
       ·rename_i gg hgg;simp only[hgg]at hf
        split at hf
        ·have hf:=(jg hf).2;have hg:=(jg hg).2
         split at hg
         ·rename_i d hd;simp only[hd]at hf;have hf:=(jg hf).2;have hg:=(jg hg).2;cases hf;cases hg;refine r6 (Bt h1 hr) (fn:=fun cl tm m df=>rest cl (tn d undef tm) m df) (fun cl K tm df m r h=>hr _ _ _ _ _ _ h) ?_ ?_
          ·intro cl tm m df hb;unfold G6 Nf;cases want<;>simp only[hb]<;>rfl
          ·intro cl tm m df hb;unfold G6
           split
           ·cases want with
            |true=>exact absurd ‹cV gg tm=_› hb
            |false=>rfl
           ·cases want with
            |true=>rfl
            |false=>exact absurd ‹cV gg tm=_› hb
           ·rfl
         ·rename_i hd;simp only[hd]at hf;cases hf;cases hg;refine r6 (zI h1 hr) hr ?_ ?_
          ·intro cl tm m df hb;unfold G5 H6;cases want<;>simp only[hb]<;>rfl
          ·intro cl tm m df hb;unfold G5
           split
           ·cases want with
            |true=>exact absurd ‹cV gg tm=_› hb
            |false=>rfl
           ·cases want with
            |true=>rfl
            |false=>exact absurd ‹cV gg tm=_› hb
           ·rfl
        ·cases hf
       ·cases hg
  ·cases hf
theorem zy {ops:Array im}{o:im}{yes no g:RC R}{f fy fn:iC}(hg:MX ops o yes no=some g)(hy:wu fy yes)(hn:wu fn no)
  (h1:∀cl tm m df,cM ops o tm=true->f cl tm m df=fy cl tm m df)(h2:∀cl tm m df,cM ops o tm=false->f cl tm m df=fn cl tm m df):wu f g:=by
 unfold MX at hg
 split at hg
 ·rename_i VI;cases hg;intro cl K tm df m r h;rw[h1 _ _ _ _ (by unfold cM;rw[VI])];exact hy _ _ _ _ _ _ h
 ·rename_i j want VI
  split at hg
  ·rename_i gg hgg;cases hg;refine r6 hy hn (fun cl tm m df hb=>h1 _ _ _ _ ?_) fun cl tm m df hb=>h2 _ _ _ _ ?_
   ·unfold cM;simp only[VI,hgg,hb];simp
   ·unfold cM;simp only[VI,hgg]
    split
    ·rename_i b e;rw[e]at hb;cases b<;>cases want<;>first |rfl|exact absurd rfl hb
    ·rfl
  ·rename_i hgg;cases hg;intro cl K tm df m r h;rw[h2 _ _ _ _ (by unfold cM;simp only[VI,hgg])];exact hn _ _ _ _ _ _ h
theorem IS {o:im}{x:cd}(hx:mE o=some x){tm:Tm}{m:Mem}(h:TD P o tm m=true):(if looks o then(dp P (dj tm) o m).isSome else match mZ (dj tm x)with |some b=>Nat.ble m.floor b|none=>true)=true:=by
 unfold TD at h;cases ho:o.op with
 |load t a=>
  simp only[ho]at h;have :looks o=true:=by unfold looks;rw[ho]
  rw[bK this];unfold dp;rw[ho];simp only[Option.isSome_map];exact h
 |lookup t y i ok=>
  simp only[ho]at h;have :looks o=true:=by unfold looks;rw[ho]
  rw[bK this];unfold dp;rw[ho];simp only[Option.isSome_map];exact h
 |slice t y lo hi mx=>
  cases mx with
  |some _=>simp only[ho]at h;cases h
  |none=>
   simp only[ho]at h;have :looks o=true:=by unfold looks;rw[ho]
   rw[bK this];unfold dp;rw[ho];simp only[];cases hs:iR P t (dj tm y) (lo.map (dj tm)) (hi.map (dj tm)) m with
   |none=>rw[hs]at h;cases h
   |some v=>rfl
 |_=>
  have :looks o=false:=by unfold looks;rw[ho]
  rw[this,bZ gC];simp only[ho,hx,pH]at h;exact h
theorem HX {nt:Nat}{ops:Array im}{t:nj}{rest f:iC}{rt g:RC R}(hf:zB P nt ops t rest=some f)(hg:RP P ops t rt=some g)(hr:wu rest rt):wu f g:=by
 unfold zB at hf;unfold RP at hg
 split at hg
 ·rename_i i slot;simp only[]at hf
  split at hg
  ·rename_i g' GX
   split at hf
   ·rename_i f' GZ;have h1:=Lo GZ GX hr;cases hf;cases hg;cases slot with
    |zero=>exact h1
    |succ slot=>
     intro cl K tm df m r h;obtain⟨v,m',e,h⟩:=j3 h;unfold zQ at e
     split at e
     ·rename_i hp;cases e;obtain⟨st,e2,h⟩:=h1 _ _ _ _ _ _ h;refine⟨st,?_,h⟩;simp only[Ny,hp];exact e2
     ·cases e
   ·cases hf
  ·cases hg
 ·rename_i i slot;simp only[]at hf
  split at hg
  ·rename_i o ho;simp only[ho]at hf
   split at hg
   ·rename_i x hx;simp only[hx]at hf
    split at hf
    ·cases hf;refine zy hg (fy:=fun cl tm m df=>rest cl (tn slot (jo m (dj tm x)) tm) m df) (fn:=fun cl tm m df=>rest cl (tn slot undef tm) m df) ?_ (fun cl K tm df m r h=>hr _ _ _ _ _ _ h) ?_ ?_
     ·intro cl K tm df m r h;obtain⟨v,m',e,h⟩:=j3 h;cases e;exact hr _ _ _ _ _ _ h
     ·intro cl tm m df hw;unfold So;rw[bK hw]
     ·intro cl tm m df hw;unfold So;rw[bZ (by rw[hw];decide)]
    ·cases hf
   ·cases hg
  ·cases hg
 ·rename_i c i slot h0 h1;have hf:(match ops[i]? with |some o=>(match mE o with |some x=>some (sj P ops o x slot rest)|none=>none)|none=>none)=some f:=by
   revert hf
   cases c with
   |zero=>exact absurd rfl h0
   |succ c=>
    cases c with
    |zero=>exact absurd rfl h1
    |succ c=>exact id
  split at hg
  ·rename_i o ho;simp only[ho]at hf
   split at hg
   ·rename_i x hx;simp only[hx]at hf;cases hf;refine zy hg (fy:=fun cl tm m df=>sj P ops o x slot rest cl tm m df) (fn:=rest) ?_ hr (fun _ _ _ _ _=>rfl) ?_
    ·intro cl K tm df m r h;obtain⟨v,m',e,h⟩:=j3 h;unfold cW at e
     split at e
     ·rename_i hb;cases e;obtain⟨st,e2,h⟩:=hr _ _ _ _ _ _ h;refine⟨st,?_,h⟩;have hb:=(ag _ _).mp hb;have hl:=IS hx hb.2
      show sj P ops o x slot rest cl tm m df=some st
      by_cases hw:cM ops o tm=true
      ·unfold sj;simp only[hw,hb.1,if_true,Bool.true_and];exact(bK hl).trans e2
      ·have Rb:sj P ops o x slot rest cl tm m df=rest cl tm m df:=by unfold sj;rw[bZ hw]
       rw[Rb];exact e2
     ·cases e
    ·intro cl tm m df hw;unfold sj;rw[bZ (by rw[hw];decide)]
   ·cases hg
  ·cases hg
theorem wP {nt:Nat}{ops:Array im}:∀{l:List nj}{f:iC}{g:RC R},ir P nt ops l=some f->yz P ops l=some g->wu f g
 | [],f,g,hf,hg=>by
  cases hf;cases hg;intro cl K tm df m r h;exact⟨⟨tm,m,df⟩,rfl,h⟩
 |t::l,f,g,hf,hg=>by
  unfold ir at hf;unfold yz at hg
  split at hf
  ·split at hg
   ·exact HX hf hg (wP nZ nZ)
   ·cases hg
  ·cases hf
end
end Go.AM
namespace Go.AM
open Go
section
variable {R:Type}{P:aD}{X:Ext}
def WQ (f:F)(g:CT R):Prop:=
 ∀(cl:bJ) (K:KT R) (tm:Tm) (df:Df) (m:Mem) (r:R×Mem),den cl (g K tm df) m=some r->∃e st,f cl ⟨tm,m,df⟩=some (e,st)/\den cl (K e st.tm st.df) st.mem=some r
theorem zY {a:F}{b:CT R}(h:WQ a b):∀n,WQ (fun cl st=>xo a cl n st) (IP b n)
 |0=>by intro cl K tm df m r hd;unfold IP den at hd;cases hd
 |n+1=>by
  intro cl K tm df m r hd;unfold IP at hd;obtain⟨e,st,e1,hd⟩:=h _ _ _ _ _ _ hd;unfold xo;simp only[e1];cases e with
  |normal=>exact zY h n _ _ _ _ _ _ hd
  |_=>exact⟨_,_,rfl,hd⟩
theorem hY {nt:Nat}:∀{n:Nat}{c:Code}{f:F}{g:CT R},comp P nt n c=some f->oC P nt n c=some g->WQ f g
 |0,c,f,g,hf,hg=>by cases hf
 |n+1,c,f,g,hf,hg=>by
  cases c with
  |skip=>cases hf;cases hg;exact fun cl K tm df m r h=>⟨_,_,rfl,h⟩
  |label l=>cases hf;cases hg;exact fun cl K tm df m r h=>⟨_,_,rfl,h⟩
  |seq a b=>
   unfold comp at hf;unfold oC at hg;simp only[]at hf hg
   split at hf
   ·rename_i fa ha
    split at hf
    ·rename_i fb hb
     split at hg
     ·rename_i ga hga
      split at hg
      ·rename_i gb Qe;cases hf;cases hg;intro cl K tm df m r h;obtain⟨e,st,e1,h⟩:=hY ha hga _ _ _ _ _ _ h;cases e with
       |normal=>
        obtain⟨e,jR,e2,h⟩:=hY hb Qe _ _ _ _ _ _ h;exact⟨e,jR,by unfold oF;rw[e1];exact e2,h⟩
       |_=>exact⟨_,_,by unfold oF;rw[e1],h⟩
      ·cases hg
     ·cases hg
    ·cases hf
   ·cases hf
  |cond x a b=>
   unfold comp at hf;unfold oC at hg;simp only[]at hf hg
   split at hf
   ·split at hf
    ·rename_i fa ha
     split at hf
     ·rename_i fb hb
      split at hg
      ·rename_i ga hga
       split at hg
       ·rename_i gb Qe;have hf:=aK hf;have hg:=aK hg;cases hf;cases hg;intro cl K tm df m r h;obtain⟨c,hc,h⟩:=CF h;unfold Wq;simp only[hc];cases c with
        |true=>exact hY ha hga _ _ _ _ _ _ h
        |false=>exact hY hb Qe _ _ _ _ _ _ h
       ·cases hg
      ·cases hg
     ·cases hf
    ·cases hf
   ·cases hf
  |block id b=>
   unfold comp at hf;unfold oC at hg;simp only[]at hf hg
   split at hf
   ·split at hg
    ·rename_i fb hb _ gb Qe;cases hf;cases hg;intro cl K tm df m r h;obtain⟨e,st,e1,h⟩:=hY hb Qe _ _ _ _ _ _ h;unfold Ht;simp only[e1];cases e with
     |exit j=>
      simp only[]at h;cases hj:Nat.beq j id with
      |true=>simp only[hj]at h;exact⟨_,_,by simp only[hj,if_true],h⟩
      |false=>simp only[hj]at h;exact⟨_,_,by simp only[hj,bO,if_false],h⟩
     |_=>exact⟨_,_,rfl,h⟩
    ·cases hg
   ·cases hf
  |loop b=>
   unfold comp at hf;unfold oC at hg;simp only[]at hf hg
   split at hf
   ·split at hg
    ·rename_i fb hb _ gb Qe;cases hf;cases hg;exact zY (hY hb Qe) 100000
    ·cases hg
   ·cases hf
  |exit id=>cases hf;cases hg;exact fun cl K tm df m r h=>⟨_,_,rfl,h⟩
  |ret=>cases hf;cases hg;exact fun cl K tm df m r h=>⟨_,_,rfl,h⟩
  |goto l=>cases hf;cases hg;exact fun cl K tm df m r h=>⟨_,_,rfl,h⟩
  |region id ops draw=>
   unfold comp at hf;unfold oC at hg;simp only[]at hf hg;have key:∀{l:List nj}{o:iC}{q:RC R},ir P nt ops l=some o->yz P ops l=some q->WQ (PC o) (fun K=>q (K .normal)):=by
    intro l o q ho hq cl K tm df m r h;obtain⟨st,e,h⟩:=wP ho hq _ _ _ _ _ _ h;exact⟨_,_,by unfold PC;simp only[e],h⟩
   cases draw with
   |true=>
    rw[bK rfl]at hf;simp only[]at hg
    split at hf
    ·rename_i l hl;simp only[hl]at hg
     split at hf
     ·split at hg
      ·cases hf;cases hg;exact key nZ nZ
      ·cases hg
     ·cases hf
    ·cases hf
   |false=>
    rw[bZ gC]at hf;simp only[]at hg
    split at hf
    ·split at hg
     ·cases hf;cases hg;exact key nZ nZ
     ·cases hg
    ·cases hf
  |scope b=>
   unfold comp at hf;unfold oC at hg;simp only[]at hf hg
   split at hf
   ·split at hg
    ·rename_i fb hb _ gb Qe;cases hf;cases hg;intro cl K tm df m r h;obtain⟨e,st,e1,h⟩:=hY hb Qe _ _ _ _ _ _ h;refine⟨e,st,?_,?_⟩
     ·show yF _ _ cl (999+1) fb _=_
      unfold yF;rw[e1];cases e with
      |goto l=>unfold den at h;cases h
      |_=>rfl
     ·cases e with
      |goto l=>unfold den at h;cases h
      |_=>exact h
    ·cases hg
   ·cases hf
  |_=>cases hg
theorem vo {cl:bJ}{r:R×Mem}{k:T R}:∀{df:Df}{m:Mem},den cl (uO P X df k) m=some r->∃m',oP P X cl df m=some m'/\den cl k m'=some r
 | [],m,h=>⟨m,rfl,h⟩
 |(f,args)::ds,m,h=>by
  unfold uO at h;unfold oP
  split at h
  ·rename_i hb;rw[bK hb];unfold den at h
   split at h
   ·rename_i v m' hc;obtain⟨m2,e,h⟩:=vo h;exact⟨m2,by rw[hc];exact e,h⟩
   ·cases h
  ·cases h
theorem vD {cl:bJ}{r:R×Mem}{nt:Nat}{tm:Tm}{m:Mem}:∀{rs:List ResultVar}{k:List ae->T R},den cl (Im P nt tm rs k) m=some r->∃vs,u2 P nt m tm rs=some vs/\den cl (k vs) m=some r
 | [],k,h=>⟨[],rfl,h⟩
 | .tmp t::l,k,h=>by
  unfold Im at h
  split at h
  ·rename_i hb;obtain⟨vs,e,h⟩:=vD h;exact⟨_,by unfold u2;rw[bK hb,e],h⟩
  ·cases h
 | .cell a t::l,k,h=>by
  unfold Im at h
  split at h
  ·rename_i hb;obtain⟨v,m',e,h⟩:=j3 h;unfold pz at e
   split at e
   ·rename_i v' hv;cases e;obtain⟨vs,e,h⟩:=vD h;exact⟨_,by unfold u2;rw[bK hb,hv,e],h⟩
   ·cases e
  ·cases h
theorem r8 {f:Nat}{args:List ae}{cl:bJ}{m:Mem}{v:ae}{m':Mem}{fn:Func}{c:Code}(GY:P.funcs[f]?=some fn)(hc:fn.body=some c)(qx:Nat.ble fn.ntmps 512=true)(hs:(comp P fn.ntmps 1000 c).isSome=true)
  (h:den cl (xK P X f args) m=some (v,m')):(kE P X f).body cl args m=some (v,m'):=by
 unfold xK at h;simp only[GY,hc]at h
 split at h
 ·rename_i g hg;obtain⟨b,hb⟩:=iz.1 hs;have e0:(kE P X f).body cl args m=ye P X fn.ntmps fn.results.toList b cl args m:=by
   unfold kE;simp only[GY,hc,qx,if_true,hb]
  rw[e0];unfold aaO at h;unfold ye
  split at h
  ·rename_i hle;rw[bK hle]
   split at h
   ·rename_i tm YE;rw[YE];simp only[];obtain⟨e,st,e1,h⟩:=hY hb hg _ _ _ _ _ _ h;rw[e1];have fin:∀{st:Ss},den cl (uO P X st.df (Im P fn.ntmps st.tm fn.results.toList fun vs=>match vs with | [v]=> .done v|vs=> .done (.tuple vs.toArray))) st.mem=some (v,m')->
      (match oP P X cl st.df st.mem with |none=>none|some m'=>match lR P fn.ntmps fn.results.toList st.tm m' with |some v=>some (v,m')|none=>none)=some (v,m'):=by
     intro st h;obtain⟨m2,e2,h⟩:=vo h;obtain⟨vs,e3,h⟩:=vD h;rw[e2];simp only[lR,e3]
     split at h
     ·cases h;rfl
     ·rename_i hns;cases h
      split
      ·rename_i h1;split at h1
       ·rename_i h0;cases h0;exact(hns _ rfl).elim
       ·rename_i h2;cases h1;cases h2;rfl
       ·rename_i h2;cases h2
      ·rename_i h1;split at h1
       ·cases h1
       ·cases h1
       ·rename_i h2;cases h2
    cases e with
    |normal=>exact fin h
    |ret=>exact fin h
    |_=>unfold den at h;cases h
   ·cases h
  ·cases h
 ·cases h
end
inductive pS where
 |mem(f:Mem->Option (ae×Mem))(v:ae)
 |call(f:Nat)(args:List ae)(v:ae)
 |fw(fv:ae)(args:List ae)(v:ae)
 |eE(r:Option (Nat×ae))(args:List ae)(v:ae)
 |val(r:Option ae)(v:ae)
 |cond(v:ae)(b:Bool)
 |idx(n:Int)(len:Nat)(i:Nat)
def xV {R:Type}(e:pS)(r:Option (List pS×R)):Option (List pS×R):=match r with |some (l,a)=>some (e::l,a)|none=>none
def follow {R:Type}:T R->List pS->Option (List pS×R)
 | .done a,[]=>some ([],a)
 | .mem f k,.mem _ v::L=>xV (.mem f v) (follow (k v) L)
 | .call f args k,.call _ _ v::L=>xV (.call f args v) (follow (k v) L)
 | .fw fv args k,.fw _ _ v::L=>xV (.fw fv args v) (follow (k v) L)
 | .eE r args k,.eE _ _ v::L=>xV (.eE r args v) (follow (k v) L)
 | .val r k,.val _ v::L=>xV (.val r v) (follow (k v) L)
 | .cond v k,.cond _ b::L=>xV (.cond v b) (follow (k b) L)
 | .idx n len k,.idx _ _ i::L=>xV (.idx n len i) (follow (k i) L)
 |_,_=>none
theorem mV {R:Type}{e:pS}{r:Option (List pS×R)}{L:List pS}{a:R}(h:xV e r=some (L,a)):∃l,L=e::l/\r=some (l,a):=by
 unfold xV at h
 split at h
 ·cases h;exact⟨_,rfl,rfl⟩
 ·cases h
inductive Kg (cl:bJ):Mem->List pS->Mem->Prop
 |nil {m:Mem}:Kg cl m [] m
 |mem {m m1 m':Mem}{f:Mem->Option (ae×Mem)} {v:ae}{L:List pS} (h:f m=some (v,m1)) (k:Kg cl m1 L m'):Kg cl m (.mem f v::L) m'
 |call {m m1 m':Mem}{f:Nat}{args:List ae}{v:ae}{L:List pS} (h:cl f args m=some (v,m1)) (k:Kg cl m1 L m'):Kg cl m (.call f args v::L) m'
 |fw {m m1 m':Mem}{f:Nat}{first cap:Array ae}{args:List ae}{v:ae}{L:List pS} (h:cl f (first.toList++args++cap.toList) m=some (v,m1)) (k:Kg cl m1 L m'):Kg cl m (.fw (.func (.func f) first cap) args v::L) m'
 |eE {m m1 m':Mem}{f:Nat}{recv:ae}{args:List ae}{v:ae}{L:List pS} (h:cl f (recv::args) m=some (v,m1)) (k:Kg cl m1 L m'):Kg cl m (.eE (some (f,recv)) args v::L) m'
 |val {m m':Mem}{r:Option ae}{v:ae}{L:List pS} (h:r=some v) (k:Kg cl m L m'):Kg cl m (.val r v::L) m'
 |cond {m m':Mem}{v:ae}{b:Bool}{L:List pS} (h:v= .bool b) (k:Kg cl m L m'):Kg cl m (.cond v b::L) m'
 |idx {m m':Mem}{n:Int}{len i:Nat}{L:List pS} (h:n=(i:Int)) (hl:i<len) (k:Kg cl m L m'):Kg cl m (.idx n len i::L) m'
theorem Cv {R:Type}{cl:bJ}:∀{t:T R}{ZK L:List pS}{a:R}{m m':Mem},follow t ZK=some (L,a)->Kg cl m L m'->den cl t m=some (a,m'):=by
 intro t ZK
 induction ZK generalizing t with
 |nil=>
  intro L a m m' h hc;cases t with
  |done a=>cases h;cases hc;rfl
  |_=>unfold follow at h;cases h
 |cons e ZK ih=>
  intro L a m m' h hc;cases t with
  |done a=>unfold follow at h;cases h
  |fail=>unfold follow at h;cases h
  |mem f k=>
   cases e with
   |mem f' v=>obtain⟨l,rfl,h'⟩:=mV h;cases hc with |mem h1 h2=>unfold den;rw[h1];exact ih h' h2
   |_=>cases h
  |call f args k=>
   cases e with
   |call f' bj v=>obtain⟨l,rfl,h'⟩:=mV h;cases hc with |call h1 h2=>unfold den;rw[h1];exact ih h' h2
   |_=>cases h
  |fw fv args k=>
   cases e with
   |fw f' bj v=>obtain⟨l,rfl,h'⟩:=mV h;cases hc with |fw h1 h2=>unfold den;simp only[h1];exact ih h' h2
   |_=>cases h
  |eE r args k=>
   cases e with
   |eE f' bj v=>obtain⟨l,rfl,h'⟩:=mV h;cases hc with |eE h1 h2=>unfold den;simp only[h1];exact ih h' h2
   |_=>cases h
  |val r k=>
   cases e with
   |val r' v=>obtain⟨l,rfl,h'⟩:=mV h;cases hc with |val h1 h2=>unfold den;simp only[h1];exact ih h' h2
   |_=>cases h
  |cond v k=>
   cases e with
   |cond v' b=>obtain⟨l,rfl,h'⟩:=mV h;cases hc with |cond h1 h2=>unfold den;simp only[h1];exact ih h' h2
   |_=>cases h
  |idx n len k=>
   cases e with
   |idx n' ami i=>
    obtain⟨l,rfl,h'⟩:=mV h;cases hc with
    |idx h1 h2 h3=>
     unfold den;subst h1
     show(match Nat.blt i len with |true=>den cl (k i) m|false=>none)=_
     rw[jz,vc h2];exact ih h' h3
   |_=>cases h
end Go.AM
namespace Go.AM
set_option maxRecDepth 1000000
open Go Go.Conc Go.Proofs
def fS:Code->Bool
 | .seq a b=>fS a&&fS b
 | .cond _ a b=>fS a&&fS b
 | .block _ a=>fS a
 | .loop a=>fS a
 | .scope _=>false
 |_=>true
theorem kW {P:aD}{nt:Nat}:∀{n:Nat}{c:Code}{f:F},fS c=true->comp P nt n c=some f->comp P nt (n+1) c=some f
 |0,_,_,_,h=>by cases h
 |n+1,c,f,hp,h=>by
  cases c with
  |seq a b=>
   unfold fS at hp;rw[ag]at hp;unfold comp at h⊢;simp only[]at h⊢
   split at h
   ·rename_i fa ha
    split at h
    ·rename_i fb hb;rw[kW hp.1 ha,kW hp.2 hb];exact h
    ·cases h
   ·cases h
  |cond x a b=>
   unfold fS at hp;rw[ag]at hp;unfold comp at h⊢;simp only[]at h⊢
   split at h
   ·rename_i hg;rw[bK hg]
    split at h
    ·rename_i fa ha
     split at h
     ·rename_i fb hb;rw[kW hp.1 ha,kW hp.2 hb];exact h
     ·cases h
    ·cases h
   ·cases h
  |block i a=>
   unfold fS at hp;unfold comp at h⊢;simp only[]at h⊢
   split at h
   ·rename_i fa ha;rw[kW hp ha];exact h
   ·cases h
  |loop a=>
   unfold fS at hp;unfold comp at h⊢;simp only[]at h⊢
   split at h
   ·rename_i fa ha;rw[kW hp ha];exact h
   ·cases h
  |scope b=>cases hp
  |_=>exact h
def iE (f:Nat):Bool:=Nat.beq f 137||Nat.beq f 140||Nat.beq f 14||Nat.beq f 22||Nat.beq f 38||Nat.beq f 73||Nat.beq f 75
structure gI where
 C:Nat->Nat->bJ
 step:∀M n f args m,iE f=false->C M (n+1) f args m=(kE ab X0 f).body (C M n) args m
def Ev (K:gI)(f:Nat)(args:List ae)(m:Mem)(v:ae)(m':Mem):Prop:=∃N,∀M n,N<=M->N<=n->K.C M n f args m=some (v,m')
inductive Ch (K:gI):Mem->List pS->Mem->Prop
 |nil {m:Mem}:Ch K m [] m
 |mem {m m1 m':Mem}{f:Mem->Option (ae×Mem)} {v:ae}{L:List pS} (h:f m=some (v,m1)) (k:Ch K m1 L m'):Ch K m (.mem f v::L) m'
 |call {m m1 m':Mem}{f:Nat}{args:List ae}{v:ae}{L:List pS} (h:Ev K f args m v m1) (k:Ch K m1 L m'):Ch K m (.call f args v::L) m'
 |fw {m m1 m':Mem}{f:Nat}{first cap:Array ae}{args:List ae}{v:ae}{L:List pS} (h:Ev K f (first.toList++args++cap.toList) m v m1) (k:Ch K m1 L m'):Ch K m (.fw (.func (.func f) first cap) args v::L) m'
 |eE {m m1 m':Mem}{r:Option (Nat×ae)} {f:Nat}{recv:ae}{args:List ae}{v:ae}{L:List pS} (hr:r=some (f,recv)) (h:Ev K f (recv::args) m v m1) (k:Ch K m1 L m'):Ch K m (.eE r args v::L) m'
 |val {m m':Mem}{r:Option ae}{v:ae}{L:List pS} (h:r=some v) (k:Ch K m L m'):Ch K m (.val r v::L) m'
 |cond {m m':Mem}{v:ae}{b:Bool}{L:List pS} (h:v= .bool b) (k:Ch K m L m'):Ch K m (.cond v b::L) m'
 |idx {m m':Mem}{n:Int}{len i:Nat}{L:List pS} (h:n=(i:Int)) (hl:i<len) (k:Ch K m L m'):Ch K m (.idx n len i::L) m'
theorem Ch.chN{K:gI}{m m':Mem}{L:List pS}(h:Ch K m L m'):∃N,∀M n,N<=M->N<=n->Kg (K.C M n) m L m':=by
 induction h with
 |nil=>exact⟨0,fun _ _ _ _=> .nil⟩
 |mem h _ ih=>obtain⟨N,ih⟩:=ih;exact⟨N,fun M n a b=> .mem h (ih M n a b)⟩
 |call h _ ih=>
  obtain⟨N,ih⟩:=ih;obtain⟨N',h⟩:=h;exact⟨N+N',fun M n a b=> .call (h M n aj aj) (ih M n aj aj)⟩
 |fw h _ ih=>
  obtain⟨N,ih⟩:=ih;obtain⟨N',h⟩:=h;exact⟨N+N',fun M n a b=> .fw (h M n aj aj) (ih M n aj aj)⟩
 |eE hr h _ ih=>
  subst hr;obtain⟨N,ih⟩:=ih;obtain⟨N',h⟩:=h;exact⟨N+N',fun M n a b=> .eE (h M n aj aj) (ih M n aj aj)⟩
 |val h _ ih=>obtain⟨N,ih⟩:=ih;exact⟨N,fun M n a b=> .val h (ih M n a b)⟩
 |cond h _ ih=>obtain⟨N,ih⟩:=ih;exact⟨N,fun M n a b=> .cond h (ih M n a b)⟩
 |idx h hl _ ih=>obtain⟨N,ih⟩:=ih;exact⟨N,fun M n a b=> .idx h hl (ih M n a b)⟩
noncomputable def jO(f:Nat):Bool:=match ab.funcs[f]? with
 |some fn=>match fn.body with
  |some c=>Nat.ble fn.ntmps 512&&(comp ab fn.ntmps 1000 c).isSome
  |none=>false
 |none=>false
def Path (f:Nat)(args:List ae)(L:List pS)(v:ae):Prop:=jO f=true/\follow (xK ab X0 f args) L=some (L,v)
theorem aJ {K:gI}{f:Nat}{args:List ae}{L:List pS}{v:ae}{m m':Mem}(p:Path f args L v)(h:Ch K m L m')(hs:iE f=false:=by rfl):Ev K f args m v m':=by
 obtain⟨p1,p2⟩:=p;obtain⟨N,h⟩:=h.chN;refine⟨N+1,fun M n a b=>?_⟩;obtain⟨n,rfl⟩:∃k,n=k+1:=⟨n-1,aj⟩;rw[K.step M n f args m hs];unfold jO at p1
 split at p1
 ·rename_i fn GY
  split at p1
  ·rename_i c hc;rw[ag]at p1;exact r8 GY hc p1.1 p1.2 (Cv p2 (h M n aj aj))
  ·cases p1
 ·cases p1
def Bb (K:gI)(nt:Nat)(c:Code)(st:Ss)(e:Exit)(jR:Ss):Prop:=∃N,∀M n,N<=M->N<=n->∃f,comp ab nt 1000 c=some f/\f (K.C M n) st=some (e,jR)
def dM (is:List Nat)(tm:Tm):List ae:=is.map fun i=>cV i tm
theorem Bb.block{K:gI}{nt id:Nat}{a:Code}{st jB:Ss}{e e':Exit}(h1:Bb K nt a st e jB)(he:(match e with | .exit j=>if Nat.beq j id then Exit.normal else .exit j|e=>e)=e')(hp:fS a=true)(hs:(comp ab nt 1000 (.block id a)).isSome=true):Bb K nt (.block id a) st e' jB:=by
 obtain⟨N,h1⟩:=h1;refine⟨N,fun M n x y=>?_⟩;obtain⟨fa,ha,ea⟩:=h1 M n aj aj;obtain⟨f,hf⟩:=iz.1 hs;refine⟨f,hf,?_⟩;unfold comp at hf;simp only[]at hf
 split at hf
 ·rename_i fa' mQ;cases hf;have :=(kW hp mQ).symm.trans ha;cases this;subst he;unfold Ht;rw[ea];cases e with
  |exit j=>simp only[];split<;>rfl
  |_=>rfl
 ·cases hf
def HQ (K:gI)(nt:Nat)(a:Code)(k:Nat)(st:Ss)(e:Exit)(jR:Ss):Prop:=∃N,∀M n,N<=M->N<=n->∃f,comp ab nt 1000 a=some f/\xo f (K.C M n) k st=some (e,jR)
theorem HQ.next{K:gI}{nt k:Nat}{a:Code}{st jB zJ:Ss}{e:Exit}(h1:Bb K nt a st .normal jB)(h2:HQ K nt a k jB e zJ):HQ K nt a (k+1) st e zJ:=by
 obtain⟨N,h1⟩:=h1;obtain⟨N',h2⟩:=h2;refine⟨N+N',fun M n x y=>?_⟩;obtain⟨fa,ha,ea⟩:=h1 M n aj aj;obtain⟨fb,hb,eb⟩:=h2 M n aj aj;have :=ha.symm.trans hb;cases this;exact⟨fa,ha,by unfold xo;rw[ea];exact eb⟩
theorem HQ.out{K:gI}{nt k:Nat}{a:Code}{st jB:Ss}{e:Exit}(h1:Bb K nt a st e jB)(he:e≠ .normal):HQ K nt a (k+1) st e jB:=by
 obtain⟨N,h1⟩:=h1;refine⟨N,fun M n x y=>?_⟩;obtain⟨fa,ha,ea⟩:=h1 M n aj aj;refine⟨fa,ha,?_⟩;unfold xo;rw[ea];cases e<;>first |rfl|exact absurd rfl he
theorem Bb.loop{K:gI}{nt:Nat}{a:Code}{st jB:Ss}{e:Exit}(h1:HQ K nt a 100000 st e jB)(hp:fS a=true)(hs:(comp ab nt 1000 (.loop a)).isSome=true):Bb K nt (.loop a) st e jB:=by
 obtain⟨N,h1⟩:=h1;refine⟨N,fun M n x y=>?_⟩;obtain⟨fa,ha,ea⟩:=h1 M n aj aj;obtain⟨f,hf⟩:=iz.1 hs;refine⟨f,hf,?_⟩;unfold comp at hf;simp only[]at hf
 split at hf
 ·rename_i fa' mQ;cases hf;have :=(kW hp mQ).symm.trans ha;cases this;exact ea
 ·cases hf
noncomputable def jx(f:Nat):Nat:=match ab.funcs[f]? with |some fn=>fn.ntmps|none=>0
theorem OG {K:gI}{f:Nat}{args:List ae}{m m':Mem}{tm fC:Tm}{e:Exit}{v:ae}(hc:jO f=true)(ht:(if Nat.ble args.length (jx f)then Dw args else none)=some tm)(h:Bb K (jx f) (bV f) ⟨tm,m,[]⟩ e ⟨fC,m',[]⟩)(he:e= .normal\/e= .ret)
  (hr:lR ab (jx f) (rsT f) fC m'=some v)(hs:iE f=false:=by rfl):Ev K f args m v m':=by
 obtain⟨N,h⟩:=h;refine⟨N+1,fun M n a b=>?_⟩;obtain⟨n,rfl⟩:∃k,n=k+1:=⟨n-1,aj⟩;rw[K.step M n f args m hs];obtain⟨g,hg,eg⟩:=h M n aj aj;unfold jO at hc
 split at hc
 ·rename_i fn GY
  split at hc
  ·rename_i c wE;rw[ag]at hc;have e1:jx f=fn.ntmps:=by unfold jx;rw[GY]
   have e2:bV f=c:=by unfold bV;rw[GY];simp only[aX,wE]
   have e3:rsT f=fn.results.toList:=by unfold rsT;rw[GY]
   rw[e1,e2]at hg;rw[e1]at ht;rw[e1,e3]at hr;unfold kE;simp only[GY,wE,hc.1,if_true,hg];unfold ye;rw[ht];simp only[eg];rcases he with rfl|rfl<;>simp only[OH,oP,hr]
  ·cases hc
 ·cases hc
theorem N8.Ge{α:Type}(n:N8 α)(i:Nat):n.put i (n.get i)=n:=by
 obtain⟨a,b,c,d,e,f,g,h⟩:=n
 match i with
 |0|1|2|3|4|5|6|_+7=>rfl
theorem Pm {i:Nat}{v:ae}{tm:Tm}(h:cV i tm=v):tn i v tm=tm:=by
 subst h;unfold tn cV;rw[N8.Ge,N8.Ge,N8.Ge]
end Go.AM
namespace Go.AM
set_option maxRecDepth 1000000
open Go Go.Conc Go.Proofs
abbrev TO:=List (List ae×ae)×ae×Mem×List ae
def JL (l:List (List ae×ae)):Option TO->Option TO
 |some (l',r)=>some (l++l',r)
 |none=>none
def lA (run:Nat->List ae->Mem->List ae->Option TO):T ae->Mem->List ae->Option TO
 | .done a,m,t=>some ([],a,m,t)
 | .fail,_,_=>none
 | .mem f k,m,t=>match f m with |some (v,m')=>lA run (k v) m' t|none=>none
 | .call f args k,m,t=>match run f args m t with |some (l,v,m',t')=>JL l (lA run (k v) m' t')|none=>none
 | .fw fv args k,m,t=>match fv with
  | .func (.func f) first cap=>(match run f (first.toList++args++cap.toList) m t with |some (l,v,m',t')=>JL l (lA run (k v) m' t')|none=>none)
  |_=>none
 | .eE r args k,m,t=>match r with
  |some (f,recv)=>(match run f (recv::args) m t with |some (l,v,m',t')=>JL l (lA run (k v) m' t')|none=>none)
  |none=>none
 | .val r k,m,t=>match r with |some v=>lA run (k v) m t|none=>none
 | .cond v k,m,t=>match v with | .bool b=>lA run (k b) m t|_=>none
 | .idx n len k,m,t=>match n with | .ofNat i=>(match Nat.blt i len with |true=>lA run (k i) m t|false=>none)| .negSucc _=>none
noncomputable def Ey(fs:List Nat):Nat->Nat->List ae->Mem->List ae->Option TO
 |0=>fun _ _ _ _=>none
 |n+1=>fun f args m t=>match Nat.beq f 28 with
  |true=>(match t with |w::t'=>(match vm m with |true=>some ([(args,w)],w,m,t')|false=>none)| []=>none)
  |false=>(match fs.any (Nat.beq f)with |true=>lA (Ey fs n) (xK ab X0 f args) m t|false=>none)
theorem vX {l:List (List ae×ae)}{r:Option TO}{l':List (List ae×ae)}{x:ae×Mem×List ae}(h:JL l r=some (l',x)):∃l2,r=some (l2,x)/\l'=l++l2:=by
 unfold JL at h
 split at h
 ·simp only[ah,au]at h;obtain⟨h1,h2⟩:=h;exact⟨_,by rw[h2],h1.symm⟩
 ·cases h
theorem zH {run:Nat->List ae->Mem->List ae->Option TO}{cl:bJ}{G:List ae×ae->Prop}(hr:∀f args m t l v m' t',run f args m t=some (l,v,m',t')->(∀x∈l,G x)->cl f args m=some (v,m')):
  ∀(tr:T ae) (m:Mem) (t:List ae) {l:List (List ae×ae)} {v:ae}{m':Mem}{t':List ae},lA run tr m t=some (l,v,m',t')->(∀x∈l,G x)->den cl tr m=some (v,m'):=by
 intro tr
 induction tr with
 |done a=>intro m t l v m' t' h _;unfold lA at h;cases h;rfl
 |fail=>intro m t l v m' t' h _;unfold lA at h;cases h
 |mem f k ih=>
  intro m t l v m' t' h hg;unfold lA at h;unfold den
  split at h
  ·rename_i v1 m1 e;try rw[e]
   exact ih _ _ _ h hg
  ·cases h
 |call f args k ih=>
  intro m t l v m' t' h hg;unfold lA at h;unfold den
  split at h
  ·rename_i l1 v1 m1 t1 e;obtain⟨l2,e2,rfl⟩:=vX h;rw[hr _ _ _ _ _ _ _ _ e fun x hx=>hg x (List.mem_append_left _ hx)];exact ih _ _ _ e2 fun x hx=>hg x (List.mem_append_right _ hx)
  ·cases h
 |fw fv args k ih=>
  intro m t l v m' t' h hg;unfold lA at h;unfold den
  split at h
  ·split at h
   ·rename_i l1 v1 m1 t1 e;obtain⟨l2,e2,rfl⟩:=vX h
    try simp only[]
    rw[hr _ _ _ _ _ _ _ _ e fun x hx=>hg x (List.mem_append_left _ hx)];exact ih _ _ _ e2 fun x hx=>hg x (List.mem_append_right _ hx)
   ·cases h
  ·cases h
 |eE r args k ih=>
  intro m t l v m' t' h hg;unfold lA at h;unfold den
  split at h
  ·split at h
   ·rename_i l1 v1 m1 t1 e;obtain⟨l2,e2,rfl⟩:=vX h
    try simp only[]
    rw[hr _ _ _ _ _ _ _ _ e fun x hx=>hg x (List.mem_append_left _ hx)];exact ih _ _ _ e2 fun x hx=>hg x (List.mem_append_right _ hx)
   ·cases h
  ·cases h
 |val r k ih=>
  intro m t l v m' t' h hg;unfold lA at h;unfold den
  split at h
  ·exact ih _ _ _ h hg
  ·cases h
 |cond v k ih=>
  intro m t l v m' t' h hg;unfold lA at h;unfold den
  split at h
  ·exact ih _ _ _ h hg
  ·cases h
 |idx n len k ih=>
  intro m t l v m' t' h hg;unfold lA at h;unfold den
  split at h
  ·try simp only[]
   split at h
   ·rename_i e;try rw[e]
    exact ih _ _ _ h hg
   ·cases h
  ·cases h
theorem H0 {fs:List Nat}{cw tw:bJ}(htw:∀f args m,f≠28->tw f args m=none)(hf:∀f∈fs,jO f=true/\Nat.beq f X0.yv=false/\Nat.beq f X0.mD=false):
  ∀(n f:Nat) (args:List ae) (m:Mem) (t:List ae) (l:List (List ae×ae)) (v:ae) (m':Mem) (t':List ae),Ey fs n f args m t=some (l,v,m',t')->(∀x∈l,∀m,vm m=true->tw 28 x.1 m=some (x.2,m))->pO ab X0 cw tw n f args m=some (v,m'):=by
 intro n
 induction n with
 |zero=>intro f args m t l v m' t' h _;unfold Ey at h;cases h
 |succ n ih=>
  intro f args m t l v m' t' h hg;unfold Ey at h;unfold pO
  split at h
  ·rename_i h28;have h28:=az h28;subst h28
   split at h
   ·split at h
    ·rename_i hm;cases h;rw[hg _ (.head _) m hm]
    ·cases h
   ·cases h
  ·rename_i h28;have dO:f≠28:=fun e=>by rw[e]at h28;cases h28
   rw[htw f args m dO]
   split at h
   ·rename_i ha;obtain⟨g,hgm,hb⟩:=List.any_eq_true.1 ha;have e:=az hb;subst e;obtain⟨p1,p2,p3⟩:=hf f hgm;have hd:=zH (cl:=pO ab X0 cw tw n) (G:=fun x=>∀m,vm m=true->tw 28 x.1 m=some (x.2,m)) ih _ _ _ h hg;simp only[p2,p3];unfold jO at p1
    split at p1
    ·rename_i fn GY
     split at p1
     ·rename_i c hc;rw[ag]at p1;exact r8 GY hc p1.1 p1.2 hd
     ·cases p1
    ·cases p1
   ·cases h
end Go.AM
namespace Go.AM
set_option maxRecDepth 1000000
open Go Go.Conc Go.Proofs
theorem Y2 {m:Mem}(hm:vm m=true):WW kz m:=by
 unfold vm at hm;simp only[ag]at hm;obtain⟨⟨⟨⟨⟨⟨⟨h1,h2⟩,h3⟩,h4⟩,h5⟩,h6⟩,h7⟩,h8⟩:=hm;have e0:kz.blk 0={kind:=1,cs:=de}:=by rw[fP,bK rfl]
 exact⟨Option.isNone_iff_eq_none.1 h1,az h2,List.isEmpty_iff.1 h3,List.isEmpty_iff.1 h4,Nat.lt_of_succ_le (af h5),az h6,by rw[e0];exact az h7,by rw[e0];exact Ha h8⟩
noncomputable def yy(N:Nat):bJ:=fun f args m=>
 if(Nat.beq f 28&&vm m&&args.all cG)=true then
  match gJ ab X0 N 28 args kz with
  |some (w,mg)=>if(Nat.beq mg.deaf 0&&plain w)=true then some (w,m)else none
  |none=>none
 else none
theorem J5:dE ab 28=true:=by kernel_rfl
theorem XD {Fin:ae->ay->Prop}(N:Nat):fe ab X0 true (Jn Fin) Mv (yy N):=by
 intro f args m v m' hw h;unfold yy at h
 split at h
 ·rename_i hc;simp only[ag]at hc;obtain⟨⟨hf,hm⟩,ha⟩:=hc;have hf:=az hf;subst hf
  split at h
  ·rename_i w mg fK
   split at h
   ·rename_i hq;rw[ag]at hq;simp only[ah,au]at h;obtain⟨rfl,rfl⟩:=h;obtain⟨c,hc⟩:=RJ (Fin:=Fin) (lO jY N) Ju (by rw[globals_size];rfl) fK (az hq.1) J5 ha hq.2 (Y2 hm);exact⟨Mv.refl m,fun hb=>(by rw[J5]at hb;cases hb),fun _=>⟨c,hc⟩⟩
   ·cases h
  ·cases h
 ·cases h
theorem Et {N f:Nat}{args:List ae}{m:Mem}(h:f≠28):yy N f args m=none:=by
 unfold yy;rw[bZ];simp only[ag,not_and];intro h1;exact absurd (az h1.1) h
theorem XE {N:Nat}{args:List ae}{w:ae}{mg m:Mem}(h:gJ ab X0 N 28 args kz=some (w,mg))(hd:mg.deaf=0)(hw:plain w=true)(ha:args.all cG=true)(hm:vm m=true):yy N 28 args m=some (w,m):=by
 unfold yy;rw[bK (by rw[hm,ha];rfl),h];simp only[];rw[bK (by rw[hd,hw];rfl)]
end Go.AM
namespace Go.AM
open Go Go.Conc Go.Proofs
def bN (π:Nat->Nat):Nat->ae->ae
 |0,v=>v
 |n+1,v=>match v with
  | .pointer (some a)=> .pointer (some ⟨π a.block,a.off,a.spot⟩)
  | .slice (some a) l c=> .slice (some ⟨π a.block,a.off,a.spot⟩) l c
  | .map (some r)=> .map (some (π r))
  | .func fn f c=> .func fn (f.toList.map (bN π n)).toArray (c.toList.map (bN π n)).toArray
  | .iface t x=> .iface t (bN π n x)
  | .agg cs=> .agg (cs.toList.map (bN π n)).toArray
  | .tuple cs=> .tuple (cs.toList.map (bN π n)).toArray
  |v=>v
def mm:Nat->ae->Bool
 |0,v=>cG v
 |n+1,v=>match v with
  | .pointer (some _)=>true
  | .slice (some _) _ _=>true
  | .map (some _)=>true
  | .func _ f c=>f.toList.all (mm n)&&c.toList.all (mm n)
  | .iface _ x=>mm n x
  | .agg cs=>cs.toList.all (mm n)
  | .tuple cs=>cs.toList.all (mm n)
  |v=>cG v
theorem rT {π:Nat->Nat}{n:Nat}{v:ae}(h:cG v=true):bN π n v=v:=by
 cases n with
 |zero=>rfl
 |succ n=>cases v with
  |pointer a=>cases a<;>first |rfl|cases h
  |slice a l c=>cases a<;>first |rfl|cases h
  |map a=>cases a<;>first |rfl|cases h
  |_=>first |rfl|cases h
theorem q9 {ρ:cZ}{π:Nat->Nat}{n:Nat}(ih:∀{v w:ae},mm n v=true->(aP ρ (bN π n v) w↔aP (fun b=>ρ (π b)) v w)):∀{l r:List ae},l.all (mm n)=true->(bC (aP ρ) (l.map (bN π n)) r↔bC (aP fun b=>ρ (π b)) l r)
 | [],r,_=>by cases r<;>exact Iff.rfl
 |a::l,[],_=>Iff.rfl
 |a::l,b::r,h=>by
  simp only[List.all_cons,ag]at h;exact and_congr (ih h.1) (q9 ih h.2)
theorem qY {ρ:cZ}{π:Nat->Nat}:∀{n:Nat}{v w:ae},mm n v=true->(aP ρ (bN π n v) w↔aP (fun b=>ρ (π b)) v w):=by
 intro n
 induction n with
 |zero=>intro v w h;exact(aG h).trans (aG h).symm
 |succ n ih=>
  intro v w h;cases v with
  |pointer a=>cases a with
   |none=>exact(aG rfl).trans (aG rfl).symm
   |some a=>exact(cH (a:=⟨π a.block,a.off,a.spot⟩)).trans (cH (ρ:=fun b=>ρ (π b)) (a:=a)).symm
  |slice a l c=>cases a with
   |none=>exact(aG rfl).trans (aG rfl).symm
   |some a=>exact(bU (a:=⟨π a.block,a.off,a.spot⟩)).trans (bU (ρ:=fun b=>ρ (π b)) (a:=a)).symm
  |map r=>cases r with
   |none=>exact(aG rfl).trans (aG rfl).symm
   |some r=>exact(gP (r:=π r)).trans (gP (ρ:=fun b=>ρ (π b)) (r:=r)).symm
  |func fn f c=>
   have h:(f.toList.all (mm n)&&c.toList.all (mm n))=true:=h;rw[ag]at h;refine Iff.trans fO (Iff.trans ?_ fO.symm);exact exists_congr fun f'=>exists_congr fun c'=>and_congr_right fun _=>and_congr (q9 ih h.1) (q9 ih h.2)
  |iface t x=>exact fQ.trans ((exists_congr fun x'=>and_congr_right fun _=>ih h).trans fQ.symm)
  |agg cs=>exact gQ.trans ((exists_congr fun x'=>and_congr_right fun _=>q9 ih h).trans gQ.symm)
  |tuple cs=>exact dQ.trans ((exists_congr fun x'=>and_congr_right fun _=>q9 ih h).trans dQ.symm)
  |_=>first |exact(aG (by exact h)).trans (aG (by exact h)).symm|cases h
def SA (π:Nat->Nat)(x:Option ae):Option ae:=match x with |some v=>some (bN π 20 v)|none=>none
def abo (π:Nat->Nat)(e:MapEntry):MapEntry:={e with key:=bN π 20 e.key,val:=bN π 20 e.val}
def qM (π:Nat->Nat)(k:dU):dU:={k with cs:=k.cs.map (SA π),es:=(k.es.toList.map (abo π)).toArray}
def okC (x:Option ae):Bool:=match x with |some v=>mm 20 v|none=>false
def okE (e:MapEntry):Bool:=mm 20 e.key&&mm 20 e.val
def okB (k:dU):Bool:=k.cs.all okC&&k.es.toList.all okE
theorem Cy {ρ:cZ}{π:Nat->Nat}:∀{l es:List MapEntry},l.all okE=true->(bC (vb ρ) (l.map (abo π)) es↔bC (vb fun b=>ρ (π b)) l es)
 | [],r,_=>by cases r<;>exact Iff.rfl
 |a::l,[],_=>Iff.rfl
 |a::l,b::r,h=>by
  simp only[List.all_cons,ag]at h;have h1:=h.1;unfold okE at h1;rw[ag]at h1;exact and_congr (and_congr (qY h1.1) (and_congr (qY h1.2) Iff.rfl)) (Cy h.2)
structure Dj (π:Nat->Nat)(k k':dU):Prop where
 kind:k'.kind=k.kind
 cells:k.kind=1->k'.sz=k.sz/\k'.cs=k.cs.map (SA π)
 map:k.kind=2->k'.es.toList=k.es.toList.map (abo π)/\k'.clock=k.clock
 iter:k.kind=3->k'.pos=k.pos/\k'.str=k.str
structure oz (G:Nat)(mi m:Mem)(π:Nat->Nat):Prop where
 wf:Wf mi
 fi:mi.floor=mi.base
 hnI:mi.home<=mi.next
 fm:m.floor=m.base
 hn:m.home<=m.next
 YR:mi.bB=[]
 bB:m.bB=[]
 ab4:mi.opn=[]
 opn:m.opn=[]
 wgI:mi.wg=none
 wg:m.wg=none
 Z9:mi.pend=[]
 pend:m.pend=[]
 ah4:mi.deaf=0
 deaf:m.deaf=0
 gl:∀b,b<G->π b=b
 lt:∀b,b<mi.next->π b<m.next
 ge:∀b,mi.next<=b->π b=m.next+(b-mi.next)
 inj:∀b b',(mi.blk b).kind≠0->(mi.blk b').kind≠0->π b=π b'->b=b'
 same:∀b,(mi.blk b).kind≠0->Dj π (mi.blk b) (m.blk (π b))
 okb:∀b,okB (mi.blk b)=true
 pos:∀b,(mi.blk b).kind=1->(mi.blk b).pos=1->(m.blk (π b)).pos=1
 base:∀b,(mi.blk b).kind≠0->(mi.base<=b↔m.base<=π b)
 home:∀b,(mi.blk b).kind≠0->(mi.home<=b↔m.home<=π b)
 low:∀b,b<m.home->(m.blk b).kind<=1
def As (mi:Mem)(π:Nat->Nat)(y:Nat):Prop:=∀b,(mi.blk b).kind≠0->π b≠y
def zN (ρ:cZ)(mi m:Mem)(π:Nat->Nat)(E:Perm):Perm where
 rd c x:=(∃b p,ρ b=some p/\As mi π b/\p.c=c/\p.d<=x/\x<p.d+p.room/\m.nI b (x-p.d))\/E.rd c x
 wr c x:=(∃b p,ρ b=some p/\As mi π b/\p.c=c/\p.d<=x/\x<p.d+p.room/\m.okW b (x-p.d))\/E.wr c x
 ob c:=(∃b p,ρ b=some p/\As mi π b/\p.c=c/\((m.blk b).kind=2\/(m.blk b).kind=3)/\m.bz b=true)\/E.ob c
 deaf:=E.deaf
theorem jV {m:Mem}(h:m.bB=[]){b o:Nat}:m.nI b o↔(m.blk b).kind=1/\(o<(m.blk b).cs.length->∃v,(m.blk b).cs[o]?=some (some v)):=by
 unfold Mem.nI;rw[h];exact⟨fun h=>⟨h.1,h.2.2⟩,fun h=>⟨h.1,rfl,h.2⟩⟩
theorem lY {m:Mem}(h:m.opn=[]){b o:Nat}:m.okW b o↔m.nI b o/\m.floor<=b:=by
 unfold Mem.okW;rw[h];exact⟨fun h=>⟨h.1,h.2.resolve_right nU⟩,fun h=>⟨h.1,.inl h.2⟩⟩
theorem NH {π:Nat->Nat}{m m':Mem}{b b' o:Nat}(hh:m.bB=[])(VH:m'.bB=[])(s:Dj π (m.blk b) (m'.blk b')):m.nI b o↔m'.nI b' o:=by
 rw[jV hh,jV VH,s.kind];refine and_congr_right fun hk=>?_
 rw[(s.cells hk).2,List.length_map,List.getElem?_map];refine imp_congr_right fun ho=>?_
 rw[List.getElem?_eq_getElem ho];cases(m.blk b).cs[o]with
 |none=>exact⟨fun⟨v,h⟩=>(by cases h),fun⟨v,h⟩=>(by cases h)⟩
 |some v=>exact⟨fun _=>⟨_,rfl⟩,fun _=>⟨_,rfl⟩⟩
section
variable {P:aD}{G:Nat}{E:Perm}{bg w:ay}{ρ:cZ}{mi m:Mem}{π:Nat->Nat}
theorem oz.nI(h:oz G mi m π){b o:Nat}(hk:(mi.blk b).kind≠0):mi.nI b o↔m.nI (π b) o:=NH h.YR h.bB (h.same b hk)
theorem oz.okW(h:oz G mi m π){b o:Nat}(hk:(mi.blk b).kind≠0):mi.okW b o↔m.okW (π b) o:=by
 rw[lY h.ab4,lY h.opn,h.fi,h.fm];exact and_congr (h.nI hk) (h.base b hk)
theorem oz.own(h:oz G mi m π){b:Nat}(hk:(mi.blk b).kind≠0):mi.bz b=true↔m.bz (π b)=true:=by
 rw[zS h.YR,zS h.bB];exact h.home b hk
theorem P' (h:oz P.globals.size mi m π)(H:cQ P E bg .idle ρ m w):cQ P (zN ρ mi m π E) w .idle (fun b=>ρ (π b)) mi w:=by
 have hs:=H.jF;have kn:∀{b o},mi.nI b o->(mi.blk b).kind≠0:=fun k=>by rw[((jV h.YR).1 k).1];decide
 have abi:∀{b b' c x:Nat}{p p':Pl},b≠b'->ρ b=some p->ρ b'=some p'->p.c=c->p'.c=c->p.d<=x->x<p.d+p.room->p'.d<=x->x<p'.d+p'.room->(m.blk b).kind=1->(m.blk b').kind=1->False:=
  fun dO h1 h2 e1 e2 r1 r2 r3 r4 k1 k2=>by
   have :=(hs.sep _ _ _ _ dO h1 h2 (by rw[k1];simp) (by rw[k2];simp) (e1.trans e2.symm)).2.2;omega
 refine⟨⟨fun b p hp=>?_,fun b p hp hk=>?_,fun b p o v hp hc=>?_,fun b p o hp ho hk hb=>?_,fun b p hp hk ho=>?_,fun b p hp hk ho=>?_,
  fun b b' p p' dO hp du hk gf hc=>?_,fun b p hp=>hs.rr (π b) p hp,fun b p hp hk iN=>?_⟩,bh.refl _ _,⟨fun c x he=>⟨?_,?_⟩,fun c he=>⟨?_,?_,?_⟩,fun c x he=>?_⟩,fun g hg=>?_,⟨h.wgI,h.Z9,h.hnI⟩,h.wf,fun b p x hp hb h1 h2 h3 he=>?_,fun c x he hr=>?_⟩
 ·rcases Nat.lt_or_ge b mi.next with h1|h1
  ·exact h1
  ·have :=hs.my (π b) p hp;have :=h.ge b h1;omega
 ·have Cj:(mi.blk b).kind≠0:=by rw[hk];decide
  have s:=h.same b Cj;obtain⟨a1,a2,a3⟩:=hs.cells (π b) p hp (s.kind.trans hk);rw[(s.cells hk).2,List.length_map]at a2;exact⟨a1.trans (s.cells hk).1,a2,a3⟩
 ·obtain⟨c1,c2,c3⟩:=rJ hc;have s:=h.same b (by rw[c1];decide);have nR:m.cell (π b) o=some (bN π 20 v):=so (s.kind.trans c1) (by rw[h.bB];rfl) (by rw[(s.cells c1).2,List.getElem?_map,c3];rfl);obtain⟨v',e1,e2⟩:=hs.lP (π b) p o _ hp nR;have hb:=h.okb b;unfold okB at hb;rw[ag]at hb;have hv:=aE.1 hb.1 _ (List.mem_of_getElem? c3);exact⟨v',e1,(qY hv).1 e2⟩
 ·have Cj:(mi.blk b).kind≠0:=by rw[hk];decide
  exact hs.thaw (π b) p o hp ho ((h.same b Cj).kind.trans hk) ((h.base b Cj).1 hb)
 ·have Cj:(mi.blk b).kind≠0:=by rw[hk];decide
  have s:=h.same b Cj;obtain⟨js,a1,a2⟩:=hs.maps (π b) p hp (s.kind.trans hk) ((h.own Cj).1 ho);rw[(s.map hk).2]at a1;rw[(s.map hk).1]at a2;have hb:=h.okb b;unfold okB at hb;rw[ag]at hb;exact⟨js,a1,(Cy hb.2).1 a2⟩
 ·have Cj:(mi.blk b).kind≠0:=by rw[hk];decide
  have s:=h.same b Cj;obtain⟨a1,a2⟩:=hs.lC (π b) p hp (s.kind.trans hk) ((h.own Cj).1 ho);rw[(s.iter hk).1,(s.iter hk).2]at a2;exact⟨a1,a2⟩
 ·have s:=(h.same b hk).kind;have s':=(h.same b' gf).kind;have :=hs.sep (π b) (π b') p p' (fun e=>dO (h.inj b b' hk gf e)) hp du (by rw[s];exact hk) (by rw[s'];exact gf) hc;rw[s,s']at this;exact this
 ·have Cj:(mi.blk b).kind≠0:=by rw[hk];decide
  exact hs.vars (π b) p hp ((h.same b Cj).kind.trans hk) (h.pos b hk iN)
 ·rcases he with⟨b,p,h1,_,rfl,_⟩|he
  ·exact hs.rr b p h1
  ·exact(H.apart.cell c x he).1
 ·rintro⟨b',p',f1,f2,f3,f4,f5⟩;have hk:=kn ((lY h.ab4).1 f5).1;have f5':=(h.okW hk).1 f5;rcases he with⟨b,p,h1,h0,h2,h3,h4,h5⟩|he
  ·exact abi (fun e=>h0 b' hk e.symm) h1 f1 h2 f2 h3 h4 f3 f4 ((jV h.bB).1 h5).1 ((jV h.bB).1 ((lY h.opn).1 f5').1).1
  ·exact(H.apart.cell c x he).2 ⟨π b',p',f1,f2,f3,f4,f5'⟩
 ·rcases he with⟨b,p,h1,_,rfl,_⟩|he
  ·exact hs.rr b p h1
  ·exact(H.apart.obj c he).1
 ·rintro⟨b',p',f1,f2,f3,f4⟩;have hk:(mi.blk b').kind≠0:=aj;have Xn:(m.blk (π b')).kind=2\/(m.blk (π b')).kind=3:=by rw[(h.same b' hk).kind];exact f3
  rcases he with⟨b,p,h1,h0,h2,h3,h4⟩|he
  ·have :=hs.sep b (π b') p p' (fun e=>h0 b' hk e.symm) h1 f1 aj aj (h2.trans f2.symm);omega
  ·exact(H.apart.obj c he).2.1 ⟨π b',p',f1,f2,Xn,(h.own hk).1 f4⟩
 ·rcases he with⟨b,p,h1,_,h2,h3,h4⟩|he
  ·exact(hs.low.ob c ⟨b,p,h1,h2,h3,h4⟩).2
  ·exact(H.apart.obj c he).2.2
 ·rcases he with⟨b,p,h1,h0,h2,h3,h4,h5⟩|he
  ·exact .inl ⟨b,p,h1,h0,h2,h3,h4,h5.1⟩
  ·exact .inr (H.apart.wf c x he)
 ·obtain⟨p,h1,h2⟩:=H.og g hg;exact⟨p,by show ρ (π g)=some p;rw[h.gl g hg];exact h1,h2⟩
 ·have hk:=kn h3;have h3':=(h.nI hk).1 h3;rcases he with⟨b',p',f1,f0,f2,f3,f4,f5⟩|he
  ·exact abi (fun e=>f0 b hk e) hp f1 rfl f2 h1 h2 f3 f4 ((jV h.bB).1 h3').1 ((jV h.bB).1 f5).1
  ·exact H.MN (π b) p x hp ((h.base b hk).1 hb) h1 h2 h3' he
 ·obtain⟨b',p',f1,f2,f3,f4,f5⟩:=hr;have hk:=kn f5;have f5':=(h.nI hk).1 f5;rcases he with⟨b,p,h1,h0,h2,h3,h4,h5⟩|he
  ·exact abi (fun e=>h0 b' hk e.symm) h1 f1 h2 f2 h3 h4 f3 f4 ((jV h.bB).1 ((lY h.opn).1 h5).1).1 ((jV h.bB).1 f5').1
  ·exact H.ew c x he ⟨π b',p',f1,f2,f3,f4,f5'⟩
end
end Go.AM
namespace Go.AM
open Go Go.Conc Go.Proofs
def iM (π:Nat->Nat)(mi m:Mem)(L:List (Nat×dU))(nx:Nat):Mem:=DR m (L.map fun x=>(π x.1,qM π x.2)) (m.next+(nx-mi.next))
structure Ke (mi mq:Mem)(L:List (Nat×dU))(nx:Nat):Prop where
 base:mq.base=mi.base
 home:mq.home=mi.home
 floor:mq.floor=mi.floor
 bB:mq.bB=[]
 opn:mq.opn=[]
 wg:mq.wg=none
 deaf:mq.deaf=0
 aiT:∀b,(mi.blk b).kind≠0->(∃k,(b,k)∈L)\/jf (mq.blk b) (mi.blk b)
 next:mq.next<=nx
 nx0:mi.next<=nx
 new:∀x∈L,(mi.next<=x.1\/(mi.blk x.1).kind≠0/\x.2.kind=(mi.blk x.1).kind)/\x.1<nx/\jf x.2 (mq.blk x.1)/\x.2.live/\okB x.2=true
def DG (ρ yo:cZ)(m:Mem)(N:Nat):cZ:=fun y=>if y<m.next then ρ y else yo (N+(y-m.next))
section
variable {P:aD}{G:Nat}{E:Perm}{bg w w':ay}{ρ yo:cZ}{mi m mq:Mem}{π:Nat->Nat}{L:List (Nat×dU)}{nx:Nat}
theorem Nu (h:oz G mi m π)(hold:∀b,b<mi.next->yo b=ρ (π b))(b:Nat):DG ρ yo m mi.next (π b)=yo b:=by
 unfold DG;rcases Nat.lt_or_ge b mi.next with hb|hb
 ·rw[bK (h.lt b hb),hold b hb]
 ·have :=h.ge b hb;rw[bZ aj]
  congr 1
  omega
theorem Ic {π:Nat->Nat}{k k' k'':dU}(h:jf k k')(s:Dj π k' k''):Dj π k k'':=by
 obtain⟨h1,h2,h3,h4,h5,h6,h7⟩:=h;refine⟨s.kind.trans h1.symm,fun hk=>?_,fun hk=>?_,fun hk=>?_⟩
 ·rw[h1]at hk;rw[h2,h4];exact s.cells hk
 ·rw[h1]at hk;rw[h5,h6];exact s.map hk
 ·rw[h1]at hk;rw[h3,h7];exact s.iter hk
theorem XP {π:Nat->Nat}{k:dU}{t:Nat}:Dj π k {qM π k with a9:=t}:=⟨rfl,fun _=>⟨rfl,rfl⟩,fun _=>⟨rfl,rfl⟩,fun _=>⟨rfl,rfl⟩⟩
theorem EV (h:oz G mi m π)(hw:Wf m)(q:Ke mi mq L nx){y:Nat}(hk:((iM π mi m L nx).blk y).kind≠0):
  (∃b,y=π b/\Dj π (mq.blk b) ((iM π mi m L nx).blk y)/\okB (mq.blk b)=true/\(mi.next<=b\/(mi.blk b).kind≠0/\(mq.blk b).kind=(mi.blk b).kind)/\(((iM π mi m L nx).blk y).pos=(mq.blk b).pos\/(iM π mi m L nx).blk y=m.blk y/\b<mi.next))\/((iM π mi m L nx).blk y=m.blk y/\As mi π y/\y<m.next):=by
 rcases gE (m:=m) (L:=L.map fun x=>(π x.1,qM π x.2)) (nx:=m.next+(nx-mi.next)) y with⟨e,hn⟩|⟨k,hm,e⟩
 ·have e:(iM π mi m L nx).blk y=m.blk y:=e;have hy:y<m.next:=by
   rcases Nat.lt_or_ge y m.next with hy|hy
   ·exact hy
   ·rw[e,hw.xM y hy]at hk;exact absurd rfl hk
  by_cases hi:∃b,(mi.blk b).kind≠0/\π b=y
  ·obtain⟨b,hb,rfl⟩:=hi;have Y0:b<mi.next:=by
    rcases Nat.lt_or_ge b mi.next with h1|h1
    ·exact h1
    ·exact absurd (h.wf.xM b h1) hb
   rcases q.aiT b hb with⟨k,hkL⟩|hs
   ·exact absurd rfl (hn (π b,qM π k) (List.mem_map.2 ⟨(b,k),hkL,rfl⟩))
   ·refine .inl ⟨b,rfl,?_,?_,.inr ⟨hb,hs.1⟩,.inr ⟨e,Y0⟩⟩
    ·rw[e];exact Ic hs (h.same b hb)
    ·have :=h.okb b;unfold okB at this⊢;rw[hs.2.2.2.1,hs.2.2.2.2.1];exact this
  ·exact .inr ⟨e,fun b hb he=>hi ⟨b,hb,he⟩,hy⟩
 ·obtain⟨x,hx,ex⟩:=List.mem_map.1 hm;cases ex;obtain⟨n1,n2,n3,n4,n5⟩:=q.new x hx;have e:(iM π mi m L nx).blk (π x.1)={qM π x.2 with a9:=m.tick}:=e;refine .inl ⟨x.1,rfl,?_,?_,n1.imp id fun n=>⟨n.1,n3.1.symm.trans n.2⟩,.inl ?_⟩
  ·rw[e];obtain⟨h1,h2,h3,h4,h5,h6,h7⟩:=n3;exact Ic ⟨h1.symm,h2.symm,h3.symm,h4.symm,h5.symm,h6.symm,h7.symm⟩ XP
  ·unfold okB at n5⊢;rw[<-n3.2.2.2.1,<-n3.2.2.2.2.1];exact n5
  ·rw[e];exact n3.2.2.1
theorem LP (h:oz P.globals.size mi m π)(H:cQ P E bg .idle ρ m w)(Hq:cQ P (zN ρ mi m π E) w .idle yo mq w')(hle:cZ.le (fun b=>ρ (π b)) yo)(hold:∀b,b<mi.next->yo b=ρ (π b))(q:Ke mi mq L nx):
  cQ P E bg .idle (DG ρ yo m mi.next) (iM π mi m L nx) w'/\je ((aA (DG ρ yo m mi.next) (iM π mi m L nx)).or E) ((aA yo mq).or (zN ρ mi m π E)):=by
 have hs:=H.jF;have sq:=Hq.jF;have K:=Hq.rest;have KE:bh E w w':=K.sub (fun _ _=> .inr) fun _=> .inr
 obtain⟨M,hM⟩:∃M,M=iM π mi m L nx:=⟨_,rfl⟩;obtain⟨U,hU⟩:∃U,U=DG ρ yo m mi.next:=⟨_,rfl⟩;have Ki:∀b,U (π b)=yo b:=fun b=>by rw[hU];exact Nu h hold b
 have aex:(fun b=>U (π b))=yo:=funext Ki;have tj:∀{y},y<m.next->U y=ρ y:=fun hy=>by rw[hU];exact bK hy
 have ule:ρ.le U:=fun b p hp=>by rw[tj (hs.my b p hp)];exact hp
 have src:=fun{y:Nat} (hk:(M.blk y).kind≠0)=>by
  have :=EV (y:=y) h H.wf q (by rw[<-hM];exact hk);rw[<-hM]at this;exact this
 have QY:M.bB=[]:=by rw[hM];exact h.bB
 have aed:M.opn=[]:=by rw[hM];exact h.opn
 have O8:M.base=m.base:=by rw[hM];rfl
 have WU:M.home=m.home:=by rw[hM];rfl
 have Mfl:M.floor=m.floor:=by rw[hM];rfl
 have O7:M.next=m.next+(nx-mi.next):=by rw[hM];rfl
 rw[<-hM,<-hU];have bn:mi.base<=mi.next:=by have :=h.wf.fl;rw[h.fi]at this;exact this
 have bm:m.base<=m.next:=by have :=H.wf.fl;rw[h.fm]at this;exact this
 have SJ:∀{b},(mi.next<=b\/(mi.blk b).kind≠0/\(mq.blk b).kind=(mi.blk b).kind)->(mq.base<=b↔m.base<=π b):=fun{b} hb=>by
  rw[q.base];rcases hb with hb|hb
  ·have :=h.ge b hb
   constructor<;>intro _<;>omega
  ·exact h.base b hb.1
 have SI:∀{b},(mi.next<=b\/(mi.blk b).kind≠0/\(mq.blk b).kind=(mi.blk b).kind)->(mq.bz b=true↔M.bz (π b)=true):=fun{b} hb=>by
  rw[zS q.bB,zS QY,q.home,WU];rcases hb with hb|hb
  ·have :=h.ge b hb;have :=h.hnI;have :=h.hn
   constructor<;>intro _<;>omega
  ·exact h.home b hb.1
 have qR:∀{b y o},Dj π (mq.blk b) (M.blk y)->(mq.nI b o↔M.nI y o):=fun s=>NH q.bB QY s
 have qW:∀{b o},Dj π (mq.blk b) (M.blk (π b))->(mi.next<=b\/(mi.blk b).kind≠0/\(mq.blk b).kind=(mi.blk b).kind)->(mq.okW b o↔M.okW (π b) o):=fun s hb=>by
  rw[lY q.opn,lY aed,q.floor,h.fi,<-q.base,Mfl,h.fm];exact and_congr (qR s) (SJ hb)
 have mR:∀{y o},M.blk y=m.blk y->(M.nI y o↔m.nI y o):=fun e=>by rw[jV QY,jV h.bB,e]
 have mW:∀{y o},M.blk y=m.blk y->(M.okW y o↔m.okW y o):=fun e=>by rw[lY aed,lY h.opn,Mfl,mR e]
 have mO:∀y,(M.bz y=true↔m.bz y=true):=fun y=>by rw[zS QY,zS h.bB,WU]
 have kR:∀{y o},M.nI y o->(M.blk y).kind≠0:=fun k=>by rw[((jV QY).1 k).1];decide
 have rrd:∀{b p x},ρ b=some p->As mi π b->p.d<=x->x<p.d+p.room->m.nI b (x-p.d)->(zN ρ mi m π E).rd p.c x:=fun h1 h2 h3 h4 h5=> .inl ⟨_,_,h1,h2,rfl,h3,h4,h5⟩
 have Re:∀c x,(aA U M).rd c x->(aA yo mq).rd c x\/(zN ρ mi m π E).rd c x:=by
  rintro c x ⟨y,p,h1,h2,h3,h4,h5⟩;rcases src (kR h5)with⟨b,rfl,s,_⟩|⟨e,h0,hy⟩
  ·exact .inl ⟨b,p,by rw[<-Ki];exact h1,h2,h3,h4,(qR s).2 h5⟩
  ·exact .inr (.inl ⟨y,p,by rw[<-tj hy];exact h1,h0,h2,h3,h4,(mR e).1 h5⟩)
 have tS:∀c x,(aA U M).wr c x->(aA yo mq).wr c x\/∃b p,ρ b=some p/\As mi π b/\p.c=c/\p.d<=x/\x<p.d+p.room/\m.okW b (x-p.d):=by
  rintro c x ⟨y,p,h1,h2,h3,h4,h5⟩;rcases src (kR ((lY aed).1 h5).1)with⟨b,rfl,s,_,hb,_⟩|⟨e,h0,hy⟩
  ·exact .inl ⟨b,p,by rw[<-Ki];exact h1,h2,h3,h4,(qW s hb).2 h5⟩
  ·exact .inr ⟨y,p,by rw[<-tj hy];exact h1,h0,h2,h3,h4,(mW e).1 h5⟩
 have Ab:∀c,(aA U M).ob c->(aA yo mq).ob c\/∃b p,ρ b=some p/\As mi π b/\p.c=c/\((m.blk b).kind=2\/(m.blk b).kind=3)/\m.bz b=true:=by
  rintro c ⟨y,p,h1,h2,h3,h4⟩;rcases src (y:=y) aj with⟨b,rfl,s,_,hb,_⟩|⟨e,h0,hy⟩
  ·exact .inl ⟨b,p,by rw[<-Ki];exact h1,h2,by rw[<-s.kind];exact h3,(SI hb).2 h4⟩
  ·exact .inr ⟨y,p,by rw[<-tj hy];exact h1,h0,h2,by rw[<-e];exact h3,(mO y).1 h4⟩
 have JG:∀{b y' p p'},yo b=some p->U y'=some p'->Dj π (mq.blk b) (M.blk (π b))->(mi.next<=b\/(mi.blk b).kind≠0/\(mq.blk b).kind=(mi.blk b).kind)->M.blk y'=m.blk y'->As mi π y'->y'<m.next->
   (M.blk (π b)).kind≠0->(m.blk y').kind≠0->p.c=p'.c->(M.blk (π b)).kind=1/\(m.blk y').kind=1/\(p.room=0\/p'.room=0\/p.d+p.room<=p'.d\/p'.d+p'.room<=p.d):=by
  intro b y' p p' hp du s hb e h0 Kn hk gf hc;rw[tj Kn]at du;rcases hb with hb|⟨hi,Rg⟩
  ·have k3:=(Hq.wf.live b).2;have k3':=(H.wf.live y').2;rw[<-s.kind]at k3;have fl:mq.floor<=b:=by rw[q.floor];have :=h.wf.fl;omega
   have oq:mq.bz b=true:=(zS q.bB b).2 (by rw[q.home];have :=h.hnI;omega);have alive:∀{k:dU},k.live->∀o,o<k.cs.length->∃v,k.cs[o]?=some (some v):=fun{k} hk o ho=>by
    have h1:=List.getElem?_eq_getElem ho;cases hv:k.cs[o]with
    |none=>exact absurd hv (hk.1 _ (List.getElem_mem ho))
    |some v=>exact⟨v,by rw[h1,hv]⟩
   have shk:(M.blk (π b)).kind=1->∃y,w'.shape? p.c=some y:=fun h=>by
    obtain⟨_,_,e,n,h,_⟩:=sq.cells b p hp (by rw[<-s.kind];exact h);exact⟨_,h⟩
   have abg:(m.blk y').kind=1->∃y,w'.shape? p'.c=some y:=fun h=>by
    obtain⟨_,_,e,n,h,_⟩:=hs.cells y' p' du h;exact⟨_,by rw[K.shape _ (hs.rr y' p' du)];exact h⟩
   have ob':(m.blk y').kind=2\/(m.blk y').kind=3->(zN ρ mi m π E).ob p'.c:=fun Om=> .inl ⟨y',p',du,h0,rfl,Om,(zS h.bB y').2 (by
    by_cases cA:y'<m.home
    ·have :=h.low y' cA;omega
    ·omega)⟩
   by_cases e1:(M.blk (π b)).kind=1
   ·by_cases e2:(m.blk y').kind=1
    ·refine⟨e1,e2,Classical.byContradiction fun hn=>?_⟩;have hy1:(aA yo mq).wr p.c (max p.d p'.d):=
      ⟨b,p,hp,rfl,aj,aj,⟨by rw[<-s.kind];exact e1,by rw[q.bB];rfl,alive (Hq.wf.live b) _⟩,.inl fl⟩
     have hy2:(zN ρ mi m π E).rd p.c (max p.d p'.d):=by
      rw[hc];exact rrd du h0 aj aj ⟨e2,by rw[h.bB];rfl,alive (H.wf.live y') _⟩
     exact(Hq.apart.cell _ _ hy2).2 hy1
    ·exfalso
     obtain⟨y,hy⟩:=shk e1;have :=(Hq.apart.obj _ (ob' aj)).2.2;rw[<-hc,hy]at this;cases this
   ·exfalso
    have o1:(aA yo mq).ob p.c:=⟨b,p,hp,rfl,by rw[<-s.kind];omega,oq⟩
    by_cases e2:(m.blk y').kind=1
    ·obtain⟨y,hy⟩:=abg e2;have :=(sq.low.ob _ o1).2;rw[hc,hy]at this;cases this
    ·have :=(Hq.apart.obj _ (ob' aj)).2.1;rw[<-hc]at this;exact this o1
  ·have Y0:b<mi.next:=by
    rcases Nat.lt_or_ge b mi.next with h1|h1
    ·exact h1
    ·exact absurd (h.wf.xM b h1) hi
   have e1:(M.blk (π b)).kind=(m.blk (π b)).kind:=s.kind.trans (Rg.trans (h.same b hi).kind.symm);rw[e1]at hk⊢;rw[hold b Y0]at hp;exact hs.sep (π b) y' p p' (h0 b hi) hp du hk gf hc
 refine⟨⟨⟨fun y p hp=>?_,fun y p hp hk=>?_,fun y p o v hp hc=>?_,fun y p o hp ho hk hb=>?_,fun y p hp hk ho=>?_,fun y p hp hk ho=>?_,
  fun y y' p p' dO hp du hk gf hc=>?_,fun y p hp=>?_,fun y p hp hk iN=>?_⟩,H.rest.trans KE,⟨fun c x he=>⟨a8 (H.apart.cell c x he).1 K.size,fun hx=>?_⟩,fun c he=>⟨a8 (H.apart.obj c he).1 K.size,fun hx=>?_,?_⟩,H.apart.wf⟩,
  fun g hg=>let⟨p,a,b⟩:=H.og g hg;⟨p,ule _ _ a,b⟩,⟨by rw[hM];exact h.wg,by rw[hM];exact h.pend,?_⟩,?_,fun y p x hp hb h1 h2 h3 he=>?_,fun c x he hr=>?_⟩,⟨fun c x hx=>?_,fun c x hx=>?_,fun c hx=>?_⟩⟩
 ·rw[O7];rcases Nat.lt_or_ge y m.next with hy|hy
  ·omega
  ·rw[hU]at hp;unfold DG at hp;rw[bZ aj]at hp;have :=sq.my _ p hp;have :=q.next;omega
 ·rcases src (y:=y) (by rw[hk];decide)with⟨b,rfl,s,_⟩|⟨e,h0,hy⟩
  ·have xG:=s.kind.symm.trans hk;obtain⟨a1,a2,a3⟩:=sq.cells b p (by rw[<-Ki];exact hp) xG;exact⟨a1.trans (s.cells xG).1.symm,by rw[(s.cells xG).2,List.length_map];exact a2,a3⟩
  ·rw[e]at hk⊢;rw[tj hy]at hp;obtain⟨a1,a2,e',n,a3,a4⟩:=hs.cells y p hp hk;exact⟨a1,a2,e',n,by rw[K.shape _ (hs.rr y p hp)];exact a3,a4⟩
 ·obtain⟨c1,c2,c3⟩:=rJ hc;rcases src (y:=y) (by rw[c1];decide)with⟨b,rfl,s,ep,_⟩|⟨e,h0,hy⟩
  ·have xG:=s.kind.symm.trans c1;rw[(s.cells xG).2,List.getElem?_map]at c3;obtain⟨z,hz,ez⟩:=aB.1 c3;unfold okB at ep;rw[ag]at ep;have hv:=aE.1 ep.1 _ (List.mem_of_getElem? hz);cases z with
   |none=>cases ez
   |some u=>
    cases ez;obtain⟨v',a1,a2⟩:=sq.lP b p o u (by rw[<-Ki];exact hp) (so xG (by rw[q.bB];rfl) hz);exact⟨v',a1,(qY hv).2 (by rw[aex];exact a2)⟩
  ·rw[e]at c1 c3;rw[tj hy]at hp;have nR:m.cell y o=some v:=so c1 (by rw[h.bB];rfl) c3;obtain⟨v',a1,a2⟩:=hs.lP y p o v hp nR;have hro:=iS hs hp nR;refine⟨v',?_,a2.iA ule⟩;rw[K.cell _ _ (rrd hp h0 aj aj (by rw[Nat.add_sub_cancel_left];exact Mem.eD nR))];exact a1
 ·rcases src (y:=y) (by rw[hk];decide)with⟨b,rfl,s,_,nA,_⟩|⟨e,h0,hy⟩
  ·exact sq.thaw b p o (by rw[<-Ki];exact hp) ho (s.kind.symm.trans hk) ((SJ nA).2 (by rw[<-O8];exact hb))
  ·rw[e]at hk;rw[tj hy]at hp;rw[tW (K.qP _ _ (hs.rr y p hp))];exact hs.thaw y p o hp ho hk (by rw[<-O8];exact hb)
 ·rcases src (y:=y) (by rw[hk];decide)with⟨b,rfl,s,ep,nA,_⟩|⟨e,h0,hy⟩
  ·have xG:=s.kind.symm.trans hk;obtain⟨js,a1,a2⟩:=sq.maps b p (by rw[<-Ki];exact hp) xG ((SI nA).2 ho);unfold okB at ep;rw[ag]at ep;rw[(s.map xG).2,(s.map xG).1];exact⟨js,a1,(Cy ep.2).2 (by rw[aex];exact a2)⟩
  ·rw[e]at hk⊢;rw[tj hy]at hp;obtain⟨js,a1,a2⟩:=hs.maps y p hp hk ((mO y).1 ho);refine⟨js,?_,a2.mono fun _ _ x=>⟨x.1.iA ule,x.2.1.iA ule,x.2.2⟩⟩;rw[K.obj _ (.inl ⟨y,p,hp,h0,rfl,.inl hk,(mO y).1 ho⟩)];exact a1
 ·rcases src (y:=y) (by rw[hk];decide)with⟨b,rfl,s,ep,nA,_⟩|⟨e,h0,hy⟩
  ·have xG:=s.kind.symm.trans hk;rw[(s.iter xG).1,(s.iter xG).2];exact sq.lC b p (by rw[<-Ki];exact hp) xG ((SI nA).2 ho)
  ·rw[e]at hk⊢;rw[tj hy]at hp;obtain⟨a1,a2⟩:=hs.lC y p hp hk ((mO y).1 ho);exact⟨a1,by rw[K.obj _ (.inl ⟨y,p,hp,h0,rfl,.inr hk,(mO y).1 ho⟩)];exact a2⟩
 ·rcases src hk with⟨b,rfl,s,_,hb,_⟩|⟨e,h0,hy⟩<;>rcases src gf with⟨b',rfl,s',_,iL,_⟩|⟨e',h0',Kn⟩
  ·rw[s.kind]at hk⊢;rw[s'.kind]at gf⊢;exact sq.sep b b' p p' (fun e=>dO (by rw[e])) (by rw[<-Ki];exact hp) (by rw[<-Ki];exact du) hk gf hc
  ·rw[e']at gf⊢;exact JG (by rw[<-Ki];exact hp) du s hb e' h0' Kn hk gf hc
  ·rw[e]at hk⊢;obtain⟨a1,a2,a3⟩:=JG (by rw[<-Ki];exact du) hp s' iL e h0 hy gf hk hc.symm;exact⟨a2,a1,aj⟩
  ·rw[e]at hk⊢;rw[e']at gf⊢;exact hs.sep y y' p p' dO (by rw[<-tj hy];exact hp) (by rw[<-tj Kn];exact du) hk gf hc
 ·rcases Nat.lt_or_ge y m.next with hy|hy
  ·rw[tj hy]at hp;exact a8 (hs.rr y p hp) K.size
  ·rw[hU]at hp;unfold DG at hp;rw[bZ aj]at hp;exact sq.rr _ p hp
 ·rcases src (y:=y) (by rw[hk];decide)with⟨b,rfl,s,_,nA,⟨e⟩|⟨e,Y0⟩⟩|⟨e,h0,hy⟩
  ·exact sq.vars b p (by rw[<-Ki];exact hp) (s.kind.symm.trans hk) (by rw[<-e];exact iN)
  ·rw[e]at hk iN;exact hs.vars (π b) p (by rw[<-tj (h.lt b Y0)];exact hp) hk iN
  ·rw[e]at hk iN;exact hs.vars y p (by rw[<-tj hy];exact hp) hk iN
 ·rcases tS c x hx with hx|⟨b,p,h1,_,h2,h3,h4,h5⟩
  ·exact(Hq.apart.cell c x (.inr he)).2 hx
  ·exact(H.apart.cell c x he).2 ⟨b,p,h1,h2,h3,h4,h5⟩
 ·rcases Ab c hx with hx|⟨b,p,h1,_,h2,h3,h4⟩
  ·exact(Hq.apart.obj c (.inr he)).2.1 hx
  ·exact(H.apart.obj c he).2.1 ⟨b,p,h1,h2,h3,h4⟩
 ·exact(Hq.apart.obj c (.inr he)).2.2
 ·rw[WU,O7];have :=h.hn;omega
 ·refine⟨fun y=>?_,fun y hy=>?_,fun s rZ=>?_,?_,fun y=>?_⟩
  ·rw[hM]
   show _<m.tick+1
   rcases gE (m:=m) (L:=L.map fun x=>(π x.1,qM π x.2)) (nx:=m.next+(nx-mi.next)) y with⟨e,_⟩|⟨k,_,e⟩
   ·have e:(iM π mi m L nx).blk y=m.blk y:=e;rw[e];exact Nat.lt_succ_of_lt (H.wf.a9 y)
   ·have e:(iM π mi m L nx).blk y={k with a9:=m.tick}:=e;rw[e];exact Nat.lt_succ_self _
  ·rw[O7]at hy;refine Classical.byContradiction fun hk=>?_
   rcases src hk with⟨b,rfl,s,_,hb,_⟩|⟨e,h0,Kn⟩
   ·have hkq:(mq.blk b).kind≠0:=by rw[<-s.kind];exact hk
    have hbq:b<mq.next:=by
     rcases Nat.lt_or_ge b mq.next with h1|h1
     ·exact h1
     ·exact absurd (Hq.wf.xM b h1) hkq
    have :=q.next;rcases Nat.lt_or_ge b mi.next with h1|h1
    ·have :=h.lt b h1;omega
    ·have :=h.ge b h1;omega
   ·omega
  ·rw[QY]at rZ;cases rZ
  ·rw[Mfl,O7];have :=H.wf.fl;omega
  ·rw[hM];rcases gE (m:=m) (L:=L.map fun x=>(π x.1,qM π x.2)) (nx:=m.next+(nx-mi.next)) y with⟨e,_⟩|⟨k,hm,e⟩
   ·have e:(iM π mi m L nx).blk y=m.blk y:=e;rw[e];exact H.wf.live y
   ·have e:(iM π mi m L nx).blk y={k with a9:=m.tick}:=e;rw[e];obtain⟨x,hx,ex⟩:=List.mem_map.1 hm;cases ex;obtain⟨_,_,_,n4,n5⟩:=q.new x hx;refine⟨fun z hz=>?_,n4.2⟩;obtain⟨u,hu,rfl⟩:=List.mem_map.1 hz;cases u with
    |none=>exact absurd rfl (n4.1 _ hu)
    |some u=>exact fun e=>by cases e
 ·rcases src (kR h3)with⟨b,rfl,s,_,nA,_⟩|⟨e,h0,hy⟩
  ·exact Hq.MN b p x (by rw[<-Ki];exact hp) ((SJ nA).2 (by rw[<-O8];exact hb)) h1 h2 ((qR s).2 h3) (.inr he)
  ·exact H.MN y p x (by rw[<-tj hy];exact hp) (by rw[<-O8];exact hb) h1 h2 ((mR e).1 h3) he
 ·obtain⟨y,p,h1,h2,h3,h4,h5⟩:=hr;rcases src (kR h5)with⟨b,rfl,s,_,nA,_⟩|⟨e,h0,hy⟩
  ·exact Hq.ew c x (.inr he) ⟨b,p,by rw[<-Ki];exact h1,h2,h3,h4,(qR s).2 h5⟩
  ·exact H.ew c x he ⟨y,p,by rw[<-tj hy];exact h1,h2,h3,h4,(mR e).1 h5⟩
 ·rcases hx with hx|hx
  ·exact(Re c x hx).imp id id
  ·exact .inr (.inr hx)
 ·rcases hx with hx|hx
  ·exact(tS c x hx).imp id .inl
  ·exact .inr (.inr hx)
 ·rcases hx with hx|hx
  ·exact(Ab c hx).imp id .inl
  ·exact .inr (.inr hx)
end
end Go.AM
namespace Go.AM
open Go Go.Conc Go.Proofs
section
variable {mi m mq:Mem}{π:Nat->Nat}{L:List (Nat×dU)}{nx G:Nat}
theorem Yb (h:oz G mi m π)(q:Ke mi mq L nx)(xM:∀b,mq.next<=b->(mq.blk b).kind=0):Mv m (iM π mi m L nx):=by
 refine⟨Nat.le_add_right _ _,Nat.le_succ _,fun hw=>?_,fun y=>?_,fun s hs=> .inl hs⟩
 ·refine⟨fun y=>?_,fun y hy=>?_,fun s rZ=>?_,?_,fun y=>?_⟩
  ·show _<m.tick+1
   rcases gE (m:=m) (L:=L.map fun x=>(π x.1,qM π x.2)) (nx:=m.next+(nx-mi.next)) y with⟨e,_⟩|⟨k,_,e⟩
   ·have e:(iM π mi m L nx).blk y=m.blk y:=e;rw[e];exact Nat.lt_succ_of_lt (hw.a9 y)
   ·have e:(iM π mi m L nx).blk y={k with a9:=m.tick}:=e;rw[e];exact Nat.lt_succ_self _
  ·have hy:m.next+(nx-mi.next)<=y:=hy;refine Classical.byContradiction fun hk=>?_
   rcases EV h hw q hk with⟨b,rfl,s,_,hb,_⟩|⟨e,h0,Kn⟩
   ·have hkq:(mq.blk b).kind≠0:=by rw[<-s.kind];exact hk
    have hbq:b<mq.next:=by
     rcases Nat.lt_or_ge b mq.next with h1|h1
     ·exact h1
     ·exact absurd (xM b h1) hkq
    have :=q.next;rcases Nat.lt_or_ge b mi.next with h1|h1
    ·have :=h.lt b h1;omega
    ·have :=h.ge b h1;omega
   ·omega
  ·have rZ:s∈m.bB:=rZ;rw[h.bB]at rZ;cases rZ
  ·show m.floor<=m.next+_
   have :=hw.fl;omega
  ·rcases gE (m:=m) (L:=L.map fun x=>(π x.1,qM π x.2)) (nx:=m.next+(nx-mi.next)) y with⟨e,_⟩|⟨k,hm,e⟩
   ·have e:(iM π mi m L nx).blk y=m.blk y:=e;rw[e];exact hw.live y
   ·have e:(iM π mi m L nx).blk y={k with a9:=m.tick}:=e;rw[e];obtain⟨x,hx,ex⟩:=List.mem_map.1 hm;cases ex;obtain⟨_,_,_,n4,n5⟩:=q.new x hx;refine⟨fun z hz=>?_,n4.2⟩;obtain⟨u,hu,rfl⟩:=List.mem_map.1 hz;cases u with
    |none=>exact absurd rfl (n4.1 _ hu)
    |some u=>exact fun e=>by cases e
 ·rcases gE (m:=m) (L:=L.map fun x=>(π x.1,qM π x.2)) (nx:=m.next+(nx-mi.next)) y with⟨e,_⟩|⟨k,_,e⟩
  ·exact .inl e
  ·exact .inr (by
    have e:(iM π mi m L nx).blk y={k with a9:=m.tick}:=e;rw[e];exact ai _)
end
theorem I1 {Fin:ae->ay->Prop}{call:bJ}(C:fe ab X0 true (Jn Fin) Mv call){mi mq m:Mem}{π:Nat->Nat}{f:Nat}{args:List ae}{v:ae}{L:List (Nat×dU)}{nx:Nat}(fK:call f args mi=some (v,mq))(hb:dE ab f=true)
  (h:oz ab.globals.size mi m π)(q:Ke mi mq L nx)(ha:args.all (mm 20)=true)(hv:mm 20 v=true):
  Mv m (iM π mi m L nx)/\∃c,∀{E:Perm}{bg:ay}{σ:mA}{ρ:cZ}{w:ay} (bj:Array ae) (fr:Frame) (cs:List Frame) (n:Nat) (kind:CallKind),
   cQ ab E bg σ ρ m w->bC (aP ρ) (args.map (bN π 20)) bj.toList->(kind= .normal\/(kind= .deferred/\fr.mode= .returning/\f≠X0.yv/\f≠X0.mD))->
   (∀fX bq v' w',ρ.le bq->qU m ρ bq->cQ ab E bg fX bq (iM π mi m L nx) w'->aP bq (bN π 20 v) v'->Jn Fin fX n ((aA bq (iM π mi m L nx)).or E) (G (if kind= .normal then fr.finish v' else fr) cs) w')->
   Jn Fin σ (n+c) ((aA ρ m).or E) (G (Frame.enter ab f bj kind) (fr::cs)) w:=by
 obtain⟨hmv,_,ry⟩:=C f args mi v mq h.wf fK;refine⟨Yb h q (hmv.wf h.wf).xM,?_⟩;obtain⟨c,ry⟩:=ry hb;refine⟨c,fun{E bg σ ρ w} bj fr cs n kind H hr hk Jl=>?_⟩;cases σ with
 |AL=>trivial
 |fL gr=>
  obtain⟨_,_,_,wa,k1,_⟩:=H.fL;rw[h.wg]at k1;cases k1
 |idle=>
  have HI:=P' h H;have key:=ry bj fr cs n kind HI ((q9 (fun h=>qY h) ha).1 hr) hk fun fX yo v' w' hle hold Hq Rd=>by
   cases fX with
   |AL=>trivial
   |fL gr=>
    obtain⟨_,_,_,wa,k1,_⟩:=Hq.fL;rw[q.wg]at k1;cases k1
   |idle=>
    have kg:∀b,b<mi.next->yo b=ρ (π b):=fun b hb=>hold b hb fun s hs=>by rw[h.Z9]at hs;cases hs
    obtain⟨Ho,vN⟩:=LP h H Hq hle kg q;have ule:ρ.le (DG ρ yo m mi.next):=fun b p hp=>(bK (H.jF.my b p hp)).trans hp
    have :=Jl .idle (DG ρ yo m mi.next) v' w' ule (.of fun b hb=>bK hb) Ho ((qY hv).2 (by
     have :(fun b=>DG ρ yo m mi.next (π b))=yo:=funext fun b=>Nu h kg b
     rw[this];exact Rd))
    exact JM.perm vN Ho.low.wr (h.deaf.trans q.deaf.symm) this
  have kn:∀{b o},mi.nI b o->(mi.blk b).kind≠0:=fun k=>by rw[((jV h.YR).1 k).1];decide
  have vN:je ((aA (fun b=>ρ (π b)) mi).or (zN ρ mi m π E)) ((aA ρ m).or E):=by
   refine⟨fun c x hx=>?_,fun c x hx=>?_,fun c hx=>?_⟩
   ·rcases hx with⟨b,p,h1,h2,h3,h4,h5⟩|⟨b,p,h1,_,h2,h3,h4,h5⟩|hx
    ·exact .inl ⟨π b,p,h1,h2,h3,h4,(h.nI (kn h5)).1 h5⟩
    ·exact .inl ⟨b,p,h1,h2,h3,h4,h5⟩
    ·exact .inr hx
   ·rcases hx with⟨b,p,h1,h2,h3,h4,h5⟩|⟨b,p,h1,_,h2,h3,h4,h5⟩|hx
    ·exact .inl ⟨π b,p,h1,h2,h3,h4,(h.okW (kn ((lY h.ab4).1 h5).1)).1 h5⟩
    ·exact .inl ⟨b,p,h1,h2,h3,h4,h5⟩
    ·exact .inr hx
   ·rcases hx with⟨b,p,h1,h2,h3,h4⟩|⟨b,p,h1,_,h2,h3,h4⟩|hx
    ·have hk:(mi.blk b).kind≠0:=aj;exact .inl ⟨π b,p,h1,h2,by rw[(h.same b hk).kind];exact h3,(h.own hk).1 h4⟩
    ·exact .inl ⟨b,p,h1,h2,h3,h4⟩
    ·exact .inr hx
  exact JM.perm vN HI.low.wr (h.ah4.trans h.deaf.symm) key
end Go.AM
namespace Go.AM
set_option maxRecDepth 1000000
open Go Go.Conc Go.Proofs
abbrev vI (n:Int):ae:= .int .i64 n
abbrev vP (b o:Nat):ae:= .pointer (some ⟨b,o,none⟩)
abbrev vL (b o l c:Nat):ae:= .slice (some ⟨b,o,none⟩) l c
abbrev eh (i j:Int):Int:=qF uw Int.add .i64 i j
abbrev jH (i j:Int):Int:=qF vy Int.sub .i64 i j
abbrev jq (i j:Int):Int:=qF Gp Int.mul .i64 i j
abbrev ZZ (P:aD)(t:aM)(s:ByteArray)(lo hi:Option ae):Option ae:=pu P (.string s::(lo.toList++hi.toList)) (Instr.sliceAt t (.string s) lo hi none)
abbrev eI (P:aD)(t:aM)(a:ae)(m:Mem):Bool:=(j9 P t a m).isSome
end Go.AM
namespace Go.AM
set_option maxRecDepth 1000000
open Go Go.Conc Go.Proofs
structure Kp (m m':Mem)(S:Nat->Prop):Prop where
 next:m.next<=m'.next
 bB:m'.bB=m.bB
 opn:m'.opn=m.opn
 base:m'.base=m.base
 home:m'.home=m.home
 floor:m'.floor=m.floor
 wg:m'.wg=m.wg
 pend:m'.pend=m.pend
 deaf:m'.deaf=m.deaf
 blk:∀b,b<m.next->¬S b->m'.blk b=m.blk b
def eQ:Nat->Prop:=fun _=>False
section
variable {m m1 m':Mem}{S S':Nat->Prop}
theorem Kp.refl(m:Mem)(S:Nat->Prop):Kp m m S:=⟨ai _,rfl,rfl,rfl,rfl,rfl,rfl,rfl,rfl,fun _ _ _=>rfl⟩
theorem Kp.mono(h:Kp m m' S)(k:∀b,b<m.next->S b->S' b):Kp m m' S':={h with blk:=fun b hb hs=>h.blk b hb fun x=>hs (k b hb x)}
theorem Kp.trans(h:Kp m m1 S)(k:Kp m1 m' S')(hk:∀b,b<m.next->S' b->S b):Kp m m' S:=
 ⟨cF h.next k.next,k.bB.trans h.bB,k.opn.trans h.opn,k.base.trans h.base,k.home.trans h.home,k.floor.trans h.floor,k.wg.trans h.wg,k.pend.trans h.pend,k.deaf.trans h.deaf,
  fun b hb hs=>(k.blk b (a8 hb h.next) fun x=>hs (hk b hb x)).trans (h.blk b hb hs)⟩
theorem Kp.aS(h:Kp m m1 S)(k:Kp m1 m' eQ):Kp m m' S:=h.trans k fun _ _ h=>h.elim
theorem Kp.vF(h:Kp m m' eQ):Kp m m' S:=h.mono fun _ _ h=>h.elim
theorem Kp.new{N:Nat}(h:Kp m m1 S)(k:Kp m1 m' S')(hn:m.next<=N)(hk:∀b,S' b->N<=b):Kp m m' S:=h.trans k fun b hb hs=>absurd (hk b hs) aj
structure Gd (m:Mem):Prop where
 pend:m.pend=[]
 deaf:m.deaf=0
 bf:m.base<=m.floor
 fn:m.floor<=m.next
 hn:m.home<=m.next
 bB:∀s∈m.bB,s.2.1<=m.next
theorem Gd.ext(h:Gd m)(k:Kp m m' S):Gd m':=
 ⟨k.pend.trans h.pend,k.deaf.trans h.deaf,by rw[k.base,k.floor];exact h.bf,by rw[k.floor];exact cF h.fn k.next,by rw[k.home];exact cF h.hn k.next,fun s hs=>by rw[k.bB]at hs;exact cF (h.bB s hs) k.next⟩
theorem Gd.fresh(h:Gd m){b:Nat}(hb:m.next<=b):aL m.bB b=false:=gV fun x hx _ h2=>by have :=h.bB x hx;omega
abbrev Own (m:Mem)(b:Nat):Prop:=m.fq b=true
theorem Own.ext{b:Nat}(h:Own m b)(k:Kp m m' S):Own m' b:=by unfold Own Mem.fq at h⊢;rw[k.bB,k.base,k.floor,k.opn];exact h
theorem Gd.own(h:Gd m)(k:Kp m m' S){b:Nat}(hb:m.next<=b):Own m' b:=by
 have h1:=h.fresh hb;unfold Own Mem.fq;rw[k.bB,k.base,k.floor,h1];have :=h.bf;have :=h.fn;simp only[Bool.not_false,Bool.true_and,ag,Bool.or_eq_true,jE];exact⟨aj,.inl aj⟩
theorem Own.may{b:Nat}(h:Own m b)(o n:Nat):m.cP b o n=true:=by
 unfold Own Mem.fq at h;unfold Mem.cP;simp only[ag,Bool.or_eq_true,jE,Bool.not_eq_true']at h⊢;exact⟨⟨gu h.1.1 o n,h.1.2⟩,h.2.elim (fun x=> .inl (.inl x)) fun x=> .inl (.inr x)⟩
structure Obj (m:Mem)(b sz:Nat)(cs:List ae):Prop where
 lt:b<m.next
 kind:(m.blk b).kind=1
 sz:(m.blk b).sz=sz
 cs:(m.blk b).cs=cs.map some
 Du:aL m.bB b=false
theorem Obj.ext{b sz:Nat}{cs:List ae}(h:Obj m b sz cs)(k:Kp m m' S)(hs:¬S b):Obj m' b sz cs:=by
 have e:=k.blk b h.lt hs;exact⟨a8 h.lt k.next,by rw[e];exact h.kind,by rw[e];exact h.sz,by rw[e];exact h.cs,by rw[k.bB];exact h.Du⟩
theorem Obj.aU{b sz:Nat}{cs:List ae}(h:Obj m b sz cs)(k:Kp m m' eQ):Obj m' b sz cs:=h.ext k id
theorem kD:∀{cs:List ae}{n:Nat},n<=cs.length->fY (cs.map some) n=some (cs.take n)
 |_,0,_=>by simp[fY]
 | [],n+1,h=>by simp at h
 |v::cs,n+1,h=>by simp only[List.map_cons,fY,kD (cs:=cs) (n:=n) (by simpa using h),cT,List.take_succ_cons]
theorem ji {b sz o n:Nat}{cs vs:List ae}(h:Obj m b sz cs)(hv:(cs.drop o).take n=vs)(hn:o+n<=cs.length):m.dv b o n=some vs:=by
 unfold Mem.dv;simp only[h.kind,gu h.Du o n,h.cs,beq_self_eq_true,Bool.not_false,Bool.and_self,if_true];rw[<-List.map_drop,kD (by simp;omega),hv]
theorem bY {b sz o n:Nat}{cs vs:List ae}(h:Obj m b sz cs)(hv:(cs.drop o).take n=vs)(hn:o+n<=cs.length):fg n b o m=some (.agg vs.toArray,m):=by
 unfold fg;rw[ji h hv hn]
theorem aO {b sz o:Nat}{cs:List ae}{v:ae}(h:Obj m b sz cs)(hv:cs[o]?=some v):aT b o m=some (v,m):=by
 unfold aT;have hk:=h.kind;have hc:=h.cs;cases hb:m.blk b with
 |mk kind z c es clock str pos a9=>
  rw[hb]at hk hc;simp only at hk hc;subst hk hc;simp only[Cm,gu h.Du o 1,Bool.not_false,xQ];have :(cs.map some).drop o=some v::(cs.drop (o+1)).map some:=by
   rw[<-List.map_drop];have hd:cs.drop o=v::cs.drop (o+1):=by
    obtain⟨cA,he⟩:=List.getElem?_eq_some_iff.1 hv;rw[<-he];exact List.drop_eq_getElem_cons cA
   rw[hd];rfl
  rw[this]
def q8 (cs:List ae)(o:Nat):List ae->List ae
 | []=>cs
 |v::vs=>q8 (cs.set o v) (o+1) vs
theorem jK:∀(vs:List ae) (x:ae) (cs:List ae) (o:Nat),q8 (x::cs) (o+1) vs=x::q8 cs o vs
 | [],_,_,_=>rfl
 |v::vs,x,cs,o=>by unfold q8;simp only[List.set_cons_succ];exact jK vs x (cs.set o v) (o+1)
theorem lU:∀{cs:List ae}{o:Nat}{vs:List ae},o+vs.length<=cs.length->eB (cs.map some) o vs=some ((q8 cs o vs).map some)
 |cs,o,[],_=>by cases cs<;>cases o<;>rfl
 | [],o,v::vs,h=>by simp at h
 |c::cs,0,v::vs,h=>by
  simp only[List.map_cons,eB];rw[lU (cs:=cs) (o:=0) (vs:=vs) (by simp at h;omega)]
  show some (some v::(q8 cs 0 vs).map some)=some ((q8 (v::cs) 1 vs).map some)
  rw[jK];rfl
 |c::cs,o+1,v::vs,h=>by
  simp only[List.map_cons,eB];rw[lU (cs:=cs) (o:=o) (vs:=v::vs) (by simp at h⊢;omega),jK];rfl
theorem mS {b:Nat}{k:dU}:Kp m (m.aZ b k) (fun x=>x=b):=⟨ai _,rfl,rfl,rfl,rfl,rfl,rfl,rfl,rfl,fun x _ hx=>by rw[Mem.dy,bZ (fun e=>hx e.symm)]⟩
theorem lh {b sz o:Nat}{cs:List ae}(vs:List ae)(h:Obj m b sz cs)(hw:m.cP b o vs.length=true)(hn:o+vs.length<=cs.length)(hv:vs.all (·.oneCell')=true):
  ∃m',Az b o vs m=some (undef,m')/\Obj m' b sz (q8 cs o vs)/\Kp m m' (fun x=>x=b):=by
 have e:m.dD b o vs=some (m.aZ b {m.blk b with cs:=(q8 cs o vs).map some}):=by
  unfold Mem.dD;simp only[h.kind,hw,hv,h.cs,beq_self_eq_true,Bool.and_self,if_true,lU hn,cT]
 refine⟨m.aZ b {m.blk b with cs:=(q8 cs o vs).map some},by unfold Az;rw[e],⟨h.lt,?_,?_,?_,h.Du⟩,mS⟩
 ·rw[Mem.dy,bK rfl];exact h.kind
 ·rw[Mem.dy,bK rfl];exact h.sz
 ·rw[Mem.dy,bK rfl]
theorem EE:∀{o:Nat}{cs:List ae}{v:ae},o<cs.length->∃l,vB o (cs.map some) v=some l:=by
 intro o
 induction o using Nat.strongRecOn with
 |ind o ih=>
  intro cs v h;rcases o with _|_|_|_|_|_|_|_|o<;>rcases cs with _|⟨c0,_|⟨c1,_|⟨c2,_|⟨c3,_|⟨c4,_|⟨c5,_|⟨c6,_|⟨c7,t⟩⟩⟩⟩⟩⟩⟩⟩<;>
   first
   |exact⟨_,rfl⟩
   |(exfalso;simp only[List.length_cons,List.length_nil]at h;omega)
   |(obtain⟨l,hl⟩:=ih o aj (cs:=t) (v:=v) (by simp only[List.length_cons]at h;omega)
     exact⟨_,by simp only[List.map_cons,vB,hl];rfl⟩)
theorem NS {b o:Nat}(h:m.cP b o 1=true):P1 m b o=true:=by
 unfold P1
 split
 ·exact Nat.ble_eq_true_of_le (Mem.kH h)
 ·exact h
theorem lQ {b sz o:Nat}{cs:List ae}(v:ae)(h:Obj m b sz cs)(hw:m.cP b o 1=true)(hn:o<cs.length)(h1:mH v=true:=by rfl):
  ∃m',jI b o v m=some (undef,m')/\Obj m' b sz (cs.set o v)/\Kp m m' (fun x=>x=b):=by
 obtain⟨l,hl⟩:=EE (v:=v) hn;have hp:=AQ _ _ _ _ hl;rw[lU (cs:=cs) (o:=o) (vs:=[v]) (by simp;omega)]at hp;obtain rfl:=Option.some.inj hp;have hk:=h.kind;have hc:=h.cs;have hz:=h.sz;unfold jI;cases hb:m.blk b with
 |mk kind z c es clock str pos a9=>
  rw[hb]at hk hc hz;simp only at hk hc hz;subst hk hc hz;simp only[h1,NS hw,hl];refine⟨_,rfl,⟨h.lt,?_,?_,?_,h.Du⟩,⟨ai _,rfl,rfl,rfl,rfl,rfl,rfl,rfl,rfl,fun x _ hx=>?_⟩⟩
  ·show((m.heap.put b _).get b).kind=1
   rw[j8.get_put,bK rfl]
  ·show((m.heap.put b _).get b).sz=_
   rw[j8.get_put,bK rfl]
  ·show((m.heap.put b _).get b).cs=_
   rw[j8.get_put,bK rfl];rfl
  ·show(m.heap.put b _).get x=m.blk x
   rw[j8.get_put,bZ (fun e=>hx e.symm)];rfl
theorem gB (h:Gd m){k:dU}{cs:List ae}{sz:Nat}(hk:k.kind=1)(hs:k.sz=sz)(hc:k.cs=cs.map some):Obj (m.alloc k) m.next sz cs/\Kp m (m.alloc k) eQ/\(m.alloc k).next=m.next+1:=by
 refine⟨⟨Nat.lt_succ_self _,?_,?_,?_,h.fresh (ai _)⟩,⟨Nat.le_succ _,rfl,rfl,rfl,rfl,rfl,rfl,rfl,rfl,fun x hx _=>?_⟩,rfl⟩
 ·rw[Mem.cf,bK rfl];exact hk
 ·rw[Mem.cf,bK rfl];exact hs
 ·rw[Mem.cf,bK rfl];exact hc
 ·rw[Mem.cf,bZ aj]
theorem aY (h:Gd m)(cs:List ae):∃m',ni (cs.map some) m=some (vP m.next 0,m')/\Obj m' m.next 0 cs/\Kp m m' eQ/\m'.next=m.next+1/\(m'.blk m.next).pos=1:=by
 obtain⟨h1,h2,h3⟩:=gB (m:=m) h (k:=⟨1,0,cs.map some,#[],0,.empty,1,0⟩) rfl rfl rfl;exact⟨m.alloc ⟨1,0,cs.map some,#[],0,.empty,1,0⟩,rfl,h1,h2,h3,by rw[Mem.cf,bK rfl]⟩
theorem bP (h:Gd m):zQ m=some (undef,m):=by unfold zQ;rw[h.pend]
theorem dS (b o:Nat):gj (vP b o) m=some (vI ((m.blk b).a9:Int),m):=rfl
theorem CP {v:ae}{b s:Nat}{lk:Mem->Bool}(hv:mZ v=some b)(hs:(m.blk b).a9=s)(hl:lk m=true):cW (vI s) v lk m=some (undef,m):=by
 unfold cW jo;rw[hv,hl];subst hs
 show(match Nat.beq (m.blk b).a9 (m.blk b).a9&&true with |true=>_|false=>_)=_
 rw[show Nat.beq (m.blk b).a9 (m.blk b).a9=true from Nat.beq_refl _];rfl
end
end Go.AM
namespace Go.AM
set_option maxRecDepth 1000000
open Go Go.Conc Go.Proofs
theorem bG.{u}{α:Sort u}{a b:α}(h:a=b:=by kernel_rfl):a=b:=h
def V':List Nat:=[1,2,3,4,5,9,10,21,22,25,28,29,47,54,55,66,67,72,74,84,89,93,97,98,99,100,101,104,120,131,147,150,155,156,157,158,159,162,173,174,223,258,259,301,302,322,346,347,371,376,395,396,439,440]
theorem V9:(V'.all fun t=>wq ab t==some false)=true:=bG
theorem ahW {t:Nat}(h:V'.contains t=true):wq ab t=some false:=by
 have :=aE.1 V9 t (by simpa using h);simpa using this
theorem vY {m:Mem}{b o sz s t:Nat}{cs:List ae}{v:ae}(h:Obj m b sz cs)(hv:cs[o]?=some v)(hs:(m.blk b).a9=s)(ht:V'.contains t=true:=by rfl):cW (vI s) (vP b o) (eI ab t (vP b o)) m=some (undef,m):=by
 refine CP rfl hs ?_;unfold eI j9;simp only[ahW ht];obtain⟨cA,he⟩:=List.getElem?_eq_some_iff.1 hv;have :m.dv b o 1=some [v]:=ji h (by rw[List.drop_eq_getElem_cons cA];simp[he]) aj;rw[this];rfl
theorem alm {m:Mem}{b o sz s t n:Nat}{cs vs:List ae}(h:Obj m b sz cs)(hv:(cs.drop o).take n=vs)(hn:o+n<=cs.length)(ht:wq ab t=some true)(hz:dV ab t=some n)(hs:(m.blk b).a9=s):cW (vI s) (vP b o) (eI ab t (vP b o)) m=some (undef,m):=by
 refine CP rfl hs ?_;unfold eI j9;simp only[ht,hz,aX,ji h hv hn];rfl
theorem adH {m:Mem}{v:ae}{b s:Nat}(hv:mZ v=some b)(hf:m.floor<=b)(hs:(m.blk b).a9=s):cW (vI s) v (pH v) m=some (undef,m):=by
 refine CP hv hs ?_;unfold pH;rw[hv];exact Nat.ble_eq_true_of_le hf
section
variable {P:aD}
theorem gk {α β:Type}{x:Sem α}{f:α->Sem β}:(x>>=f).aI P=(x.aI P).bind fun a=>(f a).aI P:=by
 show(x.bind f).aI P=_
 induction x with
 |pure a=>rfl
 |program k ih=>exact ih P
 |_=>rfl
theorem jU {α:Type}(a:α):(pure a:Sem α).aI P=some a:=rfl
theorem BG:(program:Sem aD).aI P=some P:=rfl
theorem tF (d:Nat)(t:aM)(k k':bX)(a b:Int)(h:P.underlying t=some (.int k')):(Op.equalIn (d+1) t (.int k a) (.int k b)).aI P=some (a==b):=by
 simp only[Op.equalIn,gk,cS h,aX,if_true,jU]
theorem sI (d:Nat)(t:aM)(a b:Bool)(h:P.underlying t=some .bool):(Op.equalIn (d+1) t (.bool a) (.bool b)).aI P=some (a==b):=by
 simp only[Op.equalIn,gk,cS h,aX,jU]
theorem qn (d:Nat)(t:aM)(a b:ByteArray)(h:P.underlying t=some .string):(Op.equalIn (d+1) t (.string a) (.string b)).aI P=some (a==b):=by
 simp only[Op.equalIn,gk,cS h,aX,jU]
theorem Li {α:Type}{c:Prop}[Decidable c]{x y:Sem α}:(if c then x else y).aI P=if c then x.aI P else y.aI P:=by split<;>rfl
theorem qm (d:Nat)(t:aM)(xs ys:Array ae)(ht:P.underlying t=some (.struct (P.fieldsOf t)))(hp:P.stoodInHeld t=false):
  (Op.equalIn (d+1) t (.agg xs) (.agg ys)).aI P=(Op.eqFields d xs ys (P.fieldsOf t).toList).aI P:=by
 simp only[Op.equalIn,gk,cS ht,aX,BG,hp,bO,if_false];rw[<-Array.forIn_toList];generalize(P.fieldsOf t).toList=fs;clear ht
 induction fs with
 |nil=>simp[Op.eqFields,jU]
 |cons f fs ih=>
  simp only[List.forIn_cons,Op.eqFields,gk,Li]
  split
  ·cases(part f.type xs f.offset).aI P with
   |none=>rfl
   |some a=>
    simp only[aX];cases(part f.type ys f.offset).aI P with
    |none=>rfl
    |some b=>
     simp only[aX];cases(Op.equalIn d f.type a b).aI P with
     |none=>rfl
     |some r=>
      cases r
      ·simp only[aX,Bool.not_false,if_true,jU]
      ·simp only[aX,Bool.not_true,bO,if_false,jU];exact ih
  ·simp only[jU,aX];exact ih
theorem BH (op:BinOp)(t:aM)(x y:cd)(xs ys:Array ae)(hm:P.eqGuardType P.depth t=false):(eqGuard op t x y (.agg xs) (.agg ys)).aI P=some ():=by
 cases op<;>simp[eqGuard,gk,BG,hm,jU]
end
structure V where
 k:Int
 n:Int
 s:ByteArray
 b:Bool
def V.beq(x y:V):Bool:=x.k==y.k&&(x.n==y.n&&(x.s==y.s&&x.b==y.b))
theorem V.beq_iff{x y:V}:x.beq y=true↔x=y:=by
 obtain⟨k1,n1,s1,b1⟩:=x;obtain⟨k2,n2,s2,b2⟩:=y;simp only[V.beq,V.mk.injEq,ag,beq_iff_eq,bytes_beq]
def V.cells(v:V):List ae:=[vI v.k,vI v.n,.string v.s,.bool v.b]
abbrev V.val(v:V):ae:= .agg #[vI v.k,vI v.n,.string v.s,.bool v.b]
theorem ZS:ab.underlying 49=some (.struct (ab.fieldsOf 49)):=bG
theorem Nd:ab.stoodInHeld 49=false:=bG
theorem Pk:ab.underlying 3=some (.int .i64):=bG
theorem aey:ab.underlying 4=some .bool:=bG
theorem RB:ab.underlying 9=some .string:=bG
theorem Jy (k1 n1:Int)(s1:ByteArray)(b1:Bool)(k2 n2:Int)(s2:ByteArray)(b2:Bool):
  (ab.fieldsOf 49).toList.map (fun f=>((f.name != "_":Bool),f.type,(part f.type #[vI k1,vI n1,.string s1,.bool b1] f.offset).aI ab,(part f.type #[vI k2,vI n2,.string s2,.bool b2] f.offset).aI ab))=
  [(true,3,some (vI k1),some (vI k2)),(true,3,some (vI n1),some (vI n2)),(true,9,some (.string s1),some (.string s2)),(true,4,some (.bool b1),some (.bool b2))]:=bG
theorem tG {d:Nat}{xs ys:Array ae}:∀{fs:List Field}{l:List (Bool×Nat×Option ae×Option ae)},
  fs.map (fun f=>((f.name != "_":Bool),f.type,(part f.type xs f.offset).aI ab,(part f.type ys f.offset).aI ab))=l->
  (Op.eqFields d xs ys fs).aI ab=l.foldr (fun x r=>if x.1 then x.2.2.1.bind fun a=>x.2.2.2.bind fun b=>((Op.equalIn d x.2.1 a b).aI ab).bind fun c=>if c then r else some false else r) (some true)
 | [],l,h=>by subst h;rfl
 |f::fs,l,h=>by
  subst h;simp only[List.map_cons,List.foldr_cons];rw[<-tG (fs:=fs) rfl]
  conv=>lhs;unfold Op.eqFields
  by_cases hn:f.name= "_"
  ·simp only[hn,bne_self_eq_false,ne_eq,not_true_eq_false,if_false,bO]
  ·have :(f.name != "_")=true:=by simpa using hn
   simp only[hn,this,ne_eq,not_false_eq_true,if_true,gk,Li,jU];cases(part f.type xs f.offset).aI ab with
   |none=>rfl
   |some a=>
    cases(part f.type ys f.offset).aI ab with
    |none=>rfl
    |some b=>
     simp only[aX];cases(Op.equalIn d f.type a b).aI ab with
     |none=>rfl
     |some c=>cases c<;>rfl
theorem ald (x y:V):(Op.equalIn 10000 49 x.val y.val).aI ab=some (x.beq y):=by
 rw[show(10000:Nat)=9999+1 from rfl,qm 9999 49 _ _ ZS Nd,tG (Jy x.k x.n x.s x.b y.k y.n y.s y.b)];simp only[List.foldr_cons,List.foldr_nil,if_true,aX,show(9999:Nat)=9998+1 from rfl,tF 9998 3 _ _ _ _ Pk,qn 9998 9 _ _ RB,sI 9998 4 _ _ aey];unfold V.beq;cases x.k==y.k<;>cases x.n==y.n<;>cases x.s==y.s<;>cases x.b==y.b<;>rfl
theorem Y5:ab.eqGuardType ab.depth 49=false:=bG
theorem w8 {P:aD}{l:List ae}{s:Sem ae}{v:ae}(h1:l.all plain=true)(h2:s.aI P=some v)(h3:plain v=true):pu P l s=some v:=by
 unfold pu;simp only[h1,h2,h3]
theorem Wb (cx cy:Bool)(x y:V):jC ab .eql 49 cx cy x.val y.val=some (.bool (x.beq y)):=by
 refine w8 rfl ?_ rfl;rw[gk,BH _ _ _ _ _ _ Y5]
 show(Sem.aI ab (Op.equal 49 x.val y.val>>=fun b=>(pure (ae.bool b):Sem ae)))=_
 rw[gk]
 show Option.bind ((Op.equalIn 10000 49 x.val y.val).aI ab) _=_
 rw[ald];rfl
theorem acp (cx cy:Bool)(a b:ByteArray):jC ab .lss 9 cx cy (.string a) (.string b)=some (.bool (Op.bytesLess a.toList b.toList)):=by
 refine w8 rfl ?_ rfl;rw[gk];rfl
theorem ahR (cx cy:Bool)(a b:ByteArray):jC ab .gtr 9 cx cy (.string a) (.string b)=some (.bool (!(Op.bytesLess a.toList b.toList||a.toList==b.toList))):=by
 refine w8 rfl ?_ rfl;rw[gk];rfl
theorem zt {q:Int->Int->Option Nat}{f:Int->Int->Int}{a:bX}{i j:Int}(hq:∀n,q i j=some n->f i j=n):qF q f a i j=a.wrap (f i j):=by
 unfold qF
 split
 ·rename_i n hn
  split
  ·rename_i hb;rw[hq n hn,mB hb];rfl
  ·rfl
 ·rfl
theorem QV (i j:Int):eh i j=bX.i64.wrap (i+j):=zt fun n h=>by
 unfold uw at h
 split at h
 ·cases h;rfl
 ·cases h
theorem Pr (i j:Int):jH i j=bX.i64.wrap (i-j):=zt fun n h=>by
 unfold vy at h
 split at h
 ·split at h
  ·rename_i a b hb;cases h;have :=af hb
   show((a:Int)-(b:Int))=((a-b:Nat):Int)
   omega
  ·cases h
 ·cases h
theorem PY (i j:Int):jq i j=bX.i64.wrap (i*j):=zt fun n h=>by cases h
theorem j6 {i j:Int}(h:LV (i+j)):eh i j=i+j:=(QV i j).trans (oE h)
theorem AN {i j:Int}(h:LV (i-j)):jH i j=i-j:=(Pr i j).trans (oE h)
theorem Gs {i j:Int}(h:LV (i*j)):jq i j=i*j:=(PY i j).trans (oE h)
theorem U2 (i j:Int):GH i j=decide (i<=j):=by unfold GH;rw[eH,Bool.eq_iff_iff];simp
theorem r7 (i j:Int):sV i j=decide (j<i):=eH j i
theorem vR (i j:Int):xJ i j=decide (j<=i):=by unfold xJ;rw[eH,Bool.eq_iff_iff];simp
theorem tK (i j:Int):sT i j=decide (i≠j):=by unfold sT;rw[se,Bool.eq_iff_iff];simp
@[reducible]def bQ (v:V):ae:=.agg #[vI v.k,vI v.n,.string v.s,.bool v.b]
@[reducible]def qg (v:V):List (Option ae):=[some (vI v.k),some (vI v.n),some (.string v.s),some (.bool v.b)]
@[reducible]def sE (v:V):List ae:=[vI v.k,vI v.n,.string v.s,.bool v.b]
@[reducible]def nY:List (Option ae):=[some (vI 0),some (vI 0),some (.string .empty),some (.bool false)]
end Go.AM
namespace Go.AM
set_option maxRecDepth 1000000
open Go Go.Conc Go.Proofs
def nm (m:Mem)(v:ae)(sz n:Nat)(cs:List ae):Prop:=
 cs.length=n*sz/\((v= .slice none 0 0/\n=0)\/∃b c,v=vL b 0 n c/\Obj m b sz cs/\(c=fp\/c=n))
def aiF (S:Nat->Prop)(v:ae):Prop:=∀b o n c,v=vL b o n c->¬S b
theorem nm.ext{m m':Mem}{S:Nat->Prop}{v:ae}{sz n:Nat}{cs:List ae}(h:nm m v sz n cs)(k:Kp m m' S)(hs:aiF S v):nm m' v sz n cs:=by
 refine⟨h.1,h.2.imp id fun⟨b,c,e,o,x⟩=>⟨b,c,e,o.ext k (hs b 0 n c e),x⟩⟩
theorem nm.aU{m m':Mem}{v:ae}{sz n:Nat}{cs:List ae}(h:nm m v sz n cs)(k:Kp m m' eQ):nm m' v sz n cs:=h.ext k fun _ _ _ _ _=>id
theorem nm.nil{m:Mem}{sz:Nat}:nm m (.slice none 0 0) sz 0 []:=⟨cY,.inl ⟨rfl,rfl⟩⟩
def sZ:List (Nat×Nat):=[(104,4),(131,1),(150,1),(155,6),(156,2),(159,1),(162,4),(22,1),(223,6),(28,1),(29,1),(302,2),(395,1),(72,1),(89,2),(93,1),(97,6),(98,2),(99,3),(47,4),(120,1),(301,1)]
noncomputable def adT(p:Nat×Nat):Bool:=match ab.underlying p.1 with
 |some (.slice e)=>(dV ab e==some p.2)&&Nat.blt 0 p.2&&(match ab.info? e with |some i=>decide (0<i.bytes)&&decide (i.bytes<=1024)&&(gO ab e).isSome|none=>false)
 |_=>false
theorem OY:(sZ.all adT)=true:=bG
theorem uu {t sz:Nat}(h:sZ.contains (t,sz)=true):∃e,ab.underlying t=some (.slice e)/\dV ab e=some sz/\0<sz/\∀need,need<=2^30->y9 ab e need=true:=by
 have :=aE.1 OY (t,sz) (by simpa using h);unfold adT at this
 split at this
 ·rename_i e he;rw[ag,ag]at this;obtain⟨⟨h1,h0⟩,h2⟩:=this;refine⟨e,he,by simpa using h1,by simpa[Nat.blt_eq]using h0,fun need hn=>?_⟩
  split at h2
  ·rename_i i hi;simp only[ag,jE]at h2;unfold y9;rw[hi];simp only[ag,jE];refine⟨⟨⟨h2.1.1,?_⟩,aj⟩,h2.2⟩
   calc need*i.bytes<=2^30*1024:=Nat.mul_le_mul hn h2.1.2
    _<=2^46:=gC
  ·cases h2
 ·cases this
theorem oU {m:Mem}{v:ae}{sz n:Nat}{cs:List ae}(h:nm m v sz n cs):kr m sz n v=some cs:=by
 rcases h with⟨hl,⟨rfl,rfl⟩|⟨b,c,rfl,ho,_⟩⟩
 ·have :cs=[]:=by rw[Nat.zero_mul]at hl;exact List.length_eq_zero_iff.1 hl
  subst this;rfl
 ·show m.dv b 0 (n*sz)=some cs
  exact ji ho (by simp[<-hl]) aj
theorem nm.YA{m:Mem}{v:ae}{sz n:Nat}{cs:List ae}(h:nm m v sz n cs):B4 v=some n:=by
 rcases h with⟨hl,⟨rfl,rfl⟩|⟨b,c,rfl,ho,_⟩⟩<;>rfl
theorem OX {m:Mem}(g:Gd m){t sz n:Nat}{x:ae}{new:List ae}(ht:sZ.contains (t,sz)=true)(hx:nm m x sz n new)(h1:∀y∈new,y.oneCell'=true)(hn:n≠0)(hb:n<=2^30):
  ∃m',cJ ab #[t,t] (.slice none 0 0) x m=some (vL m.next 0 n fp,m')/\Obj m' m.next sz new/\Kp m m' eQ/\m'.next=m.next+1:=by
 obtain⟨e,h3,h4,h0,h5⟩:=uu ht;have hf:=oU hx;have hl:=hx.YA;have hlen:new.length=n*sz:=hx.1;have km:(new.all (·.oneCell'))=true:=aE.2 h1;have e0:kr m sz 0 (.slice none 0 0)=some []:=rfl;obtain⟨k1,k2,k3⟩:=gB g (k:={kind:=1,sz:=sz,cs:=new.map some}) (cs:=new) rfl rfl rfl;refine⟨_,?_,k1,k2,k3⟩;unfold cJ;simp only[show(#[t,t]:Array aM)[0]?=some t from rfl,show(#[t,t]:Array aM)[1]?=some t from rfl,aX,h3,h4,hl,hf];rw[bZ (by rw[h5 _ aj,hlen,km];simp),bZ gC,bZ aj];simp only[e0,List.length_nil,Nat.zero_mul,if_true,List.nil_append,Nat.zero_add]
theorem ZH {m:Mem}(g:Gd m){t sz n b len:Nat}{x:ae}{old new rest:List ae}(ht:sZ.contains (t,sz)=true)(ho:Obj m b sz (old++rest))(YM:old.length=len*sz)(hw:Own m b)(hx:nm m x sz n new)
  (h1:∀y∈new,y.oneCell'=true)(hb:len+n<=2^30):
  ∃m',cJ ab #[t,t] (vL b 0 len fp) x m=some (vL m.next 0 (len+n) fp,m')/\Obj m' m.next sz (old++new)/\Kp m m' (fun y=>y=b)/\m'.next=m.next+1:=by
 obtain⟨e,h3,h4,h0,h5⟩:=uu ht;have hf:=oU hx;have hl:=hx.YA;have hlen:new.length=n*sz:=hx.1;have km:(new.all (·.oneCell'))=true:=aE.2 h1;have htk:fY (((old++rest).map some).drop 0) (len*sz)=some old:=by
  rw[List.drop_zero,kD (by simp;omega),<-YM];simp
 have g2:Gd (m.aZ b {}):=g.ext mS;obtain⟨k1,k2,k3⟩:=gB g2 (k:={kind:=1,sz:=sz,cs:=(old++new).map some}) (cs:=old++new) rfl rfl rfl;refine⟨_,?_,k1,Kp.aS mS k2,k3⟩;unfold cJ;simp only[show(#[t,t]:Array aM)[0]?=some t from rfl,show(#[t,t]:Array aM)[1]?=some t from rfl,aX,h3,h4,hl,hf];rw[bZ (by rw[h5 _ aj,hlen,km];simp),bK trivial];have pD:(((m.blk b).cs.drop 0).all (·.isSome))=true:=by rw[ho.cs];simp
 simp only[ho.kind,ho.sz,ho.cs]at pD⊢;rw[bK (by rw[pD,show m.fq b=true from hw];simp)];simp only[htk]
theorem Obj.sl{m:Mem}{b sz n:Nat}{cs:List ae}(h:Obj m b sz cs)(hl:cs.length=n*sz){c:Nat}(hc:c=fp\/c=n):nm m (vL b 0 n c) sz n cs:=⟨hl,.inr ⟨b,c,rfl,h,hc⟩⟩
theorem kY {m:Mem}(g:Gd m)(z vs:List ae)(hl:z.length=vs.length)(h1:vs.all (·.oneCell')=true):
  ∃m1 m2,ni (z.map some) m=some (vP m.next 0,m1)/\Az m.next 0 vs m1=some (undef,m2)/\Obj m2 m.next 0 vs/\Kp m m2 eQ/\m2.next=m.next+1:=by
 obtain⟨m1,e1,o1,k1,n1,_⟩:=aY g z;have hw:=g.own k1 (ai _);obtain⟨m2,e2,o2,k2⟩:=lh (o:=0) vs o1 (hw.may _ _) aj h1;have :q8 z 0 vs=vs:=by
  have key:∀(vs z:List ae),z.length=vs.length->q8 z 0 vs=vs:=by
   intro vs
   induction vs with
   |nil=>intro z hz;exact List.length_eq_zero_iff.1 hz
   |cons v vs ih=>
    intro z hz;cases z with
    |nil=>simp at hz
    |cons a z=>
     show q8 ((a::z).set 0 v) 1 vs=_
     rw[List.set_cons_zero,jK,ih z (by simpa using hz)]
  exact key vs z hl
 rw[this]at o2;refine⟨m1,m2,e1,e2,o2,k1.new k2 (ai _) fun b hb=>by rw[hb];exact ai _,?_⟩;have :=k2.next;have e:m2.next=m1.next:=by
  unfold Az at e2
  split at e2
  ·rename_i m' hm;cases e2;unfold Mem.dD at hm;simp only[]at hm
   split at hm
   ·obtain⟨cs,_,rfl⟩:=aB.1 hm;rfl
   ·cases hm
  ·cases e2
 omega
end Go.AM
