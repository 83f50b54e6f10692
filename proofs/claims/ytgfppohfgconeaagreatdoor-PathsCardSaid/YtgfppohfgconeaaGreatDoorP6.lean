/-
  What the claim stands on, part 6.
-/
import Derived.Test.YtgfppohfgconeaaGreatDoorP5
import Derived.Laws.StructEq
set_option linter.unusedVariables false
set_option linter.unusedSimpArgs false
open Option renaming some → Z, none → Y
open Bool renaming true → U, false → O
open Go renaming Value → ab, Program → aE, TypeId → aT, IntKind → bY, Operand → cd, Oper → iK
open Go.Proofs.Tryz renaming prog → ae
open Nat renaming le_of_ble_eq_true → af, le_refl → aj, eq_of_beq_eq_true → aA, lt_of_lt_of_le → aZ, le_trans → bV
open Bool renaming and_eq_true → ag, false_eq_true → cK
open Option.some renaming injEq → ah
open Prod.mk renaming injEq → ay
open List renaming all_eq_true → aB
open Option renaming map_eq_some_iff → aD, map_some → dk, bind_some → dw, isSome_iff_exists → sH
namespace Go.AM
open Go
inductive T (α:Type) where
 |done(a:α)
 |fail
 |mem(f:Mem->Option (ab×Mem))(k:ab->T α)
 |call(f:Nat)(args:List ab)(k:ab->T α)
 |bZ(fv:ab)(args:List ab)(k:ab->T α)
 |iZ(r:Option (Nat×ab))(args:List ab)(k:ab->T α)
 |val(r:Option ab)(k:ab->T α)
 |cond(v:ab)(k:Bool->T α)
 |idx(n:Int)(len:Nat)(k:Nat->T α)
def den {R:Type}(cl:cH):T R->Mem->Option (R×Mem)
 | .done a,m=>Z (a,m)
 | .fail,_=>Y
 | .mem f k,m=>match f m with |some (v,m')=>den cl (k v) m'|none=>Y
 | .call f args k,m=>match cl f args m with |some (v,m')=>den cl (k v) m'|none=>Y
 | .bZ fv args k,m=>match fv with
  | .func (.func f) first cap=>(match cl f (first.toList++args++cap.toList) m with |some (v,m')=>den cl (k v) m'|none=>Y)
  |_=>Y
 | .iZ r args k,m=>match r with
  |some (f,recv)=>(match cl f (recv::args) m with |some (v,m')=>den cl (k v) m'|none=>Y)
  |none=>Y
 | .val r k,m=>match r with |some v=>den cl (k v) m|none=>Y
 | .cond v k,m=>match v with | .bool b=>den cl (k b) m|_=>Y
 | .idx n len k,m=>match n with | .ofNat i=>(match Nat.blt i len with |true=>den cl (k i) m|false=>Y)| .negSucc _=>Y
section
variable {R:Type}
def K9 (p:ab)(k:Nat->Nat->T R):T R:=match p with | .pointer (Z ⟨b,o,Y⟩)=>k b o|_=> .fail
def pZ (x y:ab)(k:bY->Int->Int->T R):T R:=
 match x with
 | .int a i=>match y with
  | .int b j=>match Nat.beq (yX a) (yX b)with |true=>k a i j|false=> .fail
  |_=> .fail
 |_=> .fail
def Km (x y:ab)(k:ByteArray->ByteArray->T R):T R:=
 match x with
 | .string a=>match y with
  | .string b=>k a b
  |_=> .fail
 |_=> .fail
def N1 (r:Option ab)(k:ab->T R):T R:=match r with |some v=>k v|none=> .fail
def J9 (q:Int->Int->Option Nat)(f:Int->Int->Int)(a:bY)(i j:Int):Int:=
 match q i j with
 |some n=>match Nat.blt n (hZ a)with |true=> .ofNat n|false=>a.wrap (f i j)
 |none=>a.wrap (f i j)
def Qk (pP:Bool)(i j:Int):Int:=
 match dx j i with
 |true=>match pP with |true=>i|false=>j
 |false=>match pP with |true=>j|false=>i
def BY (s:ByteArray)(i:Nat):Nat:=match yd s.data.toList i with |some b=>b.toNat|none=>0
def ahS (x:cd):cd:=match x with | .const _=> .const .nilFunc|_=> .tmp 0
def ahT (c:Bool):cd:=match c with |true=> .const .nilFunc|false=> .tmp 0
def pu (P:aE)(mM:List ab)(s:Sem ab):Option ab:=
 match mM.all plain with
 |true=>match s.aQ P with
  |some v=>match plain v with |true=>Z v|false=>Y
  |none=>Y
 |false=>Y
def j5 (P:aE)(op:BinOp)(t:aT)(cx cy:Bool)(a b:ab):Option ab:=pu P [a,b] (do eqGuard op t (ahT cx) (ahT cy) a b;binOp op t a b)
def eq2 (P:aE)(op:BinOp)(t:aT)(cx cy:Bool)(a b:ab)(k:ab->T R):T R:=
 match op with
 | .eql=>(match tk P t cx cy a b with |some v=>k (.bool v)|none=> .val (j5 P op t cx cy a b) k)
 | .neq=>(match tk P t cx cy a b with |some v=>k (.bool (!v))|none=> .val (j5 P op t cx cy a b) k)
 |_=> .val (j5 P op t cx cy a b) k
def aI (b o:Nat)(m:Mem):Option (ab×Mem):=
 match m.blk b with
 |⟨1,_,cs,_,_,_,_,_⟩=>match QN m b o 1 with
  |true=>match Mn o cs with
   |some v::_=>Z (v,m)
   |_=>Y
  |false=>Y
 |_=>Y
def fN (n b o:Nat)(m:Mem):Option (ab×Mem):=match m.dP b o n with |some l=>Z (.agg l.toArray,m)|none=>Y
def du (b o:Nat)(v:ab)(m:Mem):Option (ab×Mem):=
 match nT v with
 |false=>Y
 |true=>match m.blk b with
  |⟨1,sz,cs,es,c,str,pos,_⟩=>match SD m b o with
   |true=>match xF o cs v with
    |some gS=>Z (undef,{m with heap:=m.heap.put b ⟨1,sz,gS,es,c,str,pos,m.tick⟩,tick:=Nat.succ m.tick})
    |none=>Y
   |false=>Y
  |_=>Y
def Im (b o:Nat)(vs:List ab)(m:Mem):Option (ab×Mem):=match m.dW b o vs with |some m'=>Z (undef,m')|none=>Y
def oT (cs:List (Option ab))(m:Mem):Option (ab×Mem):=
 some (ptrTo m.next 0,{m with heap:=m.heap.put m.next ⟨1,0,cs,#[],0,.empty,1,m.tick⟩,tick:=Nat.succ m.tick,next:=Nat.succ m.next})
def su (P:aE)(t:aT)(x:ab)(lo hi:Option ab)(m:Mem):Option (ab×Mem):=match jv P t x lo hi m with |some v=>Z (v,m)|none=>Y
def wo (P:aE)(t:aT)(x k:ab)(ok:Bool)(m:Mem):Option (ab×Mem):=match jA P t x k ok m with |some v=>Z (v,m)|none=>Y
def WG (P:aE)(t:aT)(x k v:ab)(m:Mem):Option (ab×Mem):=match ml P t x k v m with |some m'=>Z (undef,m')|none=>Y
def y6 (m:Mem):Option (ab×Mem):=Z (.map (Z m.next),m.alloc {kind:=2})
def wm (P:aE)(first :Array ab)(name:String)(v:ab):Option ab:=
 match(first[0]?:Option ab)with
 |some r=>match(gP P r name).isSome with |true=>Z v|false=>Y
 |none=>Y
def jk (q:Nat->Nat->Nat)(a:bY)(i j:Int)(d:Option ab):Option ab:=
 match i with
 | .ofNat i=>match j with
  | .ofNat (j+1)=>match Nat.blt i (hZ a)with |true=>Z (.int a (.ofNat (q i (Nat.succ j))))|false=>d
  |_=>d
 |_=>d
def tC (q:Nat->Nat->Nat)(a:bY)(i j:Int)(d:Option ab):Option ab:=
 match i with
 | .ofNat i=>match j with
  | .ofNat j=>match Nat.blt i (hZ a)&&Nat.blt j (hZ a)with |true=>Z (.int a (.ofNat (q i j)))|false=>d
  |_=>Y
 |_=>d
def AL (a b:ByteArray):Option ab:=match Nat.blt (a.size+b.size) 9223372036854775808 with |true=>Z (.string (a++b))|false=>Y
abbrev FU (R:Type):=Tm->(ab->T R)->T R
def ah6 (P:aE)(op:BinOp)(t:aT)(cx cy:Bool)(x y:lD):FU R:=
 match P.underlying t with
 |some (.int _)=>match op with
  | .lss=>λtm k=>pZ (x tm) (y tm) λ_ i j=>k (.bool (dx i j))
  | .leq=>λtm k=>pZ (x tm) (y tm) λ_ i j=>k (.bool (gu i j))
  | .gtr=>λtm k=>pZ (x tm) (y tm) λ_ i j=>k (.bool (ji i j))
  | .geq=>λtm k=>pZ (x tm) (y tm) λ_ i j=>k (.bool (th i j))
  | .eql=>λtm k=>pZ (x tm) (y tm) λ_ i j=>k (.bool (rk i j))
  | .neq=>λtm k=>pZ (x tm) (y tm) λ_ i j=>k (.bool (xL i j))
  | .add=>λtm k=>pZ (x tm) (y tm) λa i j=>k (.int a (J9 Y4 Int.add a i j))
  | .sub=>λtm k=>pZ (x tm) (y tm) λa i j=>k (.int a (J9 xC Int.sub a i j))
  | .mul=>λtm k=>pZ (x tm) (y tm) λa i j=>k (.int a (J9 noQ Int.mul a i j))
  | .or=>λtm k=>pZ (x tm) (y tm) λa i j=> .val (tC Nat.lor a i j (j5 P op t cx cy (x tm) (y tm))) k
  | .and=>λtm k=>pZ (x tm) (y tm) λa i j=> .val (tC Nat.land a i j (j5 P op t cx cy (x tm) (y tm))) k
  | .xor=>λtm k=>pZ (x tm) (y tm) λa i j=> .val (tC Nat.xor a i j (j5 P op t cx cy (x tm) (y tm))) k
  | .quo=>λtm k=>pZ (x tm) (y tm) λa i j=> .val (jk Nat.div a i j (j5 P op t cx cy (x tm) (y tm))) k
  | .rem=>λtm k=>pZ (x tm) (y tm) λa i j=> .val (jk Nat.mod a i j (j5 P op t cx cy (x tm) (y tm))) k
  |_=>λtm k=> .val (j5 P op t cx cy (x tm) (y tm)) k
 |some .string=>match op with
  | .eql=>λtm k=>Km (x tm) (y tm) λa b=>k (.bool ((a.toList==b.toList)==U))
  | .neq=>λtm k=>Km (x tm) (y tm) λa b=>k (.bool ((a.toList==b.toList)==O))
  | .add=>λtm k=>Km (x tm) (y tm) λa b=> .val (AL a b) k
  |_=>λtm k=> .val (j5 P op t cx cy (x tm) (y tm)) k
 |_=>λtm k=>eq2 P op t cx cy (x tm) (y tm) k
def loadT (P:aE)(t:aT)(x:lD):Option (FU R):=
 match zK P t with
 |some U=>match eS P t with
  |some n=>Z λtm k=>K9 (x tm) λb o=> .mem (fN n b o) k
  |none=>Y
 |some O=>Z λtm k=>K9 (x tm) λb o=> .mem (aI b o) k
 |none=>Y
def storeT (P:aE)(t:aT)(p x:lD):Option (FU R):=
 match eS P t with
 |some n=>match zK P t with
  |some U=>Z λtm k=>K9 (p tm) λb o=>match x tm with
   | .agg cs=>(match Nat.beq n cs.size with |true=> .mem (Im b o cs.toList) k|false=> .fail)
   |_=> .fail
  |some O=>match Nat.beq n 1 with |true=>Z λtm k=>K9 (p tm) λb o=> .mem (du b o (x tm)) k|false=>Y
  |none=>Y
 |none=>Y
def xW (P:aE)(s:aT)(p:lD)(f:Nat):Option (FU R):=
 match P.underlying s with
 |some (.struct fields)=>match fields[f]? with
  |some fd=>match eS P fd.type with
   |some (_+1)=>Z λtm k=>K9 (p tm) λb o=>k (ptrTo b (Nat.add o fd.offset))
   |_=>Y
  |none=>Y
 |_=>Y
def xP (P:aE)(t:aT)(x i:lD):Option (FU R):=
 match P.underlying t with
 |some (.slice e)=>match eS P e with
  |some s=>Z λtm k=>match x tm with
   | .slice (Z ⟨b,o,Y⟩) len _=>(match i tm with | .int _ n=> .idx n len λj=>k (ptrTo b (Nat.add o (Nat.mul j s)))|_=> .fail)
   |_=> .fail
  |none=>Y
 |some (.array len e)=>match eS P e with
  |some s=>Z λtm k=>K9 (x tm) λb o=>match i tm with | .int _ n=> .idx n len λj=>k (ptrTo b (Nat.add o (Nat.mul j s)))|_=> .fail
  |none=>Y
 |_=>Y
def Oy (P:aE)(t:aT)(x i:lD):Option (FU R):=
 match P.underlying t with
 |some .string=>Z λtm k=>match x tm with
  | .string s=>(match i tm with | .int _ n=> .idx n s.size λj=>k (.int .u8 (.ofNat (BY s j)))|_=> .fail)
  |_=> .fail
 |_=>Z λtm k=>N1 (xQ P t (x tm) (i tm)) k
def agC (P:aE)(t:aT)(x:lD):Option (FU R):=
 match P.underlying t with
 |some .string=>Z λtm k=>match x tm with | .string s=>k (.int .i64 (.ofNat s.size))|_=> .fail
 |some (.slice _)=>Z λtm k=>match x tm with | .slice _ n _=>k (.int .i64 (.ofNat n))|_=> .fail
 |_=>Y
def WE (pP:Bool)(x y:lD):FU R:=λtm k=>match x tm with
 | .int a i=>match y tm with
  | .int _ j=>k (.int a (Qk pP i j))
  |_=> .fail
 |_=> .fail
def Eb (f:Tm->Mem->Option (ab×Mem)):FU R:=λtm k=> .mem (f tm) k
def Yb (P:aE)(t:aT):Bool:=match P.underlying t with
 |some (.struct fields)=>fields.any λf=>match P.underlying f.type with |some (.interface _)=>U|_=>O
 |_=>O
def Yp (P:aE)(o:iK):Option (FU R):=
 match o.op with
 | .unOp op _ x=>Z λtm k=> .val (pu P [dG tm x] (Op.unary op (dG tm x))) k
 | .build t ps=>match Yb P t with
  |true=>Z λtm k=> .val (Fp P t (ps.map λ(i,x)=>(i,dG tm x)).toList) k
  |false=>Z λtm k=>N1 (Fp P t (ps.map λ(i,x)=>(i,dG tm x)).toList) k
 | .buildSlice t n ps=>Z (Eb λtm=>bW P t n (ps.map λ(i,x)=>(i,dG tm x)).toList)
 | .convert s d x=>Z λtm k=>match P.underlying s,P.underlying d with
  |some (.int _),Z (.int _)=> .val (pu P [dG tm x] (convert s d (dG tm x))) k
  |_,_=> .mem (gp P s d (dG tm x)) k
 | .makeInterface t x=>match P.underlying t with |some (.interface _)=>Y|some _=>Z λtm k=>k (.iface t (dG tm x))|none=>Y
 | .makeFunc fn f c=>Z λtm k=>k (.func fn (f.map (dG tm)) (c.map (dG tm)))
 | .makeMap _ Y=>Z (Eb λ_=>y6)
 | .makeSlice t l c=>Z (Eb λtm=>gC P t (dG tm l) (dG tm c))
 | .slice t x lo hi Y=>Z λtm k=>match dG tm x with
  | .string s=> .val (pu P (.string s::((lo.map (dG tm)).toList++(hi.map (dG tm)).toList)) (Instr.sliceAt t (.string s) (lo.map (dG tm)) (hi.map (dG tm)) Y)) k
  |v=> .mem (su P t v (lo.map (dG tm)) (hi.map (dG tm))) k
 | .field s x f=>Z λtm k=>N1 (Ju P s (dG tm x) f) k
 | .lookup t x i ok=>Z (Eb λtm=>wo P t (dG tm x) (dG tm i) ok)
 | .mapUpdate t x i v=>Z (Eb λtm=>WG P t (dG tm x) (dG tm i) (dG tm v))
 | .typeAssert x t a ok=>Z λtm k=>N1 (rL P (dG tm x) t a ok) k
 | .range t x=>Z (Eb λtm=>z9 P t (dG tm x))
 | .next it s=>Z (Eb λtm=>Hd (dG tm it) s)
 | .call {callee:=.builtin b,args,argTypes}=>
  match b,args.toList with
  | .append,[s,x]=>Z (Eb λtm=>cJ P argTypes (dG tm s) (dG tm x))
  | .copy,[d,s]=>Z (Eb λtm=>HS P argTypes (dG tm d) (dG tm s))
  | .clear,[x]=>Z (Eb λtm=>oR P argTypes (dG tm x))
  |_,_=>Y
 |_=>Y
def Af (P:aE)(o:iK):Option (FU R):=
 match o.op with
 | .move x=>eY x λx=>Z λtm k=>k (x tm)
 | .assign x=>eY x λx=>Z λtm k=>k (x tm)
 | .pick c x y=>eY c λc=>eY x λx=>eY y λy=>Z λtm k=> .cond (c tm) λb=>match b with |true=>k (x tm)|false=>k (y tm)
 | .binOp op t x y _=>let cx:=isConst x;let cy:=isConst y;eY x λx=>eY y λy=>Z (ah6 P op t cx cy x y)
 | .load t x=>eY x λx=>loadT P t x
 | .store t p x=>eY p λp=>eY x λx=>storeT P t p x
 | .fieldAddr s p f=>eY p λp=>xW P s p f
 | .indexAddr t x i=>eY x λx=>eY i λi=>xP P t x i
 | .index t x i=>eY x λx=>eY i λi=>Oy P t x i
 | .extract x i=>eY x λx=>Z λtm k=>match x tm with | .tuple vs=>N1 vs.toList[i]? k|_=> .fail
 | .unOp .not _ x=>eY x λx=>Z λtm k=>match x tm with | .bool b=>k (.bool (!b))|_=> .fail
 | .nilCheck x=>eY x λx=>Z λtm k=>match x tm with
  | .pointer (Z a)=>k (.pointer (Z a))
  | .func (.method name) first cap=> .val (wm P first name (.func (.method name) first cap)) k
  |_=> .fail
 | .alloc e=>match iT P e with
  |some z=>Z λ_ k=> .mem (oT (z.cells.toList.map Z)) k
  |none=>Y
 | .box _ x=>eY x λx=>Z λtm k=> .mem (oT ((x tm).cells.toList.map Z)) k
 | .call {callee:=.builtin .min,args,.. }=>match args.toList with
  | [x,y]=>eY x λx=>eY y λy=>Z (WE O x y)
  |_=>Y
 | .call {callee:=.builtin .max,args,.. }=>match args.toList with
  | [x,y]=>eY x λx=>eY y λy=>Z (WE U x y)
  |_=>Y
 | .call {callee:=.value (.func f),args,.. }=>uH args.toList λxs=>Z λtm k=> .call f (Nb xs tm) k
 | .call {callee:=.value x,args,.. }=>eY x λx=>uH args.toList λxs=>Z λtm k=> .bZ (x tm) (Nb xs tm) k
 | .call {callee:=.invoke r name,args,.. }=>eY r λr=>uH args.toList λxs=>Z λtm k=> .iZ (gP P (r tm) name) (Nb xs tm) k
 | .call {callee:=.builtin .len,args,argTypes}=>match args.toList,argTypes.toList with
  | [x],t::_=>eY x λx=>agC P t x
  |_,_=>Y
 |_=>Yp P o
end
def ym {R:Type}(op:mY)(t:FU R):Prop:=
 ∀(cl:cH) (tm:Tm) (m:Mem) (K:ab->T R) (r:R×Mem),den cl (t tm K) m=Z r->∃v m',(∀df k,op cl tm m df k=k v m' df)/\den cl (K v) m'=Z r
section
variable {R:Type}{P:aE}{o:iK}{cl:cH}{tm:Tm}{m:Mem}{r:R×Mem}
theorem kN {f:Mem->Option (ab×Mem)}{k:ab->T R}(h:den cl (.mem f k) m=Z r):∃v a,f m=Z (v,a)/\den cl (k v) a=Z r:=by
 unfold den at h
 split at h
 .exact⟨_,_,fS,h⟩
 .cases h
theorem lX {x:Option ab}{k:ab->T R}(h:den cl (.val x k) m=Z r):∃v,x=Z v/\den cl (k v) m=Z r:=by
 unfold den at h
 split at h
 .exact⟨_,rfl,h⟩
 .cases h
theorem E3 {x:ab}{k:Bool->T R}(h:den cl (.cond x k) m=Z r):∃b,x=.bool b/\den cl (k b) m=Z r:=by
 unfold den at h
 split at h
 .exact⟨_,rfl,h⟩
 .cases h
theorem JB {n:Int}{len:Nat}{k:Nat->T R}(h:den cl (.idx n len k) m=Z r):∃i,n=.ofNat i/\Nat.blt i len=U/\den cl (k i) m=Z r:=by
 unfold den at h
 split at h
 .split at h
  .exact⟨_,rfl,fS,h⟩
  .cases h
 .cases h
theorem zv {x:Option ab}{k:ab->T R}(h:den cl (N1 x k) m=Z r):∃v,x=Z v/\den cl (k v) m=Z r:=by
 unfold N1 at h
 split at h
 .exact⟨_,rfl,h⟩
 .cases h
theorem wB {p:ab}{k:Nat->Nat->T R}(h:den cl (K9 p k) m=Z r):∃b o,p=.pointer (Z ⟨b,o,Y⟩)/\den cl (k b o) m=Z r:=by
 unfold K9 at h
 split at h
 .exact⟨_,_,rfl,h⟩
 .cases h
theorem zw {x y:ab}{k:bY->Int->Int->T R}(h:den cl (pZ x y k) m=Z r):∃a i j,x=.int a i/\y=.int a j/\den cl (k a i j) m=Z r:=by
 unfold pZ at h
 split at h
 .split at h
  .split at h
   .rename_i b;obtain rfl:=vq b;exact⟨_,_,_,rfl,rfl,h⟩
   .cases h
  .cases h
 .cases h
theorem E0 {x y:ab}{k:ByteArray->ByteArray->T R}(h:den cl (Km x y k) m=Z r):∃a b,x=.string a/\y=.string b/\den cl (k a b) m=Z r:=by
 unfold Km at h
 split at h
 .split at h
  .exact⟨_,_,rfl,rfl,h⟩
  .cases h
 .cases h
theorem iu {v:ab}{m':Mem}(h:dL P (dG tm) o m=Z (v,m')):∀df k,jZ P o cl tm m df k=k v m' df:=by
 intro df k;unfold jZ;rw[h]
theorem qI (a:bY):Nat.beq (yX a) (yX a)=U:=by cases a<;>rfl
theorem ahL {f:Int->Int->Bool}{x y:lD}{a:bY}{i j:Int}(c:x tm=.int a i)(b:y tm=.int a j):∀df k,Gx f x y cl tm m df k=k (.bool (f i j)) m df:=by
 intro df k;unfold Gx;rw[c,b];simp only[qI,if_true]
theorem anG {q:Int->Int->Option Nat}{f:Int->Int->Int}{x y:lD}{a:bY}{i j:Int}(c:x tm=.int a i)(b:y tm=.int a j):∀df k,arF q f x y cl tm m df k=k (.int a (J9 q f a i j)) m df:=by
 intro df k;unfold arF J9;rw[c,b];simp only[qI,if_true];cases q i j with
 |none=>rfl
 |some n=>cases hb:Nat.blt n (hZ a)<;>simp only[hb,if_true,cK,if_false]
theorem Rf (x:cd):ahT (isConst x)=ahS x:=by cases x<;>rfl
theorem Mi {op:BinOp}{t:aT}{x y:cd}{a b:ab}:eqGuard op t (ahS x) (ahS y) a b=eqGuard op t x y a b:=by
 unfold eqGuard;cases x<;>cases y<;>rfl
theorem oZ {s:Sem ab}{v:ab}(h:s.aQ P=Z v):Sem.aQ P (s.bind λv=>Sem.pure (Next.value v))=Z (.value v):=by
 induction s with
 |pure a=>simp only[Sem.aQ,ah]at h;subst h;rfl
 |program k b=>exact b P h
 |_=>simp[Sem.aQ]at h
theorem PY {a:List ab}{s:Sem ab}{v:ab}(h:pu P a s=Z v):a.all plain=U/\s.aQ P=Z v/\plain v=U:=by
 unfold pu at h
 split at h
 .split at h
  .split at h
   .cases h;exact⟨fS,fS,fS⟩
   .cases h
  .cases h
 .cases h
theorem Ab {op:BinOp}{t u:aT}{x y:cd}{ev:cd->ab}{v:ab}(a:o.op=.binOp op t x y u)(h:j5 P op t (isConst x) (isConst y) (ev x) (ev y)=Z v):dv P ev o=Z v:=by
 unfold j5 at h;obtain⟨d,b,c⟩:=PY h;refine iM ?_ ?_ c
 .rw[a];simpa[Op.operands]using d
 .rw[Rf,Rf,Mi]at b;unfold execOp;rw[a];exact oZ b
theorem wG {op:BinOp}{t u:aT}{x y:cd}(b:o.op=.binOp op t x y u){v:ab}(h:dv P (dG tm) o=Z v)
  (a:op=.eql\/op=.neq->tk P t (isConst x) (isConst y) (dG tm x) (dG tm y)=Y):dL P (dG tm) o m=Z (v,m):=by
 unfold dL;rw[b];simp only[]
 split
 .rw[a (.inl rfl),h];rfl
 .rw[a (.inr rfl),h];rfl
 .rw[h];rfl
theorem Tc {op:BinOp}{t u:aT}{x y:cd}(a:o.op=.binOp op t x y u){K:ab->T R}(h:den cl (eq2 P op t (isConst x) (isConst y) (dG tm x) (dG tm y) K) m=Z r):
  ∃v f,(∀df k,jZ P o cl tm m df k=k v f df)/\den cl (K v) f=Z r:=by
 unfold eq2 at h
 split at h
 .split at h
  .rename_i v b;refine⟨_,_,iu ?_,h⟩;unfold dL;rw[a];simp only[b]
  .rename_i b;obtain⟨v,d,c⟩:=lX h;exact⟨_,_,iu (wG a (Ab a d) λ_=>b),c⟩
 .split at h
  .rename_i v b;refine⟨_,_,iu ?_,h⟩;unfold dL;rw[a];simp only[b]
  .rename_i b;obtain⟨v,d,c⟩:=lX h;exact⟨_,_,iu (wG a (Ab a d) λ_=>b),c⟩
 .rename_i i g;obtain⟨v,d,c⟩:=lX h;exact⟨_,_,iu (wG a (Ab a d) λj=>j.elim (λe=>absurd e i) λe=>absurd e g),c⟩
theorem PZ {op:BinOp}{t u:aT}{x y:cd}(b:o.op=.binOp op t x y u)(f:op≠ .eql)(d:op≠ .neq){K:ab->T R}(h:den cl (.val (j5 P op t (isConst x) (isConst y) (dG tm x) (dG tm y)) K) m=Z r):
  ∃v a,(∀df k,jZ P o cl tm m df k=k v a df)/\den cl (K v) a=Z r:=by
 obtain⟨v,i,g⟩:=lX h;exact⟨_,_,iu (wG b (Ab b i) λc=>c.elim (λe=>absurd e f) λe=>absurd e d),g⟩
theorem Te {op:BinOp}{t u:aT}{x y:cd}{q:Nat->Nat->Nat}(l:o.op=.binOp op t x y u)(s:op≠ .eql)(p:op≠ .neq){K:ab->T R}{a:bY}{i j:Int}(d:dG tm x=.int a i)(f:dG tm y=.int a j)
  (h:den cl (.val (jk q a i j (j5 P op t (isConst x) (isConst y) (dG tm x) (dG tm y))) K) m=Z r):
  ∃v g,(∀df k,Jx P o q (ex x) (ex y) cl tm m df k=k v g df)/\den cl (K v) g=Z r:=by
 obtain⟨v,c,w⟩:=lX h;have b:j5 P op t (isConst x) (isConst y) (dG tm x) (dG tm y)=Z v->∀df k,jZ P o cl tm m df k=k v m df:=λe=>iu (wG l (Ab l e) λn=>n.elim (λe=>absurd e s) λe=>absurd e p)
 refine⟨v,m,λdf k=>?_,w⟩;cases i with
 |negSucc i=>unfold Jx;simp only[ex,d];exact b c df k
 |ofNat i=>
  cases j with
  |negSucc j=>unfold Jx;simp only[ex,d,f];exact b c df k
  |ofNat j=>
   cases j with
   |zero=>unfold Jx;simp only[ex,d,f];exact b c df k
   |succ j=>
    unfold jk at c;unfold Jx;simp only[ex,d,f];cases hb:Nat.blt i (hZ a)with
    |true=>
     simp only[hb]at c;cases c;simp only[qI,hb,Bool.and_self,if_true]
    |false=>
     simp only[hb]at c;simp only[qI,hb,Bool.true_and,cK,if_false];exact b c df k
end
section
variable {R:Type}{P:aE}{o:iK}
theorem Pm {op:BinOp}{t u:aT}{x y:cd}{q:Nat->Nat->Nat}{d:cH}{tm:Tm}{m:Mem}{r:R×Mem}(l:o.op=.binOp op t x y u)(w:op≠ .eql)(s:op≠ .neq){K:ab->T R}{a:bY}{i j:Int}(g:dG tm x=.int a i)(n:dG tm y=.int a j)
  (h:den d (.val (tC q a i j (j5 P op t (isConst x) (isConst y) (dG tm x) (dG tm y))) K) m=Z r):
  ∃v f,(∀df k,BZ P o q (ex x) (ex y) d tm m df k=k v f df)/\den d (K v) f=Z r:=by
 obtain⟨v,b,z⟩:=lX h;have c:j5 P op t (isConst x) (isConst y) (dG tm x) (dG tm y)=Z v->∀df k,jZ P o d tm m df k=k v m df:=λe=>iu (wG l (Ab l e) λp=>p.elim (λe=>absurd e w) λe=>absurd e s)
 refine⟨v,m,λdf k=>?_,z⟩;cases i with
 |negSucc i=>unfold BZ;simp only[ex,g];exact c b df k
 |ofNat i=>
  cases j with
  |negSucc j=>cases b
  |ofNat j=>
   unfold tC at b;unfold BZ;simp only[ex,g,n];cases hb:Nat.blt i (hZ a)&&Nat.blt j (hZ a)with
   |true=>
    simp only[hb]at b;cases b;simp only[qI,Bool.true_and,hb,if_true]
   |false=>
    simp only[hb]at b;simp only[qI,Bool.true_and,hb,cK,if_false];exact c b df k
theorem Pn {op:BinOp}{t u:aT}{x y:cd}(p:o.op=.binOp op t x y u){f:mY}(l:YW P o op t (ex x) (ex y)=Z f):ym f (ah6 (R:=R) P op t (isConst x) (isConst y) (ex x) (ex y)):=by
 intro A w m K r h;unfold YW at l;unfold ah6 at h
 split at l
 .rename_i C n;simp only[n]at h;cases op<;>simp only[ah]at l<;>subst l<;>simp only[ex]at h
  all_goals first
   |(obtain⟨a,i,j,g,c,h⟩:=zw h;exact⟨_,_,ahL g c,h⟩)
   |(obtain⟨a,i,j,g,c,h⟩:=zw h;exact⟨_,_,anG g c,h⟩)
   |(obtain⟨a,i,j,g,c,h⟩:=zw h;exact Pm p eJ eJ g c h)
   |(obtain⟨a,i,j,g,c,h⟩:=zw h;exact Te p eJ eJ g c h)
   |exact PZ p eJ eJ h
 .rename_i n;simp only[n]at h
  split at l<;>(try simp only[ex]at h)<;>simp only[ah]at l<;>subst l
  .obtain⟨a,b,g,c,h⟩:=E0 h;refine⟨_,_,λdf k=>?_,h⟩;unfold zY;simp only[ex,g,c]
  .obtain⟨a,b,g,c,h⟩:=E0 h;refine⟨_,_,λdf k=>?_,h⟩;unfold zY;simp only[ex,g,c]
  .obtain⟨a,b,g,c,h⟩:=E0 h;obtain⟨v,e,h⟩:=lX h;refine⟨_,_,λdf k=>?_,h⟩;unfold AL at e;unfold Pf;simp only[ex,g,c]
   split at e
   .rename_i z;cases e;simp only[z,if_true]
   .cases e
  .rename_i s q B;exact PZ p s q h
 .rename_i s q;cases l;have h:den A (eq2 P op t (isConst x) (isConst y) (dG w x) (dG w y) K) m=Z r:=by
   revert h
   cases n:P.underlying t with
   |none=>exact id
   |some d=>cases d<;>first |exact id|exact absurd n (s _)|exact absurd n q
  exact Tc p h
theorem LD {t:aT}{x:cd}{f:mY}{g:FU R}(c:LG P o t (ex x)=Z f)(a:loadT P t (ex x)=Z g):ym f g:=by
 intro A z m K r h;unfold LG at c;unfold loadT at a
 split at c
 .rename_i d;simp only[d]at a
  split at c
  .rename_i n p;simp only[p]at a;cases c;cases a;obtain⟨b,q,j,h⟩:=wB h;obtain⟨v,i,e,h⟩:=kN h;refine⟨v,i,λdf k=>?_,h⟩;unfold fN at e;unfold Og Ci aii;rw[j];simp only[]
   split at e
   .rename_i l s;cases e;rw[s]
   .cases e
  .rename_i p;simp only[p]at a;cases a
 .rename_i d;simp only[d]at a;cases c;cases a;obtain⟨b,q,j,h⟩:=wB h;obtain⟨v,i,e,h⟩:=kN h;refine⟨v,i,λdf k=>?_,h⟩;unfold aI at e;unfold Oh Ci BC;rw[j];simp only[]
  split at e
  .rename_i y;simp only[y]
   split at e
   .rename_i u;rw[bh u]
    split at e
    .rename_i w;cases e;simp only[w]
    .cases e
   .cases e
  .cases e
 .rename_i d;simp only[d]at a;cases a
theorem Ij {t:aT}{p x:cd}{f:mY}{g:FU R}(w:Dq P o t (ex p) (ex x)=Z f)(a:storeT P t (ex p) (ex x)=Z g):ym f g:=by
 intro G j m K r h;unfold Dq at w;unfold storeT at a
 split at w
 .rename_i n u;simp only[u]at a;cases w
  split at a
  .cases a;obtain⟨b,A,q,h⟩:=wB h;unfold CB;simp only[ex]at h
   split at h
   .rename_i z i
    split at h
    .rename_i y;obtain⟨v,d,e,h⟩:=kN h;refine⟨v,d,λdf k=>?_,h⟩;rw[q];simp only[ex,i,Ci,y,if_true];unfold Im at e
     split at e
     .rename_i B C;cases e;rw[C];rfl
     .cases e
    .cases h
   .cases h
  .split at a
   .rename_i y;cases a;obtain⟨b,A,q,h⟩:=wB h;obtain⟨v,d,e,h⟩:=kN h;refine⟨v,d,λdf k=>?_,h⟩;unfold du at e
    split at e
    .cases e
    .rename_i c;have s:∀z,dG j x≠ .agg z:=λz i=>by
      simp only[ex,i]at c;cases c
     unfold CB;rw[q];simp only[ex,Ci,y,c,if_true];have l:(Ds m b A (dG j x) λd=>k undef d df)=k v d df:=by
      unfold Ds
      split at e
      .rename_i F;simp only[F]
       split at e
       .rename_i D;rw[bh D]
        split at e
        .rename_i E;cases e;simp only[E]
        .cases e
       .cases e
      .cases e
     revert l
     cases i:dG j x<;>first |exact id|exact absurd i (s _)
   .cases a
  .cases a
 .rename_i u;simp only[u]at a;cases a
theorem AG {s:aT}{p:cd}{i:Nat}{f:mY}{g:FU R}(c:rh P o s (ex p) i=Z f)(a:xW P s (ex p) i=Z g):ym f g:=by
 intro v q m K r h;unfold rh at c;unfold xW at a
 split at a
 .rename_i fields e;simp only[e]at c
  split at a
  .rename_i u d;simp only[d]at c
   split at a
   .rename_i n j;simp only[j]at c;cases c;cases a;obtain⟨b,t,l,h⟩:=wB h;refine⟨_,_,λdf k=>?_,h⟩;unfold Pu;rw[l];rfl
   .cases a
  .cases a
 .cases a
theorem Ap {t:aT}{x i:cd}{f:mY}{g:FU R}(d:qY P o t (ex x) (ex i)=Z f)(a:xP P t (ex x) (ex i)=Z g):ym f g:=by
 intro B A m K r h;unfold qY at d;unfold xP at a
 split at a
 .rename_i e l;simp only[l]at d
  split at a
  .rename_i s p;simp only[p]at d;cases d;cases a;simp only[ex]at h
   split at h
   .rename_i b v len c y
    split at h
    .rename_i w n q;obtain⟨j,rfl,u,h⟩:=JB h;refine⟨_,_,λdf k=>?_,h⟩;unfold Jb Sx;simp only[ex,y,q,u,if_true]
    .cases h
   .cases h
  .cases a
 .rename_i len e l;simp only[l]at d
  split at a
  .rename_i s p;simp only[p]at d;cases d;cases a;obtain⟨b,v,z,h⟩:=wB h;simp only[ex]at h
   split at h
   .rename_i w n q;obtain⟨j,rfl,u,h⟩:=JB h;refine⟨_,_,λdf k=>?_,h⟩;unfold Jd Sx Ci;rw[z];simp only[ex,q,u,if_true]
   .cases h
  .cases a
 .cases a
theorem HW:∀{l:List UInt8}{i:Nat},i<l.length->∃b,yd l i=Z b
 | [],i,h=>by simp at h
 |b::l,0,h=>⟨b,rfl⟩
 |b::l,i+1,h=>HW (l:=l) (by simpa using h)
theorem Ja {t:aT}{x i:cd}{f:mY}{g:FU R}(u:o.op=.index t x i)(b:Er P o t (ex x) (ex i)=Z f)(a:Oy P t (ex x) (ex i)=Z g):ym f g:=by
 intro B z m K r h;unfold Er at b;unfold Oy at a
 split at b
 .rename_i c;simp only[c]at a;cases b;cases a;simp only[ex]at h
  split at h
  .rename_i s q
   split at h
   .rename_i A n y;obtain⟨j,rfl,d,h⟩:=JB h;rw[lh,iU]at d;obtain⟨C,p⟩:=HW (l:=s.data.toList) (i:=j) (by simpa using d);refine⟨_,_,λdf k=>?_,h⟩;unfold YQ BY;simp only[ex,q,y,p]
   .cases h
  .cases h
 .rename_i w
  split at a
  .rename_i c;exact absurd c w
  .cases b;cases a;obtain⟨v,e,h⟩:=zv h;refine⟨_,_,iu ?_,h⟩;unfold dL;rw[u];simp only[ex]at e;simp only[e]
theorem Om {t:aT}{x:cd}{f:mY}{g:FU R}(b:WY P o t (ex x)=Z f)(a:agC P t (ex x)=Z g):ym f g:=by
 intro l j m K r h;unfold WY at b;unfold agC at a
 split at a
 .rename_i i;simp only[i]at b;cases b;cases a;simp only[ex]at h
  split at h
  .rename_i s d;refine⟨_,_,λdf k=>?_,h⟩;unfold On;simp only[ex,d]
  .cases h
 .rename_i e i;simp only[i]at b;cases b;cases a;simp only[ex]at h
  split at h
  .rename_i s n c d;refine⟨_,_,λdf k=>?_,h⟩;unfold WX;simp only[ex,d]
  .cases h
 .cases a
theorem Oe {pP:Bool}{x y:cd}:ym (Of P o pP (ex x) (ex y)) (WE (R:=R) pP (ex x) (ex y)):=by
 intro f e m K r h;unfold WE at h;simp only[ex]at h
 split at h
 .rename_i a i d
  split at h
  .rename_i b j c;refine⟨_,_,λdf k=>?_,h⟩;unfold Of Qk;simp only[ex,d,c];cases dx j i<;>cases pP<;>rfl
  .cases h
 .cases h
theorem iN {f:Tm->Mem->Option (ab×Mem)}(c:∀a m,f a m=dL P (dG a) o m):ym (jZ P o) (Eb (R:=R) f):=by
 intro d a m K r h;obtain⟨v,b,e,h⟩:=kN h;exact⟨v,b,iu (by rw[<-c];exact e),h⟩
end
section
variable {R:Type}{P:aE}{o:iK}
theorem N2 {ev:cd->ab}{m:Mem}{v:ab}(h:dv P ev o=Z v)(k:(∃i t x,o.op=.unOp i t x)\/(∃s d x a b,o.op=.convert s d x/\P.underlying s=Z (.int a)/\P.underlying d=Z (.int b))\/(∃t x f g s,o.op=.slice t x f g Y/\ev x=.string s)):dL P ev o m=Z (v,m):=by
 unfold dL;rcases k with⟨i,t,x,c⟩|⟨s,d,x,a,b,c,n,l⟩|⟨t,x,f,g,s,c,j⟩
 .rw[c];simp only[h,dk]
 .rw[c];simp only[];have e:gp P s d (ev x) m=Y:=by
   unfold gp;rw[n,l]
  rw[e,h];rfl
 .rw[c];simp only[];have e:jv P t (ev x) (f.map ev) (g.map ev) m=Y:=by
   unfold jv;rw[j]
   split<;>first |rfl|(rename_i h;cases h)
  rw[e,h];rfl
theorem OV {g:FU R}(k:Yp P o=Z g):ym (jZ P o) g:=by
 unfold Yp at k
 split at k
 .rename_i N t x j;cases k;intro q p m K r h;obtain⟨v,e,h⟩:=lX h;obtain⟨A,z,y⟩:=PY e;refine⟨_,_,iu (N2 (iM (by rw[j];simpa[Op.operands]using A) ?_ y) (.inl ⟨_,_,_,j⟩)),h⟩;unfold execOp;rw[j];exact oZ z
 .rename_i t E j
  split at k
  .cases k;intro q p m K r h;obtain⟨v,e,h⟩:=lX h;refine⟨_,_,iu ?_,h⟩;unfold dL;rw[j];simp only[e];rfl
  .cases k;intro q p m K r h;obtain⟨v,e,h⟩:=zv h;refine⟨_,_,iu ?_,h⟩;unfold dL;rw[j];simp only[e];rfl
 .rename_i t n E j;cases k;exact iN λp m=>by unfold dL;rw[j]
 .rename_i s d x j;cases k;intro q p m K r h
  dsimp only at h
  split at h
  .rename_i a b u L;obtain⟨v,e,h⟩:=lX h;obtain⟨A,z,y⟩:=PY e;refine⟨_,_,iu (N2 (iM (by rw[j];simpa[Op.operands]using A) ?_ y) (.inr (.inl ⟨_,_,_,_,_,j,u,L⟩))),h⟩;unfold execOp;rw[j];exact oZ z
  .obtain⟨v,C,e,h⟩:=kN h;refine⟨v,C,iu ?_,h⟩;unfold dL;rw[j];simp only[e]
 .rename_i t x j
  split at k
  .cases k
  .rename_i d H D;cases k;intro q p m K r h;refine⟨_,_,iu ?_,h⟩;unfold dL;rw[j];simp only[]
   split
   .rename_i Q B;rw[D]at B;exact absurd B (by intro e;cases e;exact H _ rfl)
   .rfl
   .rename_i B;rw[D]at B;cases B
  .cases k
 .rename_i V f c j;cases k;intro q p m K r h;refine⟨_,_,iu ?_,h⟩;unfold dL;rw[j]
 .rename_i t j;cases k;exact iN λp m=>by unfold dL y6;rw[j]
 .rename_i t l c j;cases k;exact iN λp m=>by unfold dL;rw[j]
 .rename_i t x F J j;cases k;intro q p m K r h
  dsimp only at h
  split at h
  .rename_i s u;obtain⟨v,e,h⟩:=lX h;obtain⟨A,z,y⟩:=PY e;refine⟨_,_,iu (N2 (iM ?_ ?_ y) (.inr (.inr ⟨_,_,_,_,_,j,u⟩))),h⟩
   .rw[j];simp only[Op.operands];cases F<;>cases J<;>simpa[u]using A
   .unfold execOp;rw[j];simp only[u];exact oZ z
  .obtain⟨v,C,e,h⟩:=kN h;refine⟨v,C,iu ?_,h⟩;unfold su at e
   split at e
   .rename_i M G;cases e;unfold dL;rw[j];simp only[G]
   .cases e
 .rename_i s x f j;cases k;intro q p m K r h;obtain⟨v,e,h⟩:=zv h;refine⟨_,_,iu ?_,h⟩;unfold dL;rw[j];simp only[e];rfl
 .rename_i t x i ok j;cases k;exact iN λp m=>by
   unfold dL wo;rw[j];simp only[];cases jA P t (dG p x) (dG p i) ok m<;>rfl
 .rename_i t x i v j;cases k;exact iN λp m=>by
   unfold dL WG;rw[j];simp only[];cases ml P t (dG p x) (dG p i) (dG p v) m<;>rfl
 .rename_i x t a ok j;cases k;intro q p m K r h;obtain⟨v,e,h⟩:=zv h;refine⟨_,_,iu ?_,h⟩;unfold dL;rw[j];simp only[e];rfl
 .rename_i t x j;cases k;exact iN λp m=>by unfold dL;rw[j]
 .rename_i T s j;cases k;exact iN λp m=>by unfold dL;rw[j]
 .rename_i b args S j
  split at k
  .rename_i s x w;cases k;exact iN λp m=>by unfold dL;rw[j];simp only[w]
  .rename_i s x w;cases k;exact iN λp m=>by unfold dL;rw[j];simp only[w]
  .rename_i x w;cases k;exact iN λp m=>by unfold dL;rw[j];simp only[w]
  .cases k
 .cases k
theorem Sl {f:mY}{g:FU R}(j:iI P o=Z f)(d:Af P o=Z g):ym f g:=by
 have last:iI P o=Z (jZ P o)->Af (R:=R) P o=Yp P o->ym f g:=λh1 h2=>by
  rw[h1]at j;cases j;rw[h2]at d;exact OV d
 cases n:o.op with
 |move x=>
  unfold iI at j;unfold Af at d;simp only[n]at j d;have j:=aK j;have d:=aK d;cases j;cases d;exact λA q m K r h=>⟨_,_,λ_ _=>rfl,h⟩
 |assign x=>
  unfold iI at j;unfold Af at d;simp only[n]at j d;have j:=aK j;have d:=aK d;cases j;cases d;exact λA q m K r h=>⟨_,_,λ_ _=>rfl,h⟩
 |pick c x y=>
  unfold iI at j;unfold Af at d;simp only[n]at j d;have j:=aK (aK (aK j));have d:=aK (aK (aK d));cases j;cases d;intro A q m K r h;obtain⟨b,V,h⟩:=E3 h;cases b with
  |true=>exact⟨_,_,λ_ _=>by unfold Lg;simp only[V],h⟩
  |false=>exact⟨_,_,λ_ _=>by unfold Lg;simp only[V],h⟩
 |binOp op t x y u=>
  unfold iI at j;unfold Af at d;simp only[n]at j d;have j:=aK (aK j);have d:=aK (aK d);cases d;exact Pn n j
 |load t x=>
  unfold iI at j;unfold Af at d;simp only[n]at j d;exact LD (aK j) (aK d)
 |store t p x=>
  unfold iI at j;unfold Af at d;simp only[n]at j d;exact Ij (aK (aK j)) (aK (aK d))
 |fieldAddr s p i=>
  unfold iI at j;unfold Af at d;simp only[n]at j d;exact AG (aK j) (aK d)
 |indexAddr t x i=>
  unfold iI at j;unfold Af at d;simp only[n]at j d;exact Ap (aK (aK j)) (aK (aK d))
 |index t x i=>
  unfold iI at j;unfold Af at d;simp only[n]at j d;exact Ja n (aK (aK j)) (aK (aK d))
 |extract x i=>
  unfold iI at j;unfold Af at d;simp only[n]at j d;have j:=aK j;have d:=aK d;cases j;cases d;intro A q m K r h
  dsimp only at h
  split at h
  .rename_i vs w;obtain⟨v,e,h⟩:=zv h;exact⟨_,_,λ_ _=>by unfold zq;simp only[w,e],h⟩
  .cases h
 |unOp op t x=>
  cases op with
  |not=>
   unfold iI at j;unfold Af at d;simp only[n]at j d;have j:=aK j;have d:=aK d;cases j;cases d;intro A q m K r h
   dsimp only at h
   split at h
   .rename_i b w;exact⟨_,_,λ_ _=>by unfold ab9;simp only[w],h⟩
   .cases h
  |_=>exact last (by unfold iI;rw[n]) (by unfold Af;rw[n])
 |nilCheck x=>
  unfold iI at j;unfold Af at d;simp only[n]at j d;have j:=aK j;have d:=aK d;cases j;cases d;intro A q m K r h
  dsimp only at h
  split at h
  .rename_i a w;exact⟨_,_,λ_ _=>by unfold Wu;simp only[w],h⟩
  .rename_i name first Q w
   obtain⟨v,e,h⟩:=lX h;refine⟨v,m,λdf k=>?_,h⟩;have dJ:dL P (dG q) o m=Z (v,m):=by
    unfold dL;rw[n];simp only[w];unfold wm at e
    split at e
    .rename_i r' hr;simp only[hr]
     split at e
     .rename_i hs;cases e;rw[bh hs]
     .cases e
    .cases e
   unfold Wu;simp only[w];exact iu dJ df k
  .cases h
 |alloc e=>
  unfold iI at j;unfold Af at d;simp only[n]at j d
  split at j
  .rename_i z W;simp only[W]at d;cases j;cases d;intro A q m K r h;obtain⟨v,C,e,h⟩:=kN h;cases e;exact⟨_,_,λ_ _=>rfl,h⟩
  .cases j
 |box e x=>
  unfold iI at j;unfold Af at d;simp only[n]at j d;have j:=aK j;have d:=aK d;cases j;cases d;intro A q m K r h;obtain⟨v,C,e,h⟩:=kN h;cases e;exact⟨_,_,λ_ _=>rfl,h⟩
 |call c=>
  obtain⟨callee,args,mH⟩:=c;cases callee with
  |value x=>
   have main:(∃B,x=.func B)\/(∀B,x≠ .func B):=by
    cases x with
    |func B=>exact .inl ⟨_,rfl⟩
    |_=>exact .inr λ_ h=>by cases h
   rcases main with⟨B,rfl⟩|E
   .unfold iI at j;unfold Af at d;simp only[n]at j d;obtain⟨S,j,J⟩:=fV j;obtain⟨D,d,H⟩:=fV d;cases j;cases d;intro A q m K r h;unfold den at h
    split at h
    .rename_i v C F;refine⟨v,C,λdf k=>?_,h⟩;unfold YP;rw[J,<-H,F];rfl
    .cases h
   .have Cu:(eY x λx=>uH args.toList λL=>Z (MD x L))=Z f:=by
     unfold iI at j;simp only[n]at j;cases x with
     |func B=>exact absurd rfl (E B)
     |_=>exact j
    have EH:(eY x λx=>uH args.toList λL=>Z λq k=>T.bZ (x q) (Nb L q) k)=Z g:=by
     unfold Af at d;simp only[n]at d;cases x with
     |func B=>exact absurd rfl (E B)
     |_=>exact d
    obtain⟨S,j,J⟩:=fV (aK Cu);obtain⟨D,d,H⟩:=fV (aK EH);cases j;cases d;intro A q m K r h;unfold den at h
    split at h
    .rename_i ff first Q w
     split at h
     .rename_i v C F;refine⟨v,C,λdf k=>?_,h⟩;unfold MD;simp only[w];rw[J,<-H,F];rfl
     .cases h
    .cases h
  |invoke rc name=>
   unfold iI at j;unfold Af at d;simp only[n]at j d;obtain⟨S,j,J⟩:=fV (aK j);obtain⟨D,d,H⟩:=fV (aK d);cases j;cases d;intro A q m K r h;unfold den at h
   split at h
   .rename_i ff recv w
    split at h
    .rename_i v C F;refine⟨v,C,λdf k=>?_,h⟩;unfold Rg;simp only[w];rw[J,<-H,F];rfl
    .cases h
   .cases h
  |builtin b=>
   have G:∀M,(match args.toList with | [x,y]=>eY x λx=>eY y λy=>Z (Of P o M x y)|_=>Z (jZ P o))=Z f->(match args.toList with | [x,y]=>eY x λx=>eY y λy=>Z (WE M x y)|_=>Y)=Z g->ym f g:=by
    intro M j d
    split at d
    .rename_i x y N;simp only[N]at j;have j:=aK (aK j);have d:=aK (aK d);cases j;cases d;exact Oe
    .cases d
   cases b with
   |min=>unfold iI at j;unfold Af at d;simp only[n]at j d;exact G O j d
   |max=>unfold iI at j;unfold Af at d;simp only[n]at j d;exact G U j d
   |len=>
    unfold iI at j;unfold Af at d;simp only[n]at j d
    split at d
    .rename_i x t l N X;simp only[N,X]at j;exact Om (aK j) (aK d)
    .cases d
   |_=>exact last (by unfold iI;rw[n]) (by unfold Af;rw[n])
 |defer c=>
  unfold Af Yp at d;simp only[n]at d;cases d
 |_=>exact last (by unfold iI;rw[n]) (by unfold Af;rw[n])
end
section
variable {R:Type}
abbrev RC (R:Type):=(Tm->Df->T R)->Tm->Df->T R
def EM (g:lD)(want:Bool)(yes no:RC R):RC R:=λK tm df=>match g tm with
 | .bool b=> .cond (.bool b) λb=>match b with
  |true=>match want with |true=>yes K tm df|false=>no K tm df
  |false=>match want with |true=>no K tm df|false=>yes K tm df
 |_=>no K tm df
def aga (P:aE)(ops:Array iK)(i:Nat)(rest:RC R):Option (RC R):=
 match ops[i]? with
 |none=>Y
 |some o=>match o.op with
  | .defer {callee:=.value x,args,.. }=>match o.guard with
   |none=>match o.dst with
    |none=>eY x λx=>uH args.toList λxs=>Z λK tm df=>(match x tm with
     | .func (.func f) first cap=>rest K tm ((f,first.toList++Nb xs tm++cap.toList)::df)
     |_=> .fail)
    |some _=>Y
   |some _=>Y
  |_=>match Af P o with
   |none=>Y
   |some op=>match o.guard with
    |none=>match o.dst with
     |some d=>Ih d λ_ p=>Z λK tm df=>op tm λv=>rest K (p v tm) df
     |none=>Z λK tm df=>op tm λ_=>rest K tm df
    |some (j,want)=>match(ops[j]?).bind (·.dst)with
     |some g=>Ih g λgx _=>match o.dst with
      |some d=>Ih d λ_ p=>Z (EM gx want (λK tm df=>op tm λv=>rest K (p v tm) df) λK tm df=>rest K (p undef tm) df)
      |none=>Z (EM gx want (λK tm df=>op tm λ_=>rest K tm df) rest)
     |none=>Y
def iW (v:ab)(m:Mem):Option (ab×Mem):=Z (jX m v,m)
def Bo (m:Mem):Option (ab×Mem):=match m.pend with | []=>Z (undef,m)|_=>Y
def dH (saved v:ab)(look:Mem->Bool)(m:Mem):Option (ab×Mem):=match yP saved (jX m v)&&look m with |true=>Z (undef,m)|false=>Y
def oJ (v:ab)(m:Mem):Bool:=match oS v with |some b=>Nat.ble m.floor b|none=>U
def WM (P:aE)(o:iK)(tm:Tm):Mem->Bool:=
 match o.op with
 | .load t a=>λm=>(kY P t (dG tm a) m).isSome
 | .lookup t x i ok=>λm=>(jA P t (dG tm x) (dG tm i) ok m).isSome
 | .slice t x lo hi Y=>λm=>(jv P t (dG tm x) (lo.map (dG tm)) (hi.map (dG tm)) m).isSome
 | .slice _ _ _ _ (Z _)=>λ_=>O
 |_=>oJ (dG tm (match om o with |some x=>x|none=> .const undef))
def PB (ops:Array iK)(o:iK)(yes no:RC R):Option (RC R):=
 match o.guard with
 |none=>Z yes
 |some (j,want)=>match(ops[j]?).bind (·.dst)with
  |some g=>Z (EM (di g) want yes no)
  |none=>Z no
def Us (P:aE)(ops:Array iK)(t:oV)(rest:RC R):Option (RC R):=
 match t with
 |(0,i,slot)=>match aga P ops i rest with
  |some f=>Z (match slot with |0=>f|_=>λK tm df=> .mem Bo λ_=>f K tm df)
  |none=>Y
 |(1,i,slot)=>match ops[i]? with
  |some o=>match om o with
   |some x=>PB ops o (λK tm df=> .mem (iW (dG tm x)) λv=>rest K (u5 slot v tm) df) (λK tm df=>rest K (u5 slot undef tm) df)
   |none=>Y
  |none=>Y
 |(_,i,slot)=>match ops[i]? with
  |some o=>match om o with
   |some x=>PB ops o (λK tm df=> .mem (dH (di slot tm) (dG tm x) (WM P o tm)) λ_=>rest K tm df) rest
   |none=>Y
  |none=>Y
def zW (P:aE)(ops:Array iK):List oV->Option (RC R)
 | []=>Z λK=>K
 |t::l=>match zW P ops l with
  |some rest=>Us P ops t rest
  |none=>Y
abbrev KT (R:Type):=Exit->Tm->Df->T R
abbrev CT (R:Type):=KT R->Tm->Df->T R
def aiU (a b:CT R):CT R:=λK=>a λe tm df=>match e with
 | .normal=>b K tm df
 |e=>K e tm df
def ang (x:lD)(a b:CT R):CT R:=λK tm df=> .cond (x tm) λc=>match c with |true=>a K tm df|false=>b K tm df
def ah4 (id:Nat)(a:CT R):CT R:=λK=>a λe tm df=>match e with
 | .exit j=>match Nat.beq j id with |true=>K .normal tm df|false=>K (.exit j) tm df
 |e=>K e tm df
def Lz (a:CT R):Nat->CT R
 |0=>λ_ _ _=> .fail
 |n+1=>λK=>a λe tm df=>match e with
  | .normal=>Lz a n K tm df
  |e=>K e tm df
def qf (P:aE)(nt:Nat):Nat->Code->Option (CT R)
 |0,_=>Y
 |n+1,c=>match c with
  | .skip=>Z λK=>K .normal
  | .label _=>Z λK=>K .normal
  | .seq a b=>match qf P nt n a with
   |some a=>match qf P nt n b with
    |some b=>Z (aiU a b)
    |none=>Y
   |none=>Y
  | .cond x a b=>match qf P nt n a with
   |some a=>match qf P nt n b with
    |some b=>eY x λx=>Z (ang x a b)
    |none=>Y
   |none=>Y
  | .block id b=>match qf P nt n b with
   |some b=>Z (ah4 id b)
   |none=>Y
  | .loop b=>match qf P nt n b with
   |some b=>Z (Lz b 100000000000000)
   |none=>Y
  | .exit id=>Z λK=>K (.exit id)
  | .ret=>Z λK=>K .ret
  | .goto l=>Z λK=>K (.goto l)
  | .region _ ops draw=>match draw with
   |true=>match YD ops nt with
    |some l=>match zW (R:=R) P ops l with
     |some f=>Z λK=>f (K .normal)
     |none=>Y
    |none=>Y
   |false=>match zW (R:=R) P ops ((List.range ops.size).map λi=>(0,i,0))with
    |some f=>Z λK=>f (K .normal)
    |none=>Y
  | .scope b=>match qf P nt n b with
   |some g=>Z λK=>g λe tm df=>match e with
    | .goto _=> .fail
    |e=>K e tm df
   |none=>Y
  |_=>Y
def nY (P:aE)(t:aT)(p:ab)(m:Mem):Option (ab×Mem):=match kY P t p m with |some v=>Z (v,m)|none=>Y
def KU (P:aE)(nt:Nat)(tm:Tm):List ResultVar->(List ab->T R)->T R
 | [],k=>k []
 | .tmp t::l,k=>match Nat.blt t nt with |true=>KU P nt tm l λvs=>k (di t tm::vs)|false=> .fail
 | .cell a t::l,k=>match Nat.blt a nt with |true=> .mem (nY P t (di a tm)) λv=>KU P nt tm l λvs=>k (v::vs)|false=> .fail
def wC (P:aE)(X:Ext):Df->T R->T R
 | [],k=>k
 |(f,args)::ds,k=>match dX P f&& !(Nat.beq f X.Nl||Nat.beq f X.xy)with
  |true=> .call f args λ_=>wC P X ds k
  |false=> .fail
def aeL (P:aE)(X:Ext)(nt:Nat)(rs:List ResultVar)(g:CT ab)(args:List ab):T ab:=
 match Nat.ble args.length nt with
 |true=>match FX args with
  |some tm=>g (λe tm df=>match e with
   | .normal=>wC P X df (KU P nt tm rs λvs=>match vs with | [v]=> .done v|vs=> .done (.tuple vs.toArray))
   | .ret=>wC P X df (KU P nt tm rs λvs=>match vs with | [v]=> .done v|vs=> .done (.tuple vs.toArray))
   |_=> .fail) tm []
  |none=> .fail
 |false=> .fail
def acY (P:aE)(X:Ext)(f:Nat)(args:List ab):T ab:=
 match P.funcs[f]? with
 |some fn=>match fn.body with
  |some c=>match qf P fn.ntmps 1000 c with
   |some g=>aeL P X fn.ntmps fn.results.toList g args
   |none=> .fail
  |none=> .fail
 |none=> .fail
end
section
variable {R:Type}{P:aE}
def yl (f:iR)(g:RC R):Prop:=
 ∀(cl:cH) (K:Tm->Df->T R) (tm:Tm) (df:Df) (m:Mem) (r:R×Mem),den cl (g K tm df) m=Z r->∃st,f cl tm m df=Z st/\den cl (K st.tm st.df) st.mem=Z r
theorem uk {g:lD}{want:Bool}{d no:RC R}{f fy fn:iR}(l:yl fy d)(j:yl fn no)
  (n:∀c a m df,g a=.bool want->f c a m df=fy c a m df)(k:∀c a m df,g a≠ .bool want->f c a m df=fn c a m df):yl f (EM g want d no):=by
 intro c K a df m r h;unfold EM at h
 split at h
 .rename_i b i;obtain⟨o,e,h⟩:=E3 h;cases e
  by_cases hw:b=want
  .subst hw;rw[n _ _ _ _ i];refine l _ _ _ _ _ _ ?_
   revert h;cases b<;>exact id
  .rw[k _ _ _ _ (by rw[i];intro e;cases e;exact hw rfl)];refine j _ _ _ _ _ _ ?_
   revert h
   cases b<;>cases want<;>first |exact absurd rfl hw|exact id
 .rename_i i;rw[k _ _ _ _ (i _)];exact j _ _ _ _ _ _ h
theorem Dt {op:mY}{t:FU R}{p:Put}{rest:iR}{b:RC R}(d:ym op t)(c:yl rest b):yl (PK p op rest) λK a df=>t a λv=>b K (p v a) df:=by
 intro i K a df m r h;obtain⟨v,g,e,h⟩:=d _ _ _ _ _ h;obtain⟨st,f,h⟩:=c _ _ _ _ _ _ h;exact⟨st,by unfold PK;rw[e];exact f,h⟩
theorem Bd {op:mY}{t:FU R}{rest:iR}{b:RC R}(d:ym op t)(c:yl rest b):yl (Kr op rest) λK a df=>t a λ_=>b K a df:=by
 intro i K a df m r h;obtain⟨v,g,e,h⟩:=d _ _ _ _ _ h;obtain⟨st,f,h⟩:=c _ _ _ _ _ _ h;exact⟨st,by unfold Kr;rw[e];exact f,h⟩
theorem N4 {nt i:Nat}{ops:Array iK}{rest f:iR}{y g:RC R}(b:V5 P nt ops i rest=Z f)(a:aga P ops i y=Z g)(l:yl rest y):yl f g:=by
 unfold V5 at b;unfold aga at a
 split at a
 .cases a
 .rename_i o C;rw[C]at b;simp only[]at b
  split at b
  .split at b
   .cases b
   .rename_i J p
    split at a
    .rename_i x args L e
     split at a
     .rename_i q
      split at a
      .rename_i w;simp only[q,w]at b;cases b;obtain⟨z,a,F⟩:=fV (aK a);cases a;unfold iI at p;simp only[e]at p;obtain⟨H,p,G⟩:=fV (aK p);cases p;intro n K c df m r h
       dsimp only at h
       split at h
       .rename_i M first E A
        obtain⟨st,D,h⟩:=l _ _ _ _ _ _ h;refine⟨st,?_,h⟩;unfold Kr JE noK;simp only[A];rw[G,<-F];exact D
       .cases h
      .cases a
     .cases a
    .split at a
     .cases a
     .rename_i t B;have s:=Sl p B
      split at a
      .rename_i q;simp only[q]at b
       split at a
       .rename_i d e;simp only[e]at b;have b:=(jN b).2;have a:=(jN a).2;cases b;cases a;exact Dt s l
       .rename_i e;simp only[e]at b;cases b;cases a;exact Bd s l
      .rename_i j want q;simp only[q]at b
       split at a
       .rename_i u v;simp only[v]at b
        split at b
        .have b:=(jN b).2;have a:=(jN a).2
         split at a
         .rename_i d e;simp only[e]at b;have b:=(jN b).2;have a:=(jN a).2;cases b;cases a;refine uk (Dt s l) (fn:=λn c m df=>rest n (u5 d undef c) m df) (λn K c df m r h=>l _ _ _ _ _ _ h) ?_ ?_
          .intro n c m df k;unfold Jq PK;cases want<;>simp only[k]<;>rfl
          .intro n c m df k;unfold Jq
           split
           .cases want with
            |true=>exact absurd ‹di u c=_› k
            |false=>rfl
           .cases want with
            |true=>rfl
            |false=>exact absurd ‹di u c=_› k
           .rfl
         .rename_i e;simp only[e]at b;cases b;cases a;refine uk (Bd s l) l ?_ ?_
          .intro n c m df k;unfold Jp Kr;cases want<;>simp only[k]<;>rfl
          .intro n c m df k;unfold Jp
           split
           .cases want with
            |true=>exact absurd ‹di u c=_› k
            |false=>rfl
           .cases want with
            |true=>rfl
            |false=>exact absurd ‹di u c=_› k
           .rfl
        .cases b
       .cases a
  .cases b
theorem A2 {ops:Array iK}{o:iK}{k no g:RC R}{f fy fn:iR}(i:PB ops o k no=Z g)(p:yl fy k)(q:yl fn no)
  (t:∀d a m df,cY ops o a=U->f d a m df=fy d a m df)(s:∀d a m df,cY ops o a=O->f d a m df=fn d a m df):yl f g:=by
 unfold PB at i
 split at i
 .rename_i l;cases i;intro d K a df m r h;rw[t _ _ _ _ (by unfold cY;rw[l])];exact p _ _ _ _ _ _ h
 .rename_i j want l
  split at i
  .rename_i u c;cases i;refine uk p q (λd a m df n=>t _ _ _ _ ?_) λd a m df n=>s _ _ _ _ ?_
   .unfold cY;simp only[l,c,n];simp
   .unfold cY;simp only[l,c]
    split
    .rename_i b e;rw[e]at n;cases b<;>cases want<;>first |rfl|exact absurd rfl n
    .rfl
  .rename_i c;cases i;intro d K a df m r h;rw[s _ _ _ _ (by unfold cY;simp only[l,c])];exact q _ _ _ _ _ _ h
theorem LC {o:iK}{x:cd}(f:om o=Z x){tm:Tm}{m:Mem}(h:WM P o tm m=U):(if looks o then(dL P (dG tm) o m).isSome else match oS (dG tm x)with |some b=>Nat.ble m.floor b|none=>U)=U:=by
 unfold WM at h;cases c:o.op with
 |load t a=>
  simp only[c]at h;have :looks o=U:=by unfold looks;rw[c]
  rw[bh this];unfold dL;rw[c];simp only[Option.isSome_map];exact h
 |lookup t y i ok=>
  simp only[c]at h;have :looks o=U:=by unfold looks;rw[c]
  rw[bh this];unfold dL;rw[c];simp only[Option.isSome_map];exact h
 |slice t y e j d=>
  cases d with
  |some _=>simp only[c]at h;cases h
  |none=>
   simp only[c]at h;have :looks o=U:=by unfold looks;rw[c]
   rw[bh this];unfold dL;rw[c];simp only[];cases g:jv P t (dG tm y) (e.map (dG tm)) (j.map (dG tm)) m with
   |none=>rw[g]at h;cases h
   |some v=>rfl
 |_=>
  have :looks o=O:=by unfold looks;rw[c]
  rw[this,bH eJ];simp only[c,f,oJ]at h;exact h
theorem Ki {nt:Nat}{ops:Array iK}{t:oV}{rest f:iR}{w g:RC R}(b:A8 P nt ops t rest=Z f)(d:Us P ops t w=Z g)(l:yl rest w):yl f g:=by
 unfold A8 at b;unfold Us at d
 split at d
 .rename_i i slot;simp only[]at b
  split at d
  .rename_i F D
   split at b
   .rename_i G E;have q:=N4 E D l;cases b;cases d;cases slot with
    |zero=>exact q
    |succ slot=>
     intro j K a df m r h;obtain⟨v,y,e,h⟩:=kN h;unfold Bo at e
     split at e
     .rename_i z;cases e;obtain⟨st,s,h⟩:=q _ _ _ _ _ _ h;refine⟨st,?_,h⟩;simp only[P0,z];exact s
     .cases e
   .cases b
  .cases d
 .rename_i i slot;simp only[]at b
  split at d
  .rename_i o u;simp only[u]at b
   split at d
   .rename_i x n;simp only[n]at b
    split at b
    .cases b;refine A2 d (fy:=λj a m df=>rest j (u5 slot (jX m (dG a x)) a) m df) (fn:=λj a m df=>rest j (u5 slot undef a) m df) ?_ (λj K a df m r h=>l _ _ _ _ _ _ h) ?_ ?_
     .intro j K a df m r h;obtain⟨v,y,e,h⟩:=kN h;cases e;exact l _ _ _ _ _ _ h
     .intro j a m df k;unfold UO;rw[bh k]
     .intro j a m df k;unfold UO;rw[bH (by rw[k];decide)]
    .cases b
   .cases d
  .cases d
 .rename_i c i slot B q;have b:(match ops[i]? with |some o=>(match om o with |some x=>Z (uq P ops o x slot rest)|none=>Y)|none=>Y)=Z f:=by
   revert b
   cases c with
   |zero=>exact absurd rfl B
   |succ c=>
    cases c with
    |zero=>exact absurd rfl q
    |succ c=>exact id
  split at d
  .rename_i o u;simp only[u]at b
   split at d
   .rename_i x n;simp only[n]at b;cases b;refine A2 d (fy:=λj a m df=>uq P ops o x slot rest j a m df) (fn:=rest) ?_ l (λ_ _ _ _ _=>rfl) ?_
    .intro j K a df m r h;obtain⟨v,y,e,h⟩:=kN h;unfold dH at e
     split at e
     .rename_i p;cases e;obtain⟨st,s,h⟩:=l _ _ _ _ _ _ h;refine⟨st,?_,h⟩;have p:=(ag _ _).mp p;have A:=LC n p.2
      show uq P ops o x slot rest j a m df=Z st
      by_cases k:cY ops o a=U
      .unfold uq;simp only[k,p.1,if_true,Bool.true_and];exact(bh A).trans s
      .have C:uq P ops o x slot rest j a m df=rest j a m df:=by unfold uq;rw[bH k]
       rw[C];exact s
     .cases e
    .intro j a m df k;unfold uq;rw[bH (by rw[k];decide)]
   .cases d
  .cases d
theorem yF {nt:Nat}{ops:Array iK}:∀{l:List oV}{f:iR}{g:RC R},iL P nt ops l=Z f->zW P ops l=Z g->yl f g
 | [],f,g,b,a=>by
  cases b;cases a;intro d K c df m r h;exact⟨⟨c,m,df⟩,rfl,h⟩
 |t::l,f,g,b,a=>by
  unfold iL at b;unfold zW at a
  split at b
  .split at a
   .exact Ki b a (yF fS fS)
   .cases a
  .cases b
end
section
variable {R:Type}{P:aE}{X:Ext}
def Y8 (f:F)(g:CT R):Prop:=
 ∀(cl:cH) (K:KT R) (tm:Tm) (df:Df) (m:Mem) (r:R×Mem),den cl (g K tm df) m=Z r->∃e st,f cl ⟨tm,m,df⟩=Z (e,st)/\den cl (K e st.tm st.df) st.mem=Z r
theorem Bx {a:F}{b:CT R}(h:Y8 a b):∀n,Y8 (λd st=>y8 a d n st) (Lz b n)
 |0=>by intro d K f df m r c;unfold Lz den at c;cases c
 |n+1=>by
  intro d K f df m r c;unfold Lz at c;obtain⟨e,st,g,c⟩:=h _ _ _ _ _ _ c;unfold y8;simp only[g];cases e with
  |normal=>exact Bx h n _ _ _ _ _ _ c
  |_=>exact⟨_,_,rfl,c⟩
theorem iH {nt:Nat}:∀{n:Nat}{c:Code}{f:F}{g:CT R},comp P nt n c=Z f->qf P nt n c=Z g->Y8 f g
 |0,c,f,g,d,i=>by cases d
 |n+1,c,f,g,d,i=>by
  cases c with
  |skip=>cases d;cases i;exact λk K p df m r h=>⟨_,_,rfl,h⟩
  |label l=>cases d;cases i;exact λk K p df m r h=>⟨_,_,rfl,h⟩
  |seq a b=>
   unfold comp at d;unfold qf at i;simp only[]at d i
   split at d
   .rename_i L B
    split at d
    .rename_i y s
     split at i
     .rename_i J u
      split at i
      .rename_i A t;cases d;cases i;intro k K p df m r h;obtain⟨e,st,v,h⟩:=iH B u _ _ _ _ _ _ h;cases e with
       |normal=>
        obtain⟨e,C,M,h⟩:=iH s t _ _ _ _ _ _ h;exact⟨e,C,by unfold qg;rw[v];exact M,h⟩
       |_=>exact⟨_,_,by unfold qg;rw[v],h⟩
      .cases i
     .cases i
    .cases d
   .cases d
  |cond x a b=>
   unfold comp at d;unfold qf at i;simp only[]at d i
   split at d
   .split at d
    .rename_i L B
     split at d
     .rename_i y s
      split at i
      .rename_i J u
       split at i
       .rename_i A t;have d:=aK d;have i:=aK i;cases d;cases i;intro k K p df m r h;obtain⟨c,H,h⟩:=E3 h;unfold Ra;simp only[H];cases c with
        |true=>exact iH B u _ _ _ _ _ _ h
        |false=>exact iH s t _ _ _ _ _ _ h
       .cases i
      .cases i
     .cases d
    .cases d
   .cases d
  |block id b=>
   unfold comp at d;unfold qf at i;simp only[]at d i
   split at d
   .split at i
    .rename_i y s _ A t;cases d;cases i;intro k K p df m r h;obtain⟨e,st,v,h⟩:=iH s t _ _ _ _ _ _ h;unfold JN;simp only[v];cases e with
     |exit j=>
      simp only[]at h;cases z:Nat.beq j id with
      |true=>simp only[z]at h;exact⟨_,_,by simp only[z,if_true],h⟩
      |false=>simp only[z]at h;exact⟨_,_,by simp only[z,cK,if_false],h⟩
     |_=>exact⟨_,_,rfl,h⟩
    .cases i
   .cases d
  |loop b=>
   unfold comp at d;unfold qf at i;simp only[]at d i
   split at d
   .split at i
    .rename_i y s _ A t;cases d;cases i;exact Bx (iH s t) 100000000000000
    .cases i
   .cases d
  |exit id=>cases d;cases i;exact λk K p df m r h=>⟨_,_,rfl,h⟩
  |ret=>cases d;cases i;exact λk K p df m r h=>⟨_,_,rfl,h⟩
  |goto l=>cases d;cases i;exact λk K p df m r h=>⟨_,_,rfl,h⟩
  |region id ops draw=>
   unfold comp at d;unfold qf at i;simp only[]at d i;have w:∀{l:List oV}{o:iR}{q:RC R},iL P nt ops l=Z o->zW P ops l=Z q->Y8 (Se o) (λK=>q (K .normal)):=by
    intro l o q E D k K p df m r h;obtain⟨st,e,h⟩:=yF E D _ _ _ _ _ _ h;exact⟨_,_,by unfold Se;simp only[e],h⟩
   cases draw with
   |true=>
    rw[bh rfl]at d;simp only[]at i
    split at d
    .rename_i l G;simp only[G]at i
     split at d
     .split at i
      .cases d;cases i;exact w fS fS
      .cases i
     .cases d
    .cases d
   |false=>
    rw[bH eJ]at d;simp only[]at i
    split at d
    .split at i
     .cases d;cases i;exact w fS fS
     .cases i
    .cases d
  |scope b=>
   unfold comp at d;unfold qf at i;simp only[]at d i
   split at d
   .split at i
    .rename_i y s _ A t;cases d;cases i;intro k K p df m r h;obtain⟨e,st,v,h⟩:=iH s t _ _ _ _ _ _ h;refine⟨e,st,?_,?_⟩
     .show z8 _ _ k (999+1) y _=_
      unfold z8;rw[v];cases e with
      |goto l=>unfold den at h;cases h
      |_=>rfl
     .cases e with
      |goto l=>unfold den at h;cases h
      |_=>exact h
    .cases i
   .cases d
  |_=>cases i
theorem xo {b:cH}{r:R×Mem}{k:T R}:∀{df:Df}{m:Mem},den b (wC P X df k) m=Z r->∃a,qu P X b df m=Z a/\den b k a=Z r
 | [],m,h=>⟨m,rfl,h⟩
 |(f,args)::i,m,h=>by
  unfold wC at h;unfold qu
  split at h
  .rename_i g;rw[bh g];unfold den at h
   split at h
   .rename_i v a d;obtain⟨c,e,h⟩:=xo h;exact⟨c,by rw[d];exact e,h⟩
   .cases h
  .cases h
theorem xG {f:cH}{r:R×Mem}{nt:Nat}{tm:Tm}{m:Mem}:∀{d:List ResultVar}{k:List ab->T R},den f (KU P nt tm d k) m=Z r->∃b,wL P nt m tm d=Z b/\den f (k b) m=Z r
 | [],k,h=>⟨[],rfl,h⟩
 | .tmp t::l,k,h=>by
  unfold KU at h
  split at h
  .rename_i c;obtain⟨b,e,h⟩:=xG h;exact⟨_,by unfold wL;rw[bh c,e],h⟩
  .cases h
 | .cell a t::l,k,h=>by
  unfold KU at h
  split at h
  .rename_i c;obtain⟨v,j,e,h⟩:=kN h;unfold nY at e
   split at e
   .rename_i i g;cases e;obtain⟨b,e,h⟩:=xG h;exact⟨_,by unfold wL;rw[bh c,g,e],h⟩
   .cases e
  .cases h
theorem OW {f:Nat}{args:List ab}{d:cH}{m:Mem}{v:ab}{m':Mem}{fn:Func}{c:Code}(q:P.funcs[f]?=Z fn)(o:fn.body=Z c)(r:Nat.ble fn.ntmps 512=U)(s:(comp P fn.ntmps 1000 c).isSome=U)
  (h:den d (acY P X f args) m=Z (v,m')):(kX P X f).body d args m=Z (v,m'):=by
 unfold acY at h;simp only[q,o]at h
 split at h
 .rename_i g t;obtain⟨b,p⟩:=sH.1 s;have z:(kX P X f).body d args m=zH P X fn.ntmps fn.results.toList b d args m:=by
   unfold kX;simp only[q,o,r,if_true,p]
  rw[z];unfold aeL at h;unfold zH
  split at h
  .rename_i n;rw[bh n]
   split at h
   .rename_i A k;rw[k];simp only[];obtain⟨e,st,y,h⟩:=iH p t _ _ _ _ _ _ h;rw[y];have fin:∀{st:Ss},den d (wC P X st.df (KU P fn.ntmps st.tm fn.results.toList λj=>match j with | [v]=> .done v|j=> .done (.tuple j.toArray))) st.mem=Z (v,m')->
      (match qu P X d st.df st.mem with |none=>Y|some m'=>match ni P fn.ntmps fn.results.toList st.tm m' with |some v=>Z (v,m')|none=>Y)=Z (v,m'):=by
     intro st h;obtain⟨B,x,h⟩:=xo h;obtain⟨j,w,h⟩:=xG h;rw[x];simp only[ni,w]
     split at h
     .cases h;rfl
     .rename_i l;cases h
      split
      .rename_i a;split at a
       .rename_i u;cases u;exact(l _ rfl).elim
       .rename_i i;cases a;cases i;rfl
       .rename_i i;cases i
      .rename_i a;split at a
       .cases a
       .cases a
       .rename_i i;cases i
    cases e with
    |normal=>exact fin h
    |ret=>exact fin h
    |_=>unfold den at h;cases h
   .cases h
  .cases h
 .cases h
end
inductive rB where
 |mem(f:Mem->Option (ab×Mem))(v:ab)
 |call(f:Nat)(args:List ab)(v:ab)
 |bZ(fv:ab)(args:List ab)(v:ab)
 |iZ(r:Option (Nat×ab))(args:List ab)(v:ab)
 |val(r:Option ab)(v:ab)
 |cond(v:ab)(b:Bool)
 |idx(n:Int)(len:Nat)(i:Nat)
def zx {R:Type}(e:rB)(r:Option (List rB×R)):Option (List rB×R):=match r with |some (l,a)=>Z (e::l,a)|none=>Y
def follow {R:Type}:T R->List rB->Option (List rB×R)
 | .done a,[]=>Z ([],a)
 | .mem f k,.mem _ v::L=>zx (.mem f v) (follow (k v) L)
 | .call f args k,.call _ _ v::L=>zx (.call f args v) (follow (k v) L)
 | .bZ fv args k,.bZ _ _ v::L=>zx (.bZ fv args v) (follow (k v) L)
 | .iZ r args k,.iZ _ _ v::L=>zx (.iZ r args v) (follow (k v) L)
 | .val r k,.val _ v::L=>zx (.val r v) (follow (k v) L)
 | .cond v k,.cond _ b::L=>zx (.cond v b) (follow (k b) L)
 | .idx n len k,.idx _ _ i::L=>zx (.idx n len i) (follow (k i) L)
 |_,_=>Y
theorem oO {R:Type}{e:rB}{r:Option (List rB×R)}{L:List rB}{a:R}(h:zx e r=Z (L,a)):∃l,L=e::l/\r=Z (l,a):=by
 unfold zx at h
 split at h
 .cases h;exact⟨_,rfl,rfl⟩
 .cases h
inductive MU (cl:cH):Mem->List rB->Mem->Prop
 |nil {m:Mem}:MU cl m [] m
 |mem {m m1 m':Mem}{f:Mem->Option (ab×Mem)} {v:ab}{L:List rB} (h:f m=Z (v,m1)) (k:MU cl m1 L m'):MU cl m (.mem f v::L) m'
 |call {m m1 m':Mem}{f:Nat}{args:List ab}{v:ab}{L:List rB} (h:cl f args m=Z (v,m1)) (k:MU cl m1 L m'):MU cl m (.call f args v::L) m'
 |bZ {m m1 m':Mem}{f:Nat}{first cap:Array ab}{args:List ab}{v:ab}{L:List rB} (h:cl f (first.toList++args++cap.toList) m=Z (v,m1)) (k:MU cl m1 L m'):MU cl m (.bZ (.func (.func f) first cap) args v::L) m'
 |iZ {m m1 m':Mem}{f:Nat}{recv:ab}{args:List ab}{v:ab}{L:List rB} (h:cl f (recv::args) m=Z (v,m1)) (k:MU cl m1 L m'):MU cl m (.iZ (Z (f,recv)) args v::L) m'
 |val {m m':Mem}{r:Option ab}{v:ab}{L:List rB} (h:r=Z v) (k:MU cl m L m'):MU cl m (.val r v::L) m'
 |cond {m m':Mem}{v:ab}{b:Bool}{L:List rB} (h:v=.bool b) (k:MU cl m L m'):MU cl m (.cond v b::L) m'
 |idx {m m':Mem}{n:Int}{len i:Nat}{L:List rB} (h:n=(i:Int)) (hl:i<len) (k:MU cl m L m'):MU cl m (.idx n len i::L) m'
theorem EP {R:Type}{s:cH}:∀{t:T R}{o L:List rB}{a:R}{m m':Mem},follow t o=Z (L,a)->MU s m L m'->den s t m=Z (a,m'):=by
 intro t o
 induction o generalizing t with
 |nil=>
  intro L a m m' h j;cases t with
  |done a=>cases h;cases j;rfl
  |_=>unfold follow at h;cases h
 |cons e o p=>
  intro L a m m' h j;cases t with
  |done a=>unfold follow at h;cases h
  |fail=>unfold follow at h;cases h
  |mem f k=>
   cases e with
   |mem q v=>obtain⟨l,rfl,g⟩:=oO h;cases j with |mem d c=>unfold den;rw[d];exact p g c
   |_=>cases h
  |call f args k=>
   cases e with
   |call q u v=>obtain⟨l,rfl,g⟩:=oO h;cases j with |call d c=>unfold den;rw[d];exact p g c
   |_=>cases h
  |bZ B args k=>
   cases e with
   |bZ q u v=>obtain⟨l,rfl,g⟩:=oO h;cases j with |bZ d c=>unfold den;simp only[d];exact p g c
   |_=>cases h
  |iZ r args k=>
   cases e with
   |iZ q u v=>obtain⟨l,rfl,g⟩:=oO h;cases j with |iZ d c=>unfold den;simp only[d];exact p g c
   |_=>cases h
  |val r k=>
   cases e with
   |val z v=>obtain⟨l,rfl,g⟩:=oO h;cases j with |val d c=>unfold den;simp only[d];exact p g c
   |_=>cases h
  |cond v k=>
   cases e with
   |cond y b=>obtain⟨l,rfl,g⟩:=oO h;cases j with |cond d c=>unfold den;simp only[d];exact p g c
   |_=>cases h
  |idx n len k=>
   cases e with
   |idx A x i=>
    obtain⟨l,rfl,g⟩:=oO h;cases j with
    |idx d c w=>
     unfold den;subst d
     show(match Nat.blt i len with |true=>den s (k i) m|false=>Y)=_
     rw[lh,Cb c];exact p g w
   |_=>cases h
set_option maxRecDepth 1000000
open Go Go.Conc Go.Proofs
def fK:Code->Bool
 | .seq a b=>fK a&&fK b
 | .cond _ a b=>fK a&&fK b
 | .block _ a=>fK a
 | .loop a=>fK a
 | .scope _=>O
 |_=>U
theorem j9 {P:aE}{nt:Nat}:∀{n:Nat}{c:Code}{f:F},fK c=U->comp P nt n c=Z f->comp P nt (n+1) c=Z f
 |0,_,_,_,h=>by cases h
 |n+1,c,f,d,h=>by
  cases c with
  |seq a b=>
   unfold fK at d;rw[ag]at d;unfold comp at h⊢;simp only[]at h⊢
   split at h
   .rename_i j e
    split at h
    .rename_i l g;rw[j9 d.1 e,j9 d.2 g];exact h
    .cases h
   .cases h
  |cond x a b=>
   unfold fK at d;rw[ag]at d;unfold comp at h⊢;simp only[]at h⊢
   split at h
   .rename_i k;rw[bh k]
    split at h
    .rename_i j e
     split at h
     .rename_i l g;rw[j9 d.1 e,j9 d.2 g];exact h
     .cases h
    .cases h
   .cases h
  |block i a=>
   unfold fK at d;unfold comp at h⊢;simp only[]at h⊢
   split at h
   .rename_i j e;rw[j9 d e];exact h
   .cases h
  |loop a=>
   unfold fK at d;unfold comp at h⊢;simp only[]at h⊢
   split at h
   .rename_i j e;rw[j9 d e];exact h
   .cases h
  |scope b=>cases d
  |_=>exact h
def ju (f:Nat):Bool:=Nat.beq f 137||Nat.beq f 140||Nat.beq f 14||Nat.beq f 22||Nat.beq f 38||Nat.beq f 73||Nat.beq f 75
structure fE where
 C:Nat->Nat->cH
 step:∀M n f args m,ju f=O->C M (n+1) f args m=(kX ae X0 f).body (C M n) args m
def Ev (K:fE)(f:Nat)(args:List ab)(m:Mem)(v:ab)(m':Mem):Prop:=∃N,∀M n,N<=M->N<=n->K.C M n f args m=Z (v,m')
inductive Ch (K:fE):Mem->List rB->Mem->Prop
 |nil {m:Mem}:Ch K m [] m
 |mem {m m1 m':Mem}{f:Mem->Option (ab×Mem)} {v:ab}{L:List rB} (h:f m=Z (v,m1)) (k:Ch K m1 L m'):Ch K m (.mem f v::L) m'
 |call {m m1 m':Mem}{f:Nat}{args:List ab}{v:ab}{L:List rB} (h:Ev K f args m v m1) (k:Ch K m1 L m'):Ch K m (.call f args v::L) m'
 |bZ {m m1 m':Mem}{f:Nat}{first cap:Array ab}{args:List ab}{v:ab}{L:List rB} (h:Ev K f (first.toList++args++cap.toList) m v m1) (k:Ch K m1 L m'):Ch K m (.bZ (.func (.func f) first cap) args v::L) m'
 |iZ {m m1 m':Mem}{r:Option (Nat×ab)} {f:Nat}{recv:ab}{args:List ab}{v:ab}{L:List rB} (hr:r=Z (f,recv)) (h:Ev K f (recv::args) m v m1) (k:Ch K m1 L m'):Ch K m (.iZ r args v::L) m'
 |val {m m':Mem}{r:Option ab}{v:ab}{L:List rB} (h:r=Z v) (k:Ch K m L m'):Ch K m (.val r v::L) m'
 |cond {m m':Mem}{v:ab}{b:Bool}{L:List rB} (h:v=.bool b) (k:Ch K m L m'):Ch K m (.cond v b::L) m'
 |idx {m m':Mem}{n:Int}{len i:Nat}{L:List rB} (h:n=(i:Int)) (hl:i<len) (k:Ch K m L m'):Ch K m (.idx n len i::L) m'
theorem Ch.chN{K:fE}{m m':Mem}{L:List rB}(h:Ch K m L m'):∃N,∀M n,N<=M->N<=n->MU (K.C M n) m L m':=by
 induction h with
 |nil=>exact⟨0,λ_ _ _ _=> .nil⟩
 |mem h _ c=>obtain⟨N,c⟩:=c;exact⟨N,λM n a b=> .mem h (c M n a b)⟩
 |call h _ c=>
  obtain⟨N,c⟩:=c;obtain⟨d,h⟩:=h;exact⟨N+d,λM n a b=> .call (h M n ai ai) (c M n ai ai)⟩
 |bZ h _ c=>
  obtain⟨N,c⟩:=c;obtain⟨d,h⟩:=h;exact⟨N+d,λM n a b=> .bZ (h M n ai ai) (c M n ai ai)⟩
 |iZ e h _ c=>
  subst e;obtain⟨N,c⟩:=c;obtain⟨d,h⟩:=h;exact⟨N+d,λM n a b=> .iZ (h M n ai ai) (c M n ai ai)⟩
 |val h _ c=>obtain⟨N,c⟩:=c;exact⟨N,λM n a b=> .val h (c M n a b)⟩
 |cond h _ c=>obtain⟨N,c⟩:=c;exact⟨N,λM n a b=> .cond h (c M n a b)⟩
 |idx h f _ c=>obtain⟨N,c⟩:=c;exact⟨N,λM n a b=> .idx h f (c M n a b)⟩
noncomputable def xY(f:Nat):Bool:=match ae.funcs[f]? with
 |some fn=>match fn.body with
  |some c=>Nat.ble fn.ntmps 512&&(comp ae fn.ntmps 1000 c).isSome
  |none=>O
 |none=>O
def Path (f:Nat)(args:List ab)(L:List rB)(v:ab):Prop:=xY f=U/\follow (acY ae X0 f args) L=Z (L,v)
theorem bg {K:fE}{f:Nat}{args:List ab}{L:List rB}{v:ab}{m m':Mem}(p:Path f args L v)(h:Ch K m L m')(g:ju f=O:=by rfl):Ev K f args m v m':=by
 obtain⟨d,e⟩:=p;obtain⟨N,h⟩:=h.chN;refine⟨N+1,λM n a b=>?_⟩;obtain⟨n,rfl⟩:∃k,n=k+1:=⟨n-1,ai⟩;rw[K.step M n f args m g];unfold xY at d
 split at d
 .rename_i l j
  split at d
  .rename_i c i;rw[ag]at d;exact OW j i d.1 d.2 (EP e (h M n ai ai))
  .cases d
 .cases d
def xr (K:fE)(nt:Nat)(c:Code)(st:Ss)(e:Exit)(kz:Ss):Prop:=∃N,∀M n,N<=M->N<=n->∃f,comp ae nt 1000 c=Z f/\f (K.C M n) st=Z (e,kz)
def bj (is:List Nat)(tm:Tm):List ab:=is.map λi=>di i tm
theorem xr.block{K:fE}{nt id:Nat}{a:Code}{st jf:Ss}{e e':Exit}(c:xr K nt a st e jf)(i:(match e with | .exit j=>if Nat.beq j id then Exit.normal else .exit j|e=>e)=e')(h:fK a=U)(g:(comp ae nt 1000 (.block id a)).isSome=U):xr K nt (.block id a) st e' jf:=by
 obtain⟨N,c⟩:=c;refine⟨N,λM n x y=>?_⟩;obtain⟨o,k,m⟩:=c M n ai ai;obtain⟨f,b⟩:=sH.1 g;refine⟨f,b,?_⟩;unfold comp at b;simp only[]at b
 split at b
 .rename_i l d;cases b;have :=(j9 h d).symm.trans k;cases this;subst i;unfold JN;rw[m];cases e with
  |exit j=>simp only[];split<;>rfl
  |_=>rfl
 .cases b
def uT (K:fE)(nt:Nat)(a:Code)(k:Nat)(st:Ss)(e:Exit)(kz:Ss):Prop:=∃N,∀M n,N<=M->N<=n->∃f,comp ae nt 1000 a=Z f/\y8 f (K.C M n) k st=Z (e,kz)
theorem uT.next{K:fE}{nt k:Nat}{a:Code}{st jf d:Ss}{e:Exit}(c:xr K nt a st .normal jf)(b:uT K nt a k jf e d):uT K nt a (k+1) st e d:=by
 obtain⟨N,c⟩:=c;obtain⟨l,b⟩:=b;refine⟨N+l,λM n x y=>?_⟩;obtain⟨h,f,j⟩:=c M n ai ai;obtain⟨m,g,i⟩:=b M n ai ai;have :=f.symm.trans g;cases this;exact⟨h,f,by unfold y8;rw[j];exact i⟩
theorem uT.out{K:fE}{nt k:Nat}{a:Code}{st jf:Ss}{e:Exit}(b:xr K nt a st e jf)(c:e≠ .normal):uT K nt a (k+1) st e jf:=by
 obtain⟨N,b⟩:=b;refine⟨N,λM n x y=>?_⟩;obtain⟨f,d,g⟩:=b M n ai ai;refine⟨f,d,?_⟩;unfold y8;rw[g];cases e<;>first |rfl|exact absurd rfl c
theorem xr.loop{K:fE}{nt:Nat}{a:Code}{st jf:Ss}{e:Exit}(c:uT K nt a 100000000000000 st e jf)(h:fK a=U)(g:(comp ae nt 1000 (.loop a)).isSome=U):xr K nt (.loop a) st e jf:=by
 obtain⟨N,c⟩:=c;refine⟨N,λM n x y=>?_⟩;obtain⟨l,i,k⟩:=c M n ai ai;obtain⟨f,b⟩:=sH.1 g;refine⟨f,b,?_⟩;unfold comp at b;simp only[]at b
 split at b
 .rename_i j d;cases b;have :=(j9 h d).symm.trans i;cases this;exact k
 .cases b
noncomputable def fp(f:Nat):Nat:=match ae.funcs[f]? with |some fn=>fn.ntmps|none=>0
theorem Q1 {K:fE}{f:Nat}{args:List ab}{m m':Mem}{tm s:Tm}{e:Exit}{v:ab}(d:xY f=U)(o:(if Nat.ble args.length (fp f)then FX args else Y)=Z tm)(h:xr K (fp f) (bX f) ⟨tm,m,[]⟩ e ⟨s,m',[]⟩)(u:e=.normal\/e=.ret)
  (p:ni ae (fp f) (rsT f) s m'=Z v)(t:ju f=O:=by rfl):Ev K f args m v m':=by
 obtain⟨N,h⟩:=h;refine⟨N+1,λM n a b=>?_⟩;obtain⟨n,rfl⟩:∃k,n=k+1:=⟨n-1,ai⟩;rw[K.step M n f args m t];obtain⟨g,q,w⟩:=h M n ai ai;unfold xY at d
 split at d
 .rename_i r i
  split at d
  .rename_i c l;rw[ag]at d;have j:fp f=r.ntmps:=by unfold fp;rw[i]
   have y:bX f=c:=by unfold bX;rw[i];simp only[dw,l]
   have x:rsT f=r.results.toList:=by unfold rsT;rw[i]
   rw[j,y]at q;rw[j]at o;rw[j,x]at p;unfold kX;simp only[i,l,d.1,if_true,q];unfold zH;rw[o];simp only[w];rcases u with rfl|rfl<;>simp only[Q6,qu,p]
  .cases d
 .cases d
theorem N8.IC{α:Type}(n:N8 α)(i:Nat):n.put i (n.get i)=n:=by
 obtain⟨a,b,c,d,e,f,g,h⟩:=n
 match i with
 |0|1|2|3|4|5|6|_+7=>rfl
theorem RJ {i:Nat}{v:ab}{tm:Tm}(h:di i tm=v):u5 i v tm=tm:=by
 subst h;unfold u5 di;rw[N8.IC,N8.IC,N8.IC]
abbrev I (n:Int):ab:=.int .i64 n
abbrev vP (b o:Nat):ab:=.pointer (Z ⟨b,o,Y⟩)
abbrev vL (b o l c:Nat):ab:=.slice (Z ⟨b,o,Y⟩) l c
abbrev bU (i j:Int):Int:=J9 Y4 Int.add .i64 i j
abbrev cf (i j:Int):Int:=J9 xC Int.sub .i64 i j
abbrev ly (i j:Int):Int:=J9 noQ Int.mul .i64 i j
abbrev fX (P:aE)(t:aT)(a:ab)(m:Mem):Bool:=(kY P t a m).isSome
structure Kp (m m':Mem)(S:Nat->Prop):Prop where
 next:m.next<=m'.next
 bI:m'.bI=m.bI
 opn:m'.opn=m.opn
 base:m'.base=m.base
 home:m'.home=m.home
 floor:m'.floor=m.floor
 wg:m'.wg=m.wg
 pend:m'.pend=m.pend
 deaf:m'.deaf=m.deaf
 blk:∀b,b<m.next->¬S b->m'.blk b=m.blk b
def eK:Nat->Prop:=λ_=>False
section
variable {m m1 m':Mem}{S S':Nat->Prop}
theorem Kp.refl(m:Mem)(S:Nat->Prop):Kp m m S:=⟨aj _,rfl,rfl,rfl,rfl,rfl,rfl,rfl,rfl,λ_ _ _=>rfl⟩
theorem Kp.mono(h:Kp m m' S)(k:∀b,b<m.next->S b->S' b):Kp m m' S':={h with blk:=λb a c=>h.blk b a λx=>c (k b a x)}
theorem Kp.trans(h:Kp m m1 S)(k:Kp m1 m' S')(d:∀b,b<m.next->S' b->S b):Kp m m' S:=
 ⟨bV h.next k.next,k.bI.trans h.bI,k.opn.trans h.opn,k.base.trans h.base,k.home.trans h.home,k.floor.trans h.floor,k.wg.trans h.wg,k.pend.trans h.pend,k.deaf.trans h.deaf,
  λb a c=>(k.blk b (aZ a h.next) λx=>c (d b a x)).trans (h.blk b a c)⟩
theorem Kp.aX(h:Kp m m1 S)(k:Kp m1 m' eK):Kp m m' S:=h.trans k λ_ _ h=>h.elim
theorem Kp.sC(h:Kp m m' eK):Kp m m' S:=h.mono λ_ _ h=>h.elim
theorem Kp.new{N:Nat}(h:Kp m m1 S)(k:Kp m1 m' S')(d:m.next<=N)(c:∀b,S' b->N<=b):Kp m m' S:=h.trans k λb e a=>absurd (c b a) ai
structure Gd (m:Mem):Prop where
 pend:m.pend=[]
 deaf:m.deaf=0
 bf:m.base<=m.floor
 fn:m.floor<=m.next
 hn:m.home<=m.next
 bI:∀s∈m.bI,s.2.1<=m.next
theorem Gd.ext(h:Gd m)(k:Kp m m' S):Gd m':=
 ⟨k.pend.trans h.pend,k.deaf.trans h.deaf,by rw[k.base,k.floor];exact h.bf,by rw[k.floor];exact bV h.fn k.next,by rw[k.home];exact bV h.hn k.next,λs a=>by rw[k.bI]at a;exact bV (h.bI s a) k.next⟩
theorem Gd.fresh(h:Gd m){b:Nat}(c:m.next<=b):aP m.bI b=O:=iC λx a _ d=>by have :=h.bI x a;omega
abbrev Own (m:Mem)(b:Nat):Prop:=m.fL b=U
theorem Own.ext{b:Nat}(h:Own m b)(k:Kp m m' S):Own m' b:=by unfold Own Mem.fL at h⊢;rw[k.bI,k.base,k.floor,k.opn];exact h
theorem Gd.own(h:Gd m)(k:Kp m m' S){b:Nat}(a:m.next<=b):Own m' b:=by
 have c:=h.fresh a;unfold Own Mem.fL;rw[k.bI,k.base,k.floor,c];have :=h.bf;have :=h.fn;simp only[Bool.not_false,Bool.true_and,ag,Bool.or_eq_true,iU];exact⟨ai,.inl ai⟩
theorem Own.may{b:Nat}(h:Own m b)(o n:Nat):m.dh b o n=U:=by
 unfold Own Mem.fL at h;unfold Mem.dh;simp only[ag,Bool.or_eq_true,iU,Bool.not_eq_true']at h⊢;exact⟨⟨gV h.1.1 o n,h.1.2⟩,h.2.elim (λx=> .inl (.inl x)) λx=> .inl (.inr x)⟩
structure Obj (m:Mem)(b sz:Nat)(cs:List ab):Prop where
 lt:b<m.next
 kind:(m.blk b).kind=1
 sz:(m.blk b).sz=sz
 cs:(m.blk b).cs=cs.map Z
 Dh:aP m.bI b=O
theorem Obj.ext{b sz:Nat}{cs:List ab}(h:Obj m b sz cs)(k:Kp m m' S)(a:¬S b):Obj m' b sz cs:=by
 have e:=k.blk b h.lt a;exact⟨aZ h.lt k.next,by rw[e];exact h.kind,by rw[e];exact h.sz,by rw[e];exact h.cs,by rw[k.bI];exact h.Dh⟩
theorem Obj.a9{b sz:Nat}{cs:List ab}(h:Obj m b sz cs)(k:Kp m m' eK):Obj m' b sz cs:=h.ext k id
theorem Obj.same{b sz c:Nat}{cs a:List ab}(h:Obj m b sz cs)(k:Obj m b c a):cs=a:=by
 have :=h.cs.symm.trans k.cs;exact List.map_inj_right (λ_ _=>Option.some.inj)|>.1 this
theorem lI:∀{cs:List ab}{n:Nat},n<=cs.length->gG (cs.map Z) n=Z (cs.take n)
 |_,0,_=>by simp[gG]
 | [],n+1,h=>by simp at h
 |v::cs,n+1,h=>by simp only[List.map_cons,gG,lI (cs:=cs) (n:=n) (by simpa using h),dk,List.take_succ_cons]
theorem jP {b sz o n:Nat}{cs vs:List ab}(h:Obj m b sz cs)(a:(cs.drop o).take n=vs)(c:o+n<=cs.length):m.dP b o n=Z vs:=by
 unfold Mem.dP;simp only[h.kind,gV h.Dh o n,h.cs,beq_self_eq_true,Bool.not_false,Bool.and_self,if_true];rw[<-List.map_drop,lI (by simp;omega),a]
theorem cL {b sz o n:Nat}{cs vs:List ab}(h:Obj m b sz cs)(a:(cs.drop o).take n=vs)(c:o+n<=cs.length):fN n b o m=Z (.agg vs.toArray,m):=by
 unfold fN;rw[jP h a c]
theorem aO {b sz o:Nat}{cs:List ab}{v:ab}(h:Obj m b sz cs)(e:cs[o]?=Z v):aI b o m=Z (v,m):=by
 unfold aI;have a:=h.kind;have d:=h.cs;cases hb:m.blk b with
 |mk kind z c es clock str pos j=>
  rw[hb]at a d;simp only at a d;subst a d;simp only[EF,gV h.Dh o 1,Bool.not_false,zu];have :(cs.map Z).drop o=Z v::(cs.drop (o+1)).map Z:=by
   rw[<-List.map_drop];have g:cs.drop o=v::cs.drop (o+1):=by
    obtain⟨i,f⟩:=List.getElem?_eq_some_iff.1 e;rw[<-f];exact List.drop_eq_getElem_cons i
   rw[g];rfl
  rw[this]
def vd (cs:List ab)(o:Nat):List ab->List ab
 | []=>cs
 |v::vs=>vd (cs.set o v) (o+1) vs
theorem mZ:∀(vs:List ab) (x:ab) (cs:List ab) (o:Nat),vd (x::cs) (o+1) vs=x::vd cs o vs
 | [],_,_,_=>rfl
 |v::vs,x,cs,o=>by unfold vd;simp only[List.set_cons_succ];exact mZ vs x (cs.set o v) (o+1)
theorem ny:∀{cs:List ab}{o:Nat}{vs:List ab},o+vs.length<=cs.length->eU (cs.map Z) o vs=Z ((vd cs o vs).map Z)
 |cs,o,[],_=>by cases cs<;>cases o<;>rfl
 | [],o,v::vs,h=>by simp at h
 |c::cs,0,v::vs,h=>by
  simp only[List.map_cons,eU];rw[ny (cs:=cs) (o:=0) (vs:=vs) (by simp at h;omega)]
  show Z (Z v::(vd cs 0 vs).map Z)=Z ((vd (v::cs) 1 vs).map Z)
  rw[mZ];rfl
 |c::cs,o+1,v::vs,h=>by
  simp only[List.map_cons,eU];rw[ny (cs:=cs) (o:=o) (vs:=v::vs) (by simp at h⊢;omega),mZ];rfl
theorem rj {b:Nat}{k:eh}:Kp m (m.bB b k) (λx=>x=b):=⟨aj _,rfl,rfl,rfl,rfl,rfl,rfl,rfl,rfl,λx _ a=>by rw[Mem.eP,bH (λe=>a e.symm)]⟩
theorem jW {b sz o:Nat}{cs:List ab}(vs:List ab)(h:Obj m b sz cs)(a:m.dh b o vs.length=U)(d:o+vs.length<=cs.length)(c:vs.all (·.oneCell')=U):
  ∃m',Im b o vs m=Z (undef,m')/\Obj m' b sz (vd cs o vs)/\Kp m m' (λx=>x=b):=by
 have e:m.dW b o vs=Z (m.bB b {m.blk b with cs:=(vd cs o vs).map Z}):=by
  unfold Mem.dW;simp only[h.kind,a,c,h.cs,beq_self_eq_true,Bool.and_self,if_true,ny d,dk]
 refine⟨m.bB b {m.blk b with cs:=(vd cs o vs).map Z},by unfold Im;rw[e],⟨h.lt,?_,?_,?_,h.Dh⟩,rj⟩
 .rw[Mem.eP,bh rfl];exact h.kind
 .rw[Mem.eP,bh rfl];exact h.sz
 .rw[Mem.eP,bh rfl]
theorem G1:∀{o:Nat}{cs:List ab}{v:ab},o<cs.length->∃l,xF o (cs.map Z) v=Z l:=by
 intro o
 induction o using Nat.strongRecOn with
 |ind o a=>
  intro cs v h;rcases o with _|_|_|_|_|_|_|_|o<;>rcases cs with _|⟨j,_|⟨i,_|⟨g,_|⟨f,_|⟨e,_|⟨d,_|⟨c6,_|⟨c,t⟩⟩⟩⟩⟩⟩⟩⟩<;>
   first
   |exact⟨_,rfl⟩
   |(exfalso;simp only[List.length_cons,List.length_nil]at h;omega)
   |(obtain⟨l,b⟩:=a o ai (cs:=t) (v:=v) (by simp only[List.length_cons]at h;omega)
     exact⟨_,by simp only[List.map_cons,xF,b];rfl⟩)
theorem Qm {b o:Nat}(h:m.dh b o 1=U):SD m b o=U:=by
 unfold SD
 split
 .exact Nat.ble_eq_true_of_le (Mem.lM h)
 .exact h
theorem gj {b sz o:Nat}{cs:List ab}(v:ab)(h:Obj m b sz cs)(k:m.dh b o 1=U)(n:o<cs.length)(p:nT v=U:=by rfl):
  ∃m',du b o v m=Z (undef,m')/\Obj m' b sz (cs.set o v)/\Kp m m' (λx=>x=b):=by
 obtain⟨l,i⟩:=G1 (v:=v) n;have g:=CC _ _ _ _ i;rw[ny (cs:=cs) (o:=o) (vs:=[v]) (by simp;omega)]at g;obtain rfl:=Option.some.inj g;have d:=h.kind;have f:=h.cs;have a:=h.sz;unfold du;cases hb:m.blk b with
 |mk kind z c es clock str pos q=>
  rw[hb]at d f a;simp only at d f a;subst d f a;simp only[p,Qm k,i];refine⟨_,rfl,⟨h.lt,?_,?_,?_,h.Dh⟩,⟨aj _,rfl,rfl,rfl,rfl,rfl,rfl,rfl,rfl,λx _ j=>?_⟩⟩
  .show((m.heap.put b _).get b).kind=1
   rw[jE.get_put,bh rfl]
  .show((m.heap.put b _).get b).sz=_
   rw[jE.get_put,bh rfl]
  .show((m.heap.put b _).get b).cs=_
   rw[jE.get_put,bh rfl];rfl
  .show(m.heap.put b _).get x=m.blk x
   rw[jE.get_put,bH (λe=>j e.symm)];rfl
theorem iy (h:Gd m){k:eh}{cs:List ab}{sz:Nat}(b:k.kind=1)(a:k.sz=sz)(c:k.cs=cs.map Z):Obj (m.alloc k) m.next sz cs/\Kp m (m.alloc k) eK/\(m.alloc k).next=m.next+1:=by
 refine⟨⟨Nat.lt_succ_self _,?_,?_,?_,h.fresh (aj _)⟩,⟨Nat.le_succ _,rfl,rfl,rfl,rfl,rfl,rfl,rfl,rfl,λx d _=>?_⟩,rfl⟩
 .rw[Mem.cC,bh rfl];exact b
 .rw[Mem.cC,bh rfl];exact a
 .rw[Mem.cC,bh rfl];exact c
 .rw[Mem.cC,bH ai]
theorem bz (h:Gd m)(cs:List ab):∃m',oT (cs.map Z) m=Z (vP m.next 0,m')/\Obj m' m.next 0 cs/\Kp m m' eK/\m'.next=m.next+1/\(m'.blk m.next).pos=1:=by
 obtain⟨c,b,a⟩:=iy (m:=m) h (k:=⟨1,0,cs.map Z,#[],0,.empty,1,0⟩) rfl rfl rfl;exact⟨m.alloc ⟨1,0,cs.map Z,#[],0,.empty,1,0⟩,rfl,c,b,a,by rw[Mem.cC,bh rfl]⟩
theorem aJ (h:Gd m):Bo m=Z (undef,m):=by unfold Bo;rw[h.pend]
theorem fM (b o:Nat):iW (vP b o) m=Z (I ((m.blk b).bq:Int),m):=rfl
theorem Fe {v:ab}{b s:Nat}{lk:Mem->Bool}(a:oS v=Z b)(c:(m.blk b).bq=s)(d:lk m=U):dH (I s) v lk m=Z (undef,m):=by
 unfold dH jX;rw[a,d];subst c
 show(match Nat.beq (m.blk b).bq (m.blk b).bq&&U with |true=>_|false=>_)=_
 rw[show Nat.beq (m.blk b).bq (m.blk b).bq=U from Nat.beq_refl _];rfl
end
theorem aM.{u}{α:Sort u}{a b:α}(h:a=b:=by kernel_rfl):a=b:=h
def Yu:List Nat:=[1,2,3,4,5,9,10,21,22,25,28,29,47,54,55,66,67,72,74,84,89,93,97,98,99,100,101,104,120,131,147,150,155,156,157,158,159,162,173,174,223,258,259,301,302,322,346,347,371,376,395,396,439,440]
theorem Yt:(Yu.all λt=>zK ae t==Z O)=U:=aM
theorem amY {t:Nat}(h:Yu.contains t=U):zK ae t=Z O:=by
 have :=aB.1 Yt t (by simpa using h);simpa using this
theorem AK {m:Mem}{b o sz s t:Nat}{cs:List ab}{v:ab}(h:Obj m b sz cs)(a:cs[o]?=Z v)(d:(m.blk b).bq=s)(c:Yu.contains t=U:=by rfl):dH (I s) (vP b o) (fX ae t (vP b o)) m=Z (undef,m):=by
 refine Fe rfl d ?_;unfold fX kY;simp only[amY c];obtain⟨f,e⟩:=List.getElem?_eq_some_iff.1 a;have :m.dP b o 1=Z [v]:=jP h (by rw[List.drop_eq_getElem_cons f];simp[e]) ai;rw[this];rfl
theorem aqX {m:Mem}{b o sz s t n:Nat}{cs vs:List ab}(h:Obj m b sz cs)(c:(cs.drop o).take n=vs)(f:o+n<=cs.length)(d:zK ae t=Z U)(a:eS ae t=Z n)(e:(m.blk b).bq=s):dH (I s) (vP b o) (fX ae t (vP b o)) m=Z (undef,m):=by
 refine Fe rfl e ?_;unfold fX kY;simp only[d,a,dw,jP h c f];rfl
theorem ahO {m:Mem}{v:ab}{b s:Nat}(a:oS v=Z b)(d:m.floor<=b)(c:(m.blk b).bq=s):dH (I s) v (oJ v) m=Z (undef,m):=by
 refine Fe a c ?_;unfold oJ;rw[a];exact Nat.ble_eq_true_of_le d
section
variable {P:aE}
theorem ig {α b:Type}{x:Sem α}{f:α->Sem b}:(x>>=f).aQ P=(x.aQ P).bind λa=>(f a).aQ P:=by
 show(x.bind f).aQ P=_
 induction x with
 |pure a=>rfl
 |program k c=>exact c P
 |_=>rfl
theorem qi {α:Type}(a:α):(pure a:Sem α).aQ P=Z a:=rfl
theorem DN:(program:Sem aE).aQ P=Z P:=rfl
theorem DO (d:Nat)(t:aT)(k c:bY)(a b:Int)(h:P.underlying t=Z (.int c)):(Op.equalIn (d+1) t (.int k a) (.int k b)).aQ P=Z (a==b):=by
 simp only[Op.equalIn,ig,fU h,dw,if_true,qi]
theorem Cj (d:Nat)(t:aT)(a b:Bool)(h:P.underlying t=Z .bool):(Op.equalIn (d+1) t (.bool a) (.bool b)).aQ P=Z (a==b):=by
 simp only[Op.equalIn,ig,fU h,dw,qi]
theorem yT (d:Nat)(t:aT)(a b:ByteArray)(h:P.underlying t=Z .string):(Op.equalIn (d+1) t (.string a) (.string b)).aQ P=Z (a==b):=by
 simp only[Op.equalIn,ig,fU h,dw,qi]
theorem VV {α:Type}{c:Prop}[Decidable c]{x y:Sem α}:(if c then x else y).aQ P=if c then x.aQ P else y.aQ P:=by split<;>rfl
theorem yS (d:Nat)(t:aT)(xs c:Array ab)(g:P.underlying t=Z (.struct (P.fieldsOf t)))(i:P.stoodInHeld t=O):
  (Op.equalIn (d+1) t (.agg xs) (.agg c)).aQ P=(Op.eqFields d xs c (P.fieldsOf t).toList).aQ P:=by
 simp only[Op.equalIn,ig,fU g,dw,DN,i,cK,if_false];rw[<-Array.forIn_toList];generalize(P.fieldsOf t).toList=h;clear g
 induction h with
 |nil=>simp[Op.eqFields,qi]
 |cons f h e=>
  simp only[List.forIn_cons,Op.eqFields,ig,VV]
  split
  .cases(part f.type xs f.offset).aQ P with
   |none=>rfl
   |some a=>
    simp only[dw];cases(part f.type c f.offset).aQ P with
    |none=>rfl
    |some b=>
     simp only[dw];cases(Op.equalIn d f.type a b).aQ P with
     |none=>rfl
     |some r=>
      cases r
      .simp only[dw,Bool.not_false,if_true,qi]
      .simp only[dw,Bool.not_true,cK,if_false,qi];exact e
  .simp only[qi,dw];exact e
theorem DQ (op:BinOp)(t:aT)(x y:cd)(xs a:Array ab)(hm:P.eqGuardType P.depth t=O):(eqGuard op t x y (.agg xs) (.agg a)).aQ P=Z ():=by
 cases op<;>simp[eqGuard,ig,DN,hm,qi]
end
structure V where
 k:Int
 n:Int
 s:ByteArray
 b:Bool
def V.beq(x y:V):Bool:=x.k==y.k&&(x.n==y.n&&(x.s==y.s&&x.b==y.b))
def V.cells(v:V):List ab:=[I v.k,I v.n,.string v.s,.bool v.b]
abbrev V.val(v:V):ab:=.agg #[I v.k,I v.n,.string v.s,.bool v.b]
theorem aiP:ae.underlying 49=Z (.struct (ae.fieldsOf 49)):=aM
theorem Z0:ae.stoodInHeld 49=O:=aM
theorem an2:ae.underlying 3=Z (.int .i64):=aM
theorem an1:ae.underlying 4=Z .bool:=aM
theorem ZO:ae.underlying 9=Z .string:=aM
theorem Yv (k1 b:Int)(s1:ByteArray)(e:Bool)(c a:Int)(s2:ByteArray)(d:Bool):
  (ae.fieldsOf 49).toList.map (λf=>((f.name != "_":Bool),f.type,(part f.type #[I k1,I b,.string s1,.bool e] f.offset).aQ ae,(part f.type #[I c,I a,.string s2,.bool d] f.offset).aQ ae))=
  [(U,3,Z (I k1),Z (I c)),(U,3,Z (I b),Z (I a)),(U,9,Z (.string s1),Z (.string s2)),(U,4,Z (.bool e),Z (.bool d))]:=aM
theorem Bn {d:Nat}{xs e:Array ab}:∀{fs:List Field}{l:List (Bool×Nat×Option ab×Option ab)},
  fs.map (λf=>((f.name != "_":Bool),f.type,(part f.type xs f.offset).aQ ae,(part f.type e f.offset).aQ ae))=l->
  (Op.eqFields d xs e fs).aQ ae=l.foldr (λx r=>if x.1 then x.2.2.1.bind λa=>x.2.2.2.bind λb=>((Op.equalIn d x.2.1 a b).aQ ae).bind λc=>if c then r else Z O else r) (Z U)
 | [],l,h=>by subst h;rfl
 |f::fs,l,h=>by
  subst h;simp only[List.map_cons,List.foldr_cons];rw[<-Bn (fs:=fs) rfl]
  conv=>lhs;unfold Op.eqFields
  by_cases g:f.name= "_"
  .simp only[g,bne_self_eq_false,ne_eq,not_true_eq_false,if_false,cK]
  .have :(f.name != "_")=U:=by simpa using g
   simp only[g,this,ne_eq,not_false_eq_true,if_true,ig,VV,qi];cases(part f.type xs f.offset).aQ ae with
   |none=>rfl
   |some a=>
    cases(part f.type e f.offset).aQ ae with
    |none=>rfl
    |some b=>
     simp only[dw];cases(Op.equalIn d f.type a b).aQ ae with
     |none=>rfl
     |some c=>cases c<;>rfl
theorem aqN (x y:V):(Op.equalIn 10000 49 x.val y.val).aQ ae=Z (x.beq y):=by
 rw[show(10000:Nat)=9999+1 from rfl,yS 9999 49 _ _ aiP Z0,Bn (Yv x.k x.n x.s x.b y.k y.n y.s y.b)];simp only[List.foldr_cons,List.foldr_nil,if_true,dw,show(9999:Nat)=9998+1 from rfl,DO 9998 3 _ _ _ _ an2,yT 9998 9 _ _ ZO,Cj 9998 4 _ _ an1];unfold V.beq;cases x.k==y.k<;>cases x.n==y.n<;>cases x.s==y.s<;>cases x.b==y.b<;>rfl
theorem acW:ae.eqGuardType ae.depth 49=O:=aM
theorem vh {P:aE}{l:List ab}{s:Sem ab}{v:ab}(c:l.all plain=U)(b:s.aQ P=Z v)(a:plain v=U):pu P l s=Z v:=by
 unfold pu;simp only[c,b,a]
theorem am0 (c a:Bool)(x y:V):j5 ae .eql 49 c a x.val y.val=Z (.bool (x.beq y)):=by
 refine vh rfl ?_ rfl;rw[ig,DQ _ _ _ _ _ _ acW]
 show(Sem.aQ ae (Op.equal 49 x.val y.val>>=λb=>(pure (ab.bool b):Sem ab)))=_
 rw[ig]
 show Option.bind ((Op.equalIn 10000 49 x.val y.val).aQ ae) _=_
 rw[aqN];rfl
theorem agt (d c:Bool)(a b:ByteArray):j5 ae .lss 9 d c (.string a) (.string b)=Z (.bool (Op.bytesLess a.toList b.toList)):=by
 refine vh rfl ?_ rfl;rw[ig];rfl
theorem amT (d c:Bool)(a b:ByteArray):j5 ae .gtr 9 d c (.string a) (.string b)=Z (.bool (!(Op.bytesLess a.toList b.toList||a.toList==b.toList))):=by
 refine vh rfl ?_ rfl;rw[ig];rfl
theorem JP {q:Int->Int->Option Nat}{f:Int->Int->Int}{a:bY}{i j:Int}(b:∀n,q i j=Z n->f i j=n):J9 q f a i j=a.wrap (f i j):=by
 unfold J9
 split
 .rename_i n c
  split
  .rename_i d;rw[b n c,tM d];rfl
  .rfl
 .rfl
theorem TG (i j:Int):bU i j=bY.i64.wrap (i+j):=JP λn h=>by
 unfold Y4 at h
 split at h
 .cases h;rfl
 .cases h
theorem RQ (i j:Int):cf i j=bY.i64.wrap (i-j):=JP λn h=>by
 unfold xC at h
 split at h
 .split at h
  .rename_i a b c;cases h;have :=af c
   show((a:Int)-(b:Int))=((a-b:Nat):Int)
   omega
  .cases h
 .cases h
theorem Sy (i j:Int):ly i j=bY.i64.wrap (i*j):=JP λn h=>by cases h
theorem qy {i j:Int}(h:Eu (i+j)):bU i j=i+j:=(TG i j).trans (rK h)
theorem yK {i j:Int}(h:Eu (i-j)):cf i j=i-j:=(RQ i j).trans (rK h)
theorem IT {i j:Int}(h:Eu (i*j)):ly i j=i*j:=(Sy i j).trans (rK h)
theorem agD (i j:Int):gu i j=decide (i<=j):=by unfold gu;rw[fW,Bool.eq_iff_iff];simp
theorem OU (i j:Int):ji i j=decide (j<i):=fW j i
theorem Js (i j:Int):th i j=decide (j<=i):=by unfold th;rw[fW,Bool.eq_iff_iff];simp
theorem xK (i j:Int):xL i j=decide (i≠j):=by unfold xL;rw[my,Bool.eq_iff_iff];simp
@[reducible]def nQ (v:V):ab:=.agg #[I v.k,I v.n,.string v.s,.bool v.b]
@[reducible]def zsV (v:V):List (Option ab):=[Z (I v.k),Z (I v.n),Z (.string v.s),Z (.bool v.b)]
@[reducible]def MW (v:V):List ab:=[I v.k,I v.n,.string v.s,.bool v.b]
@[reducible]def MV:List (Option ab):=[Z (I 0),Z (I 0),Z (.string .empty),Z (.bool O)]
def oX (m:Mem)(v:ab)(sz n:Nat)(cs:List ab):Prop:=
 cs.length=n*sz/\((v=.slice Y 0 0/\n=0)\/∃b c,v=vL b 0 n c/\Obj m b sz cs/\(c=dp\/c=n))
def anL (S:Nat->Prop)(v:ab):Prop:=∀b o n c,v=vL b o n c->¬S b
theorem oX.ext{m m':Mem}{S:Nat->Prop}{v:ab}{sz n:Nat}{cs:List ab}(h:oX m v sz n cs)(k:Kp m m' S)(a:anL S v):oX m' v sz n cs:=by
 refine⟨h.1,h.2.imp id λ⟨b,c,e,o,x⟩=>⟨b,c,e,o.ext k (a b 0 n c e),x⟩⟩
theorem oX.a9{m m':Mem}{v:ab}{sz n:Nat}{cs:List ab}(h:oX m v sz n cs)(k:Kp m m' eK):oX m' v sz n cs:=h.ext k λ_ _ _ _ _=>id
theorem oX.nil{m:Mem}{sz:Nat}:oX m (.slice Y 0 0) sz 0 []:=⟨dA,.inl ⟨rfl,rfl⟩⟩
def uA:List (Nat×Nat):=[(104,4),(131,1),(150,1),(155,6),(156,2),(159,1),(162,4),(22,1),(223,6),(28,1),(29,1),(302,2),(395,1),(72,1),(89,2),(93,1),(97,6),(98,2),(99,3),(47,4),(120,1),(301,1)]
noncomputable def aia(p:Nat×Nat):Bool:=match ae.underlying p.1 with
 |some (.slice e)=>(eS ae e==Z p.2)&&Nat.blt 0 p.2&&(match ae.info? e with |some i=>decide (0<i.bytes)&&decide (i.bytes<=if p.1=22 then 8 else 1024)&&(iT ae e).isSome|none=>O)
 |_=>O
theorem Rl:(uA.all aia)=U:=aM
theorem vO {t sz:Nat}(h:uA.contains (t,sz)=U):∃e,ae.underlying t=Z (.slice e)/\eS ae e=Z sz/\0<sz/\∀need,need<=2^30\/t=22/\need<=2^44->AB ae e need=U:=by
 have :=aB.1 Rl (t,sz) (by simpa using h);unfold aia at this
 split at this
 .rename_i e f;rw[ag,ag]at this;obtain⟨⟨g,j⟩,a⟩:=this;refine⟨e,f,by simpa using g,by simpa[Nat.blt_eq]using j,λneed k=>?_⟩
  split at a
  .rename_i i d;simp only[ag,iU]at a;unfold AB;rw[d];simp only[ag,iU];refine⟨⟨⟨a.1.1,?_⟩,ai⟩,a.2⟩
   by_cases c:t=22
   .have b:i.bytes<=8:=by have :=a.1.2;rwa[bh c]at this
    calc need*i.bytes<=2^44*8:=Nat.mul_le_mul ai b
     _<=2^47:=eJ
   .have b:i.bytes<=1024:=by have :=a.1.2;rwa[bH c]at this
    calc need*i.bytes<=2^30*1024:=Nat.mul_le_mul ai b
     _<=2^47:=eJ
  .cases a
 .cases this
theorem qD {m:Mem}{v:ab}{sz n:Nat}{cs:List ab}(h:oX m v sz n cs):mr m sz n v=Z cs:=by
 rcases h with⟨a,⟨rfl,rfl⟩|⟨b,c,rfl,d,_⟩⟩
 .have :cs=[]:=by rw[Nat.zero_mul]at a;exact List.length_eq_zero_iff.1 a
  subst this;rfl
 .show m.dP b 0 (n*sz)=Z cs
  exact jP d (by simp[<-a]) ai
theorem oX.Xj{m:Mem}{v:ab}{sz n:Nat}{cs:List ab}(h:oX m v sz n cs):Gh v=Z n:=by
 rcases h with⟨d,⟨rfl,rfl⟩|⟨b,c,rfl,a,_⟩⟩<;>rfl
theorem Rk {m:Mem}(g:Gd m){t sz n:Nat}{x:ab}{new:List ab}(h:uA.contains (t,sz)=U)(b:oX m x sz n new)(q:∀y∈new,y.oneCell'=U)(s:n≠0)(u:n<=2^30):
  ∃a,cJ ae #[t,t] (.slice Y 0 0) x m=Z (vL m.next 0 n dp,a)/\Obj a m.next sz new/\Kp m a eK/\a.next=m.next+1:=by
 obtain⟨e,p,o,v,l⟩:=vO h;have j:=qD b;have i:=b.Xj;have hlen:new.length=n*sz:=b.1;have c:(new.all (·.oneCell'))=U:=aB.2 q;have r:mr m sz 0 (.slice Y 0 0)=Z []:=rfl;obtain⟨k1,f,d⟩:=iy g (k:={kind:=1,sz:=sz,cs:=new.map Z}) (cs:=new) rfl rfl rfl;refine⟨_,?_,k1,f,d⟩;unfold cJ;simp only[show(#[t,t]:Array aT)[0]?=Z t from rfl,show(#[t,t]:Array aT)[1]?=Z t from rfl,dw,p,o,i,j];rw[bH (by rw[l _ ai,hlen,c];simp),bH eJ,bH ai];simp only[r,List.length_nil,Nat.zero_mul,if_true,List.nil_append,Nat.zero_add]
theorem adx {m:Mem}(g:Gd m){t sz n b len:Nat}{x:ab}{old new rest:List ab}(p:uA.contains (t,sz)=U)(c:Obj m b sz (old++rest))(A:old.length=len*sz)(o:Own m b)(d:oX m x sz n new)
  (w:∀y∈new,y.oneCell'=U)(B:len+n<=2^30\/t=22/\len+n<=2^44):
  ∃a,cJ ae #[t,t] (vL b 0 len dp) x m=Z (vL m.next 0 (len+n) dp,a)/\Obj a m.next sz (old++new)/\Kp m a (λy=>y=b)/\a.next=m.next+1:=by
 obtain⟨e,v,u,C,s⟩:=vO p;have r:=qD d;have q:=d.Xj;have hlen:new.length=n*sz:=d.1;have i:(new.all (·.oneCell'))=U:=aB.2 w;have f:gG (((old++rest).map Z).drop 0) (len*sz)=Z old:=by
  rw[List.drop_zero,lI (by simp;omega),<-A];simp
 have z:Gd (m.bB b {}):=g.ext rj;obtain⟨k1,l,j⟩:=iy z (k:={kind:=1,sz:=sz,cs:=(old++new).map Z}) (cs:=old++new) rfl rfl rfl;refine⟨_,?_,k1,Kp.aX rj l,j⟩;unfold cJ;simp only[show(#[t,t]:Array aT)[0]?=Z t from rfl,show(#[t,t]:Array aT)[1]?=Z t from rfl,dw,v,u,q,r];rw[bH (by rw[s _ ai,hlen,i];simp),bh trivial];have h:(((m.blk b).cs.drop 0).all (·.isSome))=U:=by rw[c.cs];simp
 simp only[c.kind,c.sz,c.cs]at h⊢;rw[bh (by rw[h,show m.fL b=U from o];simp)];simp only[f]
theorem Obj.sl{m:Mem}{b sz n:Nat}{cs:List ab}(h:Obj m b sz cs)(a:cs.length=n*sz){c:Nat}(d:c=dp\/c=n):oX m (vL b 0 n c) sz n cs:=⟨a,.inr ⟨b,c,rfl,h,d⟩⟩
theorem jV {m:Mem}(g:Gd m)(z vs:List ab)(r:z.length=vs.length)(t:vs.all (·.oneCell')=U):
  ∃d c,oT (z.map Z) m=Z (vP m.next 0,d)/\Im m.next 0 vs d=Z (undef,c)/\Obj c m.next 0 vs/\Kp m c eK/\c.next=m.next+1:=by
 obtain⟨d,u,n,k1,w,_⟩:=bz g z;have q:=g.own k1 (aj _);obtain⟨c,h,k,l⟩:=jW (o:=0) vs n (q.may _ _) ai t;have :vd z 0 vs=vs:=by
  have j:∀(vs z:List ab),z.length=vs.length->vd z 0 vs=vs:=by
   intro vs
   induction vs with
   |nil=>intro z i;exact List.length_eq_zero_iff.1 i
   |cons v vs p=>
    intro z i;cases z with
    |nil=>simp at i
    |cons a z=>
     show vd ((a::z).set 0 v) 1 vs=_
     rw[List.set_cons_zero,mZ,p z (by simpa using i)]
  exact j vs z r
 rw[this]at k;refine⟨d,c,u,h,k,k1.new l (aj _) λb s=>by rw[s];exact aj _,?_⟩;have :=l.next;have e:c.next=d.next:=by
  unfold Im at h
  split at h
  .rename_i x f;cases h;unfold Mem.dW at f;simp only[]at f
   split at f
   .obtain⟨y,_,rfl⟩:=aD.1 f;rfl
   .cases f
  .cases h
 omega
def dq:Code->List Code
 | .seq a b=>dq a++dq b
 |c=>[c]
def qk:Code->List Nat->Code
 |c,[]=>c
 |c,i::l=>match(dq c)[i]? with
  |some (.block _ (.loop b))=>qk b l
  |some (.block _ b)=>qk b l
  |some (.cond _ a b)=>match l with
   |0::l'=>qk a l'
   |_::l'=>qk b l'
   | []=>c
  |_=>c
noncomputable def qO(nt:Nat):List Code->Option F
 | []=>Z yO
 |c::l=>match comp ae nt 1000 c with
  |some a=>match qO nt l with
   |some b=>Z (qg a b)
   |none=>Y
  |none=>Y
def xq (K:fE)(nt:Nat)(l:List Code)(st:Ss)(e:Exit)(kz:Ss):Prop:=∃N,∀M n,N<=M->N<=n->∃g,qO nt l=Z g/\g (K.C M n) st=Z (e,kz)
section
variable {K:fE}{nt:Nat}
theorem NM {a b c:F}{d:cH}{st:Ss}:qg (qg a b) c d st=qg a (qg b c) d st:=by
 unfold qg;cases a d st with
 |none=>rfl
 |some x=>obtain⟨e,jf⟩:=x;cases e<;>rfl
theorem G2 {a:F}{b:cH}{st:Ss}:qg a yO b st=a b st:=by
 unfold qg yO;cases a b st with
 |none=>rfl
 |some x=>obtain⟨e,jf⟩:=x;cases e<;>rfl
theorem NL {a b b':F}{c:cH}{st:Ss}(h:∀st,b c st=b' c st):qg a b c st=qg a b' c st:=by
 unfold qg;cases a c st with
 |none=>rfl
 |some x=>obtain⟨e,jf⟩:=x;cases e<;>first |rfl|exact h _
theorem rP:∀{l i:List Code}{a b:F},qO nt l=Z a->qO nt i=Z b->∃g,qO nt (l++i)=Z g/\∀j st,g j st=qg a b j st
 | [],i,a,b,d,hb=>by cases d;exact⟨b,hb,λj st=>rfl⟩
 |c::l,i,a,b,d,hb=>by
  unfold qO at d
  split at d
  .rename_i f n
   split at d
   .rename_i h k;cases d;obtain⟨g,m,e⟩:=rP k hb;refine⟨qg f g,?_,λj st=>?_⟩
    .show qO nt (c::(l++i))=_
     unfold qO;rw[n,m]
    .rw[NM];exact NL λst=>e j st
   .cases d
  .cases d
theorem xq.append{l d:List Code}{st jf c:Ss}{e:Exit}(h:xq K nt l st .normal jf)(k:xq K nt d jf e c):xq K nt (l++d) st e c:=by
 obtain⟨N,h⟩:=h;obtain⟨q,k⟩:=k;refine⟨N+q,λM n x y=>?_⟩;obtain⟨a,j,p⟩:=h M n ai ai;obtain⟨b,i,o⟩:=k M n ai ai;obtain⟨g,f,m⟩:=rP j i;exact⟨g,f,by rw[m];unfold qg;rw[p];exact o⟩
theorem xq.first{l c:List Code}{st jf:Ss}{e:Exit}(h:xq K nt l st e jf)(i:e≠ .normal)(d:(qO nt c).isSome=U):xq K nt (l++c) st e jf:=by
 obtain⟨N,h⟩:=h;obtain⟨b,j⟩:=sH.1 d;refine⟨N,λM n x y=>?_⟩;obtain⟨a,k,o⟩:=h M n ai ai;obtain⟨g,f,m⟩:=rP k j;refine⟨g,f,?_⟩;rw[m];unfold qg;rw[o];cases e<;>first |rfl|exact absurd rfl i
theorem xq.single{c:Code}{st jf:Ss}{e:Exit}(h:xr K nt c st e jf):xq K nt [c] st e jf:=by
 obtain⟨N,h⟩:=h;refine⟨N,λM n x y=>?_⟩;obtain⟨a,b,d⟩:=h M n x y;exact⟨qg a yO,by unfold qO qO;rw[b],by rw[G2];exact d⟩
theorem Tn {a b:Code}(d:fK (.seq a b)=U){f:F}(c:comp ae nt 1000 (.seq a b)=Z f):∃g e,comp ae nt 1000 a=Z g/\comp ae nt 1000 b=Z e/\f=qg g e:=by
 unfold fK at d;rw[ag]at d;unfold comp at c;simp only[]at c
 split at c
 .rename_i g i
  split at c
  .rename_i e h;exact⟨g,e,j9 d.1 i,j9 d.2 h,(Option.some.inj c).symm⟩
  .cases c
 .cases c
theorem ac0:∀{c:Code}{f:F},fK c=U->comp ae nt 1000 c=Z f->∃g,qO nt (dq c)=Z g/\∀d st,g d st=f d st:=by
 intro c;have one:∀{c:Code}{f:F},dq c=[c]->comp ae nt 1000 c=Z f->∃g,qO nt (dq c)=Z g/\∀d st,g d st=f d st:=λe h=>
  ⟨_,by rw[e];unfold qO qO;rw[h],λd st=>G2⟩
 induction c with
 |seq a b k j=>
  intro f i m;obtain⟨q,y,p,o,rfl⟩:=Tn i m;unfold fK at i;rw[ag]at i;obtain⟨w,l,t⟩:=k i.1 p;obtain⟨v,u,s⟩:=j i.2 o;obtain⟨g,n,e⟩:=rP l u;refine⟨g,n,λd st=>?_⟩;rw[e];unfold qg;rw[t];cases q d st with
  |none=>rfl
  |some x=>obtain⟨r,jf⟩:=x;cases r<;>first |rfl|exact s _ _
 |_=>intro f _ m;exact one rfl m
theorem xq.code{c:Code}{st jf:Ss}{e:Exit}(j:fK c=U)(i:(comp ae nt 1000 c).isSome=U)(h:xq K nt (dq c) st e jf):xr K nt c st e jf:=by
 obtain⟨N,h⟩:=h;obtain⟨f,b⟩:=sH.1 i;obtain⟨g,k,l⟩:=ac0 j b;refine⟨N,λM n x y=>⟨f,b,?_⟩⟩;obtain⟨m,d,a⟩:=h M n x y;rw[k]at d;cases d;rw[<-l];exact a
noncomputable def aae(nt:Nat):List Code->Option (CT (Exit×Tm×Df))
 | []=>Z λK=>K .normal
 |c::l=>match qf ae nt 1000 c with
  |some a=>match aae nt l with
   |some b=>Z (aiU a b)
   |none=>Y
  |none=>Y
noncomputable def UU(nt:Nat)(l:List Code)(tm:Tm):T (Exit×Tm×Df):=match aae nt l with
 |some g=>g (λe tm df=> .done (e,tm,df)) tm []
 |none=> .fail
def vE (c:Code)(i j:Nat):List Code:=((dq c).take j).drop i
def ais (nt:Nat)(c:Code)(i j:Nat)(tm:Tm)(L:List rB)(e:Exit)(is:List Nat)(vs:List ab):Prop:=
 (qO nt (vE c i j)).isSome=U/\(follow (UU nt (vE c i j) tm) L).map (λx=>(x.1,x.2.1,x.2.2.2,bj is x.2.2.1))=Z (L,e,[],vs)
theorem DI:∀{l:List Code}{f:F}{g:CT (Exit×Tm×Df)},qO nt l=Z f->aae nt l=Z g->Y8 f g
 | [],f,g,b,a=>by cases b;cases a;exact λq K j df m r h=>⟨_,_,rfl,h⟩
 |c::l,f,g,b,a=>by
  unfold qO at b;unfold aae at a
  split at b
  .rename_i w o
   split at b
   .rename_i v n
    split at a
    .rename_i u d
     split at a
     .rename_i t s;cases b;cases a;intro q K j df m r h;obtain⟨e,st,i,h⟩:=iH o d _ _ _ _ _ _ h;cases e with
      |normal=>
       obtain⟨e,k,p,h⟩:=DI n s _ _ _ _ _ _ h;exact⟨e,k,by unfold qg;rw[i];exact p,h⟩
      |_=>exact⟨_,_,by unfold qg;rw[i],h⟩
     .cases a
    .cases a
   .cases b
  .cases b
theorem afj {c:Code}{i j:Nat}{tm:Tm}{L:List rB}{e:Exit}{is:List Nat}{vs:List ab}{m m':Mem}(p:ais nt c i j tm L e is vs)(h:Ch K m L m'):∃k,xq K nt (vE c i j) ⟨tm,m,[]⟩ e ⟨k,m',[]⟩/\bj is k=vs:=by
 obtain⟨s,r⟩:=p;obtain⟨N,h⟩:=h.chN;obtain⟨x,t,q⟩:=aD.1 r;obtain⟨B,A,k,w⟩:=x;simp only[ay]at q;obtain⟨rfl,rfl,rfl,l⟩:=q;refine⟨k,⟨N,λM n a b=>?_⟩,l⟩;obtain⟨f,o⟩:=sH.1 s;refine⟨f,o,?_⟩;have d:=EP t (h M n a b);unfold UU at d
 split at d
 .rename_i g l;obtain⟨z,⟨v,y,d2⟩,u,d⟩:=DI o l _ _ _ _ _ _ d;cases d;exact u
 .cases d
def aC (K:fE)(nt:Nat)(c:Code)(i:Nat)(st:Ss)(e:Exit)(kz:Ss):Prop:=xq K nt ((dq c).drop i) st e kz
theorem aC.cut{c:Code}{i j:Nat}{st jf a:Ss}{e:Exit}(h:xq K nt (vE c i j) st .normal jf)(k:aC K nt c j jf e a)(d:i<=j:=by decide):aC K nt c i st e a:=by
 have b:(dq c).drop i=vE c i j++(dq c).drop j:=by
  unfold vE;rw[List.drop_take];have :(dq c).drop j=((dq c).drop i).drop (j-i):=by rw[List.drop_drop];congr 1;omega
  rw[this,List.take_append_drop]
 unfold aC;rw[b];exact h.append k
theorem aC.last{c:Code}{i j:Nat}{st jf:Ss}{e:Exit}(h:xq K nt (vE c i j) st e jf)(a:(dq c).length<=j):aC K nt c i st e jf:=by
 unfold aC;unfold vE at h;rwa[List.take_of_length_le a]at h
theorem aC.whole{c:Code}{st jf:Ss}{e:Exit}(h:aC K nt c 0 st e jf)(b:fK c=U)(a:(comp ae nt 1000 c).isSome=U):xr K nt c st e jf:=xq.code b a h
def jY (c:Code)(i:Nat):Option (Nat×Code):=match(dq c)[i]? with |some (.block id (.loop b))=>Z (id,b)|_=>Y
theorem aC.loop{c b:Code}{i id:Nat}{st jf l:Ss}{e e':Exit}(a:jY c i=Z (id,b))(h:uT K nt b 100000000000000 st e' jf)(q:e'=.exit id)(g:fK b=U)(m:(comp ae nt 1000 (.block id (.loop b))).isSome=U)(k:aC K nt c (i+1) jf e l):aC K nt c i st e l:=by
 unfold jY at a
 split at a
 .rename_i o v p;cases a;subst q;obtain⟨s,n⟩:=List.getElem?_eq_some_iff.1 p;have r:(dq c).drop i=[.block id (.loop b)]++(dq c).drop (i+1):=by rw[List.drop_eq_getElem_cons s,n];rfl
  have j:(comp ae nt 1000 (.loop b)).isSome=U:=by
   obtain⟨f,d⟩:=sH.1 m;unfold comp at d;simp only[]at d
   split at d
   .rename_i u t;rw[j9 (c:=.loop b) g t];rfl
   .cases d
  unfold aC;rw[r];exact(xq.single (xr.block (e':=.normal) (xr.loop h g j) dA g m)).append k
 .cases a
theorem aC.WL{c b:Code}{i id:Nat}{st jf:Ss}(a:jY c i=Z (id,b))(h:uT K nt b 100000000000000 st .ret jf)(e:fK b=U)(j:(comp ae nt 1000 (.block id (.loop b))).isSome=U)(m:(qO nt ((dq c).drop (i+1))).isSome=U):aC K nt c i st .ret jf:=by
 unfold jY at a
 split at a
 .rename_i l s n;cases a;obtain⟨p,k⟩:=List.getElem?_eq_some_iff.1 n;have o:(dq c).drop i=[.block id (.loop b)]++(dq c).drop (i+1):=by rw[List.drop_eq_getElem_cons p,k];rfl
  have g:(comp ae nt 1000 (.loop b)).isSome=U:=by
   obtain⟨f,d⟩:=sH.1 j;unfold comp at d;simp only[]at d
   split at d
   .rename_i r q;rw[j9 (c:=.loop b) e q];rfl
   .cases d
  unfold aC;rw[o];exact(xq.single (xr.block (e':=.ret) (xr.loop h e g) rfl e j)).first iq m
 .cases a
def jD (c:Code)(i:Nat):Option (Nat×Code):=match(dq c)[i]? with |some (.block id b)=>Z (id,b)|_=>Y
theorem aC.block{c b:Code}{i id:Nat}{st jf d:Ss}{e e':Exit}(a:jD c i=Z (id,b))(h:aC K nt b 0 st e' jf)(n:e'=.normal\/e'=.exit id)(f:fK b=U)(o:(comp ae nt 1000 b).isSome=U)(l:(comp ae nt 1000 (.block id b)).isSome=U)(k:aC K nt c (i+1) jf e d):aC K nt c i st e d:=by
 unfold jD at a
 split at a
 .rename_i j r m;cases a;obtain⟨q,g⟩:=List.getElem?_eq_some_iff.1 m;have p:(dq c).drop i=[.block id b]++(dq c).drop (i+1):=by rw[List.drop_eq_getElem_cons q,g];rfl
  unfold aC;rw[p];exact(xq.single (xr.block (e':=.normal) (aC.whole h f o) (by rcases n with rfl|rfl<;>simp) f l)).append k
 .cases a
theorem aC.TB{c b:Code}{i id:Nat}{st jf:Ss}(a:jD c i=Z (id,b))(h:aC K nt b 0 st .ret jf)(d:fK b=U)(l:(comp ae nt 1000 b).isSome=U)(g:(comp ae nt 1000 (.block id b)).isSome=U)(j:(qO nt ((dq c).drop (i+1))).isSome=U):aC K nt c i st .ret jf:=by
 unfold jD at a
 split at a
 .rename_i f o k;cases a;obtain⟨n,e⟩:=List.getElem?_eq_some_iff.1 k;have m:(dq c).drop i=[.block id b]++(dq c).drop (i+1):=by rw[List.drop_eq_getElem_cons n,e];rfl
  unfold aC;rw[m];exact(xq.single (xr.block (e':=.ret) (aC.whole h d l) rfl d g)).first iq j
 .cases a
theorem xr.cond{x:cd}{a b:Code}{v:Bool}{st jf:Ss}{e:Exit}(k:dG st.tm x=.bool v)(h:xr K nt (match v with |true=>a|false=>b) st e jf)(d:fK (.cond x a b)=U)(l:(comp ae nt 1000 (.cond x a b)).isSome=U):xr K nt (.cond x a b) st e jf:=by
 obtain⟨N,h⟩:=h;obtain⟨f,c⟩:=sH.1 l;refine⟨N,λM n y z=>⟨f,c,?_⟩⟩;obtain⟨g,i,j⟩:=h M n y z;unfold fK at d;rw[ag]at d;unfold comp at c;simp only[]at c
 split at c
 .split at c
  .rename_i q o
   split at c
   .rename_i p m;have c:=aK c;cases c;unfold Ra;simp only[k];cases v with
    |true=>have :=(j9 d.1 o).symm.trans i;cases this;exact j
    |false=>have :=(j9 d.2 m).symm.trans i;cases this;exact j
   .cases c
  .cases c
 .cases c
def E9 (c:Code)(i:Nat):Option (cd×Code×Code):=match(dq c)[i]? with |some (.cond x a b)=>Z (x,a,b)|_=>Y
theorem aC.cond{c a b:Code}{x:cd}{i:Nat}{v:Bool}{st jf f:Ss}{e:Exit}(d:E9 c i=Z (x,a,b))(j:dG st.tm x=.bool v)(h:xr K nt (match v with |true=>a|false=>b) st .normal jf)(m:fK (.cond x a b)=U)(l:(comp ae nt 1000 (.cond x a b)).isSome=U)(k:aC K nt c (i+1) jf e f):aC K nt c i st e f:=by
 unfold E9 at d
 split at d
 .rename_i n;cases d;obtain⟨p,g⟩:=List.getElem?_eq_some_iff.1 n;have o:(dq c).drop i=[.cond x a b]++(dq c).drop (i+1):=by rw[List.drop_eq_getElem_cons p,g];rfl
  unfold aC;rw[o];exact(xq.single (xr.cond j h m l)).append k
 .cases d
end
def VU:List Nat->List ab->Tm->Tm
 |i::is,v::vs,tm=>u5 i v (VU is vs tm)
 |_,_,tm=>tm
theorem G4:∀{is:List Nat}{vs:List ab}{tm:Tm},bj is tm=vs->VU is vs tm=tm
 | [],_,tm,_=>rfl
 |i::is,[],tm,h=>rfl
 |i::is,v::vs,tm,h=>by
  unfold bj at h;simp only[List.map_cons,List.cons.injEq]at h;unfold VU;rw[G4 (is:=is) (vs:=vs) h.2,RJ h.1]
def vR (nt:Nat)(c:Code)(i j:Nat)(Zp:List Nat)(Zh:List ab)(L:List rB)(e:Exit)(is:List Nat)(vs:List ab):Prop:=∀g:Tm,ais nt c i j (VU Zp Zh g) L e is vs
noncomputable abbrev cj (f:Nat)(p:List Nat):Code:=qk (bX f) p
abbrev aY (f:Nat)(p:List Nat):=vR (fp f) (cj f p)
abbrev cV (f:Nat):=vR (fp f) (bX f)
section
variable {K:fE}{nt:Nat}
theorem aU {c:Code}{i j:Nat}{b is:List Nat}{d vs:List ab}{L:List rB}{e:Exit}{tm:Tm}{m m':Mem}(p:vR nt c i j b d L e is vs)(f:bj b tm=d)(h:Ch K m L m'):∃a,xq K nt (vE c i j) ⟨tm,m,[]⟩ e ⟨a,m',[]⟩/\bj is a=vs:=by
 have :=p tm;rw[G4 f]at this;exact afj this h
noncomputable def codeOk(nt:Nat)(c:Code):Bool:=fK c&&(comp ae nt 1000 c).isSome&&Nat.ble (dq c).length 99
abbrev jz (f:Nat)(p:List Nat):Prop:=codeOk (fp f) (qk (bX f) p)=U
theorem fB {c:Code}(h:codeOk nt c=U):fK c=U/\(comp ae nt 1000 c).isSome=U/\(dq c).length<=99:=by
 unfold codeOk at h;rw[ag,ag]at h;exact⟨h.1.1,h.1.2,af h.2⟩
theorem aC.code{c:Code}{st a:Ss}{e:Exit}(h:aC K nt c 0 st e a)(b:codeOk nt c=U):xr K nt c st e a:=h.whole (fB b).1 (fB b).2.1
theorem aL {c:Code}{d is:List Nat}{f vs:List ab}{L:List rB}{e:Exit}{tm:Tm}{m m':Mem}(b:codeOk nt c=U)(p:vR nt c 0 99 d f L e is vs)(j:bj d tm=f)(h:Ch K m L m'):∃a,xr K nt c ⟨tm,m,[]⟩ e ⟨a,m',[]⟩/\bj is a=vs:=by
 obtain⟨a,i,g⟩:=aU p j h;exact⟨a,(aC.last i (fB b).2.2).code b,g⟩
theorem j7 {a:Code}{Inv:Nat->Tm->Mem->Prop}{dm:Exit->Tm->Mem->Prop}
  (i:∀n tm m,Inv n tm m->(∃d c b,d<n/\xr K nt a ⟨tm,m,[]⟩ .normal ⟨c,b,[]⟩/\Inv d c b)\/∃e c b,e≠ .normal/\xr K nt a ⟨tm,m,[]⟩ e ⟨c,b,[]⟩/\dm e c b):
  ∀{n k:Nat}{tm:Tm}{m:Mem},Inv n tm m->n<k->∃e c b,e≠ .normal/\uT K nt a k ⟨tm,m,[]⟩ e ⟨c,b,[]⟩/\dm e c b:=by
 intro n
 induction n using Nat.strongRecOn with
 |ind n o=>
  intro k tm m r u;obtain⟨k,rfl⟩:∃j,k=j+1:=⟨k-1,ai⟩;rcases i n tm m r with⟨d,c,b,p,g,t⟩|⟨e,c,b,f,g,h⟩
  .obtain⟨e,s,l,f,q,h⟩:=o d p (k:=k) t ai;exact⟨e,s,l,f,uT.next g q,h⟩
  .exact⟨e,c,b,f,uT.out g f,h⟩
noncomputable def mm(nt:Nat)(c b:Code)(i id:Nat):Bool:=(match jY c i with |some (j,_)=>Nat.beq j id|none=>O)&&codeOk nt b&&(comp ae nt 1000 (.block id (.loop b))).isSome
theorem aC.Bz{c:Code}{i:Nat}{id:Nat}{st jf d:Ss}{e e':Exit}{b:Code}(f:jY c i=Z (id,b))(a:mm nt c b i id=U)(h:uT K nt b 100000000000000 st e' jf)(g:e'=.exit id)(k:aC K nt c (i+1) jf e d):aC K nt c i st e d:=by
 unfold mm at a;rw[ag,ag]at a;exact aC.loop f h g (fB a.1.2).1 a.2 k
theorem aC.By{c:Code}{i:Nat}{id:Nat}{st jf:Ss}{b:Code}(e:jY c i=Z (id,b))(a:mm nt c b i id=U)(h:uT K nt b 100000000000000 st .ret jf)(d:(qO nt ((dq c).drop (i+1))).isSome=U):aC K nt c i st .ret jf:=by
 unfold mm at a;rw[ag,ag]at a;exact aC.WL e h (fB a.1.2).1 a.2 d
end
def entry (args:List ab):Tm:=match FX args with |some t=>t|none=>mX
noncomputable def PT(nt:Nat):List ResultVar->List Nat->Bool
 | [],[]=>U
 | .tmp t::l,i::is=>Nat.beq t i&&Nat.blt t nt&&PT nt l is
 |_,_=>O
noncomputable def jJ(f n:Nat)(is:List Nat):Bool:=xY f&&codeOk (fp f) (bX f)&&PT (fp f) (rsT f) is&&Nat.ble n (fp f)&&Nat.ble n 16
def ai3:List ab->ab
 | [v]=>v
 |vs=> .tuple vs.toArray
theorem PU {nt:Nat}{tm:Tm}{m:Mem}:∀{a:List ResultVar}{is:List Nat},PT nt a is=U->wL ae nt m tm a=Z (bj is tm)
 | [],[],_=>rfl
 | .tmp t::l,i::is,h=>by
  unfold PT at h;rw[ag,ag]at h;have :=aA h.1.1;subst this;unfold wL;rw[bh h.1.2,PU h.2];rfl
 | [],_::_,h=>by cases h
 | .tmp _::_,[],h=>by cases h
 | .cell _ _::_,_,h=>by cases h
theorem GP:∀{l:List ab},l.length<=16->∃t,FX l=Z t:=by
 intro l h;have :TS (TS l)=[]:=by
  have e:∀l:List ab,lu l=l.drop 1:=λl=>by cases l<;>rfl
  have a:∀l:List ab,TS l=l.drop 8:=λl=>by unfold TS;simp only[e,List.drop_drop]
  rw[a,a,List.drop_drop];exact List.drop_of_length_le ai
 unfold FX;rw[this];exact⟨_,rfl⟩
theorem dE {K:fE}{f:Nat}{args:List ab}{m m':Mem}{d:Tm}{e:Exit}{is:List Nat}{vs:List ab}(b:jJ f args.length is=U)(h:aC K (fp f) (bX f) 0 ⟨entry args,m,[]⟩ e ⟨d,m',[]⟩)(j:e=.normal\/e=.ret)(i:bj is d=vs)(g:ju f=O:=by rfl):Ev K f args m (ai3 vs) m':=by
 unfold jJ at b;simp only[ag]at b;obtain⟨⟨⟨⟨q,p⟩,o⟩,n⟩,k⟩:=b;obtain⟨t,c⟩:=GP (l:=args) (af k);have a:entry args=t:=by unfold entry;rw[c]
 rw[a]at h;refine Q1 q (tm:=t) (by rw[bh n,c]) (h.code p) j ?_ g;unfold ni;rw[PU o,i];unfold ai3
 match vs with
 | []=>rfl
 | [v]=>rfl
 |v::w::l=>rfl
@[reducible]def bu (x b:Bool):rB:=.cond (.bool x) b
@[reducible]def yp:rB:=.cond (.bool U) U
@[reducible]def jT:rB:=.cond (.bool O) O
@[reducible]def zvE:ab:=.string .empty
@[reducible]def ei:ab:=.slice Y 0 0
@[reducible]noncomputable def fQ:rB:=.mem Bo undef
@[reducible]def kI (s:ByteArray):ab:=.string s
@[reducible]def jF (l:List (Option ab))(b:Nat):rB:=.mem (oT l) (vP b 0)
@[reducible]def rJ (b o:Nat)(l:List ab):rB:=.mem (Im b o l) undef
@[reducible]def vT (n b:Nat)(v:ab):rB:=.mem (fN n b 0) v
@[reducible]noncomputable def TQ (t b:Nat)(v:ab):rB:=.mem (nY ae t (vP b 0)) v
theorem lF {f:Nat}{args:List ab}{L:List rB}{v:ab}(b:xY f=U:=by kernel_rfl)(a:follow (acY ae X0 f args) L=Z (L,v):=by kernel_rfl):Path f args L v:=⟨b,a⟩
theorem cT {nt:Nat}{c:Code}{i j:Nat}{a:List Nat}{b:List ab}{L:List rB}{e:Exit}{is:List Nat}{vs:List ab}(h:∀g:Tm,ais nt c i j (VU a b g) L e is vs:=by exact λ_=>⟨by kernel_rfl,by kernel_rfl⟩):vR nt c i j a b L e is vs:=h
section
variable {K:fE}{m:Mem}
theorem aoV (x:Int):Path 259 [I x]
 []
 (.bool (xL x x)):=lF
theorem aoU (a:ByteArray):Path 260 [kI a]
 []
 (.bool ((a.toList==a.toList)==O)):=lF
theorem alo (x y:Int):Path 216 [I x,I y]
 [.call 259 [I x] (.bool O),
  .call 259 [I y] (.bool O),
  jT,
  jT,
  bu (dx x y) U]
 (I (-1)):=lF
theorem alp (x y:Int):Path 216 [I x,I y]
 [.call 259 [I x] (.bool O),
  .call 259 [I y] (.bool O),
  jT,
  jT,
  bu (dx x y) O,
  bu (ji x y) U]
 (I 1):=lF
theorem alq (x y:Int):Path 216 [I x,I y]
 [.call 259 [I x] (.bool O),
  .call 259 [I y] (.bool O),
  jT,
  jT,
  bu (dx x y) O,
  bu (ji x y) O]
 (I 0):=lF
theorem alk (a b:ByteArray)(c:Bool):Path 217 [kI a,kI b]
 [.call 260 [kI a] (.bool O),
  .call 260 [kI b] (.bool O),
  jT,
  jT,
  .val (j5 ae .lss 9 O O (kI a) (kI b)) (.bool c),
  bu c U]
 (I (-1)):=lF
theorem alm (a b:ByteArray)(d c:Bool):Path 217 [kI a,kI b]
 [.call 260 [kI a] (.bool O),
  .call 260 [kI b] (.bool O),
  jT,
  jT,
  .val (j5 ae .lss 9 O O (kI a) (kI b)) (.bool d),
  bu d O,
  .val (j5 ae .gtr 9 O O (kI a) (kI b)) (.bool c),
  bu c U]
 (I 1):=lF
theorem aln (a b:ByteArray)(d c:Bool):Path 217 [kI a,kI b]
 [.call 260 [kI a] (.bool O),
  .call 260 [kI b] (.bool O),
  jT,
  jT,
  .val (j5 ae .lss 9 O O (kI a) (kI b)) (.bool d),
  bu d O,
  .val (j5 ae .gtr 9 O O (kI a) (kI b)) (.bool c),
  bu c O]
 (I 0):=lF
theorem ali:Path 218 [.bool U]
 [yp]
 (I 1):=lF
theorem alj:Path 218 [.bool O]
 [jT]
 (I 0):=lF
theorem Tv (x:Int):Ev K 259 [I x] m (.bool O) m:=by
 have h:=bg (K:=K) (m:=m) (aoV x) .nil;rwa[xK,yz dA]at h
theorem Tu (a:ByteArray):Ev K 260 [.string a] m (.bool O) m:=by
 have h:=bg (K:=K) (m:=m) (aoU a) .nil;rwa[show((a.toList==a.toList)==O)=O by simp]at h
def pE (x y:Int):Int:=if x<y then -1 else if y<x then 1 else 0
theorem ahY (x y:Int):Ev K 216 [I x,I y] m (I (pE x y)) m:=by
 unfold pE
 split
 .rename_i h;exact bg (alo x y) (.call (Tv x)<|.call (Tv y)<|.cond rfl<|.cond rfl<|.cond (by rw[fW,Cb h]) .nil)
 .rename_i h
  split
  .rename_i a;exact bg (alp x y) (.call (Tv x)<|.call (Tv y)<|.cond rfl<|.cond rfl<|.cond (by rw[fW,yz h])<|.cond (by rw[OU,Cb a]) .nil)
  .rename_i a;exact bg (alq x y) (.call (Tv x)<|.call (Tv y)<|.cond rfl<|.cond rfl<|.cond (by rw[fW,yz h])<|.cond (by rw[OU,yz a]) .nil)
def Fa (a b:ByteArray):Int:=if Op.bytesLess a.toList b.toList then -1 else if Op.bytesLess a.toList b.toList||a.toList==b.toList then 0 else 1
theorem arb (a b:ByteArray):Ev K 217 [.string a,.string b] m (I (Fa a b)) m:=by
 unfold Fa
 split
 .rename_i h;exact bg (alk a b U) (.call (Tu a)<|.call (Tu b)<|.cond rfl<|.cond rfl<|.val (by rw[agt,h])<|.cond rfl .nil)
 .rename_i h;have h:Op.bytesLess a.toList b.toList=O:=by simpa using h
  split
  .rename_i c;exact bg (aln a b O O) (.call (Tu a)<|.call (Tu b)<|.cond rfl<|.cond rfl<|.val (by rw[agt,h])<|.cond rfl<|.val (by rw[amT,c];rfl)<|.cond rfl .nil)
  .rename_i c;have c:(Op.bytesLess a.toList b.toList||a.toList==b.toList)=O:=by simpa using c
   exact bg (alm a b O U) (.call (Tu a)<|.call (Tu b)<|.cond rfl<|.cond rfl<|.val (by rw[agt,h])<|.cond rfl<|.val (by rw[amT,c];rfl)<|.cond rfl .nil)
def w9 (b:Bool):Int:=if b then 1 else 0
theorem anv (b:Bool):Ev K 218 [.bool b] m (I (w9 b)) m:=by
 cases b
 .exact bg alj (.cond rfl .nil)
 .exact bg ali (.cond rfl .nil)
theorem af6 (p:Nat)(a:Int):Path 215 [vL p 0 4 4]
 [yp,
  .idx 0 4 0,
  .mem (aI p 0) (I a),
  bu (xL a 0) U]
 (I a):=lF
theorem af5 (p:Nat)(b a:Int):Path 215 [vL p 0 4 4]
 [yp,
  .idx 0 4 0,
  .mem (aI p 0) (I b),
  bu (xL b 0) O,
  yp,
  .idx 1 4 1,
  .mem (aI p 1) (I a),
  bu (xL a 0) U]
 (I a):=lF
theorem af4 (p:Nat)(c b a:Int):Path 215 [vL p 0 4 4]
 [yp,
  .idx 0 4 0,
  .mem (aI p 0) (I c),
  bu (xL c 0) O,
  yp,
  .idx 1 4 1,
  .mem (aI p 1) (I b),
  bu (xL b 0) O,
  yp,
  .idx 2 4 2,
  .mem (aI p 2) (I a),
  bu (xL a 0) U]
 (I a):=lF
theorem af3 (p:Nat)(d c b a:Int):Path 215 [vL p 0 4 4]
 [yp,
  .idx 0 4 0,
  .mem (aI p 0) (I d),
  bu (xL d 0) O,
  yp,
  .idx 1 4 1,
  .mem (aI p 1) (I c),
  bu (xL c 0) O,
  yp,
  .idx 2 4 2,
  .mem (aI p 2) (I b),
  bu (xL b 0) O,
  yp,
  .idx 3 4 3,
  .mem (aI p 3) (I a),
  bu (xL a 0) U]
 (I a):=lF
theorem af2 (p:Nat)(d c b a:Int):Path 215 [vL p 0 4 4]
 [yp,
  .idx 0 4 0,
  .mem (aI p 0) (I d),
  bu (xL d 0) O,
  yp,
  .idx 1 4 1,
  .mem (aI p 1) (I c),
  bu (xL c 0) O,
  yp,
  .idx 2 4 2,
  .mem (aI p 2) (I b),
  bu (xL b 0) O,
  yp,
  .idx 3 4 3,
  .mem (aI p 3) (I a),
  bu (xL a 0) O,
  jT]
 (I 0):=lF
theorem ao7 (a b:V)(fH c t h g f e d i:Nat)(r q p o m l j:Int):Path 155 [nQ a,nQ b]
 [jF (zsV a) fH,
  jF (zsV b) c,
  .mem (aI fH 0) (I a.k),
  .mem (aI c 0) (I b.k),
  .mem (aI fH 1) (I a.n),
  .mem (iW (vP fH 1)) (I t),
  .mem (aI c 1) (I b.n),
  .mem (iW (vP c 1)) (I h),
  .mem (aI fH 2) (kI a.s),
  .mem (iW (vP fH 2)) (I g),
  .mem (aI c 2) (kI b.s),
  .mem (iW (vP c 2)) (I f),
  .mem (aI fH 3) (.bool a.b),
  .mem (iW (vP fH 3)) (I e),
  .mem (aI c 3) (.bool b.b),
  .mem (iW (vP c 3)) (I d),
  fQ,
  .call 216 [I a.k,I b.k] (I r),
  .mem (dH (I t) (vP fH 1) (fX ae 3 (vP fH 1))) undef,
  .mem (dH (I h) (vP c 1) (fX ae 3 (vP c 1))) undef,
  .mem (dH (I g) (vP fH 2) (fX ae 9 (vP fH 2))) undef,
  .mem (dH (I f) (vP c 2) (fX ae 9 (vP c 2))) undef,
  .mem (dH (I e) (vP fH 3) (fX ae 4 (vP fH 3))) undef,
  .mem (dH (I d) (vP c 3) (fX ae 4 (vP c 3))) undef,
  fQ,
  .call 216 [I a.n,I b.n] (I q),
  .mem (dH (I g) (vP fH 2) (fX ae 9 (vP fH 2))) undef,
  .mem (dH (I f) (vP c 2) (fX ae 9 (vP c 2))) undef,
  .mem (dH (I e) (vP fH 3) (fX ae 4 (vP fH 3))) undef,
  .mem (dH (I d) (vP c 3) (fX ae 4 (vP c 3))) undef,
  fQ,
  .call 217 [kI a.s,kI b.s] (I p),
  .mem (dH (I e) (vP fH 3) (fX ae 4 (vP fH 3))) undef,
  .mem (dH (I d) (vP c 3) (fX ae 4 (vP c 3))) undef,
  fQ,
  .call 218 [.bool a.b] (I o),
  .mem (dH (I d) (vP c 3) (fX ae 4 (vP c 3))) undef,
  fQ,
  .call 218 [.bool b.b] (I m),
  fQ,
  .call 216 [I o,I m] (I l),
  .mem (bW ae 22 4 [(0,(I r)),(1,(I q)),(2,(I p)),(3,(I l))]) (vL i 0 4 4),
  fQ,
  .call 215 [vL i 0 4 4] (I j)]
 (I j):=lF
def Sk:List Int->Int
 | []=>0
 |x::l=>if x≠0 then x else Sk l
theorem arc {b:Nat}{a d g j:Int}{c:Nat}(h:Obj m b 1 [I a,I d,I g,I j]):Ev K 215 [vL b 0 4 4] m (I (Sk [a,d,g,j])) m:=by
 unfold Sk Sk Sk Sk Sk;have t:∀{y:Int},y≠0->ab.bool (xL y 0)=.bool U:=λh=>by rw[xK,Cb h]
 have f:∀{y:Int},¬y≠0->ab.bool (xL y 0)=.bool O:=λh=>by rw[xK,yz h]
 split
 .rename_i e;exact bg (af6 b a) (.cond rfl<|.idx rfl eJ<|.mem (aO h rfl)<|.cond (t e) .nil)
 .rename_i e
  split
  .rename_i i;exact bg (af5 b a d) (.cond rfl<|.idx rfl eJ<|.mem (aO h rfl)<|.cond (f e)<|.cond rfl<|.idx rfl eJ<|.mem (aO h rfl)<|.cond (t i) .nil)
  .rename_i i
   split
   .rename_i k;exact bg (af4 b a d g) (.cond rfl<|.idx rfl eJ<|.mem (aO h rfl)<|.cond (f e)<|.cond rfl<|.idx rfl eJ<|.mem (aO h rfl)<|.cond (f i)<|.cond rfl<|.idx rfl eJ<|.mem (aO h rfl)<|.cond (t k) .nil)
   .rename_i k
    split
    .rename_i l;exact bg (af3 b a d g j) (.cond rfl<|.idx rfl eJ<|.mem (aO h rfl)<|.cond (f e)<|.cond rfl<|.idx rfl eJ<|.mem (aO h rfl)<|.cond (f i)<|.cond rfl<|.idx rfl eJ<|.mem (aO h rfl)<|.cond (f k)<|.cond rfl<|.idx rfl eJ<|.mem (aO h rfl)<|.cond (t l) .nil)
    .rename_i l;exact bg (af2 b a d g j) (.cond rfl<|.idx rfl eJ<|.mem (aO h rfl)<|.cond (f e)<|.cond rfl<|.idx rfl eJ<|.mem (aO h rfl)<|.cond (f i)<|.cond rfl<|.idx rfl eJ<|.mem (aO h rfl)<|.cond (f k)<|.cond rfl<|.idx rfl eJ<|.mem (aO h rfl)<|.cond (f l)<|.cond rfl .nil)
theorem ah3 (a b c d:Int):bW ae 22 4 [(0,I a),(1,I b),(2,I c),(3,I d)] m=Z (vL m.next 0 4 4,m.alloc {kind:=1,sz:=1,cs:=[Z (I a),Z (I b),Z (I c),Z (I d)]}):=aM
def oP (a b:V):Int:=Sk [pE a.k b.k,pE a.n b.n,Fa a.s b.s,pE (w9 a.b) (w9 b.b)]
theorem anA (g:Gd m)(a b:V):∃e,Ev K 155 [a.val,b.val] m (I (oP a b)) e/\Kp m e eK:=by
 obtain⟨v,o,j,k1,t,_⟩:=bz g a.cells;obtain⟨u,l,p,d,r,_⟩:=bz (g.ext k1) b.cells;have h:=(g.ext k1).ext d;have w:=j.a9 d;obtain⟨i,f,q⟩:=iy h (k:={kind:=1,sz:=1,cs:=[Z (I (pE a.k b.k)),Z (I (pE a.n b.n)),Z (I (Fa a.s b.s)),Z (I (pE (w9 a.b) (w9 b.b)))]}) (cs:=[I (pE a.k b.k),I (pE a.n b.n),I (Fa a.s b.s),I (pE (w9 a.b) (w9 b.b))]) rfl rfl rfl;refine⟨_,bg (ao7 a b ..) (by
  refine .mem o<|.mem l ?_
  repeat first |exact .nil|refine .cond rfl ?_|refine .mem (aJ fS) ?_|refine .mem (aO fS rfl) ?_|refine .mem (cL fS rfl dA) ?_|refine .mem (fM _ _) ?_|refine .mem (AK fS rfl rfl) ?_
  refine .call (ahY _ _) ?_
  repeat first |exact .nil|refine .cond rfl ?_|refine .mem (aJ fS) ?_|refine .mem (aO fS rfl) ?_|refine .mem (cL fS rfl dA) ?_|refine .mem (fM _ _) ?_|refine .mem (AK fS rfl rfl) ?_
  refine .call (ahY _ _) ?_
  repeat first |exact .nil|refine .cond rfl ?_|refine .mem (aJ fS) ?_|refine .mem (aO fS rfl) ?_|refine .mem (cL fS rfl dA) ?_|refine .mem (fM _ _) ?_|refine .mem (AK fS rfl rfl) ?_
  refine .call (arb _ _) ?_
  repeat first |exact .nil|refine .cond rfl ?_|refine .mem (aJ fS) ?_|refine .mem (aO fS rfl) ?_|refine .mem (cL fS rfl dA) ?_|refine .mem (fM _ _) ?_|refine .mem (AK fS rfl rfl) ?_
  refine .call (anv _) ?_
  repeat first |exact .nil|refine .cond rfl ?_|refine .mem (aJ fS) ?_|refine .mem (aO fS rfl) ?_|refine .mem (cL fS rfl dA) ?_|refine .mem (fM _ _) ?_|refine .mem (AK fS rfl rfl) ?_
  refine .call (anv _) ?_
  repeat first |exact .nil|refine .cond rfl ?_|refine .mem (aJ fS) ?_|refine .mem (aO fS rfl) ?_|refine .mem (cL fS rfl dA) ?_|refine .mem (fM _ _) ?_|refine .mem (AK fS rfl rfl) ?_
  refine .call (ahY _ _) (.mem (ah3 ..) (.mem (aJ (h.ext f)) (.call (arc i (c:=4)) .nil)))),(k1.aX d).aX f⟩
end
abbrev vU (b:Nat):ab:=.int .u8 b
section
variable {K:fE}{m:Mem}
theorem RP {i j:Int}{n:Nat}(h:xC i j=Z n):Int.sub i j=n:=by
 unfold xC at h
 split at h
 .split at h
  .rename_i a b c;cases h;have :=af c
   show((a:Int)-(b:Int))=((a-b:Nat):Int)
   omega
  .cases h
 .cases h
theorem ah8 {a b:Nat}:(ab.bool (dx a b))=.bool (decide (a<b)):=by rw[fW];congr 1;rw[Bool.eq_iff_iff];simp
end
def spL:List ByteArray:=[⟨#[]⟩,⟨#[]⟩,⟨#[]⟩,⟨#[]⟩,⟨#[]⟩,⟨#[40]⟩,⟨#[41]⟩,⟨#[44]⟩,⟨#[46]⟩,⟨#[59]⟩,⟨#[42]⟩,⟨#[61]⟩,⟨#[60,62]⟩,⟨#[60]⟩,⟨#[60,61]⟩,⟨#[62]⟩,⟨#[62,61]⟩,⟨#[43]⟩,⟨#[45]⟩,⟨#[47]⟩,⟨#[37]⟩,⟨#[124,124]⟩,⟨#[65,76,76]⟩,⟨#[65,78,68]⟩,⟨#[65,83]⟩,⟨#[66,79,79,76]⟩,⟨#[67,82,69,65,84,69]⟩,⟨#[70,65,76,83,69]⟩,⟨#[70,82,79,77]⟩,⟨#[73,78,83,69,82,84]⟩,⟨#[73,78,84]⟩,⟨#[73,78,84,79]⟩,⟨#[73,83]⟩,⟨#[74,79,73,78]⟩,⟨#[78,79,84]⟩,⟨#[78,85,76,76]⟩,⟨#[79,78]⟩,⟨#[79,82]⟩,⟨#[82,69,67,85,82,83,73,86,69]⟩,⟨#[83,69,76,69,67,84]⟩,⟨#[84,65,66,76,69]⟩,⟨#[84,69,88,84]⟩,⟨#[84,82,85,69]⟩,⟨#[85,78,73,79,78]⟩,⟨#[86,65,76,85,69,83]⟩,⟨#[87,72,69,82,69]⟩,⟨#[87,73,84,72]⟩]
def Zd (m:Mem):Prop:=Obj m 0 0 (spL.map .string)
theorem Zd.ext{m m':Mem}{S:Nat->Prop}(h:Zd m)(k:Kp m m' S)(a:¬S 0):Zd m':=Obj.ext h k a
def x9 (l:List UInt8):List ab:=l.map λb=>vU b.toNat
theorem aiO:ae.underlying 72=Z (.slice 5):=aM
theorem an0:ae.underlying 5=Z (.int .u8):=aM
theorem Bw:∀(l:List UInt8),(x9 l).mapM (m:=Option) (λv=>match v with | .int .u8 n=>Z (UInt8.ofNat n.toNat)|_=>Y)=Z l
 | []=>rfl
 |b::l=>by
  show((vU b.toNat::x9 l).mapM (m:=Option) _)=_
  rw[List.mapM_cons];have :(UInt8.ofNat ((b.toNat:Int)).toNat)=b:=dA;simp only[this,Bw l];rfl
theorem Uw {m:Mem}{l:List UInt8}{b c sz:Nat}(h:Obj m b sz (x9 l)):gp ae 72 9 (vL b 0 l.length c) m=Z (.string ⟨l.toArray⟩,m):=by
 unfold gp;simp only[ZO,aiO,an0];have e:m.dP b 0 l.length=Z (x9 l):=jP h (by rw[List.drop_zero];exact List.take_of_length_le (by simp[x9])) (by simp[x9]);rw[e];exact congrArg (Option.map λa=>(ab.string ⟨a.toArray⟩,m)) (Bw l)
theorem ko {m:Mem}{b sz t n:Nat}{cs:List ab}(h:Obj m b sz cs)(d:cs.length=n)(c:zK ae t=Z U)(a:eS ae t=Z n):nY ae t (vP b 0) m=Z (.agg cs.toArray,m):=by
 unfold nY kY;simp only[c,a,dw,jP h (o:=0) (n:=n) (by rw[List.drop_zero,<-d,List.take_length]) ai,dk]
section
variable {K:fE}{m:Mem}
theorem Od (a b:Nat):Qk O a b=((min a b:Nat):Int):=by
 unfold Qk;rw[fW]
 by_cases h:(b:Int)<a
 .rw[Cb h];simp only[];omega
 .rw[yz h];simp only[];omega
theorem agr (a b:Nat):Qk U a b=((max a b:Nat):Int):=by
 unfold Qk;rw[fW]
 by_cases h:(b:Int)<a
 .rw[Cb h];simp only[];omega
 .rw[yz h];simp only[];omega
end
structure RS where
 d:Int
abbrev Dn (s:ByteArray):ab:=.string s
section
variable {K:fE}{m:Mem}{r:Nat}{T:ByteArray}{s s':RS}
theorem Ro:zK ae 49=Z U/\eS ae 49=Z 4:=⟨aM,aM⟩
end
theorem acZ (l:List ab):∀(k:Nat) (a:Array ab),k+l.length<=a.size->((l.zipIdx k).foldl (λb (x:ab×Nat)=>b.setIfInBounds x.2 x.1) a).size=a.size/\
  ∀i:Nat,((l.zipIdx k).foldl (λb (x:ab×Nat)=>b.setIfInBounds x.2 x.1) a)[i]?=if k<=i/\i<k+l.length then l[i-k]? else a[i]?:=by
 induction l with
 |nil=>intro k a h;exact⟨rfl,λi=>by rw[bH (by simp only[List.length_nil];omega)];rfl⟩
 |cons v l e=>
  intro k a h;simp only[List.length_cons]at h;rw[List.zipIdx_cons,List.foldl_cons];obtain⟨g,f⟩:=e (k+1) (a.setIfInBounds k v) (by simp;omega);refine⟨by rw[g];simp,λi=>?_⟩;rw[f i,Array.getElem?_setIfInBounds];simp only[List.length_cons]
  by_cases c:k=i
  .subst c;rw[bH ai,bh rfl,bh ai,bh ai];simp
  .by_cases d:k+1<=i/\i<k+1+l.length
   .rw[bh d,bh ai];obtain⟨j,rfl⟩:∃j,i=k+1+j:=⟨i-(k+1),ai⟩;rw[show k+1+j-(k+1)=j by omega,show k+1+j-k=j+1 by omega];rfl
   .rw[bH d,bH c,bH ai]
theorem bs1 {m:Mem}{t sz:Nat}{v:ab}(k:uA.contains (t,sz)=U)(a:v.cells.size=sz)(q:sz<=6):bW ae t 1 [(0,v)] m=Z (vL m.next 0 1 1,m.alloc {kind:=1,sz:=sz,cs:=v.cells.toList.map Z}):=by
 have :=aB.1 Rl (t,sz) (by simpa using k);unfold aia at this
 split at this
 .rename_i e n;rw[ag,ag]at this;obtain⟨⟨f,r⟩,b⟩:=this;have f:eS ae e=Z sz:=by simpa using f
  split at b
  .rename_i i l;rw[ag]at b;obtain⟨z,g⟩:=sH.1 b.2;unfold bW;simp only[n,f,g];rw[bH (by rw[Nat.one_mul];intro h;exact h.elim (λh=>by omega) (λh=>absurd h eJ))];unfold Instr.fill;simp only[Nat.zero_mul,Nat.zero_add,Nat.one_mul];rw[bH (by simp[a])];unfold Instr.fill;simp only[dk];have d:=acZ v.cells.toList 0 ((Array.range sz).map (z.cells[·%z.cells.size]!)) (by simp[a]);have o:(Array.foldl (λp (x:ab×Nat)=>match x with |(c,j)=>p.setIfInBounds j c) ((Array.range sz).map (z.cells[·%z.cells.size]!)) v.cells.zipIdx)=v.cells:=by
    rw[show v.cells.zipIdx=(v.cells.toList.zipIdx).toArray from by apply Array.toList_inj.1;rw[Array.toList_zipIdx],List.foldl_toArray];apply Array.ext_getElem?;intro i;refine(d.2 i).trans ?_
    by_cases l:i<sz
    .rw[bh ⟨ai,by simp[a];omega⟩];simp
    .rw[bH (by simp[a];omega),Array.getElem?_eq_none (by simp;omega),Array.getElem?_eq_none ai]
   exact congrArg (λc:Array ab=>Z (vL m.next 0 1 1,m.alloc {kind:=1,sz:=sz,cs:=c.toList.map Z})) o
  .cases b
 .cases this
theorem MN {m:Mem}(g:Gd m){t sz n b len:Nat}{x:ab}{old new:List ab}(j:uA.contains (t,sz)=U)(l:Obj m b sz old)(d:old.length=len*sz)(z:n≠0)(c:oX m x sz n new)
  (v:∀y∈new,y.oneCell'=U)(A:len+n<=2^30\/t=22/\len+n<=2^44):
  ∃a,cJ ae #[t,t] (vL b 0 len len) x m=Z (vL m.next 0 (len+n) dp,a)/\Obj a m.next sz (old++new)/\Kp m a eK/\a.next=m.next+1:=by
 obtain⟨e,u,s,B,r⟩:=vO j;have p:=qD c;have o:=c.Xj;have hlen:new.length=n*sz:=c.1;have f:(new.all (·.oneCell'))=U:=aB.2 v;have w:mr m sz len (vL b 0 len len)=Z old:=qD (l.sl d (.inr rfl));obtain⟨k1,i,h⟩:=iy g (k:={kind:=1,sz:=sz,cs:=(old++new).map Z}) (cs:=old++new) rfl rfl rfl;refine⟨_,?_,k1,i,h⟩;unfold cJ;simp only[show(#[t,t]:Array aT)[0]?=Z t from rfl,show(#[t,t]:Array aT)[1]?=Z t from rfl,dw,u,s,o,p];have q:len≠dp:=λe=>absurd (show dp<=2^44 by rw[<-e];omega) eJ
 rw[bH (by rw[r _ ai,hlen,f];simp),bH q,bH ai];simp only[w];rw[bh d]
structure pI (α:Type) where
 R:(Nat->Prop)->α->Mem->ab->Prop
 mono:∀{B B':Nat->Prop}{x:α}{m:Mem}{v:ab},R B x m v->(∀b,B b->B' b)->R B' x m v
 ext:∀{B S:Nat->Prop}{x:α}{m m':Mem}{v:ab},R B x m v->Kp m m' S->(∀b,B b->¬S b)->R B x m' v
def ik (m m':Mem)(b:Nat):Prop:=m.next<=b/\b<m'.next
def jj {α:Type}(val:α->ab):pI α:=⟨λ_ x _ v=>v=val x,λh _=>h,λh _ _=>h⟩
def cE {α:Type}(Q:α->ab->Prop):List α->List ab->Prop
 | [],cs=>cs=[]
 |x::l,cs=>∃v rest,cs=v.cells.toList++rest/\Q x v/\cE Q l rest
theorem cE.mono{α:Type}{Q Q':α->ab->Prop}:∀{l:List α}{cs:List ab},cE Q l cs->(∀x v,x∈l->Q x v->Q' x v)->cE Q' l cs
 | [],cs,h,_=>h
 |x::l,cs,h,k=>by
  obtain⟨v,rest,e,q,h⟩:=h;exact⟨v,rest,e,k x v (List.mem_cons_self ..) q,h.mono λx v a=>k x v (List.mem_cons_of_mem _ a)⟩
theorem cE.snoc{α:Type}{Q:α->ab->Prop}{x:α}{v:ab}(a:Q x v):∀{l:List α}{cs:List ab},cE Q l cs->cE Q (l++[x]) (cs++v.cells.toList)
 | [],cs,h=>by
  have h:cs=[]:=h;subst h;exact⟨v,[],dA,a,rfl⟩
 |y::l,cs,h=>by
  obtain⟨u,rest,rfl,q,h⟩:=h;exact⟨u,rest++v.cells.toList,by rw[List.append_assoc],q,h.snoc a⟩
def okV (sz:Nat)(v:ab):Prop:=v.cells.size=sz/\∀y∈v.cells.toList,y.oneCell'=U
theorem cE.one{α:Type}{Q:α->ab->Prop}{sz:Nat}:∀{l:List α}{cs:List ab},cE (λx v=>Q x v/\okV sz v) l cs->cs.length=l.length*sz/\∀y∈cs,y.oneCell'=U
 | [],cs,h=>by have h:cs=[]:=h;subst h;simp
 |x::l,cs,h=>by
  obtain⟨u,rest,rfl,q,h⟩:=h;obtain⟨c,b⟩:=h.one;refine⟨by simp[c,q.2.1,Nat.add_mul];omega,λy a=>?_⟩;rcases List.mem_append.1 a with a|a
  .exact q.2.2 y a
  .exact b y a
def aW {α:Type}(E:pI α)(sz:Nat):pI (List α) where
 R B l m v:=∃cs,oX m v sz l.length cs/\(∀b o n c,v=vL b o n c->B b)/\cE (λx u=>E.R B x m u/\okV sz u) l cs
 mono:=by
  rintro B B' x m v ⟨cs,h1,h2,h3⟩ k;exact⟨cs,h1,λb o n c e=>k b (h2 b o n c e),h3.mono λx u _ q=>⟨E.mono q.1 k,q.2⟩⟩
 ext:=by
  rintro B S x m m' v ⟨cs,h1,h2,h3⟩ k hs;exact⟨cs,h1.ext k λb o n c e=>hs b (h2 b o n c e),h2,h3.mono λx u _ q=>⟨E.ext q.1 k hs,q.2⟩⟩
theorem oX.nT{m:Mem}{v:ab}{sz n:Nat}{cs:List ab}(h:oX m v sz n cs):nT v=U/\v.oneCell'=U:=by
 rcases h with⟨d,⟨rfl,rfl⟩|⟨b,c,rfl,a,_⟩⟩<;>exact⟨rfl,rfl⟩
theorem aW.nT{α:Type}{E:pI α}{sz:Nat}{B:Nat->Prop}{l:List α}{m:Mem}{v:ab}(h:(aW E sz).R B l m v):Go.AM.nT v=U/\v.oneCell'=U:=by
 obtain⟨a,h,_⟩:=h;exact h.nT
theorem aW.nil{α:Type}{E:pI α}{sz:Nat}{B:Nat->Prop}{m:Mem}:(aW E sz).R B [] m (.slice Y 0 0):=⟨[],oX.nil,λb o n c e=>(by cases e),rfl⟩
structure FI where
 n:ByteArray
 k:Int
abbrev FI.val(c:FI):ab:=.agg #[.string c.n,I c.k]
def rZ:pI (List FI):=aW (jj FI.val) 2
inductive X where
 |bin(op:Int)(l r:X)
 |no(x:X)
 |isn(x:X)
 |lit(v:V)
 |r7(p:Nat)(i j:Int)
def XR (B:Nat->Prop):X->Mem->ab->Prop
 | .bin op l r,m,v=>∃b lv rv,v=.iface 305 (vP b 0)/\B b/\Obj m b 0 [I op,lv,rv]/\XR B l m lv/\XR B r m rv
 | .no x,m,v=>∃b xv,v=.iface 390 (vP b 0)/\B b/\Obj m b 0 [xv]/\XR B x m xv
 | .isn x,m,v=>∃b xv,v=.iface 393 (vP b 0)/\B b/\Obj m b 0 [xv]/\XR B x m xv
 | .lit u,m,v=>∃b,v=.iface 317 (vP b 0)/\B b/\Obj m b 0 u.cells
 | .r7 p i j,m,v=>∃b,v=.iface 396 (vP b 0)/\B b/\Obj m b 0 [vP p 0,I i,I j]
theorem XR.mono{B B':Nat->Prop}(k:∀b,B b->B' b):∀{x:X}{m:Mem}{v:ab},XR B x m v->XR B' x m v
 | .bin ..,_,_,⟨b,d,c,e,hb,o,g,f⟩=>⟨b,d,c,e,k b hb,o,XR.mono k g,XR.mono k f⟩
 | .no ..,_,_,⟨b,a,e,hb,o,h⟩=>⟨b,a,e,k b hb,o,XR.mono k h⟩
 | .isn ..,_,_,⟨b,a,e,hb,o,h⟩=>⟨b,a,e,k b hb,o,XR.mono k h⟩
 | .lit ..,_,_,⟨b,e,hb,o⟩=>⟨b,e,k b hb,o⟩
 | .r7 ..,_,_,⟨b,e,hb,o⟩=>⟨b,e,k b hb,o⟩
theorem XR.ext{B S:Nat->Prop}{m m':Mem}(k:Kp m m' S)(a:∀b,B b->¬S b):∀{x:X}{v:ab},XR B x m v->XR B x m' v
 | .bin ..,_,⟨b,f,d,e,hb,o,i,g⟩=>⟨b,f,d,e,hb,o.ext k (a b hb),XR.ext k a i,XR.ext k a g⟩
 | .no ..,_,⟨b,c,e,hb,o,h⟩=>⟨b,c,e,hb,o.ext k (a b hb),XR.ext k a h⟩
 | .isn ..,_,⟨b,c,e,hb,o,h⟩=>⟨b,c,e,hb,o.ext k (a b hb),XR.ext k a h⟩
 | .lit ..,_,⟨b,e,hb,o⟩=>⟨b,e,hb,o.ext k (a b hb)⟩
 | .r7 ..,_,⟨b,e,hb,o⟩=>⟨b,e,hb,o.ext k (a b hb)⟩
def oK:pI X:=⟨XR,λh k=>XR.mono k h,λh k hs=>XR.ext k hs h⟩
theorem XR.form{B:Nat->Prop}{x:X}{m:Mem}{v:ab}(h:XR B x m v):∃t b,v=.iface t (vP b 0):=by
 cases x with
 |bin op l r=>obtain⟨b,_,_,e,_⟩:=h;exact⟨_,b,e⟩
 |no x=>obtain⟨b,_,e,_⟩:=h;exact⟨_,b,e⟩
 |isn x=>obtain⟨b,_,e,_⟩:=h;exact⟨_,b,e⟩
 |lit v=>obtain⟨b,e,_⟩:=h;exact⟨_,b,e⟩
 |r7 p i j=>obtain⟨b,e,_⟩:=h;exact⟨_,b,e⟩
theorem oX.form{m:Mem}{v:ab}{sz n:Nat}{cs:List ab}(h:oX m v sz n cs):∃a c,v=.slice a n c:=by
 rcases h with⟨_,⟨rfl,rfl⟩|⟨b,c,rfl,_⟩⟩<;>exact⟨_,_,rfl⟩
theorem oX.pos{m:Mem}{v:ab}{sz n j:Nat}{cs:List ab}(h:oX m v sz n cs)(a:j<n):∃b c,v=vL b 0 n c/\Obj m b sz cs:=by
 rcases h with⟨_,⟨rfl,rfl⟩|⟨b,c,rfl,o,_⟩⟩
 .omega
 .exact⟨b,c,rfl,o⟩
theorem aW.form{α:Type}{E:pI α}{sz:Nat}{B:Nat->Prop}{l:List α}{m:Mem}{v:ab}(h:(aW E sz).R B l m v):∃a c,v=.slice a l.length c:=by
 obtain⟨b,h,_⟩:=h;exact h.form
theorem cE.len{α:Type}{Q:α->ab->Prop}{sz:Nat}{l:List α}{cs:List ab}(h:cE (λx v=>Q x v/\okV sz v) l cs):cs.length=l.length*sz:=h.one.1
theorem cE.get{α:Type}{Q:α->ab->Prop}{sz:Nat}:∀{l:List α}{cs:List ab}{j:Nat},cE (λx v=>Q x v/\okV sz v) l cs->(h:j<l.length)->∃v,(cs.drop (j*sz)).take sz=v.cells.toList/\Q l[j] v/\okV sz v
 | [],_,_,_,h=>by simp at h
 |x::l,cs,0,a,h=>by
  obtain⟨v,rest,rfl,q,b⟩:=a;exact⟨v,by rw[Nat.zero_mul,List.drop_zero,List.take_left' (by simp[q.2.1])],q.1,q.2⟩
 |x::l,cs,j+1,a,h=>by
  obtain⟨v,rest,rfl,q,b⟩:=a;obtain⟨u,e,d,c⟩:=b.get (j:=j) (by simpa using h);refine⟨u,?_,d,c⟩;rw[Nat.add_mul,Nat.one_mul,Nat.add_comm,<-List.drop_drop,List.drop_left' (by simp[q.2.1]),e]
theorem aW.get{α:Type}{E:pI α}{sz:Nat}{B:Nat->Prop}{l:List α}{m:Mem}{v:ab}{j:Nat}(h:(aW E sz).R B l m v)(d:j<l.length):
  ∃b c u a,v=vL b 0 l.length c/\B b/\Obj m b sz a/\(a.drop (j*sz)).take sz=u.cells.toList/\j*sz+sz<=a.length/\E.R B l[j] m u/\okV sz u:=by
 obtain⟨a,i,g,f⟩:=h;obtain⟨b,c,rfl,o⟩:=i.pos d;obtain⟨u,e,q,ok⟩:=f.get d;refine⟨b,c,u,a,rfl,g _ _ _ _ rfl,o,e,?_,q,ok⟩;rw[f.len];have :(j+1)*sz<=l.length*sz:=Nat.mul_le_mul_right _ d;rw[Nat.add_mul,Nat.one_mul]at this;exact this
theorem eN {K:fE}{nt:Nat}{a:Code}{Inv:Nat->Tm->Mem->Prop}{dm:Exit->Tm->Mem->Prop}(n:Nat)
  (f:∀j tm m,j<n->Inv j tm m->(∃c b,xr K nt a ⟨tm,m,[]⟩ .normal ⟨c,b,[]⟩/\Inv (j+1) c b)\/∃e c b,e≠ .normal/\xr K nt a ⟨tm,m,[]⟩ e ⟨c,b,[]⟩/\dm e c b)
  (l:∀tm m,Inv n tm m->∃e c b,e≠ .normal/\xr K nt a ⟨tm,m,[]⟩ e ⟨c,b,[]⟩/\dm e c b)
  {tm:Tm}{m:Mem}(i:Inv 0 tm m)(p:n<90000000000000):∃e c b,e≠ .normal/\uT K nt a 100000000000000 ⟨tm,m,[]⟩ e ⟨c,b,[]⟩/\dm e c b:=
 j7 (Inv:=λk tm m=>∃j,k=n-j/\j<=n/\Inv j tm m) (dm:=dm)
  (by
   rintro k tm m ⟨j,rfl,q,d⟩
   by_cases h:j<n
   .rcases f j tm m h d with⟨c,b,g,o⟩|h
    .exact .inl ⟨_,c,b,ai,g,j+1,rfl,h,o⟩
    .exact .inr h
   .have :j=n:=ai;subst this;exact .inr (l tm m d))
  (n:=n) (k:=100000000000000) ⟨0,ai,ai,i⟩ ai
theorem FM {j n:Nat}(h:j<n):(.bool (dx j n):ab)=.bool U:=by rw[ah8,Cb h]
theorem SF (n:Nat):(.bool (dx n n):ab)=.bool O:=by rw[ah8,yz ai]
theorem add1 {j:Nat}(h:j<90000000000000):bU j 1=((j+1:Nat):Int):=by rw[qy ⟨ai,ai⟩];rfl
def j6:V:=⟨0,0,.empty,O⟩
section
variable {K:fE}{m:Mem}{c:Nat}{M1 M2:ab}{f:Int}{B:Nat->Prop}
theorem amX {cs vs:List ab}{a n i:Nat}(h:(cs.drop a).take n=vs)(hi:i<n):cs[a+i]?=vs[i]?:=by
 rw[<-h,List.getElem?_take_of_lt hi,List.getElem?_drop]
end
end Go.AM
