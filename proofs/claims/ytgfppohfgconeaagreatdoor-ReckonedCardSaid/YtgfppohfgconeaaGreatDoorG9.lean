/-
  What the claim stands on, part 9.
-/
import Derived.Test.YtgfppohfgconeaaGreatDoorG8
set_option linter.unusedVariables false
set_option linter.unusedSimpArgs false
open Go.Proofs.Tryz renaming prog → ae
open Go renaming Value → af, IntKind → cQ
open Nat renaming le_of_ble_eq_true → ag, le_refl → ai, eq_of_beq_eq_true → aT
open Bool renaming and_eq_true → aj, false_eq_true → bu
open List renaming all_eq_true → aV, mem_cons → bC
namespace Go.AM
set_option maxRecDepth 1000000
open Go Go.Conc Go.Proofs
theorem seq_eq (a b:ByteArray):(a.toList==b.toList)=decide (a=b):=by
 rw[Bool.eq_iff_iff,beq_iff_eq,jE,ByteArray.toList_eq,ByteArray.toList_eq]
 constructor
 ·intro h;exact ByteArray.ext (Array.toList_inj.1 h)
 ·rintro rfl;rfl
theorem ads (a b:ByteArray):(af.bool ((a.toList==b.toList)==true))= .bool (decide (a=b)):=by rw[seq_eq];cases decide (a=b)<;>rfl
theorem P8 (a b:ByteArray):(af.bool ((a.toList==b.toList)==false))= .bool (decide (a≠b)):=by rw[seq_eq];by_cases h:a=b<;>simp[h]
theorem oE.form{m:Mem}{v:af}{sz n:Nat}{cs:List af}(h:oE m v sz n cs):∃a c,v= .slice a n c:=by
 rcases h with⟨_,⟨rfl,rfl⟩|⟨b,c,rfl,_⟩⟩<;>exact⟨_,_,rfl⟩
theorem oE.pos{m:Mem}{v:af}{sz n j:Nat}{cs:List af}(h:oE m v sz n cs)(hj:j<n):∃b c,v=vL b 0 n c/\Obj m b sz cs:=by
 rcases h with⟨_,⟨rfl,rfl⟩|⟨b,c,rfl,o,_⟩⟩
 ·omega
 ·exact⟨b,c,rfl,o⟩
theorem bj.form{α:Type}{E:j6 α}{sz:Nat}{B:Nat->Prop}{l:List α}{m:Mem}{v:af}(h:(bj E sz).R B l m v):∃a c,v= .slice a l.length c:=by
 obtain⟨cs,h,_⟩:=h;exact h.form
theorem fq.len{α:Type}{Q:α->af->Prop}{sz:Nat}{l:List α}{cs:List af}(h:fq (fun x v=>Q x v/\okV sz v) l cs):cs.length=l.length*sz:=h.one.1
theorem fq.get{α:Type}{Q:α->af->Prop}{sz:Nat}:∀{l:List α}{cs:List af}{j:Nat},fq (fun x v=>Q x v/\okV sz v) l cs->(h:j<l.length)->∃v,(cs.drop (j*sz)).take sz=v.cells.toList/\Q l[j] v/\okV sz v
 | [],_,_,_,h=>by simp at h
 |x::l,cs,0,hc,h=>by
  obtain⟨v,rest,rfl,q,hr⟩:=hc;exact⟨v,by rw[Nat.zero_mul,List.drop_zero,List.take_left' (by simp[q.2.1])],q.1,q.2⟩
 |x::l,cs,j+1,hc,h=>by
  obtain⟨v,rest,rfl,q,hr⟩:=hc;obtain⟨u,h1,h2,h3⟩:=hr.get (j:=j) (by simpa using h);refine⟨u,?_,h2,h3⟩;rw[Nat.add_mul,Nat.one_mul,Nat.add_comm,<-List.drop_drop,List.drop_left' (by simp[q.2.1]),h1]
theorem bj.get{α:Type}{E:j6 α}{sz:Nat}{B:Nat->Prop}{l:List α}{m:Mem}{v:af}{j:Nat}(h:(bj E sz).R B l m v)(hj:j<l.length):
  ∃b c u cs,v=vL b 0 l.length c/\B b/\Obj m b sz cs/\(cs.drop (j*sz)).take sz=u.cells.toList/\j*sz+sz<=cs.length/\E.R B l[j] m u/\okV sz u:=by
 obtain⟨cs,h1,h2,h3⟩:=h;obtain⟨b,c,rfl,o⟩:=h1.pos hj;obtain⟨u,e,q,ok⟩:=h3.get hj;refine⟨b,c,u,cs,rfl,h2 _ _ _ _ rfl,o,e,?_,q,ok⟩;rw[h3.len];have :(j+1)*sz<=l.length*sz:=Nat.mul_le_mul_right _ hj;rw[Nat.add_mul,Nat.one_mul]at this;exact this
def zi {α:Type}(p:α->Bool):List α->Nat->Int
 | [],_=> -1
 |x::l,j=>if p x=true then j else zi p l (j+1)
def iS (cF:List pM)(n:ByteArray):Int:=zi (fun c=>decide (c.n=n)) cF 0
section
variable {K:iK}{m:Mem}{B:Nat->Prop}
theorem aeC (a:Option Addr)(n c q:Nat):bF (bN 132) (ax 132) 0 2 [0,1] [(.slice a n c),(.func (.func 133) #[] #[(vP q 0)])]
 []
 .normal [0,1,6,7,8] [(.slice a n c),(.func (.func 133) #[] #[(vP q 0)]),(.slice a n c),(vI (n:Int)),(vI 0)]:=eF
theorem aey (a:Option Addr)(n c q i:Nat):bF (bN 132) (bh (ax 132) [2]) 0 99 [0,1,6,7,8] [(.slice a n c),(.func (.func 133) #[] #[(vP q 0)]),(.slice a n c),(vI (n:Int)),(vI (i:Int))]
 [aD (br (i:Int) (n:Int)) false]
 (.exit 0) [0] [(.slice a n c)]:=eF
theorem aeA (p n c q i:Nat)(x:pM):bF (bN 132) (bh (ax 132) [2]) 0 99 [0,1,6,7,8] [(vL p 0 n c),(.func (.func 133) #[] #[(vP q 0)]),(vL p 0 n c),(vI (n:Int)),(vI (i:Int))]
 [aD (br (i:Int) (n:Int)) true,
  .idx (i:Int) n i,
  .mem (eJ 2 p (0+i*2)) (.agg #[(aY x.n),(vI x.k)]),
  .fT (.func (.func 133) #[] #[(vP q 0)]) [(.agg #[(aY x.n),(vI x.k)])] (.bool true),
  bV]
 .ret [4] [(vI (i:Int))]:=eF
theorem aez (p n c q i:Nat)(x:pM):bF (bN 132) (bh (ax 132) [2]) 0 99 [0,1,6,7,8] [(vL p 0 n c),(.func (.func 133) #[] #[(vP q 0)]),(vL p 0 n c),(vI (n:Int)),(vI (i:Int))]
 [aD (br (i:Int) (n:Int)) true,
  .idx (i:Int) n i,
  .mem (eJ 2 p (0+i*2)) (.agg #[(aY x.n),(vI x.k)]),
  .fT (.func (.func 133) #[] #[(vP q 0)]) [(.agg #[(aY x.n),(vI x.k)])] (.bool false),
  bm]
 .normal [0,1,6,7,8] [(vL p 0 n c),(.func (.func 133) #[] #[(vP q 0)]),(vL p 0 n c),(vI (n:Int)),(vI (bB (i:Int) 1))]:=eF
theorem aeB:bF (bN 132) (ax 132) 3 99 [] []
 []
 .ret [4] [(vI (-1))]:=eF
theorem X9:jR 132 2 [4]=true:=bp
theorem NR:(du (ax 132)).length<=99:=ag bp
theorem LX:dT (ax 132) 2=some (0,(bh (ax 132) [2])):=bp
theorem EW:codeOk (bN 132) (bh (ax 132) [2])=true:=bp
theorem L5:eI (bN 132) (ax 132) (bh (ax 132) [2]) 2 0=true:=bp
theorem akP (q:Nat)(x:pM)(n:ByteArray)(aH:Nat):Path 133 [(.agg #[(aY x.n),(vI x.k)]),(vP q 0)]
 [cp [some (aY x.n),some (vI x.k)] aH,
  .mem (aI aH 0) (aY x.n),
  .mem (aI q 0) (aY n)]
 (.bool ((x.n.toList==n.toList)==true)):=cg
theorem akT (a:Option Addr)(n c:Nat)(s:ByteArray)(x:Int)(aH:Nat):Path 106 [(.slice a n c),(aY s)]
 [cp [some (aY s)] aH,
  .call 132 [(.slice a n c),(.func (.func 133) #[] #[(vP aH 0)])] (vI x)]
 (vI x):=cg
theorem am4 (g:Gd m){q:Nat}{n:ByteArray}(hq:Obj m q 0 [.string n])(x:pM):∃m',Ev K 133 [x.val,vP q 0] m (.bool (decide (x.n=n))) m'/\Kp m m' eU:=by
 obtain⟨m1,e1,o1,k1,n1,_⟩:=aQ g [.string x.n,vI x.k];have e2:aI q 0 m1=some (.string n,m1):=aJ (hq.aM k1) rfl;have e3:aI m.next 0 m1=some (.string x.n,m1):=aJ o1 rfl;have :=ak (K:=K) (akP q x n m.next) (.mem e1<| .mem e3<| .mem e2 .nil);rw[ads]at this;exact⟨m1,this,k1⟩
theorem am5 (g:Gd m){cF:List pM}{v:af}(hv:cU.R B cF m v)(hl:cF.length<90000){q:Nat}{n:ByteArray}(hq:Obj m q 0 [.string n]):
  ∃m',Ev K 132 [v,.func (.func 133) #[] #[vP q 0]] m (vI (iS cF n)) m'/\Kp m m' eU:=by
 obtain⟨a,c,hA⟩:=bj.form hv;have hr:bF (bN 132) (ax 132) 0 2 [0,1] [v,.func (.func 133) #[] #[vP q 0]] [] .normal [0,1,6,7,8] [v,.func (.func 133) #[] #[vP q 0],v,vI (cF.length:Int),vI 0]:=by rw[hA];exact aeC a cF.length c q
 obtain⟨t0,h0,e0⟩:=bQ (K:=K) (m:=m) (m':=m) (tm:=entry [v,.func (.func 133) #[] #[vP q 0]]) hr rfl .nil;obtain⟨F,hF⟩:∃F:af,F= .func (.func 133) #[] #[vP q 0]:=⟨_,rfl⟩;obtain⟨e,t1,m1,he,hx,kk,hp⟩:=jP (K:=K) (nt:=bN 132) (a:=bh (ax 132) [2])
  (Inv:=fun k tm m'=>∃j,k=cF.length-j/\j<=cF.length/\cH [0,1,6,7,8] tm=[v,F,v,vI (cF.length:Int),vI (j:Int)]/\Kp m m' eU/\iS cF n=zi (fun c=>decide (c.n=n)) (cF.drop j) j)
  (dA:=fun e tm m'=>Kp m m' eU/\((e= .exit 0/\iS cF n= -1)\/(e= .ret/\cH [4] tm=[vI (iS cF n)])))
  (by
   rintro k tm m1 ⟨j,rfl,hj,hg,kk,hf⟩;rw[hF]at hg
   by_cases h1:j<cF.length
   ·have c1:(.bool (br (j:Int) (cF.length:Int)):af)= .bool true:=by rw[sB,dZ h1]
    obtain⟨b,c',u,cs,rfl,hB,ob,hu,hle,hE,jA⟩:=bj.get (cU.ext hv kk fun _ _ h=>h) h1;have hE:u=(cF[j]).val:=hE;obtain⟨y,hy⟩:∃y,cF[j]=y:=⟨_,rfl⟩;rw[hy]at hE;subst hE;have hd:cF.drop j=y::cF.drop (j+1):=by rw[List.drop_eq_getElem_cons h1,hy]
    have e2:eJ 2 b (0+j*2) m1=some (y.val,m1):=by rw[Nat.zero_add];exact bY (vs:=[.string y.n,vI y.k]) ob hu hle
    obtain⟨m2,e3,k3⟩:=am4 (K:=K) (g.ext kk) (hq.aM kk) y;have OY:Ev K 133 ((#[]:Array af).toList++[y.val]++(#[vP q 0]:Array af).toList) m1 (.bool (decide (y.n=n))) m2:=e3;rw[hd]at hf;have hf:iS cF n=if decide (y.n=n)=true then(j:Int)else zi (fun c=>decide (c.n=n)) (cF.drop (j+1)) (j+1):=hf
    by_cases h2:y.n=n
    ·rw[dZ h2]at OY hf;rw[bL rfl]at hf;obtain⟨t2,dk,dm⟩:=aU (K:=K) (m:=m1) (m':=m2) EW (aeA b cF.length c' q j y) hg (.cond c1<| .idx rfl h1<| .mem e2<| .fT OY<| .cond rfl .nil);exact .inr ⟨_,t2,m2,(fun h=>by cases h),dk,kk.aN k3,.inr ⟨rfl,by rw[dm,hf]⟩⟩
    ·rw[eO h2]at OY hf;rw[bT dB]at hf;obtain⟨t2,dk,dm⟩:=aU (K:=K) (m:=m1) (m':=m2) EW (aez b cF.length c' q j y) hg (.cond c1<| .idx rfl h1<| .mem e2<| .fT OY<| .cond rfl .nil);exact .inl ⟨_,t2,m2,av,dk,j+1,rfl,h1,by rw[dm,gH ⟨av,av⟩,hF];rfl,kk.aN k3,hf⟩
   ·have c1:(.bool (br (j:Int) (cF.length:Int)):af)= .bool false:=by rw[sB,eO h1]
    rw[hA]at hg;obtain⟨t2,dk,dm⟩:=aU (K:=K) (m:=m1) (m':=m1) EW (aey a cF.length c q j) hg (.cond c1 .nil);exact .inr ⟨_,t2,m1,(fun h=>by cases h),dk,kk,.inl ⟨rfl,by rw[hf,List.drop_of_length_le av];rfl⟩⟩)
  (n:=cF.length) (k:=100000) (tm:=t0) (m:=m) ⟨0,av,av,by rw[e0,hF];rfl,Kp.refl _ _,rfl⟩ av
 rcases hp with⟨rfl,hf⟩|⟨rfl,hg⟩
 ·obtain⟨t2,h2,e2⟩:=bQ (K:=K) (m:=m1) (m':=m1) (tm:=t1) aeB rfl .nil;rw[hf];exact⟨m1,fg X9 (aX.cut h0 (aX.iH LX L5 hx rfl (aX.last h2 NR))) (.inr rfl) e2,kk⟩
 ·exact⟨m1,fg X9 (aX.cut h0 (aX.sY LX L5 hx (by kernel_rfl))) (.inr rfl) hg,kk⟩
theorem anb (g:Gd m){cF:List pM}{v:af}(hv:cU.R B cF m v)(hl:cF.length<90000)(n:ByteArray):∃m',Ev K 106 [v,.string n] m (vI (iS cF n)) m'/\Kp m m' eU:=by
 obtain⟨a,c,hA⟩:=bj.form hv;obtain⟨m1,e1,o1,k1,n1,_⟩:=aQ g [.string n];obtain⟨m2,e2,k2⟩:=am5 (K:=K) (g.ext k1) (cU.ext hv k1 fun _ _ h=>h) hl o1;subst hA;exact⟨m2,ak (akT a cF.length c n (iS cF n) m.next) (.mem e1<| .call e2 .nil),k1.aN k2⟩
end
end Go.AM
namespace Go.AM
set_option maxRecDepth 1000000
open Go Go.Conc Go.Proofs
theorem gk {K:iK}{nt:Nat}{a:Code}{Inv:Nat->Tm->Mem->Prop}{dA:Exit->Tm->Mem->Prop}(n:Nat)
  (uL:∀j tm m,j<n->Inv j tm m->(∃eG m',uR K nt a ⟨tm,m,[]⟩ .normal ⟨eG,m',[]⟩/\Inv (j+1) eG m')\/∃e eG m',e≠ .normal/\uR K nt a ⟨tm,m,[]⟩ e ⟨eG,m',[]⟩/\dA e eG m')
  (Ft:∀tm m,Inv n tm m->∃e eG m',e≠ .normal/\uR K nt a ⟨tm,m,[]⟩ e ⟨eG,m',[]⟩/\dA e eG m')
  {tm:Tm}{m:Mem}(h0:Inv 0 tm m)(hn:n<90000):∃e eG m',e≠ .normal/\Le K nt a 100000 ⟨tm,m,[]⟩ e ⟨eG,m',[]⟩/\dA e eG m':=
 jP (Inv:=fun k tm m=>∃j,k=n-j/\j<=n/\Inv j tm m) (dA:=dA)
  (by
   rintro k tm m ⟨j,rfl,hj,hi⟩
   by_cases h:j<n
   ·rcases uL j tm m h hi with⟨eG,m',hx,HR⟩|h
    ·exact .inl ⟨_,eG,m',av,hx,j+1,rfl,h,HR⟩
    ·exact .inr h
   ·have :j=n:=av;subst this;exact .inr (Ft tm m hi))
  (n:=n) (k:=100000) ⟨0,av,av,h0⟩ av
theorem Pm {j n:Nat}(h:j<n):(.bool (br (j:Int) (n:Int)):af)= .bool true:=by rw[sB,dZ h]
theorem ID (n:Nat):(.bool (br (n:Int) (n:Int)):af)= .bool false:=by rw[sB,eO av]
theorem add1 {j:Nat}(h:j<90000):bB (j:Int) 1=((j+1:Nat):Int):=by rw[gH ⟨av,av⟩];rfl
structure Src where
 n:ByteArray
 p:Nat
 cF:List pM
def KP:j6 Src where
 R B s m v:=v= .agg #[.string s.n,vP s.p 0]/\B s.p/\∃cv rv,Obj m s.p 0 [cv,rv]/\cU.R B s.cF m cv
 mono:=by
  rintro B B' x m v ⟨e,hb,cv,rv,o,h⟩ k;exact⟨e,k _ hb,cv,rv,o,cU.mono h k⟩
 ext:=by
  rintro B S x m m' v ⟨e,hb,cv,rv,o,h⟩ k hs;exact⟨e,hb,cv,rv,o.ext k (hs _ hb),cU.ext h k hs⟩
def jS:j6 (List Src):=bj KP 2
structure Fd where
 p:Nat
 i:Nat
 j:Int
def zu:j6 Fd where
 R B x m v:=∃b,v=vP b 0/\B b/\Obj m b 0 [vP x.p 0,vI (x.i:Int),vI x.j]
 mono:=by
  rintro B B' x m v ⟨b,e,hb,o⟩ k;exact⟨b,e,k b hb,o⟩
 ext:=by
  rintro B S x m m' v ⟨b,e,hb,o⟩ k hs;exact⟨b,e,hb,o.ext k (hs b hb)⟩
theorem zu.ok{B:Nat->Prop}{x:Fd}{m:Mem}{v:af}(h:zu.R B x m v):okV 1 v:=by
 obtain⟨b,rfl,_⟩:=h;exact⟨rfl,by simp[af.cells,af.oneCell']⟩
def Fb (cF:List pM)(y:Int):Int:=((cF[y.toNat]?).map (·.k)).getD 0
def jd (s x:ByteArray):List Src->Nat->List Fd->Int->List Fd×Int
 | [],_,fd,k=>(fd,k)
 |r::l,i,fd,k=>if s≠ .empty/\s≠r.n then jd s x l (i+1) fd k else
  if 0<=iS r.cF x then jd s x l (i+1) (fd++[⟨r.p,i,iS r.cF x⟩]) (Fb r.cF (iS r.cF x))else jd s x l (i+1) fd k
def bJ:V:=⟨0,0,.empty,false⟩
def Qi (fd:List Fd×Int)(f:Int):X×Int×Int:=
 match fd.1 with
 | []=>(.lit bJ,fd.2,nE (nE f (decide (0<fd.1.length)) 3) (decide (fd.1.length<2)) 4)
 |y::_=>(.Px y.p y.i y.j,fd.2,nE (nE f (decide (0<fd.1.length)) 3) (decide (fd.1.length<2)) 4)
def Jp (cj:List Src)(s x:ByteArray)(f:Int):X×Int×Int:=Qi (jd s x cj 0 [] 0) f
theorem Hy {α:Type}{p:α->Bool}:∀{l:List α}{j:Nat},0<=zi p l j->∃i:Nat,zi p l j=((j+i:Nat):Int)/\i<l.length
 | [],j,h=>by unfold zi at h;omega
 |x::l,j,h=>by
  unfold zi at h⊢
  split
  ·exact⟨0,cK,cK⟩
  ·rename_i hx;rw[bT hx]at h;obtain⟨i,e,hi⟩:=Hy h;exact⟨i+1,by rw[e];omega,by simpa using hi⟩
theorem O5 {cF:List pM}{n:ByteArray}(h:0<=iS cF n):∃i:Nat,iS cF n=(i:Int)/\i<cF.length:=by
 obtain⟨i,e,hi⟩:=Hy h;exact⟨i,by unfold iS;rw[e];omega,hi⟩
def qN (l:List Src):Prop:=l.length<90000/\∀s∈l,s.cF.length<90000
section
variable {K:iK}{m:Mem}{c:Nat}{M1 M2:af}{f:Int}{B:Nat->Prop}
theorem adX (c n cc:Nat)(a:Option Addr)(s x:ByteArray)(aH:Nat):bF (bN 175) (ax 175) 0 4 [0,1,2] [(vP c 0),(.agg #[(aY s),(aY x)]),(.slice a n cc)]
 [cp [some (aY s),some (aY x)] aH]
 .normal [0,4,8,9,13,14,15] [(vP c 0),(vP aH 0),(.slice none 0 0),(vI 0),(.slice a n cc),(vI (n:Int)),(vI 0)]:=eF
theorem adQ (c b n cc i:Nat)(a:Option Addr)(fv:af)(k:Int):bF (bN 175) (bh (ax 175) [4]) 0 99 [0,4,8,9,13,14,15] [(vP c 0),(vP b 0),fv,(vI k),(.slice a n cc),(vI (n:Int)),(vI (i:Int))]
 [aD (br (i:Int) (n:Int)) false]
 (.exit 0) [0,8,9] [(vP c 0),fv,(vI k)]:=eF
theorem adR (c b p n cc i t:Nat)(fv:af)(k:Int)(s x nm:ByteArray)(aH:Nat):bF (bN 175) (bh (ax 175) [4]) 0 99 [0,4,8,9,13,14,15] [(vP c 0),(vP b 0),fv,(vI k),(vL p 0 n cc),(vI (n:Int)),(vI (i:Int))]
 [aD (br (i:Int) (n:Int)) true,
  .idx (i:Int) n i,
  .mem (eJ 2 p (0+i*2)) (.agg #[(aY nm),(vP t 0)]),
  cp [some dU,some (.pointer none)] aH,
  dV aH 0 [(aY nm),(vP t 0)],
  .mem (aI b 0) (aY s),
  aD ((s.toList==ByteArray.empty.toList)==false) true,
  aD ((s.toList==ByteArray.empty.toList)==false) true,
  .mem (aI b 0) (aY s),
  aD ((s.toList==ByteArray.empty.toList)==false) true,
  aD ((s.toList==ByteArray.empty.toList)==false) true,
  .mem (aI aH 0) (aY nm),
  aD ((s.toList==ByteArray.empty.toList)==false) true,
  aD ((s.toList==ByteArray.empty.toList)==false) true,
  aD ((s.toList==nm.toList)==false) true]
 .normal [0,4,8,9,13,14,15] [(vP c 0),(vP b 0),fv,(vI k),(vL p 0 n cc),(vI (n:Int)),(vI (bB (i:Int) 1))]:=eF
theorem adS (c b p n cc i t:Nat)(fv:af)(k:Int)(s x nm:ByteArray)(y:Int)(cv:af)(aH:Nat):bF (bN 175) (bh (ax 175) [4]) 0 99 [0,4,8,9,13,14,15] [(vP c 0),(vP b 0),fv,(vI k),(vL p 0 n cc),(vI (n:Int)),(vI (i:Int))]
 [aD (br (i:Int) (n:Int)) true,
  .idx (i:Int) n i,
  .mem (eJ 2 p (0+i*2)) (.agg #[(aY nm),(vP t 0)]),
  cp [some dU,some (.pointer none)] aH,
  dV aH 0 [(aY nm),(vP t 0)],
  .mem (aI b 0) (aY s),
  aD ((s.toList==ByteArray.empty.toList)==false) false,
  aD ((s.toList==ByteArray.empty.toList)==false) false,
  aD ((s.toList==ByteArray.empty.toList)==false) false,
  aD ((s.toList==ByteArray.empty.toList)==false) false,
  aD ((s.toList==ByteArray.empty.toList)==false) false,
  aD ((s.toList==ByteArray.empty.toList)==false) false,
  bm,
  .mem (aI aH 1) (vP t 0),
  .mem (aI t 0) cv,
  .mem (aI b 1) (aY x),
  .mem di undef,
  .call 106 [cv,(aY x)] (vI y),
  aD (iE y 0) false]
 .normal [0,4,8,9,13,14,15] [(vP c 0),(vP b 0),fv,(vI k),(vL p 0 n cc),(vI (n:Int)),(vI (bB (i:Int) 1))]:=eF
theorem adT (c b p n cc i t:Nat)(fv:af)(k:Int)(s x nm:ByteArray)(y:Int)(cv:af)(aH:Nat):bF (bN 175) (bh (ax 175) [4]) 0 99 [0,4,8,9,13,14,15] [(vP c 0),(vP b 0),fv,(vI k),(vL p 0 n cc),(vI (n:Int)),(vI (i:Int))]
 [aD (br (i:Int) (n:Int)) true,
  .idx (i:Int) n i,
  .mem (eJ 2 p (0+i*2)) (.agg #[(aY nm),(vP t 0)]),
  cp [some dU,some (.pointer none)] aH,
  dV aH 0 [(aY nm),(vP t 0)],
  .mem (aI b 0) (aY s),
  aD ((s.toList==ByteArray.empty.toList)==false) true,
  aD ((s.toList==ByteArray.empty.toList)==false) true,
  .mem (aI b 0) (aY s),
  aD ((s.toList==ByteArray.empty.toList)==false) true,
  aD ((s.toList==ByteArray.empty.toList)==false) true,
  .mem (aI aH 0) (aY nm),
  aD ((s.toList==ByteArray.empty.toList)==false) true,
  aD ((s.toList==ByteArray.empty.toList)==false) true,
  aD ((s.toList==nm.toList)==false) false,
  .mem (aI aH 1) (vP t 0),
  .mem (aI t 0) cv,
  .mem (aI b 1) (aY x),
  .mem di undef,
  .call 106 [cv,(aY x)] (vI y),
  aD (iE y 0) false]
 .normal [0,4,8,9,13,14,15] [(vP c 0),(vP b 0),fv,(vI k),(vL p 0 n cc),(vI (n:Int)),(vI (bB (i:Int) 1))]:=eF
theorem adV (c b p n cc i t:Nat)(fv:af)(k:Int)(s x nm:ByteArray)(Uq:af)(k2:Int)(q n2 c2 y:Nat)(aH a0 cf:Nat):bF (bN 175) (bh (ax 175) [4]) 0 99 [0,4,8,9,13,14,15] [(vP c 0),(vP b 0),fv,(vI k),(vL p 0 n cc),(vI (n:Int)),(vI (i:Int))]
 [aD (br (i:Int) (n:Int)) true,
  .idx (i:Int) n i,
  .mem (eJ 2 p (0+i*2)) (.agg #[(aY nm),(vP t 0)]),
  cp [some dU,some (.pointer none)] aH,
  dV aH 0 [(aY nm),(vP t 0)],
  .mem (aI b 0) (aY s),
  aD ((s.toList==ByteArray.empty.toList)==false) false,
  aD ((s.toList==ByteArray.empty.toList)==false) false,
  aD ((s.toList==ByteArray.empty.toList)==false) false,
  aD ((s.toList==ByteArray.empty.toList)==false) false,
  aD ((s.toList==ByteArray.empty.toList)==false) false,
  aD ((s.toList==ByteArray.empty.toList)==false) false,
  bm,
  .mem (aI aH 1) (vP t 0),
  .mem (aI t 0) (vL q 0 n2 c2),
  .mem (aI b 1) (aY x),
  .mem di undef,
  .call 106 [(vL q 0 n2 c2),(aY x)] (vI (y:Int)),
  aD (iE (y:Int) 0) true,
  .mem (aI aH 1) (vP t 0),
  cp [some (vP t 0),some (vI (i:Int)),some (vI (y:Int))] a0,
  .mem (ao ae 395 1 [(0,(vP a0 0))]) (vL cf 0 1 1),
  .mem (cV ae #[395,395] fv (vL cf 0 1 1)) Uq,
  .mem (aI aH 1) (vP t 0),
  .mem (aI t 0) (vL q 0 n2 c2),
  .idx (y:Int) n2 y,
  .mem (aI q (0+y*2+1)) (vI k2)]
 .normal [0,4,8,9,13,14,15] [(vP c 0),(vP b 0),Uq,(vI k2),(vL p 0 n cc),(vI (n:Int)),(vI (bB (i:Int) 1))]:=eF
theorem adU (c b p n cc i t:Nat)(fv:af)(k:Int)(s x nm:ByteArray)(Uq:af)(k2:Int)(q n2 c2 y:Nat)(aH a0 cf:Nat):bF (bN 175) (bh (ax 175) [4]) 0 99 [0,4,8,9,13,14,15] [(vP c 0),(vP b 0),fv,(vI k),(vL p 0 n cc),(vI (n:Int)),(vI (i:Int))]
 [aD (br (i:Int) (n:Int)) true,
  .idx (i:Int) n i,
  .mem (eJ 2 p (0+i*2)) (.agg #[(aY nm),(vP t 0)]),
  cp [some dU,some (.pointer none)] aH,
  dV aH 0 [(aY nm),(vP t 0)],
  .mem (aI b 0) (aY s),
  aD ((s.toList==ByteArray.empty.toList)==false) true,
  aD ((s.toList==ByteArray.empty.toList)==false) true,
  .mem (aI b 0) (aY s),
  aD ((s.toList==ByteArray.empty.toList)==false) true,
  aD ((s.toList==ByteArray.empty.toList)==false) true,
  .mem (aI aH 0) (aY nm),
  aD ((s.toList==ByteArray.empty.toList)==false) true,
  aD ((s.toList==ByteArray.empty.toList)==false) true,
  aD ((s.toList==nm.toList)==false) false,
  .mem (aI aH 1) (vP t 0),
  .mem (aI t 0) (vL q 0 n2 c2),
  .mem (aI b 1) (aY x),
  .mem di undef,
  .call 106 [(vL q 0 n2 c2),(aY x)] (vI (y:Int)),
  aD (iE (y:Int) 0) true,
  .mem (aI aH 1) (vP t 0),
  cp [some (vP t 0),some (vI (i:Int)),some (vI (y:Int))] a0,
  .mem (ao ae 395 1 [(0,(vP a0 0))]) (vL cf 0 1 1),
  .mem (cV ae #[395,395] fv (vL cf 0 1 1)) Uq,
  .mem (aI aH 1) (vP t 0),
  .mem (aI t 0) (vL q 0 n2 c2),
  .idx (y:Int) n2 y,
  .mem (aI q (0+y*2+1)) (vI k2)]
 .normal [0,4,8,9,13,14,15] [(vP c 0),(vP b 0),Uq,(vI k2),(vL p 0 n cc),(vI (n:Int)),(vI (bB (i:Int) 1))]:=eF
theorem adW (c:Nat)(k:Int)(aH:Nat):bF (bN 175) (ax 175) 5 99 [0,8,9] [(vP c 0),(.slice none 0 0),(vI k)]
 [.call 105 [(vP c 0),(.bool false),(vI 3)] (.tuple #[]),
  .call 105 [(vP c 0),(.bool true),(vI 4)] (.tuple #[]),
  bV,
  cp nO aH]
 .ret [6,7] [(.iface 317 (vP aH 0)),(vI k)]:=eF
theorem adP (c q l cc t:Nat)(k:Int):bF (bN 175) (ax 175) 5 99 [0,8,9] [(vP c 0),(vL q 0 l cc),(vI k)]
 [.call 105 [(vP c 0),(.bool (fD (l:Int) 0)),(vI 3)] (.tuple #[]),
  .call 105 [(vP c 0),(.bool (br (l:Int) 2)),(vI 4)] (.tuple #[]),
  aD (aZ (l:Int) 0) false,
  .idx 0 l 0,
  .mem (aI q 0) (vP t 0)]
 .ret [6,7] [(.iface 396 (vP t 0)),(vI k)]:=eF
theorem X7:jR 175 3 [6,7]=true:=bp
theorem Dh:(du (ax 175)).length<=99:=ag bp
theorem LV:dT (ax 175) 4=some (0,(bh (ax 175) [4])):=bp
theorem tO:codeOk (bN 175) (bh (ax 175) [4])=true:=bp
theorem L3:eI (bN 175) (ax 175) (bh (ax 175) [4]) 4 0=true:=bp
theorem YT {cs vs:List af}{a n i:Nat}(h:(cs.drop a).take n=vs)(hi:i<n):cs[a+i]?=vs[i]?:=by
 rw[<-h,List.getElem?_take_of_lt hi,List.getElem?_drop]
theorem amT (g:Gd m)(hc:gW m c M1 M2 f){cj:List Src}{sv:af}(hs:jS.R B cj m sv)(II:qN cj)(hB:¬B c)(wW:∀b,B b->b<m.next)(s x:ByteArray):
  ∃v m',Ev K 175 [vP c 0,.agg #[.string s,.string x],sv] m (.tuple #[v,vI (Jp cj s x f).2.1]) m'/\Kp m m' (fun y=>y=c)/\gW m' c M1 M2 (Jp cj s x f).2.2/\XR (fY m m') (Jp cj s x f).1 m' v:=by
 obtain⟨a,cc,hA⟩:=bj.form hs;have hsv:(bj KP 2).R B cj m sv:=hs;obtain⟨m1,e1,o1,k1,n1,_⟩:=aQ g [.string s,.string x];have Sv:bF (bN 175) (ax 175) 0 4 [0,1,2] [vP c 0,.agg #[.string s,.string x],sv] [cp [some (aY s),some (aY x)] m.next] .normal [0,4,8,9,13,14,15] [vP c 0,vP m.next 0,.slice none 0 0,vI 0,sv,vI (cj.length:Int),vI 0]:=by rw[hA];exact adX c cj.length cc a s x m.next
 obtain⟨t0,w0,e0⟩:=bQ (K:=K) (m:=m) (m':=m1) (tm:=entry [vP c 0,.agg #[.string s,.string x],sv]) Sv rfl (.mem e1 .nil);obtain⟨b,hb⟩:∃b,b=m.next:=⟨_,rfl⟩;rw[<-hb]at e1 o1 e0;have g1:=g.ext k1;have Bv:=hc.obj.lt;obtain⟨e,t1,m2,he,hx,rfl,kk,fv,kd,fd,hg,ls,hf⟩:=gk (K:=K) (nt:=bN 175) (a:=bh (ax 175) [4]) cj.length
  (Inv:=fun j tm m'=>∃fv kd fd,cH [0,4,8,9,13,14,15] tm=[vP c 0,vP b 0,fv,vI kd,sv,vI (cj.length:Int),vI (j:Int)]/\Kp m1 m' eU/\LS zu 1 m1 m' fd fv/\fd.length<=j/\jd s x (cj.drop j) j fd kd=jd s x cj 0 [] 0)
  (dA:=fun e tm m'=>e= .exit 0/\Kp m1 m' eU/\∃fv kd fd,cH [0,8,9] tm=[vP c 0,fv,vI kd]/\LS zu 1 m1 m' fd fv/\(fd,kd)=jd s x cj 0 [] 0)
  (by
   rintro j tm m2 hj ⟨fv,kd,fd,hg,kk,ls,IJ,hf⟩;refine .inl ?_;have lM:Kp m m2 eU:=k1.aN kk;have g2:=g1.ext kk;have hj9:j<90000:=by have :=II.1;omega
   obtain⟨p,TC,u,cs,hpv,hBp,ob,hu,hle,hE,jA⟩:=bj.get ((bj KP 2).ext hsv lM fun _ _ h=>h) hj;obtain⟨y,hy⟩:∃y,cj[j]=y:=⟨_,rfl⟩;rw[hy]at hE;obtain⟨hue,hBy,cv,rv,oy,Co⟩:=hE;subst hue;have hd:cj.drop j=y::cj.drop (j+1):=by rw[List.drop_eq_getElem_cons hj,hy]
   have hyl:y.cF.length<90000:=II.2 y (by rw[<-hy];exact List.getElem_mem hj);rw[hpv]at hg;have c1:=Pm hj;have e2:eJ 2 p (0+j*2) m2=some (.agg #[.string y.n,vP y.p 0],m2):=by rw[Nat.zero_add];exact bY (vs:=[.string y.n,vP y.p 0]) ob hu hle
   obtain⟨m3,m4,e3,e4,o4,k4,n4⟩:=eH g2 [.string .empty,.pointer none] [.string y.n,vP y.p 0] rfl rfl;have g4:=g2.ext k4;have ob4:Obj m4 b 0 [.string s,.string x]:=(o1.aM kk).aM k4;have es:aI b 0 m4=some (aY s,m4):=aJ ob4 rfl;have ex:aI b 1 m4=some (aY x,m4):=aJ ob4 rfl;have en:aI m2.next 0 m4=some (aY y.n,m4):=aJ o4 rfl;have et:aI m2.next 1 m4=some (vP y.p 0,m4):=aJ o4 rfl;have ec:aI y.p 0 m4=some (cv,m4):=aJ (oy.aM k4) rfl;have ep:di m4=some (undef,m4):=bW g4;rw[hd]at hf;have hf:(if s≠ .empty/\s≠y.n then jd s x (cj.drop (j+1)) (j+1) fd kd else
    if 0<=iS y.cF x then jd s x (cj.drop (j+1)) (j+1) (fd++[⟨y.p,j,iS y.cF x⟩]) (Fb y.cF (iS y.cF x))else jd s x (cj.drop (j+1)) (j+1) fd kd)=jd s x cj 0 [] 0:=hf
   have td:=P8 s .empty;have hsn:=P8 s y.n;obtain⟨m5,e5,k5⟩:=anb (K:=K) g4 (cU.ext Co k4 fun _ _ h=>h) hyl x;have g5:=g4.ext k5;have Ym:Kp m2 m5 eU:=k4.aN k5
   by_cases h1:s≠ .empty/\s≠y.n
   ·rw[bL h1]at hf;rw[dZ h1.1]at td;rw[dZ h1.2]at hsn;obtain⟨t2,dk,dm⟩:=aU (K:=K) (m:=m2) (m':=m4) tO (adR c b p cj.length TC j y.p fv kd s x y.n m2.next) hg (.cond c1<| .idx rfl hj<| .mem e2<| .mem e3<| .mem e4<| .mem es<| .cond td<| .cond td<| .mem es<| .cond td<| .cond td<| .mem en<| .cond td<| .cond td<| .cond hsn .nil);exact⟨t2,m4,dk,fv,kd,fd,by rw[dm,add1 hj9,hpv],kk.aN k4,ls.ext k4 fun _ h=>h.elim,av,hf⟩
   ·rw[bT h1]at hf
    by_cases h2:0<=iS y.cF x
    ·rw[bL h2]at hf;obtain⟨i,hi,Pq⟩:=O5 h2;rw[hi]at e5 hf h2;have b5:(.bool (iE (i:Int) 0):af)= .bool true:=by rw[qz,dZ h2]
     obtain⟨q,c2,u2,cs2,hqv,hBq,oq,hu2,OG,hE2,alN⟩:=bj.get (E:=jj pM.val) (cU.ext Co Ym fun _ _ h=>h) Pq;obtain⟨d,Pr⟩:∃d,y.cF[i]=d:=⟨_,rfl⟩;rw[Pr]at hE2;have hE2:u2=d.val:=hE2;subst hE2;subst hqv;obtain⟨m6,e6,o6,k6,n6,_⟩:=aQ g5 [vP y.p 0,vI (j:Int),vI (i:Int)];have k26:Kp m2 m6 eU:=Ym.aN k6;have qn:zu.R (fY m2 m6) ⟨y.p,j,i⟩ m6 (vP m5.next 0):=⟨_,rfl,⟨by have :=Ym.next;omega,av⟩,o6⟩;obtain⟨m7,m8,Uq,e7,g7,k7,e8,k8,ls8,_⟩:=ls.add (t:=395) g2 g1 kk rfl dB k26 (fun _ h=>h.elim) qn (zu.ok qn) av;have k18:Kp m1 m8 eU:=(kk.aN k26).new k8 (ai _) fun b hb=>hb.1
     have k28:Kp m2 m8 (fY m1 m2):=k26.mo.trans k8 fun _ _ h=>h
     have et5:aI m2.next 1 m5=some (vP y.p 0,m5):=aJ (o4.aM k5) rfl;have et8:aI m2.next 1 m8=some (vP y.p 0,m8):=aJ ((((o4.aM k5).aM k6)).ext k8 (fun h=>by have :=h.2;omega)) rfl;have nB:∀z,B z->¬fY m1 m2 z:=fun z hz h=>by have :=wW z hz;have :=h.1;have :=k1.next;omega
     have ec8:aI y.p 0 m8=some (vL q 0 y.cF.length c2,m8):=aJ (oy.ext k28 (nB _ hBy)) rfl;have ek:aI q (0+i*2+1) m8=some (vI d.k,m8):=aJ ((oq.aM k6).ext k8 (nB _ hBq)) (by rw[Nat.zero_add,YT hu2 dB];rfl);have hka:Fb y.cF (i:Int)=d.k:=by unfold Fb;rw[Int.toNat_natCast,List.getElem?_eq_getElem Pq,Pr];rfl
     rw[hka]at hf;have fin:∀t2,cH [0,4,8,9,13,14,15] t2=[vP c 0,vP b 0,Uq,vI d.k,vL p 0 cj.length TC,vI (cj.length:Int),vI (bB (j:Int) 1)]->∃fv kd fd,cH [0,4,8,9,13,14,15] t2=[vP c 0,vP b 0,fv,vI kd,sv,vI (cj.length:Int),vI ((j+1:Nat):Int)]/\Kp m1 m8 eU/\LS zu 1 m1 m8 fd fv/\fd.length<=j+1/\jd s x (cj.drop (j+1)) (j+1) fd kd=jd s x cj 0 [] 0:=fun t2 dm=>
      ⟨Uq,d.k,fd++[⟨y.p,j,i⟩],by rw[dm,add1 hj9,hpv],k18,ls8,by simp;omega,hf⟩
     by_cases h3:s= .empty
     ·rw[eO (by simpa using h3)]at td;obtain⟨t2,dk,dm⟩:=aU (K:=K) (m:=m2) (m':=m8) tO (adV c b p cj.length TC j y.p fv kd s x y.n Uq d.k q y.cF.length c2 i m2.next m5.next m6.next) hg
       (.cond c1<| .idx rfl hj<| .mem e2<| .mem e3<| .mem e4<| .mem es<| .cond td<| .cond td<| .cond td<| .cond td<| .cond td<| .cond td<| .cond rfl<| .mem et<| .mem ec<| .mem ex<| .mem ep<| .call e5<| .cond b5<| .mem et5<| .mem e6<| .mem e7<| .mem e8<| .mem et8<| .mem ec8<| .idx rfl Pq<| .mem ek .nil)
      exact⟨t2,m8,dk,fin t2 dm⟩
     ·have h4:s=y.n:=Classical.byContradiction fun h=>h1 ⟨h3,h⟩
      rw[dZ h3]at td;rw[eO (by simpa using h4)]at hsn;obtain⟨t2,dk,dm⟩:=aU (K:=K) (m:=m2) (m':=m8) tO (adU c b p cj.length TC j y.p fv kd s x y.n Uq d.k q y.cF.length c2 i m2.next m5.next m6.next) hg
       (.cond c1<| .idx rfl hj<| .mem e2<| .mem e3<| .mem e4<| .mem es<| .cond td<| .cond td<| .mem es<| .cond td<| .cond td<| .mem en<| .cond td<| .cond td<| .cond hsn<| .mem et<| .mem ec<| .mem ex<| .mem ep<| .call e5<| .cond b5<| .mem et5<| .mem e6<| .mem e7<| .mem e8<| .mem et8<| .mem ec8<| .idx rfl Pq<| .mem ek .nil)
      exact⟨t2,m8,dk,fin t2 dm⟩
    ·rw[bT h2]at hf;have b5:(.bool (iE (iS y.cF x) 0):af)= .bool false:=by rw[qz,eO h2]
     have fin:∀t2,cH [0,4,8,9,13,14,15] t2=[vP c 0,vP b 0,fv,vI kd,vL p 0 cj.length TC,vI (cj.length:Int),vI (bB (j:Int) 1)]->∃fv kd fd,cH [0,4,8,9,13,14,15] t2=[vP c 0,vP b 0,fv,vI kd,sv,vI (cj.length:Int),vI ((j+1:Nat):Int)]/\Kp m1 m5 eU/\LS zu 1 m1 m5 fd fv/\fd.length<=j+1/\jd s x (cj.drop (j+1)) (j+1) fd kd=jd s x cj 0 [] 0:=fun t2 dm=>
      ⟨fv,kd,fd,by rw[dm,add1 hj9,hpv],kk.aN Ym,ls.ext Ym fun _ h=>h.elim,av,hf⟩
     by_cases h3:s= .empty
     ·rw[eO (by simpa using h3)]at td;obtain⟨t2,dk,dm⟩:=aU (K:=K) (m:=m2) (m':=m5) tO (adS c b p cj.length TC j y.p fv kd s x y.n (iS y.cF x) cv m2.next) hg
       (.cond c1<| .idx rfl hj<| .mem e2<| .mem e3<| .mem e4<| .mem es<| .cond td<| .cond td<| .cond td<| .cond td<| .cond td<| .cond td<| .cond rfl<| .mem et<| .mem ec<| .mem ex<| .mem ep<| .call e5<| .cond b5 .nil)
      exact⟨t2,m5,dk,fin t2 dm⟩
     ·have h4:s=y.n:=Classical.byContradiction fun h=>h1 ⟨h3,h⟩
      rw[dZ h3]at td;rw[eO (by simpa using h4)]at hsn;obtain⟨t2,dk,dm⟩:=aU (K:=K) (m:=m2) (m':=m5) tO (adT c b p cj.length TC j y.p fv kd s x y.n (iS y.cF x) cv m2.next) hg
       (.cond c1<| .idx rfl hj<| .mem e2<| .mem e3<| .mem e4<| .mem es<| .cond td<| .cond td<| .mem es<| .cond td<| .cond td<| .mem en<| .cond td<| .cond td<| .cond hsn<| .mem et<| .mem ec<| .mem ex<| .mem ep<| .call e5<| .cond b5 .nil)
      exact⟨t2,m5,dk,fin t2 dm⟩)
  (by
   rintro tm m2 ⟨fv,kd,fd,hg,kk,ls,IJ,hf⟩;rw[hA]at hg;obtain⟨t2,dk,dm⟩:=aU (K:=K) (m:=m2) (m':=m2) tO (adQ c b cj.length cc cj.length a fv kd) hg (.cond (ID _) .nil);rw[List.drop_length]at hf;exact⟨_,t2,m2,(fun h=>by cases h),dk,rfl,kk,fv,kd,fd,dm,ls,hf⟩)
  (tm:=t0) (m:=m1) ⟨.slice none 0 0,0,[],e0,Kp.refl _ _,LS.nil,ai _,rfl⟩ II.1
 have lM:Kp m m2 eU:=k1.aN kk;have g2:=g.ext lM;have sf:=hc.aM lM;have hcb:=lM.next;have anD:=kk.next;obtain⟨m3,e3,k3,IM⟩:=Pa (K:=K) g2 sf (decide (0<fd.length)) 3;obtain⟨m4,e4,k4,OO⟩:=Pa (K:=K) (g2.ext k3) IM (decide (fd.length<2)) 4;have jV:Kp m m4 (fun y=>y=c):=(lM.mo.trans k3 fun _ _ h=>h).trans k4 fun _ _ h=>h
 have hrf:Jp cj s x f=Qi (fd,kd) f:=by unfold Jp;rw[hf]
 rw[hrf];clear hrf hf;cases fd with
 |nil=>
  rcases ls with⟨_,rfl⟩|⟨_,_,_,_,_,hp,_⟩
  ·obtain⟨m5,e5,o5,k5,n5,_⟩:=aQ (g2.ext (k3.trans k4 fun _ _ h=>h)) bJ.cells;obtain⟨t2,h2,e2⟩:=bQ (K:=K) (m:=m2) (m':=m5) (adW c kd m4.next) hg (.call e3<| .call e4<| .cond rfl<| .mem e5 .nil);have n04:=jV.next;exact⟨_,m5,fg X7 (aX.cut w0 (aX.iH LV L3 hx rfl (aX.last h2 Dh))) (.inr rfl) e2,jV.aN k5,OO.aM k5,_,rfl,⟨av,av⟩,o5⟩
  ·simp at hp
 |cons y l=>
  rcases ls with⟨h,_⟩|⟨b2,cs,cc2,rfl,uw,hp,iW,ob,jB⟩
  ·cases h
  ·obtain⟨v,rest,rfl,⟨⟨t,rfl,⟨hbt,dx⟩,ot⟩,jA⟩,_⟩:=jB;have nc:∀z,fY m1 m2 z->z≠c:=fun z hz e=>by have :=hz.1;have :=k1.next;omega
   have ob4:=(ob.ext k3 (nc _ iW)).ext k4 (nc _ iW);have ot4:=(ot.ext k3 (nc _ hbt)).ext k4 (nc _ hbt);have e5:aI b2 0 m4=some (vP t 0,m4):=aJ ob4 rfl;have b1:fD ((y::l).length:Int) 0=decide (0<(y::l).length):=by rw[gX,Bool.eq_iff_iff,jE,jE];omega
   have b2':br ((y::l).length:Int) 2=decide ((y::l).length<2):=by rw[bZ,Bool.eq_iff_iff,jE,jE];omega
   have b3:(.bool (aZ ((y::l).length:Int) 0):af)= .bool false:=by rw[cu,eO (by simp only[List.length_cons];omega)]
   rw[<-b1]at e3;rw[<-b2']at e4;obtain⟨t2,h2,e2⟩:=bQ (K:=K) (m:=m2) (m':=m4) (adP c b2 (y::l).length cc2 t kd) hg (.call e3<| .call e4<| .cond b3<| .idx rfl cK<| .mem e5 .nil);have n34:=k3.next;have n44:=k4.next;exact⟨_,m4,fg X7 (aX.cut w0 (aX.iH LV L3 hx rfl (aX.last h2 Dh))) (.inr rfl) e2,jV,OO,t,rfl,⟨by have :=hbt.1;have :=k1.next;omega,by have :=hbt.2;omega⟩,ot4⟩
end
end Go.AM
namespace Go.AM
set_option maxRecDepth 1000000
open Go Go.Conc Go.Proofs
def fK (b:Bool):V:=⟨3,0,.empty,b⟩
def mh (n:Int):V:=⟨1,n,.empty,false⟩
def nz (a b:Int):Int:=cQ.i64.wrap (a.tdiv b)
def Jo (a b:Int):Int:=a.tmod b
def vY (a b:Int):Int×Bool:=(bB a b,fD (bB a b) a==fD b 0)
def vr (a b:Int):Int×Bool:=(cO a b,br (cO a b) a==fD b 0)
def fU (a b:Int):Int×Bool:=if a=0\/b=0 then(0,true)else(jr a b,decide (nz (jr a b) b=a)&&(br (jr a b) 0== !(br a 0==br b 0)))
def su (a b:Int):Int×Bool:=if b=0\/(a= -9223372036854775808/\b= -1)then(0,false)else(nz a b,true)
def uk (a b:Int):Int×Bool:=if b=0 then(0,false)else(Jo a b,true)
def bz (op a b:Int):Int×Bool:=if op=17 then vY a b else if op=18 then vr a b else if op=10 then fU a b else if op=19 then su a b else uk a b
def j5 (op a b:Int):V×Int:=if(bz op a b).2=true then(mh (bz op a b).1,0)else(bJ,8)
def zh (a b:ByteArray):V×Int:=if 250<a.size+b.size then(bJ,8)else(⟨2,0,a++b,false⟩,0)
def tg (op o:Int):Bool:=if op=11 then aZ o 0 else if op=12 then hY o 0 else if op=13 then br o 0 else if op=14 then fW o 0 else if op=15 then fD o 0 else iE o 0
def wz (v:V):V:=if v.k=0 then bJ else fK (!v.b)
def CO (l r d:V):V:=if l.beq d=true\/r.beq d=true then d else if l.k=0\/r.k=0 then bJ else wz d
def uB (op:Int)(l r:V):V×Int:=
 if op=23\/op=37 then(CO l r (fK (aZ op 37)),0)else if l.k=0\/r.k=0 then(bJ,0)else
 if op=17\/op=18\/op=10\/op=19\/op=20 then j5 op l.n r.n else if op=21 then zh l.s r.s else(fK (tg op (FJ l r)),0)
theorem eq4 (cx cy a b:Bool):iP ae .eql 4 cx cy (.bool a) (.bool b)=some (.bool (a==b)):=by cases cx<;>cases cy<;>cases a<;>cases b<;>kernel_rfl
theorem ne4 (cx cy a b:Bool):iP ae .neq 4 cx cy (.bool a) (.bool b)=some (.bool (!(a==b))):=by cases cx<;>cases cy<;>cases a<;>cases b<;>kernel_rfl
theorem ZY (cx cy:Bool)(a b:Int)(hb:b≠0):iP ae .quo 3 cx cy (vI a) (vI b)=some (vI (nz a b)):=by
 refine wo rfl ?_ rfl;rw[gU]
 show(Op.intDiv .quo .i64 a b).aP ae=_
 unfold Op.intDiv;simp only[hb,if_false];rfl
theorem ZD (cx cy:Bool)(a b:Int)(hb:b≠0):iP ae .rem 3 cx cy (vI a) (vI b)=some (vI (Jo a b)):=by
 refine wo rfl ?_ rfl;rw[gU]
 show(Op.intDiv .rem .i64 a b).aP ae=_
 unfold Op.intDiv;simp only[hb,if_false];rfl
theorem KS (a b:Int)(hb:b≠0):mM Nat.div .i64 a b (iP ae .quo 3 false false (vI a) (vI b))=some (vI (nz a b)):=by
 rw[ZY _ _ a b hb];unfold mM
 split
 ·rename_i i
  split
  ·rename_i j
   split
   ·rename_i h;have h:i<9223372036854775808:=Nat.lt_of_succ_le (ag h);have e:nz (.ofNat i) (.ofNat (j+1))=((i / (j+1):Nat):Int):=by
     unfold nz;rw[show Int.tdiv (.ofNat i) (.ofNat (j+1))=((i / (j+1):Nat):Int)from rfl];have h2:=Nat.div_le_self i (j+1);generalize i / (j+1)=d at h2;exact lh ⟨av,av⟩
    rw[e];rfl
   ·rfl
  ·rfl
 ·rfl
theorem O0 (a b:Int)(hb:b≠0):mM Nat.mod .i64 a b (iP ae .rem 3 false false (vI a) (vI b))=some (vI (Jo a b)):=by
 rw[ZD _ _ a b hb];unfold mM
 split
 ·rename_i i
  split
  ·rename_i j
   split
   ·rename_i h;have h:i<9223372036854775808:=Nat.lt_of_succ_le (ag h);have e:Jo (.ofNat i) (.ofNat (j+1))=((i%(j+1):Nat):Int):=by
     rfl
    rw[e];rfl
   ·rfl
  ·rfl
 ·rfl
section
variable {K:iK}{m:Mem}
theorem aks (b:Bool)(aH:Nat):Path 278 [(.bool b)]
 [cp nO aH,
  dV aH 0 [(vI 3),(vI 0),dU,(.bool b)],
  lJ 49 aH (.agg #[(vI 3),(vI 0),dU,(.bool b)])]
 (.agg #[(vI 3),(vI 0),dU,(.bool b)]):=cg
theorem akj (v:V)(aH:Nat):Path 332 [(ck v)]
 [cp (pN v) aH,
  .mem (aI aH 0) (vI v.k)]
 (.bool (aZ v.k 0)):=cg
theorem afg (v:V)(aH a0:Nat):Path 336 [(ck v)]
 [cp (pN v) aH,
  cp nO a0,
  ie 4 aH (ck v),
  .call 332 [(ck v)] (.bool true),
  bV,
  dV a0 0 [(vI 0),(vI 0),dU,(.bool false)],
  lJ 49 a0 (.agg #[(vI 0),(vI 0),dU,(.bool false)])]
 (.agg #[(vI 0),(vI 0),dU,(.bool false)]):=cg
theorem afh (v u:V)(aH a0:Nat):Path 336 [(ck v)]
 [cp (pN v) aH,
  cp nO a0,
  ie 4 aH (ck v),
  .call 332 [(ck v)] (.bool false),
  bm,
  .mem (aI aH 3) (.bool v.b),
  .call 278 [(.bool (!v.b))] (ck u),
  dV a0 0 (uS u),
  lJ 49 a0 (ck u)]
 (ck u):=cg
theorem akf (v u:V)(b:Bool)(aH a0:Nat):Path 350 [(ck v)]
 [cp (pN v) aH,
  cp nO a0,
  ie 4 aH (ck v),
  .call 332 [(ck v)] (.bool b),
  .call 278 [(.bool b)] (ck u),
  dV a0 0 (uS u),
  lJ 49 a0 (ck u)]
 (ck u):=cg
theorem afp (l r d:V)(aH a0 cf rq:Nat):Path 331 [(ck l),(ck r),(ck d)]
 [cp (pN l) aH,
  cp (pN r) a0,
  cp (pN d) cf,
  cp nO rq,
  ie 4 aH (ck l),
  ie 4 cf (ck d),
  .val (iP ae .eql 49 false false (ck l) (ck d)) (.bool true),
  bV,
  bV,
  bV,
  bV,
  bV,
  ie 4 cf (ck d),
  dV rq 0 (uS d),
  lJ 49 rq (ck d)]
 (ck d):=cg
theorem afm (l r d:V)(aH a0 cf rq:Nat):Path 331 [(ck l),(ck r),(ck d)]
 [cp (pN l) aH,
  cp (pN r) a0,
  cp (pN d) cf,
  cp nO rq,
  ie 4 aH (ck l),
  ie 4 cf (ck d),
  .val (iP ae .eql 49 false false (ck l) (ck d)) (.bool false),
  bm,
  ie 4 a0 (ck r),
  bm,
  ie 4 cf (ck d),
  bm,
  .val (iP ae .eql 49 false false (ck r) (ck d)) (.bool true),
  bm,
  bV,
  ie 4 cf (ck d),
  dV rq 0 (uS d),
  lJ 49 rq (ck d)]
 (ck d):=cg
theorem afn (l r d:V)(aH a0 cf rq:Nat):Path 331 [(ck l),(ck r),(ck d)]
 [cp (pN l) aH,
  cp (pN r) a0,
  cp (pN d) cf,
  cp nO rq,
  ie 4 aH (ck l),
  ie 4 cf (ck d),
  .val (iP ae .eql 49 false false (ck l) (ck d)) (.bool false),
  bm,
  ie 4 a0 (ck r),
  bm,
  ie 4 cf (ck d),
  bm,
  .val (iP ae .eql 49 false false (ck r) (ck d)) (.bool false),
  bm,
  bm,
  ie 4 aH (ck l),
  .call 332 [(ck l)] (.bool true),
  bV,
  bV,
  bV,
  bV,
  dV rq 0 [(vI 0),(vI 0),dU,(.bool false)],
  lJ 49 rq (.agg #[(vI 0),(vI 0),dU,(.bool false)])]
 (.agg #[(vI 0),(vI 0),dU,(.bool false)]):=cg
theorem afo (l r d:V)(aH a0 cf rq:Nat):Path 331 [(ck l),(ck r),(ck d)]
 [cp (pN l) aH,
  cp (pN r) a0,
  cp (pN d) cf,
  cp nO rq,
  ie 4 aH (ck l),
  ie 4 cf (ck d),
  .val (iP ae .eql 49 false false (ck l) (ck d)) (.bool false),
  bm,
  ie 4 a0 (ck r),
  bm,
  ie 4 cf (ck d),
  bm,
  .val (iP ae .eql 49 false false (ck r) (ck d)) (.bool false),
  bm,
  bm,
  ie 4 aH (ck l),
  .call 332 [(ck l)] (.bool false),
  bm,
  ie 4 a0 (ck r),
  bm,
  .call 332 [(ck r)] (.bool true),
  bm,
  bV,
  dV rq 0 [(vI 0),(vI 0),dU,(.bool false)],
  lJ 49 rq (.agg #[(vI 0),(vI 0),dU,(.bool false)])]
 (.agg #[(vI 0),(vI 0),dU,(.bool false)]):=cg
theorem afq (l r d u:V)(aH a0 cf rq:Nat):Path 331 [(ck l),(ck r),(ck d)]
 [cp (pN l) aH,
  cp (pN r) a0,
  cp (pN d) cf,
  cp nO rq,
  ie 4 aH (ck l),
  ie 4 cf (ck d),
  .val (iP ae .eql 49 false false (ck l) (ck d)) (.bool false),
  bm,
  ie 4 a0 (ck r),
  bm,
  ie 4 cf (ck d),
  bm,
  .val (iP ae .eql 49 false false (ck r) (ck d)) (.bool false),
  bm,
  bm,
  ie 4 aH (ck l),
  .call 332 [(ck l)] (.bool false),
  bm,
  ie 4 a0 (ck r),
  bm,
  .call 332 [(ck r)] (.bool false),
  bm,
  bm,
  ie 4 cf (ck d),
  .call 336 [(ck d)] (ck u),
  dV rq 0 (uS u),
  lJ 49 rq (ck u)]
 (ck u):=cg
theorem aki (a b:Int)(b1:Bool):Path 338 [(vI a),(vI b)]
 [.val (iP ae .eql 4 false false (.bool (fD (bB a b) a)) (.bool (fD b 0))) (.bool b1)]
 (.tuple #[(vI (bB a b)),(.bool b1)]):=cg
theorem akh (a b:Int)(b1:Bool):Path 339 [(vI a),(vI b)]
 [.val (iP ae .eql 4 false false (.bool (br (cO a b) a)) (.bool (fD b 0))) (.bool b1)]
 (.tuple #[(vI (cO a b)),(.bool b1)]):=cg
theorem afc (a b:Int):Path 340 [(vI a),(vI b)]
 [aD (aZ a 0) true,
  aD (aZ a 0) true,
  aD (aZ a 0) true,
  bV]
 (.tuple #[(vI 0),(.bool true)]):=cg
theorem afd (a b:Int):Path 340 [(vI a),(vI b)]
 [aD (aZ a 0) false,
  aD (aZ a 0) false,
  aD (aZ a 0) false,
  aD (aZ b 0) true]
 (.tuple #[(vI 0),(.bool true)]):=cg
theorem aff (a b:Int)(b1:Bool)(x1:Int):Path 340 [(vI a),(vI b)]
 [aD (aZ a 0) false,
  aD (aZ a 0) false,
  aD (aZ a 0) false,
  aD (aZ b 0) false,
  .val (iP ae .neq 4 false false (.bool (br a 0)) (.bool (br b 0))) (.bool b1),
  .val (mM Nat.div .i64 (jr a b) b (iP ae .quo 3 false false (vI (jr a b)) (vI b))) (vI x1),
  aD (aZ x1 a) false,
  aD (aZ x1 a) false,
  aD (aZ x1 a) false,
  aD (aZ x1 a) false,
  aD (aZ x1 a) false]
 (.tuple #[(vI (jr a b)),(.bool false)]):=cg
theorem afe (a b:Int)(b1 b2:Bool)(x1:Int):Path 340 [(vI a),(vI b)]
 [aD (aZ a 0) false,
  aD (aZ a 0) false,
  aD (aZ a 0) false,
  aD (aZ b 0) false,
  .val (iP ae .neq 4 false false (.bool (br a 0)) (.bool (br b 0))) (.bool b1),
  .val (mM Nat.div .i64 (jr a b) b (iP ae .quo 3 false false (vI (jr a b)) (vI b))) (vI x1),
  aD (aZ x1 a) true,
  aD (aZ x1 a) true,
  aD (aZ x1 a) true,
  aD (aZ x1 a) true,
  .val (iP ae .eql 4 false false (.bool (br (jr a b) 0)) (.bool b1)) (.bool b2),
  aD (aZ x1 a) true]
 (.tuple #[(vI (jr a b)),(.bool b2)]):=cg
theorem ae8 (a b:Int):Path 341 [(vI a),(vI b)]
 [aD (aZ b 0) true,
  aD (aZ b 0) true,
  aD (aZ b 0) true,
  aD (aZ b 0) true,
  aD (aZ b 0) true,
  bV]
 (.tuple #[(vI 0),(.bool false)]):=cg
theorem afb (a b:Int)(x1:Int):Path 341 [(vI a),(vI b)]
 [aD (aZ b 0) false,
  aD (aZ b 0) false,
  aD (aZ b 0) false,
  aD (aZ a (-9223372036854775808)) false,
  aD (aZ a (-9223372036854775808)) false,
  aD (aZ b 0) false,
  aD (aZ a (-9223372036854775808)) false,
  aD (aZ b 0) false,
  bm,
  .val (mM Nat.div .i64 a b (iP ae .quo 3 false false (vI a) (vI b))) (vI x1)]
 (.tuple #[(vI x1),(.bool true)]):=cg
theorem afa (a b:Int):Path 341 [(vI a),(vI b)]
 [aD (aZ b 0) false,
  aD (aZ b 0) false,
  aD (aZ b 0) false,
  aD (aZ a (-9223372036854775808)) true,
  aD (aZ a (-9223372036854775808)) true,
  aD (aZ b 0) false,
  aD (aZ a (-9223372036854775808)) true,
  aD (aZ b 0) false,
  aD (aZ b (-1)) true]
 (.tuple #[(vI 0),(.bool false)]):=cg
theorem ae9 (a b:Int)(x1:Int):Path 341 [(vI a),(vI b)]
 [aD (aZ b 0) false,
  aD (aZ b 0) false,
  aD (aZ b 0) false,
  aD (aZ a (-9223372036854775808)) true,
  aD (aZ a (-9223372036854775808)) true,
  aD (aZ b 0) false,
  aD (aZ a (-9223372036854775808)) true,
  aD (aZ b 0) false,
  aD (aZ b (-1)) false,
  .val (mM Nat.div .i64 a b (iP ae .quo 3 false false (vI a) (vI b))) (vI x1)]
 (.tuple #[(vI x1),(.bool true)]):=cg
theorem ae6 (a b:Int):Path 342 [(vI a),(vI b)]
 [aD (aZ b 0) true]
 (.tuple #[(vI 0),(.bool false)]):=cg
theorem ae7 (a b:Int)(x1:Int):Path 342 [(vI a),(vI b)]
 [aD (aZ b 0) false,
  .val (mM Nat.mod .i64 a b (iP ae .rem 3 false false (vI a) (vI b))) (vI x1)]
 (.tuple #[(vI x1),(.bool true)]):=cg
theorem Z7 (op a b x:Int)(y:Bool):Path 337 [(vI op),(vI a),(vI b)]
 [aD (aZ op 17) true,
  .call 338 [(vI a),(vI b)] (.tuple #[(vI x),(.bool y)])]
 (.tuple #[(vI x),(.bool y)]):=cg
theorem Z6 (op a b x:Int)(y:Bool):Path 337 [(vI op),(vI a),(vI b)]
 [aD (aZ op 17) false,
  aD (aZ op 18) true,
  .call 339 [(vI a),(vI b)] (.tuple #[(vI x),(.bool y)])]
 (.tuple #[(vI x),(.bool y)]):=cg
theorem Z5 (op a b x:Int)(y:Bool):Path 337 [(vI op),(vI a),(vI b)]
 [aD (aZ op 17) false,
  aD (aZ op 18) false,
  aD (aZ op 10) true,
  .call 340 [(vI a),(vI b)] (.tuple #[(vI x),(.bool y)])]
 (.tuple #[(vI x),(.bool y)]):=cg
theorem Z4 (op a b x:Int)(y:Bool):Path 337 [(vI op),(vI a),(vI b)]
 [aD (aZ op 17) false,
  aD (aZ op 18) false,
  aD (aZ op 10) false,
  aD (aZ op 19) true,
  .call 341 [(vI a),(vI b)] (.tuple #[(vI x),(.bool y)])]
 (.tuple #[(vI x),(.bool y)]):=cg
theorem Z3 (op a b x:Int)(y:Bool):Path 337 [(vI op),(vI a),(vI b)]
 [aD (aZ op 17) false,
  aD (aZ op 18) false,
  aD (aZ op 10) false,
  aD (aZ op 19) false,
  .call 342 [(vI a),(vI b)] (.tuple #[(vI x),(.bool y)])]
 (.tuple #[(vI x),(.bool y)]):=cg
theorem afl (op a b x:Int)(aH:Nat):Path 333 [(vI op),(vI a),(vI b)]
 [cp nO aH,
  .call 337 [(vI op),(vI a),(vI b)] (.tuple #[(vI x),(.bool false)]),
  bV,
  dV aH 0 [(vI 0),(vI 0),dU,(.bool false)],
  lJ 49 aH (.agg #[(vI 0),(vI 0),dU,(.bool false)])]
 (.tuple #[(.agg #[(vI 0),(vI 0),dU,(.bool false)]),(vI 8)]):=cg
theorem afk (op a b x:Int)(aH:Nat):Path 333 [(vI op),(vI a),(vI b)]
 [cp nO aH,
  .call 337 [(vI op),(vI a),(vI b)] (.tuple #[(vI x),(.bool true)]),
  bm,
  dV aH 0 [(vI 1),(vI x),dU,(.bool false)],
  lJ 49 aH (.agg #[(vI 1),(vI x),dU,(.bool false)])]
 (.tuple #[(.agg #[(vI 1),(vI x),dU,(.bool false)]),(vI 0)]):=cg
theorem afj (a b:ByteArray)(aH:Nat):Path 334 [(aY a),(aY b)]
 [cp nO aH,
  aD (fD (bB (a.size:Int) (b.size:Int)) 250) true,
  dV aH 0 [(vI 0),(vI 0),dU,(.bool false)],
  lJ 49 aH (.agg #[(vI 0),(vI 0),dU,(.bool false)])]
 (.tuple #[(.agg #[(vI 0),(vI 0),dU,(.bool false)]),(vI 8)]):=cg
theorem afi (a b:ByteArray)(aH:Nat):Path 334 [(aY a),(aY b)]
 [cp nO aH,
  aD (fD (bB (a.size:Int) (b.size:Int)) 250) false,
  .val (jM a b) (aY (a++b)),
  dV aH 0 [(vI 2),(vI 0),(aY (a++b)),(.bool false)],
  lJ 49 aH (.agg #[(vI 2),(vI 0),(aY (a++b)),(.bool false)])]
 (.tuple #[(.agg #[(vI 2),(vI 0),(aY (a++b)),(.bool false)]),(vI 0)]):=cg
theorem aae (op o:Int):Path 335 [(vI op),(vI o)]
 [aD (aZ op 11) true]
 (.bool (aZ o 0)):=cg
theorem aad (op o:Int):Path 335 [(vI op),(vI o)]
 [aD (aZ op 11) false,
  aD (aZ op 12) true]
 (.bool (hY o 0)):=cg
theorem aac (op o:Int):Path 335 [(vI op),(vI o)]
 [aD (aZ op 11) false,
  aD (aZ op 12) false,
  aD (aZ op 13) true]
 (.bool (br o 0)):=cg
theorem Z' (op o:Int):Path 335 [(vI op),(vI o)]
 [aD (aZ op 11) false,
  aD (aZ op 12) false,
  aD (aZ op 13) false,
  aD (aZ op 14) true]
 (.bool (fW o 0)):=cg
theorem Z9 (op o:Int):Path 335 [(vI op),(vI o)]
 [aD (aZ op 11) false,
  aD (aZ op 12) false,
  aD (aZ op 13) false,
  aD (aZ op 14) false,
  aD (aZ op 15) true]
 (.bool (fD o 0)):=cg
theorem Z8 (op o:Int):Path 335 [(vI op),(vI o)]
 [aD (aZ op 11) false,
  aD (aZ op 12) false,
  aD (aZ op 13) false,
  aD (aZ op 14) false,
  aD (aZ op 15) false]
 (.bool (iE o 0)):=cg
theorem afw (op:Int)(l r u d:V)(aH a0 cf so zX:Nat):Path 330 [(vI op),(ck l),(ck r)]
 [cp (pN l) aH,
  cp (pN r) a0,
  cp nO cf,
  aD (aZ op 23) true,
  aD (aZ op 23) true,
  ie 4 aH (ck l),
  .mem (fe (vP aH 0)) (vI (so:Int)),
  ie 4 a0 (ck r),
  .mem (fe (vP a0 0)) (vI (zX:Int)),
  .mem di undef,
  .call 278 [(.bool (aZ op 37))] (ck d),
  .mem (bS (vI (so:Int)) (vP aH 0) (dw ae 49 (vP aH 0))) undef,
  .mem (bS (vI (zX:Int)) (vP a0 0) (dw ae 49 (vP a0 0))) undef,
  .mem di undef,
  .call 331 [(ck l),(ck r),(ck d)] (ck u),
  .mem di undef,
  dV cf 0 (uS u),
  lJ 49 cf (ck u)]
 (.tuple #[(ck u),(vI 0)]):=cg
theorem afs (op:Int)(l r u d:V)(aH a0 cf so zX:Nat):Path 330 [(vI op),(ck l),(ck r)]
 [cp (pN l) aH,
  cp (pN r) a0,
  cp nO cf,
  aD (aZ op 23) false,
  aD (aZ op 37) true,
  ie 4 aH (ck l),
  .mem (fe (vP aH 0)) (vI (so:Int)),
  ie 4 a0 (ck r),
  .mem (fe (vP a0 0)) (vI (zX:Int)),
  .mem di undef,
  .call 278 [(.bool (aZ op 37))] (ck d),
  .mem (bS (vI (so:Int)) (vP aH 0) (dw ae 49 (vP aH 0))) undef,
  .mem (bS (vI (zX:Int)) (vP a0 0) (dw ae 49 (vP a0 0))) undef,
  .mem di undef,
  .call 331 [(ck l),(ck r),(ck d)] (ck u),
  .mem di undef,
  dV cf 0 (uS u),
  lJ 49 cf (ck u)]
 (.tuple #[(ck u),(vI 0)]):=cg
theorem aft (op:Int)(l r:V)(aH a0 cf:Nat):Path 330 [(vI op),(ck l),(ck r)]
 [cp (pN l) aH,
  cp (pN r) a0,
  cp nO cf,
  aD (aZ op 23) false,
  aD (aZ op 37) false,
  ie 4 aH (ck l),
  .call 332 [(ck l)] (.bool true),
  bV,
  bV,
  bV,
  bV,
  dV cf 0 [(vI 0),(vI 0),dU,(.bool false)],
  lJ 49 cf (.agg #[(vI 0),(vI 0),dU,(.bool false)])]
 (.tuple #[(.agg #[(vI 0),(vI 0),dU,(.bool false)]),(vI 0)]):=cg
theorem afr (op:Int)(l r:V)(aH a0 cf:Nat):Path 330 [(vI op),(ck l),(ck r)]
 [cp (pN l) aH,
  cp (pN r) a0,
  cp nO cf,
  aD (aZ op 23) false,
  aD (aZ op 37) false,
  ie 4 aH (ck l),
  .call 332 [(ck l)] (.bool false),
  bm,
  ie 4 a0 (ck r),
  bm,
  .call 332 [(ck r)] (.bool true),
  bm,
  bV,
  dV cf 0 [(vI 0),(vI 0),dU,(.bool false)],
  lJ 49 cf (.agg #[(vI 0),(vI 0),dU,(.bool false)])]
 (.tuple #[(.agg #[(vI 0),(vI 0),dU,(.bool false)]),(vI 0)]):=cg
theorem aaj (op x:Int)(l r u:V)(aH a0 cf:Nat):Path 330 [(vI op),(ck l),(ck r)]
 [cp (pN l) aH,
  cp (pN r) a0,
  cp nO cf,
  aD (aZ op 23) false,
  aD (aZ op 37) false,
  ie 4 aH (ck l),
  .call 332 [(ck l)] (.bool false),
  bm,
  ie 4 a0 (ck r),
  bm,
  .call 332 [(ck r)] (.bool false),
  bm,
  bm,
  aD (aZ op 17) true,
  aD (aZ op 17) true,
  .mem (aI aH 1) (vI l.n),
  .mem (aI a0 1) (vI r.n),
  .call 333 [(vI op),(vI l.n),(vI r.n)] (.tuple #[(ck u),(vI x)]),
  dV cf 0 (uS u),
  lJ 49 cf (ck u)]
 (.tuple #[(ck u),(vI x)]):=cg
theorem aai (op x:Int)(l r u:V)(aH a0 cf:Nat):Path 330 [(vI op),(ck l),(ck r)]
 [cp (pN l) aH,
  cp (pN r) a0,
  cp nO cf,
  aD (aZ op 23) false,
  aD (aZ op 37) false,
  ie 4 aH (ck l),
  .call 332 [(ck l)] (.bool false),
  bm,
  ie 4 a0 (ck r),
  bm,
  .call 332 [(ck r)] (.bool false),
  bm,
  bm,
  aD (aZ op 17) false,
  aD (aZ op 18) true,
  aD (aZ op 18) true,
  .mem (aI aH 1) (vI l.n),
  .mem (aI a0 1) (vI r.n),
  .call 333 [(vI op),(vI l.n),(vI r.n)] (.tuple #[(ck u),(vI x)]),
  dV cf 0 (uS u),
  lJ 49 cf (ck u)]
 (.tuple #[(ck u),(vI x)]):=cg
theorem aah (op x:Int)(l r u:V)(aH a0 cf:Nat):Path 330 [(vI op),(ck l),(ck r)]
 [cp (pN l) aH,
  cp (pN r) a0,
  cp nO cf,
  aD (aZ op 23) false,
  aD (aZ op 37) false,
  ie 4 aH (ck l),
  .call 332 [(ck l)] (.bool false),
  bm,
  ie 4 a0 (ck r),
  bm,
  .call 332 [(ck r)] (.bool false),
  bm,
  bm,
  aD (aZ op 17) false,
  aD (aZ op 18) false,
  aD (aZ op 10) true,
  aD (aZ op 10) true,
  .mem (aI aH 1) (vI l.n),
  .mem (aI a0 1) (vI r.n),
  .call 333 [(vI op),(vI l.n),(vI r.n)] (.tuple #[(ck u),(vI x)]),
  dV cf 0 (uS u),
  lJ 49 cf (ck u)]
 (.tuple #[(ck u),(vI x)]):=cg
theorem aag (op x:Int)(l r u:V)(aH a0 cf:Nat):Path 330 [(vI op),(ck l),(ck r)]
 [cp (pN l) aH,
  cp (pN r) a0,
  cp nO cf,
  aD (aZ op 23) false,
  aD (aZ op 37) false,
  ie 4 aH (ck l),
  .call 332 [(ck l)] (.bool false),
  bm,
  ie 4 a0 (ck r),
  bm,
  .call 332 [(ck r)] (.bool false),
  bm,
  bm,
  aD (aZ op 17) false,
  aD (aZ op 18) false,
  aD (aZ op 10) false,
  aD (aZ op 19) true,
  aD (aZ op 19) true,
  .mem (aI aH 1) (vI l.n),
  .mem (aI a0 1) (vI r.n),
  .call 333 [(vI op),(vI l.n),(vI r.n)] (.tuple #[(ck u),(vI x)]),
  dV cf 0 (uS u),
  lJ 49 cf (ck u)]
 (.tuple #[(ck u),(vI x)]):=cg
theorem aaf (op x:Int)(l r u:V)(aH a0 cf:Nat):Path 330 [(vI op),(ck l),(ck r)]
 [cp (pN l) aH,
  cp (pN r) a0,
  cp nO cf,
  aD (aZ op 23) false,
  aD (aZ op 37) false,
  ie 4 aH (ck l),
  .call 332 [(ck l)] (.bool false),
  bm,
  ie 4 a0 (ck r),
  bm,
  .call 332 [(ck r)] (.bool false),
  bm,
  bm,
  aD (aZ op 17) false,
  aD (aZ op 18) false,
  aD (aZ op 10) false,
  aD (aZ op 19) false,
  aD (aZ op 20) true,
  .mem (aI aH 1) (vI l.n),
  .mem (aI a0 1) (vI r.n),
  .call 333 [(vI op),(vI l.n),(vI r.n)] (.tuple #[(ck u),(vI x)]),
  dV cf 0 (uS u),
  lJ 49 cf (ck u)]
 (.tuple #[(ck u),(vI x)]):=cg
theorem afu (op x:Int)(l r u:V)(aH a0 cf:Nat):Path 330 [(vI op),(ck l),(ck r)]
 [cp (pN l) aH,
  cp (pN r) a0,
  cp nO cf,
  aD (aZ op 23) false,
  aD (aZ op 37) false,
  ie 4 aH (ck l),
  .call 332 [(ck l)] (.bool false),
  bm,
  ie 4 a0 (ck r),
  bm,
  .call 332 [(ck r)] (.bool false),
  bm,
  bm,
  aD (aZ op 17) false,
  aD (aZ op 18) false,
  aD (aZ op 10) false,
  aD (aZ op 19) false,
  aD (aZ op 20) false,
  aD (aZ op 21) true,
  .mem (aI aH 2) (aY l.s),
  .mem (aI a0 2) (aY r.s),
  .call 334 [(aY l.s),(aY r.s)] (.tuple #[(ck u),(vI x)]),
  dV cf 0 (uS u),
  lJ 49 cf (ck u)]
 (.tuple #[(ck u),(vI x)]):=cg
theorem afv (op x:Int)(l r u:V)(b:Bool)(aH a0 cf:Nat):Path 330 [(vI op),(ck l),(ck r)]
 [cp (pN l) aH,
  cp (pN r) a0,
  cp nO cf,
  aD (aZ op 23) false,
  aD (aZ op 37) false,
  ie 4 aH (ck l),
  .call 332 [(ck l)] (.bool false),
  bm,
  ie 4 a0 (ck r),
  bm,
  .call 332 [(ck r)] (.bool false),
  bm,
  bm,
  aD (aZ op 17) false,
  aD (aZ op 18) false,
  aD (aZ op 10) false,
  aD (aZ op 19) false,
  aD (aZ op 20) false,
  aD (aZ op 21) false,
  ie 4 aH (ck l),
  ie 4 a0 (ck r),
  .call 155 [(ck l),(ck r)] (vI x),
  .call 335 [(vI op),(vI x)] (.bool b),
  .call 278 [(.bool b)] (ck u),
  dV cf 0 (uS u),
  lJ 49 cf (ck u)]
 (.tuple #[(ck u),(vI 0)]):=cg
theorem iO {m0:Mem}{S:Nat->Prop}{b:Nat}(g0:Gd m0)(k:Kp m0 m S)(hb:m0.next<=b)(o:Obj m b 0 [vI 0,vI 0,.string .empty,.bool false])(u:V):
  ∃m',sO b 0 [vI u.k,vI u.n,.string u.s,.bool u.b] m=some (undef,m')/\fV ae 49 (vP b 0) m'=some (.agg #[vI u.k,vI u.n,.string u.s,.bool u.b],m')/\Kp m m' (fun y=>y=b):=by
 obtain⟨m',e,o',k'⟩:=dO (o:=0) [vI u.k,vI u.n,.string u.s,.bool u.b] o ((g0.own k hb).may _ _) (ag rfl) rfl;exact⟨m',e,dK o' rfl Ec.1 Ec.2,k'⟩
theorem mG {m0 m1 m2:Mem}{b:Nat}(k:Kp m0 m1 eU)(k':Kp m1 m2 (fun y=>y=b))(hb:m0.next<=b):Kp m0 m2 eU:=k.new k' (N:=m0.next) (ai _) fun y hy=>by rw[hy];exact hb
theorem qY {a b:Int}(h:a=b):(.bool (aZ a b):af)= .bool true:=by rw[cu,dZ h]
theorem gj {a b:Int}(h:¬a=b):(.bool (aZ a b):af)= .bool false:=by rw[cu,eO h]
theorem Xu (g:Gd m)(b:Bool):∃m',Ev K 278 [.bool b] m (fK b).val m'/\Kp m m' eU:=by
 obtain⟨m1,e1,o1,k1,n1,_⟩:=aQ g [vI 0,vI 0,.string .empty,.bool false];obtain⟨m2,e2,e3,k2⟩:=iO g k1 (ai _) o1 (fK b);exact⟨m2,ak (aks b _) (.mem e1<| .mem e2<| .mem e3 .nil),mG k1 k2 (ai _)⟩
theorem O7 (g:Gd m)(v:V):∃m',Ev K 332 [v.val] m (.bool (decide (v.k=0))) m'/\Kp m m' eU:=by
 obtain⟨m1,e1,o1,k1,n1,_⟩:=aQ g v.cells;have e2:aI m.next 0 m1=some (vI v.k,m1):=aJ o1 rfl;rw[<-cu];exact⟨m1,ak (akj v _) (.mem e1<| .mem e2 .nil),k1⟩
theorem aiz (g:Gd m)(v:V):∃m',Ev K 336 [v.val] m (wz v).val m'/\Kp m m' eU:=by
 obtain⟨m1,e1,o1,k1,n1,_⟩:=aQ g v.cells;obtain⟨m2,e2,o2,k2,n2,_⟩:=aQ (g.ext k1) [vI 0,vI 0,.string .empty,.bool false];have lM:=k1.aN k2;have g2:=g.ext lM;have zI:=o1.aM k2;have l1:eJ 4 m.next 0 m2=some (v.val,m2):=bY (vs:=v.cells) zI rfl (ag rfl);obtain⟨m3,e3,k3⟩:=O7 (K:=K) g2 v;have sx:=lM.aN k3;have g3:=g2.ext k3
 by_cases h:v.k=0
 ·rw[dZ h]at e3;obtain⟨m4,e4,e5,k4⟩:=iO g sx (b:=m1.next) av (o2.aM k3) bJ;have hv:wz v=bJ:=bL h;rw[hv];exact⟨m4,ak (afg v ..) (.mem e1<| .mem e2<| .mem l1<| .call e3<| .cond rfl<| .mem e4<| .mem e5 .nil),mG sx k4 av⟩
 ·rw[eO h]at e3;have l2:aI m.next 3 m3=some (.bool v.b,m3):=aJ (zI.aM k3) rfl;obtain⟨m4,e4,k4⟩:=Xu (K:=K) g3 (!v.b);have jV:=sx.aN k4;obtain⟨m5,e5,e6,k5⟩:=iO g jV (b:=m1.next) av ((o2.aM k3).aM k4) (fK (!v.b));have hv:wz v=fK (!v.b):=bT h;rw[hv];exact⟨m5,ak (afh v (fK (!v.b)) ..) (.mem e1<| .mem e2<| .mem l1<| .call e3<| .cond rfl<| .mem l2<| .call e4<| .mem e5<| .mem e6 .nil),mG jV k5 av⟩
theorem amu (g:Gd m)(v:V):∃m',Ev K 350 [v.val] m (fK (decide (v.k=0))).val m'/\Kp m m' eU:=by
 obtain⟨m1,e1,o1,k1,n1,_⟩:=aQ g v.cells;obtain⟨m2,e2,o2,k2,n2,_⟩:=aQ (g.ext k1) [vI 0,vI 0,.string .empty,.bool false];have lM:=k1.aN k2;have g2:=g.ext lM;have l1:eJ 4 m.next 0 m2=some (v.val,m2):=bY (vs:=v.cells) (o1.aM k2) rfl (ag rfl);obtain⟨m3,e3,k3⟩:=O7 (K:=K) g2 v;have sx:=lM.aN k3;obtain⟨m4,e4,k4⟩:=Xu (K:=K) (g2.ext k3) (decide (v.k=0));have jV:=sx.aN k4;obtain⟨m5,e5,e6,k5⟩:=iO g jV (b:=m1.next) av ((o2.aM k3).aM k4) (fK (decide (v.k=0)));exact⟨m5,ak (akf v (fK (decide (v.k=0))) ..) (.mem e1<| .mem e2<| .mem l1<| .call e3<| .call e4<| .mem e5<| .mem e6 .nil),mG jV k5 av⟩
theorem aiq {b:Nat}{v:V}(o:Obj m b 0 v.cells):bS (vI ((m.blk b).bw:Int)) (vP b 0) (dw ae 49 (vP b 0)) m=some (undef,m):=aip (vs:=v.cells) o rfl (ag rfl) Ec.1 Ec.2 rfl
theorem oU {m':Mem}{b:Nat}(k:Kp m m' eU)(h:b<m.next):(m'.blk b).bw=(m.blk b).bw:=by rw[k.blk b h id]
theorem FL {m':Mem}{b:Nat}{v:V}(o:Obj m b 0 v.cells)(k:Kp m m' eU):bS (vI ((m.blk b).bw:Int)) (vP b 0) (dw ae 49 (vP b 0)) m'=some (undef,m'):=by
 rw[<-oU k o.lt];exact aiq (o.aM k)
theorem amE (g:Gd m)(l r d:V):∃m',Ev K 331 [l.val,r.val,d.val] m (CO l r d).val m'/\Kp m m' eU:=by
 obtain⟨m1,e1,o1,k1,n1,_⟩:=aQ g l.cells;obtain⟨m2,e2,o2,k2,n2,_⟩:=aQ (g.ext k1) r.cells;have lM:=k1.aN k2;obtain⟨m3,e3,o3,k3,n3,_⟩:=aQ (g.ext lM) d.cells;have sx:=lM.aN k3;obtain⟨m4,e4,o4,k4,n4,_⟩:=aQ (g.ext sx) [vI 0,vI 0,.string .empty,.bool false];have jV:=sx.aN k4;have g4:=g.ext jV;have zI:=((o1.aM k2).aM k3).aM k4;have IA:=(o2.aM k3).aM k4;have o3':=o3.aM k4;have l1:eJ 4 m.next 0 m4=some (l.val,m4):=bY (vs:=l.cells) zI rfl (ag rfl);have l2:eJ 4 m1.next 0 m4=some (r.val,m4):=bY (vs:=r.cells) IA rfl (ag rfl);have l3:eJ 4 m2.next 0 m4=some (d.val,m4):=bY (vs:=d.cells) o3' rfl (ag rfl);have v1:=Tk false false l d;have v2:=Tk false false r d;have done:l.beq d=true\/r.beq d=true->CO l r d=d:=fun h=>bL h
 by_cases h1:l.beq d=true
 ·rw[h1]at v1;obtain⟨m5,e5,e6,k5⟩:=iO g jV (b:=m3.next) av o4 d;rw[done (.inl h1)];exact⟨m5,ak (afp l r d ..) (.mem e1<| .mem e2<| .mem e3<| .mem e4<| .mem l1<| .mem l3<| .val v1<| .cond rfl<| .cond rfl<| .cond rfl<| .cond rfl<| .cond rfl<| .mem l3<| .mem e5<| .mem e6 .nil),mG jV k5 av⟩
 ·rw[Bool.not_eq_true]at h1;rw[h1]at v1
  by_cases h2:r.beq d=true
  ·rw[h2]at v2;obtain⟨m5,e5,e6,k5⟩:=iO g jV (b:=m3.next) av o4 d;rw[done (.inr h2)];exact⟨m5,ak (afm l r d ..) (.mem e1<| .mem e2<| .mem e3<| .mem e4<| .mem l1<| .mem l3<| .val v1<| .cond rfl<| .mem l2<| .cond rfl<| .mem l3<| .cond rfl<| .val v2<| .cond rfl<| .cond rfl<| .mem l3<| .mem e5<| .mem e6 .nil),mG jV k5 av⟩
  ·rw[Bool.not_eq_true]at h2;rw[h2]at v2;have hn:CO l r d=if l.k=0\/r.k=0 then bJ else wz d:=bT (by rw[h1,h2];simp);rw[hn];obtain⟨m5,e5,k5⟩:=O7 (K:=K) g4 l;have pD:=jV.aN k5;have g5:=g4.ext k5
   by_cases h3:l.k=0
   ·rw[dZ h3]at e5;rw[bL (.inl h3)];obtain⟨m6,e6,e7,k6⟩:=iO g pD (b:=m3.next) av (o4.aM k5) bJ;exact⟨m6,ak (afn l r d ..) (.mem e1<| .mem e2<| .mem e3<| .mem e4<| .mem l1<| .mem l3<| .val v1<| .cond rfl<| .mem l2<| .cond rfl<| .mem l3<| .cond rfl<| .val v2<| .cond rfl<| .cond rfl<| .mem l1<| .call e5<| .cond rfl<| .cond rfl<| .cond rfl<| .cond rfl<| .mem e6<| .mem e7 .nil),mG pD k6 av⟩
   ·rw[eO h3]at e5;have Yi:eJ 4 m1.next 0 m5=some (r.val,m5):=bY (vs:=r.cells) (IA.aM k5) rfl (ag rfl);obtain⟨m6,e6,k6⟩:=O7 (K:=K) g5 r;have qH:=pD.aN k6;have g6:=g5.ext k6
    by_cases h4:r.k=0
    ·rw[dZ h4]at e6;rw[bL (.inr h4)];obtain⟨m7,e7,e8,k7⟩:=iO g qH (b:=m3.next) av ((o4.aM k5).aM k6) bJ;exact⟨m7,ak (afo l r d ..) (.mem e1<| .mem e2<| .mem e3<| .mem e4<| .mem l1<| .mem l3<| .val v1<| .cond rfl<| .mem l2<| .cond rfl<| .mem l3<| .cond rfl<| .val v2<| .cond rfl<| .cond rfl<| .mem l1<| .call e5<| .cond rfl<| .mem Yi<| .cond rfl<| .call e6<| .cond rfl<| .cond rfl<| .mem e7<| .mem e8 .nil),mG qH k7 av⟩
    ·rw[eO h4]at e6;rw[bT (by rintro(h|h);exact h3 h;exact h4 h)];have l3':eJ 4 m2.next 0 m6=some (d.val,m6):=bY (vs:=d.cells) ((o3'.aM k5).aM k6) rfl (ag rfl);obtain⟨m7,e7,k7⟩:=aiz (K:=K) g6 d;have yb:=qH.aN k7;obtain⟨m8,e8,e9,k8⟩:=iO g yb (b:=m3.next) av (((o4.aM k5).aM k6).aM k7) (wz d);exact⟨m8,ak (afq l r d (wz d) ..) (.mem e1<| .mem e2<| .mem e3<| .mem e4<| .mem l1<| .mem l3<| .val v1<| .cond rfl<| .mem l2<| .cond rfl<| .mem l3<| .cond rfl<| .val v2<| .cond rfl<| .cond rfl<| .mem l1<| .call e5<| .cond rfl<| .mem Yi<| .cond rfl<| .call e6<| .cond rfl<| .cond rfl<| .mem l3'<| .call e7<| .mem e8<| .mem e9 .nil),mG yb k8 av⟩
theorem amz (a b:Int):Ev K 338 [vI a,vI b] m (.tuple #[vI (vY a b).1,.bool (vY a b).2]) m:=ak (aki a b _) (.val (eq4 ..) .nil)
theorem amy (a b:Int):Ev K 339 [vI a,vI b] m (.tuple #[vI (vr a b).1,.bool (vr a b).2]) m:=ak (akh a b _) (.val (eq4 ..) .nil)
theorem amx (a b:Int):Ev K 340 [vI a,vI b] m (.tuple #[vI (fU a b).1,.bool (fU a b).2]) m:=by
 by_cases h1:a=0
 ·rw[show fU a b=(0,true)from bL (.inl h1)];exact ak (afc a b) (.cond (qY h1)<| .cond (qY h1)<| .cond (qY h1)<| .cond rfl .nil)
 ·by_cases h2:b=0
  ·rw[show fU a b=(0,true)from bL (.inr h2)];exact ak (afd a b) (.cond (gj h1)<| .cond (gj h1)<| .cond (gj h1)<| .cond (qY h2) .nil)
  ·have hp:fU a b=(jr a b,decide (nz (jr a b) b=a)&&(br (jr a b) 0== !(br a 0==br b 0))):=bT (by rintro(h|h);exact h1 h;exact h2 h);rw[hp]
   by_cases h3:nz (jr a b) b=a
   ·rw[dZ h3];exact ak (afe a b _ _ _) (.cond (gj h1)<| .cond (gj h1)<| .cond (gj h1)<| .cond (gj h2)<| .val (ne4 ..)<| .val (KS _ _ h2)<| .cond (qY h3)<| .cond (qY h3)<| .cond (qY h3)<| .cond (qY h3)<| .val (eq4 ..)<| .cond (qY h3) .nil)
   ·rw[eO h3];exact ak (aff a b _ _) (.cond (gj h1)<| .cond (gj h1)<| .cond (gj h1)<| .cond (gj h2)<| .val (ne4 ..)<| .val (KS _ _ h2)<| .cond (gj h3)<| .cond (gj h3)<| .cond (gj h3)<| .cond (gj h3)<| .cond (gj h3) .nil)
theorem amw (a b:Int):Ev K 341 [vI a,vI b] m (.tuple #[vI (su a b).1,.bool (su a b).2]) m:=by
 by_cases h1:b=0
 ·rw[show su a b=(0,false)from bL (.inl h1)];exact ak (ae8 a b) (.cond (qY h1)<| .cond (qY h1)<| .cond (qY h1)<| .cond (qY h1)<| .cond (qY h1)<| .cond rfl .nil)
 ·by_cases h2:a= -9223372036854775808
  ·by_cases h3:b= -1
   ·rw[show su a b=(0,false)from bL (.inr ⟨h2,h3⟩)];exact ak (afa a b) (.cond (gj h1)<| .cond (gj h1)<| .cond (gj h1)<| .cond (qY h2)<| .cond (qY h2)<| .cond (gj h1)<| .cond (qY h2)<| .cond (gj h1)<| .cond (qY h3) .nil)
   ·rw[show su a b=(nz a b,true)from bT (by rintro(h|h);exact h1 h;exact h3 h.2)];exact ak (ae9 a b _) (.cond (gj h1)<| .cond (gj h1)<| .cond (gj h1)<| .cond (qY h2)<| .cond (qY h2)<| .cond (gj h1)<| .cond (qY h2)<| .cond (gj h1)<| .cond (gj h3)<| .val (KS _ _ h1) .nil)
  ·rw[show su a b=(nz a b,true)from bT (by rintro(h|h);exact h1 h;exact h2 h.1)];exact ak (afb a b _) (.cond (gj h1)<| .cond (gj h1)<| .cond (gj h1)<| .cond (gj h2)<| .cond (gj h2)<| .cond (gj h1)<| .cond (gj h2)<| .cond (gj h1)<| .cond rfl<| .val (KS _ _ h1) .nil)
theorem amv (a b:Int):Ev K 342 [vI a,vI b] m (.tuple #[vI (uk a b).1,.bool (uk a b).2]) m:=by
 by_cases h1:b=0
 ·rw[show uk a b=(0,false)from bL h1];exact ak (ae6 a b) (.cond (qY h1) .nil)
 ·rw[show uk a b=(Jo a b,true)from bT h1];exact ak (ae7 a b _) (.cond (gj h1)<| .val (O0 _ _ h1) .nil)
theorem amA (op a b:Int):Ev K 337 [vI op,vI a,vI b] m (.tuple #[vI (bz op a b).1,.bool (bz op a b).2]) m:=by
 unfold bz
 by_cases h1:op=17
 ·rw[bL h1];exact ak (Z7 op a b _ _) (.cond (qY h1)<| .call (amz a b) .nil)
 ·rw[bT h1]
  by_cases h2:op=18
  ·rw[bL h2];exact ak (Z6 op a b _ _) (.cond (gj h1)<| .cond (qY h2)<| .call (amy a b) .nil)
  ·rw[bT h2]
   by_cases h3:op=10
   ·rw[bL h3];exact ak (Z5 op a b _ _) (.cond (gj h1)<| .cond (gj h2)<| .cond (qY h3)<| .call (amx a b) .nil)
   ·rw[bT h3]
    by_cases h4:op=19
    ·rw[bL h4];exact ak (Z4 op a b _ _) (.cond (gj h1)<| .cond (gj h2)<| .cond (gj h3)<| .cond (qY h4)<| .call (amw a b) .nil)
    ·rw[bT h4];exact ak (Z3 op a b _ _) (.cond (gj h1)<| .cond (gj h2)<| .cond (gj h3)<| .cond (gj h4)<| .call (amv a b) .nil)
theorem amD (g:Gd m)(op a b:Int):∃m',Ev K 333 [vI op,vI a,vI b] m (.tuple #[(j5 op a b).1.val,vI (j5 op a b).2]) m'/\Kp m m' eU:=by
 obtain⟨m1,e1,o1,k1,n1,_⟩:=aQ g [vI 0,vI 0,.string .empty,.bool false];have e2:=amA (K:=K) (m:=m1) op a b;obtain⟨⟨x,y⟩,hx⟩:∃x,bz op a b=x:=⟨_,rfl⟩;unfold j5;rw[hx]at e2⊢;cases y with
 |true=>
  obtain⟨m2,e3,e4,k2⟩:=iO g k1 (ai _) o1 (mh x);exact⟨m2,ak (afk op a b x _) (.mem e1<| .call e2<| .cond rfl<| .mem e3<| .mem e4 .nil),mG k1 k2 (ai _)⟩
 |false=>
  obtain⟨m2,e3,e4,k2⟩:=iO g k1 (ai _) o1 bJ;exact⟨m2,ak (afl op a b x _) (.mem e1<| .call e2<| .cond rfl<| .mem e3<| .mem e4 .nil),mG k1 k2 (ai _)⟩
theorem amC (g:Gd m)(a b:ByteArray)(ha:a.size<2^60)(hb:b.size<2^60):∃m',Ev K 334 [.string a,.string b] m (.tuple #[(zh a b).1.val,vI (zh a b).2]) m'/\Kp m m' eU:=by
 obtain⟨m1,e1,o1,k1,n1,_⟩:=aQ g [vI 0,vI 0,.string .empty,.bool false];have hg:fD (bB (a.size:Int) (b.size:Int)) 250=decide (250<a.size+b.size):=by
  rw[gH ⟨av,av⟩,gX,Bool.eq_iff_iff,jE,jE];omega
 unfold zh
 by_cases h:250<a.size+b.size
 ·rw[bL h];obtain⟨m2,e3,e4,k2⟩:=iO g k1 (ai _) o1 bJ;exact⟨m2,ak (afj a b _) (.mem e1<| .cond (by rw[hg,dZ h])<| .mem e3<| .mem e4 .nil),mG k1 k2 (ai _)⟩
 ·rw[bT h];obtain⟨m2,e3,e4,k2⟩:=iO g k1 (ai _) o1 ⟨2,0,a++b,false⟩;have hc:jM a b=some (.string (a++b)):=by
   unfold jM;have :Nat.blt (a.size+b.size) 9223372036854775808=true:=Nat.ble_eq_true_of_le av;rw[this]
  exact⟨m2,ak (afi a b _) (.mem e1<| .cond (by rw[hg,eO h])<| .val hc<| .mem e3<| .mem e4 .nil),mG k1 k2 (ai _)⟩
theorem amB (op o:Int):Ev K 335 [vI op,vI o] m (.bool (tg op o)) m:=by
 unfold tg
 by_cases h1:op=11
 ·rw[bL h1];exact ak (aae op o) (.cond (qY h1) .nil)
 ·rw[bT h1]
  by_cases h2:op=12
  ·rw[bL h2];exact ak (aad op o) (.cond (gj h1)<| .cond (qY h2) .nil)
  ·rw[bT h2]
   by_cases h3:op=13
   ·rw[bL h3];exact ak (aac op o) (.cond (gj h1)<| .cond (gj h2)<| .cond (qY h3) .nil)
   ·rw[bT h3]
    by_cases h4:op=14
    ·rw[bL h4];exact ak (Z' op o) (.cond (gj h1)<| .cond (gj h2)<| .cond (gj h3)<| .cond (qY h4) .nil)
    ·rw[bT h4]
     by_cases h5:op=15
     ·rw[bL h5];exact ak (Z9 op o) (.cond (gj h1)<| .cond (gj h2)<| .cond (gj h3)<| .cond (gj h4)<| .cond (qY h5) .nil)
     ·rw[bT h5];exact ak (Z8 op o) (.cond (gj h1)<| .cond (gj h2)<| .cond (gj h3)<| .cond (gj h4)<| .cond (gj h5) .nil)
end
end Go.AM
namespace Go.AM
set_option maxRecDepth 1000000
open Go Go.Conc Go.Proofs
section
variable {K:iK}{m:Mem}
theorem amF (g:Gd m)(op:Int)(l r:V)(hl:l.s.size<2^60)(hr:r.s.size<2^60):∃m',Ev K 330 [vI op,l.val,r.val] m (.tuple #[(uB op l r).1.val,vI (uB op l r).2]) m'/\Kp m m' eU:=by
 obtain⟨m1,e1,o1,k1,n1,_⟩:=aQ g l.cells;obtain⟨m2,e2,o2,k2,n2,_⟩:=aQ (g.ext k1) r.cells;have lM:=k1.aN k2;obtain⟨m3,e3,o3,k3,n3,_⟩:=aQ (g.ext lM) [vI 0,vI 0,.string .empty,.bool false];have sx:=lM.aN k3;have g3:=g.ext sx;have zI:=(o1.aM k2).aM k3;have IA:=o2.aM k3;have l1:eJ 4 m.next 0 m3=some (l.val,m3):=bY (vs:=l.cells) zI rfl (ag rfl);have l2:eJ 4 m1.next 0 m3=some (r.val,m3):=bY (vs:=r.cells) IA rfl (ag rfl)
 by_cases h1:op=23\/op=37
 ·rw[show uB op l r=(CO l r (fK (aZ op 37)),0)from bL h1];obtain⟨m4,e4,k4⟩:=Xu (K:=K) g3 (aZ op 37);have jV:=sx.aN k4;have g4:=g3.ext k4;obtain⟨m5,e5,k5⟩:=amE (K:=K) g4 l r (fK (aZ op 37));have pD:=jV.aN k5;have g5:=g4.ext k5;obtain⟨m6,e6,e7,k6⟩:=iO g pD (b:=m2.next) av ((o3.aM k4).aM k5) (CO l r (fK (aZ op 37)));refine⟨m6,?_,mG pD k6 av⟩
  by_cases h2:op=23
  ·exact ak (afw op l r (CO l r (fK (aZ op 37))) (fK (aZ op 37)) ..) (.mem e1<| .mem e2<| .mem e3<| .cond (qY h2)<| .cond (qY h2)<| .mem l1<| .mem (dh _ _)<| .mem l2<| .mem (dh _ _)<| .mem (bW g3)<| .call e4<| .mem (FL zI k4)<| .mem (FL IA k4)<| .mem (bW g4)<| .call e5<| .mem (bW g5)<| .mem e6<| .mem e7 .nil)
  ·have h3:=h1.resolve_left h2;exact ak (afs op l r (CO l r (fK (aZ op 37))) (fK (aZ op 37)) ..) (.mem e1<| .mem e2<| .mem e3<| .cond (gj h2)<| .cond (qY h3)<| .mem l1<| .mem (dh _ _)<| .mem l2<| .mem (dh _ _)<| .mem (bW g3)<| .call e4<| .mem (FL zI k4)<| .mem (FL IA k4)<| .mem (bW g4)<| .call e5<| .mem (bW g5)<| .mem e6<| .mem e7 .nil)
 ·have ha:¬op=23:=fun h=>h1 (.inl h)
  have hb:¬op=37:=fun h=>h1 (.inr h)
  have hB:uB op l r=if l.k=0\/r.k=0 then(bJ,0)else if op=17\/op=18\/op=10\/op=19\/op=20 then j5 op l.n r.n else if op=21 then zh l.s r.s else(fK (tg op (FJ l r)),0):=bT h1;rw[hB];obtain⟨m4,e4,k4⟩:=O7 (K:=K) g3 l;have jV:=sx.aN k4;have g4:=g3.ext k4
  by_cases h3:l.k=0
  ·rw[dZ h3]at e4;rw[bL (.inl h3)];obtain⟨m6,e6,e7,k6⟩:=iO g jV (b:=m2.next) av (o3.aM k4) bJ;exact⟨m6,ak (aft op l r ..) (.mem e1<| .mem e2<| .mem e3<| .cond (gj ha)<| .cond (gj hb)<| .mem l1<| .call e4<| .cond rfl<| .cond rfl<| .cond rfl<| .cond rfl<| .mem e6<| .mem e7 .nil),mG jV k6 av⟩
  ·rw[eO h3]at e4;have Yi:eJ 4 m1.next 0 m4=some (r.val,m4):=bY (vs:=r.cells) (IA.aM k4) rfl (ag rfl);obtain⟨m5,e5,k5⟩:=O7 (K:=K) g4 r;have pD:=jV.aN k5;have g5:=g4.ext k5;have o3':=(o3.aM k4).aM k5
   by_cases h4:r.k=0
   ·rw[dZ h4]at e5;rw[bL (.inr h4)];obtain⟨m6,e6,e7,k6⟩:=iO g pD (b:=m2.next) av o3' bJ;exact⟨m6,ak (afr op l r ..) (.mem e1<| .mem e2<| .mem e3<| .cond (gj ha)<| .cond (gj hb)<| .mem l1<| .call e4<| .cond rfl<| .mem Yi<| .cond rfl<| .call e5<| .cond rfl<| .cond rfl<| .mem e6<| .mem e7 .nil),mG pD k6 av⟩
   ·rw[eO h4]at e5;rw[bT (by rintro(h|h);exact h3 h;exact h4 h)];have la:aI m.next 1 m5=some (vI l.n,m5):=aJ ((zI.aM k4).aM k5) rfl;have lb:aI m1.next 1 m5=some (vI r.n,m5):=aJ ((IA.aM k4).aM k5) rfl
    by_cases h5:op=17\/op=18\/op=10\/op=19\/op=20
    ·rw[bL h5];obtain⟨m6,e6,k6⟩:=amD (K:=K) g5 op l.n r.n;have qH:=pD.aN k6;obtain⟨m7,e7,e8,k7⟩:=iO g qH (b:=m2.next) av (o3'.aM k6) (j5 op l.n r.n).1;refine⟨m7,?_,mG qH k7 av⟩
     by_cases x1:op=17
     ·have y1:=qY x1;have z1:=gj ha;have z2:=gj hb;exact ak (aaj op _ l r (j5 op l.n r.n).1 ..) jY
     ·by_cases x2:op=18
      ·have y1:=gj x1;have y2:=qY x2;have z1:=gj ha;have z2:=gj hb;exact ak (aai op _ l r (j5 op l.n r.n).1 ..) jY
      ·by_cases x3:op=10
       ·have y1:=gj x1;have y2:=gj x2;have y3:=qY x3;have z1:=gj ha;have z2:=gj hb;exact ak (aah op _ l r (j5 op l.n r.n).1 ..) jY
       ·by_cases x4:op=19
        ·have y1:=gj x1;have y2:=gj x2;have y3:=gj x3;have y4:=qY x4;have z1:=gj ha;have z2:=gj hb;exact ak (aag op _ l r (j5 op l.n r.n).1 ..) jY
        ·have x5:op=20:=av;have y1:=gj x1;have y2:=gj x2;have y3:=gj x3;have y4:=gj x4;have y5:=qY x5;have z1:=gj ha;have z2:=gj hb;exact ak (aaf op _ l r (j5 op l.n r.n).1 ..) jY
    ·rw[bT h5];have x1:¬op=17:=av;have x2:¬op=18:=av;have x3:¬op=10:=av;have x4:¬op=19:=av;have x5:¬op=20:=av
     by_cases h6:op=21
     ·rw[bL h6];have sa:aI m.next 2 m5=some (.string l.s,m5):=aJ ((zI.aM k4).aM k5) rfl;have sb:aI m1.next 2 m5=some (.string r.s,m5):=aJ ((IA.aM k4).aM k5) rfl;obtain⟨m6,e6,k6⟩:=amC (K:=K) g5 l.s r.s hl hr;have qH:=pD.aN k6;obtain⟨m7,e7,e8,k7⟩:=iO g qH (b:=m2.next) av (o3'.aM k6) (zh l.s r.s).1;exact⟨m7,ak (afu op _ l r (zh l.s r.s).1 ..) (.mem e1<| .mem e2<| .mem e3<| .cond (gj ha)<| .cond (gj hb)<| .mem l1<| .call e4<| .cond rfl<| .mem Yi<| .cond rfl<| .call e5<| .cond rfl<| .cond rfl<| .cond (gj x1)<| .cond (gj x2)<| .cond (gj x3)<| .cond (gj x4)<| .cond (gj x5)<| .cond (qY h6)<| .mem sa<| .mem sb<| .call e6<| .mem e7<| .mem e8 .nil),mG qH k7 av⟩
     ·rw[bT h6];have l1':eJ 4 m.next 0 m5=some (l.val,m5):=bY (vs:=l.cells) ((zI.aM k4).aM k5) rfl (ag rfl);have aln:eJ 4 m1.next 0 m5=some (r.val,m5):=bY (vs:=r.cells) ((IA.aM k4).aM k5) rfl (ag rfl);obtain⟨m6,e6,k6⟩:=amZ (K:=K) g5 l r;have qH:=pD.aN k6;have g6:=g5.ext k6;obtain⟨m7,e7,k7⟩:=Xu (K:=K) g6 (tg op (FJ l r));have yb:=qH.aN k7;obtain⟨m8,e8,e9,k8⟩:=iO g yb (b:=m2.next) av ((o3'.aM k6).aM k7) (fK (tg op (FJ l r)));exact⟨m8,ak (afv op (FJ l r) l r (fK (tg op (FJ l r))) (tg op (FJ l r)) ..) (.mem e1<| .mem e2<| .mem e3<| .cond (gj ha)<| .cond (gj hb)<| .mem l1<| .call e4<| .cond rfl<| .mem Yi<| .cond rfl<| .call e5<| .cond rfl<| .cond rfl<| .cond (gj x1)<| .cond (gj x2)<| .cond (gj x3)<| .cond (gj x4)<| .cond (gj x5)<| .cond (gj h6)<| .mem l1'<| .mem aln<| .call e6<| .call (amB op (FJ l r))<| .call e7<| .mem e8<| .mem e9 .nil),mG yb k8 av⟩
end
end Go.AM
namespace Go.AM
set_option maxRecDepth 1000000
open Go Go.Conc Go.Proofs
def fA (cv:Nat->Int->Int->V):X->V×Int
 | .lit v=>(v,0)
 | .bin op l r=>if(fA cv l).2≠0 then(bJ,(fA cv l).2)else if(fA cv r).2≠0 then(bJ,(fA cv r).2)else uB op (fA cv l).1 (fA cv r).1
 | .no x=>if(fA cv x).2≠0 then(bJ,(fA cv x).2)else(wz (fA cv x).1,0)
 | .Dt x=>if(fA cv x).2≠0 then(bJ,(fA cv x).2)else(fK (decide ((fA cv x).1.k=0)),0)
 | .Px p i j=>(cv p i j,0)
def X.all(L:V->Prop)(C:Nat->Int->Int->Prop):X->Prop
 | .lit v=>L v
 | .bin _ l r=>l.all L C/\r.all L C
 | .no x=>x.all L C
 | .Dt x=>x.all L C
 | .Px p i j=>C p i j
def kJ (v:V):Prop:=v.s.size<2^60
theorem xJ:kJ bJ:=by show(ByteArray.empty).size<_;decide
theorem K5 {op:Int}{l r:V}:kJ (uB op l r).1:=by
 have h0:=xJ;have ht:∀b,kJ (fK b):=fun b=>by show(ByteArray.empty).size<_;decide
 unfold uB
 split
 ·show kJ (CO l r _)
  unfold CO
  split
  ·exact ht _
  ·split
   ·exact h0
   ·unfold wz
    split
    ·exact h0
    ·exact ht _
 ·split
  ·exact h0
  ·split
   ·unfold j5
    split
    ·show(ByteArray.empty).size<_;decide
    ·exact h0
   ·split
    ·unfold zh
     split
     ·exact h0
     ·rename_i h
      show(l.s++r.s).size<_
      rw[ByteArray.size_append];omega
    ·exact ht _
theorem Dj {cv:Nat->Int->Int->V}:∀{x:X},x.all kJ (fun p i j=>kJ (cv p i j))->kJ (fA cv x).1
 | .lit v,h=>h
 | .bin op l r,h=>by
  unfold fA
  split
  ·exact xJ
  ·split
   ·exact xJ
   ·exact K5
 | .no x,h=>by
  unfold fA
  split
  ·exact xJ
  ·show kJ (wz _)
   unfold wz
   split
   ·exact xJ
   ·show(ByteArray.empty).size<_;decide
 | .Dt x,h=>by
  unfold fA
  split
  ·exact xJ
  ·show(ByteArray.empty).size<_;decide
 | .Px p i j,h=>h
theorem VJ {b:Nat}:eW ae (.iface 305 (vP b 0)) "Of"=some (329,vP b 0)/\eW ae (.iface 390 (vP b 0)) "Of"=some (348,vP b 0)/\eW ae (.iface 393 (vP b 0)) "Of"=some (349,vP b 0)/\eW ae (.iface 317 (vP b 0)) "Of"=some (346,vP b 0)/\eW ae (.iface 396 (vP b 0)) "Of"=some (351,vP b 0):=by
 refine⟨?_,?_,?_,?_,?_⟩<;>kernel_rfl
section
variable {K:iK}{B:Nat->Prop}
theorem afz (q:Nat)(rw :af)(op x y z:Int)(lv rv:af)(l r u:V)(aH a0:Nat):Path 329 [(vP q 0),rw]
 [cp nO aH,
  .mem (aI q 1) lv,
  .fw (eW ae lv "Of") [rw] (.tuple #[(ck l),(vI x)]),
  cp nO a0,
  dV a0 0 (uS l),
  aD (hY x 0) true,
  dV aH 0 [(vI 0),(vI 0),dU,(.bool false)],
  lJ 49 aH (.agg #[(vI 0),(vI 0),dU,(.bool false)])]
 (.tuple #[(.agg #[(vI 0),(vI 0),dU,(.bool false)]),(vI x)]):=cg
theorem afy (q:Nat)(rw :af)(op x y z:Int)(lv rv:af)(l r u:V)(aH a0 cf:Nat):Path 329 [(vP q 0),rw]
 [cp nO aH,
  .mem (aI q 1) lv,
  .fw (eW ae lv "Of") [rw] (.tuple #[(ck l),(vI 0)]),
  cp nO a0,
  dV a0 0 (uS l),
  bm,
  .mem (aI q 2) rv,
  .fw (eW ae rv "Of") [rw] (.tuple #[(ck r),(vI y)]),
  cp nO cf,
  dV cf 0 (uS r),
  aD (hY y 0) true,
  dV aH 0 [(vI 0),(vI 0),dU,(.bool false)],
  lJ 49 aH (.agg #[(vI 0),(vI 0),dU,(.bool false)])]
 (.tuple #[(.agg #[(vI 0),(vI 0),dU,(.bool false)]),(vI y)]):=cg
theorem afx (q:Nat)(rw :af)(op x y z:Int)(lv rv:af)(l r u:V)(aH a0 cf:Nat):Path 329 [(vP q 0),rw]
 [cp nO aH,
  .mem (aI q 1) lv,
  .fw (eW ae lv "Of") [rw] (.tuple #[(ck l),(vI 0)]),
  cp nO a0,
  dV a0 0 (uS l),
  bm,
  .mem (aI q 2) rv,
  .fw (eW ae rv "Of") [rw] (.tuple #[(ck r),(vI 0)]),
  cp nO cf,
  dV cf 0 (uS r),
  bm,
  .mem (aI q 0) (vI op),
  ie 4 a0 (ck l),
  ie 4 cf (ck r),
  .mem di undef,
  .call 330 [(vI op),(ck l),(ck r)] (.tuple #[(ck u),(vI z)]),
  .mem di undef,
  dV aH 0 (uS u),
  lJ 49 aH (ck u)]
 (.tuple #[(ck u),(vI z)]):=cg
theorem akg (q:Nat)(rw :af)(u:V)(aH:Nat):Path 346 [(vP q 0),rw]
 [cp nO aH,
  ie 4 q (ck u),
  dV aH 0 (uS u),
  lJ 49 aH (ck u)]
 (.tuple #[(ck u),(vI 0)]):=cg
theorem ae5 (q:Nat)(rw xv:af)(x:Int)(l:V)(aH a0:Nat):Path 348 [(vP q 0),rw]
 [cp nO aH,
  .mem (aI q 0) xv,
  .fw (eW ae xv "Of") [rw] (.tuple #[(ck l),(vI x)]),
  cp nO a0,
  dV a0 0 (uS l),
  aD (hY x 0) true,
  dV aH 0 [(vI 0),(vI 0),dU,(.bool false)],
  lJ 49 aH (.agg #[(vI 0),(vI 0),dU,(.bool false)])]
 (.tuple #[(.agg #[(vI 0),(vI 0),dU,(.bool false)]),(vI x)]):=cg
theorem ae4 (q:Nat)(rw xv:af)(l u:V)(aH a0:Nat):Path 348 [(vP q 0),rw]
 [cp nO aH,
  .mem (aI q 0) xv,
  .fw (eW ae xv "Of") [rw] (.tuple #[(ck l),(vI 0)]),
  cp nO a0,
  dV a0 0 (uS l),
  bm,
  ie 4 a0 (ck l),
  .call 336 [(ck l)] (ck u),
  dV aH 0 (uS u),
  lJ 49 aH (ck u)]
 (.tuple #[(ck u),(vI 0)]):=cg
theorem ae3 (q:Nat)(rw xv:af)(x:Int)(l:V)(aH a0:Nat):Path 349 [(vP q 0),rw]
 [cp nO aH,
  .mem (aI q 0) xv,
  .fw (eW ae xv "Of") [rw] (.tuple #[(ck l),(vI x)]),
  cp nO a0,
  dV a0 0 (uS l),
  aD (hY x 0) true,
  dV aH 0 [(vI 0),(vI 0),dU,(.bool false)],
  lJ 49 aH (.agg #[(vI 0),(vI 0),dU,(.bool false)])]
 (.tuple #[(.agg #[(vI 0),(vI 0),dU,(.bool false)]),(vI x)]):=cg
theorem ae2 (q:Nat)(rw xv:af)(l u:V)(aH a0:Nat):Path 349 [(vP q 0),rw]
 [cp nO aH,
  .mem (aI q 0) xv,
  .fw (eW ae xv "Of") [rw] (.tuple #[(ck l),(vI 0)]),
  cp nO a0,
  dV a0 0 (uS l),
  bm,
  ie 4 a0 (ck l),
  .call 350 [(ck l)] (ck u),
  dV aH 0 (uS u),
  lJ 49 aH (ck u)]
 (.tuple #[(ck u),(vI 0)]):=cg
theorem Yf {a:Int}(h:a≠0):(.bool (hY a 0):af)= .bool true:=by rw[jg,dZ h]
theorem cOf {R:Mem->Prop}{cv:Nat->Int->Int->V}{rv:af}(hR:∀m m',R m->Kp m m' eU->R m')
  (ama:∀p i j m b,kJ (cv p i j)->Gd m->R m->Obj m b 0 [vP p 0,vI i,vI j]->∃m',Ev K 351 [vP b 0,rv] m (.tuple #[(cv p i j).val,vI 0]) m'/\Kp m m' eU):
  ∀(x:X) (m:Mem) (xv:af),Gd m->R m->XR B x m xv->x.all kJ (fun p i j=>kJ (cv p i j))->
   ∃f b m',eW ae xv "Of"=some (f,vP b 0)/\Ev K f [vP b 0,rv] m (.tuple #[(fA cv x).1.val,vI (fA cv x).2]) m'/\Kp m m' eU:=by
 intro x
 induction x with
 |lit u=>
  rintro m xv g hr ⟨b,rfl,hb,ob⟩ hs;obtain⟨m1,e1,o1,k1,n1,_⟩:=aQ g [vI 0,vI 0,.string .empty,.bool false];have l1:eJ 4 b 0 m1=some (u.val,m1):=bY (vs:=u.cells) (ob.aM k1) rfl (ag rfl);obtain⟨m2,e2,e3,k2⟩:=iO g k1 (ai _) o1 u;exact⟨346,b,m2,VJ.2.2.2.1,ak (akg b rv u _) (.mem e1<| .mem l1<| .mem e2<| .mem e3 .nil),mG k1 k2 (ai _)⟩
 |Px p i j=>
  rintro m xv g hr ⟨b,rfl,hb,ob⟩ hs;obtain⟨m',e,k⟩:=ama p i j m b hs g hr ob;exact⟨351,b,m',VJ.2.2.2.2,e,k⟩
 |no x ih=>
  rintro m xv g hr ⟨b,xv,rfl,hb,ob,hx⟩ hs;obtain⟨m1,e1,o1,k1,n1,_⟩:=aQ g [vI 0,vI 0,.string .empty,.bool false];have g1:=g.ext k1;have l1:aI b 0 m1=some (xv,m1):=aJ (ob.aM k1) rfl;obtain⟨f,b',m2,hm,e2,k2⟩:=ih m1 xv g1 (hR _ _ hr k1) (XR.ext k1 (fun _ _ h=>h) hx) hs;have lM:=k1.aN k2;have g2:=g.ext lM;obtain⟨m3,m4,e3,e4,o4,k4,n4⟩:=eH g2 [vI 0,vI 0,.string .empty,.bool false] (fA cv x).1.cells rfl rfl;have jV:=lM.aN k4;have g4:=g.ext jV
  by_cases h:(fA cv x).2=0
  ·have l2:eJ 4 m2.next 0 m4=some ((fA cv x).1.val,m4):=bY (vs:=(fA cv x).1.cells) o4 rfl (ag rfl);obtain⟨m5,e5,k5⟩:=aiz (K:=K) g4 (fA cv x).1;have pD:=jV.aN k5;obtain⟨m6,e6,e7,k6⟩:=iO g pD (ai _) (((o1.aM k2).aM k4).aM k5) (wz (fA cv x).1);rw[show fA cv (.no x)=(wz (fA cv x).1,0)from bT (by rw[h];simp)];rw[h]at e2;exact⟨348,b,m6,VJ.2.1,ak (ae4 b rv xv (fA cv x).1 (wz (fA cv x).1) ..) (.mem e1<| .mem l1<| .fw hm e2<| .mem e3<| .mem e4<| .cond rfl<| .mem l2<| .call e5<| .mem e6<| .mem e7 .nil),mG pD k6 (ai _)⟩
  ·obtain⟨m6,e6,e7,k6⟩:=iO g jV (ai _) ((o1.aM k2).aM k4) bJ;rw[show fA cv (.no x)=(bJ,(fA cv x).2)from bL h];exact⟨348,b,m6,VJ.2.1,ak (ae5 b rv xv (fA cv x).2 (fA cv x).1 ..) (.mem e1<| .mem l1<| .fw hm e2<| .mem e3<| .mem e4<| .cond (Yf h)<| .mem e6<| .mem e7 .nil),mG jV k6 (ai _)⟩
 |Dt x ih=>
  rintro m xv g hr ⟨b,xv,rfl,hb,ob,hx⟩ hs;obtain⟨m1,e1,o1,k1,n1,_⟩:=aQ g [vI 0,vI 0,.string .empty,.bool false];have g1:=g.ext k1;have l1:aI b 0 m1=some (xv,m1):=aJ (ob.aM k1) rfl;obtain⟨f,b',m2,hm,e2,k2⟩:=ih m1 xv g1 (hR _ _ hr k1) (XR.ext k1 (fun _ _ h=>h) hx) hs;have lM:=k1.aN k2;have g2:=g.ext lM;obtain⟨m3,m4,e3,e4,o4,k4,n4⟩:=eH g2 [vI 0,vI 0,.string .empty,.bool false] (fA cv x).1.cells rfl rfl;have jV:=lM.aN k4;have g4:=g.ext jV
  by_cases h:(fA cv x).2=0
  ·have l2:eJ 4 m2.next 0 m4=some ((fA cv x).1.val,m4):=bY (vs:=(fA cv x).1.cells) o4 rfl (ag rfl);obtain⟨m5,e5,k5⟩:=amu (K:=K) g4 (fA cv x).1;have pD:=jV.aN k5;obtain⟨m6,e6,e7,k6⟩:=iO g pD (ai _) (((o1.aM k2).aM k4).aM k5) (fK (decide ((fA cv x).1.k=0)));rw[show fA cv (.Dt x)=(fK (decide ((fA cv x).1.k=0)),0)from bT (by rw[h];simp)];rw[h]at e2;exact⟨349,b,m6,VJ.2.2.1,ak (ae2 b rv xv (fA cv x).1 (fK (decide ((fA cv x).1.k=0))) ..) (.mem e1<| .mem l1<| .fw hm e2<| .mem e3<| .mem e4<| .cond rfl<| .mem l2<| .call e5<| .mem e6<| .mem e7 .nil),mG pD k6 (ai _)⟩
  ·obtain⟨m6,e6,e7,k6⟩:=iO g jV (ai _) ((o1.aM k2).aM k4) bJ;rw[show fA cv (.Dt x)=(bJ,(fA cv x).2)from bL h];exact⟨349,b,m6,VJ.2.2.1,ak (ae3 b rv xv (fA cv x).2 (fA cv x).1 ..) (.mem e1<| .mem l1<| .fw hm e2<| .mem e3<| .mem e4<| .cond (Yf h)<| .mem e6<| .mem e7 .nil),mG jV k6 (ai _)⟩
 |bin op l r ihl ihr=>
  rintro m xv g hr ⟨b,lv,rv',rfl,hb,ob,hl,Dv⟩ hs;obtain⟨m1,e1,o1,k1,n1,_⟩:=aQ g [vI 0,vI 0,.string .empty,.bool false];have g1:=g.ext k1;have l1:aI b 1 m1=some (lv,m1):=aJ (ob.aM k1) rfl;obtain⟨f,b',m2,hm,e2,k2⟩:=ihl m1 lv g1 (hR _ _ hr k1) (XR.ext k1 (fun _ _ h=>h) hl) hs.1;have lM:=k1.aN k2;have g2:=g.ext lM;obtain⟨m3,m4,e3,e4,o4,k4,n4⟩:=eH g2 [vI 0,vI 0,.string .empty,.bool false] (fA cv l).1.cells rfl rfl;have jV:=lM.aN k4;have g4:=g.ext jV;have Ub:=(o1.aM k2).aM k4
  by_cases h:(fA cv l).2=0
  ·have l2:aI b 2 m4=some (rv',m4):=aJ (ob.aM jV) rfl;rw[h]at e2;obtain⟨f',b'',m5,YG,e5,k5⟩:=ihr m4 rv' g4 (hR _ _ hr jV) (XR.ext jV (fun _ _ h=>h) Dv) hs.2;have pD:=jV.aN k5;have g5:=g.ext pD;obtain⟨m6,m7,e6,e7,o7,k7,n7⟩:=eH g5 [vI 0,vI 0,.string .empty,.bool false] (fA cv r).1.cells rfl rfl;have yb:=pD.aN k7;have g7:=g.ext yb;have Ua:=(Ub.aM k5).aM k7
   by_cases h':(fA cv r).2=0
   ·rw[h']at e5;have la:aI b 0 m7=some (vI op,m7):=aJ (ob.aM yb) rfl;have lb:eJ 4 m2.next 0 m7=some ((fA cv l).1.val,m7):=bY (vs:=(fA cv l).1.cells) ((o4.aM k5).aM k7) rfl (ag rfl);have lc:eJ 4 m5.next 0 m7=some ((fA cv r).1.val,m7):=bY (vs:=(fA cv r).1.cells) o7 rfl (ag rfl);obtain⟨m8,e8,k8⟩:=amF (K:=K) g7 op (fA cv l).1 (fA cv r).1 (Dj hs.1) (Dj hs.2);have zg:=yb.aN k8;obtain⟨m9,e9,pY,k9⟩:=iO g zg (ai _) (Ua.aM k8) (uB op (fA cv l).1 (fA cv r).1).1;rw[show fA cv (.bin op l r)=uB op (fA cv l).1 (fA cv r).1 from by show(if _ then _ else _)=_;rw[bT (by rw[h];simp),bT (by rw[h'];simp)]];exact⟨329,b,m9,VJ.1,ak (afx b rv op 0 0 (uB op (fA cv l).1 (fA cv r).1).2 lv rv' (fA cv l).1 (fA cv r).1 (uB op (fA cv l).1 (fA cv r).1).1 ..) (.mem e1<| .mem l1<| .fw hm e2<| .mem e3<| .mem e4<| .cond rfl<| .mem l2<| .fw YG e5<| .mem e6<| .mem e7<| .cond rfl<| .mem la<| .mem lb<| .mem lc<| .mem (bW g7)<| .call e8<| .mem (bW (g.ext zg))<| .mem e9<| .mem pY .nil),mG zg k9 (ai _)⟩
   ·obtain⟨m9,e9,pY,k9⟩:=iO g yb (ai _) Ua bJ;rw[show fA cv (.bin op l r)=(bJ,(fA cv r).2)from by show(if _ then _ else _)=_;rw[bT (by rw[h];simp),bL h']];exact⟨329,b,m9,VJ.1,ak (afy b rv 0 0 (fA cv r).2 0 lv rv' (fA cv l).1 (fA cv r).1 bJ ..) (.mem e1<| .mem l1<| .fw hm e2<| .mem e3<| .mem e4<| .cond rfl<| .mem l2<| .fw YG e5<| .mem e6<| .mem e7<| .cond (Yf h')<| .mem e9<| .mem pY .nil),mG yb k9 (ai _)⟩
  ·obtain⟨m9,e9,pY,k9⟩:=iO g jV (ai _) Ub bJ;rw[show fA cv (.bin op l r)=(bJ,(fA cv l).2)from bL h];exact⟨329,b,m9,VJ.1,ak (afz b rv 0 (fA cv l).2 0 0 lv rv' (fA cv l).1 bJ bJ ..) (.mem e1<| .mem l1<| .fw hm e2<| .mem e3<| .mem e4<| .cond (Yf h)<| .mem e9<| .mem pY .nil),mG jV k9 (ai _)⟩
end
end Go.AM
namespace Go.AM
set_option maxRecDepth 1000000
open Go Go.Conc Go.Proofs
theorem Lg (n:Int):cQ.i64.wrap n=if n%18446744073709551616≥9223372036854775808 then n%18446744073709551616-18446744073709551616 else n%18446744073709551616:=by
 show(if(true&&decide (n%(2^64:Int)≥(2^63:Int)))=true then n%(2^64:Int)-(2^64:Int)else n%(2^64:Int))=_
 simp only[Bool.true_and,jE];rfl
theorem Ux (n:Int):cC (cQ.i64.wrap n):=by
 rw[Lg];unfold cC;split<;>omega
theorem PK (n:Int):∃t:Int,cQ.i64.wrap n=n+18446744073709551616*t:=by
 rw[Lg]
 split
 ·exact⟨-(n / 18446744073709551616)-1,av⟩
 ·exact⟨-(n / 18446744073709551616),av⟩
section
variable {a b:Int}
theorem iT (ha:cC a)(hb:cC b):(cC (a+b)/\bB a b=a+b)\/(9223372036854775808<=a+b/\bB a b=a+b-18446744073709551616)\/(a+b< -9223372036854775808/\bB a b=a+b+18446744073709551616):=by
 rw[Ed,Lg];unfold cC at*
 split<;>omega
theorem iN (ha:cC a)(hb:cC b):(cC (a-b)/\cO a b=a-b)\/(9223372036854775808<=a-b/\cO a b=a-b-18446744073709551616)\/(a-b< -9223372036854775808/\cO a b=a-b+18446744073709551616):=by
 rw[C5,Lg];unfold cC at*
 split<;>omega
theorem Ts {p q:Prop}[Decidable p][Decidable q]:(decide p==decide q)=decide (p↔q):=by
 by_cases hp:p<;>by_cases hq:q<;>simp[hp,hq]
theorem uG (ha:cC a)(hb:cC b):(vY a b).2=decide (-9223372036854775808<=a+b/\a+b<9223372036854775808):=by
 show(fD (bB a b) a==fD b 0)=_
 rw[gX,gX,Ts];refine decide_eq_decide.2 ?_;rcases iT ha hb with⟨h,e⟩|⟨h,e⟩|⟨h,e⟩<;>rw[e]<;>unfold cC at*<;>omega
theorem tr (ha:cC a)(hb:cC b):(vr a b).2=decide (-9223372036854775808<=a-b/\a-b<9223372036854775808):=by
 show(br (cO a b) a==fD b 0)=_
 rw[gX,bZ,Ts];refine decide_eq_decide.2 ?_;rcases iN ha hb with⟨h,e⟩|⟨h,e⟩|⟨h,e⟩<;>rw[e]<;>unfold cC at*<;>omega
theorem GR (a:Int):nz a (-1)=cQ.i64.wrap (-a):=by unfold nz;rw[Int.tdiv_neg,Int.tdiv_one]
theorem Jv (h0:a≠0)(h1:b≠0):(fU a b).2=(decide (nz (jr a b) b=a)&&(br (jr a b) 0== !(br a 0==br b 0))):=by
 unfold fU;rw[bT (by rintro(h|h);exact h0 h;exact h1 h)]
theorem Lw (ha:cC a)(h0:a≠0):(fU a (-1)).2=decide (a≠ -9223372036854775808):=by
 rw[Jv h0 dB,GR,tP,show a* -1= -a by omega];unfold cC at ha
 by_cases h:a= -9223372036854775808
 ·subst h;decide
 ·have e:cQ.i64.wrap (-a)= -a:=lh (by unfold cC;omega);rw[e,Int.neg_neg,lh (by unfold cC;omega),dZ rfl,dZ h,Bool.true_and,bZ,bZ,bZ]
  by_cases h2:a<0
  ·rw[dZ h2,eO (show¬ -a<0 by omega)];rfl
  ·rw[eO h2,dZ (show -a<0 by omega)];rfl
theorem U0 (hb:cC b)(h1:b≠0):(fU (-1) b).2=decide (b≠ -9223372036854775808):=by
 rw[Jv dB h1,tP,show -1*b= -b by omega];unfold cC at hb
 by_cases h:b= -9223372036854775808
 ·subst h;decide
 ·have e:cQ.i64.wrap (-b)= -b:=lh (by unfold cC;omega);have eq:nz (-b) b= -1:=by
   unfold nz;rw[Int.neg_tdiv,Int.tdiv_self h1];rfl
  rw[e,eq,dZ rfl,dZ h,Bool.true_and,bZ,bZ,bZ]
  by_cases h2:b<0
  ·rw[dZ h2,eO (show¬ -b<0 by omega)];rfl
  ·rw[eO h2,dZ (show -b<0 by omega)];rfl
theorem Ql (ha:cC a)(hb:cC b)(h0:a≠0)(h1:b≠0)(h2:b≠ -1):(fU a b).2=decide (nz (jr a b) b=a):=by
 rw[Jv h0 h1]
 by_cases h:nz (jr a b) b=a
 ·rw[dZ h,Bool.true_and];have pI:=Ux (a*b);obtain⟨t,ht⟩:=PK (a*b);rw[<-tP]at pI ht;obtain⟨c,hc⟩:∃c,c=jr a b:=⟨_,rfl⟩;rw[<-hc]at h pI ht⊢;have hq:c.tdiv b=a:=by
   have j8:nz c b=c.tdiv b:=by
    unfold nz;refine lh ?_;have h4:=Int.natAbs_tdiv c b;have h5:(c.tdiv b).natAbs<=c.natAbs:=by rw[h4];exact Nat.div_le_self _ _
    unfold cC at pI⊢
    by_cases h6:c= -9223372036854775808
    ·by_cases h7:b=1
     ·rw[h7,Int.tdiv_one];omega
     ·have h8:(c.tdiv b).natAbs<=c.natAbs / 2:=by
       rw[h4];exact Nat.div_le_div_left av av
      omega
    ·omega
   rw[<-j8];exact h
  have hd:=Int.mul_tdiv_add_tmod c b;have hr:(c.tmod b).natAbs<b.natAbs:=by
   rw[Int.natAbs_tmod];exact Nat.mod_lt _ av
  rw[hq,Int.mul_comm]at hd;obtain⟨P,hP⟩:∃P,P=a*b:=⟨_,rfl⟩;rw[<-hP]at hd ht;unfold cC at pI hb;have hcP:c=P:=av;rw[hcP,hP,bZ,bZ,bZ]
  by_cases ni:a<0<;>by_cases gN:b<0
  ·have :0<a*b:=Int.mul_pos_of_neg_of_neg ni gN;rw[dZ ni,dZ gN,eO (show¬a*b<0 by omega)];rfl
  ·have :a*b<0:=Int.mul_neg_of_neg_of_pos ni av;rw[dZ ni,eO gN,dZ this];rfl
  ·have :a*b<0:=Int.mul_neg_of_pos_of_neg av gN;rw[eO ni,dZ gN,dZ this];rfl
  ·have :0<a*b:=Int.mul_pos av av;rw[eO ni,eO gN,eO (show¬a*b<0 by omega)];rfl
 ·rw[eO h,Bool.false_and]
end
end Go.AM
namespace Go.AM
set_option maxRecDepth 1000000
open Go Go.Conc Go.Proofs
def Lx (T:ByteArray)(i:Nat)(l:List UInt8):Prop:=i<=T.size/\(bl T).drop i=l
theorem Lx.size{T:ByteArray}{i:Nat}{l:List UInt8}(h:Lx T i l):T.size=i+l.length:=by
 have h1:=h.1;rw[<-h.2,List.length_drop,tB];omega
theorem Lx.get{T:ByteArray}{i:Nat}{l:List UInt8}(h:Lx T i l)(j:Nat):(bl T)[i+j]?=l[j]?:=by rw[<-h.2,List.getElem?_drop]
theorem Lx.byte{T:ByteArray}{i:Nat}{c:UInt8}{l:List UInt8}(h:Lx T i (c::l)):aF T i=c.toNat:=tZ (by have :=h.get 0;simpa using this)
theorem Lx.app{T:ByteArray}{i:Nat}{w l:List UInt8}(h:Lx T i (w++l)):Lx T (i+w.length) l:=by
 have hs:=h.size;refine⟨by simp at hs;omega,?_⟩;rw[<-List.drop_drop,h.2,List.drop_left]
theorem Lx.next{T:ByteArray}{i:Nat}{c:UInt8}{l:List UInt8}(h:Lx T i (c::l)):Lx T (i+1) l:=Lx.app (w:=[c]) h
theorem Lx.ext{T:ByteArray}{i:Nat}{w l:List UInt8}(h:Lx T i (w++l)):T.extract i (i+w.length)=⟨w.toArray⟩:=by
 have h2:=h.2;apply ByteArray.ext;rw[ByteArray.data_extract];apply Array.toList_inj.1;rw[Array.toList_extract,List.extract_eq_take_drop]
 show((bl T).drop i).take (i+w.length-i)=w
 rw[h2,Nat.add_sub_cancel_left,List.take_left]
theorem Qb {p:Nat->Bool}{T:ByteArray}:∀{w l:List UInt8}{i k:Nat},Lx T i (w++l)->(∀c∈w,p c.toNat=true)->(∀c∈l.head?,p c.toNat=false)->k=w.length+l.length->uZ p T k i=i+w.length
 | [],[],i,k,h,_,_,hk=>by subst hk;rfl
 | [],c::l,i,k,h,_,h2,hk=>by
  obtain⟨k,rfl⟩:∃j,k=j+1:=⟨k-1,by simp at hk;omega⟩;unfold uZ;rw[h.byte,h2 c cK,bT cK];rfl
 |c::w,l,i,k,h,h1,h2,hk=>by
  obtain⟨k,rfl⟩:∃j,k=j+1:=⟨k-1,by simp at hk;omega⟩;unfold uZ;have hb:aF T i=c.toNat:=Lx.byte (l:=w++l) h;rw[hb,h1 c (List.mem_cons_self ..),bL rfl,Qb (w:=w) (l:=l) (i:=i+1) (k:=k) (Lx.next (l:=w++l) h) (fun c hc=>h1 c (List.mem_cons_of_mem _ hc)) h2 (by simp at hk;omega)];simp;omega
theorem AL {p:Nat->Bool}{T:ByteArray}{w l:List UInt8}{i:Nat}(h:Lx T i (w++l))(h1:∀c∈w,p c.toNat=true)(h2:∀c∈l.head?,p c.toNat=false):jb p T i=i+w.length:=
 Qb h h1 h2 (by have :=h.size;simp at this;omega)
def Nx (T:ByteArray)(l:List UInt8)(k n:Int)(l':List UInt8):Prop:=∀z,Lx T z l->∃w,wE T z=some w/\w.k=k/\w.n=n/\Lx T w.z l'
theorem z0 {T:ByteArray}{z:Nat}{bs l:List UInt8}(h:Lx T z (bs++l))(hb:∀c∈bs,wP c.toNat=true)(hl:∀c∈l.head?,wP c.toNat=false):jb wP T (min z T.size)=z+bs.length/\Lx T (z+bs.length) l:=by
 have h1:=h.1;rw[Nat.min_eq_left h1];exact⟨AL h hb hl,h.app⟩
theorem JU {T:ByteArray}:Nx T [] 1 0 []:=by
 intro z h;obtain⟨e1,h2⟩:=z0 (bs:=[]) h (fun _ h=>by cases h) (fun _ h=>by cases h);have hs:=h2.size;refine⟨⟨1,z,z,.empty,0⟩,?_,rfl,rfl,h⟩;unfold wE;rw[e1];simp at hs;have e:z+([]:List UInt8).length=T.size:=by simp;omega
 rw[bL e];simp
def xK:List (UInt8×Nat):=[(40,5),(41,6),(42,10),(43,17),(45,18),(47,19),(37,20)]
theorem P5:((List.range 128).all fun c2=>xK.all fun x=>(spell ⟨#[x.1,UInt8.ofNat c2]⟩ 5 21==0)&&(spell ⟨#[x.1]⟩ 5 21==x.2)&&!isLt x.1.toNat&&!ou x.1.toNat&&!wP x.1.toNat&&(x.1.toNat !=39)&&decide (x.1.toNat<128))=true:=bp
structure Sg (c:UInt8)(k:Nat):Prop where
 two:∀c2:UInt8,c2.toNat<128->spell ⟨#[c,c2]⟩ 5 21=0
 one:spell ⟨#[c]⟩ 5 21=k
 lt:isLt c.toNat=false
 dg:ou c.toNat=false
 bl:wP c.toNat=false
 q:c.toNat≠39
 asc:c.toNat<128
theorem adr {c:UInt8}{k:Nat}(h:(c,k)∈xK):Sg c k:=by
 have key:∀c2,c2<128->_:=fun c2 h2=>aV.1 (aV.1 P5 c2 (List.mem_range.2 h2)) (c,k) h
 have k0:=key 0 av;simp only[aj,Bool.not_eq_true',beq_iff_eq,bne_iff_ne,jE]at key k0;obtain⟨⟨⟨⟨⟨⟨_,h1⟩,h2⟩,h3⟩,h4⟩,h5⟩,h6⟩:=k0;refine⟨fun c2 hc=>?_,h1,h2,h3,h4,h5,h6⟩;have :=(key c2.toNat hc).1.1.1.1.1.1;rwa[show UInt8.ofNat c2.toNat=c2 from UInt8.ofNat_toNat]at this
theorem LJ {T:ByteArray}{bs l:List UInt8}{c:UInt8}{k:Nat}(hc:(c,k)∈xK)(hk:k≠0)(hb:∀c∈bs,wP c.toNat=true)(ha:∀c∈l.head?,c.toNat<128):Nx T (bs++c::l) (k:Int) 0 l:=by
 intro z h;have sg:=adr hc;obtain⟨e1,h2⟩:=z0 h hb (fun x hx=>by simp at hx;rw[<-hx];exact sg.bl);obtain⟨i,hi⟩:∃i,i=z+bs.length:=⟨_,rfl⟩;rw[<-hi]at e1 h2;have hs:=h2.size;have hby:=h2.byte;have dx:i≠T.size:=by simp at hs;omega
 have Ks:T.extract i (i+1)=⟨#[c]⟩:=Lx.ext (w:=[c]) (l:=l) h2;have ahp:Gu T i=some ⟨(k:Int),i,i+1,.empty,0⟩:=by
  unfold Gu;cases l with
  |nil=>
   have hm:min (i+2) T.size=i+1:=by simp at hs;omega
   have abT:Cc ⟨#[c]⟩=true:=by simp[Cc,bl,sg.asc]
   simp only[hm,Ks,abT,if_true,sg.one,ne_eq,hk,not_false_eq_true]
  |cons c2 l=>
   have hm:min (i+2) T.size=i+2:=by simp at hs;omega
   have dk:T.extract i (i+2)=⟨#[c,c2]⟩:=Lx.ext (w:=[c,c2]) (l:=l) h2;have sf:=ha c2 cK;have abT:Cc ⟨#[c,c2]⟩=true:=by simp[Cc,bl,sg.asc,sf]
   simp only[hm,dk,Ks,abT,if_true,sg.two c2 sf,ne_eq,not_true_eq_false,if_false,sg.one,hk,not_false_eq_true]
 refine⟨⟨(k:Int),i,i+1,.empty,0⟩,?_,rfl,rfl,h2.next⟩;unfold wE;rw[e1];simp only[dx,if_false,hby,sg.lt,sg.dg,sg.q,bu];exact ahp
def yz:List UInt8->Nat->Nat
 | [],a=>a
 |c::l,a=>yz l (a*10+(c.toNat-48))
theorem DW (l:List UInt8):∀i,i<=l.length->jL ⟨l.toArray⟩ i=yz (l.take i) 0
 |0,_=>by simp[jL,yz]
 |i+1,h=>by
  have hs:∀(a:List UInt8) (c:UInt8) (x:Nat),yz (a++[c]) x=yz a x*10+(c.toNat-48):=by
   intro a
   induction a with
   |nil=>intro c x;rfl
   |cons b a ih=>intro c x;exact ih c _
  have cN:i<l.length:=av;rw[DX,DW l i av,List.take_add_one,List.getElem?_eq_getElem cN]
  show _=yz (l.take i++[l[i]]) 0
  rw[hs];have :aF ⟨l.toArray⟩ i=l[i].toNat:=tZ (by simp[List.getElem?_eq_getElem cN]);rw[this]
theorem QS {T:ByteArray}{bs ds l:List UInt8}(hb:∀c∈bs,wP c.toNat=true)(hd:∀c∈ds,ou c.toNat=true)(h0:ds≠[])(hl:∀c∈l.head?,ou c.toNat=false)(hv:yz ds 0<9223372036854775808):Nx T (bs++(ds++l)) 3 (yz ds 0:Nat) l:=by
 intro z h;obtain⟨c,r,rfl⟩:∃c r,ds=c::r:=by cases ds with |nil=>exact absurd rfl h0|cons c r=>exact⟨c,r,rfl⟩
 have hc:=s8.1 (hd c (List.mem_cons_self ..));obtain⟨e1,h2⟩:=z0 h hb (fun x hx=>by
  simp at hx;rw[<-hx];unfold wP;simp only[Bool.or_eq_false_iff,beq_eq_false_iff_ne,ne_eq];refine⟨⟨⟨?_,?_⟩,?_⟩,?_⟩<;>omega)
 obtain⟨i,hi⟩:∃i,i=z+bs.length:=⟨_,rfl⟩;rw[<-hi]at e1 h2;have hs:=h2.size;have hby:aF T i=c.toNat:=Lx.byte (l:=r++l) h2;have dx:i≠T.size:=by simp at hs;omega
 have cN:isLt c.toNat=false:=by
  unfold isLt;simp only[Bool.or_eq_false_iff,Bool.and_eq_false_iff,beq_eq_false_iff_ne,ne_eq];refine⟨⟨.inl ?_,.inl ?_⟩,av⟩<;>(rw[Bool.eq_false_iff];intro h;have :=ag h;omega)
 have hre:jb ou T i=i+(c::r).length:=AL h2 hd hl;have hex:T.extract i (i+(c::r).length)=⟨(c::r).toArray⟩:=Lx.ext (w:=c::r) h2;have al7:jL ⟨(c::r).toArray⟩ (c::r).length=yz (c::r) 0:=by rw[DW _ _ (ai _),List.take_length]
 refine⟨⟨3,i,i+(c::r).length,.empty,(yz (c::r) 0:Nat)⟩,?_,rfl,rfl,h2.app⟩;unfold wE;rw[e1];simp only[dx,if_false,hby,cN,hd c (List.mem_cons_self ..),bu,if_true];unfold Vm;simp only[hre,hex,Nat.add_sub_cancel_left,al7,hv,if_true]
theorem QT {T:ByteArray}{bs w l:List UInt8}{k:Nat}(hb:∀c∈bs,wP c.toNat=true)(h0:∀c∈w.head?,isLt c.toNat=true/\wP c.toNat=false)(hw:∀c∈w,zM c.toNat=true)(hn:w≠[])(hl:∀c∈l.head?,zM c.toNat=false)(hk:spell ⟨w.toArray⟩ 22 46=k)(Mt:k≠0):Nx T (bs++(w++l)) (k:Int) 0 l:=by
 intro z h;obtain⟨c,r,rfl⟩:∃c r,w=c::r:=by cases w with |nil=>exact absurd rfl hn|cons c r=>exact⟨c,r,rfl⟩
 obtain⟨cN,hbl⟩:=h0 c cK;obtain⟨e1,h2⟩:=z0 h hb (fun x hx=>by simp at hx;rw[<-hx];exact hbl);obtain⟨i,hi⟩:∃i,i=z+bs.length:=⟨_,rfl⟩;rw[<-hi]at e1 h2;have hs:=h2.size;have hby:aF T i=c.toNat:=Lx.byte (l:=r++l) h2;have dx:i≠T.size:=by simp at hs;omega
 have hre:jb zM T i=i+(c::r).length:=AL h2 hw hl;have hex:T.extract i (i+(c::r).length)=⟨(c::r).toArray⟩:=Lx.ext (w:=c::r) h2;refine⟨⟨(k:Int),i,i+(c::r).length,.empty,0⟩,?_,rfl,rfl,h2.app⟩;unfold wE;rw[e1];simp only[dx,if_false,hby,cN,if_true];unfold A3;simp only[hre,hex,hk,ne_eq,Mt,not_false_eq_true,if_true]
end Go.AM
namespace Go.AM
set_option maxRecDepth 1000000
open Go Go.Conc Go.Proofs
structure Sat (T:ByteArray)(s:RS)(k v d:Int)(l:List UInt8):Prop where
 k:s.w.k=k
 v:s.w.n=v
 d:s.d=d
 e:s.e=0
 lx:Lx T s.w.z l
section
variable {T:ByteArray}{s:RS}{k v d k' v':Int}{l l':List UInt8}{ks:List Int}
theorem Sat.VG(h:Sat T s k v d l)(hk:k∉ks):lK T ks s=some ((w0,false),s):=by unfold lK;rw[h.k,bT hk]
theorem Sat.hit(h:Sat T s k v d l)(hk:k∈ks)(hn:Nx T l k' v' l'):∃s',lK T ks s=some ((s.w,true),s')/\Sat T s' k' v' d l':=by
 obtain⟨w,h1,h2,h3,h4⟩:=hn _ h.lx;refine⟨{s with w:=w},?_,h2,h3,h.d,h.e,h4⟩;unfold lK;rw[h.k,bL hk,h1];rfl
theorem Sat.sP(h:Sat T s k v d l)(hk:k∉ks):jq T ks s=some (false,s):=by unfold jq;rw[h.VG hk];rfl
theorem Sat.DV(h:Sat T s k v d l){q:Int}(hk:k≠q):lz T q s=some (false,s):=by unfold lz;rw[h.k,bL hk]
theorem Sat.aih(h:Sat T s k v d l){q:Int}(hk:k=q)(hd:0<=d/\d<30)(hn:Nx T l k' v' l'):∃s',lz T q s=some (true,s')/\Sat T s' k' v' (d+1) l':=by
 obtain⟨s',e,h'⟩:=Sat.hit (s:={s with d:=s.d+1}) (ks:=[q]) ⟨h.k,h.v,show s.d+1=d+1 by rw[h.d],h.e,h.lx⟩ (by simp[hk]) hn;refine⟨s',?_,h'⟩;unfold lz;rw[h.k,h.d,bT (by simp[hk]),bT av,bL hd];unfold jq;rw[h.d]at e;rw[e];rfl
theorem Sat.up(h:Sat T s k v (d+1) l):Sat T (nu s) k v d l:=⟨h.k,h.v,by show s.d-1=d;rw[h.d];omega,h.e,h.lx⟩
theorem Sat.wH(h:Sat T s k v d l){q:Int}(hk:k=q)(hn:Nx T l k' v' l')(w:W):∃s' w',iq T [q] w s=some (w',s')/\Sat T s' k' v' d l':=by
 obtain⟨s',e,h'⟩:=h.hit (ks:=[q]) (by simp[hk]) hn;refine⟨s',s.w,?_,h'⟩;unfold iq;rw[e];rfl
end
def Pz {α:Type}(T:ByteArray)(p:RS->Option (α×RS))(k v d:Int)(l:List UInt8)(x:α)(k' v':Int)(l':List UInt8):Prop:=∀s,Sat T s k v d l->∃s',p s=some (x,s')/\Sat T s' k' v' d l'
section
variable {T:ByteArray}{n:Nat}{k v d k1 v1 k2 v2 k3 v3:Int}{l l1 l2 l3:List UInt8}{x y:E}{ks:List Int}{p:RS->Option (E×RS)}
theorem Pz.lit(hn:Nx T l k1 v1 l1):Pz T (iJ T (n+1)) 3 v d l (.lit ⟨1,v,.empty,false⟩) k1 v1 l1:=by
 intro s h;obtain⟨s',e,h'⟩:=h.hit (ks:=[2,3,4,42,27,35]) dB hn;refine⟨s',?_,h'⟩
 show l8 T _ _ s=_
 unfold l8;rw[h.DV dB,];simp only[h.DV (q:=5) dB,e];rw[bT (by rw[h.k];decide)];unfold Ng;rw[bL h.k,h.v]
theorem Pz.null(hn:Nx T l k1 v1 l1):Pz T (iJ T (n+1)) 35 v d l (.lit ⟨0,0,.empty,false⟩) k1 v1 l1:=by
 intro s h;obtain⟨s',e,h'⟩:=h.hit (ks:=[2,3,4,42,27,35]) dB hn;refine⟨s',?_,h'⟩
 show l8 T _ _ s=_
 unfold l8;rw[h.DV dB,];simp only[h.DV (q:=5) dB,e];rw[bT (by rw[h.k];decide)];unfold Ng;rw[h.k,bT dB,bT dB,bT dB]
theorem Pz.neg(hd:0<=d/\d<30)(hn:Nx T l k1 v1 l1)(hp:Pz T (iJ T n) k1 v1 (d+1) l1 x k2 v2 l2):Pz T (iJ T (n+1)) 18 v d l (.pre 18 x) k2 v2 l2:=by
 intro s h;obtain⟨s1,e1,h1⟩:=h.aih (q:=18) rfl hd hn;obtain⟨s2,e2,h2⟩:=hp s1 h1;refine⟨nu s2,?_,h2.up⟩
 show l8 T _ _ s=_
 unfold l8;rw[e1];simp only[e2];rw[bL (by unfold YZ;rw[h2.d];omega)]
theorem Pz.par(hd:0<=d/\d<30)(hn:Nx T l k1 v1 l1)(hp:Pz T (DQ T (iJ T n) n) k1 v1 (d+1) l1 x 6 v2 l2)(hn3:Nx T l2 k3 v3 l3):Pz T (iJ T (n+1)) 5 v d l x k3 v3 l3:=by
 intro s h;obtain⟨s1,e1,h1⟩:=h.aih (q:=5) rfl hd hn;obtain⟨s2,e2,h2⟩:=hp s1 h1;obtain⟨s3,w3,e3,h3⟩:=h2.wH (q:=6) rfl hn3 w0;refine⟨nu s3,?_,h3.up⟩
 show l8 T _ _ s=_
 unfold l8;rw[h.DV dB];simp only[e1,e2,e3];rw[bL (by unfold YZ;rw[h3.d];omega)]
theorem Pz.zK(hp:Pz T p k v d l x k1 v1 l1)(h1:k1∉ks):Pz T (nS p T ks (n+1)) k v d l x k1 v1 l1:=by
 intro s h;obtain⟨s1,e1,HF⟩:=hp s h;refine⟨s1,?_,HF⟩;unfold nS;rw[e1]
 show uI p T ks (n+1) x s1=_
 unfold uI;rw[HF.VG h1]
theorem Pz.abb(hp:Pz T p k v d l x k1 v1 l1)(h1:k1∈ks)(hn:Nx T l1 k2 v2 l2)(hq:Pz T p k2 v2 d l2 y k3 v3 l3)(h3:k3∉ks):Pz T (nS p T ks (n+2)) k v d l (.bin k1 x y) k3 v3 l3:=by
 intro s h;obtain⟨s1,e1,HF⟩:=hp s h;obtain⟨s2,e2,hs2⟩:=HF.hit h1 hn;obtain⟨s3,e3,hs3⟩:=hq s2 hs2;refine⟨s3,?_,hs3⟩;unfold nS;rw[e1]
 show uI p T ks (n+2) x s1=_
 unfold uI;rw[e2];simp only[e3];unfold uI;rw[hs3.VG h3,HF.k]
theorem Pz.cmp(hp:Pz T p k v d l x k1 v1 l1)(h1:k1∉[32])(h2:k1∉[11,12,13,14,15,16]):Pz T (Ty T p) k v d l x k1 v1 l1:=by
 intro s h;obtain⟨s1,e1,HF⟩:=hp s h;refine⟨s1,?_,HF⟩;unfold Ty;rw[e1];simp only[HF.sP h1,HF.VG h2]
theorem Pz.not(hp:Pz T p k v d l x k1 v1 l1)(h1:k≠34):Pz T (Hg T p (n+1)) k v d l x k1 v1 l1:=by
 intro s h;obtain⟨s1,e1,HF⟩:=hp s h;refine⟨s1,?_,HF⟩;unfold Hg;rw[h.DV h1];exact e1
def stops:List Int:=[32,11,12,13,14,15,16,23,37]
theorem Pz.expr{fa:RS->Option (E×RS)}(hp:Pz T (UK T fa (n+1)) k v d l x k1 v1 l1)(h:k≠34)(h1:k1∉stops):Pz T (DQ T fa (n+1)) k v d l x k1 v1 l1:=by
 unfold stops at h1;simp only[bC,List.not_mem_nil,or_false,not_or]at h1;obtain⟨a1,a2,a3,a4,a5,a6,a7,a8,a9⟩:=h1;unfold DQ;exact Pz.zK (Pz.zK (Pz.not (Pz.cmp hp (by simp[a1]) (by simp[a2,a3,a4,a5,a6,a7])) h) (by simp[a8])) (by simp[a9])
theorem Pz.adl{fa:RS->Option (E×RS)}(hp:Pz T fa k v d l x k1 v1 l1)(h1:k1∉[10,19,20])(h2:k1∉[17,18,21]):Pz T (UK T fa (n+1)) k v d l x k1 v1 l1:=Pz.zK (Pz.zK hp h1) h2
end
end Go.AM
namespace Go.AM
set_option maxRecDepth 1000000
open Go Go.Conc Go.Proofs
def gq (l:List V):List af:=l.flatMap V.cells
theorem uE (l:List V):(gq l).length=l.length*4:=by
 unfold gq
 induction l with
 |nil=>rfl
 |cons a l ih=>simp only[List.flatMap_cons,List.length_append,ih,List.length_cons];show 4+_=_;omega
end Go.AM
namespace Go.AM
set_option maxRecDepth 1000000
open Go Go.Conc Go.Proofs
def cZ (cj:List Src):E->Int->X×Int×Int
 | .nil,f=>(.lit bJ,0,f)
 | .bin op l r,f=>(.bin op (cZ cj l f).1 (cZ cj r (cZ cj l f).2.2).1,(fJ op).2,Va (fJ op).1 [(cZ cj l f).2.1,(cZ cj r (cZ cj l f).2.2).2.1] (cZ cj r (cZ cj l f).2.2).2.2)
 | .pre op x,f=>(Z0 op (cZ cj x f).1,(fJ op).2,Va (fJ op).1 [(cZ cj x f).2.1] (cZ cj x f).2.2)
 | .Dt x no,f=>(abi (cZ cj x f).1 no,3,(cZ cj x f).2.2)
 | .lit v,f=>(.lit v,v.k,f)
 | .ref s x,f=>Jp cj s x f
section
variable {K:iK}{c:Nat}{M1 M2:af}{B:Nat->Prop}
theorem agw (c:Nat)(op k1 k2 k3:Int)(l r sv x y:af)(aH so a0 zX cf:Nat):Path 135 [(vP c 0),(.iface 304 (.agg #[(vI op),l,r])),sv]
 [bV,
  cp [some (vI 0),some .nilIface,some .nilIface] aH,
  dV aH 0 [(vI op),l,r],
  .mem (aI aH 1) l,
  .call 135 [(vP c 0),l,sv] (.tuple #[x,(vI k1)]),
  .mem (aI aH 2) r,
  .call 135 [(vP c 0),r,sv] (.tuple #[y,(vI k2)]),
  .mem (aI aH 0) (vI op),
  .mem (fe (vP aH 0)) (vI (so:Int)),
  .val (fH ae 307 [(0,(vI op)),(1,x),(2,y)]) (.agg #[(vI op),x,y]),
  cp [some (vI op),some x,some y] a0,
  .mem (fe (vP a0 0)) (vI (zX:Int)),
  .mem (aI aH 0) (vI op),
  .mem (ao ae 22 2 [(0,(vI k1)),(1,(vI k2))]) (vL cf 0 2 2),
  .mem di undef,
  .call 172 [(vP c 0),(vI op),(vL cf 0 2 2)] (vI k3),
  .mem (bS (vI (so:Int)) (vP aH 0) (dw ae 74 (vP aH 0))) undef,
  .mem (bS (vI (zX:Int)) (vP a0 0) (fG (vP a0 0))) undef]
 (.tuple #[(.iface 305 (vP a0 0)),(vI k3)]):=cg
theorem agt (c:Nat)(sv:af)(aH:Nat):Path 135 [(vP c 0),.nilIface,sv]
 [bm,
  bm,
  bm,
  bm,
  bm,
  cp nO aH]
 (.tuple #[(.iface 317 (vP aH 0)),(vI 0)]):=cg
theorem ags (c:Nat)(op k1 k3:Int)(l sv x y:af)(aH so a0 zX:Nat):Path 135 [(vP c 0),(.iface 310 (.agg #[(vI op),l])),sv]
 [bm,
  bV,
  cp [some (vI 0),some .nilIface] aH,
  dV aH 0 [(vI op),l],
  .mem (aI aH 1) l,
  .call 135 [(vP c 0),l,sv] (.tuple #[x,(vI k1)]),
  .mem (aI aH 0) (vI op),
  .mem (aI aH 0) (vI op),
  .mem (fe (vP aH 0)) (vI (so:Int)),
  .mem (ao ae 22 1 [(0,(vI k1))]) (vL a0 0 1 1),
  .mem (fe (vL a0 0 1 1)) (vI (zX:Int)),
  .mem di undef,
  .call 173 [(vI op),x] y,
  .mem (bS (vI (so:Int)) (vP aH 0) (dw ae 74 (vP aH 0))) undef,
  .mem (bS (vI (zX:Int)) (vL a0 0 1 1) (fG (vL a0 0 1 1))) undef,
  .mem di undef,
  .call 172 [(vP c 0),(vI op),(vL a0 0 1 1)] (vI k3)]
 (.tuple #[y,(vI k3)]):=cg
theorem agv (c:Nat)(no:Bool)(k1:Int)(l sv x y:af)(aH:Nat):Path 135 [(vP c 0),(.iface 313 (.agg #[l,(.bool no)])),sv]
 [bm,
  bm,
  bV,
  cp [some .nilIface,some (.bool false)] aH,
  dV aH 0 [l,(.bool no)],
  .mem (aI aH 0) l,
  .call 135 [(vP c 0),l,sv] (.tuple #[x,(vI k1)]),
  .mem (aI aH 1) (.bool no),
  .call 174 [x,(.bool no)] y]
 (.tuple #[y,(vI 3)]):=cg
theorem agu (c:Nat)(u:V)(sv:af)(aH a0:Nat):Path 135 [(vP c 0),(.iface 316 (ck u)),sv]
 [bm,
  bm,
  bm,
  bV,
  cp nO aH,
  dV aH 0 (uS u),
  ie 4 aH (ck u),
  cp (pN u) a0,
  .mem (aI aH 0) (vI u.k)]
 (.tuple #[(.iface 317 (vP a0 0)),(vI u.k)]):=cg
theorem agr (c:Nat)(s x:ByteArray)(sv y:af)(k:Int)(aH:Nat):Path 135 [(vP c 0),(.iface 320 (.agg #[(aY s),(aY x)])),sv]
 [bm,
  bm,
  bm,
  bm,
  bV,
  cp [some dU,some dU] aH,
  dV aH 0 [(aY s),(aY x)],
  ie 2 aH (.agg #[(aY s),(aY x)]),
  .call 175 [(vP c 0),(.agg #[(aY s),(aY x)]),sv] (.tuple #[y,(vI k)])]
 (.tuple #[y,(vI k)]):=cg
theorem acx {m:Mem}(a:Int):ao ae 22 1 [(0,vI a)] m=some (vL m.next 0 1 1,m.alloc {kind:=1,sz:=1,cs:=[some (vI a)]}):=bp
theorem acw {m:Mem}(a b:Int):ao ae 22 2 [(0,vI a),(1,vI b)] m=some (vL m.next 0 2 2,m.alloc {kind:=1,sz:=1,cs:=[some (vI a),some (vI b)]}):=bp
theorem D4 {m m0:Mem}{S:Nat->Prop}{v:af}{b s:Nat}(g:Gd m0)(k:Kp m0 m S)(hb:m0.next<=b)(hv:mS v=some b)(hs:(m.blk b).bw=s):bS (vI (s:Int)) v (fG v) m=some (undef,m):=Xr hv (by rw[k.floor];have :=g.fn;omega) hs
theorem O' {cj:List Src}{sv:af}(II:qN cj)(hB:¬B c):∀(e:E) {m:Mem}{f:Int},Gd m->gW m c M1 M2 f->jS.R B cj m sv->(∀b,B b->b<m.next)->
  ∃v m',Ev K 135 [vP c 0,e.val,sv] m (.tuple #[v,vI (cZ cj e f).2.1]) m'/\Kp m m' (fun y=>y=c)/\gW m' c M1 M2 (cZ cj e f).2.2/\XR (fY m m') (cZ cj e f).1 m' v
 | .nil,m,f,g,hc,hs,wW=>by
  obtain⟨m1,e1,o1,k1,n1,_⟩:=aQ g bJ.cells;exact⟨_,m1,ak (agt c sv m.next) (.cond rfl<| .cond rfl<| .cond rfl<| .cond rfl<| .cond rfl<| .mem e1 .nil),k1.mo,hc.aM k1,_,rfl,⟨ai _,av⟩,o1⟩
 | .lit u,m,f,g,hc,hs,wW=>by
  obtain⟨m1,m2,e1,e2,o2,k2,n2⟩:=eH g bJ.cells u.cells rfl rfl;obtain⟨m3,e3,o3,k3,n3,_⟩:=aQ (g.ext k2) u.cells;have e4:eJ 4 m.next 0 m2=some (u.val,m2):=bY (vs:=u.cells) o2 rfl (ag rfl);have e5:aI m.next 0 m3=some (vI u.k,m3):=aJ (o2.aM k3) rfl;exact⟨_,m3,ak (agu c u sv m.next m2.next) (.cond rfl<| .cond rfl<| .cond rfl<| .cond rfl<| .mem e1<| .mem e2<| .mem e4<| .mem e3<| .mem e5 .nil),(k2.aN k3).mo,(hc.aM k2).aM k3,_,rfl,⟨by have :=k2.next;omega,av⟩,o3⟩
 | .ref s x,m,f,g,hc,hs,wW=>by
  obtain⟨m1,m2,e1,e2,o2,k2,n2⟩:=eH g [.string .empty,.string .empty] [.string s,.string x] rfl rfl;have e4:eJ 2 m.next 0 m2=some (.agg #[.string s,.string x],m2):=bY (vs:=[.string s,.string x]) o2 rfl (ag rfl);obtain⟨v,m3,e3,k3,IM,q3⟩:=amT (K:=K) (g.ext k2) (hc.aM k2) (jS.ext hs k2 fun _ _ h=>h) II hB (fun b hb=>by have :=wW b hb;omega) s x;exact⟨v,m3,ak (agr c s x sv v (Jp cj s x f).2.1 m.next) (.cond rfl<| .cond rfl<| .cond rfl<| .cond rfl<| .cond rfl<| .mem e1<| .mem e2<| .mem e4<| .call e3 .nil),k2.mo.trans k3 fun _ _ h=>h,IM,XR.mono (fun y h=>⟨by have :=h.1;have :=k2.next;omega,h.2⟩) q3⟩
 | .Dt x no,m,f,g,hc,hs,wW=>by
  obtain⟨m1,m2,e1,e2,o2,k2,n2⟩:=eH g [.nilIface,.bool false] [x.val,.bool no] rfl (by cases x<;>rfl);obtain⟨v3,m3,e3,k3,IM,q3⟩:=O' II hB x (g.ext k2) (hc.aM k2) (jS.ext hs k2 fun _ _ h=>h) (fun b hb=>by have :=wW b hb;omega);have g3:=(g.ext k2).ext k3;obtain⟨v4,m4,e4,k4,q4⟩:=amU (K:=K) g3 no q3;have Bv:=hc.obj.lt;have e5:aI m.next 0 m2=some (x.val,m2):=aJ o2 rfl;have e6:aI m.next 1 m3=some (.bool no,m3):=aJ (o2.ext k3 av) rfl;have n3:=k3.next;have n4:=k4.next;exact⟨v4,m4,ak (agv c no (cZ cj x f).2.1 x.val sv v3 v4 m.next) (.cond rfl<| .cond rfl<| .cond rfl<| .mem e1<| .mem e2<| .mem e5<| .call e3<| .mem e6<| .call e4 .nil),(k2.mo.trans k3 fun _ _ h=>h).aN k4,IM.aM k4,
   XR.mono (fun y h=>h.elim (fun h=>⟨by have :=h.1;omega,by have :=h.2;omega⟩) fun h=>⟨by have :=h.1;omega,h.2⟩) q4⟩
 | .pre op x,m,f,g,hc,hs,wW=>by
  obtain⟨m1,m2,e1,e2,o2,k2,n2⟩:=eH g [vI 0,.nilIface] [vI op,x.val] rfl (by cases x<;>rfl);obtain⟨v3,m3,e3,k3,IM,q3⟩:=O' II hB x (g.ext k2) (hc.aM k2) (jS.ext hs k2 fun _ _ h=>h) (fun b hb=>by have :=wW b hb;omega);have g3:=(g.ext k2).ext k3;have Bv:=hc.obj.lt;have n3:=k3.next;have e5:aI m.next 1 m2=some (x.val,m2):=aJ o2 rfl;have o3:=o2.ext k3 av;have e6:aI m.next 0 m3=some (vI op,m3):=aJ o3 rfl;have e7:=acx (m:=m3) (cZ cj x f).2.1;obtain⟨o4,k4,n4⟩:=dC g3 (k:={kind:=1,sz:=1,cs:=[some (vI (cZ cj x f).2.1)]}) (cs:=[(cZ cj x f).2.1].map vI) rfl rfl rfl;obtain⟨m4,hm4⟩:∃m4,m4=m3.alloc {kind:=1,sz:=1,cs:=[some (vI (cZ cj x f).2.1)]}:=⟨_,rfl⟩;rw[<-hm4]at e7 o4 k4 n4;have g4:=g3.ext k4;obtain⟨v5,m5,e8,k5,q5⟩:=amV (K:=K) g4 op (XR.ext k4 (fun _ _ h=>h) q3);have g5:=g4.ext k5;have e9:=vw (o:=0) (t:=74) (v:=vI op) ((o3.aM k4).aM k5) rfl (show(m5.blk m.next).bw=(m3.blk m.next).bw by rw[k5.blk _ av id,k4.blk _ av id]);have pY:=D4 (v:=vL m3.next 0 1 1) g3 (k4.aN k5) (ai _) rfl (show(m5.blk m3.next).bw=(m4.blk m3.next).bw by rw[k5.blk _ av id]);obtain⟨m6,xg,k6,hc6⟩:=aiM (K:=K) (ks:=[(cZ cj x f).2.1]) (cc:=1) g5 ((IM.aM k4).aM k5) op (o4.aM k5) (by have :=IM.obj.lt;omega) cK;have n5:=k5.next;have n6:=k6.next;refine⟨v5,m6,ak (ags c op (cZ cj x f).2.1 (fJ op).2 x.val sv v3 v5 m.next (m3.blk m.next).bw m3.next (m4.blk m3.next).bw)
   (.cond rfl<| .cond rfl<| .mem e1<| .mem e2<| .mem e5<| .call e3<| .mem e6<| .mem e6<| .mem (dh _ _)<| .mem e7<| .mem (Nl _ _ _ _)<| .mem (bW g4)<| .call e8<| .mem e9<| .mem pY<| .mem (bW g5)<| .call xg .nil),((k2.mo.trans k3 fun _ _ h=>h).aN (k4.aN k5)).trans k6 fun _ _ h=>h,hc6,?_⟩
  refine XR.mono (fun y h=>h.elim (fun h=>⟨by have :=h.1;omega,by have :=h.2;omega⟩) fun h=>⟨by have :=h.1;omega,by have :=h.2;omega⟩) (XR.ext k6 (fun y h e=>?_) q5);rcases h with h|h<;>have :=h.1<;>omega
 | .bin op l r,m,f,g,hc,hs,wW=>by
  obtain⟨m1,m2,e1,e2,o2,k2,n2⟩:=eH g [vI 0,.nilIface,.nilIface] [vI op,l.val,r.val] rfl (by cases l<;>cases r<;>rfl);obtain⟨v3,m3,e3,k3,IM,q3⟩:=O' II hB l (g.ext k2) (hc.aM k2) (jS.ext hs k2 fun _ _ h=>h) (fun b hb=>by have :=wW b hb;omega);have g3:=(g.ext k2).ext k3;have Bv:=hc.obj.lt;have n3:=k3.next;have e5:aI m.next 1 m2=some (l.val,m2):=aJ o2 rfl;have o3:=o2.ext k3 av;have e6:aI m.next 2 m3=some (r.val,m3):=aJ o3 rfl;obtain⟨v4,m4,e4,k4,OO,q4⟩:=O' II hB r g3 IM (jS.ext (jS.ext hs k2 fun _ _ h=>h) k3 fun b hb e=>hB (e▸hb)) (fun b hb=>by have :=wW b hb;omega);have g4:=g3.ext k4;have n4:=k4.next;have o4:=o3.ext k4 av;have e7:aI m.next 0 m4=some (vI op,m4):=aJ o4 rfl;obtain⟨ta,ba,ha⟩:=q3.form;obtain⟨tb,bb,hb⟩:=q4.form;have e8:fH ae 307 [(0,vI op),(1,v3),(2,v4)]=some (.agg #[vI op,v3,v4]):=by rw[ha,hb];exact TK op ta ba tb bb
  obtain⟨m5,e9,o5,k5,n5,_⟩:=aQ g4 [vI op,v3,v4];have g5:=g4.ext k5;obtain⟨k1,Dy⟩:∃k1,k1=(cZ cj l f).2.1:=⟨_,rfl⟩;obtain⟨IF,Ms⟩:∃k2,k2=(cZ cj r (cZ cj l f).2.2).2.1:=⟨_,rfl⟩;have pY:aI m.next 0 m5=some (vI op,m5):=aJ (o4.aM k5) rfl;have xg:=acw (m:=m5) k1 IF;obtain⟨o6,k6,n6⟩:=dC g5 (k:={kind:=1,sz:=1,cs:=[some (vI k1),some (vI IF)]}) (cs:=[k1,IF].map vI) rfl rfl rfl;obtain⟨m6,hm6⟩:∃m6,m6=m5.alloc {kind:=1,sz:=1,cs:=[some (vI k1),some (vI IF)]}:=⟨_,rfl⟩;rw[<-hm6]at xg o6 k6 n6;have g6:=g5.ext k6;have amb:=OO.obj.lt;obtain⟨m7,zv,k7,hc7⟩:=aiM (K:=K) (ks:=[k1,IF]) (cc:=2) g6 ((OO.aM k5).aM k6) op o6 av cK;have n7:=k7.next;have FC:=vw (o:=0) (t:=74) (v:=vI op) (((o4.aM k5).aM k6).ext k7 av) rfl (show(m7.blk m.next).bw=(m4.blk m.next).bw by rw[k7.blk _ av av,k6.blk _ av id,k5.blk _ av id]);have Pw:=D4 (v:=vP m4.next 0) g4 ((k5.aN k6).mo.trans k7 fun _ _ h=>h) (ai _) rfl (show(m7.blk m4.next).bw=(m5.blk m4.next).bw by rw[k7.blk _ av av,k6.blk _ av id]);have Yl:Kp m4 m7 (fun y=>y=c):=(k5.aN k6).mo.trans k7 fun _ _ h=>h
  have p:=agw c op k1 IF (fJ op).2 l.val r.val sv v3 v4 m.next (m4.blk m.next).bw m4.next (m5.blk m4.next).bw m5.next;rw[<-Dy]at e3;rw[<-Ms]at e4;refine⟨.iface 305 (vP m4.next 0),m7,ak p
   (.cond rfl<| .mem e1<| .mem e2<| .mem e5<| .call e3<| .mem e6<| .call e4<| .mem e7<| .mem (dh _ _)<| .val e8<| .mem e9<| .mem (dh _ _)<| .mem pY<| .mem xg<| .mem (bW g6)<| .call zv<| .mem FC<| .mem Pw .nil),((k2.mo.trans k3 fun _ _ h=>h).trans k4 fun _ _ h=>h).trans Yl fun _ _ h=>h,by rw[Dy,Ms]at hc7;exact hc7,?_⟩
  have nc:∀y,m.next<=y->y≠c:=fun y hy e=>by omega
  exact⟨m4.next,v3,v4,rfl,⟨av,av⟩,((o5.aM k6).ext k7 av),XR.mono (fun y h=>⟨by have :=h.1;omega,by have :=h.2;omega⟩) (XR.ext Yl (fun y h e=>nc y (by have :=h.1;omega) e) (XR.ext k4 (fun y h e=>nc y (by have :=h.1;omega) e) q3)),XR.mono (fun y h=>⟨by have :=h.1;omega,by have :=h.2;omega⟩) (XR.ext Yl (fun y h e=>nc y (by have :=h.1;omega) e) q4)⟩
end
end Go.AM
namespace Go.AM
set_option maxRecDepth 1000000
open Go Go.Conc Go.Proofs
def ui {α:Type}(E:j6 α)(sz:Nat)(B:Nat->Prop)(m:Mem)(acc:List α)(sv:af):Prop:=
 (acc=[]/\sv= .slice none 0 0)\/∃b cs c,sv=vL b 0 acc.length c/\(c=eP\/c=acc.length)/\0<acc.length/\B b/\Obj m b sz cs/\fq (fun x u=>E.R (fun y=>B y/\y≠b) x m u/\okV sz u) acc cs
section
variable {α:Type}{E:j6 α}{sz t:Nat}{m0 m m1:Mem}{acc:List α}{sv v:af}{S B B':Nat->Prop}{x:α}
theorem ui.ext(h:ui E sz B m acc sv)(k:Kp m m1 S)(hS:∀b,B b->¬S b):ui E sz B m1 acc sv:=by
 rcases h with h|⟨b,cs,c,e,hc,hp,hb,ob,jB⟩
 ·exact .inl h
 ·exact .inr ⟨b,cs,c,e,hc,hp,hb,ob.ext k (hS b hb),jB.mono fun x u _ w=>⟨E.ext w.1 k fun y hy=>hS y hy.1,w.2⟩⟩
theorem ui.aM(h:ui E sz B m acc sv)(k:Kp m m1 eU):ui E sz B m1 acc sv:=h.ext k fun _ _ h=>h
theorem ui.fin(h:ui E sz B m acc sv):(bj E sz).R B acc m sv:=by
 rcases h with⟨rfl,rfl⟩|⟨b,cs,c,rfl,hc,hp,hb,ob,jB⟩
 ·exact bj.nil
 ·exact⟨cs,ob.sl jB.one.1 hc,fun b' o' n' c' e=>(by cases e;exact hb),jB.mono fun x u _ w=>⟨E.mono w.1 fun y hy=>hy.1,w.2⟩⟩
theorem ui.nil:ui E sz B m [] (.slice none 0 0):= .inl ⟨rfl,rfl⟩
theorem ui.add(h:ui E sz B m acc sv)(g:Gd m)(g0:Gd m0)(h0:Kp m0 m S)(ht:yH.contains (t,sz)=true)(Ui:sz<=6)(S4:∀b,B b->m0.next<=b/\b<m.next)(q:E.R B' x m v)(hd:∀b,B b->¬B' b)(hB':∀b,B' b->b<m.next)(ov:okV sz v)(hl:acc.length<2^30):
  ∃m2 m3 s',ao ae t 1 [(0,v)] m=some (vL m.next 0 1 1,m2)/\Gd m2/\Kp m m2 eU/\cV ae #[t,t] sv (vL m.next 0 1 1) m2=some (s',m3)/\Kp m m3 B/\ui E sz (fun y=>B y\/B' y\/y=m.next+1) m3 (acc++[x]) s'/\gy s'=true/\m3.next=m.next+2:=by
 obtain⟨o2,k2,n2⟩:=dC g (k:={kind:=1,sz:=sz,cs:=v.cells.toList.map some}) (cs:=v.cells.toList) rfl rfl rfl;obtain⟨m2,xC⟩:∃m2,m2=m.alloc {kind:=1,sz:=sz,cs:=v.cells.toList.map some}:=⟨_,rfl⟩;have e2:=bs1 (m:=m) ht ov.1 Ui;rw[<-xC]at e2 o2 k2 n2;have g2:=g.ext k2;have zP:oE m2 (vL m.next 0 1 1) sz 1 v.cells.toList:=o2.sl (by simp[ov.1]) (.inr rfl);have q2:=E.ext q k2 fun _ _ h=>h
 rcases h with⟨rfl,rfl⟩|⟨b,cs,c,rfl,hc,hp,hb,ob,jB⟩
 ·obtain⟨m3,e3,o3,k3,n3⟩:=Ak g2 ht zP ov.2 dB dB;refine⟨m2,m3,_,e2,g2,k2,e3,(k2.aN k3).mo,?_,rfl,av⟩;refine .inr ⟨m2.next,_,eP,rfl,.inl rfl,cK,.inr (.inr av),o3,⟨v,[],cK,⟨E.mono (E.ext q2 k3 fun _ _ h=>h) fun y hy=>⟨.inr (.inl hy),by have :=hB' y hy;omega⟩,ov⟩,rfl⟩⟩
 ·have j8:=(S4 b hb).1;have iW:=(S4 b hb).2;have NY:=ob.aM k2;have Bx:∃m3,cV ae #[t,t] (vL b 0 acc.length c) (vL m.next 0 1 1) m2=some (vL m2.next 0 (acc.length+1) eP,m3)/\Obj m3 m2.next sz (cs++v.cells.toList)/\Kp m2 m3 (fun y=>y=b)/\m3.next=m2.next+1:=by
   rcases hc with rfl|rfl
   ·exact Al (rest:=[]) g2 ht (by simpa using NY) jB.one.1 (g0.own (h0.aN k2) j8) zP ov.2 av
   ·obtain⟨m3,x1,x2,x3,x4⟩:=xx g2 ht NY jB.one.1 dB zP ov.2 av;exact⟨m3,x1,x2,x3.mo,x4⟩
  obtain⟨m3,e3,o3,k3,n3⟩:=Bx;refine⟨m2,m3,_,e2,g2,k2,e3,(k2.mo.trans (k3.mono fun y _ h=>by rw[h];exact hb) fun _ _ h=>h),?_,rfl,av⟩;have tS:Kp m m3 (fun y=>y=b):=k2.mo.trans k3 fun _ _ h=>h
  refine .inr ⟨m2.next,_,eP,cK,.inl rfl,cK,.inr (.inr av),o3,fq.snoc ⟨E.mono (E.ext q tS fun y hy e=>hd b hb (e▸hy)) fun y hy=>⟨.inr (.inl hy),by have :=hB' y hy;omega⟩,ov⟩
   (jB.mono fun x u _ w=>⟨E.mono (E.ext w.1 tS fun y hy e=>hy.2 e) fun y hy=>⟨.inl hy.1,by have :=S4 y hy.1;omega⟩,w.2⟩)⟩
end
def QA:List ByteArray->ByteArray
 | []=> .empty
 |a::l=>if a≠ .empty then a else QA l
def nameOf (x:It):ByteArray:=match x.e with
 | .ref _ c=>QA [x.n,c]
 |_=>x.n
def BT (cj:List Src):E->Int->Option X×Int
 | .nil,f=>(none,f)
 |e,f=>(some (cZ cj e f).1,nE (cZ cj e f).2.2 (fits (cZ cj e f).2.1 3) 5)
def nK:j6 (Option X) where
 R B x m v:=match x with |none=>v= .nilIface|some x=>XR B x m v
 mono:=by
  rintro B B' x m v h k;cases x with
  |none=>exact h
  |some x=>exact XR.mono k h
 ext:=by
  rintro B S x m m' v h k hs;cases x with
  |none=>exact h
  |some x=>exact XR.ext k hs h
def lD (cj:List Src):List It->List X->List pM->Int->List X×List pM×Int
 | [],xs,cs,f=>(xs,cs,f)
 |x::l,xs,cs,f=>lD cj l (xs++[(cZ cj x.e f).1]) (cs++[⟨nameOf x,if(cZ cj x.e f).2.1=0 then 1 else(cZ cj x.e f).2.1⟩]) (cZ cj x.e f).2.2
section
variable {K:iK}{c:Nat}{M1 M2:af}{B:Nat->Prop}{m:Mem}
theorem adO (p n cc:Nat):bF (bN 191) (ax 191) 0 3 [0] [(vL p 0 n cc)]
 []
 .normal [3,6,7,8] [dU,(vL p 0 n cc),(vI (n:Int)),(vI 0)]:=eF
theorem adK (p n cc i:Nat):bF (bN 191) (bh (ax 191) [3]) 0 99 [3,6,7,8] [dU,(vL p 0 n cc),(vI (n:Int)),(vI (i:Int))]
 [aD (br (i:Int) (n:Int)) false]
 (.exit 0) [3] [dU]:=eF
theorem adM (p n cc i:Nat)(s:ByteArray):bF (bN 191) (bh (ax 191) [3]) 0 99 [3,6,7,8] [dU,(vL p 0 n cc),(vI (n:Int)),(vI (i:Int))]
 [aD (br (i:Int) (n:Int)) true,
  .idx (i:Int) n i,
  .mem (aI p (0+i*1)) (aY s),
  aD ((s.toList==ByteArray.empty.toList)==false) true]
 .ret [2] [(aY s)]:=eF
theorem adL (p n cc i:Nat)(s:ByteArray):bF (bN 191) (bh (ax 191) [3]) 0 99 [3,6,7,8] [dU,(vL p 0 n cc),(vI (n:Int)),(vI (i:Int))]
 [aD (br (i:Int) (n:Int)) true,
  .idx (i:Int) n i,
  .mem (aI p (0+i*1)) (aY s),
  aD ((s.toList==ByteArray.empty.toList)==false) false]
 .normal [3,6,7,8] [dU,(vL p 0 n cc),(vI (n:Int)),(vI (bB (i:Int) 1))]:=eF
theorem adN:bF (bN 191) (ax 191) 4 99 [3] [dU]
 []
 .ret [2] [dU]:=eF
theorem X6:jR 191 1 [2]=true:=bp
theorem NJ:(du (ax 191)).length<=99:=ag bp
theorem LU:dT (ax 191) 3=some (0,(bh (ax 191) [3])):=bp
theorem ES:codeOk (bN 191) (bh (ax 191) [3])=true:=bp
theorem L2:eI (bN 191) (ax 191) (bh (ax 191) [3]) 3 0=true:=bp
theorem afT (s x n y:ByteArray)(aH a0 cf:Nat):Path 247 [(.agg #[(.iface 320 (.agg #[(aY s),(aY x)])),(aY n)])]
 [cp [some (.iface 320 (.agg #[(aY s),(aY x)])),some (aY n)] aH,
  .mem (aI aH 0) (.iface 320 (.agg #[(aY s),(aY x)])),
  cp [some dU,some dU] a0,
  dV a0 0 [(aY s),(aY x)],
  bV,
  .mem (aI aH 1) (aY n),
  .mem (aI a0 1) (aY x),
  .mem (ao ae 28 2 [(0,(aY n)),(1,(aY x))]) (vL cf 0 2 2),
  .call 191 [(vL cf 0 2 2)] (aY y)]
 (aY y):=cg
theorem afV (n:ByteArray)(aH a0:Nat):Path 247 [(.agg #[.nilIface,(aY n)])]
 [cp [some .nilIface,some (aY n)] aH,
  .mem (aI aH 0) .nilIface,
  cp [some dU,some dU] a0,
  dV a0 0 [dU,dU],
  bm,
  .mem (aI aH 1) (aY n)]
 (aY n):=cg
theorem afY (op:Int)(l r:af)(n:ByteArray)(aH a0:Nat):Path 247 [(.agg #[(.iface 304 (.agg #[(vI op),l,r])),(aY n)])]
 [cp [some (.iface 304 (.agg #[(vI op),l,r])),some (aY n)] aH,
  .mem (aI aH 0) (.iface 304 (.agg #[(vI op),l,r])),
  cp [some dU,some dU] a0,
  dV a0 0 [dU,dU],
  bm,
  .mem (aI aH 1) (aY n)]
 (aY n):=cg
theorem afU (op:Int)(l:af)(n:ByteArray)(aH a0:Nat):Path 247 [(.agg #[(.iface 310 (.agg #[(vI op),l])),(aY n)])]
 [cp [some (.iface 310 (.agg #[(vI op),l])),some (aY n)] aH,
  .mem (aI aH 0) (.iface 310 (.agg #[(vI op),l])),
  cp [some dU,some dU] a0,
  dV a0 0 [dU,dU],
  bm,
  .mem (aI aH 1) (aY n)]
 (aY n):=cg
theorem afX (no:Bool)(l:af)(n:ByteArray)(aH a0:Nat):Path 247 [(.agg #[(.iface 313 (.agg #[l,(.bool no)])),(aY n)])]
 [cp [some (.iface 313 (.agg #[l,(.bool no)])),some (aY n)] aH,
  .mem (aI aH 0) (.iface 313 (.agg #[l,(.bool no)])),
  cp [some dU,some dU] a0,
  dV a0 0 [dU,dU],
  bm,
  .mem (aI aH 1) (aY n)]
 (aY n):=cg
theorem afW (u:V)(n:ByteArray)(aH a0:Nat):Path 247 [(.agg #[(.iface 316 (ck u)),(aY n)])]
 [cp [some (.iface 316 (ck u)),some (aY n)] aH,
  .mem (aI aH 0) (.iface 316 (ck u)),
  cp [some dU,some dU] a0,
  dV a0 0 [dU,dU],
  bm,
  .mem (aI aH 1) (aY n)]
 (aY n):=cg
theorem agf (c:Nat)(sv:af):Path 193 [(vP c 0),.nilIface,sv]
 [bV]
 .nilIface:=cg
theorem agj (c:Nat)(op:Int)(l r:af)(sv y:af)(k:Int)(b:Bool):Path 193 [(vP c 0),(.iface 304 (.agg #[(vI op),l,r])),sv]
 [bm,
  .call 135 [(vP c 0),(.iface 304 (.agg #[(vI op),l,r])),sv] (.tuple #[y,(vI k)]),
  .call 136 [(vI k),(vI 3)] (.bool b),
  .call 105 [(vP c 0),(.bool b),(vI 5)] (.tuple #[])]
 y:=cg
theorem age (c:Nat)(op:Int)(l:af)(sv y:af)(k:Int)(b:Bool):Path 193 [(vP c 0),(.iface 310 (.agg #[(vI op),l])),sv]
 [bm,
  .call 135 [(vP c 0),(.iface 310 (.agg #[(vI op),l])),sv] (.tuple #[y,(vI k)]),
  .call 136 [(vI k),(vI 3)] (.bool b),
  .call 105 [(vP c 0),(.bool b),(vI 5)] (.tuple #[])]
 y:=cg
theorem agi (c:Nat)(no:Bool)(l:af)(sv y:af)(k:Int)(b:Bool):Path 193 [(vP c 0),(.iface 313 (.agg #[l,(.bool no)])),sv]
 [bm,
  .call 135 [(vP c 0),(.iface 313 (.agg #[l,(.bool no)])),sv] (.tuple #[y,(vI k)]),
  .call 136 [(vI k),(vI 3)] (.bool b),
  .call 105 [(vP c 0),(.bool b),(vI 5)] (.tuple #[])]
 y:=cg
theorem agh (c:Nat)(u:V)(sv y:af)(k:Int)(b:Bool):Path 193 [(vP c 0),(.iface 316 (ck u)),sv]
 [bm,
  .call 135 [(vP c 0),(.iface 316 (ck u)),sv] (.tuple #[y,(vI k)]),
  .call 136 [(vI k),(vI 3)] (.bool b),
  .call 105 [(vP c 0),(.bool b),(vI 5)] (.tuple #[])]
 y:=cg
theorem agd (c:Nat)(s x:ByteArray)(sv y:af)(k:Int)(b:Bool):Path 193 [(vP c 0),(.iface 320 (.agg #[(aY s),(aY x)])),sv]
 [bm,
  .call 135 [(vP c 0),(.iface 320 (.agg #[(aY s),(aY x)])),sv] (.tuple #[y,(vI k)]),
  .call 136 [(vI k),(vI 3)] (.bool b),
  .call 105 [(vP c 0),(.bool b),(vI 5)] (.tuple #[])]
 y:=cg
theorem adJ (c n cc:Nat)(a:Option Addr)(sv:af):bF (bN 195) (ax 195) 0 4 [0,1,2] [(vP c 0),(.slice a n cc),sv]
 []
 .normal [0,2,8,9,14,15,16] [(vP c 0),sv,(.slice none 0 0),(.slice none 0 0),(.slice a n cc),(vI (n:Int)),(vI 0)]:=eF
theorem adG (c n cc i:Nat)(a:Option Addr)(sv xv cv:af):bF (bN 195) (bh (ax 195) [4]) 0 99 [0,2,8,9,14,15,16] [(vP c 0),sv,xv,cv,(.slice a n cc),(vI (n:Int)),(vI (i:Int))]
 [aD (br (i:Int) (n:Int)) false]
 (.exit 0) [8,9] [xv,cv]:=eF
theorem adF (c p n cc i:Nat)(sv xv cv y T7 Uu:af)(k:Int)(x:It)(nm:ByteArray)(aH a0 cf:Nat):bF (bN 195) (bh (ax 195) [4]) 0 99 [0,2,8,9,14,15,16] [(vP c 0),sv,xv,cv,(vL p 0 n cc),(vI (n:Int)),(vI (i:Int))]
 [aD (br (i:Int) (n:Int)) true,
  .idx (i:Int) n i,
  .mem (eJ 2 p (0+i*2)) (.agg #[x.e.val,(aY x.n)]),
  cp [some .nilIface,some dU] aH,
  dV aH 0 [x.e.val,(aY x.n)],
  .mem (aI aH 0) x.e.val,
  .call 135 [(vP c 0),x.e.val,sv] (.tuple #[y,(vI k)]),
  aD (aZ k 0) true,
  .mem (ao ae 159 1 [(0,y)]) (vL a0 0 1 1),
  .mem (cV ae #[159,159] xv (vL a0 0 1 1)) T7,
  ie 2 aH (.agg #[x.e.val,(aY x.n)]),
  .call 247 [(.agg #[x.e.val,(aY x.n)])] (aY nm),
  .mem (ao ae 89 1 [(0,(.agg #[(aY nm),(vI 1)]))]) (vL cf 0 1 1),
  .mem (cV ae #[89,89] cv (vL cf 0 1 1)) Uu]
 .normal [0,2,8,9,14,15,16] [(vP c 0),sv,T7,Uu,(vL p 0 n cc),(vI (n:Int)),(vI (bB (i:Int) 1))]:=eF
theorem adH (c p n cc i:Nat)(sv xv cv y T7 Uu:af)(k:Int)(x:It)(nm:ByteArray)(aH a0 cf:Nat):bF (bN 195) (bh (ax 195) [4]) 0 99 [0,2,8,9,14,15,16] [(vP c 0),sv,xv,cv,(vL p 0 n cc),(vI (n:Int)),(vI (i:Int))]
 [aD (br (i:Int) (n:Int)) true,
  .idx (i:Int) n i,
  .mem (eJ 2 p (0+i*2)) (.agg #[x.e.val,(aY x.n)]),
  cp [some .nilIface,some dU] aH,
  dV aH 0 [x.e.val,(aY x.n)],
  .mem (aI aH 0) x.e.val,
  .call 135 [(vP c 0),x.e.val,sv] (.tuple #[y,(vI k)]),
  aD (aZ k 0) false,
  .mem (ao ae 159 1 [(0,y)]) (vL a0 0 1 1),
  .mem (cV ae #[159,159] xv (vL a0 0 1 1)) T7,
  ie 2 aH (.agg #[x.e.val,(aY x.n)]),
  .call 247 [(.agg #[x.e.val,(aY x.n)])] (aY nm),
  .mem (ao ae 89 1 [(0,(.agg #[(aY nm),(vI k)]))]) (vL cf 0 1 1),
  .mem (cV ae #[89,89] cv (vL cf 0 1 1)) Uu]
 .normal [0,2,8,9,14,15,16] [(vP c 0),sv,T7,Uu,(vL p 0 n cc),(vI (n:Int)),(vI (bB (i:Int) 1))]:=eF
theorem adI (xv cv:af):bF (bN 195) (ax 195) 5 99 [8,9] [xv,cv]
 []
 .ret [6,7] [xv,cv]:=eF
theorem agE:jR 195 3 [6,7]=true:=bp
theorem NI:(du (ax 195)).length<=99:=ag bp
theorem VT:dT (ax 195) 4=some (0,(bh (ax 195) [4])):=bp
theorem ER:codeOk (bN 195) (bh (ax 195) [4])=true:=bp
theorem V7:eI (bN 195) (ax 195) (bh (ax 195) [4]) 4 0=true:=bp
theorem amS {p cc:Nat}{l:List ByteArray}(hp:Obj m p 1 (l.map rE))(hl:l.length<90000):Ev K 191 [vL p 0 l.length cc] m (.string (QA l)) m:=by
 obtain⟨A,hA⟩:∃A,A=vL p 0 l.length cc:=⟨_,rfl⟩;obtain⟨t0,w0,e0⟩:=bQ (K:=K) (m:=m) (m':=m) (tm:=entry [vL p 0 l.length cc]) (adO p l.length cc) rfl .nil;obtain⟨e,t1,m1,he,hx,rfl,dW⟩:=gk (K:=K) (nt:=bN 191) (a:=bh (ax 191) [3]) l.length
  (Inv:=fun j tm m'=>m'=m/\cH [3,6,7,8] tm=[.string .empty,A,vI (l.length:Int),vI (j:Int)]/\QA (l.drop j)=QA l)
  (dA:=fun e tm m'=>m'=m/\((e= .exit 0/\cH [3] tm=[.string .empty]/\QA l= .empty)\/(e= .ret/\cH [2] tm=[.string (QA l)])))
  (by
   rintro j tm m1 hj ⟨rfl,hg,hf⟩;rw[hA]at hg;obtain⟨y,hy⟩:∃y,l[j]=y:=⟨_,rfl⟩;have hd:l.drop j=y::l.drop (j+1):=by rw[List.drop_eq_getElem_cons hj,hy]
   have OH:aI p (0+j*1) m1=some (rE y,m1):=by
    rw[Nat.zero_add,Nat.mul_one];exact aJ hp (by rw[List.getElem?_map,List.getElem?_eq_getElem hj,hy];rfl)
   rw[hd]at hf;have hf:(if y≠ .empty then y else QA (l.drop (j+1)))=QA l:=hf;have c2:=P8 y .empty
   by_cases h:y= .empty
   ·rw[eO (by simpa using h)]at c2;rw[bT (by simpa using h)]at hf;obtain⟨t2,dk,dm⟩:=aU (K:=K) (m:=m1) (m':=m1) ES (adL p l.length cc j y) hg (.cond (Pm hj)<| .idx rfl hj<| .mem OH<| .cond c2 .nil);exact .inl ⟨t2,m1,dk,rfl,by rw[dm,add1 av,hA],hf⟩
   ·rw[dZ h]at c2;rw[bL h]at hf;obtain⟨t2,dk,dm⟩:=aU (K:=K) (m:=m1) (m':=m1) ES (adM p l.length cc j y) hg (.cond (Pm hj)<| .idx rfl hj<| .mem OH<| .cond c2 .nil);exact .inr ⟨_,t2,m1,(fun h=>by cases h),dk,rfl,.inr ⟨rfl,by rw[dm,hf]⟩⟩)
  (by
   rintro tm m1 ⟨rfl,hg,hf⟩;rw[hA]at hg;obtain⟨t2,dk,dm⟩:=aU (K:=K) (m:=m1) (m':=m1) ES (adK p l.length cc l.length) hg (.cond (ID _) .nil);rw[List.drop_length]at hf;exact⟨_,t2,m1,(fun h=>by cases h),dk,rfl,.inl ⟨rfl,dm,hf.symm⟩⟩)
  (tm:=t0) (m:=m) ⟨rfl,by rw[e0,hA];rfl,rfl⟩ hl
 rcases dW with⟨rfl,hg,hf⟩|⟨rfl,hg⟩
 ·obtain⟨t2,h2,e2⟩:=bQ (K:=K) (m:=m1) (m':=m1) adN hg .nil;rw[hf];exact fg X6 (aX.cut w0 (aX.iH LU L2 hx rfl (aX.last h2 NJ))) (.inr rfl) e2
 ·exact fg X6 (aX.cut w0 (aX.sY LU L2 hx bp)) (.inr rfl) hg
theorem acu {m:Mem}(a b:ByteArray):ao ae 28 2 [(0,.string a),(1,.string b)] m=some (vL m.next 0 2 2,m.alloc {kind:=1,sz:=1,cs:=[some (.string a),some (.string b)]}):=bp
theorem or2 (g:Gd m)(a b:ByteArray):∃m1,ao ae 28 2 [(0,.string a),(1,.string b)] m=some (vL m.next 0 2 2,m1)/\Ev K 191 [vL m.next 0 2 2] m1 (.string (QA [a,b])) m1/\Kp m m1 eU/\m1.next=m.next+1:=by
 obtain⟨o,k,n⟩:=dC g (k:={kind:=1,sz:=1,cs:=[some (.string a),some (.string b)]}) (cs:=[a,b].map rE) rfl rfl rfl;exact⟨_,acu a b,amS (l:=[a,b]) (cc:=2) o cK,k,n⟩
theorem amL (g:Gd m)(x:It):∃m',Ev K 247 [x.val] m (.string (nameOf x)) m'/\Kp m m' eU:=by
 obtain⟨e,n⟩:=x;obtain⟨m1,e1,o1,k1,n1,_⟩:=aQ g [e.val,.string n];have g1:=g.ext k1;have el:aI m.next 0 m1=some (e.val,m1):=aJ o1 rfl;have other:∃m2 m3,rU [some (.string .empty),some (.string .empty)] m1=some (vP m1.next 0,m2)/\sO m1.next 0 [.string .empty,.string .empty] m2=some (undef,m3)/\Kp m m3 eU/\aI m.next 1 m3=some (.string n,m3):=by
  obtain⟨m2,m3,e2,e3,o3,k3,n3⟩:=eH g1 [.string .empty,.string .empty] [.string .empty,.string .empty] rfl rfl;exact⟨m2,m3,e2,e3,k1.aN k3,aJ (o1.aM k3) rfl⟩
 cases e with
 |ref s x=>
  obtain⟨m2,m3,e2,e3,o3,k3,n3⟩:=eH g1 [.string .empty,.string .empty] [.string s,.string x] rfl rfl;have e4:aI m.next 1 m3=some (.string n,m3):=aJ (o1.aM k3) rfl;have e5:aI m1.next 1 m3=some (.string x,m3):=aJ o3 rfl;obtain⟨m4,e6,e7,k4,n4⟩:=or2 (K:=K) (g1.ext k3) n x;exact⟨m4,ak (afT s x n (QA [n,x]) m.next m1.next m3.next) (.mem e1<| .mem el<| .mem e2<| .mem e3<| .cond rfl<| .mem e4<| .mem e5<| .mem e6<| .call e7 .nil),(k1.aN k3).aN k4⟩
 |nil=>
  obtain⟨m2,m3,e2,e3,k3,e4⟩:=other;exact⟨m3,ak (afV n m.next m1.next) (.mem e1<| .mem el<| .mem e2<| .mem e3<| .cond rfl<| .mem e4 .nil),k3⟩
 |bin op l r=>
  obtain⟨m2,m3,e2,e3,k3,e4⟩:=other;exact⟨m3,ak (afY op l.val r.val n m.next m1.next) (.mem e1<| .mem el<| .mem e2<| .mem e3<| .cond rfl<| .mem e4 .nil),k3⟩
 |pre op l=>
  obtain⟨m2,m3,e2,e3,k3,e4⟩:=other;exact⟨m3,ak (afU op l.val n m.next m1.next) (.mem e1<| .mem el<| .mem e2<| .mem e3<| .cond rfl<| .mem e4 .nil),k3⟩
 |Dt l no=>
  obtain⟨m2,m3,e2,e3,k3,e4⟩:=other;exact⟨m3,ak (afX no l.val n m.next m1.next) (.mem e1<| .mem el<| .mem e2<| .mem e3<| .cond rfl<| .mem e4 .nil),k3⟩
 |lit u=>
  obtain⟨m2,m3,e2,e3,k3,e4⟩:=other;exact⟨m3,ak (afW u n m.next m1.next) (.mem e1<| .mem el<| .mem e2<| .mem e3<| .cond rfl<| .mem e4 .nil),k3⟩
theorem amR {cj:List Src}{sv:af}{f:Int}(II:qN cj)(hB:¬B c)(e:E)(g:Gd m)(hc:gW m c M1 M2 f)(hs:jS.R B cj m sv)(wW:∀b,B b->b<m.next):
  ∃v m',Ev K 193 [vP c 0,e.val,sv] m v m'/\Kp m m' (fun y=>y=c)/\gW m' c M1 M2 (BT cj e f).2/\nK.R (fY m m') (BT cj e f).1 m' v:=by
 have main:e≠ .nil->∃y m1 m2,Ev K 135 [vP c 0,e.val,sv] m (.tuple #[y,vI (cZ cj e f).2.1]) m1/\Ev K 136 [vI (cZ cj e f).2.1,vI 3] m1 (.bool (fits (cZ cj e f).2.1 3)) m1/\Ev K 105 [vP c 0,.bool (fits (cZ cj e f).2.1 3),vI 5] m1 (.tuple #[]) m2/\
   Kp m m2 (fun y=>y=c)/\gW m2 c M1 M2 (nE (cZ cj e f).2.2 (fits (cZ cj e f).2.1 3) 5)/\XR (fY m m2) (cZ cj e f).1 m2 y:=by
  intro _;obtain⟨y,m1,e1,k1,Mz,q1⟩:=O' (K:=K) II hB e g hc hs wW;obtain⟨m2,e2,k2,sf⟩:=Pa (K:=K) (g.ext k1) Mz (fits (cZ cj e f).2.1 3) 5;have Bv:=hc.obj.lt;have :=k2.next;exact⟨y,m1,m2,e1,ack _ _,e2,k1.trans k2 fun _ _ h=>h,sf,XR.mono (fun z h=>⟨h.1,by have :=h.2;omega⟩) (XR.ext k2 (fun z h e=>by have :=h.1;omega) q1)⟩
 cases e with
 |nil=>exact⟨_,m,ak (agf c sv) (.cond rfl .nil),Kp.refl _ _,hc,rfl⟩
 |bin op l r=>
  obtain⟨y,m1,m2,e1,e2,e3,k,sf,q⟩:=main (fun h=>by cases h);exact⟨y,m2,ak (agj c op l.val r.val sv y _ _) (.cond rfl<| .call e1<| .call e2<| .call e3 .nil),k,sf,q⟩
 |pre op l=>
  obtain⟨y,m1,m2,e1,e2,e3,k,sf,q⟩:=main (fun h=>by cases h);exact⟨y,m2,ak (age c op l.val sv y _ _) (.cond rfl<| .call e1<| .call e2<| .call e3 .nil),k,sf,q⟩
 |Dt l no=>
  obtain⟨y,m1,m2,e1,e2,e3,k,sf,q⟩:=main (fun h=>by cases h);exact⟨y,m2,ak (agi c no l.val sv y _ _) (.cond rfl<| .call e1<| .call e2<| .call e3 .nil),k,sf,q⟩
 |lit u=>
  obtain⟨y,m1,m2,e1,e2,e3,k,sf,q⟩:=main (fun h=>by cases h);exact⟨y,m2,ak (agh c u sv y _ _) (.cond rfl<| .call e1<| .call e2<| .call e3 .nil),k,sf,q⟩
 |ref s x=>
  obtain⟨y,m1,m2,e1,e2,e3,k,sf,q⟩:=main (fun h=>by cases h);exact⟨y,m2,ak (agd c s x sv y _ _) (.cond rfl<| .call e1<| .call e2<| .call e3 .nil),k,sf,q⟩
end
end Go.AM
namespace Go.AM
set_option maxRecDepth 1000000
open Go Go.Conc Go.Proofs
theorem Gv:∀(vs c a d:List af),c.length=vs.length->qO (a++(c++d)) a.length vs=a++(vs++d)
 | [],[],a,d,_=>rfl
 | [],x::c,a,d,h=>by simp at h
 |v::vs,[],a,d,h=>by simp at h
 |v::vs,x::c,a,d,h=>by
  unfold qO;have e:(a++(x::c++d)).set a.length v=(a++[v])++(c++d):=cK;rw[e,show a.length+1=(a++[v]).length by simp,Gv vs c (a++[v]) d (by simpa using h)];simp
theorem rC (a b:List V):gq (a++b)=gq a++gq b:=by unfold gq;simp
theorem yO (x:V)(b:List V):gq (x::b)=x.cells++gq b:=by unfold gq;simp
theorem ajf {a b:List V}(x u:V):qO (gq (a++x::b)) (a.length*4) u.cells=gq (a++[u]++b):=by
 rw[rC,yO,<-uE a,Gv u.cells x.cells (gq a) (gq b) rfl,rC,rC,yO];simp[gq]
theorem adh:ae.underlying 47=some (.slice 49):=bp
theorem Zd:jO ae 49=some bJ.val:=bp
noncomputable def Md:Bool:=match ae.info? 49 with |some i=>Nat.beq i.size 4&&Nat.ble i.bytes 1000|none=>false
theorem abk:∃i,ae.info? 49=some i/\i.size=4/\i.bytes<=1000:=by
 have h:Md=true:=bp;unfold Md at h
 split at h
 ·rename_i i hi;rw[aj]at h;exact⟨i,hi,aT h.1,ag h.2⟩
 ·cases h
theorem ai9 (n:Nat):((Array.range (n*4)).map (bJ.val.cells[·%bJ.val.cells.size]!)).toList=gq (List.replicate n bJ):=by
 rw[Array.toList_map,Array.toList_range]
 induction n with
 |zero=>rfl
 |succ n ih=>
  rw[show(n+1)*4=n*4+4 by omega,List.range_add,List.map_append,ih,List.replicate_succ',rC]
  congr 1
  have h:bJ.val.cells.size=4:=rfl;have e0:(n*4+0)%4=0:=av;have e1:(n*4+1)%4=1:=av;have e2:(n*4+2)%4=2:=av;have e3:(n*4+3)%4=3:=av
  show[bJ.val.cells[(n*4+0)%bJ.val.cells.size]!,bJ.val.cells[(n*4+1)%bJ.val.cells.size]!,bJ.val.cells[(n*4+2)%bJ.val.cells.size]!,bJ.val.cells[(n*4+3)%bJ.val.cells.size]!]=_
  rw[h,e0,e1,e2,e3];rfl
theorem ala {m:Mem}{n:Nat}(hn:n<2^30):gh ae 47 (vI (n:Int)) (vI (n:Int)) m=some (vL m.next 0 n n,m.alloc {kind:=1,sz:=4,cs:=(gq (List.replicate n bJ)).map some}):=by
 obtain⟨i,h1,h2,h3⟩:=abk;unfold gh;simp only[adh,h1,Zd];have hm:(n:Int)*(i.bytes:Int)<=(n:Int)*1000:=Int.mul_le_mul_of_nonneg_left av av;rw[bL ⟨av,av,av,av⟩];have e:((n:Int).toNat)=n:=av;rw[e,h2,ai9]
def kU:j6 (List V) where
 R B x m v:=∃b c,v=vL b 0 x.length c/\B b/\Obj m b 4 (gq x)/\(c=eP\/c=x.length)
 mono:=by
  rintro B B' x m v ⟨b,c,e,hb,o,h⟩ k;exact⟨b,c,e,k b hb,o,h⟩
 ext:=by
  rintro B S x m m' v ⟨b,c,e,hb,o,h⟩ k hs;exact⟨b,c,e,hb,o.ext k (hs b hb),h⟩
theorem kU.ok{B:Nat->Prop}{x:List V}{m:Mem}{v:af}(h:kU.R B x m v):okV 1 v:=by
 obtain⟨b,c,rfl,_⟩:=h;exact⟨rfl,by simp[af.cells,af.oneCell']⟩
def jI (cv:Nat->Int->Int->V):List X->List V->List V×Int
 | [],acc=>(acc,0)
 |x::l,acc=>if(fA cv x).2≠0 then([],(fA cv x).2)else jI cv l (acc++[(fA cv x).1])
structure Scope (K:iK)(R:Mem->Prop)(cv:Nat->Int->Int->V)(rv:af):Prop where
 keep:∀m m',R m->Kp m m' eU->R m'
 Px:∀p i j m b,kJ (cv p i j)->Gd m->R m->Obj m b 0 [vP p 0,vI i,vI j]->∃m',Ev K 351 [vP b 0,rv] m (.tuple #[(cv p i j).val,vI 0]) m'/\Kp m m' eU
def T9 (cv:Nat->Int->Int->V)(x:X):Prop:=x.all kJ (fun p i j=>kJ (cv p i j))
section
variable {K:iK}{B:Nat->Prop}{m m0:Mem}
theorem aeX (n cc:Nat)(a:Option Addr)(sv rv:af)(aH:Nat):bF (bN 111) (ax 111) 0 3 [0,1,2] [sv,(.slice a n cc),rv]
 [.mem (gh ae 47 (vI (n:Int)) (vI (n:Int))) (vL aH 0 n n)]
 .normal [0,2,8,16,17,18] [sv,rv,(vL aH 0 n n),(.slice a n cc),(vI (n:Int)),(vI 0)]:=eF
theorem aeU (q n cc i:Nat)(a:Option Addr)(sv rv:af):bF (bN 111) (bh (ax 111) [3]) 0 99 [0,2,8,16,17,18] [sv,rv,(vL q 0 n n),(.slice a n cc),(vI (n:Int)),(vI (i:Int))]
 [aD (br (i:Int) (n:Int)) false]
 (.exit 0) [0,8] [sv,(vL q 0 n n)]:=eF
theorem aeW (p q n cc i:Nat)(sv rv xv:af)(u:V)(z:Int)(aH:Nat):bF (bN 111) (bh (ax 111) [3]) 0 99 [0,2,8,16,17,18] [sv,rv,(vL q 0 n n),(vL p 0 n cc),(vI (n:Int)),(vI (i:Int))]
 [aD (br (i:Int) (n:Int)) true,
  .idx (i:Int) n i,
  .mem (aI p (0+i*1)) xv,
  .fw (eW ae xv "Of") [rv] (.tuple #[(ck u),(vI z)]),
  cp nO aH,
  dV aH 0 (uS u),
  aD (hY z 0) true]
 .ret [6,7] [(.slice none 0 0),(vI z)]:=eF
theorem aeV (p q n cc i:Nat)(sv rv xv:af)(u:V)(aH:Nat):bF (bN 111) (bh (ax 111) [3]) 0 99 [0,2,8,16,17,18] [sv,rv,(vL q 0 n n),(vL p 0 n cc),(vI (n:Int)),(vI (i:Int))]
 [aD (br (i:Int) (n:Int)) true,
  .idx (i:Int) n i,
  .mem (aI p (0+i*1)) xv,
  .fw (eW ae xv "Of") [rv] (.tuple #[(ck u),(vI 0)]),
  cp nO aH,
  dV aH 0 (uS u),
  bm,
  ie 4 aH (ck u),
  .idx (i:Int) n i,
  dV q (0+i*4) (uS u)]
 .normal [0,2,8,16,17,18] [sv,rv,(vL q 0 n n),(vL p 0 n cc),(vI (n:Int)),(vI (bB (i:Int) 1))]:=eF
theorem aeT (q n:Nat)(sv Zo:af)(aH:Nat):bF (bN 111) (ax 111) 4 99 [0,8] [sv,(vL q 0 n n)]
 [.mem (ao ae 29 1 [(0,(vL q 0 n n))]) (vL aH 0 1 1),
  .mem (cV ae #[29,29] sv (vL aH 0 1 1)) Zo]
 .ret [6,7] [Zo,(vI 0)]:=eF
theorem Yc:jR 111 3 [6,7]=true:=bp
theorem NV:(du (ax 111)).length<=99:=ag bp
theorem L0:dT (ax 111) 3=some (0,(bh (ax 111) [3])):=bp
theorem EY:codeOk (bN 111) (bh (ax 111) [3])=true:=bp
theorem L8:eI (bN 111) (ax 111) (bh (ax 111) [3]) 3 0=true:=bp
theorem am9 {R:Mem->Prop}{cv:Nat->Int->Int->V}{rv sv ev:af}(sc:Scope K R cv rv){xs:List X}{acc:List (List V)}{BA S:Nat->Prop}(g0:Gd m0)(h0:Kp m0 m S)(g:Gd m)(hr:R m)
  (ls:ui kU 1 BA m acc sv)(S4:∀b,BA b->m0.next<=b/\b<m.next)(hx:(bj mL 1).R B xs m ev)(jA:∀x∈xs,T9 cv x)(hl:xs.length<9000)(ha:acc.length<2^30):
  ((jI cv xs []).2=0->∃Iz m' XD,Ev K 111 [sv,ev,rv] m (.tuple #[Iz,vI 0]) m'/\Kp m m' BA/\ui kU 1 XD m' (acc++[(jI cv xs []).1]) Iz/\(∀b,XD b->BA b\/fY m m' b))/\
  ((jI cv xs []).2≠0->∃m',Ev K 111 [sv,ev,rv] m (.tuple #[.slice none 0 0,vI (jI cv xs []).2]) m'/\Kp m m' eU):=by
 obtain⟨L,hL⟩:∃L,L=jI cv xs []:=⟨_,rfl⟩;rw[<-hL];obtain⟨a,cc,hA⟩:=bj.form hx;obtain⟨q,hq⟩:∃q,q=m.next:=⟨_,rfl⟩;obtain⟨o1,k1,n1⟩:=dC g (k:={kind:=1,sz:=4,cs:=(gq (List.replicate xs.length bJ)).map some}) (cs:=gq (List.replicate xs.length bJ)) rfl rfl rfl;have e1:=ala (m:=m) (n:=xs.length) av;generalize m.alloc {kind:=1,sz:=4,cs:=(gq (List.replicate xs.length bJ)).map some}=m1 at o1 k1 n1 e1;rw[<-hq]at o1 e1;have Sv:bF (bN 111) (ax 111) 0 3 [0,1,2] [sv,ev,rv] [.mem (gh ae 47 (vI (xs.length:Int)) (vI (xs.length:Int))) (vL q 0 xs.length xs.length)] .normal [0,2,8,16,17,18] [sv,rv,vL q 0 xs.length xs.length,ev,vI (xs.length:Int),vI 0]:=by rw[hA];exact aeX xs.length cc a sv rv q
 obtain⟨t0,w0,e0⟩:=bQ (K:=K) (m:=m) (m':=m1) (tm:=entry [sv,ev,rv]) Sv rfl (.mem e1 .nil);obtain⟨e,t1,m2,he,Ks,k2,hp⟩:=gk (K:=K) (nt:=bN 111) (a:=bh (ax 111) [3]) xs.length
  (Inv:=fun j tm m'=>∃vs,cH [0,2,8,16,17,18] tm=[sv,rv,vL q 0 xs.length xs.length,ev,vI (xs.length:Int),vI (j:Int)]/\Kp m m' eU/\m1.next<=m'.next/\vs.length=j/\Obj m' q 4 (gq (vs++List.replicate (xs.length-j) bJ))/\jI cv (xs.drop j) vs=L)
  (dA:=fun e tm m'=>Kp m m' eU/\((e= .exit 0/\m1.next<=m'.next/\cH [0,8] tm=[sv,vL q 0 xs.length xs.length]/\L.2=0/\L.1.length=xs.length/\Obj m' q 4 (gq L.1))\/(e= .ret/\L.2≠0/\cH [6,7] tm=[.slice none 0 0,vI L.2])))
  (by
   rintro j tm m2 hj ⟨vs,hg,kk,nn,hvl,oq,hf⟩;obtain⟨p,c',u,ucs,rfl,hBp,ob,hu,hle,hE,alO⟩:=bj.get ((bj mL 1).ext hx kk fun _ _ h=>h) hj;obtain⟨x,hy⟩:∃y,xs[j]=y:=⟨_,rfl⟩;rw[hy]at hE;have hxm:x∈xs:=by rw[<-hy];exact List.getElem_mem hj
   have Ul:xs.drop j=x::xs.drop (j+1):=by rw[List.drop_eq_getElem_cons hj,hy]
   obtain⟨t,bx,rfl⟩:=XR.form hE;have e2:aI p (0+j*1) m2=some (.iface t (vP bx 0),m2):=by
    rw[Nat.zero_add];refine aJ ob ?_;have h1:(ucs.drop (j*1)).take 1=[.iface t (vP bx 0)]:=hu;have h2:=YT (i:=0) h1 av;simpa using h2
   have g2:=g.ext kk;obtain⟨f,b',m3,hm,e3,k3⟩:=cOf (K:=K) (rv:=rv) sc.keep sc.Px x m2 _ g2 (sc.keep _ _ hr kk) hE (jA x hxm);have g3:=g2.ext k3;obtain⟨m4,m5,e4,e5,o5,k5,n5⟩:=eH g3 [vI 0,vI 0,.string .empty,.bool false] (fA cv x).1.cells rfl rfl;have pD:=(kk.aN k3).aN k5;have g5:=g.ext pD;have nx3:=k3.next;have nx5:=k5.next;rw[Ul]at hf
   by_cases hz:(fA cv x).2=0
   ·rw[hz]at e3;have e6:eJ 4 m3.next 0 m5=some ((fA cv x).1.val,m5):=bY (vs:=(fA cv x).1.cells) o5 rfl (ag rfl);have alF:List.replicate (xs.length-j) bJ=bJ::List.replicate (xs.length-(j+1)) bJ:=by
     rw[show xs.length-j=(xs.length-(j+1))+1 by omega];rfl
    rw[alF]at oq;obtain⟨m6,e7,o6,k6⟩:=dO (o:=j*4) (fA cv x).1.cells ((oq.aM k3).aM k5) ((g.own pD av).may _ _) (by rw[uE];simp[V.cells];omega) rfl;have nx6:=k6.next;have zQ:=ajf (a:=vs) (b:=List.replicate (xs.length-(j+1)) bJ) bJ (fA cv x).1;rw[hvl]at zQ;rw[zQ]at o6;obtain⟨t2,dk,dm⟩:=aU (K:=K) (m:=m2) (m':=m6) EY (aeV p q xs.length c' j sv rv _ (fA cv x).1 m3.next) hg (.cond (Pm hj)<| .idx rfl hj<| .mem e2<| .fw hm e3<| .mem e4<| .mem e5<| .cond rfl<| .mem e6<| .idx rfl hj<| .mem (by rw[Nat.zero_add];exact e7) .nil);refine .inl ⟨t2,m6,dk,vs++[(fA cv x).1],by rw[dm,add1 av],pD.new k6 (N:=m.next) (ai _) fun b hb=>by omega,av,by simp[hvl],o6,?_⟩;rw[<-hf]
    show _=(if _ then _ else _)
    rw[bT (by rw[hz];simp)]
   ·obtain⟨t2,dk,dm⟩:=aU (K:=K) (m:=m2) (m':=m5) EY (aeW p q xs.length c' j sv rv _ (fA cv x).1 (fA cv x).2 m3.next) hg (.cond (Pm hj)<| .idx rfl hj<| .mem e2<| .fw hm e3<| .mem e4<| .mem e5<| .cond (Yf hz) .nil);have hf:(if(fA cv x).2≠0 then([],(fA cv x).2)else jI cv (xs.drop (j+1)) (vs++[(fA cv x).1]))=L:=hf;rw[bL hz]at hf;exact .inr ⟨_,t2,m5,(fun h=>by cases h),dk,pD,.inr ⟨rfl,by rw[<-hf];exact hz,by rw[dm,<-hf]⟩⟩)
  (by
   rintro tm m2 ⟨vs,hg,kk,nn,hvl,oq,hf⟩;rw[hA]at hg;obtain⟨t2,dk,dm⟩:=aU (K:=K) (m:=m2) (m':=m2) EY (aeU q xs.length cc xs.length a sv rv) hg (.cond (ID _) .nil);rw[List.drop_length]at hf;have hf:(vs,(0:Int))=L:=hf;rw[Nat.sub_self,List.replicate_zero,List.append_nil]at oq;exact⟨_,t2,m2,(fun h=>by cases h),dk,kk,.inl ⟨rfl,nn,dm,by rw[<-hf],by rw[<-hf];exact hvl,by rw[<-hf];exact oq⟩⟩)
  (tm:=t0) (m:=m1) ⟨[],e0,k1,ai _,rfl,o1,by rw[hL];rfl⟩ av
 rcases hp with⟨rfl,nn,hg,hz,hll,oq⟩|⟨rfl,hz,hg⟩
 ·refine⟨fun _=>?_,fun h=>absurd hz h⟩;have g2:=g.ext k2;have Uc:=ls.ext k2 fun _ _ h=>h
  have hv:kU.R (fun y=>y=q) L.1 m2 (vL q 0 xs.length xs.length):=⟨q,xs.length,by rw[hll],rfl,oq,.inr hll.symm⟩;obtain⟨m3,m4,s',e3,g3,k3,e4,k4,ls4,_,n4⟩:=Uc.add (t:=29) (v:=vL q 0 xs.length xs.length) g2 g0 (h0.aN k2) rfl dB (fun b hb=>⟨(S4 b hb).1,by have :=(S4 b hb).2;omega⟩) hv (fun b hb e=>by have :=(S4 b hb).2;omega) (fun b e=>by omega) (kU.ok hv) ha;obtain⟨t2,h2,e2⟩:=bQ (K:=K) (m:=m2) (m':=m4) (aeT q xs.length sv s' m2.next) hg (.mem e3<| .mem e4 .nil);refine⟨s',m4,_,fg Yc (aX.cut w0 (aX.iH L0 L8 Ks rfl (aX.last h2 NV))) (.inr rfl) e2,(k2.mo.trans k4 fun _ _ h=>h),ls4,?_⟩;have nx:=k2.next;rintro b (h|h|h)
  ·exact .inl h
  ·exact .inr ⟨av,av⟩
  ·exact .inr ⟨av,av⟩
 ·exact⟨fun h=>absurd h hz,fun _=>⟨m2,fg Yc (aX.cut w0 (aX.sY L0 L8 Ks (by kernel_rfl))) (.inr rfl) hg,k2⟩⟩
end
end Go.AM
