/-
  What the claim stands on, part 9.
-/
import Derived.Test.YtgfppohfgconeaaGreatDoorH8
set_option linter.unusedVariables false
set_option linter.unusedSimpArgs false
open Go.Proofs.Tryz renaming prog → ab
open Go renaming Value → ae, Operand → bS, IntKind → bU
open Nat renaming le_of_ble_eq_true → af, le_refl → aj, lt_of_lt_of_le → aW
open List renaming all_eq_true → aB
open Option renaming map_some → cU, bind_some → dq
namespace Go.AM
set_option maxRecDepth 1000000
open Go Go.Conc Go.Proofs
structure j4 (m:Mem)(d q sz:Nat)(cs:List ae)(bo:Nat->Option Nat)(al:Option Nat):Prop where
 len:q+8<cs.length
 sh:∀j,j<4->∃sv,cs[q+2*j]?=some sv/\Room sz m sv (bo j)
 hi:∀j,4<=j->bo j=none
 inj:∀{i j b},bo i=some b->bo j=some b->i=j
 ne:∀{j b},bo j=some b->b≠d/\m.base<=b
 all:∃sv,cs[q+8]?=some sv/\Room sz m sv al
 KO:∀{p},al=some p->p≠d/\m.base<=p/\∀j,bo j≠some p
def PE {α:Type}(st:Nat->List α)(n j:Nat):List α:=ij st (DR n j-tk n j) (tk n j) []
theorem Room.ext{sz:Nat}{m m':Mem}{sv:ae}{o:Option Nat}{S:Nat->Prop}(h:Room sz m sv o)(k:H2 S m m')(hS:∀b,o=some b->¬S b):Room sz m' sv o:=by
 rcases h with h|⟨b,l,xs,e1,e2,r,hl⟩
 ·exact .inl h
 ·have e:=k.blk b r.lt (hS b e1);exact .inr ⟨b,l,xs,e1,e2,⟨aW r.lt k.next,by rw[e];exact r.kind,by rw[e];exact r.sz,by rw[e];exact r.cs⟩,hl⟩
theorem j4.lt{m:Mem}{d q sz j b:Nat}{cs:List ae}{bo:Nat->Option Nat}{al:Option Nat}(h:j4 m d q sz cs bo al)(hb:bo j=some b):b<m.next:=by
 rcases Nat.lt_or_ge j 4 with hj|hj
 ·obtain⟨sv,_,hr⟩:=h.sh j hj;rcases hr with⟨h1,_⟩|⟨b',_,_,h1,_,h3,_⟩
  ·rw[hb]at h1;cases h1
  ·rw[hb]at h1;cases h1;exact h3.lt
 ·rw[h.hi j hj]at hb;cases hb
theorem j4.kind{m:Mem}{d q sz j b:Nat}{cs:List ae}{bo:Nat->Option Nat}{al:Option Nat}(h:j4 m d q sz cs bo al)(hb:bo j=some b):∃xs,RO m b sz xs:=by
 rcases Nat.lt_or_ge j 4 with hj|hj
 ·obtain⟨sv,_,hr⟩:=h.sh j hj;rcases hr with⟨h1,_⟩|⟨b',_,xs,h1,_,h3,_⟩
  ·rw[hb]at h1;cases h1
  ·rw[hb]at h1;cases h1;exact⟨xs,h3⟩
 ·rw[h.hi j hj]at hb;cases hb
theorem Qn {M:Mem}{w d q sz:Nat}{cs:List ae}{bo:Nat->Option Nat}{al:Option Nat}(cm:Calm M)(o:Obj M d 0 cs)(hb:M.base<=d)(hB:j4 M d q sz cs bo al)
  (ow:Obj M w 0 [.int .u64 0,.int .u32 0])(hp:(M.blk w).pos=1)(hw:Own M w)(hwd:d≠w)(hwb:∀j,bo j≠some w):
  kU w d q M=some {M.a9 w {}with wg:=some w,opn:=tI d q bo 0,floor:=M.next}:=by
 have hP:BoP d M.next bo:=⟨fun h=>⟨(hB.ne h).1,hB.lt h⟩,hB.inj⟩;have hlen:=hB.len;have l:∀j,j<4->z9 M d q j=some (vi d q bo j):=by
  intro j hj;obtain⟨sv,hs,hr⟩:=hB.sh j hj;unfold z9;rw[o.ro.GO hs (gk o.Bu _ _)];unfold vi;rcases hr with⟨h1,rfl⟩|⟨b,lb,xs,h1,rfl,_⟩
  ·rw[h1];rfl
  ·rw[h1];rfl
 have lQ:oK M d q 4=some (tI d q bo 0):=by
  unfold oK oK oK oK oK;rw[l 0 ai,l 1 ai,l 2 ai,l 3 ai];simp[tI]
 unfold kU;rw[cm.wg,lQ,jR ow (o:=0) (n:=2) (vs:=[.int .u64 0,.int .u32 0]) rfl (aj _)]
 show(if _ then _ else none)=_
 rw[bj];have h1:=hw.may 0 2;have h2:M.fA w=true:=hw;have h3:(M.blk w).cs.length=2:=by rw[ow.cs];rfl
 have h4:(tI d q bo 0).all (fun s=>wx M s&&s.1 !=w)=true:=by
  rw[aB];intro s hs;obtain⟨k,_,hk,hs⟩:=xK ai hs;unfold wx;have hd:∀x,x<q+8->(wx M (sp d x)&&(sp d x).1 !=w)=true:=by
   intro x hx;have e2:(M.blk d).cs[x]?=some (some cs[x]!):=by
    rw[o.cs,List.getElem?_map,List.getElem?_eq_getElem ai];simp[List.getElem!_eq_getElem?_getD,List.getElem?_eq_getElem (show x<cs.length by omega)]
   show((((((decide (d+1=d+1)&&decide (M.base<=d))&&decide (M.floor<=d))&&decide (d<M.next))&&(M.blk d).kind==1)&&(((M.blk d).cs[x]?).any (·.isSome)))&&(d !=w))=true
   have hf:M.floor<=d:=by rw[cm.floor];exact hb
   rw[e2,o.kind];simp[hb,hf,o.lt,hwd]
  rcases ns.1 hs with rfl|rfl|⟨b,gA,rfl⟩
  ·exact hd _ ai
  ·exact hd _ ai
  ·obtain⟨xs,r⟩:=hB.kind gA;have ZL:b≠w:=fun e=>hwb k (e▸gA)
   have hf:M.floor<=b:=by rw[cm.floor];exact(hB.ne gA).2
   show((((((decide (b+1=b+1)&&decide (M.base<=b))&&decide (M.floor<=b))&&decide (b<M.next))&&(M.blk b).kind==1)&&((M.blk b).cs.all (·.isSome)))&&(b !=w))=true
   rw[r.kind,r.cs];simp[(hB.ne gA).2,hf,r.lt,ZL]
 have h5:js (tI d q bo 0)=true:=Du hP 4 rfl;simp[h1,h2,hp,h3,cm.bh,cm.opn,cm.gd.pend,cm.floor,h4,h5]
def QT (m:Mem)(d q n sz:Nat){α:Type}(E:oD α)(st:Nat->List α)(bo:Nat->Option Nat)(xs:List ae)(M:Mem)(BA:Nat->Prop)(k:Nat):Prop:=
 ∃sv mw m2 BE,xs[q+2*k]?=some sv/\xs[q+2*k+1]?=some (vI 0)/\(mz E sz BA BE m2 (PE st n k) sv/\∀b,BE b->jD mw m2 b)/\(∀b,BA b->bo k=some b\/jD mw m2 b)/\m.next<=mw.next/\H2 (fun b=>b=d\/∃i,k<i/\bo i=some b) m2 M
theorem QT.set{m M M':Mem}{d q n sz k j:Nat}{α:Type}{E:oD α}{st:Nat->List α}{bo:Nat->Option Nat}{xs:List ae}{a b:ae}{BA:Nat->Prop}(h:QT m d q n sz E st bo xs M BA k)(hk:k<j)(r:H2 (fun b=>b=d\/bo j=some b) M M'):QT m d q n sz E st bo ((xs.set (q+2*j) a).set (q+2*j+1) b) M' BA k:=by
 obtain⟨sv,mw,m2,BE,h1,h2,h3,h4,h5,h6⟩:=h;exact⟨sv,mw,m2,BE,by rw[List.getElem?_set_ne ai,List.getElem?_set_ne ai];exact h1,by rw[List.getElem?_set_ne ai,List.getElem?_set_ne ai];exact h2,h3,h4,h5,h6.trans (r.mono fun y _ hy=>hy.elim .inl fun e=> .inr ⟨j,hk,e⟩)⟩
section
variable {K:fZ}{fl go sh ga em t sz:Nat}
theorem RY (hgo:go=X0.Fp\/go=X0.Fo){M:Mem}{t0 bi bf bt t5 d q j:Nat}(h0:M.dK t0 0 1=some [vP d q])(hi:M.dK bi 0 1=some [vI (j:Int)]):rX X0 (.func (.func go) #[] #[vP t0 0,vP bi 0,vP bf 0,vP bt 0,vP t5 0]) M=some (d,q,j):=by
 unfold rX
 show(if go=X0.Fp\/go=X0.Fo then _ else none)=_
 rw[bj hgo]
 show(match M.dK t0 0 1,M.dK bi 0 1 with |some [.pointer (some ⟨d,o,none⟩)],some [.int .i64 i]=>if 0<=i then some (d,o,i.toNat)else none|_,_=>none)=_
 rw[h0,hi]
 show(if(0:Int)<=(j:Int)then some (d,q,((j:Int)).toNat)else none)=_
 rw[bj ai];rfl
theorem MD (L:Kin fl go sh ga em t)(ht:sI.contains (t,sz)=true){α:Type}{E:oD α}{X:Nat->Prop}{fs n:Nat}{cap:Array ae}{st:Nat->List α}{m:Mem}{d q:Nat}{cs:List ae}{bo:Nat->Option Nat}{al:Option Nat}(hK:FL K)(fp:Av KW m X fs cap E sz st n)(hXd:X d)(hXb:∀k b,bo k=some b->X b)
  (cm:Calm m)(o:Obj m d 0 cs)(hb:m.base<=d)(hB:j4 m d q sz cs bo al)(hs:n<9000):
  ∃t M xs b3 b8,(∀t' M',aA K (eY fl) (bN fl) 5 ⟨t,M,[]⟩ .ret ⟨t',M',[]⟩->aA K (eY fl) (bN fl) 0 ⟨entry [vP d q,vI n,.func (.func fs) #[] cap],m,[]⟩ .ret ⟨t',M',[]⟩)/\
   bu [3,8] t=[vP b3 0,vP b8 0]/\RO M b3 0 [vP d q]/\m.next<=b3/\m.next<=b8/\(∃N0 Np,DF M b8 d q N0 Np 4 bo/\m.next<=N0)/\M.base=m.base/\M.home=m.home/\H2 (fun b=>b=d\/∃i,bo i=some b) m M/\
   RO M d 0 xs/\xs.length=cs.length/\(∀x,x<q\/q+8<=x->xs[x]?=cs[x]?)/\∃BA:Nat->Nat->Prop,(∀k,k<4->QT m d q n sz E st bo xs M (BA k) k)/\(∀i k b,i<k->k<4->BA i b->¬BA k b)/\∀k b,k<4->BA k b->bo k=some b\/(m.next<=b/\b<M.next):=by
 have g:=cm.gd;have hl:=hB.len;obtain⟨b3,hb3⟩:∃b,b=m.next:=⟨_,rfl⟩;obtain⟨m1,e1,o1,k1,n1,_⟩:=cA g [vP d q];obtain⟨b5,hb5⟩:∃b,b=m1.next:=⟨_,rfl⟩;obtain⟨m2,e2,o2,k2,n2,_⟩:=cA (g.ext k1) [.func (.func fs) #[] cap];obtain⟨b8,hb8⟩:∃b,b=m2.next:=⟨_,rfl⟩;have pS:=k1.aZ k2;obtain⟨m3,e3,o3,k3,n3,iC⟩:=cA (g.ext pS) [.int .u64 0,.int .u32 0];rw[<-hb3]at e1 o1;rw[<-hb5]at e2 o2;rw[<-hb8]at e3 o3 iC;have qN:=pS.aZ k3;have VD:=o.lt;have JF:∀j b,bo j=some b->b<m.next:=fun j b h=>hB.lt h
 obtain⟨t0,w0,e0⟩:=aR (K:=K) (m:=m) (m':=m3) (tm:=entry [vP d q,vI n,.func (.func fs) #[] cap]) (L.aba d q n fs b3 b5 b8 ((n+3) / 4) cap) rfl (.mem e1<| .mem e2<| .mem e3<| .val (size_eq ai _) .nil);have ig:Q3 true (((n+3) / 4:Nat):Int) 8=((KA n:Nat):Int):=abz _ 8;rw[ig]at e0;have w8:=cm.ext qN;have ako:KA n<=9000:=by unfold KA;omega
 obtain⟨e,t1,M,he,hx,rfl,hg,Xw,akG,JH,OK,ZO,xs,Zt,Q5,On,BAs,fI,Ek,En⟩:=eI (K:=K) (nt:=eY fl) (a:=oJ (bN fl) [4]) 4
  (Inv:=fun j tm M=>bu [1,3,5,8,9,18] tm=[vI n,vP b3 0,vP b5 0,vP b8 0,vI (KA n:Nat),vI j]/\RO M b3 0 [vP d q]/\RO M b5 0 [.func (.func fs) #[] cap]/\((j=0/\M=m3)\/∃N0 Np,DF M b8 d q N0 Np j bo/\m3.next<=N0)/\M.base=m.base/\M.home=m.home/\m3.next<=M.next/\H2 (fun b=>b=d\/∃i,i<j/\bo i=some b) m M/\
   ∃xs,RO M d 0 xs/\xs.length=cs.length/\(∀x,x<q\/q+2*j<=x->xs[x]?=cs[x]?)/\∃BA:Nat->Nat->Prop,(∀k,k<j->QT m d q n sz E st bo xs M (BA k) k)/\(∀i k b,i<k->k<j->BA i b->¬BA k b)/\∀k b,k<j->BA k b->bo k=some b\/(m.next<=b/\b<M.next))
  (dm:=fun e tm M=>e= .exit 0/\bu [3,8] tm=[vP b3 0,vP b8 0]/\RO M b3 0 [vP d q]/\(∃N0 Np,DF M b8 d q N0 Np 4 bo/\m.next<=N0)/\M.base=m.base/\M.home=m.home/\H2 (fun b=>b=d\/∃i,bo i=some b) m M/\
   ∃xs,RO M d 0 xs/\xs.length=cs.length/\(∀x,x<q\/q+8<=x->xs[x]?=cs[x]?)/\∃BA:Nat->Nat->Prop,(∀k,k<4->QT m d q n sz E st bo xs M (BA k) k)/\(∀i k b,i<k->k<4->BA i b->¬BA k b)/\∀k b,k<4->BA k b->bo k=some b\/(m.next<=b/\b<M.next))
  (by
   rintro j tm M hj ⟨hg,Xw,hr5,Qb,JH,OK,hMn,ZO,xs,Zt,Q5,On,BAs,fI,Ek,En⟩;refine .inl ?_;have sdM:Sd M:=by
    rcases Qb with⟨_,rfl⟩|⟨N0,Np,h,_⟩
    ·exact w8.gd.sd
    ·exact h.sd
   obtain⟨M1,M2,a1,a2,oi,ka,na⟩:=sdM.VY (vI 0) (vI j) rfl;have sd2:=sdM.ext ka;have ef:Q3 false (kQ j (KA n:Nat)) n=((tk n j:Nat):Int):=by
    have hm:j*KA n<=3*9000:=Nat.mul_le_mul ai ako;rw[I6 ai,Td];rfl
   obtain⟨M3,M4,a3,a4,of',kb,nb⟩:=sd2.VY (vI 0) (vI (tk n j:Nat)) rfl;have sd4:=sd2.ext kb;have et:Q3 false (bL (tk n j:Nat) ((KA n:Nat):Int)) n=((DR n j:Nat):Int):=by
    have hm:tk n j<=9000:=by unfold tk;omega
    rw[lZ ai,Td];rfl
   obtain⟨M5,M6,a5,a6,ot,kc,nc⟩:=sd4.VY (vI 0) (vI (DR n j:Nat)) rfl;have kM:Kp M M6 fu:=(ka.aZ kb).aZ kc;have nM6:M6.next=M.next+3:=ai;obtain⟨bi,hbi⟩:∃b,b=M.next:=⟨_,rfl⟩;obtain⟨bf,hbf⟩:∃b,b=M2.next:=⟨_,rfl⟩;obtain⟨bt,XP⟩:∃b,b=M4.next:=⟨_,rfl⟩;rw[<-hbi]at a1 a2 oi;rw[<-hbf]at a3 a4 of';rw[<-XP]at a5 a6 ot;have oi6:=(oi.cf kb).cf kc;have of6:=of'.cf kc;have r3:=Xw.ext kM id;have r5:=hr5.ext kM id;have rd:=Zt.ext kM id;have l1:aD bi 0 M2=some (vI j,M2):=aS oi rfl;have l2:aD bf 0 M4=some (vI (tk n j:Nat),M4):=aS of' rfl;have HU:∀x,m.next<=x->∀k,bo k≠some x:=fun x hx k e=>by have :=JF k x e;omega
   have agI:H2 (fun b=>b=d\/∃i,i<j/\bo i=some b) m M6:=ZO.trans (kM.Vt.mono fun _ _ h=>h.elim);have AN:∃aV N0 Np,kU b8 d q M6=some aV/\DF aV b8 d q N0 Np j bo/\m3.next<=N0/\(∀b,b≠b8->aV.blk b=M6.blk b)/\aV.next=M6.next/\aV.base=M6.base/\aV.home=M6.home/\(M.next<N0+0/\N0=M6.next\/Np<=M.next)/\aJ M6.bh b3=false/\aJ M6.bh bi=false/\(0<j->aV=M6):=by
    rcases Qb with⟨rfl,rfl⟩|⟨N0,Np,ll,hN0⟩
    ·have AP:=w8.ext kM;have ow:=(o3.cf kM);have hp6:(M6.blk b8).pos=1:=by rw[kM.blk b8 ai id];exact iC
     have hd6:aJ M6.bh d=false:=by rw[AP.bh];rfl
     have ZS:j4 M6 d q sz xs bo al:=by
      have e1:M6.base=m.base:=by rw[kM.base,JH]
      have kk:H2 fu m M6:=(qN.aZ kM).Vt;refine⟨ai,fun j hj=>?_,hB.hi,hB.inj,fun h=>by rw[e1];exact hB.ne h,?_,fun h=>by rw[e1];exact hB.KO h⟩
      ·obtain⟨sv,h1,h2⟩:=hB.sh j hj;exact⟨sv,by rw[On _ (.inr ai)];exact h1,h2.ext kk fun _ _ h=>h⟩
      ·obtain⟨sv,h1,h2⟩:=hB.all;exact⟨sv,by rw[On _ (.inr ai)];exact h1,h2.ext kk fun _ _ h=>h⟩
     have XJ:=Qn AP (rd.obj hd6) (by rw[kM.base,JH];exact hb) ZS ow hp6 (g.own (qN.aZ kM) ai) ai (HU b8 ai);refine⟨_,M6.next,M6.next,XJ,⟨⟨AP.gd.deaf,?_,aj _,AP.gd.hn,?_⟩,rfl,?_,?_,rfl,?_,ai,⟨fun h=>⟨(hB.ne h).1,ZS.lt h⟩,hB.inj⟩,aj _,aj _⟩,ai,?_,rfl,rfl,rfl,.inl ⟨ai,rfl⟩,by rw[AP.bh];rfl,by rw[AP.bh];rfl,fun h=>absurd h ai⟩
     ·show M6.base<=M6.next
      have :=AP.gd.bf;have :=AP.gd.fn;omega
     ·intro s hs;have hs:s∈M6.bh:=hs;rw[AP.bh]at hs;cases hs
     ·show M6.pend.length=0
      rw[AP.gd.pend];rfl
     ·refine⟨?_,fun k b h=>(ZS.ne h).2⟩
      show M6.base<=d
      rw[kM.base,JH];exact hb
     ·intro t ht;have ht:t∈M6.bh:=ht;rw[AP.bh]at ht;cases ht
     ·intro b gA
      show(M6.a9 b8 {}).blk b=_
      rw[Mem.eC,bW (fun e=>gA e.symm)]
    ·have WT:=ll.ext kM;have XJ:kU b8 d q M6=some M6:=by
      unfold kU;rw[WT.wg];exact bj rfl
     have hnp:=ll.np;have hn0:=ll.n0;have hdn:=ll.dn;exact⟨M6,N0,Np,XJ,WT,hN0,fun _ _=>rfl,rfl,rfl,rfl,.inr hnp,WT.Bu ai (fun k _=>HU b3 ai k) (.inl ai),WT.Bu ai (fun k _=>HU bi ai k) (.inr ai),fun _=>rfl⟩
   obtain⟨aV,N0,Np,XJ,ajZ,hN0,VG,hn0,acu,ack,dS,agS,agR,ab0⟩:=AN;have ro0:∀{b:Nat}{ys:List ae},RO M6 b 0 ys->b≠b8->RO aV b 0 ys:=fun{b ys} h dQ=>by
    have e:=VG b dQ;exact⟨by rw[hn0];exact h.lt,by rw[e];exact h.kind,by rw[e];exact h.sz,by rw[e];exact h.cs⟩
   have abX:rX X0 (.func (.func go) #[] #[vP b3 0,vP bi 0,vP bf 0,vP bt 0,vP b5 0]) M6=some (d,q,j):=
    RY L.fill (r3.GO (o:=0) rfl (gk agS _ _)) (oi6.ro.GO (o:=0) rfl (gk agR _ _))
   have hft:=acA n j;obtain⟨svj,akq,ab3⟩:=hB.sh j hj;have hxj:xs[q+2*j]?=some svj:=by rw[On _ (.inr (aj _))];exact akq
   have Zb:H2 (fun b=>b=d\/(∃i,i<j/\bo i=some b)\/m.next<=b) m aV:=⟨by have :=agI.next;omega,fun b h1 h2=>by rw[VG b ai];exact agI.blk b h1 fun h=>h2 (h.elim .inl fun h=> .inr (.inl h))⟩;have ab4:Room sz aV svj (bo j):=ab3.ext Zb fun b e h=>by
    rcases h with h|⟨i,hi,h⟩|h
    ·exact(hB.ne e).1 h
    ·have :=hB.inj h e;omega
    ·have :=JF j b e;omega
   have abw:∀{b:Nat},M.next<=b->b<M6.next->b≠d/\(∀k,bo k≠some b)/\(b<N0\/Np<=b):=fun h1 h2=>⟨ai,HU _ ai,by rcases dS with h|h<;>omega⟩
   obtain⟨sv,mw,mq,BA,BE,M',hgo,aj0,gA,Ud,aku,CH,HX,HW,ahz,Ox,Oy,hrk⟩:=Uv (m0:=m) (fr:=tk n j) (to:=DR n j) L ht hK fp hXd hXb ai cm.bh (fun b hb hx=>Zb.blk b hb fun h=>by
     rcases h with h|⟨i,_,h⟩|h
     ·exact hx (h▸hXd)
     ·exact hx (hXb i b h)
     ·omega) XJ hj ajZ abX (ro0 rd ai) ai hxj ab4
    (ro0 r3 ai) (ro0 oi6.ro ai) (ro0 of6.ro ai) (ro0 ot.ro ai) (ro0 r5 ai) (fun x hx=>by
     rcases hx with rfl|rfl|rfl|rfl|rfl
     ·exact⟨ai,HU _ ai,.inl ai⟩
     ·exact abw ai ai
     ·exact abw ai ai
     ·exact abw ai ai
     ·exact⟨ai,HU _ ai,.inl ai⟩) hft.1 hft.2 ai
   obtain⟨t2,cN,cz⟩:=aI (K:=K) (m:=M) (m':=M') L.NQ (L.aa9 n b3 b5 b8 j bi bf bt (KA n:Nat) ((tk n j:Nat):Int)) hg
    (.cond (GK hj)<| .mem a1<| .mem a2<| .mem l1<| .mem a3<| .mem (by rw[ef];exact a4)<| .mem l2<| .mem a5<| .mem (by rw[et];exact a6)<| .call hgo .nil)
   have nM':=hrk.next;have roM:∀{b:Nat}{ys:List ae},RO M6 b 0 ys->b≠d->bo j≠some b->b≠b8->RO M' b 0 ys:=fun{b ys} h h2 h4 h3=>by
    have e:M'.blk b=M6.blk b:=by rw[hrk.blk b (by have :=h.lt;omega) (fun h=>h.elim h2 h4),VG b h3]
    exact⟨by have :=h.lt;omega,by rw[e];exact h.kind,by rw[e];exact h.sz,by rw[e];exact h.cs⟩
   refine⟨t2,M',cN,by rw[cz,add1 ai],roM r3 ai (HU _ ai j) ai,roM r5 ai (HU _ ai j) ai,.inr ⟨N0,M'.next,aj0,hN0⟩,by rw[gA,acu,kM.base,JH],by rw[Ud,ack,kM.home,OK],ai,?_,(xs.set (q+2*j) sv).set (q+2*j+1) (vI 0),aku,by simp[Q5],?_,fun k=>if k=j then BA else BAs k,?_,?_,?_⟩
   ·refine⟨by have :=Zb.next;omega,fun b h1 h2=>?_⟩;rw[hrk.blk b (by have :=Zb.next;omega) fun h=>h2 (h.elim .inl fun h=> .inr ⟨j,ai,h⟩)];refine Zb.blk b h1 fun h=>?_
    rcases h with h|⟨i,hi,h⟩|h
    ·exact h2 (.inl h)
    ·exact h2 (.inr ⟨i,ai,h⟩)
    ·omega
   ·intro x hx;rw[List.getElem?_set_ne ai,List.getElem?_set_ne ai];exact On x ai
   ·intro k hk
    by_cases Mn:k<j
    ·have e0:=ab0 ai;subst e0;simp only[bW (show¬k=j by omega)];exact(fI k Mn).set Mn ((kM.Vt.mono fun _ _ h=>h.elim).trans hrk)
    ·have e:k=j:=ai;subst e;simp only[bj rfl];refine⟨sv,mw,mq,BE,?_,?_,⟨CH,HW⟩,HX,by have :=Zb.next;omega,⟨ai,fun b _ _=>ahz b⟩⟩
     ·rw[List.getElem?_set_ne ai,List.getElem?_set_self ai]
     ·rw[List.getElem?_set_self (by simp;omega)]
   ·intro i k b hik hk h1 h2
    by_cases Mn:k=j
    ·simp only[bj Mn]at h2;simp only[bW (show¬i=j by omega)]at h1;rcases En i b ai h1 with h1|h1<;>rcases HX b h2 with h2|h2
     ·have :=hB.inj h1 h2;omega
     ·have :=JF i b h1;have :=h2.1;have :=Zb.next;omega
     ·have :=JF j b h2;omega
     ·have :=h2.1;omega
    ·simp only[bW Mn]at h2;simp only[bW (show¬i=j by omega)]at h1;exact Ek i k b hik ai h1 h2
   ·intro k b hk h
    by_cases Mn:k=j
    ·simp only[bj Mn]at h;rw[Mn];rcases HX b h with h|h
     ·exact .inl h
     ·exact .inr ⟨by have :=h.1;have :=Zb.next;omega,by have :=h.2;omega⟩
    ·simp only[bW Mn]at h;rcases En k b ai h with h|h
     ·exact .inl h
     ·exact .inr ⟨h.1,ai⟩)
  (by
   rintro tm M ⟨hg,Xw,hr5,Qb,JH,OK,hMn,ZO,xs,Zt,Q5,On,BAs,fI,Ek,En⟩;obtain⟨t2,cN,cz⟩:=aI (K:=K) (m:=M) (m':=M) L.NQ (L.aa8 n b3 b5 b8 4 (KA n:Nat)) hg (.cond (Ed 4) .nil);rcases Qb with⟨h,_⟩|⟨N0,Np,ll,hN0⟩
   ·omega
   ·exact⟨_,t2,M,g8,cN,rfl,cz,Xw,⟨N0,Np,ll,ai⟩,JH,OK,ZO.mono fun b _ h=>h.elim .inl fun⟨i,_,h⟩=> .inr ⟨i,h⟩,xs,Zt,Q5,On,BAs,fI,Ek,En⟩)
  (tm:=t0) (m:=m3) ⟨e0,((o1.cf k2).cf k3).ro,(o2.cf k3).ro,.inl ⟨rfl,rfl⟩,qN.base,qN.home,aj _,qN.Vt.mono fun _ _ h=>h.elim,cs,(o.cf qN).ro,rfl,fun _ _=>rfl,fun _=>fu,fun k hk=>absurd hk ai,fun _ k _ _ hk=>absurd hk ai,fun k _ hk=>absurd hk ai⟩ ai
 exact⟨t1,M,xs,b3,b8,fun t' M' h=>aA.cut w0 (aA.E3 L.abE L.abH hx rfl h),hg,Xw,ai,ai,akG,JH,OK,ZO,Zt,Q5,On,BAs,fI,Ek,En⟩
end
end Go.AM
namespace Go.AM
set_option maxRecDepth 1000000
open Go Go.Conc Go.Proofs
theorem B5 {α:Type}{st:Nat->List α}:∀(n i:Nat) (acc:List α),ij st n i acc=acc++ij st n i []
 |0,i,acc=>by simp[ij]
 |n+1,i,acc=>by
  unfold ij;rw[B5 n (i+1) (acc++st i),B5 n (i+1) ([]++st i),List.nil_append,List.append_assoc]
theorem IU {α:Type}{st:Nat->List α}:∀(a b i:Nat) (acc:List α),ij st (a+b) i acc=ij st b (i+a) (ij st a i acc)
 |0,b,i,acc=>by rw[Nat.zero_add];rfl
 |a+1,b,i,acc=>by
  rw[show a+1+b=(a+b)+1 by omega]
  show ij st (a+b) (i+1) (acc++st i)=ij st b (i+(a+1)) (ij st a (i+1) (acc++st i))
  rw[IU a b (i+1),show i+1+a=i+(a+1) by omega]
theorem B4 {α:Type}{st:Nat->List α}(h1:∀i,(st i).length<=1):∀(n i:Nat) (acc:List α),(ij st n i acc).length<=acc.length+n
 |0,i,acc=>aj _
 |n+1,i,acc=>by
  unfold ij;have h:=B4 h1 n (i+1) (acc++st i);have :=h1 i;simp at h;omega
theorem Sx {α:Type}{st:Nat->List α}{n:Nat}:ij (PE st n) 4 0 []=ij st n 0 []:=by
 have hto:∀j,DR n j=tk n (j+1):=fun j=>by
  unfold DR tk;have :(j+1)*KA n=j*KA n+KA n:=by rw[Nat.add_mul,Nat.one_mul]
  omega
 have step:∀j acc,j<4->ij st (DR n 3-tk n j) (tk n j) acc=ij st (DR n 3-tk n (j+1)) (tk n (j+1)) (acc++PE st n j):=fun j acc hj=>by
  have h1:=(acA n j).1;have hm:∀a b,a<=b->tk n a<=tk n b:=fun a b h=>by
   unfold tk;have :=Nat.mul_le_mul_right (KA n) h;omega
  have h2:=hm (j+1) 4 ai;have h3:DR n 3=tk n 4:=hto 3;rw[show DR n 3-tk n j=(DR n j-tk n j)+(DR n 3-tk n (j+1)) by rw[h3,hto];have :=hm j (j+1) ai;omega,IU,B5 (DR n j-tk n j)];rw[show tk n j+(DR n j-tk n j)=tk n (j+1) by rw[<-hto];omega];rfl
 have e1:tk n 0=0:=by unfold tk;omega
 have e2:DR n 3=n:=by unfold DR tk KA;omega
 have h3:DR n 3=tk n 4:=hto 3;have :=step 0 [] ai;rw[step 1 _ ai,step 2 _ ai,step 3 _ ai,e1,e2,Nat.sub_zero,show n-tk n 4=0 by rw[<-h3,e2];omega]at this;exact this.symm
section
variable {K:fZ}{fl go sh ga em t sz:Nat}
theorem alz (L:Kin fl go sh ga em t)(ht:sI.contains (t,sz)=true){m:Mem}{d q:Nat}{xs:List ae}{α:Type}{E:oD α}{B0:Nat->Prop}{res:Nat->List α}{al:Option Nat}{Q0:ae}(cm:Calm m)(o:Obj m d 0 xs)(hb:m.base<=d)(hl:q+8<xs.length)(hav:xs[q+8]?=some Q0)(har:Room sz m Q0 al)(acx:∀p,al=some p->p≠d/\m.base<=p)(ZT:∀y,B0 y->y≠d/\al≠some y/\y<m.next)
  (hlen:∀k,(res k).length<=9000)(fI:∀k,k<4->∃sv BO BE,xs[q+2*k]?=some sv/\xs[q+2*k+1]?=some (vI 0)/\mz E sz BO BE m (res k) sv/\(∀b,BO b->b≠d/\al≠some b/\b<m.next)/\∀b,BE b->B0 b):
  ∃rv m' ys u9,Ev K ga [vP d q] m (.tuple #[rv,vI 0]) m'/\Kp m m' (fun y=>y=d\/al=some y)/\Obj m' d 0 ys/\ys.length=xs.length/\(∀x,x≠q+8->ys[x]?=xs[x]?)/\ys[q+8]?=some rv/\Room sz m' rv u9/\(∀p,u9=some p->jD m m' p)/\(aX E sz).R (fun b=>B0 b\/jD m m' b) (ij res 4 0 []) m' rv/\(al=none->ij res 4 0 []=[]->rv= .slice none 0 0/\u9=none):=by
 obtain⟨G,hG⟩:∃G,G=ij res 4 0 []:=⟨_,rfl⟩;rw[<-hG];have hd:=o.lt;obtain⟨a0,n0,c0,rfl⟩:∃a n c,Q0= .slice a n c:=by rcases har with⟨_,rfl⟩|⟨_,_,_,_,rfl,_⟩<;>exact⟨_,_,_,rfl⟩
 obtain⟨Q1,m1,e1,k1,Oa⟩:=acS (K:=K) L ht (E:=E) har (fun b hb=>cm.own (acx b hb).2);have Us:¬al=some d:=fun e=>(acx d e).1 rfl
 have o1:=o.ext k1 Us;have J4:=cm.ext k1;obtain⟨ba,bc,akr⟩:=Oa.form;obtain⟨m2,e2,o2,k2⟩:=jF (o:=q+8) Q1 o1 ((J4.own (by rw[k1.base];exact hb)).may _ _) hl Oa.one;have tV:Kp m m2 (fun y=>y=d\/al=some y):=(k1.mono fun _ _ h=> .inr h).trans k2 fun _ _ h=> .inl h
 have n12:=tV.next;have lQ:∀p,al=some p->p<m.next:=fun p hp=>by
  rcases har with⟨h,_⟩|⟨b,_,_,h,_,r,_⟩
  ·rw[hp]at h;cases h
  ·rw[hp]at h;cases h;exact r.lt
 have Vv:mz E sz (fun y=>al=some y) fu m2 [] Q1:=Oa.ext k2 fun b hb e=>hb.elim (fun h=>Us (e▸h)) fun h=>h
 subst akr;obtain⟨t0,w0,e0⟩:=aR (K:=K) (m:=m) (m':=m2) (tm:=entry [vP d q]) (L.aa6 d q n0 c0 0 bc a0 ba) rfl (.mem (aS o hav)<| .call e1<| .mem e2 .nil);obtain⟨e,t1,m3,he,hx,rfl,hg3,k3,sv,u9,o3,hs3,Xw,ha3,q3,q4⟩:=eI (K:=K) (nt:=eY ga) (a:=oJ (bN ga) [3]) 4
  (Inv:=fun j tm M=>bu [0,13] tm=[vP d q,vI j]/\Kp m M (fun y=>y=d\/al=some y)/\∃acc sv,Obj M d 0 (xs.set (q+8) sv)/\lj sv=true/\acc.length<=j*9000/\ij res (4-j) j acc=G/\
   ((acc=[]/\sv= .slice none 0 0)\/∃b cs rest,sv=vL b 0 acc.length cH/\(al=some b\/jD m M b)/\Obj M b sz (cs++rest)/\cJ (fun x u=>E.R B0 x M u/\okV sz u) acc cs/\(0<j->rest=[]/\jD m M b)/\(al=none->acc≠[])))
  (dm:=fun e tm M=>e= .exit 0/\bu [0] tm=[vP d q]/\Kp m M (fun y=>y=d\/al=some y)/\∃sv u9,Obj M d 0 (xs.set (q+8) sv)/\lj sv=true/\Room sz M sv u9/\(∀p,u9=some p->jD m M p)/\(aX E sz).R (fun b=>B0 b\/jD m M b) G M sv/\(al=none->G=[]->sv= .slice none 0 0/\u9=none))
  (by
   rintro j tm M hj ⟨hg,kk,acc,sv,oM,h1,Mu,hq,fp⟩;obtain⟨svk,BO,BE,x1,x2,x3,x4,x5⟩:=fI j hj;obtain⟨bka,bkc,hk⟩:=x3.form;have eo:q+j*2=q+2*j:=ai;have lsk:=x3.ext kk (fun b hb e=>by
    rcases hb with hb|hb
    ·exact e.elim (x4 b hb).1 (x4 b hb).2.1
    ·have :=ZT b (x5 b hb);exact e.elim this.1 this.2.1)
   obtain⟨jf,f1,f2,f3⟩:=lsk.first;have OA:=hlen j;have US:=cm.ext kk;have nk:=kk.next;have l1:aD d (q+j*2+1) M=some (vI 0,M):=aS oM (by rw[eo,List.getElem?_set_ne ai];exact x2);have l2:aD d (q+8) M=some (sv,M):=aS oM (List.getElem?_set_self hl);have l3:aD d (q+j*2) M=some (svk,M):=aS oM (by rw[eo,List.getElem?_set_ne ai];exact x1);rw[show 4-j=(4-(j+1))+1 by omega]at hq;have hq:ij res (4-(j+1)) (j+1) (acc++res j)=G:=hq;have VJ:=f3.mono (Q':=fun x u=>E.R B0 x M u/\okV sz u) fun x u _ w=>⟨E.mono w.1 x5,w.2⟩
   have Ql:∃s' M1,cZ ab #[t,t] sv svk M=some (s',M1)/\Kp M M1 (fun y=>al=some y\/m.next<=y)/\(∃ra rn rc,s'= .slice ra rn rc)/\
     (((acc++res j)=[]/\s'= .slice none 0 0)\/∃b cs,s'=vL b 0 (acc++res j).length cH/\jD m M1 b/\Obj M1 b sz cs/\cJ (fun x u=>E.R B0 x M1 u/\okV sz u) (acc++res j) cs/\(al=none->acc++res j≠[])):=by
    rcases fp with⟨rfl,rfl⟩|⟨b,cs,rest,rfl,ny,ob,gT,_,acd⟩
    ·by_cases h0:(res j).length=0
     ·have Ju:res j=[]:=List.length_eq_zero_iff.1 h0;rw[Ju]at f1 f2 VJ;have akW:jf=[]:=VJ;rw[akW]at f1;exact⟨_,M,Km ht f1 f2,.refl _ _,⟨_,_,_,rfl⟩,.inl ⟨by rw[Ju];rfl,rfl⟩⟩
     ·obtain⟨M1,a1,a2,a3,a4⟩:=Kn US.gd ht f1 f2 VJ.one.1 VJ.one.2 h0 ai;exact⟨_,M1,a1,a3.vl,⟨_,_,_,rfl⟩,.inr ⟨M.next,jf,du,⟨ai,ai⟩,a2,VJ.mono fun x u _ w=>⟨E.ext w.1 a3 fun _ _ h=>h,w.2⟩,fun _ h=>h0 (by simpa using h)⟩⟩
    ·have Bf:m.base<=b:=by
      rcases ny with h|h
      ·exact(acx b h).2
      ·have :=h.1;have :=cm.gd.bf;have :=cm.gd.fn;omega
     obtain⟨M1,a1,a2,a3,a4⟩:=Dt (len:=acc.length) US.gd ht ob gT.one.1 (US.own (by rw[kk.base];exact Bf)) f1 f2 VJ.one.1 VJ.one.2 ai;have dQ:∀y,B0 y->¬y=b:=fun y hy e=>by
      have h':=ZT y hy;rcases ny with h|h
      ·exact h'.2.1 (e▸h)
      ·have :=h.1;omega
     exact⟨_,M1,a1,a3.mono fun y _ h=>by rw[h];exact ny.imp id fun h=>h.1,⟨_,_,_,rfl⟩,.inr ⟨M.next,cs++jf,du,⟨ai,ai⟩,a2,(gT.mono fun x u _ w=>⟨E.ext w.1 a3 dQ,w.2⟩).append (VJ.mono fun x u _ w=>⟨E.ext w.1 a3 dQ,w.2⟩),fun h h'=>acd h (List.append_eq_nil_iff.1 h').1⟩⟩
   obtain⟨s',M1,a1,ka,⟨ra,rn,rc,rfl⟩,aks⟩:=Ql;have gM1:=US.gd.ext ka;have hdM:¬(al=some d\/m.next<=d):=fun h=>h.elim Us fun h=>by omega
   obtain⟨M2,a2,oM2,kb⟩:=jF (o:=q+8) (.slice ra rn rc) (oM.ext ka hdM) (((US.ext ka).own (by rw[ka.base,kk.base];exact hb)).may _ _) (by simpa using hl) rfl;rw[List.set_set]at oM2;obtain⟨aa,an,ac,xT⟩:∃a n c,sv= .slice a n c:=by rcases fp with⟨_,rfl⟩|⟨_,_,_,rfl,_⟩<;>exact⟨_,_,_,rfl⟩
   subst xT;subst hk;obtain⟨t2,cN,cz⟩:=aI (K:=K) (m:=M) (m':=M2) L.NP (L.aa5 d q j an ac (res j).length bkc rn rc aa bka ra) hg (.cond (GK hj)<| .idx rfl hj<| .mem l1<| .cond rfl<| .mem l2<| .idx rfl hj<| .mem l3<| .mem (aK US.gd)<| .mem a1<| .mem (aK gM1)<| .mem a2 .nil);have n2:=kb.next;have n1:=ka.next;refine .inl ⟨t2,M2,cN,by rw[cz,add1 ai],?_,acc++res j,_,oM2,rfl,by simp;omega,hq,?_⟩
   ·exact(kk.trans ka fun b gA h=>h.elim .inr fun h=>by omega).trans kb fun b _ h=> .inl h
   ·rcases aks with h|⟨b,cs,e,XP,ob,gT,CL⟩
    ·exact .inl h
    ·have tj:¬b=d:=by have :=XP.1;omega
     have ahx:jD m M2 b:=⟨XP.1,by have :=XP.2;omega⟩;exact .inr ⟨b,cs,[],e,.inr ahx,by rw[List.append_nil];exact ob.ext kb tj,gT.mono fun x u _ w=>⟨E.ext w.1 kb fun y hy=>(ZT y hy).1,w.2⟩,fun _=>⟨rfl,ahx⟩,CL⟩)
  (by
   rintro tm M ⟨hg,kk,acc,sv,oM,h1,Mu,hq,fp⟩;obtain⟨t2,cN,cz⟩:=aI (K:=K) (m:=M) (m':=M) L.NP (L.aa3 d q 4) hg (.cond (Ed 4) .nil);have hq:acc=G:=hq;subst hq;rcases fp with⟨rfl,rfl⟩|⟨b,cs,rest,rfl,ny,ob,gT,hj,CL⟩
   ·exact⟨_,t2,M,g8,cN,rfl,cz,kk,_,none,oM,rfl,.inl ⟨rfl,rfl⟩,fun _ h=>(by cases h),aX.nil,fun _ _=>⟨rfl,rfl⟩⟩
   ·obtain⟨rfl,XP⟩:=hj ai;rw[List.append_nil]at ob;exact⟨_,t2,M,g8,cN,rfl,cz,kk,_,some b,oM,rfl,.inr ⟨b,_,cs,rfl,rfl,ob.ro,by rw[gT.one.1];exact aj _⟩,fun p h=>(by cases h;exact XP),
     ⟨cs,ob.sl gT.one.1 (.inl rfl),fun b' _ _ _ e=>(by cases e;exact .inr XP),gT.mono fun x u _ w=>⟨E.mono w.1 fun _ h=> .inl h,w.2⟩⟩,fun h h'=>absurd h' (CL h)⟩)
  (tm:=t0) (m:=m2) ⟨e0,tV,[],_,o2,rfl,Nat.zero_le _,hG.symm,by
   rcases Vv with h|⟨b,cs,rest,e,KI,_,ob,gT⟩
   ·exact .inl h
   ·have gT:cs=[]:=gT;subst gT;exact .inr ⟨b,[],rest,e,.inl KI.1,ob,rfl,fun h=>absurd h ai,fun h=>(by rw[h]at KI;exact absurd KI.1 du)⟩⟩ ai
 have l4:aD d (q+8) m3=some (sv,m3):=aS o3 (List.getElem?_set_self hl);obtain⟨t2,h2,e3⟩:=aR (K:=K) (m:=m3) (m':=m3) (L.aa2 d q sv) hg3 (.mem l4 .nil);exact⟨sv,m3,_,u9,eB L.abn (aA.cut w0 (aA.E3 L.abD L.abG hx rfl (aA.last h2 L.Tu))) (.inr rfl) e3 L.spec.2.2.2.1,k3,o3,du,fun x hx=>List.getElem?_set_ne (fun e=>hx e.symm),List.getElem?_set_self hl,Xw,ha3,q3,q4⟩
end
end Go.AM
namespace Go.AM
set_option maxRecDepth 1000000
open Go Go.Conc Go.Proofs
theorem agh (pa la ca pb lb cb:Nat):Path 204 [vL pa 0 la ca,vL pb 0 lb cb]
 [aP (nK la lb) true]
 (.bool false):=lV
theorem afa (pa la ca pb lb cb:Nat):dJ 204 0 4 [0,1] [vL pa 0 la ca,vL pb 0 lb cb]
 [aP (nK la lb) false]
 .normal [0,1,12,13] [vL pa 0 la ca,vL pb 0 lb cb,vI la,vI 0]:=dc
theorem afb (pa la ca pb lb cb j:Nat)(x y:V)(c:Bool):aT 204 [4] 0 99 [0,1,12,13] [vL pa 0 la ca,vL pb 0 lb cb,vI la,vI j]
 [aP (cO j la) true,
  .idx j la j,
  .mem (eU 4 pa (0+j*4)) (gZ x),
  .idx j lb j,
  .mem (eU 4 pb (0+j*4)) (gZ y),
  .val (gE ab .neq 49 false false (gZ x) (gZ y)) (.bool c),
  aP c false]
 .normal [0,1,12,13] [vL pa 0 la ca,vL pb 0 lb cb,vI la,vI (bL j 1)]:=dc
theorem afc (pa la ca pb lb cb j:Nat)(x y:V)(c:Bool):aT 204 [4] 0 99 [0,1,12,13] [vL pa 0 la ca,vL pb 0 lb cb,vI la,vI j]
 [aP (cO j la) true,
  .idx j la j,
  .mem (eU 4 pa (0+j*4)) (gZ x),
  .idx j lb j,
  .mem (eU 4 pb (0+j*4)) (gZ y),
  .val (gE ab .neq 49 false false (gZ x) (gZ y)) (.bool c),
  aP c true]
 .ret [4] [.bool false]:=dc
theorem ae9 (pa la ca pb lb cb j:Nat):aT 204 [4] 0 99 [0,1,12,13] [vL pa 0 la ca,vL pb 0 lb cb,vI la,vI j]
 [aP (cO j la) false]
 (.exit 0) [0] [vL pa 0 la ca]:=dc
theorem afd:dJ 204 5 99 [] []
 []
 .ret [4] [.bool true]:=dc
theorem Y2:jy 204 2 [4]=true:=aU
theorem PR:(di (bN 204)).length<=99:=af aU
theorem WX:jI (bN 204) 4=some (0,(bX 204 [4])):=aU
theorem Gw:iP 204 [4]:=aU
theorem W4:lN (eY 204) (bN 204) (bX 204 [4]) 4 0=true:=aU
theorem ago (a:Option Addr)(k:Int):Path 116 [.slice a 0 0,fR]
 [.val (pu ab [vI 0] (convert 3 195 (vI 0))) (.int .u64 0),
  .call 153 [.int .u64 0] (vI k),
  .call 152 [.slice a 0 0,vI 0,vI 0,vI k,fR] (.tuple #[])]
 (.tuple #[]):=lV
theorem afw (a:Option Addr)(k:Int):dJ 152 0 2 [0,1,2,3,4] [.slice a 0 0,vI 0,vI 0,vI k,fR]
 []
 .normal [0,1,2,3,4] [.slice a 0 0,vI 0,vI 0,vI k,fR]:=dc
theorem aaT (a:Option Addr)(k:Int):aT 152 [2] 0 99 [0,1,2,3,4] [.slice a 0 0,vI 0,vI 0,vI k,fR]
 [zF,
  .call 205 [.slice a 0 0,vI 0,vI 0,fR] (.tuple #[])]
 .ret [] []:=dc
theorem ae0 (a:Option Addr):dJ 205 0 1 [0,1,2,3] [.slice a 0 0,vI 0,vI 0,fR]
 []
 .normal [0,1,2,3,8] [.slice a 0 0,vI 0,vI 0,fR,vI 1]:=dc
theorem aaS:aT 205 [1] 0 99 [2,8] [vI 0,vI 1]
 [dx]
 (.exit 0) [] []:=dc
section
variable {K:fZ}{m:Mem}
theorem alQ {a b:List V}{pa ca pb cb:Nat}(ha:nH m (vL pa 0 a.length ca) a)(hb:nH m (vL pb 0 b.length cb) b)(hl:a.length<99999):
  ∃e,Ev K 204 [vL pa 0 a.length ca,vL pb 0 b.length cb] m (.bool e) m/\(e=true↔a=b):=by
 by_cases h:a.length=b.length
 ·obtain⟨t0,w0,e0⟩:=aR (K:=K) (tm:=entry [vL pa 0 a.length ca,vL pb 0 b.length cb]) (afa pa a.length ca pb b.length cb) rfl (.cond (by rw[jk,yA ai]) (.nil (m:=m)));obtain⟨e,t1,m1,he,hx,rfl,hp⟩:=jx (K:=K) (nt:=eY 204) (a:=bX 204 [4])
   (Inv:=fun n tm m'=>∃j,n=a.length-j/\j<=a.length/\m'=m/\bu [0,1,12,13] tm=[vL pa 0 a.length ca,vL pb 0 b.length cb,vI (a.length:Int),vI j]/\a.take j=b.take j)
   (dm:=fun e tm m'=>m'=m/\((e= .exit 0/\a=b)\/(e= .ret/\bu [4] tm=[.bool false]/\a≠b)))
   (by
    rintro k tm m1 ⟨j,rfl,qO,rfl,hg,ht⟩
    by_cases hj:j<a.length
    ·have hxa:=List.getElem?_eq_getElem hj;have hxb:=List.getElem?_eq_getElem (show j<b.length by omega)
     by_cases hc:a[j]=b[j]
     ·obtain⟨t2,cN,cz⟩:=aI (K:=K) (m:=m1) (m':=m1) Gw (afb pa a.length ca pb b.length cb j a[j] b[j] _) hg (.cond (dT gF)<| .idx rfl ai<| .mem (nH.ld ha hxa)<| .idx rfl ai<| .mem (nH.ld hb hxb)<| .val (Ce ..)<| .cond (bF (by rw[V.beq_iff.2 hc];rfl))<| .nil);rw[dI]at cz;exact .inl ⟨_,t2,m1,ai,cN,j+1,rfl,hj,rfl,cz,by rw[List.take_add_one,List.take_add_one,ht,hxa,hxb,hc]⟩
     ·obtain⟨t2,cN,cz⟩:=aI (K:=K) (m:=m1) (m':=m1) Gw (afc pa a.length ca pb b.length cb j a[j] b[j] _) hg (.cond (dT gF)<| .idx rfl ai<| .mem (nH.ld ha hxa)<| .idx rfl ai<| .mem (nH.ld hb hxb)<| .val (Ce ..)<| .cond (bT (by rw[Bool.eq_false_iff.2 fun h=>hc (V.beq_iff.1 h)];rfl))<| .nil);exact .inr ⟨_,t2,m1,g8,cN,rfl,.inr ⟨rfl,cz,fun h=>hc (by subst h;rfl)⟩⟩
    ·obtain⟨t2,cN,cz⟩:=aI (K:=K) (m:=m1) (m':=m1) Gw (ae9 pa a.length ca pb b.length cb j) hg (.cond (dF gF)<| .nil);refine .inr ⟨_,t2,m1,g8,cN,rfl,.inl ⟨rfl,?_⟩⟩;have :j=a.length:=ai;subst this;rwa[List.take_length,h,List.take_length]at ht)
   (n:=a.length) (k:=100000) (tm:=t0) (m:=m) ⟨0,rfl,ai,rfl,e0,rfl⟩ ai
  rcases hp with⟨rfl,w7⟩|⟨rfl,hg,w7⟩
  ·obtain⟨t2,w2,e2⟩:=aR (K:=K) (m:=m1) (m':=m1) (tm:=t1) afd rfl .nil;exact⟨true,eB Y2 (aA.cut w0 (aA.fw hx (aA.last w2 PR))) (.inr rfl) e2,by simp[w7]⟩
  ·exact⟨false,eB Y2 (aA.cut w0 (aA.Co WX W4 hx aU)) (.inr rfl) hg,by simp[w7]⟩
 ·exact⟨false,aY (agh pa a.length ca pb b.length cb) (.cond (by rw[jk,AA ai]) .nil),⟨fun h=>(by cases h),fun e=>absurd (congrArg _ e) h⟩⟩
theorem Sv.same{B:Nat->Prop}{p n:Nat}{rest:List ae}{d:Array El}(h:Sv B p n rest m d){i j:Nat}(hi:i<n:=by omega)(hj:j<n:=by omega):
  ∃e,Ev K 204 [d[i]!.1,d[j]!.1] m (.bool e) m/\(e=true↔d[i]!.2=d[j]!.2):=by
 obtain⟨⟨b1,c1,e1,_,o1,Qj⟩,l1⟩:=h.el _ (h.mem hi);obtain⟨⟨b2,c2,e2,_,o2,Un⟩,l2⟩:=h.el _ (h.mem hj);rw[e1,e2];exact alQ (K:=K) (o1.sl (fc _) Qj) (o2.sl (fc _) Un) ai
theorem UZ {a:Option Addr}:Ev K 116 [.slice a 0 0,fR] m (.tuple #[]) m:=by
 have h5:Ev K 205 [.slice a 0 0,vI 0,vI 0,fR] m (.tuple #[]) m:=by
  obtain⟨t0,w0,e0⟩:=aR (K:=K) (m:=m) (m':=m) (tm:=entry [.slice a 0 0,vI 0,vI 0,fR]) (ae0 a) rfl .nil;obtain⟨e,t1,m5,he,hx,rfl,rfl⟩:=eI (K:=K) (nt:=eY 205) (a:=bX 205 [1]) 0
   (Inv:=fun j tm m'=>m'=m/\bu [0,1,2,3,8] tm=[.slice a 0 0,vI 0,vI 0,fR,vI 1])
   (dm:=fun e tm m'=>e= .exit 0/\m'=m)
   (fun j tm m' hj=>absurd hj ai)
   (by
    rintro tm m' ⟨rfl,hg⟩;have Mo:bu [2,8] tm=[vI 0,vI 1]:=by
     simp only[bu,List.map_cons,List.map_nil,List.cons.injEq,and_true]at hg⊢;exact⟨hg.2.2.1,hg.2.2.2.2⟩
    obtain⟨t2,cN,cz⟩:=aI (K:=K) (m:=m') (m':=m') A2 aaS Mo (.cond rfl .nil);exact⟨_,t2,m',g8,cN,rfl,rfl⟩)
   (tm:=t0) (m:=m) ⟨rfl,e0⟩ ai
  exact eB (vs:=[]) Y1 (aA.cut w0 (aA.fw hx (aA.done LI))) (.inl rfl) rfl
 have h2:∀k:Int,Ev K 152 [.slice a 0 0,vI 0,vI 0,vI k,fR] m (.tuple #[]) m:=fun k=>by
  obtain⟨t0,w0,e0⟩:=aR (K:=K) (m:=m) (m':=m) (tm:=entry [.slice a 0 0,vI 0,vI 0,vI k,fR]) (afw a k) rfl .nil;obtain⟨e,t1,m5,he,hx,rfl,rfl⟩:=eI (K:=K) (nt:=eY 152) (a:=bX 152 [2]) 0
   (Inv:=fun j tm m'=>m'=m/\bu [0,1,2,3,4] tm=[.slice a 0 0,vI 0,vI 0,vI k,fR])
   (dm:=fun e tm m'=>e= .ret/\m'=m)
   (fun j tm m' hj=>absurd hj ai)
   (by
    rintro tm m' ⟨rfl,hg⟩;obtain⟨t2,cN,cz⟩:=aI (K:=K) (m:=m') (m':=m') r9 (aaT a k) hg (.cond rfl<| .call h5 .nil);exact⟨_,t2,m',g8,cN,rfl,rfl⟩)
   (tm:=t0) (m:=m) ⟨rfl,e0⟩ ai
  exact eB (vs:=[]) Y4 (aA.cut w0 (aA.Co Ob Oc hx aU)) (.inr rfl) rfl
 exact aY (ago a _) (.val aU<| .call (show Ev K 153 [.int .u64 0] m (vI (Sort.bitsLen 0:Int)) m from acX (l:=0) eS)<| .call (h2 _) .nil)
end
end Go.AM
namespace Go.AM
set_option maxRecDepth 1000000
open Go Go.Conc Go.Proofs
theorem afl (p n i l w j k:Nat)(x y:ae)(c:Bool):aT 203 [4,2,1,0,2] 0 99 [0,1,5,6,7] [vL p 0 n cH,.func (.func 204) #[] #[],vI w,vL p i l cH,vI j]
 [aP (cO j l) true,
  .idx j l j,
  .mem (aD p (i+j*1)) x,
  .idx (bQ j 1) l k,
  .mem (aD p (i+k*1)) y,
  gp,
  .bM (.func (.func 204) #[] #[]) [x,y] (.bool c),
  aP (!c) false]
 .normal [0,1,5,6,7] [vL p 0 n cH,.func (.func 204) #[] #[],vI w,vL p i l cH,vI (bL j 1)]:=dc
theorem afk (p n i l w j k:Nat)(x y:ae)(c:Bool):aT 203 [4,2,1,0,2] 0 99 [0,1,5,6,7] [vL p 0 n cH,.func (.func 204) #[] #[],vI w,vL p i l cH,vI j]
 [aP (cO j l) true,
  .idx j l j,
  .mem (aD p (i+j*1)) x,
  .idx (bQ j 1) l k,
  .mem (aD p (i+k*1)) y,
  gp,
  .bM (.func (.func 204) #[] #[]) [x,y] (.bool c),
  aP (!c) true,
  .idx j l j,
  .mem (aD p (i+j*1)) x,
  .idx w n w,
  .mem (eH p (0+w*1) x) undef]
 .normal [0,1,5,6,7] [vL p 0 n cH,.func (.func 204) #[] #[],vI (bL w 1),vL p i l cH,vI (bL j 1)]:=dc
theorem afj (p n i l w j:Nat):aT 203 [4,2,1,0,2] 0 99 [0,1,5,6,7] [vL p 0 n cH,.func (.func 204) #[] #[],vI w,vL p i l cH,vI j]
 [aP (cO j l) false]
 (.exit 2) [0,1,5] [vL p 0 n cH,.func (.func 204) #[] #[],vI w]:=dc
theorem nR:iP 203 [4,2,1,0,2]:=aU
section
variable {α β:Type}[Inhabited α]
open Classical in
noncomputable def sT(f:α→β)(l:List α):Nat→List α
 |0=>[]
 |k+1=>sT f l k++if k=0∨f l[k]!≠f l[k-1]! then[l[k]!]else[]
theorem sx {f:α->β}{l:List α}{k:Nat}(h:k=0\/f l[k]!≠f l[k-1]!):sT f l (k+1)=sT f l k++[l[k]!]:=by
 unfold sT;rw[bj h];cases k<;>rfl
theorem zq {f:α->β}{l:List α}{k:Nat}(h0:k≠0)(h:f l[k]! =f l[k-1]!):sT f l (k+1)=sT f l k:=by
 conv=>lhs;unfold sT
 rw[bW (fun e=>e.elim h0 fun e=>e h),List.append_nil]
theorem Bi {f:α->β}{l:List α}:∀k,(sT f l k).length<=k
 |0=>aj _
 |k+1=>by
  have :=Bi (f:=f) (l:=l) k;unfold sT
  split<;>simp <;>omega
theorem Hr {f:α->β}{l:List α}{x:α}:∀{k},k<=l.length->x∈sT f l k->x∈l
 |0,_,h=>by cases h
 |k+1,hk,h=>by
  unfold sT at h;rcases List.mem_append.1 h with h|h
  ·exact Hr ai h
  ·split at h
   ·rw[List.mem_singleton.1 h,getElem!_pos l k ai];exact List.getElem_mem _
   ·cases h
theorem Hs [Inhabited β]{f:α->β}{l:List α}:∀{k},k<=l.length->(sT f l k).map f=sT id (l.map f) k
 |0,_=>rfl
 |k+1,hk=>by
  have e:∀j,j<l.length->(l.map f)[j]! =f l[j]!:=fun j hj=>by
   rw[getElem!_pos _ j (by simpa using hj),getElem!_pos l j hj,List.getElem_map]
  by_cases h:k=0\/f l[k]!≠f l[k-1]!
  ·rw[sx h,sx (by rw[e _ ai,e _ ai];exact h),List.map_append,Hs ai,e _ ai];rfl
  ·have h0:k≠0:=fun e=>h (.inl e)
   have h1:f l[k]! =f l[k-1]!:=Classical.byContradiction fun e=>h (.inr e)
   rw[zq h0 h1,zq h0 (by rw[e _ ai,e _ ai];exact h1),Hs ai]
end
theorem uY {l:List (List V)}(h:l.Pairwise fun x y=>bP x y<=0):∀k,k<=l.length->(sT id l k).Pairwise (fun x y=>bP x y<0)/\(∀x,x∈sT id l k↔x∈l.take k)/\(∀x∈sT id l k,k=0\/bP x l[k-1]!<=0)
 |0,_=>⟨.nil,by simp[sT],by simp[sT]⟩
 |k+1,hk=>by
  obtain⟨h1,h2,h3⟩:=uY h k ai;have ek:l.take (k+1)=l.take k++[l[k]!]:=by
   rw[List.take_add_one,List.getElem?_eq_getElem ai,getElem!_pos l k ai];rfl
  have CI:=List.pairwise_iff_getElem.1 h
  by_cases hc:k=0\/id l[k]!≠id l[k-1]!
  ·rw[sx hc];have cB:∀x∈sT id l k,bP x l[k]!<0:=fun x hx=>by
    have Ah:k≠0:=fun e=>by subst e;cases hx
    have a:=(h3 x hx).resolve_left Ah;have b:=CI (k-1) k ai ai ai;rw[<-getElem!_pos l (k-1) ai,<-getElem!_pos l k ai]at b;have c:bP l[k-1]! l[k]!<0:=by
     rcases Int.lt_or_eq_of_le b with b|b
     ·exact b
     ·exact absurd (gn.1 b).symm (hc.resolve_left Ah)
    rcases Int.lt_or_eq_of_le a with a|a
    ·exact jV.trans a c
    ·rw[gn.1 a];exact c
   refine⟨List.pairwise_append.2 ⟨h1,List.pairwise_singleton _ _,fun x hx y hy=>by rw[List.mem_singleton.1 hy];exact cB x hx⟩,fun x=>by rw[ek,List.mem_append,List.mem_append,h2],fun x hx=> .inr ?_⟩;rw[Nat.add_sub_cancel];rcases List.mem_append.1 hx with hx|hx
   ·exact Int.le_of_lt (cB x hx)
   ·rw[List.mem_singleton.1 hx,gn.2 rfl];decide
  ·have h0:k≠0:=fun e=>hc (.inl e)
   have he:l[k]! =l[k-1]!:=Classical.byContradiction fun e=>hc (.inr e)
   rw[zq h0 he];refine⟨h1,fun x=>by
    rw[ek,List.mem_append,h2];refine⟨.inl,fun h=>h.elim id fun h=>?_⟩;rw[List.mem_singleton.1 h,he,getElem!_pos l (k-1) ai];exact List.mem_take_iff_getElem.2 ⟨k-1,ai,rfl⟩,fun x hx=> .inr ?_⟩
   rw[Nat.add_sub_cancel,he];exact(h3 x hx).resolve_left h0
theorem IX {l l':List (List V)}(h1:l.Pairwise fun x y=>bP x y<0)(h2:l'.Pairwise fun x y=>bP x y<0)(h:∀x,x∈l↔x∈l'):l=l':=by
 have nd:∀{l:List (List V)},l.Pairwise (fun x y=>bP x y<0)->l.Nodup:=fun h=>h.imp fun{a b} h e=>by
  subst e;rw[gn.2 rfl]at h;exact absurd h eS
 exact rW ((List.perm_ext_iff_of_nodup (nd h1) (nd h2)).2 h) (h1.imp fun h=>Int.le_of_lt h) (h2.imp fun h=>Int.le_of_lt h)
theorem Nw:∀(cs:List ae) (o:Nat) (vs:List ae),o<=cs.length->∃r,sY cs o vs=cs.take o++r
 |cs,0,vs,_=>⟨_,rfl⟩
 | [],o+1,vs,h=>by simp at h
 |c::cs,o+1,vs,h=>by
  obtain⟨r,e⟩:=Nw cs o vs (by simpa using h);exact⟨r,by rw[jH,e];rfl⟩
theorem Nv {m:Mem}{p n w:Nat}{cs:List ae}(o:Obj m p 1 cs)(h:w<n):lB ab 29 (vL p 0 n cH) (some (vI w)) none m=some (vL p w (n-w) cH,m):=by
 obtain⟨e,z,s,h1,hz,hs,Vx,hz1⟩:=uG TC.und;have h4:ep ab e=some 1:=by
  obtain⟨e',h3,h4,_⟩:=sH (t:=29) (sz:=1) rfl;rw[h1]at h3;cases h3;exact h4
 have hb:gH (some (vI w)) 0=some w:=by unfold gH;simp
 unfold lB iy;simp only[h1,h4,hb,show∀d,gH none d=some d from fun _=>rfl,if_true,aj,true_and];rw[bj (show w<=n/\(w=0\/w<n/\(m.blk p).kind=1/\(m.blk p).sz=1)from⟨Nat.le_of_lt h,.inr ⟨h,o.kind,o.sz⟩⟩)];simp
theorem Wa {m:Mem}{p n w:Nat}(h:w<=n):lB ab 29 (vL p 0 n cH) none (some (vI w)) m=some (vL p 0 w cH,m):=by
 obtain⟨e,z,s,h1,hz,hs,Vx,hz1⟩:=uG TC.und;have hb:gH (some (vI w)) n=some w:=by unfold gH;simp
 unfold lB iy;simp only[h1,hs,hb,show∀d,gH none d=some d from fun _=>rfl,if_true,Nat.zero_le,true_and,true_or,and_true];rw[bj h];simp
section
variable {K:fZ}{B:Nat->Prop}{p n cc:Nat}{rest:List ae}{m:Mem}{d:Array El}
theorem UA {d:Array El}(i:Nat):d.toList[i]! =d[i]!:=by
 rw[getElem!_def,getElem!_def,Array.getElem?_toList]
noncomputable abbrev ts(d:Array El)(k:Nat):List El:=sT (·.2) d.toList k
theorem i203 (h:Sv B p n rest m d)(hn:n<90000){i:Nat}(hi:i<n)(h1:1<=i)(he:ts d (i+1)=d.toList.take i){tm:Tm}(hg:bu [0,1,5,6,7] tm=[vL p 0 n cH,.func (.func 204) #[] #[],vI (i:Int),vL p i (n-i) cH,vI 1]):
  ∃cV m' d',vB K (eY 203) (bX 203 [4,2,1,0,2]) 100000 ⟨tm,m,[]⟩ (.exit 2) ⟨cV,m',[]⟩/\bu [0,1,5] cV=[vL p 0 n cH,.func (.func 204) #[] #[],vI ((ts d n).length:Int)]/\Kp m m' (fun y=>y=p)/\Sv B p n rest m' d'/\d'.toList.take (ts d n).length=ts d n/\(ts d n).length<n:=by
 obtain⟨e,cV,m',dQ,hx,rfl,d',r⟩:=eI (K:=K) (nt:=eY 203) (a:=bX 203 [4,2,1,0,2]) (n-i-1)
  (Inv:=fun j tm m'=>∃d',bu [0,1,5,6,7] tm=[vL p 0 n cH,.func (.func 204) #[] #[],vI ((ts d (i+(j+1))).length:Int),vL p i (n-i) cH,vI (j+1:Nat)]/\Kp m m' (fun y=>y=p)/\Sv B p n rest m' d'/\d'.toList.take (ts d (i+(j+1))).length=ts d (i+(j+1))/\(ts d (i+(j+1))).length<=i+j/\∀t,i+j<=t->d'[t]! =d[t]!)
  (dm:=fun e tm m'=>e= .exit 2/\∃d',bu [0,1,5] tm=[vL p 0 n cH,.func (.func 204) #[] #[],vI ((ts d n).length:Int)]/\Kp m m' (fun y=>y=p)/\Sv B p n rest m' d'/\d'.toList.take (ts d n).length=ts d n/\(ts d n).length<n)
  (by
   rintro j tm m1 hj ⟨d',hg,k1,s1,ht,hw,eF⟩
   left
   obtain⟨w,TR⟩:∃w,w=(ts d (i+(j+1))).length:=⟨_,rfl⟩;rw[<-TR]at hg ht hw;have g1:=s1.gd;obtain⟨c,e2,hc⟩:=s1.same (K:=K) (i:=i+(j+1)) (j:=i+j);have Uj:d'[i+(j+1)]! =d[i+(j+1)]!:=eF _ ai;have KH:d'[i+j]! =d[i+j]!:=eF _ ai;have l1:=s1.ld (i:=i+(j+1));have l2:=s1.ld (i:=i+j);rw[Nat.zero_add,Nat.mul_one]at l1 l2;have Qe:aD p (i+(j+1)*1) m1=some (d'[i+(j+1)]!.1,m1):=by rw[Nat.mul_one];exact l1
   have XD:aD p (i+j*1) m1=some (d'[i+j]!.1,m1):=by rw[Nat.mul_one];exact l2
   have eL:∀t:Nat,d.toList[t]! =d[t]!:=UA;cases c with
   |true=>
    have hq:=hc.1 rfl;rw[Uj,KH]at hq;have Q8:ts d (i+(j+1)+1)=ts d (i+(j+1)):=zq ai (by rw[eL,eL];exact hq);obtain⟨t2,cN,cz⟩:=aI (K:=K) (m:=m1) (m':=m1) nR (afl p n i (n-i) w (j+1) j _ _ _) hg (.cond (dT gF)<| .idx rfl ai<| .mem Qe<| .idx pv ai<| .mem XD<| .mem (aK ft)<| .bM e2<| .cond rfl<| .nil);rw[dI]at cz;refine⟨t2,m1,cN,d',?_,k1,s1,?_,?_,fun t ht=>eF t ai⟩
    ·rw[show i+(j+1+1)=i+(j+1)+1 from rfl,Q8,<-TR];exact cz
    ·rw[show i+(j+1+1)=i+(j+1)+1 from rfl,Q8,<-TR];exact ht
    ·rw[show i+(j+1+1)=i+(j+1)+1 from rfl,Q8,<-TR];omega
   |false=>
    have hq:¬d[i+(j+1)]!.2=d[i+j]!.2:=fun e=>by
     rw[<-Uj,<-KH]at e;exact absurd (hc.2 e) eS
    have Q8:ts d (i+(j+1)+1)=ts d (i+(j+1))++[d[i+(j+1)]!]:=by
     rw[show ts d (i+(j+1)+1)=_ from sx (.inr (by rw[eL,eL];exact hq)),eL]
    obtain⟨m3,e3,k3,s3⟩:=s1.st (i:=w) ai (x:=d'[i+(j+1)]!) (s1.mem ai);obtain⟨t2,cN,cz⟩:=aI (K:=K) (m:=m1) (m':=m3) nR (afk p n i (n-i) w (j+1) j _ _ _) hg (.cond (dT gF)<| .idx rfl ai<| .mem Qe<| .idx pv ai<| .mem XD<| .mem (aK ft)<| .bM e2<| .cond rfl<| .idx rfl ai<| .mem Qe<| .idx rfl ai<| .mem e3<| .nil);rw[dI,dI]at cz;have hlen:(ts d (i+(j+1)+1)).length=w+1:=by rw[Q8];simp[TR]
    have ig:=s1.sz;refine⟨t2,m3,cN,_,?_,k1.trans k3 fun _ _ h=>h,s3,?_,?_,fun t ht=>?_⟩
    ·rw[show i+(j+1+1)=i+(j+1)+1 from rfl,hlen];exact cz
    ·rw[show i+(j+1+1)=i+(j+1)+1 from rfl,hlen,Q8,<-ht,Array.toList_setIfInBounds,List.take_add_one,List.getElem?_set_self (by simpa using(show w<d'.size by omega)),List.take_set_of_le (aj _),Uj];rfl
    ·rw[show i+(j+1+1)=i+(j+1)+1 from rfl,hlen];omega
    ·rw[<-eF t ai];have dQ:¬w=t:=ai;simp[Array.getElem!_eq_getD,Array.getElem?_setIfInBounds,dQ])
  (by
   rintro tm m1 ⟨d',hg,k1,s1,ht,hw,eF⟩;have e0:i+(n-i-1+1)=n:=ai;rw[e0]at hg ht hw;obtain⟨t2,cN,cz⟩:=aI (K:=K) (m:=m1) (m':=m1) nR (afj p n i (n-i) (ts d n).length (n-i-1+1)) hg (.cond (dF gF)<| .nil);exact⟨_,t2,m1,g8,cN,rfl,d',cz,k1,s1,ht,ai⟩)
  (tm:=tm) (m:=m) ⟨d,by rw[he];have :=h.sz;rw[show(d.toList.take i).length=i by simp;omega];exact hg,.refl _ _,h,by rw[he];simp,by rw[he];simp;omega,fun _ _=>rfl⟩ ai
 exact⟨cV,m',d',hx,r⟩
end
end Go.AM
namespace Go.AM
set_option maxRecDepth 1000000
open Go Go.Conc Go.Proofs
theorem YR (n cc:Nat)(a:Option Addr):Path 203 [.slice a n cc,.func (.func 204) #[] #[]]
 [aP (cO n 2) true]
 (.slice a n cc):=lV
theorem afo (p n:Nat):dJ 203 0 4 [0,1] [vL p 0 n cH,.func (.func 204) #[] #[]]
 [aP (cO n 2) false]
 .normal [0,1,5] [vL p 0 n cH,.func (.func 204) #[] #[],vI 1]:=dc
theorem afg (p n i:Nat):aT 203 [4] 0 99 [0,1,5] [vL p 0 n cH,.func (.func 204) #[] #[],vI i]
 [aP (cO i n) false]
 (.exit 0) [0] [vL p 0 n cH]:=dc
theorem afi (p n i k:Nat)(x y:ae)(c:Bool):aT 203 [4] 0 99 [0,1,5] [vL p 0 n cH,.func (.func 204) #[] #[],vI i]
 [aP (cO i n) true,
  .idx i n i,
  .mem (aD p (0+i*1)) x,
  .idx (bQ i 1) n k,
  .mem (aD p (0+k*1)) y,
  gp,
  .bM (.func (.func 204) #[] #[]) [x,y] (.bool c),
  aP c false]
 .normal [0,1,5] [vL p 0 n cH,.func (.func 204) #[] #[],vI (bL i 1)]:=dc
theorem afh (p n i:Nat):aT 203 [4] 0 2 [0,1,5] [vL p 0 n cH,.func (.func 204) #[] #[],vI i]
 [aP (cO i n) true]
 .normal [0,1,5] [vL p 0 n cH,.func (.func 204) #[] #[],vI i]:=dc
theorem afn (p n i k:Nat)(x y:ae)(c:Bool):aT 203 [4,2] 0 1 [0,1,5] [vL p 0 n cH,.func (.func 204) #[] #[],vI i]
 [.idx i n i,
  .mem (aD p (0+i*1)) x,
  .idx (bQ i 1) n k,
  .mem (aD p (0+k*1)) y,
  gp,
  .bM (.func (.func 204) #[] #[]) [x,y] (.bool c)]
 .normal [0,1,5,28] [vL p 0 n cH,.func (.func 204) #[] #[],vI i,.bool c]:=dc
theorem afm (p n i:Nat)(rv:ae):aT 203 [4,2,1,0] 0 2 [0,1,5] [vL p 0 n cH,.func (.func 204) #[] #[],vI i]
 [.mem (lB ab 29 (vL p 0 n cH) (some (vI i)) none) rv]
 .normal [0,1,5,6,7] [vL p 0 n cH,.func (.func 204) #[] #[],vI i,rv,vI 1]:=dc
theorem aff (p n w:Nat)(r1 r2:ae):aT 203 [4,2,1,0] 3 99 [0,1,5] [vL p 0 n cH,.func (.func 204) #[] #[],vI w]
 [.mem (lB ab 29 (vL p 0 n cH) (some (vI w)) none) r1,
  .mem (j8 ab #[29] r1) (.tuple #[]),
  .mem (lB ab 29 (vL p 0 n cH) none (some (vI w))) r2]
 .ret [4] [r2]:=dc
theorem afe (p n:Nat):dJ 203 5 99 [0] [vL p 0 n cH]
 []
 .ret [4] [vL p 0 n cH]:=dc
theorem Y3:jy 203 2 [4]=true:=aU
theorem PS:(di (bN 203)).length<=99:=af aU
theorem WY:jI (bN 203) 4=some (0,(bX 203 [4])):=aU
theorem Gx:iP 203 [4]:=aU
theorem W6:lN (eY 203) (bN 203) (bX 203 [4]) 4 0=true:=aU
theorem QN:iu (bX 203 [4]) 2=some (1,(bX 203 [4,2])):=aU
theorem QK:jA (eY 203) (bX 203 [4]) (bX 203 [4,2]) 2 1=true:=aU
theorem agm (s0 s1:ae):Path 151 [s0]
 [.call 116 [s0,fR] (.tuple #[]),
  .call 203 [s0,.func (.func 204) #[] #[]] s1]
 s1:=lV
theorem aA.ahS{K:fZ}{nt:Nat}{c a b:Code}{x:bS}{i:Nat}{st iq:Ss}(hl:um c i=some (x,a,b))(hx:dz st.tm x= .bool true)(h:vf K nt a st .ret iq)(hp:fj (.cond x a b)=true)(hs:(comp ab nt 1000 (.cond x a b)).isSome=true)(hr:(oF nt ((di c).drop (i+1))).isSome=true):aA K nt c i st .ret iq:=by
 unfold um at hl
 split at hl
 ·rename_i hg;cases hl;obtain⟨cB,uV⟩:=List.getElem?_eq_some_iff.1 hg;have e1:(di c).drop i=[.cond x a b]++(di c).drop (i+1):=by rw[List.drop_eq_getElem_cons cB,uV];rfl
  unfold aA;rw[e1];exact vC.first (vC.single (vf.cond (v:=true) hx h hp hs)) g8 hr
 ·cases hl
theorem ah3:um (bX 203 [4,2]) 1=some (.tmp 28,bX 203 [4,2,1,0],bX 203 [4,2,1,1]):=aU
theorem abl:iP 203 [4,2,1,0]:=aU
theorem LG:(di (bX 203 [4,2,1,0])).length<=99:=af aU
theorem K1 {B:Nat->Prop}{m:Mem}:∀{d:List El},(∀x∈d,cR.R B x.2 m x.1)->cJ (fun x u=>cR.R B x m u/\okV 1 u) (d.map (·.2)) (d.map (·.1))
 | [],_=>rfl
 |x::d,h=>by
  have hx:=h x (List.mem_cons_self ..);refine⟨x.1,d.map (·.1),?_,⟨hx,cR.ok hx⟩,K1 fun y hy=>h y (List.mem_cons_of_mem _ hy)⟩;obtain⟨b,c,e,_⟩:=hx;rw[List.map_cons,e];rfl
section
variable {K:fZ}{B:Nat->Prop}{p n cc:Nat}{rest:List ae}{m:Mem}{d:Array El}
theorem acJ {t w:Nat}(hz:VQ t=true)(ht:sI.contains (t,1)=true){ws cs:List ae}(o:Obj m p 1 (ws++cs))(hw:Own m p)(hl:ws.length=w)(hc:n-w<=cs.length)(h:w<n):
  ∃m' r,j8 ab #[t] (vL p w (n-w) cH) m=some (.tuple #[],m')/\Obj m' p 1 (ws++r)/\Kp m m' (fun y=>y=p):=by
 obtain⟨e,z,s,h1,hz,hs,Vx,hz1⟩:=uG hz;have h4:ep ab e=some 1:=by
  obtain⟨e',h3,h4,_⟩:=sH ht;rw[h1]at h3;cases h3;exact h4
 rw[h4]at hs;cases hs;obtain⟨z1,z2⟩:=Yy (n:=n-w) hz1;rw[Vx]at z1;obtain⟨m',e1,o1,k1⟩:=uJ (o:=w) (Builtin.zeroCells z.cells (n-w)).toList o (hw.may _ _) (by rw[List.length_append];omega) z2;obtain⟨r,er⟩:=Nw (ws++cs) w (Builtin.zeroCells z.cells (n-w)).toList (by rw[List.length_append];omega);refine⟨m',r,?_,by rw[er,<-hl,List.take_left]at o1;exact o1,k1⟩;unfold j8
 show(match ab.underlying t,(vL p w (n-w) cH)with |some (.slice e),.slice base n _=>_|_,_=>none)=_
 rw[h1];simp only[show¬n-w=0 by omega,if_false,hz,dq,e1,cU]
theorem alR (h:Sv B p n rest m d)(hn:n<90000):
  ∃m' d' sN,Ev K 203 [vL p 0 n cH,.func (.func 204) #[] #[]] m (vL p 0 d'.size cH) m'/\Kp m m' (fun y=>y=p)/\Sv B p d'.size sN m' d'/\d'.toList=ts d n:=by
 have ig:=h.sz;have hlen:d.toList.length=n:=by rw[Array.length_toList];exact ig
 have lQ:d.toList.take n=d.toList:=by rw[<-hlen,List.take_length]
 have dd0:ts d 0=[]:=rfl;have dd1:1<=n->ts d 1=d.toList.take 1:=fun h1=>by
  rw[show ts d 1=_ from sx (.inl rfl),getElem!_pos d.toList 0 ai,List.take_one,List.head?_eq_getElem?,List.getElem?_eq_getElem ai];rfl
 by_cases hs:n<2
 ·refine⟨m,d,rest,?_,.refl _ _,by rw[ig];exact h,?_⟩
  ·rw[ig];exact aY (YR n cH _) (.cond (dT (gF (j:=2)) hs) .nil)
  ·rcases Nat.eq_zero_or_pos n with h0|h0
   ·subst h0;rw[dd0,<-lQ];rfl
   ·have :n=1:=ai;subst this;rw[dd1 (aj _),lQ]
 ·obtain⟨t0,w0,e0⟩:=aR (K:=K) (m:=m) (m':=m) (tm:=entry [vL p 0 n cH,.func (.func 204) #[] #[]]) (afo p n) rfl (.cond (dF (gF (j:=2)) hs) .nil);obtain⟨e,t1,m1,dQ,hx,hp⟩:=eI (K:=K) (nt:=eY 203) (a:=bX 203 [4]) (n-1)
   (Inv:=fun j tm m'=>m'=m/\bu [0,1,5] tm=[vL p 0 n cH,.func (.func 204) #[] #[],vI (j+1:Nat)]/\ts d (j+1)=d.toList.take (j+1))
   (dm:=fun e tm m'=>(e= .exit 0/\m'=m/\bu [0] tm=[vL p 0 n cH]/\ts d n=d.toList)\/(e= .ret/\∃d' sN,bu [4] tm=[vL p 0 d'.size cH]/\Kp m m' (fun y=>y=p)/\Sv B p d'.size sN m' d'/\d'.toList=ts d n))
   (by
    rintro j tm m1 hj ⟨rfl,hg,ht⟩;have g:=h.gd;obtain⟨c,e2,hc⟩:=h.same (K:=K) (i:=j+1) (j:=j);cases c with
    |false=>
     have hq:¬d[j+1]!.2=d[j]!.2:=fun e=>absurd (hc.2 e) eS
     obtain⟨t2,cN,cz⟩:=aI (K:=K) (m:=m1) (m':=m1) Gx (afi p n (j+1) j _ _ _) hg (.cond (dT gF)<| .idx rfl ai<| .mem h.ld<| .idx pv ai<| .mem h.ld<| .mem (aK ft)<| .bM e2<| .cond rfl<| .nil);rw[dI]at cz;refine .inl ⟨t2,m1,cN,rfl,cz,?_⟩;rw[show ts d (j+1+1)=_ from sx (.inr (by rw[UA,UA];exact hq)),show sT (·.2) d.toList (j+1)=_ from ht,List.take_add_one (i:=j+1),List.getElem?_eq_getElem ai,getElem!_pos d.toList (j+1) ai];rfl
    |true=>
     have hq:=hc.1 rfl;have he:ts d (j+1+1)=d.toList.take (j+1):=by
      rw[show ts d (j+1+1)=_ from zq ai (by rw[UA,UA];exact hq),show sT (·.2) d.toList (j+1)=_ from ht]
     obtain⟨ta,wa,ea⟩:=aR (K:=K) (m:=m1) (m':=m1) (afh p n (j+1)) hg (.cond (dT gF) .nil);obtain⟨tb,wb,eb⟩:=aR (K:=K) (m:=m1) (m':=m1) (afn p n (j+1) j _ _ _) ea (.idx rfl ai<| .mem h.ld<| .idx pv ai<| .mem h.ld<| .mem (aK ft)<| .bM e2<| .nil);have akZ:dz tb (.tmp 28)= .bool true:=(List.cons.inj (List.cons.inj (List.cons.inj (List.cons.inj eb).2).2).2).1;have eb':bu [0,1,5] tb=[vL p 0 n cH,.func (.func 204) #[] #[],vI (j+1:Nat)]:=by
      simp only[bu,List.map_cons,List.map_nil,List.cons.injEq,and_true]at eb⊢;exact⟨eb.1,eb.2.1,eb.2.2.1⟩
     obtain⟨tc,wc,ec⟩:=aR (K:=K) (m:=m1) (m':=m1) (afm p n (j+1) _) eb' (.mem (Nv h.ob ai) .nil);obtain⟨td,m2,d2,cN,cz,k2,s2,Zp,hw⟩:=i203 (K:=K) h hn (i:=j+1) ai ai he ec;obtain⟨w,TR⟩:∃w,w=(ts d n).length:=⟨_,rfl⟩;rw[<-TR]at cz Zp hw;have Ov:=s2.sz;have ob2:Obj m2 p 1 ((ts d n).map (·.1)++((d2.toList.drop w).map (·.1)++rest)):=by
      rw[<-Zp,<-List.append_assoc,<-List.map_append,List.take_append_drop];exact s2.ob
     obtain⟨m3,r,e3,o3,k3⟩:=acJ (t:=29) TC.und rfl (n:=n) (w:=w) ob2 s2.ow (by simp[TR]) (by simp;omega) hw;obtain⟨ty,wy,ey⟩:=aR (K:=K) (m:=m2) (m':=m3) (aff p n w _ _) cz (.mem (Nv s2.ob hw)<| .mem e3<| .mem (Wa (Nat.le_of_lt hw)) .nil);have qN:=k2.trans k3 fun _ _ h=>h
     have akp:(ts d n).toArray.size=w:=by simp[TR]
     refine .inr ⟨.ret,ty,m3,g8,(aA.cut wa (aA.wP QN QK (aA.cut wb (aA.ahS ah3 akZ ((aA.cut wc (aA.fw cN (aA.last wy LG))).code abl) aU aU aU)) aU)).code Gx,.inr ⟨rfl,(ts d n).toArray,r,by rw[akp];exact ey,qN,⟨g.ext qN,by simpa using o3,h.ow.ext qN,rfl,h.nb,fun x hx=>?_⟩,du⟩⟩;have hxd:=h.el x (Hr (k:=n) ai (by simpa using hx));exact⟨cR.ext hxd.1 qN fun b hb e=>h.nb (e▸hb),hxd.2⟩)
   (by
    rintro tm m1 ⟨rfl,hg,ht⟩;obtain⟨t2,cN,cz⟩:=aI (K:=K) (m:=m1) (m':=m1) Gx (afg p n (n-1+1)) hg (.cond (dF gF) .nil);refine⟨_,t2,m1,g8,cN,.inl ⟨rfl,rfl,cz,?_⟩⟩;rw[show n-1+1=n by omega,lQ]at ht;exact ht)
   (tm:=t0) (m:=m) ⟨rfl,e0,dd1 ai⟩ ai
  rcases hp with⟨rfl,rfl,hg,he⟩|⟨rfl,d',sN,hg,k,s',he⟩
  ·obtain⟨t2,w2,e2⟩:=aR (K:=K) (m:=m1) (m':=m1) (afe p n) hg .nil;exact⟨m1,d,rest,by rw[ig];exact eB Y3 (aA.cut w0 (aA.fw hx (aA.last w2 PS))) (.inr rfl) e2,.refl _ _,by rw[ig];exact h,he.symm⟩
  ·exact⟨m1,d',sN,eB Y3 (aA.cut w0 (aA.Co WY W6 hx aU)) (.inr rfl) hg,k,s',he⟩
end
theorem alW {K:fZ}{m:Mem}(g:Gd m){BO BE:Nat->Prop}{l:List (List V)}{sv:ae}(h:mz cR 1 BO BE m l sv)(hn:l.length<65536)(hl:∀x∈l,x.length<99999)(hB:∀b,BE b->b<m.next):
  ∃l' vD m',Ev K 151 [sv] m vD m'/\Kp m m' BO/\mz cR 1 BO BE m' l' vD/\l'.Pairwise (fun x y=>bP x y<0)/\∀x,x∈l'↔x∈l:=by
 rcases h with⟨rfl,rfl⟩|⟨b,cs,rest,rfl,⟨hb,Ff⟩,hw,ob,gT⟩
 ·exact⟨[],_,m,aY (agm _ _) (.call UZ<| .call (aY (YR 0 0 none) (.cond rfl .nil)) .nil),.refl _ _,.inl ⟨rfl,rfl⟩,.nil,fun _=>Iff.rfl⟩
 ·obtain⟨d,m1,e1,k1,s1,mj,sP⟩:=Z4 (K:=K) (cc:=cH) g ob Ff gT hw hn hl hB;obtain⟨m2,d2,adW,e2,k2,s2,KH⟩:=alR (K:=K) s1 ai;have hlen:d.toList.length=l.length:=by rw[Array.length_toList];exact s1.sz
  have k:=k1.trans k2 fun _ _ h=>h
  obtain⟨q1,q2,_⟩:=uY sP l.length (by simp[hlen]);have Mm:(ts d l.length).map (·.2)=sT id (d.toList.map (·.2)) l.length:=Hs ai;rw[<-Mm,<-KH]at q1 q2;refine⟨d2.toList.map (·.2),_,m2,aY (agm _ _) (.call e1<| .call e2 .nil),k.mono fun y _ e=>by rw[e];exact hb,.inr ⟨b,d2.toList.map (·.1),adW,du,⟨hb,Ff⟩,s2.ow,s2.ob,?_⟩,q1,fun x=>?_⟩
  ·exact K1 fun x hx=>(s2.el x hx).1
  ·rw[q2,List.take_of_length_le (by simp[hlen]),mj.mem_iff]
end Go.AM
namespace Go.AM
set_option maxRecDepth 1000000
open Go Go.Conc Go.Proofs
section
variable {K:fZ}{fl go sh ga em t sz:Nat}
theorem acR (L:Kin fl go sh ga em t)(ht:sI.contains (t,sz)=true){α:Type}{E:oD α}{X:Nat->Prop}{fs n:Nat}{cap:Array ae}{st:Nat->List α}{m:Mem}{d q:Nat}{cs:List ae}{bo:Nat->Option Nat}{al:Option Nat}(hK:FL K)(fp:Av KW m X fs cap E sz st n)(hE:E.DC)(hXd:X d)(hXb:∀k b,bo k=some b->X b)
  (cm:Calm m)(o:Obj m d 0 cs)(hb:m.base<=d)(hB:j4 m d q sz cs bo al)(hs:n<9000):
  ∃rv m' ys Et u9,Ev K fl [vP d q,vI n,.func (.func fs) #[] cap] m (.tuple #[rv,vI 0]) m'/\Kp m m' (fun y=>y=d\/(∃i,bo i=some y)\/al=some y)/\Obj m' d 0 ys/\ys.length=cs.length/\(∀x,x<q\/q+9<=x->ys[x]?=cs[x]?)/\
   j4 m' d q sz ys Et u9/\(∀j b,Et j=some b->bo j=some b\/jD m m' b)/\(∀p,u9=some p->jD m m' p)/\ys[q+8]?=some rv/\(aX E sz).R (jD m m') (ij st n 0 []) m' rv/\(al=none->ij st n 0 []=[]->rv= .slice none 0 0/\u9=none):=by
 obtain⟨t,M,xs,b3,b8,rC,hg,Xw,h3n,h8n,⟨N0,Np,ll,hN0⟩,JH,OK,ZO,Zt,Q5,On,BA,fI,Ek,En⟩:=MD L ht hK fp hXd hXb cm o hb hB hs;have VD:=o.lt;have hMn:=ZO.next;have hlen:=hB.len;have JF:∀j b,bo j=some b->b<m.next:=fun j b h=>hB.lt h
 have dC:M.opn=[]:=ll.opn;have e1:=alX hK ll.wg ll.sd.deaf dC (by have :=ll.sd.bf;have :=ll.sd.fn;omega);obtain⟨mf,T5⟩:∃mf,mf=CA M:=⟨_,rfl⟩;rw[<-T5]at e1;have nf:mf.next=M.next:=by rw[T5];rfl
 have bf:∀b,mf.blk b=M.blk b:=fun b=>by rw[T5];rfl
 have ahl:mf.bh=[]:=by rw[T5];rfl
 have kf:Kp m mf (fun y=>y=d\/∃i,bo i=some y):=by
  refine⟨ai,ahl.trans cm.bh.symm,?_,?_,?_,?_,?_,?_,?_,fun b h1 h2=>(bf b).trans (ZO.blk b h1 h2)⟩
  ·rw[T5];exact dC.trans cm.opn.symm
  ·rw[T5];exact JH
  ·rw[T5];exact OK
  ·rw[T5];exact JH.trans cm.floor.symm
  ·rw[T5];exact cm.wg.symm
  ·rw[T5];exact cm.gd.pend.symm
  ·rw[T5];exact ll.sd.deaf.trans cm.gd.deaf.symm
 have cmf:=cm.ext kf;have sS:m.base<=m.next:=by have :=cm.gd.bf;have :=cm.gd.fn;omega
 have tf:∀b,aJ mf.bh b=false:=fun b=>by rw[ahl];rfl
 have ro:∀{b sz:Nat}{ys:List ae},RO M b sz ys->RO mf b sz ys:=fun{b sz ys} h=>⟨by rw[nf];exact h.lt,by rw[bf];exact h.kind,by rw[bf];exact h.sz,by rw[bf];exact h.cs⟩
 have l3:aD b3 0 mf=some (vP d q,mf):=aS ((ro Xw).obj (tf _)) rfl;have ag1:∀k,k<4->∃sv BE,xs[q+2*k]?=some sv/\xs[q+2*k+1]?=some (vI 0)/\mz E sz (BA k) BE mf (PE st n k) sv/\∀b,BE b->jD m mf b:=by
  intro k hk;obtain⟨sv,mw,m2,BE,h1,h2,⟨h3,HW⟩,h4,h5,h6⟩:=fI k hk;have h6n:=h6.next;have sm:∀{S:Nat->Prop},(∀b,S b->b≠d/\∀i,k<i->bo i≠some b)->sJ S m2 mf:=fun hS=>⟨ai,fun b hb hl=>⟨(bf b).trans (h6.blk b hl fun h=>h.elim (hS b hb).1 fun⟨i,hi,h⟩=>(hS b hb).2 i hi h),fun _=>tf b⟩⟩
  refine⟨sv,BE,h1,h2,h3.iG hE (sm fun b hb=>?_) (sm fun b hb=>?_) (fun b hb=>cmf.own ?_),fun b hb=>⟨by have :=(HW b hb).1;omega,by have :=(HW b hb).2;omega⟩⟩
  ·rcases h4 b hb with h|h
   ·exact⟨(hB.ne h).1,fun i hi h'=>by have :=hB.inj h h';omega⟩
   ·have :=h.1;exact⟨ai,fun i hi h'=>by have :=JF i b h';omega⟩
  ·have :=(HW b hb).1;exact⟨ai,fun i hi h'=>by have :=JF i b h';omega⟩
  ·rw[kf.base];rcases h4 b hb with h|h
   ·exact(hB.ne h).2
   ·have :=h.1;omega
 have HX:∀k b,k<4->BA k b->b≠d/\al≠some b/\b<mf.next:=fun k b hk h=>by
  obtain⟨Q0,_,hra⟩:=hB.all;rcases En k b hk h with h|h
  ·exact⟨(hB.ne h).1,fun e=>(hB.KO e).2.2 k h,by have :=JF k b h;omega⟩
  ·refine⟨ai,fun e=>?_,ai⟩;rcases hra with⟨h',_⟩|⟨b',_,_,h',_,r,_⟩
   ·rw[e]at h';cases h'
   ·rw[e]at h';cases h';have :=r.lt;omega
 obtain⟨Q0,hav,hra⟩:=hB.all;have Mu:∀p,al=some p->p<m.next:=fun p hp=>by
  rcases hra with⟨h,_⟩|⟨b,_,_,h,_,r,_⟩
  ·rw[hp]at h;cases h
  ·rw[hp]at h;cases h;exact r.lt
 have akw:Room sz mf Q0 al:=hra.ext kf.Vt fun b e h=>by
  rcases h with h|⟨i,h⟩
  ·exact(hB.KO e).1 h
  ·exact(hB.KO e).2.2 i h
 obtain⟨rv,m',ys,u9,e2,k2,o2,Xn,Zi,hy8,HT,mn,q',q4⟩:=alz (K:=K) (E:=E) (B0:=jD m mf) (res:=PE st n) (xs:=xs) (q:=q) (Q0:=Q0) (al:=al) L ht cmf ((ro Zt).obj (tf _)) (by rw[kf.base];exact hb) ai (by rw[On _ (.inr (aj _))];exact hav) akw (fun p hp=>⟨(hB.KO hp).1,by rw[kf.base];exact(hB.KO hp).2.1⟩)
  (fun y hy=>⟨by have :=hy.1;omega,fun e=>by have :=Mu y e;have :=hy.1;omega,hy.2⟩)
  (fun k=>by
   have h1:=acA n k;have h2:=B4 (st:=st) fp.one (DR n k-tk n k) (tk n k) [];unfold PE;simp at h2;omega) (fun k hk=>by
   obtain⟨sv,BE,h1,h2,h3,h4⟩:=ag1 k hk;exact⟨sv,BA k,BE,h1,h2,h3,fun b hb=>HX k b hk hb,h4⟩)
 rw[Sx]at q' q4;have n2:=k2.next;have cm':=cmf.ext k2;obtain⟨t2,h2,e3⟩:=aR (K:=K) (m:=M) (m':=m') (L.aa7 b3 b8 d q rv 0) hg (.call e1<| .mem l3<| .call e2 .nil);have kk:Kp m m' (fun y=>y=d\/(∃i,bo i=some y)\/al=some y):=(kf.mono fun _ _ h=>h.imp id .inl).trans k2 fun b _ h=>h.imp id .inr
 have hex:∀k,∃ob:Option Nat,k<4->∃sv,xs[q+2*k]?=some sv/\Room sz m' sv ob/\∀b,ob=some b->BA k b:=by
  intro k
  by_cases hk:k<4
  ·obtain⟨sv,BE,h1,h2,h3,h4⟩:=ag1 k hk;rcases h3 with⟨_,rfl⟩|⟨b,c1,c2,rfl,gA,_,ob,gT⟩
   ·exact⟨none,fun _=>⟨_,h1,.inl ⟨rfl,rfl⟩,fun _ h=>(by cases h)⟩⟩
   ·have ny:=HX k b hk gA.1;exact⟨some b,fun _=>⟨_,h1,.inr ⟨b,_,_,rfl,rfl,ob.ro.ext k2 (fun h=>h.elim ny.1 ny.2.1),by have :=gT.one.1;simp;omega⟩,fun _ h=>(by cases h;exact gA.1)⟩⟩
  ·exact⟨none,fun h=>absurd h hk⟩
 obtain⟨bo1,ahy⟩:=Classical.axiomOfChoice hex;have KI:∀j b,(if j<4 then bo1 j else none)=some b->j<4/\BA j b:=fun j b h=>by
  split at h
  ·rename_i hj;obtain⟨_,_,_,h3⟩:=ahy j hj;exact⟨hj,h3 b h⟩
  ·cases h
 have dQ:∀{j b},(if j<4 then bo1 j else none)=some b->b≠d/\m'.base<=b:=fun{j b} h=>by
  obtain⟨hj,ZR⟩:=KI j b h;refine⟨(HX j b hj ZR).1,?_⟩;rw[k2.base,kf.base];rcases En j b hj ZR with h|h
  ·exact(hB.ne h).2
  ·omega
 refine⟨rv,m',ys,fun j=>if j<4 then bo1 j else none,u9,eB L.abo (rC _ _ (aA.last h2 L.Tv)) (.inr rfl) e3 L.spec.2.2.2.2,kk,o2,Xn.trans Q5,fun x hx=>by rw[Zi x ai];exact On x ai,⟨ai,fun j hj=>?_,fun j hj=>bW ai,fun{i j b} h1 h2=>?_,dQ,⟨rv,hy8,HT⟩,fun{p} hp=>?_⟩,fun j b h=>?_,fun p hp=>⟨by have :=(mn p hp).1;omega,(mn p hp).2⟩,hy8,?_,q4⟩
 ·obtain⟨sv,h1,h2,_⟩:=ahy j hj;exact⟨sv,by rw[Zi _ ai];exact h1,by simp only[bj hj];exact h2⟩
 ·obtain⟨hi,h1⟩:=KI i b h1;obtain⟨hj,h2⟩:=KI j b h2;rcases Nat.lt_trichotomy i j with h|h|h
  ·exact absurd h2 (Ek i j b h hj h1)
  ·exact h
  ·exact absurd h1 (Ek j i b h hi h2)
 ·have dG:=mn p hp;refine⟨by have :=dG.1;omega,by rw[k2.base,kf.base];have :=dG.1;omega,fun j h=>?_⟩;obtain⟨hj,ZR⟩:=KI j p h;have :=(HX j p hj ZR).2.2;have :=dG.1;omega
 ·obtain⟨hj,ZR⟩:=KI j b h;rcases En j b hj ZR with h|h
  ·exact .inl h
  ·exact .inr ⟨h.1,ai⟩
 ·exact(aX E sz).mono q' fun b hb=>hb.elim (fun h=>⟨h.1,by have :=h.2;omega⟩) fun h=>⟨by have :=h.1;omega,h.2⟩
end
end Go.AM
namespace Go.AM
set_option maxRecDepth 1000000
open Go Go.Conc Go.Proofs
def DY (r:List Nat):ae:= .agg (r.map fun(n:Nat)=>ae.int .i32 n).toArray
abbrev IA (r:List Nat):List ae:=r.map fun(n:Nat)=>ae.int .i32 n
abbrev ye:oD (List Nat):=iX DY
theorem R6 {r:List Nat}(h:r.length=6):okV 6 (DY r):=⟨by simp[DY,ae.cells,h],fun y hy=>by
 simp only[DY,ae.cells,List.mem_map]at hy;obtain⟨n,_,rfl⟩:=hy;rfl⟩
theorem Wv {r:List Nat}(h:okV 6 (DY r)):r.length=6:=by simpa[DY,ae.cells]using h.1
noncomputable def Cz:V:=⟨0,0,⟨Array.replicate (2^60) 0⟩,false⟩
theorem tW:¬pz Cz:=by
 unfold pz Cz
 show¬(Array.replicate (2^60) (0:UInt8)).size<2^60
 rw[Array.size_replicate];omega
noncomputable def yE(Tb:Nat->Option (List (List V)))(r:List Nat)(p:Nat)(i j:Int):V:=match Tb p with
 |none=>Cz
 |some rows=>if 0<=i/\0<=j then(match r[i.toNat]? with
  |none=>Cz
  |some x=>match rows[x]? with
   |none=>Cz
   |some row=>match row[j.toNat]? with
    |none=>Cz
    |some u=>u)else Cz
theorem Qw {Tb:Nat->Option (List (List V))}{r:List Nat}{p:Nat}{i j:Int}(h:pz (yE Tb r p i j)):∃rows x row,Tb p=some rows/\0<=i/\0<=j/\r[i.toNat]?=some x/\rows[x]?=some row/\row[j.toNat]?=some (yE Tb r p i j):=by
 unfold yE at h⊢
 split at h
 ·exact absurd h tW
 ·rename_i rows hp;simp only[hp]
  split at h
  ·rename_i jq;rw[bj jq]
   split at h
   ·exact absurd h tW
   ·rename_i x hx
    split at h
    ·exact absurd h tW
    ·rename_i row hr
     split at h
     ·exact absurd h tW
     ·rename_i u hu;exact⟨rows,x,row,rfl,jq.1,jq.2,hx,hr,hu⟩
  ·exact absurd h tW
def ju (BT:Nat->Prop)(Tb:Nat->Option (List (List V)))(m:Mem):Prop:=∀p rows,Tb p=some rows->BT p/\∃cl rl,Obj m p 0 [cl,rl]/\(aX cR 1).R BT rows m rl
theorem ju.ext{BT S:Nat->Prop}{Tb:Nat->Option (List (List V))}{m m':Mem}(h:ju BT Tb m)(k:Kp m m' S)(hS:∀b,BT b->¬S b):ju BT Tb m':=fun p rows hp=>by
 obtain⟨h1,cl,rl,o,q⟩:=h p rows hp;exact⟨h1,cl,rl,o.ext k (hS p h1),(aX cR 1).ext q k hS⟩
theorem ju.same{BT:Nat->Prop}{Tb:Nat->Option (List (List V))}{m m':Mem}(h:ju BT Tb m)(s:sJ BT m m'):ju BT Tb m':=fun p rows hp=>by
 obtain⟨h1,cl,rl,o,q⟩:=h p rows hp;exact⟨h1,cl,rl,o.og s h1,aX.iG cR.iG _ _ _ _ _ q s⟩
def FJ (BT:Nat->Prop)(Tb:Nat->Option (List (List V)))(r:List Nat)(b o sz:Nat)(m:Mem):Prop:=(∃cs,Obj m b sz cs/\(cs.drop o).take 6=IA r/\o+6<=cs.length)/\ju BT Tb m
theorem ajt (b pr o p i j x pt nt ct q nq cq s:Nat)(u:V):Path 351 [vP b 0,vP pr o]
 [mB VP s,
  .mem (aD b 0) (vP p 0),
  .mem (aD p 1) (vL pt 0 nt ct),
  .mem (aD b 1) (vI i),
  .idx i 6 i,
  .mem (aD pr (o+i*1)) (.int .i32 x),
  .idx x nt x,
  .mem (aD pt (0+x*1)) (vL q 0 nq cq),
  .mem (aD b 2) (vI j),
  .idx j nq j,
  .mem (eU 4 q (0+j*4)) (gZ u),
  gp,
  uE s 0 (Vq u),
  Yx 49 s (gZ u)]
 (.tuple #[gZ u,vI 0]):=lV
theorem adN {cs:List ae}{r:List Nat}{o i x:Nat}(h:(cs.drop o).take 6=IA r)(hx:r[i]?=some x):cs[o+i]?=some (.int .i32 x):=by
 have h1:(IA r)[i]?=some (.int .i32 x):=by rw[List.getElem?_map,hx];rfl
 rw[<-h]at h1;have hi:i<6:=by
  rcases Nat.lt_or_ge i 6 with hi|hi
  ·exact hi
  ·rw[List.getElem?_eq_none (by simp;omega)]at h1;cases h1
 rw[List.getElem?_take_of_lt hi,List.getElem?_drop]at h1;exact h1
section
variable {K:fZ}{m m':Mem}{BT:Nat->Prop}{Tb:Nat->Option (List (List V))}
theorem FJ.cf{r:List Nat}{b o sz:Nat}(h:FJ BT Tb r b o sz m)(k:Kp m m' fu):FJ BT Tb r b o sz m':=by
 obtain⟨⟨cs,h1,h2⟩,h3⟩:=h;exact⟨⟨cs,h1.cf k,h2⟩,h3.ext k fun _ _ h=>h⟩
theorem R1 {r:List Nat}{pr o sz:Nat}:Scope K (FJ BT Tb r pr o sz) (yE Tb r) (vP pr o):=by
 refine⟨fun m m' h k=>h.cf k,?_⟩;intro p i j m b hs g ⟨⟨cs,ajO,gT,hlen⟩,vq⟩ ob;obtain⟨rows,x,row,hp,hi,hj,hx,hr,hu⟩:=Qw hs;obtain⟨_,cl,rl,ot,qt⟩:=vq p rows hp;generalize yE Tb r p i j=u at*;obtain⟨i,rfl⟩:∃k:Nat,i=k:=⟨i.toNat,ai⟩;obtain⟨j,rfl⟩:∃k:Nat,j=k:=⟨j.toNat,ai⟩;rw[Int.toNat_natCast]at hx hu;have Q5:x<rows.length:=(List.getElem?_eq_some_iff.1 hr).1;have hxr:=(List.getElem?_eq_some_iff.1 hr).2;obtain⟨pt,ct,uv,ucs,rfl,_,otr,hut,_,aaV,ovr⟩:=aX.get qt Q5;rw[hxr]at aaV;obtain⟨q,cq,rfl,_,oq,_⟩:=aaV;have OD:j<row.length:=(List.getElem?_eq_some_iff.1 hu).1;obtain⟨m1,e1,o1,k1,n1,_⟩:=cA g [vI 0,vI 0,.string .empty,.bool false];have g1:=g.ext k1;have ob1:=ob.cf k1;obtain⟨m2,e2,o2,k2⟩:=mF (o:=0) u.cells o1 ((g.own k1 (aj _)).may _ _) (by simp[V.cells]) rfl;have tV:Kp m m2 fu:=k1.trans (k2.mono (S':=fun y=>y=m.next) fun _ _ h=>h) fun b hb e=>by omega
 have hi6:i<6:=by
  have h6:r.length<=6:=by
   have :=congrArg List.length gT;simp at this;omega
  have :=(List.getElem?_eq_some_iff.1 hx).1;omega
 have lt2:aD pt (0+x*1) m1=some (vL q 0 row.length cq,m1):=by
  refine aS (otr.cf k1) ?_;have h1:(ucs.drop (x*1)).take 1=[vL q 0 row.length cq]:=hut;have :=congrArg (·[0]?) h1;simpa using this
 have lv:eU 4 q (0+j*4) m1=some (u.val,m1):=by
  refine dX (vs:=u.cells) (oq.cf k1) ?_ ?_
  ·rw[Nat.zero_add];exact pj hu
  ·rw[fc];omega
 have lE:oh ab 49 (vP m.next 0) m2=some (u.val,m2):=by
  exact lO o2 rfl aU aU
 exact⟨m2,aY (ajt b pr o p i j x pt rows.length ct q row.length cq m.next u) (.mem e1<| .mem (aS ob1 rfl)<| .mem (aS (ot.cf k1) rfl)<| .mem (aS ob1 rfl)<| .idx rfl hi6<| .mem (aS (ajO.cf k1) (by rw[Nat.mul_one];exact adN gT hx))<| .idx rfl Q5<| .mem lt2<| .mem (aS ob1 rfl)<| .idx rfl OD<| .mem lv<| .mem (aK g1)<| .mem e2<| .mem lE .nil),tV⟩
end
end Go.AM
namespace Go.AM
set_option maxRecDepth 1000000
open Go Go.Conc Go.Proofs
section
variable {K:fZ}{m m':Mem}{B:Nat->Prop}
theorem Z5 {R:Mem->Prop}{cv:Nat->Int->Int->V}{rv sv ev:ae}(sc:Scope K R cv rv){xs:List X}{acc:List (List V)}{BO BE:Nat->Prop}(g:Gd m)(hr:R m)(ls:mz cR 1 BO BE m acc sv)(hBO:∀b,BO b->b<m.next)(HW:∀b,BE b->b<m.next)
  (hx:(aX nG 1).R B xs m ev)(eZ:∀x∈xs,YT cv x)(hl:xs.length<9000)(ha:acc.length<2^30)(hz:(mK cv xs []).2=0):
  ∃vD m' QW Ky,Ev K 111 [sv,ev,rv] m (.tuple #[vD,vI 0]) m'/\Kp m m' BO/\mz cR 1 QW Ky m' (acc++[(mK cv xs []).1]) vD/\(∀b,QW b->jD m m' b)/\(∀b,Ky b->BE b\/jD m m' b):=by
 revert hz
 obtain⟨L,hL⟩:∃L,L=mK cv xs []:=⟨_,rfl⟩;rw[<-hL];obtain⟨a,cc,hA⟩:=aX.form hx;obtain⟨q,hq⟩:∃q,q=m.next:=⟨_,rfl⟩;obtain⟨o1,k1,n1⟩:=gJ g (k:={kind:=1,sz:=4,cs:=(fh (List.replicate xs.length jw)).map some}) (cs:=fh (List.replicate xs.length jw)) rfl rfl rfl;have e1:=ajY (m:=m) (n:=xs.length) ai;generalize m.alloc {kind:=1,sz:=4,cs:=(fh (List.replicate xs.length jw)).map some}=m1 at o1 k1 n1 e1;rw[<-hq]at o1 e1;have hr0:dJ 111 0 3 [0,1,2] [sv,ev,rv] [.mem (fP ab 47 (vI (xs.length:Int)) (vI (xs.length:Int))) (vL q 0 xs.length xs.length)] .normal [0,2,8,16,17,18] [sv,rv,vL q 0 xs.length xs.length,ev,vI (xs.length:Int),vI 0]:=by rw[hA];exact af1 xs.length cc a sv rv q
 obtain⟨t0,w0,e0⟩:=aR (K:=K) (m:=m) (m':=m1) (tm:=entry [sv,ev,rv]) hr0 rfl (.mem e1 .nil);obtain⟨e,t1,m2,he,DK,k2,hp⟩:=eI (K:=K) (nt:=eY 111) (a:=bX 111 [3]) xs.length
  (Inv:=fun j tm m'=>∃vs,bu [0,2,8,16,17,18] tm=[sv,rv,vL q 0 xs.length xs.length,ev,vI (xs.length:Int),vI j]/\Kp m m' fu/\m1.next<=m'.next/\vs.length=j/\Obj m' q 4 (fh (vs++List.replicate (xs.length-j) jw))/\mK cv (xs.drop j) vs=L)
  (dm:=fun e tm m'=>Kp m m' fu/\((e= .exit 0/\m1.next<=m'.next/\bu [0,8] tm=[sv,vL q 0 xs.length xs.length]/\L.2=0/\L.1.length=xs.length/\Obj m' q 4 (fh L.1))\/(e= .ret/\L.2≠0/\bu [6,7] tm=[.slice none 0 0,vI L.2])))
  (by
   rintro j tm m2 hj ⟨vs,hg,kk,nn,hvl,oq,hf⟩;obtain⟨p,c',u,ucs,rfl,hBp,ob,hu,hle,hE,Xx⟩:=aX.get ((aX nG 1).ext hx kk fun _ _ h=>h) hj;obtain⟨x,hy⟩:∃y,xs[j]=y:=⟨_,rfl⟩;rw[hy]at hE;have hxm:x∈xs:=by rw[<-hy];exact List.getElem_mem hj
   have VC:xs.drop j=x::xs.drop (j+1):=by rw[List.drop_eq_getElem_cons hj,hy]
   obtain⟨t,bx,rfl⟩:=XR.form hE;have e2:aD p (0+j*1) m2=some (.iface t (vP bx 0),m2):=by
    rw[Nat.zero_add];refine aS ob ?_;have h1:(ucs.drop (j*1)).take 1=[.iface t (vP bx 0)]:=hu;have h2:=ahJ (i:=0) h1 ai;simpa using h2
   have g2:=g.ext kk;obtain⟨f,b',m3,hm,e3,k3⟩:=cOf (K:=K) (rv:=rv) sc.keep sc.Aq x m2 _ g2 (sc.keep _ _ hr kk) hE (eZ x hxm);have g3:=g2.ext k3;obtain⟨m4,m5,e4,e5,o5,k5,n5⟩:=ly g3 [vI 0,vI 0,.string .empty,.bool false] (DI cv x).1.cells rfl rfl;have Zf:=(kk.aZ k3).aZ k5;have g5:=g.ext Zf;have nx3:=k3.next;have nx5:=k5.next;rw[VC]at hf
   by_cases hz:(DI cv x).2=0
   ·rw[hz]at e3;have e6:eU 4 m3.next 0 m5=some ((DI cv x).1.val,m5):=dX (vs:=(DI cv x).1.cells) o5 rfl (af rfl);have akv:List.replicate (xs.length-j) jw=jw::List.replicate (xs.length-(j+1)) jw:=by
     rw[show xs.length-j=(xs.length-(j+1))+1 by omega];rfl
    rw[akv]at oq;obtain⟨m6,e7,o6,k6⟩:=mF (o:=j*4) (DI cv x).1.cells ((oq.cf k3).cf k5) ((g.own Zf ai).may _ _) (by rw[fc];simp[V.cells];omega) rfl;have nx6:=k6.next;have wC:=aiL (a:=vs) (b:=List.replicate (xs.length-(j+1)) jw) jw (DI cv x).1;rw[hvl]at wC;rw[wC]at o6;obtain⟨t2,cN,cz⟩:=aI (K:=K) (m:=m2) (m':=m6) Gz (afZ p q xs.length c' j sv rv _ (DI cv x).1 m3.next) hg (.cond (GK hj)<| .idx rfl hj<| .mem e2<| .lP hm e3<| .mem e4<| .mem e5<| .cond rfl<| .mem e6<| .idx rfl hj<| .mem (by rw[Nat.zero_add];exact e7) .nil);refine .inl ⟨t2,m6,cN,vs++[(DI cv x).1],by rw[cz,add1 ai],Zf.new k6 (N:=m.next) (aj _) fun b hb=>by omega,ai,by simp[hvl],o6,?_⟩;rw[<-hf]
    show _=(if _ then _ else _)
    rw[bW (by rw[hz];simp)]
   ·obtain⟨t2,cN,cz⟩:=aI (K:=K) (m:=m2) (m':=m5) Gz (af0 p q xs.length c' j sv rv _ (DI cv x).1 (DI cv x).2 m3.next) hg (.cond (GK hj)<| .idx rfl hj<| .mem e2<| .lP hm e3<| .mem e4<| .mem e5<| .cond (neT hz) .nil);have hf:(if(DI cv x).2≠0 then([],(DI cv x).2)else mK cv (xs.drop (j+1)) (vs++[(DI cv x).1]))=L:=hf;rw[bj hz]at hf;exact .inr ⟨_,t2,m5,g8,cN,Zf,.inr ⟨rfl,by rw[<-hf];exact hz,by rw[cz,<-hf]⟩⟩)
  (by
   rintro tm m2 ⟨vs,hg,kk,nn,hvl,oq,hf⟩;rw[hA]at hg;obtain⟨t2,cN,cz⟩:=aI (K:=K) (m:=m2) (m':=m2) Gz (afY q xs.length cc xs.length a sv rv) hg (.cond (Ed _) .nil);rw[List.drop_length]at hf;have hf:(vs,(0:Int))=L:=hf;rw[Nat.sub_self,List.replicate_zero,List.append_nil]at oq;exact⟨_,t2,m2,g8,cN,kk,.inl ⟨rfl,nn,cz,by rw[<-hf],by rw[<-hf];exact hvl,by rw[<-hf];exact oq⟩⟩)
  (tm:=t0) (m:=m1) ⟨[],e0,k1,aj _,rfl,o1,by rw[hL];rfl⟩ ai
 intro hzL;rcases hp with⟨rfl,nn,hg,hz,hll,oq⟩|⟨rfl,hz,hg⟩
 ·have g2:=g.ext k2;have n2:=k2.next;have Vv:=ls.ext k2 fun _ _ h=>h
  have hv:cR.R (fun y=>y=q) L.1 m2 (vL q 0 xs.length xs.length):=⟨q,xs.length,by rw[hll],rfl,oq,.inr hll.symm⟩;obtain⟨m3,m4,s',e3,g3,k3,e4,k4,ls4,_,n4⟩:=Vv.add (t:=29) (v:=vL q 0 xs.length xs.length) g2 rfl eS hv (fun b hb e=>by have :=hBO b hb;omega) (fun b hb=>by have :=HW b hb;omega) (fun b e=>by omega) (cR.ok hv) ha;obtain⟨t2,h2,e2⟩:=aR (K:=K) (m:=m2) (m':=m4) (afX q xs.length sv s' m2.next) hg (.mem e3<| .mem e4 .nil);refine⟨s',m4,_,_,eB agw (aA.cut w0 (aA.fw DK (aA.last h2 PV))) (.inr rfl) e2,(k2.vl.trans k4 fun _ _ h=>h),ls4,fun b h=>⟨ai,ai⟩,fun b h=>?_⟩;rcases h with h|h
  ·exact .inl h
  ·exact .inr ⟨ai,ai⟩
 ·exact absurd hzL hz
theorem af5 (sv:ae):Path 251 [sv,.nilIface]
 [zF]
 (.tuple #[sv,vI 0]):=lV
theorem cJ.Rw{α:Type}{Q:α->ae->Prop}{x:α}:∀{l:List α}{cs:List ae},cJ Q (l++[x]) cs->∃VN v,cs=VN++v.cells.toList/\cJ Q l VN/\Q x v
 | [],cs,⟨v,rest,e,q,h⟩=>by
  have h:rest=[]:=h;subst h;exact⟨[],v,by simpa using e,rfl,q⟩
 |y::l,cs,⟨v,rest,e,q,h⟩=>by
  obtain⟨VN,u,e1,h1,h2⟩:=cJ.Rw h;exact⟨v.cells.toList++VN,u,by rw[e,e1,List.append_assoc],⟨v,VN,rfl,q,h1⟩,h2⟩
theorem aia {sv:ae}:Ev K 251 [sv,.nilIface] m (.tuple #[sv,vI 0]) m:=aY (af5 sv) (.cond rfl .nil)
end
end Go.AM
namespace Go.AM
set_option maxRecDepth 1000000
open Go Go.Conc Go.Proofs
theorem ajF (k t2 t3 t4 t5 pr n cc more i q1 x l l1 b2 c2 bs g:Nat)(sv rv w rw :ae):Path 250 [sv,vI k,vP t2 0,vP t3 0,vP t4 0,vP t5 0]
 [.mem (aD t2 0) (vL pr 0 n cc),
  .mem (aD t3 0) (vI more),
  .val (ik Nat.div .i64 k more (gE ab .quo 3 false false (vI k) (vI more))) (vI q1),
  .idx q1 n q1,
  .mem (eU 6 pr (0+q1*6)) rw,
  .mem (bY ab 223 1 [(0,rw)]) (vL bs 0 1 1),
  gp,
  .mem (cZ ab #[223,223] sv (vL bs 0 1 1)) (vL b2 0 l c2),
  .mem (aD t4 0) (vI i),
  .mem (nO (vP t4 0)) (vI g),
  .mem (aD t3 0) (vI more),
  .val (ik Nat.mod .i64 k more (gE ab .rem 3 false false (vI k) (vI more))) (vI x),
  .idx (bQ l 1) l l1,
  gp,
  .val (pu ab [vI x] (convert 3 21 (vI x))) (.int .i32 x),
  .mem (fS (vI g) (vP t4 0) (jo ab 3 (vP t4 0))) undef,
  .idx i 6 i,
  gp,
  .mem (eH b2 (0+l1*6+i*1) (.int .i32 x)) undef,
  .mem (aD t5 1) w,
  .call 251 [vL b2 0 l c2,w] (.tuple #[rv,vI 0])]
 (.tuple #[rv,vI 0]):=lV
theorem ajN (k t2 pe n cc s:Nat)(sv rv ev:ae):Path 110 [sv,vI k,vP t2 0]
 [.mem (aD t2 0) (vL pe 0 n cc),
  .idx k n k,
  .mem (aD pe (0+k*1)) ev,
  mB [some (.int .i32 0),some (.int .i32 0),some (.int .i32 0),some (.int .i32 0),some (.int .i32 0),some (.int .i32 0)] s,
  .call 111 [sv,ev,vP s 0] (.tuple #[rv,vI 0])]
 (.tuple #[rv,vI 0]):=lV
theorem aiV {i:Nat}(hi:i<90000){j:Nat}(hj:0<j){d:Option ae}:ik Nat.mod .i64 i j d=some (vI (i%j:Nat)):=by
 obtain⟨j,rfl⟩:∃k,j=k+1:=⟨j-1,ai⟩;unfold ik
 show(match Nat.blt i (gv .i64)with |true=>some (ae.int .i64 (.ofNat (Nat.mod i (Nat.succ j))))|false=>d)=_
 have :Nat.blt i (gv .i64)=true:=by
  rw[show gv .i64=9223372036854775808 from rfl,j3,iB];omega
 rw[this];rfl
theorem alu {x:Nat}(h:x<90000):pu ab [vI x] (convert 3 21 (vI x))=some (.int .i32 x):=by
 have e:pu ab [vI x] (convert 3 21 (vI x))=some (.int .i32 (bU.i32.wrap x)):=aU;rw[e,show bU.i32.wrap x=x by unfold bU.wrap;simp[bU.signed,bU.bits];omega]
noncomputable def onB(Tb:Nat->Option (List (List V)))(on:Option X)(r:List Nat):Bool:=match on with
 |none=>true
 |some x=>(DI (yE Tb r) x).1.beq (aau true)
theorem mz.noE{α:Type}{E:oD α}{sz:Nat}{BO BE:Nat->Prop}{m:Mem}{acc:List α}{sv:ae}(h:mz E sz BO BE m acc sv)(hE:∀{B B':Nat->Prop} {x m v},E.R B x m v->E.R B' x m v):mz E sz BO fu m acc sv:=by
 rcases h with h|⟨b,cs,rest,e,hb,hw,ob,gT⟩
 ·exact .inl h
 ·exact .inr ⟨b,cs,rest,e,⟨hb.1,id⟩,hw,ob,gT.mono fun x u _ w=>⟨hE w.1,w.2⟩⟩
section
variable {K:fZ}{m m':Mem}{B BT:Nat->Prop}{Tb:Nat->Option (List (List V))}
theorem ah9 (g:Gd m){BO BE:Nat->Prop}{acc:List (List Nat)}{r:List Nat}{sv xv:ae}{on:Option X}(ls:mz ye 6 BO BE m (acc++[r]) sv)(vq:ju BT Tb m)(hx:iH.R B on m xv)(eZ:on=none)(ZD:acc.length<2^29):
  ∃vD m',Ev K 251 [sv,xv] m (.tuple #[vD,vI 0]) m'/\Kp m m' fu/\mz ye 6 BO BE m' (acc++if onB Tb on r=true then[r]else[]) vD:=by
 cases on with
 |none=>
  have hx:xv= .nilIface:=hx;subst hx;exact⟨sv,m,aia,.refl _ _,by unfold onB;rw[bj rfl];exact ls⟩
 |some x=>cases eZ
theorem agH {rows:List (List Nat)}{pr cc k:Nat}{Bp:Nat->Prop}(h:(aX ye 6).R Bp rows m (vL pr 0 rows.length cc))(hk:k<rows.length):eU 6 pr (0+k*6) m=some (DY rows[k],m)/\okV 6 (DY rows[k]):=by
 obtain⟨b,c,u,cs,e,_,o,hu,hl,hr,ov⟩:=aX.get h hk;cases e;have hr:u=DY rows[k]:=hr;subst hr;exact⟨dX (vs:=(DY rows[k]).cells.toList) o (by rw[Nat.zero_add];exact hu) ai,ov⟩
theorem Wc {cs:List ae}{r:List Nat}{i x:Nat}(hi:i<r.length):(cs++IA r).set (cs.length+i) (.int .i32 x)=cs++IA (r.set i x):=by
 rw[List.set_append_right _ _ ai,Nat.add_sub_cancel_left];simp[IA,List.map_set]
theorem Le {m0:Mem}{X:Nat->Prop}{rows:List (List Nat)}{more i ct cm ci cs:Nat}{on:Option AM.X}{tv xv rl:ae}{Bp:Nat->Prop}(h1:Obj m0 ct 0 [rl])(h2:Obj m0 cm 0 [vI more])(hci:Obj m0 ci 0 [vI i])(gT:Obj m0 cs 0 [tv,xv])(h3:(aX ye 6).R Bp rows m0 rl)(h4:iH.R B on m0 xv)(h5:ju BT Tb m0)
  (hX:∀b,b=ct\/b=cm\/b=ci\/b=cs\/Bp b\/B b\/BT b->¬X b/\b<m0.next)(eZ:on=none)(hn:rows.length*more<90000)(hi:i<6):
  Av KW m0 X 250 #[vP ct 0,vP cm 0,vP ci 0,vP cs 0] ye 6 (fun k=>if onB Tb on ((rows[k / more]!).set i (k%more))=true then[(rows[k / more]!).set i (k%more)]else[]) (rows.length*more):=by
 refine⟨fun i=>by split<;>simp,?_⟩;intro mw BO BE acc sv k hk g hs ls hBO HW ha;have ls:=ls.noE (fun h=>h);have old:∀b,¬X b/\b<m0.next->¬BO b:=fun b h1 h=>by
  rcases(hBO b h).1 with h|h
  ·exact h1.1 h
  ·omega
 have hm0:0<more:=by
  rcases Nat.eq_zero_or_pos more with h|h
  ·rw[h]at hk;omega
  ·exact h
 have hkr:k / more<rows.length:=Nat.div_lt_of_lt_mul (by rw[Nat.mul_comm];exact hk);obtain⟨pr,cc,_,_,rfl,_⟩:=aX.get h3 hkr;have DK:=hX ct (.inl rfl);have cN:=hX cm (.inr (.inl rfl));have hx3:=hX ci (.inr (.inr (.inl rfl)));have hx4:=hX cs (.inr (.inr (.inr (.inl rfl))));have hxp:∀b,Bp b->_:=fun b hb=>hX b (.inr (.inr (.inr (.inr (.inl hb)))))
 have hxB:∀b,B b->_:=fun b hb=>hX b (.inr (.inr (.inr (.inr (.inr (.inl hb))))))
 have hxT:∀b,BT b->_:=fun b hb=>hX b (.inr (.inr (.inr (.inr (.inr (.inr hb))))))
 have s1:=h1.og hs DK.1;have s2:=h2.og hs cN.1;have si:=hci.og hs hx3.1;have sc:=gT.og hs hx4.1;have s3:=aX.iG (sz:=6) iX.iG _ _ _ _ _ h3 (hs.mono fun b hb=>(hxp b hb).1);have s4:iH.R B on mw xv:=by
  cases on with
  |none=>exact h4
  |some x=>exact XR.iG h4 (hs.mono fun b hb=>(hxB b hb).1)
 have s5:=h5.same (hs.mono fun b hb=>(hxT b hb).1);obtain⟨l3,ov⟩:=agH s3 hkr;rw[getElem!_pos rows (k / more) hkr];generalize hr:rows[k / more]=r at*;have hrm:r∈rows:=hr▸List.getElem_mem hkr;have h6:=Wv ov;obtain⟨m2,m3,s',e2,g2,k2,e3,k3,ls3,_,n3⟩:=ls.add (t:=223) (B':=fu) (y:=r) (v:=DY r) g rfl eS rfl (fun b _ h=>h) (fun b h=>h.elim) (fun b h=>h.elim) ov ai;have ls3:=ls3.noE (fun h=>h);have g3:=g.ext k3;rcases ls3 with⟨h,_⟩|⟨b2,c3,rest,rfl,⟨rfl,_⟩,hw3,ob3,XO⟩
 ·simp at h
 obtain⟨c1,v,rfl,Qj,hv,ov'⟩:=XO.Rw;have hv:v=DY r:=hv;subst hv;have Qe:=Qj.one.1;have hvc:(DY r).cells.toList=IA r:=by simp[DY,ae.cells]
 rw[hvc]at ob3;have hlr:(IA r).length=6:=by simp[h6]
 obtain⟨m4,e4,o4,k4⟩:=jF (o:=0+acc.length*6+i*1) (.int .i32 (k%more:Nat)) ob3 (hw3.may _ _) (by simp[h6];omega) rfl;have g4:=g3.ext k4;have hmo:k%more<more:=Nat.mod_lt _ hm0;have AK:k%more<=k:=Nat.mod_le _ _;have e0:0+acc.length*6+i*1=c1.length+i:=ai;rw[e0]at o4;rw[List.set_append_left _ _ (by simp[h6];omega),Wc ai]at o4;have nl:mw.next<=mw.next+1:=ai;have k34:Kp mw m4 BO:=k3.trans k4 fun b hb e=>by omega
 have ls4:mz ye 6 (fun y=>y=mw.next+1) fu m4 (acc++[r.set i (k%more)]) (vL (mw.next+1) 0 (acc++[r]).length cH):=by
  refine .inr ⟨mw.next+1,_,rest,du,⟨rfl,id⟩,hw3.ext k4,o4,?_⟩;have :cJ (fun x u=>ye.R fu x m4 u/\okV 6 u) (acc++[r.set i (k%more)]) (c1++(DY (r.set i (k%more))).cells.toList):=cJ.snoc ⟨rfl,R6 (by simp[h6])⟩ (Qj.mono fun x u _ w=>w);simpa[DY,ae.cells]using this
 have akt:=sc.ext k34 (old _ hx4);obtain⟨vD,m5,e5,k5,ls5⟩:=ah9 (K:=KW) (on:=on) g4 ls4 (s5.ext k34 fun b hb=>old b (hxT b hb)) (iH.ext s4 k34 fun b hb=>old b (hxB b hb)) eZ ai;have fp:(m3.blk ci).bK=(m3.blk ci).bK:=rfl;have n5:=k5.next;have n4:=k4.next;have ZD:(acc++[r]).length=acc.length+1:=du;rw[ZD]at e5 ls4;have amv:=s1;refine⟨vD,m5,_,fu,aY (ajF k ct cm ci cs pr rows.length cc more i (k / more) (k%more) (acc.length+1) acc.length (mw.next+1) cH mw.next (m3.blk ci).bK sv vD xv (DY r)) (.mem (aS s1 rfl)<| .mem (aS s2 rfl)<| .val (Si ai hm0)<| .idx rfl hkr<| .mem l3<| .mem e2<| .mem (aK g2)<| .mem (by rw[<-ZD];exact e3)<| .mem (aS (si.ext k3 (old _ hx3)) rfl)<| .mem (km _ _)<| .mem (aS (s2.ext k3 (old _ cN)) rfl)<| .val (aiV ai hm0)<| .idx pv ai<| .mem (aK g3)<| .val (alu ai)<| .mem (Hv (si.ext k3 (old _ hx3)) rfl rfl)<| .idx rfl hi<| .mem (aK g3)<| .mem e4<| .mem (aS akt rfl)<| .call e5 .nil),k34.aZ k5,ls5,fun b h=> .inr ⟨ai,ai⟩,fun b h=>h.elim⟩
theorem K' {m0:Mem}{X:Nat->Prop}{rows:List (List Nat)}{rO:List AM.X}{iv rl:ae}{ct cr:Nat}{Bp:Nat->Prop}(h1:Obj m0 ct 0 [iv])(h2:Obj m0 cr 0 [rl])(h3:(aX ye 6).R Bp rows m0 rl)(h4:(aX nG 1).R B rO m0 iv)(h5:ju BT Tb m0)
  (hX:∀b,b=ct\/b=cr\/Bp b\/B b\/BT b->¬X b/\b<m0.next)(eZ:∀r∈rows,(∀x∈rO,YT (yE Tb r) x)/\(mK (yE Tb r) rO []).2=0)(hl:rO.length<9000):
  Av KW m0 X 253 #[vP ct 0,vP cr 0] cR 1 (fun k=>[(mK (yE Tb (rows[k]!)) rO []).1]) rows.length:=by
 refine⟨fun i=>by simp,?_⟩;intro mw BO BE acc sv k hk g hs ls hBO HW ha;obtain⟨pr,cc,_,_,rfl,_⟩:=aX.get h3 hk;have s1:=h1.og hs (hX _ (.inl rfl)).1;have s2:=h2.og hs (hX _ (.inr (.inl rfl))).1;have s3:=aX.iG (sz:=6) iX.iG _ _ _ _ _ h3 (hs.mono fun b hb=>(hX b (.inr (.inr (.inl hb)))).1);have s4:=aX.iG nG.iG _ _ _ _ _ h4 (hs.mono fun b hb=>(hX b (.inr (.inr (.inr (.inl hb))))).1);have s5:=h5.same (hs.mono fun b hb=>(hX b (.inr (.inr (.inr (.inr hb))))).1);obtain⟨b,c,u,cs,e,_,o,hu,hle,hr,ov⟩:=aX.get s3 hk;cases e;have hr:u=DY rows[k]:=hr;subst hr;rw[getElem!_pos rows k hk];have hrm:rows[k]∈rows:=List.getElem_mem hk;generalize rows[k]=r at*;have hsc:FJ BT Tb r pr (0+k*6) 6 mw:=⟨⟨cs,o,by rw[Nat.zero_add,hu];simp[DY,ae.cells],ai⟩,s5⟩;obtain⟨vD,m',QW,Ky,e1,k1,Oa,x1,x2⟩:=Z5 (K:=KW) R1 g hsc ls (fun b hb=>(hBO b hb).2) (fun b hb=>(HW b hb).2) s4 (eZ r hrm).1 hl ai (eZ r hrm).2;exact⟨vD,m',QW,Ky,aY (ajE k ct cr pr rows.length cc sv iv vD 0) (.mem (aS s1 rfl)<| .mem (aS s2 rfl)<| .idx rfl hk<| .mem (aK g)<| .call e1 .nil),k1,Oa,fun b h=> .inr (x1 b h),x2⟩
end
end Go.AM
namespace Go.AM
set_option maxRecDepth 1000000
open Go Go.Conc Go.Proofs
structure eX (m:Mem)(d:Nat)(SB:Nat->Prop)(rows:List (List Nat))(cs:List ae)(bo:Nat->Option Nat)(al:Option Nat)(bm:Nat->Option Nat)(am:Option Nat)(rl:ae):Prop where
 ob:Obj m d 0 cs
 len:cs.length=18
 bd:m.base<=d
 br:j4 m d 0 6 cs bo al
 bw:j4 m d 9 1 cs bm am
 all:cs[8]?=some rl
 rws:(aX ye 6).R (fun y=>al=some y) rows m rl
 sd:SB d
 sb:∀{j b},bo j=some b\/al=some b\/bm j=some b\/am=some b->SB b/\b<m.next
theorem j4.Nq{m:Mem}{d q sz:Nat}{cs:List ae}{bo:Nat->Option Nat}{al:Option Nat}(h:j4 m d q sz cs bo al){b:Nat}(hb:(∃j,bo j=some b)\/al=some b):(m.blk b).sz=sz/\b<m.next:=by
 rcases hb with⟨j,hb⟩|hb
 ·obtain⟨xs,r⟩:=h.kind hb;exact⟨r.sz,r.lt⟩
 ·obtain⟨sv,_,hr⟩:=h.all;rcases hr with⟨h1,_⟩|⟨b',_,_,h1,_,r,_⟩
  ·rw[hb]at h1;cases h1
  ·rw[hb]at h1;cases h1;exact⟨r.sz,r.lt⟩
theorem j4.keep{m m':Mem}{d q sz:Nat}{cs ys:List ae}{bo:Nat->Option Nat}{al:Option Nat}{S:Nat->Prop}(h:j4 m d q sz cs bo al)(k:Kp m m' S)(hl:ys.length=cs.length)(hy:∀x,q<=x->x<q+9->ys[x]?=cs[x]?)(hS:∀b,S b->b=d\/(m.blk b).sz≠sz\/m.next<=b):j4 m' d q sz ys bo al:=by
 have hn:∀b,(∃j,bo j=some b)\/al=some b->b≠d->¬S b:=fun b hb hd hs=>by
  obtain⟨h1,h2⟩:=h.Nq hb;rcases hS b hs with h|h|h
  ·exact hd h
  ·exact h h1
  ·omega
 refine⟨by rw[hl];exact h.len,fun j hj=>?_,h.hi,h.inj,fun hb=>by rw[k.base];exact h.ne hb,?_,fun hp=>by rw[k.base];exact h.KO hp⟩
 ·obtain⟨sv,h1,h2⟩:=h.sh j hj;exact⟨sv,by rw[hy _ ai ai];exact h1,h2.ext k.Vt fun b hb=>hn b (.inl ⟨j,hb⟩) (h.ne hb).1⟩
 ·obtain⟨sv,h1,h2⟩:=h.all;exact⟨sv,by rw[hy _ ai ai];exact h1,h2.ext k.Vt fun b hb=>hn b (.inr hb) (h.KO hb).1⟩
theorem eX.cf{m m':Mem}{d:Nat}{SB:Nat->Prop}{rows:List (List Nat)}{cs:List ae}{bo:Nat->Option Nat}{al:Option Nat}{bm:Nat->Option Nat}{am:Option Nat}{rl:ae}(h:eX m d SB rows cs bo al bm am rl)(k:Kp m m' fu):eX m' d SB rows cs bo al bm am rl:=
 ⟨h.ob.cf k,h.len,by rw[k.base];exact h.bd,h.br.keep k rfl (fun _ _ _=>rfl) fun _ h=>h.elim,h.bw.keep k rfl (fun _ _ _=>rfl) fun _ h=>h.elim,h.all,(aX ye 6).ext h.rws k fun _ _ h=>h,h.sd,fun hb=>⟨(h.sb hb).1,by have :=(h.sb hb).2;have :=k.next;omega⟩⟩
theorem agk (d i tp n cc more ct bs bi bm b7 t x g1 g2:Nat)(ra pt:Option Addr)(rv:ae):Path 200 [vP d 0,vI i,.agg #[vP tp 0,.nilIface]]
 [mB [some (vI i)] bi,
  mB [some (vP tp 0),some .nilIface] bs,
  .mem (aD d 8) (.slice ra n cc),
  .mem (aD bs 0) (vP tp 0),
  .mem (nO (vP bs 0)) (vI g1),
  .mem (aD tp 1) (.slice pt more ct),
  .mem (nO (vP tp 1)) (vI g2),
  mB [some fq] b7,
  mB [some (vI 0)] bm,
  gp,
  .mem (eH b7 0 (.slice ra n cc)) undef,
  .mem (fS (vI g1) (vP bs 0) (jo ab 147 (vP bs 0))) undef,
  .mem (fS (vI g2) (vP tp 1) (jo ab 29 (vP tp 1))) undef,
  gp,
  .mem (eH bm 0 (vI more)) undef,
  .mem (aD b7 0) (.slice ra n cc),
  .mem (aD bm 0) (vI more),
  aP (nV (kQ n more) 20000) false,
  .call 249 [vP d 0,vI (kQ n more),.func (.func 250) #[] #[vP b7 0,vP bm 0,vP bi 0,vP bs 0]] (.tuple #[rv,vI 0])]
 (vI 0):=lV
section
variable {K:fZ}{m:Mem}{B BT:Nat->Prop}{Tb:Nat->Option (List (List V))}
theorem Qt (hK:FL K)(cm:Calm m){d:Nat}{SB:Nat->Prop}{rows:List (List Nat)}{cs:List ae}{bo bm:Nat->Option Nat}{al am:Option Nat}{rl:ae}{fs n:Nat}{cap:Array ae}{st:Nat->List (List Nat)}(D:eX m d SB rows cs bo al bm am rl)
  (fp:Av KW m (fun b=>b=d\/∃k,bo k=some b) fs cap ye 6 st n)(hn:n<9000):
  ∃rv m' jf Et u9,Ev K 249 [vP d 0,vI n,.func (.func fs) #[] cap] m (.tuple #[rv,vI 0]) m'/\Kp m m' SB/\eX m' d (fun b=>SB b\/jD m m' b) (ij st n 0 []) jf Et u9 bm am rv:=by
 obtain⟨rv,m',ys,Et,u9,e,k,o,Xn,Zi,Re,nN,VH,hy8,q,_⟩:=acR agJ (t:=223) (sz:=6) rfl hK fp iX.iG (.inl rfl) (fun k b h=> .inr ⟨k,h⟩) cm D.ob D.bd D.br hn;have nk:=k.next;have kS:Kp m m' SB:=k.mono fun b _ h=>by
  rcases h with rfl|⟨i,h⟩|h
  ·exact D.sd
  ·exact(D.sb (.inl h)).1
  ·exact(D.sb (j:=0) (.inr (.inl h))).1
 have ZL:j4 m' d 9 1 ys bm am:=D.bw.keep k Xn (fun x h1 h2=>Zi x (.inr ai)) fun b h=>by
  rcases h with h|h|h
  ·exact .inl h
  ·exact .inr (.inl (by rw[(D.br.Nq (.inl h)).1];decide))
  ·exact .inr (.inl (by rw[(D.br.Nq (.inr h)).1];decide))
 obtain⟨Q0,Xu,Ov⟩:=Re.all;have hrs:rv=Q0:=by rw[show(0:Nat)+8=8 by rfl]at Xu hy8;rw[hy8]at Xu;exact Option.some.inj Xu
 subst hrs;have sbn:∀{j b},Et j=some b\/u9=some b\/bm j=some b\/am=some b->(SB b\/jD m m' b)/\b<m'.next:=fun{j b} h=>by
  rcases h with h|h|h
  ·rcases nN j b h with h'|h'
   ·exact⟨.inl (D.sb (.inl h')).1,by have :=(D.sb (.inl h')).2;omega⟩
   ·exact⟨.inr h',h'.2⟩
  ·have h':=VH b h;exact⟨.inr h',h'.2⟩
  ·have h':=D.sb (j:=j) (b:=b) (.inr (.inr h));exact⟨.inl h'.1,ai⟩
 refine⟨_,m',ys,Et,u9,e,kS,⟨o,Xn.trans D.len,by rw[k.base];exact D.bd,Re,ZL,hy8,?_,.inl D.sd,sbn⟩⟩;obtain⟨VN,q1,q2,q3⟩:=q;refine⟨VN,q1,fun b o n c e=>?_,q3.mono fun x u _ w=>w⟩;rcases Ov with⟨h1,h2⟩|⟨p,l,xs,h1,h2,_,_⟩
 ·rw[h2]at e;cases e
 ·rw[h2]at e;cases e;exact h1
noncomputable def QO(Tb:Nat->Option (List (List V)))(on:Option X)(rows:List (List Nat))(i more k:Nat):List (List Nat):=if onB Tb on ((rows[k / more]!).set i (k%more))=true then[(rows[k / more]!).set i (k%more)]else[]
theorem alS (hK:FL K)(cm:Calm m){d:Nat}{SB:Nat->Prop}{rows:List (List Nat)}{cs:List ae}{bo bm:Nat->Option Nat}{al am:Option Nat}{rl:ae}(D:eX m d SB rows cs bo al bm am rl){i tp:Nat}{on:Option X}{xv:ae}{pq:List (List V)}(hi:i<6)(htp:Tb tp=some pq)(vq:ju BT Tb m)(hx:iH.R B on m xv)
  (pY:∀b,B b\/BT b->¬SB b/\b<m.next)(eZ:on=none)(hn:rows.length*pq.length<9000):
  ∃m' jf Et u9 rl',Ev K 200 [vP d 0,vI i,.agg #[vP tp 0,xv]] m (vI 0) m'/\Kp m m' SB/\eX m' d (fun b=>SB b\/jD m m' b) (ij (QO Tb on rows i pq.length) (rows.length*pq.length) 0 []) jf Et u9 bm am rl':=by
 obtain⟨ra,rc,Xv⟩:=aX.form D.rws;subst Xv;obtain⟨XP,cl,tl,ot,qt⟩:=vq tp pq htp;obtain⟨pt,ct,htl⟩:=aX.form qt;subst htl;have hxv:xv= .nilIface:=by subst eZ;exact hx
 obtain⟨bi,hbi⟩:∃b,b=m.next:=⟨_,rfl⟩;obtain⟨m1,e1,o1,k1,n1,_⟩:=cA cm.gd [vI i];have g1:=cm.gd.ext k1;obtain⟨bs,VE⟩:∃b,b=m1.next:=⟨_,rfl⟩;obtain⟨m2,e2,o2,k2,n2,_⟩:=cA g1 [vP tp 0,xv];have g2:=g1.ext k2;have pS:=k1.aZ k2;obtain⟨b7,hb7⟩:∃b,b=m2.next:=⟨_,rfl⟩;obtain⟨m3,e3,o3,k3,n3,_⟩:=cA g2 [.slice none 0 0];have g3:=g2.ext k3;obtain⟨Rf,hbm⟩:∃b,b=m3.next:=⟨_,rfl⟩;obtain⟨m4,e4,o4,k4,n4,_⟩:=cA g3 [vI 0];have g4:=g3.ext k4;rw[<-hbi]at e1 o1;rw[<-VE]at e2 o2;rw[<-hb7]at e3 o3;rw[<-hbm]at e4 o4;obtain⟨m5,e5,o5,k5⟩:=jF (o:=0) (.slice ra rows.length rc) (o3.cf k4) (((g2.own k3 ai).ext k4).may _ _) du rfl;have g5:=g4.ext k5;obtain⟨m6,e6,o6,k6⟩:=jF (o:=0) (vI (pq.length:Int)) (o4.ext k5 ai) (((g3.own k4 ai).ext k5).may _ _) du rfl;have VD:=D.ob.lt;have Ab:Kp m m6 fu:=by
  have a:=(pS.aZ k3).aZ k4;have b:=a.trans (k5.mono (S':=fun y=>m.next<=y) fun y _ h=>by omega) (S:=fu) fun y hy h=>by omega
  exact b.trans (k6.mono (S':=fun y=>m.next<=y) fun y _ h=>by omega) fun y hy h=>by omega
 have AP:=cm.ext Ab;have n56:=k5.next;have n66:=k6.next;have o1':Obj m6 bi 0 [vI i]:=((((o1.cf k2).cf k3).cf k4).ext k5 ai).ext k6 ai;have o2':Obj m6 bs 0 [vP tp 0,xv]:=(((o2.cf k3).cf k4).ext k5 ai).ext k6 ai;have o7':Obj m6 b7 0 [.slice ra rows.length rc]:=o5.ext k6 ai;have D6:=D.cf Ab;have n06:=Ab.next;have fp:=Le (B:=B) (BT:=BT) (Tb:=Tb) (on:=on) (rows:=rows) (more:=pq.length) (i:=i) (Bp:=fun y=>al=some y) (X:=fun b=>b=d\/∃k,bo k=some b) o7' o6 o1' o2' D6.rws (iH.ext hx Ab fun _ _ h=>h) (vq.ext Ab fun _ _ h=>h) (by
  intro b hb;rcases hb with rfl|rfl|rfl|rfl|hb|hb|hb
  ·exact⟨fun h=>h.elim ai fun⟨k,h⟩=>by have :=(D.sb (.inl h)).2;omega,ai⟩
  ·exact⟨fun h=>h.elim ai fun⟨k,h⟩=>by have :=(D.sb (.inl h)).2;omega,ai⟩
  ·exact⟨fun h=>h.elim ai fun⟨k,h⟩=>by have :=(D.sb (.inl h)).2;omega,ai⟩
  ·exact⟨fun h=>h.elim ai fun⟨k,h⟩=>by have :=(D.sb (.inl h)).2;omega,ai⟩
  ·exact⟨fun h=>h.elim (D.br.KO hb).1 fun⟨k,h⟩=>(D.br.KO hb).2.2 k h,by have :=(D.sb (j:=0) (.inr (.inl hb))).2;omega⟩
  ·have :=pY b (.inl hb);exact⟨fun h=>h.elim (fun e=>this.1 (e▸D.sd)) fun⟨k,h⟩=>this.1 (D.sb (.inl h)).1,ai⟩
  ·have :=pY b (.inr hb);exact⟨fun h=>h.elim (fun e=>this.1 (e▸D.sd)) fun⟨k,h⟩=>this.1 (D.sb (.inl h)).1,ai⟩) eZ ai hi
 obtain⟨rv,m7,jf,Et,u9,e7,k7,D7⟩:=Qt hK AP D6 fp hn;have ahL:kQ (rows.length:Int) (pq.length:Int)=((rows.length*pq.length:Nat):Int):=I6 ai;have l1:aD d 8 m2=some (.slice ra rows.length rc,m2):=aS (D.ob.cf pS) D.all;have otx:Obj m2 tp 0 [cl,.slice pt pq.length ct]:=ot.cf pS;have ams:tp<m.next:=ot.lt;have o25:Obj m5 bs 0 [vP tp 0,xv]:=((o2.cf k3).cf k4).ext k5 ai;have ot5:Obj m5 tp 0 [cl,.slice pt pq.length ct]:=((otx.cf k3).cf k4).ext k5 ai;have iq:(m5.blk bs).bK=(m2.blk bs).bK:=by rw[k5.blk bs ai ai,k4.blk bs ai id,k3.blk bs ai id]
 have yB:(m5.blk tp).bK=(m2.blk tp).bK:=by rw[k5.blk tp ai ai,k4.blk tp ai id,k3.blk tp ai id]
 have fin:Kp m m7 SB:=Ab.vl.trans k7 fun _ _ h=>h
 have DD:eX m7 d (fun b=>SB b\/jD m m7 b) (ij (QO Tb on rows i pq.length) (rows.length*pq.length) 0 []) jf Et u9 bm am rv:={D7 with sd:= .inl D.sd,sb:=fun hb=>⟨(D7.sb hb).1.imp id fun h=>⟨by have :=h.1;omega,h.2⟩,(D7.sb hb).2⟩};subst hxv;exact⟨m7,jf,Et,u9,rv,aY (agk d i tp rows.length rc pq.length ct bs bi Rf b7 0 0 (m2.blk bs).bK (m2.blk tp).bK ra pt rv) (.mem e1<| .mem e2<| .mem l1<| .mem (aS o2 rfl)<| .mem (km _ _)<| .mem (aS otx rfl)<| .mem (km _ _)<| .mem e3<| .mem e4<| .mem (aK g4)<| .mem e5<| .mem (Hv o25 rfl iq)<| .mem (Hv ot5 rfl yB)<| .mem (aK g5)<| .mem e6<| .mem (aS o7' rfl)<| .mem (aS o6 rfl)<| .cond (by rw[ahL];exact dF (qP (j:=20000)))<| .call (by rw[ahL];exact e7) .nil),fin,DD⟩
end
end Go.AM
namespace Go.AM
set_option maxRecDepth 1000000
open Go Go.Conc Go.Proofs
theorem agi (d n cc il ic b1 b2:Nat)(ia ra:Option Addr)(rv:ae):Path 202 [vP d 0,.slice ia il ic]
 [mB [some (.slice ia il ic)] b1,
  .mem (aD d 8) (.slice ra n cc),
  mB [some fq] b2,
  .mem (eH b2 0 (.slice ra n cc)) undef,
  .mem (aD b2 0) (.slice ra n cc),
  gp,
  .call 109 [vP d 9,vI n,.func (.func 253) #[] #[vP b1 0,vP b2 0]] (.tuple #[rv,vI 0])]
 (.tuple #[rv,vI 0]):=lV
def vR:oD (Nat×Option X) where
 R B s m v:=∃xv,v= .agg #[vP s.1 0,xv]/\iH.R B s.2 m xv
 mono:=by
  rintro B B' x m v ⟨xv,e,h⟩ k;exact⟨xv,e,iH.mono h k⟩
 ext:=by
  rintro B S x m m' v ⟨xv,e,h⟩ k hs;exact⟨xv,e,iH.ext h k hs⟩
theorem vR.ok{B:Nat->Prop}{s:Nat×Option X}{m:Mem}{v:ae}(h:vR.R B s m v):okV 2 v/\∃xv,v= .agg #[vP s.1 0,xv]/\lj xv=true:=by
 obtain⟨p,on⟩:=s;obtain⟨xv,rfl,h⟩:=h;have :lj xv=true/\xv.oneCell'=true:=by
  cases on with
  |none=>have h:xv= .nilIface:=h;subst h;exact⟨rfl,rfl⟩
  |some x=>obtain⟨t,b,rfl⟩:=XR.form h;exact⟨rfl,by simp[ae.oneCell']⟩
 exact⟨⟨rfl,fun y hy=>by
  have hy:y=vP p 0\/y=xv:=by simpa[ae.cells]using hy
  rcases hy with rfl|rfl
  ·rfl
  ·exact this.2⟩,xv,rfl,this.1⟩
noncomputable def mh(Tb:Nat->Option (List (List V))):List (Nat×Option X)->Nat->List (List Nat)->List (List Nat)
 | [],_,rows=>rows
 |(p,on)::l,i,rows=>mh Tb l (i+1) (ij (QO Tb on rows i ((Tb p).getD []).length) (rows.length*((Tb p).getD []).length) 0 [])
def GW (Tb:Nat->Option (List (List V))):List (Nat×Option X)->Nat->List (List Nat)->Prop
 | [],_,_=>True
 |(p,on)::l,i,rows=>(∃t,Tb p=some t)/\rows.length*((Tb p).getD []).length<9000/\on=none/\GW Tb l (i+1) (ij (QO Tb on rows i ((Tb p).getD []).length) (rows.length*((Tb p).getD []).length) 0 [])
noncomputable def kL(Tb:Nat->Option (List (List V)))(wh:Option X)(rows:List (List Nat)):List (List Nat):=match wh with
 |none=>rows
 |some x=>[]
noncomputable def Ac(Tb:Nat->Option (List (List V)))(rO:List X)(rows:List (List Nat)):List (List V):=ij (fun k=>[(mK (yE Tb (rows[k]!)) rO []).1]) rows.length 0 []
def gL:List Nat:=[0,0,0,0,0,0]
section
variable {K:fZ}{m:Mem}{B BT:Nat->Prop}{Tb:Nat->Option (List (List V))}
theorem aic (hK:FL K)(cm:Calm m){d:Nat}{SB:Nat->Prop}{rows:List (List Nat)}{cs:List ae}{bo bm:Nat->Option Nat}{al am:Option Nat}{rl:ae}(D:eX m d SB rows cs bo al bm am rl){rO:List X}{iv:ae}(vq:ju BT Tb m)(hx:(aX nG 1).R B rO m iv)
  (pY:∀b,B b\/BT b->¬SB b/\b<m.next)(eZ:∀r∈rows,(∀x∈rO,YT (yE Tb r) x)/\(mK (yE Tb r) rO []).2=0)(hl:rO.length<9000)(hn:rows.length<9000):
  ∃rv m' jf Rf Rg,Ev K 202 [vP d 0,iv] m (.tuple #[rv,vI 0]) m'/\Kp m m' SB/\eX m' d (fun b=>SB b\/jD m m' b) rows jf bo al Rf Rg rl/\(aX cR 1).R (jD m m') (Ac Tb rO rows) m' rv/\(am=none->Ac Tb rO rows=[]->rv= .slice none 0 0/\Rg=none):=by
 obtain⟨ra,rc,Xv⟩:=aX.form D.rws;obtain⟨ia,ic,hiv⟩:=aX.form hx;subst hiv;obtain⟨ct,hct⟩:∃b,b=m.next:=⟨_,rfl⟩;obtain⟨m1,e1,o1,k1,n1,_⟩:=cA cm.gd [.slice ia rO.length ic];have J4:=cm.ext k1;obtain⟨cr,Ra⟩:∃b,b=m1.next:=⟨_,rfl⟩;obtain⟨m2,m3,e2,e3,o3,k3,n3⟩:=J4.gd.sd.VY (.slice none 0 0) (.slice ra rows.length rc) rfl;rw[<-hct]at e1 o1;rw[<-Ra]at e2 e3 o3;have qN:=k1.aZ k3;have w8:=cm.ext qN;have D3:=D.cf qN;have VD:=D.ob.lt;have n03:=qN.next;have fp:=K' (B:=B) (BT:=BT) (Tb:=Tb) (rows:=rows) (rO:=rO) (Bp:=fun y=>al=some y) (X:=fun b=>b=d\/∃k,bm k=some b) (o1.cf k3) o3 (by have :=D3.rws;rw[Xv]at this;exact this) ((aX nG 1).ext hx qN fun _ _ h=>h) (vq.ext qN fun _ _ h=>h) (by
  intro b hb;rcases hb with rfl|rfl|hb|hb|hb
  ·exact⟨fun h=>h.elim ai fun⟨k,h⟩=>by have :=(D.sb (j:=k) (.inr (.inr (.inl h)))).2;omega,ai⟩
  ·exact⟨fun h=>h.elim ai fun⟨k,h⟩=>by have :=(D.sb (j:=k) (.inr (.inr (.inl h)))).2;omega,ai⟩
  ·refine⟨fun h=>h.elim (D.br.KO hb).1 fun⟨k,h⟩=>?_,by have :=(D.sb (j:=0) (.inr (.inl hb))).2;omega⟩;have h1:=(D.br.Nq (.inr hb)).1;rw[(D.bw.Nq (.inl ⟨k,h⟩)).1]at h1;exact absurd h1 eS
  ·have :=pY b (.inl hb);exact⟨fun h=>h.elim (fun e=>this.1 (e▸D.sd)) fun⟨k,h⟩=>this.1 (D.sb (j:=k) (.inr (.inr (.inl h)))).1,ai⟩
  ·have :=pY b (.inr hb);exact⟨fun h=>h.elim (fun e=>this.1 (e▸D.sd)) fun⟨k,h⟩=>this.1 (D.sb (j:=k) (.inr (.inr (.inl h)))).1,ai⟩) eZ hl
 obtain⟨rv,m',ys,Rf,Rg,e,k,o,Xn,Zi,Re,nN,VH,amr,q,q4⟩:=acR TC (t:=29) (sz:=1) rfl hK fp cR.iG (.inl rfl) (fun k b h=> .inr ⟨k,h⟩) w8 D3.ob D3.bd D3.bw hn;have nk:=k.next;have kS:Kp m3 m' SB:=k.mono fun b _ h=>by
  rcases h with rfl|⟨i,h⟩|h
  ·exact D.sd
  ·exact(D.sb (j:=i) (.inr (.inr (.inl h)))).1
  ·exact(D.sb (j:=0) (.inr (.inr (.inr h)))).1
 have hn6:∀b,al=some b->¬(b=d\/(∃i,bm i=some b)\/am=some b):=fun b hb h=>by
  have h1:=(D.br.Nq (.inr hb)).1;rcases h with h|h
  ·exact(D.br.KO hb).1 h
  ·rw[(D.bw.Nq h).1]at h1;exact absurd h1 eS
 have VF:j4 m' d 0 6 ys bo al:=D3.br.keep k Xn (fun x h1 h2=>Zi x (.inl ai)) fun b h=>by
  rcases h with h|h|h
  ·exact .inl h
  ·exact .inr (.inl (by rw[(D3.bw.Nq (.inl h)).1];decide))
  ·exact .inr (.inl (by rw[(D3.bw.Nq (.inr h)).1];decide))
 refine⟨rv,m',ys,Rf,Rg,aY (agi d rows.length rc rO.length ic ct cr ia ra rv) (.mem e1<| .mem (aS (D.ob.cf k1) (by rw[D.all,Xv]))<| .mem e2<| .mem e3<| .mem (aS o3 rfl)<| .mem (aK w8.gd)<| .call e .nil),qN.vl.trans kS fun _ _ h=>h,⟨o,Xn.trans D.len,by rw[k.base,qN.base];exact D.bd,VF,Re,by rw[Zi 8 (.inl ai)];exact D.all,(aX ye 6).ext D3.rws k hn6,.inl D.sd,?_⟩,(aX cR 1).mono q fun b hb=>⟨by have :=hb.1;omega,hb.2⟩,q4⟩;intro j b h;rcases h with h|h|h|h
 ·exact⟨.inl (D.sb (.inl h)).1,by have :=(D.sb (.inl h)).2;omega⟩
 ·exact⟨.inl (D.sb (j:=0) (.inr (.inl h))).1,by have :=(D.sb (j:=0) (.inr (.inl h))).2;omega⟩
 ·rcases nN j b h with h'|h'
  ·have h':=D.sb (j:=j) (b:=b) (.inr (.inr (.inl h')));exact⟨.inl h'.1,ai⟩
  ·exact⟨.inr ⟨by have :=h'.1;omega,h'.2⟩,h'.2⟩
 ·have h':=VH b h;exact⟨.inr ⟨by have :=h'.1;omega,h'.2⟩,h'.2⟩
end
end Go.AM
namespace Go.AM
set_option maxRecDepth 1000000
open Go Go.Conc Go.Proofs
theorem afR (d sn sc q b2 b3:Nat)(sa:Option Addr)(w iv av ev:ae):dJ 149 0 3 [0,1] [.agg #[.slice sa sn sc,w,iv],vP d 0]
 [mB [some (.slice sa sn sc),some w,some iv] b2,
  .mem (aD d 8) av,
  .call 199 [av] ev,
  .mem (bY ab 223 1 [(0,(.agg #[.int .i32 0,.int .i32 0,.int .i32 0,.int .i32 0,.int .i32 0,.int .i32 0]))]) (vL b3 0 1 1),
  .mem (cZ ab #[223,223] ev (vL b3 0 1 1)) (vL q 0 1 cH),
  .mem (eH d 8 (vL q 0 1 cH)) undef,
  .mem (aD b2 0) (.slice sa sn sc)]
 .normal [1,2,24,25,26] [vP d 0,vP b2 0,.slice sa sn sc,vI sn,vI 0]:=dc
theorem afQ (d b2 ps sn sc i b7 tp:Nat)(w:ae):aT 149 [3] 0 99 [1,2,24,25,26] [vP d 0,vP b2 0,vL ps 0 sn sc,vI sn,vI i]
 [aP (cO i sn) true,
  .idx i sn i,
  .mem (eU 2 ps (0+i*2)) (.agg #[vP tp 0,w]),
  mB [some (.pointer none),some .nilIface] b7,
  uE b7 0 [vP tp 0,w],
  uF 2 b7 (.agg #[vP tp 0,w]),
  .call 200 [vP d 0,vI i,.agg #[vP tp 0,w]] (vI 0),
  dx]
 .normal [1,2,24,25,26] [vP d 0,vP b2 0,vL ps 0 sn sc,vI sn,vI (bL i 1)]:=dc
section
variable {K:fZ}{m:Mem}{B BT:Nat->Prop}{Tb:Nat->Option (List (List V))}
theorem Qs (cm:Calm m){d:Nat}{SB:Nat->Prop}{rows:List (List Nat)}{cs:List ae}{bo bm:Nat->Option Nat}{al am:Option Nat}{rl:ae}(D:eX m d SB rows cs bo al bm am rl):
  ∃Q1 m1 m2 m3 m4 q,Ev K 199 [rl] m Q1 m1/\bY ab 223 1 [(0,DY gL)] m1=some (vL m1.next 0 1 1,m2)/\cZ ab #[223,223] Q1 (vL m1.next 0 1 1) m2=some (vL q 0 1 cH,m3)/\eH d 8 (vL q 0 1 cH) m3=some (undef,m4)/\Kp m m4 SB/\
   eX m4 d (fun b=>SB b\/jD m m4 b) [gL] (cs.set 8 (vL q 0 1 cH)) bo (some q) bm am (vL q 0 1 cH):=by
 obtain⟨Q0,h8,hr⟩:=D.br.all;have e8:Q0=rl:=by rw[show(0:Nat)+8=8 by rfl,D.all]at h8;exact(Option.some.inj h8).symm
 subst e8;have VD:=D.ob.lt;obtain⟨Q1,m1,e1,k1,Oa⟩:=acS (K:=K) agJ (t:=223) (sz:=6) rfl (E:=ye) hr (fun b hb=>cm.own (D.br.KO hb).2.1);have n1:=k1.next;have J4:=cm.ext k1;obtain⟨m2,m3,s',e2,g2,k2,e3,k3,_,⟨_,c3,rfl,ob3,XO⟩,n3⟩:=Oa.add (t:=223) (B':=fu) (y:=gL) (v:=DY gL) J4.gd rfl eS rfl (fun b _ h=>h) (fun b h=>h.elim) (fun b h=>h.elim) (R6 rfl) eS;have Us:¬al=some d:=fun e=>(D.br.KO e).1 rfl
 have KC:Kp m m3 (fun y=>al=some y):=k1.trans k3 fun _ _ h=>h
 have o3:=D.ob.ext KC Us;have w8:=cm.ext KC;have n13:=KC.next;obtain⟨m4,e4,o4,k4⟩:=jF (o:=8) (vL (m1.next+1) 0 1 cH) o3 ((w8.own (by rw[KC.base];exact D.bd)).may _ _) (by rw[D.len];omega) rfl;have n4:=k4.next;have E7:Kp m m4 (fun y=>y=d\/al=some y):=(KC.mono fun _ _ h=> .inr h).trans k4 fun _ _ h=> .inl h
 have kS:Kp m m4 SB:=E7.mono fun b _ h=>h.elim (fun e=>e▸D.sd) fun e=>(D.sb (j:=0) (.inr (.inl e))).1
 have hlen:(cs.set 8 (vL (m1.next+1) 0 1 cH)).length=cs.length:=du;have wC:∀x,x≠8->(cs.set 8 (vL (m1.next+1) 0 1 cH))[x]?=cs[x]?:=fun x hx=>List.getElem?_set_ne (fun e=>hx e.symm)
 have hs8:(cs.set 8 (vL (m1.next+1) 0 1 cH))[8]?=some (vL (m1.next+1) 0 1 cH):=List.getElem?_set_self (by rw[D.len];omega);have hqd:¬m1.next+1=d:=ai;have ob4:Obj m4 (m1.next+1) 6 c3:=ob3.ext k4 hqd;have hl3:=XO.one.1;have sS:m.base<=m.next:=by have :=cm.gd.bf;have :=cm.gd.fn;omega
 have JF:∀j b,bo j=some b->b<m.next:=fun j b h=>D.br.lt h
 refine⟨Q1,m1,m2,m3,m4,m1.next+1,e1,e2,e3,e4,kS,⟨o4,by rw[hlen];exact D.len,by rw[E7.base];exact D.bd,⟨by rw[hlen];exact D.br.len,fun j hj=>?_,D.br.hi,D.br.inj,fun h=>by rw[E7.base];exact D.br.ne h,⟨_,hs8,.inr ⟨m1.next+1,1,_,rfl,rfl,ob4.ro,by simp[hl3]⟩⟩,fun{p} h=>?_⟩,?_,hs8,?_,.inl D.sd,fun{j b} h=>?_⟩⟩
 ·obtain⟨sv,h1,h2⟩:=D.br.sh j hj;exact⟨sv,by rw[wC _ ai];exact h1,h2.ext E7.Vt fun b e h=>h.elim (D.br.ne e).1 fun h=>(D.br.KO h).2.2 j e⟩
 ·cases h;exact⟨hqd,by rw[E7.base];omega,fun j h=>by have :=JF j _ h;omega⟩
 ·refine D.bw.keep E7 hlen (fun x h1 h2=>wC x ai) fun b h=>?_
  rcases h with h|h
  ·exact .inl h
  ·exact .inr (.inl (by rw[(D.br.Nq (.inr h)).1];decide))
 ·exact⟨c3,ob4.sl hl3 (.inl rfl),fun b o n c e=>(by cases e;rfl),XO.mono fun x u _ w=>w⟩
 ·rcases h with h|h|h
  ·exact⟨.inl (D.sb (.inl h)).1,by have :=JF j b h;omega⟩
  ·cases h;exact⟨.inr ⟨ai,by have :=ob4.lt;omega⟩,ob4.lt⟩
  ·have :=D.sb (j:=j) (b:=b) (.inr (.inr h));exact⟨.inl this.1,ai⟩
theorem eX.mono{d:Nat}{SB SB':Nat->Prop}{rows:List (List Nat)}{cs:List ae}{bo bm:Nat->Option Nat}{al am:Option Nat}{rl:ae}(D:eX m d SB rows cs bo al bm am rl)(h:∀b,SB b->SB' b):eX m d SB' rows cs bo al bm am rl:={D with sd:=h _ D.sd,sb:=fun hb=>⟨h _ (D.sb hb).1,(D.sb hb).2⟩}
theorem Z3 (hK:FL K)(cm:Calm m){d:Nat}{SB:Nat->Prop}{jZ:List (List Nat)}{cs:List ae}{bo bm:Nat->Option Nat}{al am:Option Nat}{rl:ae}(D:eX m d SB jZ cs bo al bm am rl){mG:List (Nat×Option X)}{wh:Option X}{rO:List X}{sv wv iv:ae}
  (hs:(aX vR 2).R B mG m sv)(hw:iH.R B wh m wv)(hi:(aX nG 1).R B rO m iv)(vq:ju BT Tb m)(pY:∀b,B b\/BT b->¬SB b/\b<m.next)(wY:mG.length<=6)(hj:GW Tb mG 0 [gL])
  (hwl:(mh Tb mG 0 [gL]).length<9000)(hwo:wh=none)(XB:(kL Tb wh (mh Tb mG 0 [gL])).length<=1000)(eZ:∀r∈kL Tb wh (mh Tb mG 0 [gL]),(∀x∈rO,YT (yE Tb r) x)/\(mK (yE Tb r) rO []).2=0)(hl:rO.length<9000):
  ∃rv m' NB jf Et u9 Rf Rg rl',Ev K 149 [.agg #[sv,wv,iv],vP d 0] m (.tuple #[rv,vI 0]) m'/\Kp m m' SB/\eX m' d (fun b=>SB b\/jD m m' b) NB jf Et u9 Rf Rg rl'/\(aX cR 1).R (jD m m') (Ac Tb rO (kL Tb wh (mh Tb mG 0 [gL]))) m' rv/\(am=none->Ac Tb rO (kL Tb wh (mh Tb mG 0 [gL]))=[]->rv= .slice none 0 0/\Rg=none):=by
 obtain⟨R,hR⟩:∃R,R=mh Tb mG 0 [gL]:=⟨_,rfl⟩;rw[<-hR]at hwl XB eZ⊢;have VD:=D.ob.lt;have D0:eX m d (fun b=>SB b/\b<m.next) jZ cs bo al bm am rl:={D with sd:=⟨D.sd,VD⟩,sb:=fun hb=>⟨D.sb hb,(D.sb hb).2⟩};obtain⟨SX,hSX⟩:∃SX:Nat->Prop,SX=fun b=>SB b/\b<m.next:=⟨_,rfl⟩
 rw[<-hSX]at D0;have OJ:∀b,SX b->SB b/\b<m.next:=fun b h=>by rw[hSX]at h;exact h
 obtain⟨b2,nU⟩:∃b,b=m.next:=⟨_,rfl⟩;obtain⟨m1,e1,o1,k1,n1,_⟩:=cA cm.gd [sv,wv,iv];rw[<-nU]at e1 o1;have J4:=cm.ext k1;obtain⟨Q1,m2,m3,m4,m5,q,x1,x2,x3,x4,k5,D5⟩:=Qs (K:=K) J4 (D0.cf k1);have n5:=k5.next;obtain⟨sa,sc,xT⟩:=aX.form hs;have x8:∀{m'},Kp m1 m' SX->(aX vR 2).R B mG m' sv/\iH.R B wh m' wv/\(aX nG 1).R B rO m' iv/\ju BT Tb m'/\Obj m' b2 0 [sv,wv,iv]:=fun k=>by
  have hk:Kp m _ SB:=k1.vl.trans k fun b _ h=>(OJ b h).1
  exact⟨(aX vR 2).ext hs hk fun b hb=>(pY b (.inl hb)).1,iH.ext hw hk fun b hb=>(pY b (.inl hb)).1,(aX nG 1).ext hi hk fun b hb=>(pY b (.inl hb)).1,vq.ext hk fun b hb=>(pY b (.inr hb)).1,o1.ext k fun h=>by have :=(OJ _ h).2;omega⟩
 have ZF:∀{M M':Mem},m1.next<=M'.next->∀b,B b\/BT b->¬(SX b\/jD m1 M b)/\b<M'.next:=fun hM b hb=>by
  have :=pY b hb;exact⟨fun h=>h.elim (fun h=>this.1 (OJ b h).1) fun h=>by have :=h.1;omega,ai⟩
 obtain⟨t0,w0,e0⟩:=aR (K:=K) (m:=m) (m':=m5) (tm:=entry [.agg #[sv,wv,iv],vP d 0]) (by rw[xT];exact afR d mG.length sc q b2 m2.next sa wv iv rl Q1) rfl (.mem (by rw[<-xT];exact e1)<| .mem (aS (D.ob.cf k1) D.all)<| .call x1<| .mem x2<| .mem x3<| .mem x4<| .mem (by rw[<-xT];exact aS (x8 k5).2.2.2.2 rfl) .nil);rw[<-xT]at e0;obtain⟨e,t1,M,he,hx,rfl,hg,kM,jf,Et,u9,rl',DM⟩:=eI (K:=K) (nt:=eY 149) (a:=bX 149 [3]) mG.length
  (Inv:=fun j tm M=>bu [1,2,24,25,26] tm=[vP d 0,vP b2 0,sv,vI (mG.length:Int),vI j]/\Kp m1 M SX/\∃rows cs bo al rl,eX M d (fun b=>SX b\/jD m1 M b) rows cs bo al bm am rl/\mh Tb (mG.drop j) j rows=R/\GW Tb (mG.drop j) j rows)
  (dm:=fun e tm M=>e= .exit 0/\bu [1,2] tm=[vP d 0,vP b2 0]/\Kp m1 M SX/\∃cs bo al rl,eX M d (fun b=>SX b\/jD m1 M b) R cs bo al bm am rl)
  (by
   rintro j tm M OD ⟨hg,kk,rows,cs,bo,al,rl,DM,VI,sQ⟩
   left
   obtain⟨f1,f2,f3,f4,f5⟩:=x8 kk;obtain⟨ps,pc,u,ucs,agX,_,ob,hu,hle,hE,Xx⟩:=aX.get f1 OD;obtain⟨⟨p,on⟩,hp⟩:∃y,mG[j]=y:=⟨_,rfl⟩;rw[hp]at hE;have VC:mG.drop j=(p,on)::mG.drop (j+1):=by rw[List.drop_eq_getElem_cons OD,hp]
   rw[VC]at VI sQ;obtain⟨xv,rfl,On⟩:=hE;obtain⟨⟨pq,htp⟩,XG,hjc,j6⟩:=sQ;simp only[htp,Option.getD_some]at XG hjc j6;have VI:mh Tb (mG.drop (j+1)) (j+1) (ij (QO Tb on rows j ((Tb p).getD []).length) (rows.length*((Tb p).getD []).length) 0 [])=R:=VI;simp only[htp,Option.getD_some]at VI;have US:=J4.ext kk;have nk:=kk.next;have lY:=(vR.ok (s:=(p,on)) ⟨xv,rfl,On⟩).1.2;obtain⟨M1,M2,a1,a2,a3,ka,na⟩:=ly US.gd [.pointer none,.nilIface] [vP p 0,xv] rfl (by
    rw[aB];intro y hy;exact lY y (by simpa[ae.cells]using hy))
   have alw:=US.ext ka;have D2:=DM.cf ka;obtain⟨M3,cs3,bo3,al3,rl3,a4,k3,D3⟩:=alS (K:=K) (B:=B) (BT:=BT) (Tb:=Tb) (i:=j) (tp:=p) (on:=on) hK alw D2 ai htp (f4.ext ka fun _ _ h=>h) (iH.ext On ka fun _ _ h=>h) (ZF ai) hjc XG;have l1:eU 2 ps (0+j*2) M=some (.agg #[vP p 0,xv],M):=dX (vs:=[vP p 0,xv]) ob (by rw[Nat.zero_add];simpa[ae.cells]using hu) ai;have l2:eU 2 M.next 0 M2=some (.agg #[vP p 0,xv],M2):=dX (vs:=[vP p 0,xv]) a3 rfl (af rfl);rw[agX]at hg;obtain⟨t2,cN,cz⟩:=aI (K:=K) (m:=M) (m':=M3) NY (afQ d b2 ps mG.length pc j M.next p xv) hg (.cond (GK OD)<| .idx rfl OD<| .mem l1<| .mem a1<| .mem a2<| .mem l2<| .call a4<| .cond rfl .nil);have n3:=k3.next;refine⟨t2,M3,cN,by rw[cz,add1 ai,<-agX],(kk.aZ ka).trans k3 fun b hb h=>h.elim id fun h=>by have :=h.1;omega,_,cs3,bo3,al3,rl3,D3.mono fun b h=>?_,VI,j6⟩;rcases h with(h|h)|h
   ·exact .inl h
   ·exact .inr ⟨h.1,by have :=h.2;omega⟩
   ·exact .inr ⟨by have :=h.1;omega,h.2⟩)
  (by
   rintro tm M ⟨hg,kk,rows,cs,bo,al,rl,DM,VI,sQ⟩;rw[List.drop_length]at VI;have VI:rows=R:=VI;rw[xT]at hg;obtain⟨t2,cN,cz⟩:=aI (K:=K) (m:=M) (m':=M) NY (afP d b2 mG.length sc mG.length sa) hg (.cond (Ed _) .nil);exact⟨_,t2,M,g8,cN,rfl,cz,kk,cs,bo,al,rl,VI▸DM⟩)
  (tm:=t0) (m:=m5) ⟨e0,k5,_,_,_,_,_,D5,hR.symm,hj⟩ ai
 have nM:=kM.next;have US:=J4.ext kM;obtain⟨f1,f2,f3,f4,f5⟩:=x8 kM;have abT:∃M2 cs bo al rl,Ev K 201 [vP d 0,wv] M (vI 0) M2/\Kp M M2 (fun b=>SX b\/jD m1 M b)/\eX M2 d (fun b=>SX b\/jD m1 M2 b) (kL Tb wh R) cs bo al bm am rl:=by
  cases wh with
  |none=>
   have f2:wv= .nilIface:=f2;subst f2;obtain⟨M2,a1,a2⟩:=aid (K:=K) (d:=d) US.gd;have :=a2.next;exact⟨M2,_,_,_,_,a1,a2.vl,(DM.cf a2).mono fun b h=>h.imp id fun h=>⟨h.1,by have :=h.2;omega⟩⟩
  |some x=>cases hwo
 obtain⟨M2,ZZ,bo2,al2,rl2,a1,k2,D2⟩:=abT;have tV:Kp m1 M2 SX:=kM.trans k2 fun b hb h=>h.elim id fun h=>by have :=h.1;omega
 have OW:=J4.ext tV;obtain⟨g1,g2,g3,g4,g5⟩:=x8 tV;have n12:=tV.next;obtain⟨rv,M3,cs3,bm3,am3,a3,k3,D3,q3,q4⟩:=aic (K:=K) (B:=B) (BT:=BT) (Tb:=Tb) hK OW D2 g4 g3 (ZF ai) eZ hl ai;obtain⟨ra,rc,Xv⟩:=aX.form D2.rws;have n3:=k3.next;obtain⟨t2,h2,e2⟩:=aR (K:=K) (m:=M) (m':=M3) (afO d b2 (kL Tb wh R).length rc ra wv iv rv 0) hg (.mem (aS f5 rfl)<| .call a1<| .cond rfl<| .mem (aS D2.ob (by rw[D2.all,Xv]))<| .cond (dF (qP (j:=1000)))<| .mem (aS g5 rfl)<| .call a3 .nil);refine⟨rv,M3,_,cs3,bo2,al2,bm3,am3,rl2,eB agu (aA.cut w0 (aA.fw hx (aA.last h2 PT))) (.inr rfl) e2,?_,D3.mono fun b h=>?_,(aX cR 1).mono q3 fun b hb=>⟨by have :=hb.1;omega,hb.2⟩,q4⟩
 ·exact k1.vl.trans (tV.trans k3 fun b hb h=>h.elim id fun h=>by have :=h.1;omega) fun b _ h=>(OJ b h).1
 ·rcases h with(h|h)|h
  ·exact .inl (OJ b h).1
  ·exact .inr ⟨by have :=h.1;omega,by have :=h.2;omega⟩
  ·exact .inr ⟨by have :=h.1;omega,h.2⟩
end
end Go.AM
namespace Go.AM
set_option maxRecDepth 1000000
open Go Go.Conc Go.Proofs
noncomputable def py(l:List (List V)):List (List V):=l.mergeSort fun x y=>decide (bP x y<=0)
theorem Qz {x y z:List V}(h1:bP x y<=0)(h2:bP y z<=0):bP x z<=0:=by
 rcases Int.lt_or_eq_of_le h1 with a|a
 ·rcases Int.lt_or_eq_of_le h2 with b|b
  ·exact Int.le_of_lt (jV.trans a b)
  ·rw[<-gn.1 b];exact h1
 ·rw[gn.1 a];exact h2
theorem lz (l:List (List V)):(py l).Perm l/\(py l).Pairwise fun x y=>bP x y<=0:=by
 refine⟨List.mergeSort_perm _ _,?_⟩;have :=List.pairwise_mergeSort (le:=fun x y=>decide (bP x y<=0)) (by simpa using fun a b c h1 h2=>Qz h1 h2) (by
  intro a b;rw[Bool.or_eq_true,iB,iB];rcases Int.lt_or_le 0 (bP a b)with h|h
  ·exact .inr (Int.le_of_lt (jV.At h))
  ·exact .inl h) l
 exact this.imp fun h=>by simpa using h
noncomputable def rj(l:List (List V)):List (List V):=sT id (py l) l.length
theorem xG (l:List (List V)):(rj l).Pairwise (fun x y=>bP x y<0)/\∀x,x∈rj l↔x∈l:=by
 obtain⟨h1,h2⟩:=lz l;obtain⟨q1,q2,_⟩:=uY h2 l.length (by rw[h1.length_eq];exact aj _);refine⟨q1,fun x=>?_⟩;unfold rj;rw[q2,List.take_of_length_le (by rw[h1.length_eq];exact aj _),h1.mem_iff]
abbrev AS:=List (Nat×Option X)×Option X×List X
noncomputable def iL(Tb:Nat->Option (List (List V)))(s:AS):List (List V):=Ac Tb s.2.2 (kL Tb s.2.1 (mh Tb s.1 0 [gL]))
structure Aw (Tb:Nat->Option (List (List V)))(s:AS):Prop where
 src:s.1.length<=6
 join:GW Tb s.1 0 [gL]
 jl:(mh Tb s.1 0 [gL]).length<9000
 wh:s.2.1=none
 max:(kL Tb s.2.1 (mh Tb s.1 0 [gL])).length<=1000
 rO:∀r∈kL Tb s.2.1 (mh Tb s.1 0 [gL]),(∀x∈s.2.2,YT (yE Tb r) x)/\(mK (yE Tb r) s.2.2 []).2=0
 il:s.2.2.length<9000
def vQ:oD AS where
 R B s m v:=∃sv wv iv,v= .agg #[sv,wv,iv]/\(aX vR 2).R B s.1 m sv/\iH.R B s.2.1 m wv/\(aX nG 1).R B s.2.2 m iv
 mono:=by
  rintro B B' x m v ⟨sv,wv,iv,e,h1,h2,h3⟩ k;exact⟨sv,wv,iv,e,(aX vR 2).mono h1 k,iH.mono h2 k,(aX nG 1).mono h3 k⟩
 ext:=by
  rintro B S x m m' v ⟨sv,wv,iv,e,h1,h2,h3⟩ k hs;exact⟨sv,wv,iv,e,(aX vR 2).ext h1 k hs,iH.ext h2 k hs,(aX nG 1).ext h3 k hs⟩
section
variable {α:Type}{E:oD α}{sz t n len b:Nat}{m0 m m1:Mem}{acc ys:List α}{sv v x:ae}{S BO BE QW B':Nat->Prop}
theorem mz.cat(h:mz E sz BO BE m acc sv)(g:Gd m)(ht:sI.contains (t,sz)=true)(q:(aX E sz).R B' ys m v)(hd:∀b,BO b->¬B' b)(HW:∀b,BE b->b<m.next)(Re:∀b,B' b->b<m.next)(hl:acc.length+ys.length<2^30):
  ∃s' m',cZ ab #[t,t] sv v m=some (s',m')/\Kp m m' BO/\mz E sz (fun y=>y=m.next) (fun y=>BE y\/B' y) m' (acc++ys) s'/\(aX E sz).R (fun y=>y=m.next\/BE y\/B' y) (acc++ys) m' s':=by
 obtain⟨ZZ,h1,h2,h3⟩:=q;have oN:¬(BE m.next\/B' m.next):=fun h=>by
  rcases h with h|h
  ·have :=HW _ h;omega
  ·have :=Re _ h;omega
 rcases h with⟨rfl,rfl⟩|⟨b,cs,rest,rfl,hb,hw,ob,gT⟩
 ·by_cases hy:ys.length=0
  ·obtain rfl:=List.length_eq_zero_iff.1 hy;have hc0:ZZ=[]:=h3;subst hc0;exact⟨_,m,Km ht (kZ h1) h1.Mb,.refl _ _,.inl ⟨rfl,rfl⟩,aX.nil⟩
  ·obtain⟨m',e,o,k,n⟩:=Kn g ht (kZ h1) h1.Mb h1.1 h3.one.2 hy ai;have hc:cJ (fun x u=>E.R (fun y=>BE y\/B' y) x m' u/\okV sz u) ys ZZ:=h3.mono fun x u _ w=>⟨E.mono (E.ext w.1 k fun _ _ h=>h) fun y hy=> .inr hy,w.2⟩
   exact⟨_,m',e,k.vl,.inr ⟨m.next,ZZ,[],du,⟨rfl,oN⟩,g.own k (aj _),by rw[List.append_nil];exact o,hc⟩,ZZ,o.sl hc.one.1 (.inl rfl),fun b' o' n' c' e=>(by cases e;exact .inl rfl),hc.mono fun x u _ w=>⟨E.mono w.1 fun y hy=> .inr hy,w.2⟩⟩
 ·obtain⟨m',e,o,k,n⟩:=Dt (len:=acc.length) g ht ob gT.one.1 hw (kZ h1) h1.Mb h1.1 h3.one.2 ai;have hc:cJ (fun x u=>E.R (fun y=>BE y\/B' y) x m' u/\okV sz u) (acc++ys) (cs++ZZ):=cJ.append (gT.mono fun x u _ w=>⟨E.mono (E.ext w.1 k fun y hy e=>hb.2 (e▸hy)) fun y hy=> .inl hy,w.2⟩)
   (h3.mono fun x u _ w=>⟨E.mono (E.ext w.1 k fun y hy e=>hd b hb.1 (e▸hy)) fun y hy=> .inr hy,w.2⟩)
  exact⟨_,m',e,k.mono fun y _ e=>by rw[e];exact hb.1,.inr ⟨m.next,cs++ZZ,[],du,⟨rfl,oN⟩,g.own k (aj _),by rw[List.append_nil];exact o,hc⟩,cs++ZZ,by rw[<-List.length_append]at*;exact o.sl hc.one.1 (.inl rfl),fun b' o' n' c' e=>(by cases e;exact .inl rfl),hc.mono fun x u _ w=>⟨E.mono w.1 fun y hy=> .inr hy,w.2⟩⟩
end
theorem agn:Path 150 [fq]
 [zF]
 fq:=lV
section
variable {K:fZ}{m:Mem}
theorem aie (g:Gd m){B:Nat->Prop}{l:List (List V)}{v:ae}(q:(aX cR 1).R B l m v)(h0:l=[]->v= .slice none 0 0)(hB:∀b,B b->b<m.next)(hl:l.length<=2^30):
  ∃sv m',Ev K 150 [v] m sv m'/\Kp m m' fu/\mz cR 1 (jD m m') B m' l sv:=by
 by_cases hn:l=[]
 ·subst hn;rw[h0 rfl];exact⟨_,m,aY agn (.cond rfl .nil),.refl _ _,.inl ⟨rfl,rfl⟩⟩
 ·obtain⟨jf,h1,h2,h3⟩:=q;obtain⟨_,⟨e,ec⟩|⟨p,cc,rfl,ob,hc⟩⟩:=id h1
  ·have :=h3.one.1;rw[ec]at this;exact absurd (List.length_eq_zero_iff.1 (by simp at this;omega)) hn
  obtain⟨o1,k1,n1⟩:=gJ g (k:={kind:=1,sz:=1,cs:=[]}) (cs:=[]) (sz:=1) rfl rfl rfl;have e1:=acZ (m:=m);generalize m.alloc {kind:=1,sz:=1,cs:=[]}=m1 at o1 k1 n1 e1;have hp:l.length≠0:=fun h=>hn (List.length_eq_zero_iff.1 h)
  obtain⟨m2,e2,o2,k2,n2⟩:=Ko (len:=0) (g.ext k1) (t:=29) rfl o1 rfl hp (h1.cf k1) h3.one.2 ai;rw[Nat.zero_add]at e2;refine⟨_,m2,aY (ajL p l.length cc _ m.next) (.cond rfl<| .mem e1<| .mem e2 .nil),k1.aZ k2,.inr ⟨m1.next,jf,[],rfl,⟨⟨ai,ai⟩,fun h=>by have :=hB _ h;omega⟩,(g.ext k1).own k2 (aj _),by simpa using o2,?_⟩⟩;exact h3.mono fun x u _ w=>⟨cR.ext w.1 (k1.aZ k2) fun _ _ h=>h,w.2⟩
end
def C5 (d:Nat)(bo bm:Nat->Option Nat)(al am:Option Nat)(b:Nat):Prop:=b=d\/(∃j,bo j=some b)\/al=some b\/(∃j,bm j=some b)\/am=some b
theorem eX.exact{m:Mem}{d:Nat}{SB:Nat->Prop}{rows:List (List Nat)}{cs:List ae}{bo bm:Nat->Option Nat}{al am:Option Nat}{rl:ae}(D:eX m d SB rows cs bo al bm am rl):
  eX m d (C5 d bo bm al am) rows cs bo al bm am rl/\(∀b,C5 d bo bm al am b->SB b/\b<m.next/\((m.blk b).sz=0\/(m.blk b).sz=6\/(m.blk b).sz=1)):=by
 refine⟨{D with sd:= .inl rfl,sb:=fun{j b} h=>⟨?_,(D.sb h).2⟩},fun b h=>?_⟩
 ·rcases h with h|h|h|h
  ·exact .inr (.inl ⟨j,h⟩)
  ·exact .inr (.inr (.inl h))
  ·exact .inr (.inr (.inr (.inl ⟨j,h⟩)))
  ·exact .inr (.inr (.inr (.inr h)))
 ·rcases h with rfl|⟨j,h⟩|h|⟨j,h⟩|h
  ·exact⟨D.sd,D.ob.lt,.inl D.ob.sz⟩
  ·exact⟨(D.sb (.inl h)).1,(D.sb (.inl h)).2,.inr (.inl (D.br.Nq (.inl ⟨j,h⟩)).1)⟩
  ·exact⟨(D.sb (j:=0) (.inr (.inl h))).1,(D.sb (j:=0) (.inr (.inl h))).2,.inr (.inl (D.br.Nq (.inr h)).1)⟩
  ·exact⟨(D.sb (.inr (.inr (.inl h)))).1,(D.sb (.inr (.inr (.inl h)))).2,.inr (.inr (D.bw.Nq (.inl ⟨j,h⟩)).1)⟩
  ·exact⟨(D.sb (j:=0) (.inr (.inr (.inr h)))).1,(D.sb (j:=0) (.inr (.inr (.inr h)))).2,.inr (.inr (D.bw.Nq (.inr h)).1)⟩
theorem cR.sz4{B:Nat->Prop}{x:List V}{m:Mem}{v:ae}(h:cR.R B x m v):cR.R (fun b=>B b/\(m.blk b).sz=4) x m v:=by
 obtain⟨b,c,e,hb,o,hc⟩:=h;exact⟨b,c,e,⟨hb,o.sz⟩,o,hc⟩
end Go.AM
namespace Go.AM
set_option maxRecDepth 1000000
open Go Go.Conc Go.Proofs
theorem afU (d un uc:Nat)(ua:Option Addr)(a w b rv sv:ae)(gD:Nat):dJ 115 0 6 [0,1] [.agg #[a,w,b,.slice ua un uc],vP d 0]
 [mB [some a,some w,some b,some (.slice ua un uc)] gD,
  uF 3 gD (.agg #[a,w,b]),
  .call 149 [.agg #[a,w,b],vP d 0] (.tuple #[rv,vI 0]),
  dx,
  .call 150 [rv] sv,
  .mem (aD gD 3) (.slice ua un uc)]
 .normal [1,8,26,27,28] [vP d 0,sv,.slice ua un uc,vI un,vI 0]:=dc
theorem afW (d sn sc up un uc i eG rn rc:Nat)(sa ra:Option Addr)(al:Bool)(a w b rv:ae):aT 115 [6] 0 99 [1,8,26,27,28] [vP d 0,.slice sa sn sc,vL up 0 un uc,vI un,vI i]
 [aP (cO i un) true,
  .idx i un i,
  .mem (eU 4 up (0+i*4)) (.agg #[.bool al,a,w,b]),
  mB [some (.bool false),some fq,some .nilIface,some fq] eG,
  uE eG 0 [.bool al,a,w,b],
  .mem (eU 3 eG 1) (.agg #[a,w,b]),
  .call 149 [.agg #[a,w,b],vP d 0] (.tuple #[rv,vI 0]),
  dx,
  .mem (cZ ab #[29,29] (.slice sa sn sc) rv) (.slice ra rn rc),
  .mem (aD eG 0) (.bool al),
  aP (!al) false,
  aP (nV rn 1000) false]
 .normal [1,8,26,27,28] [vP d 0,.slice ra rn rc,vL up 0 un uc,vI un,vI (bL i 1)]:=dc
theorem afV (d sn sc up un uc i eG rn rc:Nat)(sa ra:Option Addr)(al:Bool)(a w b rv:ae)(qn qc:Nat)(qa:Option Addr):aT 115 [6] 0 99 [1,8,26,27,28] [vP d 0,.slice sa sn sc,vL up 0 un uc,vI un,vI i]
 [aP (cO i un) true,
  .idx i un i,
  .mem (eU 4 up (0+i*4)) (.agg #[.bool al,a,w,b]),
  mB [some (.bool false),some fq,some .nilIface,some fq] eG,
  uE eG 0 [.bool al,a,w,b],
  .mem (eU 3 eG 1) (.agg #[a,w,b]),
  .call 149 [.agg #[a,w,b],vP d 0] (.tuple #[rv,vI 0]),
  dx,
  .mem (cZ ab #[29,29] (.slice sa sn sc) rv) (.slice ra rn rc),
  .mem (aD eG 0) (.bool al),
  aP (!al) true,
  .call 151 [.slice ra rn rc] (.slice qa qn qc),
  aP (nV qn 1000) false]
 .normal [1,8,26,27,28] [vP d 0,.slice qa qn qc,vL up 0 un uc,vI un,vI (bL i 1)]:=dc
theorem j4.ext{m m':Mem}{d q sz:Nat}{cs:List ae}{bo:Nat->Option Nat}{al:Option Nat}{S:Nat->Prop}(h:j4 m d q sz cs bo al)(k:Kp m m' S)(hS:∀b,(∃j,bo j=some b)\/al=some b->¬S b):j4 m' d q sz cs bo al:=by
 refine⟨h.len,fun j hj=>?_,h.hi,h.inj,fun hb=>by rw[k.base];exact h.ne hb,?_,fun hp=>by rw[k.base];exact h.KO hp⟩
 ·obtain⟨sv,h1,h2⟩:=h.sh j hj;exact⟨sv,h1,h2.ext k.Vt fun b hb=>hS b (.inl ⟨j,hb⟩)⟩
 ·obtain⟨sv,h1,h2⟩:=h.all;exact⟨sv,h1,h2.ext k.Vt fun b hb=>hS b (.inr hb)⟩
theorem eX.ext{m m':Mem}{d:Nat}{SB S:Nat->Prop}{rows:List (List Nat)}{cs:List ae}{bo bm:Nat->Option Nat}{al am:Option Nat}{rl:ae}(h:eX m d SB rows cs bo al bm am rl)(k:Kp m m' S)(hS:∀b,SB b->¬S b):eX m' d SB rows cs bo al bm am rl:=
 ⟨h.ob.ext k (hS d h.sd),h.len,by rw[k.base];exact h.bd,h.br.ext k fun b hb=>hS b (hb.elim (fun⟨j,e⟩=>(h.sb (.inl e)).1) fun e=>(h.sb (j:=0) (.inr (.inl e))).1),h.bw.ext k fun b hb=>hS b (hb.elim (fun⟨j,e⟩=>(h.sb (.inr (.inr (.inl e)))).1) fun e=>(h.sb (j:=0) (.inr (.inr (.inr e)))).1),h.all,(aX ye 6).ext h.rws k fun b e=>hS b (h.sb (j:=0) (.inr (.inl e))).1,h.sd,fun hb=>⟨(h.sb hb).1,by have :=(h.sb hb).2;have :=k.next;omega⟩⟩
theorem mz.Y9{BO BE Ky:Nat->Prop}{m:Mem}{acc:List (List V)}{sv:ae}(h:mz cR 1 BO BE m acc sv)(k:∀b,BE b->(m.blk b).sz=4->Ky b)(n:∀b,BO b->¬Ky b):mz cR 1 BO Ky m acc sv:=by
 rcases h with h|⟨b,cs,rest,e,hb,hw,ob,gT⟩
 ·exact .inl h
 ·exact .inr ⟨b,cs,rest,e,⟨hb.1,n b hb.1⟩,hw,ob,gT.mono fun x u _ w=>⟨cR.mono (cR.sz4 w.1) fun b hb=>k b hb.1 hb.2,w.2⟩⟩
theorem mz.lt{α:Type}{E:oD α}{sz:Nat}{BO BE:Nat->Prop}{m:Mem}{acc:List α}{sv:ae}(h:mz E sz BO BE m acc sv):mz E sz (fun y=>BO y/\y<m.next) BE m acc sv:=by
 rcases h with h|⟨b,cs,rest,e,hb,hw,ob,gT⟩
 ·exact .inl h
 ·exact .inr ⟨b,cs,rest,e,⟨⟨hb.1,ob.lt⟩,hb.2⟩,hw,ob,gT⟩
def oe (m0 m:Mem)(d:Nat)(S:Nat->Prop)(acc:List (List V))(sv:ae):Prop:=
 ∃SB rows cs bo al bm am rl BO BE,Kp m0 m S/\eX m d SB rows cs bo al bm am rl/\mz cR 1 BO BE m acc sv/\(∀b,SB b->(S b\/m0.next<=b)/\b<m.next)/\∀b,BO b\/BE b->¬SB b/\m0.next<=b/\b<m.next
section
variable {K:fZ}{m0 mA m:Mem}{B BT S:Nat->Prop}{Tb:Nat->Option (List (List V))}{d:Nat}{acc:List (List V)}{sv v:ae}
theorem oe.kp(h:oe m0 m d S acc sv):Kp m0 m S:=by obtain⟨_,_,_,_,_,_,_,_,_,_,h,_⟩:=h;exact h
theorem oe.form(h:oe m0 m d S acc sv):∃a c,sv= .slice a acc.length c:=by obtain⟨_,_,_,_,_,_,_,_,_,_,_,_,h,_⟩:=h;exact h.form
theorem We (hK:FL K)(cm0:Calm m0)(h:oe m0 mA d S acc sv)(k:Kp mA m fu){s:AS}(hs:vQ.R B s m v)(vq:ju BT Tb m)(pY:∀b,B b\/BT b->¬S b/\b<m0.next)(eZ:Aw Tb s)(hl:acc.length+(iL Tb s).length<9000):
  ∃rv m2 s3 m3 S1,Ev K 149 [v,vP d 0] m (.tuple #[rv,vI 0]) m2/\cZ ab #[29,29] sv rv m2=some (s3,m3)/\Kp m m3 S1/\(∀b,S1 b->(S b\/m0.next<=b)/\b<mA.next)/\oe m0 m3 d S (acc++iL Tb s) s3:=by
 obtain⟨SB,rows,cs,bo,al,bm,am,rl,BO,BE,k0,D,L,OJ,hB⟩:=h;obtain⟨xs,xw,xi,rfl,q1,q2,q3⟩:=hs;have n0:=k0.next;have n1:=k.next;have k1:=k0.aZ k;have cm:=cm0.ext k1;have hf:∀b,B b\/BT b->¬SB b/\b<m.next:=fun b hb=>⟨fun h=>((OJ b h).1).elim (pY b hb).1 fun h=>by have :=(pY b hb).2;omega,by have :=(pY b hb).2;omega⟩
 obtain⟨rv,m2,NB,jf,Et,u9,Rf,Rg,rl',e2,k2,D2,qr,_⟩:=Z3 hK cm (D.cf k) q1 q2 q3 vq hf eZ.src eZ.join eZ.jl eZ.wh eZ.max eZ.rO eZ.il;obtain⟨D3,hD3⟩:=D2.exact;have OW:=cm.ext k2;have n2:=k2.next;have L2:=(L.ext k fun _ _ h=>h).ext k2 fun b hb=>(hB b hb).1
 obtain⟨s3,m3,e3,k3,L3,_⟩:=L2.cat (t:=29) OW.gd rfl qr (fun b hb h=>by have :=(hB b (.inl hb)).2.2;have :=h.1;omega) (fun b hb=>by have :=(hB b (.inr hb)).2.2;omega) (fun b h=>h.2) (by rw[show Ac Tb s.2.2 (kL Tb s.2.1 (mh Tb s.1 0 [gL]))=iL Tb s from rfl];omega);have n3:=k3.next;have hdB:∀b,C5 d Et Rf u9 Rg b->¬BO b:=fun b h hb=>by
  obtain⟨h1,h2,_⟩:=hD3 b h;have :=hB b (.inl hb);rcases h1 with h1|h1
  ·exact this.1 h1
  ·have :=h1.1;omega
 have D4:=D3.ext k3 hdB;obtain⟨_,hD4⟩:=D4.exact;refine⟨rv,m2,s3,m3,fun b=>SB b\/BO b,e2,e3,(k2.mono (S':=fun b=>SB b\/BO b) fun _ _ h=> .inl h).trans (k3.mono fun _ _ h=> .inr h) fun _ _ h=>h,fun b hb=>hb.elim (fun h=>OJ b h) fun h=>⟨.inr (hB b (.inl h)).2.1,(hB b (.inl h)).2.2⟩,_,_,_,_,_,_,_,_,fun y=>y=m2.next/\y<m3.next,fun b=>(BE b\/jD m m2 b)/\¬C5 d Et Rf u9 Rg b,?_,D4,L3.lt.Y9 (fun b hb h4=>⟨hb,fun h=>?_⟩) (fun b hb h=>?_),fun b hb=>?_,fun b hb=>?_⟩
 ·exact k1.trans ((k2.mono (S':=fun b=>SB b\/BO b) fun _ _ h=> .inl h).trans (k3.mono fun _ _ h=> .inr h) fun _ _ h=>h) fun b hb h=>h.elim (fun h=>(OJ b h).1.resolve_right ai) fun h=>absurd (hB b (.inl h)).2.1 ai
 ·rcases(hD4 b h).2.2 with h|h|h<;>omega
 ·rw[hb.1]at h;rcases h.1 with h|h
  ·have :=(hB _ (.inr h)).2.2;omega
  ·have :=h.2;omega
 ·obtain⟨h1,h2,_⟩:=hD3 b hb;refine⟨?_,ai⟩;rcases h1 with h1|h1
  ·exact(OJ b h1).1
  ·exact .inr (by have :=h1.1;omega)
 ·rcases hb with⟨rfl,hb⟩|⟨hb,hn⟩
  ·exact⟨fun h=>by have :=(hD3 _ h).2.1;omega,ai,hb⟩
  ·refine⟨hn,?_⟩;rcases hb with h|h
   ·have :=(hB b (.inr h)).2;omega
   ·have :=h.1;have :=h.2;omega
end
end Go.AM
namespace Go.AM
set_option maxRecDepth 1000000
open Go Go.Conc Go.Proofs
noncomputable def xk(Tb:Nat->Option (List (List V)))(acc:List (List V))(u:Bool×AS):List (List V):=if u.1=true then acc++iL Tb u.2 else rj (acc++iL Tb u.2)
def H7 (Tb:Nat->Option (List (List V))):List (Bool×AS)->List (List V)->Prop
 | [],_=>True
 |u::us,acc=>Aw Tb u.2/\acc.length+(iL Tb u.2).length<9000/\(∀x∈acc++iL Tb u.2,x.length<99999)/\(xk Tb acc u).length<=1000/\H7 Tb us (xk Tb acc u)
def JR:oD (Bool×AS) where
 R B u m v:=∃sv wv iv,v= .agg #[.bool u.1,sv,wv,iv]/\vQ.R B u.2 m (.agg #[sv,wv,iv])
 mono:=by
  rintro B B' x m v ⟨sv,wv,iv,e,h⟩ k;exact⟨sv,wv,iv,e,vQ.mono h k⟩
 ext:=by
  rintro B S x m m' v ⟨sv,wv,iv,e,h⟩ k hs;exact⟨sv,wv,iv,e,vQ.ext h k hs⟩
abbrev Kt:=AS×List (Bool×AS)
def OS:oD Kt where
 R B b m v:=∃sv wv iv uv,v= .agg #[sv,wv,iv,uv]/\vQ.R B b.1 m (.agg #[sv,wv,iv])/\(aX JR 4).R B b.2 m uv
 mono:=by
  rintro B B' x m v ⟨sv,wv,iv,uv,e,h,q⟩ k;exact⟨sv,wv,iv,uv,e,vQ.mono h k,(aX JR 4).mono q k⟩
 ext:=by
  rintro B S x m m' v ⟨sv,wv,iv,uv,e,h,q⟩ k hs;exact⟨sv,wv,iv,uv,e,vQ.ext h k hs,(aX JR 4).ext q k hs⟩
noncomputable def oC(Tb:Nat->Option (List (List V)))(b:Kt):List (List V):=b.2.foldl (xk Tb) (iL Tb b.1)
section
variable {K:fZ}{m0 m:Mem}{B BT S SB:Nat->Prop}{Tb:Nat->Option (List (List V))}{d:Nat}{acc:List (List V)}{sv v:ae}
theorem WC (cm0:Calm m0)(h:oe m0 m d S acc sv)(hn:acc.length<65536)(hl:∀x∈acc,x.length<99999):
  ∃vD m' S1,Ev K 151 [sv] m vD m'/\Kp m m' S1/\(∀b,S1 b->m0.next<=b/\b<m.next)/\oe m0 m' d S (rj acc) vD:=by
 obtain⟨SB,rows,cs,bo,al,bm,am,rl,BO,BE,k0,D,L,OJ,hB⟩:=h;have cm:=cm0.ext k0;obtain⟨l',vD,m',e,k,L',h1,h2⟩:=alW (K:=K) cm.gd L hn hl fun b hb=>(hB b (.inr hb)).2.2
 obtain⟨q1,q2⟩:=xG acc;obtain rfl:=IX h1 q1 fun x=>(h2 x).trans (q2 x).symm
 have n:=k.next;exact⟨vD,m',BO,e,k,fun b hb=>(hB b (.inl hb)).2,SB,rows,cs,bo,al,bm,am,rl,BO,BE,k0.trans k fun b hb h=>by have :=(hB b (.inl h)).2.1;omega,D.ext k fun b h1 h2=>(hB b (.inl h2)).1 h1,L',fun b hb=>⟨(OJ b hb).1,by have :=(OJ b hb).2;omega⟩,fun b hb=>⟨(hB b hb).1,(hB b hb).2.1,by have :=(hB b hb).2.2;omega⟩⟩
theorem aif (hK:FL K)(cm:Calm m){jZ:List (List Nat)}{cs:List ae}{bo bm:Nat->Option Nat}{al am:Option Nat}{rl:ae}(D:eX m d SB jZ cs bo al bm am rl){bd:Kt}(hb:OS.R B bd m v)(vq:ju BT Tb m)(pY:∀b,B b\/BT b->¬SB b/\b<m.next)
  (eZ:Aw Tb bd.1)(huk:H7 Tb bd.2 (iL Tb bd.1))(h0:iL Tb bd.1=[]->am=none)(hul:bd.2.length<90000):
  ∃sv m',Ev K 115 [v,vP d 0] m (.tuple #[sv,vI 0]) m'/\oe m m' d SB (oC Tb bd) sv:=by
 obtain⟨xs,xw,xi,uv,rfl,nN,nU⟩:=hb;obtain⟨D0,ZQ⟩:=D.exact;have hf0:∀b,B b\/BT b->¬C5 d bo bm al am b/\b<m.next:=fun b hb=>⟨fun h=>(pY b hb).1 (ZQ b h).1,(pY b hb).2⟩
 obtain⟨ua,uc,rfl⟩:=aX.form nU;obtain⟨b2,ak2⟩:∃b,b=m.next:=⟨_,rfl⟩;obtain⟨m1,e1,o1,k1,n1,_⟩:=cA cm.gd [xs,xw,xi,.slice ua bd.2.length uc];rw[<-ak2]at e1 o1;have J4:=cm.ext k1;have l1:eU 3 b2 0 m1=some (.agg #[xs,xw,xi],m1):=dX (vs:=[xs,xw,xi]) o1 rfl (af rfl);obtain⟨_,_,_,e,q1,q2,q3⟩:=vQ.ext nN k1 fun _ _ h=>h
 cases e;obtain⟨rv,m2,NB,jf,Et,u9,Rf,Rg,rl',e2,k2,D2,qr,Ju⟩:=Z3 hK J4 (D0.cf k1) q1 q2 q3 (vq.ext k1 fun _ _ h=>h) (fun b hb=>⟨(hf0 b hb).1,by have :=(hf0 b hb).2;omega⟩) eZ.src eZ.join eZ.jl eZ.wh eZ.max eZ.rO eZ.il;have OW:=J4.ext k2;have n2:=k2.next;obtain⟨D3,hD3⟩:=D2.exact;have wY:(iL Tb bd.1).length<=1000:=by
  have :(iL Tb bd.1).length<=0+(kL Tb bd.1.2.1 (mh Tb bd.1.1 0 [gL])).length:=B4 (fun i=>aj _) _ _ [];have :=eZ.max;omega
 obtain⟨sv,m3,e3,k3,L3⟩:=aie (K:=K) OW.gd qr (fun h=>(Ju (h0 h) h).1) (fun b h=>h.2) (by show(iL Tb bd.1).length<= _;omega);have n3:=k3.next;have ak1:¬C5 d bo bm al am b2:=fun h=>by have :=(ZQ _ h).2.1;omega
 have l2:aD b2 3 m3=some (.slice ua bd.2.length uc,m3):=aS ((o1.ext k2 ak1).cf k3) rfl;have pS:Kp m m2 SB:=k1.vl.trans (k2.mono (S':=SB) fun b hb h=>(ZQ b h).1) fun _ _ h=>h
 have D4:=D3.cf k3;obtain⟨_,hD4⟩:=D4.exact;have A:oe m m3 d SB (iL Tb bd.1) sv:=by
  refine⟨_,_,_,_,_,_,_,_,fun y=>jD m2 m3 y/\y<m3.next,fun b=>jD m1 m2 b/\¬C5 d Et Rf u9 Rg b,pS.aZ k3,D4,L3.lt.Y9 (fun b hb h4=>⟨hb,fun h=>?_⟩) (fun b hb h=>?_),fun b hb=>?_,fun b hb=>?_⟩
  ·rcases(hD4 b h).2.2 with h|h|h<;>omega
  ·have :=hb.1.1;have :=h.1.2;omega
  ·obtain⟨h1,h2,_⟩:=hD3 b hb;refine⟨?_,ai⟩;rcases h1 with h1|h1
   ·exact .inl (ZQ b h1).1
   ·exact .inr (by have :=h1.1;omega)
  ·rcases hb with⟨h,_⟩|⟨h,hn⟩
   ·exact⟨fun h'=>by have :=(hD3 _ h').2.1;have :=h.1;omega,by have :=h.1;omega,h.2⟩
   ·exact⟨hn,by have :=h.1;omega,by have :=h.2;omega⟩
 obtain⟨t0,w0,e0⟩:=aR (K:=K) (m:=m) (m':=m3) (tm:=entry [.agg #[xs,xw,xi,.slice ua bd.2.length uc],vP d 0]) (afU d bd.2.length uc ua xs xw xi rv sv b2) rfl (.mem e1<| .mem l1<| .call e2<| .cond rfl<| .call e3<| .mem l2 .nil);obtain⟨R,hR⟩:∃R,R=oC Tb bd:=⟨_,rfl⟩;rw[<-hR];obtain⟨e,t1,m5,he,DK,rfl,sv5,hg,A5⟩:=eI (K:=K) (nt:=eY 115) (a:=bX 115 [6]) bd.2.length
  (Inv:=fun j tm m'=>∃acc sv,bu [1,8,26,27,28] tm=[vP d 0,sv,.slice ua bd.2.length uc,vI (bd.2.length:Int),vI j]/\oe m m' d SB acc sv/\H7 Tb (bd.2.drop j) acc/\(bd.2.drop j).foldl (xk Tb) acc=R)
  (dm:=fun e tm m'=>e= .exit 0/\∃sv,bu [8] tm=[sv]/\oe m m' d SB R sv)
  (by
   rintro j tm m4 hj ⟨acc,sv,hg,A4,hu,hr⟩
   left
   rw[List.drop_eq_getElem_cons hj]at hu hr;have E7:=A4.kp;have HZ:=cm.ext E7;obtain⟨ub,uc',u,cu,e,ZT,ou,h1,h2,hu1,hu2⟩:=aX.get ((aX JR 4).ext nU E7 fun b hb=>(pY b (.inl hb)).1) hj;cases e;obtain⟨ys,yw,yi,rfl,ze⟩:=hu1;obtain⟨m6,m7,e6,e7,o7,k7,n7⟩:=ly HZ.gd [.bool false,.slice none 0 0,.nilIface,.slice none 0 0] [.bool bd.2[j].1,ys,yw,yi] rfl (aB.2 fun y hy=>hu2.2 y hy);have Xx:=hu.1;obtain⟨rv,m8,s3,m9,S1,e8,e9,k9,hS1,A9⟩:=We hK cm A4 k7 (vQ.ext ze k7 fun _ _ h=>h) (vq.ext (E7.aZ k7) fun b hb=>(pY b (.inr hb)).1) pY Xx hu.2.1;obtain⟨sa,sc,rfl⟩:=A4.form;obtain⟨ra,rc,rfl⟩:=A9.form;have l4:eU 4 ub (0+j*4) m4=some (.agg #[.bool bd.2[j].1,ys,yw,yi],m4):=dX (vs:=[.bool bd.2[j].1,ys,yw,yi]) ou (by rw[Nat.zero_add];exact h1) ai;have l3:eU 3 m4.next 1 m7=some (.agg #[ys,yw,yi],m7):=dX (vs:=[ys,yw,yi]) o7 rfl (af rfl);have o9:Obj m9 m4.next 0 [.bool bd.2[j].1,ys,yw,yi]:=o7.ext k9 fun h=>by have :=(hS1 _ h).2;omega
   have l9:aD m4.next 0 m9=some (.bool bd.2[j].1,m9):=aS o9 rfl;have hlen:(acc++iL Tb bd.2[j].2).length=acc.length+(iL Tb bd.2[j].2).length:=List.length_append;have hs:=hu.2.2.2.1;cases Mu:bd.2[j].1 with
   |true=>
    have Vz:xk Tb acc bd.2[j]=acc++iL Tb bd.2[j].2:=by unfold xk;rw[bj Mu]
    rw[Mu]at l4 e7 l9;obtain⟨t2,cN,cz⟩:=aI (K:=K) Gy (afW d acc.length sc ub bd.2.length uc j m4.next _ rc sa ra true ys yw yi rv) hg (.cond (dT gF)<| .idx rfl hj<| .mem l4<| .mem e6<| .mem e7<| .mem l3<| .call e8<| .cond rfl<| .mem e9<| .mem l9<| .cond rfl<| .cond (dF (qP (j:=1000)) (by rw[Vz]at hs;omega)) .nil);rw[dI]at cz;exact⟨t2,m9,cN,_,_,cz,A9,Vz▸hu.2.2.2.2,Vz▸hr⟩
   |false=>
    have Vz:xk Tb acc bd.2[j]=rj (acc++iL Tb bd.2[j].2):=by unfold xk;rw[bW (by rw[Mu];decide)]
    rw[Mu]at l4 e7 l9;obtain⟨s4,LP,S2,VK,Jk,hS2,A10⟩:=WC (K:=K) cm A9 (by have :=hu.2.1;omega) hu.2.2.1;obtain⟨qa,qc,rfl⟩:=A10.form;obtain⟨t2,cN,cz⟩:=aI (K:=K) Gy (afV d acc.length sc ub bd.2.length uc j m4.next _ rc sa ra false ys yw yi rv _ qc qa) hg (.cond (dT gF)<| .idx rfl hj<| .mem l4<| .mem e6<| .mem e7<| .mem l3<| .call e8<| .cond rfl<| .mem e9<| .mem l9<| .cond rfl<| .call VK<| .cond (dF (qP (j:=1000)) (by rw[Vz]at hs;omega)) .nil);rw[dI]at cz;exact⟨t2,LP,cN,_,_,cz,A10,Vz▸hu.2.2.2.2,Vz▸hr⟩)
  (by
   rintro tm m4 ⟨acc,sv,hg,A4,hu,hr⟩;rw[List.drop_length]at hr;obtain⟨t2,cN,cz⟩:=aI (K:=K) (m:=m4) (m':=m4) Gy (afT d bd.2.length uc bd.2.length ua sv) hg (.cond (dF gF) .nil);exact⟨_,t2,m4,g8,cN,rfl,sv,cz,hr▸A4⟩)
  (tm:=t0) (m:=m3) ⟨_,sv,e0,A,huk,hR.symm⟩ ai
 obtain⟨t2,h2,e2'⟩:=aR (K:=K) (m:=m5) (m':=m5) (afS sv5) hg .nil;exact⟨sv5,m5,eB agv (aA.cut w0 (aA.fw DK (aA.last h2 PU))) (.inr rfl) e2',A5⟩
end
end Go.AM
namespace Go.AM
set_option maxRecDepth 1000000
open Go Go.Conc Go.Proofs
theorem ai7 (b1 b2 d n rc cn cc:Nat)(ca qa:Option Addr)(a w b u:ae)(gD:Nat):dJ 76 4 10 [1,2,4] [vP b1 0,vP b2 0,vP d 0]
 [.mem (eU 4 b1 2) (.agg #[a,w,b,u]),
  .call 115 [.agg #[a,w,b,u],vP d 0] (.tuple #[.slice qa n rc,vI 0]),
  dx,
  .call 116 [.slice qa n rc,fR] (.tuple #[]),
  mB [some fq,some fq,some fq,some (vI 0)] gD,
  uE gD 0 [fq,fq,.slice qa n rc,vI 0],
  .mem (aD b1 1) (.slice ca cn cc)]
 .normal [2,10,46,47,48] [vP b2 0,vP gD 0,.slice ca cn cc,vI cn,vI 0]:=dc
def qe (B:Nat->Prop)(dN:List FN)(rows:List (List V))(n:Int)(m:Mem)(v:ae):Prop:=∃nv kv rv,v= .agg #[nv,kv,rv,vI n]/\ZU.R B (dN.map (·.n)) m nv/\ZV.R B (dN.map (·.k)) m kv/\∃BO BE:Nat->Prop,mz cR 1 BO BE m rows rv/\∀b,BO b\/BE b->B b
theorem qe.ext{B S:Nat->Prop}{dN:List FN}{rows:List (List V)}{n:Int}{m m':Mem}{v:ae}(h:qe B dN rows n m v)(k:Kp m m' S)(hs:∀b,B b->¬S b):qe B dN rows n m' v:=by
 obtain⟨nv,kv,p,e,h1,h2,BO,BE,h3,h4⟩:=h;exact⟨nv,kv,p,e,(aX (iX v7) 1).ext h1 k hs,(aX (iX vI) 1).ext h2 k hs,BO,BE,h3.ext k fun b hb=>hs b (h4 b hb),h4⟩
theorem qe.mono{B B':Nat->Prop}{dN:List FN}{rows:List (List V)}{n:Int}{m:Mem}{v:ae}(h:qe B dN rows n m v)(k:∀b,B b->B' b):qe B' dN rows n m v:=by
 obtain⟨nv,kv,p,e,h1,h2,BO,BE,h3,h4⟩:=h;exact⟨nv,kv,p,e,(aX (iX v7) 1).mono h1 k,(aX (iX vI) 1).mono h2 k,BO,BE,h3,fun b hb=>k b (h4 b hb)⟩
theorem MH {m:Mem}{d:Nat}(o:Obj m d 0 UP)(hb:m.base<=d):eX m d (fun b=>b=d) [] UP (fun _=>none) none (fun _=>none) none (.slice none 0 0):=by
 refine⟨o,rfl,hb,⟨af rfl,fun j hj=>⟨.slice none 0 0,?_,.inl ⟨rfl,rfl⟩⟩,fun _ _=>rfl,g8,g8,⟨.slice none 0 0,rfl,.inl ⟨rfl,rfl⟩⟩,g8⟩,⟨af rfl,fun j hj=>⟨.slice none 0 0,?_,.inl ⟨rfl,rfl⟩⟩,fun _ _=>rfl,g8,g8,⟨.slice none 0 0,rfl,.inl ⟨rfl,rfl⟩⟩,g8⟩,rfl,⟨[],mY.nil,fun _ _ _ _ e=>(by cases e),rfl⟩,rfl,fun h=>by rcases h with h|h|h|h<;>cases h⟩
 ·obtain rfl|rfl|rfl|rfl:j=0\/j=1\/j=2\/j=3:=ai
  all_goals rfl
 ·obtain rfl|rfl|rfl|rfl:j=0\/j=1\/j=2\/j=3:=ai
  all_goals rfl
section
variable {K:fZ}{m:Mem}{B BT:Nat->Prop}{Tb:Nat->Option (List (List V))}
theorem RX (g:Gd m){BO BE:Nat->Prop}{l:List (List V)}{sv:ae}(h:mz cR 1 BO BE m l sv)(hn:l.length<65536)(hl:∀x∈l,x.length<99999)(hB:∀b,BE b->b<m.next):
  ∃m',Ev K 116 [sv,fR] m (.tuple #[]) m'/\Kp m m' BO/\mz cR 1 BO BE m' (py l) sv:=by
 obtain⟨p1,p2⟩:=lz l;rcases h with⟨rfl,rfl⟩|⟨b,cs,rest,rfl,⟨hb,Ff⟩,hw,ob,gT⟩
 ·exact⟨m,UZ,.refl _ _,.inl ⟨List.perm_nil.1 p1,rfl⟩⟩
 ·obtain⟨d,m1,e1,k1,s1,mj,sP⟩:=Z4 (K:=K) (cc:=cH) g ob Ff gT hw hn hl hB;have he:=rW (mj.trans p1.symm) sP p2;exact⟨m1,e1,k1.mono fun y _ e=>by rw[e];exact hb,.inr ⟨b,d.toList.map (·.1),rest,by rw[p1.length_eq],⟨hb,Ff⟩,s1.ow,s1.ob,he▸K1 fun x hx=>(s1.el x hx).1⟩⟩
theorem alA (hK:FL K){dN:List FN}{bd:Kt}{JY xa xw xb xu:ae}{pa:Option Addr}{pc:Nat}(cm:Calm m)(hc:qz.R B dN m JY)(hx:OS.R B bd m (.agg #[xa,xw,xb,xu]))(vq:ju BT Tb m)(hBm:∀b,B b\/BT b->b<m.next)
  (Qi:dN.length<9000)(eZ:Aw Tb bd.1)(huk:H7 Tb bd.2 (iL Tb bd.1))(hul:bd.2.length<90000)(hn:(oC Tb bd).length<65536)(hlen:∀x∈oC Tb bd,x.length<99999):
  ∃v m',Ev K 76 [.agg #[.slice pa 0 pc,JY,xa,xw,xb,xu]] m (.tuple #[v,vI 0]) m'/\Kp m m' fu/\qe (jD m m') dN (py (oC Tb bd)) 0 m' v:=by
 obtain⟨ca,cc,JB⟩:=aX.form hc;have g:=cm.gd;obtain⟨ua,uc,rfl⟩:∃ua uc,xu= .slice ua bd.2.length uc:=by
  obtain⟨_,_,_,_,e,_,q⟩:=hx;obtain⟨a,c,e'⟩:=aX.form q;cases e;exact⟨a,c,e'⟩
 obtain⟨b1,nN⟩:∃b,b=m.next:=⟨_,rfl⟩;obtain⟨m1,e1,o1,k1,n1,_⟩:=cA g [.slice pa 0 pc,JY,xa,xw,xb,.slice ua bd.2.length uc];obtain⟨b2,nU⟩:∃b,b=m1.next:=⟨_,rfl⟩;obtain⟨m2,e2,o2,k2,n2,_⟩:=cA (g.ext k1) [.slice none 0 0,.slice none 0 0,.slice none 0 0,vI 0];have pS:=k1.aZ k2;obtain⟨d,hd⟩:∃b,b=m2.next:=⟨_,rfl⟩;obtain⟨m3,e3,o3,k3,n3,_⟩:=cA (g.ext pS) UP;rw[<-nN]at e1 o1;rw[<-nU]at e2 o2;rw[<-hd]at e3 o3;have qN:=pS.aZ k3;have w8:=cm.ext qN;have o13:=(o1.cf k2).cf k3;have l1:aD b1 0 m3=some (.slice pa 0 pc,m3):=aS o13 rfl;obtain⟨A,hA⟩:∃A,A=ae.agg #[.slice pa 0 pc,JY,xa,xw,xb,.slice ua bd.2.length uc]:=⟨_,rfl⟩;rw[<-hA];obtain⟨t0,w0,e0⟩:=aR (K:=K) (m:=m) (m':=m3) (tm:=entry [A]) (ai6 0 pc dN.length cc bd.2.length uc pa ca ua xa xw xb b1 b2 d) (by rw[hA,JB];rfl) (by rw[JB]at e1;exact .mem e1<| .mem e2<| .mem e3<| .mem l1 .nil);obtain⟨e,t1,m5,he,DK,rfl,rfl,hg⟩:=eI (K:=K) (nt:=eY 76) (a:=bX 76 [3]) 0
  (Inv:=fun j tm m'=>m'=m3/\bu [1,2,4,16,17,18] tm=[vP b1 0,vP b2 0,vP d 0,.slice pa 0 pc,vI (0:Nat),vI 0])
  (dm:=fun e tm m'=>e= .exit 0/\m'=m3/\bu [1,2,4] tm=[vP b1 0,vP b2 0,vP d 0])
  (fun j tm m' hj=>absurd hj ai)
  (by
   rintro tm m' ⟨rfl,hg⟩;obtain⟨t2,cN,cz⟩:=aI (K:=K) (m:=m') (m':=m') abt (ai4 b1 b2 d 0 pc 0 pa) hg (.cond (Ed 0) .nil);exact⟨_,t2,m',g8,cN,rfl,rfl,cz⟩)
  (tm:=t0) (m:=m3) ⟨rfl,e0⟩ ai
 have l2:eU 4 b1 2 m5=some (.agg #[xa,xw,xb,.slice ua bd.2.length uc],m5):=dX (vs:=[xa,xw,xb,.slice ua bd.2.length uc]) o13 rfl (af rfl);have sS:m5.base<=d:=by
  have h1:=w8.gd.bf;have h2:=g.fn;have h3:=qN.floor;have h4:=qN.base;have :=g.bf;omega
 have n03:=qN.next;obtain⟨sv,m6,e6,A6⟩:=aif (K:=K) hK w8 (MH o3 sS) (OS.ext hx qN fun _ _ h=>h) (vq.ext qN fun _ _ h=>h) (fun b hb=>by have :=hBm b hb;exact⟨fun e=>by omega,ai⟩) eZ huk (fun _=>rfl) hul;have k6:=A6.kp;obtain⟨qa,rc,xT⟩:=A6.form;obtain⟨SB,_,_,_,_,_,_,_,BO,BE,_,_,L6,OJ,ZS⟩:=A6;have n6:=k6.next;have AP:=w8.ext k6;obtain⟨m7,e7,k7,L7⟩:=RX (K:=K) AP.gd L6 hn hlen fun b hb=>(ZS b (.inr hb)).2.2
 have n7:=k7.next;have k37:Kp m5 m7 (fun y=>y=d):=k6.trans k7 fun b hb h=>by have :=(ZS b (.inl h)).2.1;omega
 have cm7:=AP.ext k7;have k07:Kp m m7 fu:=qN.new k37 (N:=m.next) (aj _) fun b hb=>by omega
 obtain⟨eG,ak3⟩:∃b,b=m7.next:=⟨_,rfl⟩;obtain⟨m8,m8',e8,e9,o8,k8,n8⟩:=ly cm7.gd [.slice none 0 0,.slice none 0 0,.slice none 0 0,vI 0] [.slice none 0 0,.slice none 0 0,sv,vI 0] rfl (by rw[xT];rfl);rw[<-ak3]at e8 e9 o8;have n1d:¬b1=d:=ai;have n2d:¬b2=d:=ai;have o17:=o13.ext k37 n1d;have l3:aD b1 1 m8'=some (JY,m8'):=aS (o17.cf k8) rfl;have k08:=k07.aZ k8;obtain⟨t2,w2,e2'⟩:=aR (K:=K) (m:=m5) (m':=m8') (ai7 b1 b2 d (oC Tb bd).length rc dN.length cc ca qa xa xw xb (.slice ua bd.2.length uc) eG) hg (by rw[JB]at l3;rw[xT]at e6 e7 e9;exact .mem l2<| .call e6<| .cond rfl<| .call e7<| .mem e8<| .mem e9<| .mem l3 .nil);obtain⟨t3,m9,nv,kv,hx9,hg9,k9,o9,q1,q2⟩:=Qy (K:=K) (B:=B) (JY:=JY) (t0:=t2) g k08 ai ai o8 (qz.ext hc k08 fun _ _ h=>h) (fun b hb=>by have :=hBm b (.inl hb);exact⟨ai,by have :=k08.next;omega⟩) Qi (by rw[e2',JB]);have n9:=k9.next;have n8':=k8.next;have l4:eU 4 eG 0 m9=some (.agg #[nv,kv,sv,vI 0],m9):=dX (vs:=[nv,kv,sv,vI 0]) o9 rfl (af rfl);have k09:Kp m m9 fu:=k08.new k9 (N:=m.next) (aj _) fun b hb=>by omega
 have o29:=(((o2.cf k3).ext k37 n2d).cf k8).ext k9 (show¬b2=eG by omega);obtain⟨LP,VK,o10,Jk⟩:=mF (o:=0) [nv,kv,sv,vI 0] o29 ((g.own k09 ai).may _ _) (af rfl) (by rw[xT];simp[(aX.lj q1).2,(aX.lj q2).2];exact⟨rfl,rfl⟩);have n10:=Jk.next;obtain⟨t4,w4,e4'⟩:=aR (K:=K) (m:=m9) (m':=LP) (ai2 b2 eG nv kv sv) hg9 (.mem l4<| .mem VK .nil);have eR:oh ab 31 (vP b2 0) LP=some (.agg #[nv,kv,sv,vI 0],LP):=lO o10 rfl qD.1 qD.2;refine⟨_,LP,XT ajR (aA.cut w0 (aA.fw DK (aA.cut w2 (aA.fw hx9 (aA.last w4 SL))))) (.inr rfl) e4' eR,k09.new Jk (N:=m.next) (aj _) fun b hb=>by omega,⟨nv,kv,sv,rfl,?_,?_,BO,BE,?_,?_⟩⟩
 ·exact(aX (iX v7) 1).mono ((aX (iX v7) 1).ext q1 Jk fun b hb h=>by have :=hb.1;omega) fun b hb=>⟨by have :=hb.1;omega,by have :=hb.2;omega⟩
 ·exact(aX (iX vI) 1).mono ((aX (iX vI) 1).ext q2 Jk fun b hb h=>by have :=hb.1;omega) fun b hb=>⟨by have :=hb.1;omega,by have :=hb.2;omega⟩
 ·have aj8:Kp m7 LP (fun y=>y=eG\/y=b2):=(k8.vl.trans (k9.mono fun _ _ h=> .inl h) fun _ _ h=>h).trans (Jk.mono fun _ _ h=> .inr h) fun _ _ h=>h
  exact L7.ext aj8 fun b hb h=>by have h1:=(ZS b hb).2;omega
 ·intro b hb;have h1:=(ZS b hb).2;exact⟨ai,ai⟩
end
end Go.AM
namespace Go.AM
set_option maxRecDepth 1000000
open Go Go.Conc Go.Proofs
def sK (m:Mem)(db mp:Nat):Prop:=Obj m db 0 [.int .i32 0,.int .u32 0,.map (some mp)]/\m.base<=db
end Go.AM
