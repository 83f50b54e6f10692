/-
  What the claim stands on, part 9.
-/
import Derived.Test.YtgfppohfgconeaaGreatDoorP8
set_option linter.unusedVariables false
set_option linter.unusedSimpArgs false
open Option renaming some → Z, none → Y
open Bool renaming true → U, false → O
open Go renaming Value → ab, World → ar, Program → aE, IntKind → bY
open Go.Proofs.Tryz renaming prog → ae
open Nat renaming le_of_ble_eq_true → af, le_refl → aj, lt_of_lt_of_le → aZ
open Bool renaming and_eq_true → ag
open List renaming all_eq_true → aB, mem_cons → aN
namespace Go.AM
set_option maxRecDepth 1000000
open Go Go.Conc Go.Proofs
structure lq (m:Mem)(d q sz:Nat)(cs:List ab)(bo:Nat->Option Nat)(al:Option Nat):Prop where
 len:q+8<cs.length
 sh:∀j,j<4->∃sv,cs[q+2*j]?=Z sv/\Room sz m sv (bo j)
 hi:∀j,4<=j->bo j=Y
 inj:∀{i j b},bo i=Z b->bo j=Z b->i=j
 ne:∀{j b},bo j=Z b->b≠d/\m.base<=b
 all:∃sv,cs[q+8]?=Z sv/\Room sz m sv al
 Nd:∀{p},al=Z p->p≠d/\m.base<=p/\∀j,bo j≠Z p
def Sc {α:Type}(st:Nat->List α)(n j:Nat):List α:=gI st (FW n j-uR n j) (uR n j) []
theorem Room.ext{sz:Nat}{m m':Mem}{sv:ab}{o:Option Nat}{S:Nat->Prop}(h:Room sz m sv o)(k:Ka S m m')(f:∀b,o=Z b->¬S b):Room sz m' sv o:=by
 rcases h with h|⟨b,l,c,a,g,r,d⟩
 .exact .inl h
 .have e:=k.blk b r.lt (f b a);exact .inr ⟨b,l,c,a,g,⟨aZ r.lt k.next,by rw[e];exact r.kind,by rw[e];exact r.sz,by rw[e];exact r.cs⟩,d⟩
theorem lq.lt{m:Mem}{d q sz j b:Nat}{cs:List ab}{f:Nat->Option Nat}{al:Option Nat}(h:lq m d q sz cs f al)(c:f j=Z b):b<m.next:=by
 rcases Nat.lt_or_ge j 4 with e|e
 .obtain⟨k,_,g⟩:=h.sh j e;rcases g with⟨a,_⟩|⟨l,_,_,a,_,i,_⟩
  .rw[c]at a;cases a
  .rw[c]at a;cases a;exact i.lt
 .rw[h.hi j e]at c;cases c
theorem lq.kind{m:Mem}{d q sz j b:Nat}{cs:List ab}{g:Nat->Option Nat}{al:Option Nat}(h:lq m d q sz cs g al)(c:g j=Z b):∃e,RO m b sz e:=by
 rcases Nat.lt_or_ge j 4 with f|f
 .obtain⟨l,_,i⟩:=h.sh j f;rcases i with⟨a,_⟩|⟨n,_,e,a,_,k,_⟩
  .rw[c]at a;cases a
  .rw[c]at a;cases a;exact⟨e,k⟩
 .rw[h.hi j f]at c;cases c
theorem S9 {M:Mem}{w d q sz:Nat}{cs:List ab}{c:Nat->Option Nat}{al:Option Nat}(f:Calm M)(o:Obj M d 0 cs)(B:M.base<=d)(a:lq M d q sz cs c al)
  (y:Obj M w 0 [.int .u64 0,.int .u32 0])(F:(M.blk w).pos=1)(z:Own M w)(p:d≠w)(t:∀j,c j≠Z w):
  mo w d q M=Z {M.bB w {}with wg:=Z w,opn:=vf d q c 0,floor:=M.next}:=by
 have H:BoP d M.next c:=⟨λh=>⟨(a.ne h).1,a.lt h⟩,a.inj⟩;have hlen:=a.len;have l:∀j,j<4->BD M d q j=Z (wK d q c j):=by
  intro j G;obtain⟨Q,g,E⟩:=a.sh j G;unfold BD;rw[o.ro.I4 g (gV o.Dh _ _)];unfold wK;rcases E with⟨i,rfl⟩|⟨b,R,C,i,rfl,_⟩
  .rw[i];rfl
  .rw[i];rfl
 have D:ql M d q 4=Z (vf d q c 0):=by
  unfold ql ql ql ql ql;rw[l 0 ai,l 1 ai,l 2 ai,l 3 ai];simp[vf]
 unfold mo;rw[f.wg,D,jP y (o:=0) (n:=2) (vs:=[.int .u64 0,.int .u32 0]) rfl (aj _)]
 show(if _ then _ else Y)=_
 rw[bh];have i:=z.may 0 2;have N:M.fL w=U:=z;have L:(M.blk w).cs.length=2:=by rw[y.cs];rfl
 have K:(vf d q c 0).all (λs=>xN M s&&s.1 !=w)=U:=by
  rw[aB];intro s g;obtain⟨k,_,T,g⟩:=y0 ai g;unfold xN;have A:∀x,x<q+8->(xN M (sp d x)&&(sp d x).1 !=w)=U:=by
   intro x S;have P:(M.blk d).cs[x]?=Z (Z cs[x]!):=by
    rw[o.cs,List.getElem?_map,List.getElem?_eq_getElem ai];simp[List.getElem!_eq_getElem?_getD,List.getElem?_eq_getElem (show x<cs.length by omega)]
   show((((((decide (d+1=d+1)&&decide (M.base<=d))&&decide (M.floor<=d))&&decide (d<M.next))&&(M.blk d).kind==1)&&(((M.blk d).cs[x]?).any (·.isSome)))&&(d !=w))=U
   have u:M.floor<=d:=by rw[f.floor];exact B
   rw[P,o.kind];simp[B,u,o.lt,p]
  rcases o0.1 g with rfl|rfl|⟨b,m,rfl⟩
  .exact A _ ai
  .exact A _ ai
  .obtain⟨C,r⟩:=a.kind m;have v:b≠w:=λe=>t k (e▸m)
   have u:M.floor<=b:=by rw[f.floor];exact(a.ne m).2
   show((((((decide (b+1=b+1)&&decide (M.base<=b))&&decide (M.floor<=b))&&decide (b<M.next))&&(M.blk b).kind==1)&&((M.blk b).cs.all (·.isSome)))&&(b !=w))=U
   rw[r.kind,r.cs];simp[(a.ne m).2,u,r.lt,v]
 have J:j0 (vf d q c 0)=U:=Fy H 4 rfl;simp[i,N,F,L,f.bI,f.opn,f.gd.pend,f.floor,K,J]
def TJ (m:Mem)(d q n sz:Nat){α:Type}(E:pI α)(st:Nat->List α)(bo:Nat->Option Nat)(xs:List ab)(M:Mem)(BA:Nat->Prop)(k:Nat):Prop:=
 ∃sv mw m2 BE,xs[q+2*k]?=Z sv/\xs[q+2*k+1]?=Z (I 0)/\(mI E sz BA BE m2 (Sc st n k) sv/\∀b,BE b->ik mw m2 b)/\(∀b,BA b->bo k=Z b\/ik mw m2 b)/\m.next<=mw.next/\Ka (λb=>b=d\/∃i,k<i/\bo i=Z b) m2 M
theorem TJ.set{m M f:Mem}{d q n sz k j:Nat}{α:Type}{E:pI α}{st:Nat->List α}{c:Nat->Option Nat}{xs:List ab}{a b:ab}{g:Nat->Prop}(h:TJ m d q n sz E st c xs M g k)(s:k<j)(r:Ka (λb=>b=d\/c j=Z b) M f):TJ m d q n sz E st c ((xs.set (q+2*j) a).set (q+2*j+1) b) f g k:=by
 obtain⟨i,l,o,A,z,x,w,v,u,t⟩:=h;exact⟨i,l,o,A,by rw[List.getElem?_set_ne ai,List.getElem?_set_ne ai];exact z,by rw[List.getElem?_set_ne ai,List.getElem?_set_ne ai];exact x,w,v,u,t.trans (r.mono λy _ p=>p.elim .inl λe=> .inr ⟨j,s,e⟩)⟩
section
variable {K:fE}{fl go sh ga em t sz:Nat}
theorem UJ (a:go=X0.HD\/go=X0.HB){M:Mem}{t0 b g f c d q j:Nat}(e:M.dP t0 0 1=Z [vP d q])(hi:M.dP b 0 1=Z [I (j:Int)]):tS X0 (.func (.func go) #[] #[vP t0 0,vP b 0,vP g 0,vP f 0,vP c 0]) M=Z (d,q,j):=by
 unfold tS
 show(if go=X0.HD\/go=X0.HB then _ else Y)=_
 rw[bh a]
 show(match M.dP t0 0 1,M.dP b 0 1 with |some [.pointer (Z ⟨d,o,Y⟩)],Z [.int .i64 i]=>if 0<=i then Z (d,o,i.toNat)else Y|_,_=>Y)=_
 rw[e,hi]
 show(if(0:Int)<=(j:Int)then Z (d,q,((j:Int)).toNat)else Y)=_
 rw[bh ai];rfl
theorem O0 (L:Kin fl go sh ga em t)(ht:uA.contains (t,sz)=U){α:Type}{E:pI α}{X:Nat->Prop}{fs n:Nat}{F:Array ab}{st:Nat->List α}{m:Mem}{d q:Nat}{cs:List ab}{l:Nat->Option Nat}{al:Option Nat}(hK:B9 K)(fA:B5 KW m X fs F E sz st n)(hXd:X d)(hXb:∀k b,l k=Z b->X b)
  (cm:Calm m)(o:Obj m d 0 cs)(hb:m.base<=d)(C:lq m d q sz cs l al)(hs:n<21000):
  ∃t M p A r,(∀t' M',aC K (fp fl) (bX fl) 5 ⟨t,M,[]⟩ .ret ⟨t',M',[]⟩->aC K (fp fl) (bX fl) 0 ⟨entry [vP d q,I n,.func (.func fs) #[] F],m,[]⟩ .ret ⟨t',M',[]⟩)/\
   bj [3,8] t=[vP A 0,vP r 0]/\RO M A 0 [vP d q]/\m.next<=A/\m.next<=r/\(∃u B,FH M r d q u B 4 l/\m.next<=u)/\M.base=m.base/\M.home=m.home/\Ka (λb=>b=d\/∃i,l i=Z b) m M/\
   RO M d 0 p/\p.length=cs.length/\(∀x,x<q\/q+8<=x->p[x]?=cs[x]?)/\∃z:Nat->Nat->Prop,(∀k,k<4->TJ m d q n sz E st l p M (z k) k)/\(∀i k b,i<k->k<4->z i b->¬z k b)/\∀k b,k<4->z k b->l k=Z b\/(m.next<=b/\b<M.next):=by
 have g:=cm.gd;have hl:=C.len;obtain⟨A,hb3⟩:∃b,b=m.next:=⟨_,rfl⟩;obtain⟨m1,e1,o1,k1,n1,_⟩:=bz g [vP d q];obtain⟨b5,hb5⟩:∃b,b=m1.next:=⟨_,rfl⟩;obtain⟨m2,e2,o2,k2,n2,_⟩:=bz (g.ext k1) [.func (.func fs) #[] F];obtain⟨r,hb8⟩:∃b,b=m2.next:=⟨_,rfl⟩;have nR:=k1.aX k2;obtain⟨m3,e3,o3,k3,n3,jh⟩:=bz (g.ext nR) [.int .u64 0,.int .u32 0];rw[<-hb3]at e1 o1;rw[<-hb5]at e2 o2;rw[<-hb8]at e3 o3 jh;have pf:=nR.aX k3;have M0:=o.lt;have L1:∀j b,l j=Z b->b<m.next:=λj b h=>C.lt h
 obtain⟨t0,w0,e0⟩:=aU (K:=K) (m:=m) (m':=m3) (tm:=entry [vP d q,I n,.func (.func fs) #[] F]) (L.afY d q n fs A b5 r ((n+3) / 4) F) rfl (.mem e1<|.mem e2<|.mem e3<|.val (size_eq ai _) .nil);have ja:Qk U (((n+3) / 4:Nat):Int) 8=((MY n:Nat):Int):=agr _ 8;rw[ja]at e0;have uo:=cm.ext pf;have apO:MY n<=21000:=by unfold MY;omega
 obtain⟨e,t1,M,he,hx,rfl,hg,H,ap5,Mb,QU,N,p,G,Zq,QB,R,gh,Gq,Gr⟩:=eN (K:=K) (nt:=fp fl) (a:=qk (bX fl) [4]) 4
  (Inv:=λj tm M=>bj [1,3,5,8,9,18] tm=[I n,vP A 0,vP b5 0,vP r 0,I (MY n:Nat),I j]/\RO M A 0 [vP d q]/\RO M b5 0 [.func (.func fs) #[] F]/\((j=0/\M=m3)\/∃u B,FH M r d q u B j l/\m3.next<=u)/\M.base=m.base/\M.home=m.home/\m3.next<=M.next/\Ka (λb=>b=d\/∃i,i<j/\l i=Z b) m M/\
   ∃p,RO M d 0 p/\p.length=cs.length/\(∀x,x<q\/q+2*j<=x->p[x]?=cs[x]?)/\∃z:Nat->Nat->Prop,(∀k,k<j->TJ m d q n sz E st l p M (z k) k)/\(∀i k b,i<k->k<j->z i b->¬z k b)/\∀k b,k<j->z k b->l k=Z b\/(m.next<=b/\b<M.next))
  (dm:=λe tm M=>e=.exit 0/\bj [3,8] tm=[vP A 0,vP r 0]/\RO M A 0 [vP d q]/\(∃u B,FH M r d q u B 4 l/\m.next<=u)/\M.base=m.base/\M.home=m.home/\Ka (λb=>b=d\/∃i,l i=Z b) m M/\
   ∃p,RO M d 0 p/\p.length=cs.length/\(∀x,x<q\/q+8<=x->p[x]?=cs[x]?)/\∃z:Nat->Nat->Prop,(∀k,k<4->TJ m d q n sz E st l p M (z k) k)/\(∀i k b,i<k->k<4->z i b->¬z k b)/\∀k b,k<4->z k b->l k=Z b\/(m.next<=b/\b<M.next))
  (by
   rintro j tm M hj ⟨hg,H,hr5,SR,Mb,QU,hMn,N,p,G,Zq,QB,R,gh,Gq,Gr⟩;refine .inl ?_;have sdM:Sd M:=by
    rcases SR with⟨_,rfl⟩|⟨u,B,h,_⟩
    .exact uo.gd.sd
    .exact h.sd
   obtain⟨M1,M2,a1,a2,oi,ka,na⟩:=sdM.ZL (I 0) (I j) rfl;have sd2:=sdM.ext ka;have ef:Qk O (ly j (MY n:Nat)) n=((uR n j:Nat):Int):=by
    have hm:j*MY n<=3*21000:=Nat.mul_le_mul ai apO;rw[Lw ai,Od];rfl
   obtain⟨M3,M4,a3,a4,of',kb,nb⟩:=sd2.ZL (I 0) (I (uR n j:Nat)) rfl;have sd4:=sd2.ext kb;have et:Qk O (bU (uR n j:Nat) ((MY n:Nat):Int)) n=((FW n j:Nat):Int):=by
    have hm:uR n j<=21000:=by unfold uR;omega
    rw[oU ai,Od];rfl
   obtain⟨M5,c,a5,a6,ot,kc,nc⟩:=sd4.ZL (I 0) (I (FW n j:Nat)) rfl;have y:Kp M c eK:=(ka.aX kb).aX kc;have nM6:c.next=M.next+3:=ai;obtain⟨bi,hbi⟩:∃b,b=M.next:=⟨_,rfl⟩;obtain⟨bf,hbf⟩:∃b,b=M2.next:=⟨_,rfl⟩;obtain⟨bt,hbt⟩:∃b,b=M4.next:=⟨_,rfl⟩;rw[<-hbi]at a1 a2 oi;rw[<-hbf]at a3 a4 of';rw[<-hbt]at a5 a6 ot;have oi6:=(oi.a9 kb).a9 kc;have of6:=of'.a9 kc;have r3:=H.ext y id;have r5:=hr5.ext y id;have rd:=G.ext y id;have l1:aI bi 0 M2=Z (I j,M2):=aO oi rfl;have l2:aI bf 0 M4=Z (I (uR n j:Nat),M4):=aO of' rfl;have J4:∀x,m.next<=x->∀k,l k≠Z x:=λx hx k e=>by have :=L1 k x e;omega
   have alR:Ka (λb=>b=d\/∃i,i<j/\l i=Z b) m c:=N.trans (y.Zj.mono λ_ _ h=>h.elim);have Cs:∃P u B,mo r d q c=Z P/\FH P r d q u B j l/\m3.next<=u/\(∀b,b≠r->P.blk b=c.blk b)/\P.next=c.next/\P.base=c.base/\P.home=c.home/\(M.next<u+0/\u=c.next\/B<=M.next)/\aP c.bI A=O/\aP c.bI bi=O/\(0<j->P=c):=by
    rcases SR with⟨rfl,rfl⟩|⟨u,B,mP,T⟩
    .have Q:=uo.ext y;have ow:=(o3.a9 y);have hp6:(c.blk r).pos=1:=by rw[y.blk r ai id];exact jh
     have hd6:aP c.bI d=O:=by rw[Q.bI];rfl
     have hB6:lq c d q sz p l al:=by
      have e1:c.base=m.base:=by rw[y.base,Mb]
      have kk:Ka eK m c:=(pf.aX y).Zj;refine⟨ai,λj hj=>?_,C.hi,C.inj,λh=>by rw[e1];exact C.ne h,?_,λh=>by rw[e1];exact C.Nd h⟩
      .obtain⟨sv,w,f⟩:=C.sh j hj;exact⟨sv,by rw[QB _ (.inr ai)];exact w,f.ext kk λ_ _ h=>h⟩
      .obtain⟨sv,w,f⟩:=C.all;exact⟨sv,by rw[QB _ (.inr ai)];exact w,f.ext kk λ_ _ h=>h⟩
     have J:=S9 Q (rd.obj hd6) (by rw[y.base,Mb];exact hb) hB6 ow hp6 (g.own (pf.aX y) ai) ai (J4 r ai);refine⟨_,c.next,c.next,J,⟨⟨Q.gd.deaf,?_,aj _,Q.gd.hn,?_⟩,rfl,?_,?_,rfl,?_,ai,⟨λh=>⟨(C.ne h).1,hB6.lt h⟩,C.inj⟩,aj _,aj _⟩,ai,?_,rfl,rfl,rfl,.inl ⟨ai,rfl⟩,by rw[Q.bI];rfl,by rw[Q.bI];rfl,λh=>absurd h ai⟩
     .show c.base<=c.next
      have :=Q.gd.bf;have :=Q.gd.fn;omega
     .intro s hs;have hs:s∈c.bI:=hs;rw[Q.bI]at hs;cases hs
     .show c.pend.length=0
      rw[Q.gd.pend];rfl
     .refine⟨?_,λk b h=>(hB6.ne h).2⟩
      show c.base<=d
      rw[y.base,Mb];exact hb
     .intro t ht;have ht:t∈c.bI:=ht;rw[Q.bI]at ht;cases ht
     .intro b gR
      show(c.bB r {}).blk b=_
      rw[Mem.eP,bH (λe=>gR e.symm)]
    .have V:=mP.ext y;have J:mo r d q c=Z c:=by
      unfold mo;rw[V.wg];exact bh rfl
     have hnp:=mP.np;have hn0:=mP.n0;have hdn:=mP.dn;exact⟨c,u,B,J,V,T,λ_ _=>rfl,rfl,rfl,rfl,.inr hnp,V.Dh ai (λk _=>J4 A ai k) (.inl ai),V.Dh ai (λk _=>J4 bi ai k) (.inr ai),λ_=>rfl⟩
   obtain⟨P,u,B,J,apv,T,Zy,hn0,aho,ahh,dQ,al4,al0,agV⟩:=Cs;have D:∀{b:Nat}{ys:List ab},RO c b 0 ys->b≠r->RO P b 0 ys:=λ{b ys} h ep=>by
    have e:=Zy b ep;exact⟨by rw[hn0];exact h.lt,by rw[e];exact h.kind,by rw[e];exact h.sz,by rw[e];exact h.cs⟩
   have agS:tS X0 (.func (.func go) #[] #[vP A 0,vP bi 0,vP bf 0,vP bt 0,vP b5 0]) c=Z (d,q,j):=
    UJ L.fill (r3.I4 (o:=0) rfl (gV al4 _ _)) (oi6.ro.I4 (o:=0) rfl (gV al0 _ _))
   have hft:=ahy n j;obtain⟨svj,apP,agY⟩:=C.sh j hj;have hxj:p[q+2*j]?=Z svj:=by rw[QB _ (.inr (aj _))];exact apP
   have v:Ka (λb=>b=d\/(∃i,i<j/\l i=Z b)\/m.next<=b) m P:=⟨by have :=alR.next;omega,λb w f=>by rw[Zy b ai];exact alR.blk b w λh=>f (h.elim .inl λh=> .inr (.inl h))⟩;have agZ:Room sz P svj (l j):=agY.ext v λb e h=>by
    rcases h with h|⟨i,hi,h⟩|h
    .exact(C.ne e).1 h
    .have :=C.inj h e;omega
    .have :=L1 j b e;omega
   have ago:∀{b:Nat},M.next<=b->b<c.next->b≠d/\(∀k,l k≠Z b)/\(b<u\/B<=b):=λw f=>⟨ai,J4 _ ai,by rcases dQ with h|h<;>omega⟩
   obtain⟨sv,mw,mq,z,BE,M',hgo,apw,gR,XV,apV,At,Az,Hu,amO,QH,QI,S⟩:=Yi (m0:=m) (fr:=uR n j) (to:=FW n j) L ht hK fA hXd hXb ai cm.bI (λb hb hx=>v.blk b hb λh=>by
     rcases h with h|⟨i,_,h⟩|h
     .exact hx (h▸hXd)
     .exact hx (hXb i b h)
     .omega) J hj apv agS (D rd ai) ai hxj agZ
    (D r3 ai) (D oi6.ro ai) (D of6.ro ai) (D ot.ro ai) (D r5 ai) (λx hx=>by
     rcases hx with rfl|rfl|rfl|rfl|rfl
     .exact⟨ai,J4 _ ai,.inl ai⟩
     .exact ago ai ai
     .exact ago ai ai
     .exact ago ai ai
     .exact⟨ai,J4 _ ai,.inl ai⟩) hft.1 hft.2 ai
   obtain⟨t2,cN,cA⟩:=aL (K:=K) (m:=M) (m':=M') L.P7 (L.afX n A b5 r j bi bf bt (MY n:Nat) ((uR n j:Nat):Int)) hg
    (.cond (FM hj)<|.mem a1<|.mem a2<|.mem l1<|.mem a3<|.mem (by rw[ef];exact a4)<|.mem l2<|.mem a5<|.mem (by rw[et];exact a6)<|.call hgo .nil)
   have nM':=S.next;have roM:∀{b:Nat}{ys:List ab},RO c b 0 ys->b≠d->l j≠Z b->b≠r->RO M' b 0 ys:=λ{b ys} h f h4 h3=>by
    have e:M'.blk b=c.blk b:=by rw[S.blk b (by have :=h.lt;omega) (λh=>h.elim f h4),Zy b h3]
    exact⟨by have :=h.lt;omega,by rw[e];exact h.kind,by rw[e];exact h.sz,by rw[e];exact h.cs⟩
   refine⟨t2,M',cN,by rw[cA,add1 ai],roM r3 ai (J4 _ ai j) ai,roM r5 ai (J4 _ ai j) ai,.inr ⟨u,M'.next,apw,T⟩,by rw[gR,aho,y.base,Mb],by rw[XV,ahh,y.home,QU],ai,?_,(p.set (q+2*j) sv).set (q+2*j+1) (I 0),apV,by simp[Zq],?_,λk=>if k=j then z else R k,?_,?_,?_⟩
   .refine⟨by have :=v.next;omega,λb w f=>?_⟩;rw[S.blk b (by have :=v.next;omega) λh=>f (h.elim .inl λh=> .inr ⟨j,ai,h⟩)];refine v.blk b w λh=>?_
    rcases h with h|⟨i,hi,h⟩|h
    .exact f (.inl h)
    .exact f (.inr ⟨i,ai,h⟩)
    .omega
   .intro x hx;rw[List.getElem?_set_ne ai,List.getElem?_set_ne ai];exact QB x ai
   .intro k hk
    by_cases W:k<j
    .have e0:=agV ai;subst e0;simp only[bH (show¬k=j by omega)];exact(gh k W).set W ((y.Zj.mono λ_ _ h=>h.elim).trans S)
    .have e:k=j:=ai;subst e;simp only[bh rfl];refine⟨sv,mw,mq,BE,?_,?_,⟨At,Hu⟩,Az,by have :=v.next;omega,⟨ai,λb _ _=>amO b⟩⟩
     .rw[List.getElem?_set_ne ai,List.getElem?_set_self ai]
     .rw[List.getElem?_set_self (by simp;omega)]
   .intro i k b hik hk w f
    by_cases W:k=j
    .simp only[bh W]at f;simp only[bH (show¬i=j by omega)]at w;rcases Gr i b ai w with w|w<;>rcases Az b f with f|f
     .have :=C.inj w f;omega
     .have :=L1 i b w;have :=f.1;have :=v.next;omega
     .have :=L1 j b f;omega
     .have :=f.1;omega
    .simp only[bH W]at f;simp only[bH (show¬i=j by omega)]at w;exact Gq i k b hik ai w f
   .intro k b hk h
    by_cases W:k=j
    .simp only[bh W]at h;rw[W];rcases Az b h with h|h
     .exact .inl h
     .exact .inr ⟨by have :=h.1;have :=v.next;omega,by have :=h.2;omega⟩
    .simp only[bH W]at h;rcases Gr k b ai h with h|h
     .exact .inl h
     .exact .inr ⟨h.1,ai⟩)
  (by
   rintro tm M ⟨hg,H,hr5,SR,Mb,QU,hMn,N,p,G,Zq,QB,R,gh,Gq,Gr⟩;obtain⟨t2,cN,cA⟩:=aL (K:=K) (m:=M) (m':=M) L.P7 (L.afW n A b5 r 4 (MY n:Nat)) hg (.cond (SF 4) .nil);rcases SR with⟨h,_⟩|⟨u,B,mP,T⟩
   .omega
   .exact⟨_,t2,M,iq,cN,rfl,cA,H,⟨u,B,mP,ai⟩,Mb,QU,N.mono λb _ h=>h.elim .inl λ⟨i,_,h⟩=> .inr ⟨i,h⟩,p,G,Zq,QB,R,gh,Gq,Gr⟩)
  (tm:=t0) (m:=m3) ⟨e0,((o1.a9 k2).a9 k3).ro,(o2.a9 k3).ro,.inl ⟨rfl,rfl⟩,pf.base,pf.home,aj _,pf.Zj.mono λ_ _ h=>h.elim,cs,(o.a9 pf).ro,rfl,λ_ _=>rfl,λ_=>eK,λk hk=>absurd hk ai,λ_ k _ _ hk=>absurd hk ai,λk _ hk=>absurd hk ai⟩ ai
 exact⟨t1,M,p,A,r,λt' M' h=>aC.cut w0 (aC.Bz L.agw L.agA hx rfl h),hg,H,ai,ai,ap5,Mb,QU,N,G,Zq,QB,R,gh,Gq,Gr⟩
end
theorem DU {α:Type}{st:Nat->List α}:∀(n i:Nat) (acc:List α),gI st n i acc=acc++gI st n i []
 |0,i,acc=>by simp[gI]
 |n+1,i,acc=>by
  unfold gI;rw[DU n (i+1) (acc++st i),DU n (i+1) ([]++st i),List.nil_append,List.append_assoc]
theorem DT {α:Type}{st:Nat->List α}:∀(a b i:Nat) (acc:List α),gI st (a+b) i acc=gI st b (i+a) (gI st a i acc)
 |0,b,i,acc=>by rw[Nat.zero_add];rfl
 |a+1,b,i,acc=>by
  rw[show a+1+b=(a+b)+1 by omega]
  show gI st (a+b) (i+1) (acc++st i)=gI st b (i+(a+1)) (gI st a (i+1) (acc++st i))
  rw[DT a b (i+1),show i+1+a=i+(a+1) by omega]
theorem yV {α:Type}{st:Nat->List α}(a:∀i,(st i).length<=1):∀(n i:Nat) (acc:List α),(gI st n i acc).length<=acc.length+n
 |0,i,acc=>aj _
 |n+1,i,acc=>by
  unfold gI;have h:=yV a n (i+1) (acc++st i);have :=a i;simp at h;omega
theorem VZ {α:Type}{st:Nat->List α}{n:Nat}:gI (Sc st n) 4 0 []=gI st n 0 []:=by
 have c:∀j,FW n j=uR n (j+1):=λj=>by
  unfold FW uR;have :(j+1)*MY n=j*MY n+MY n:=by rw[Nat.add_mul,Nat.one_mul]
  omega
 have step:∀j d,j<4->gI st (FW n 3-uR n j) (uR n j) d=gI st (FW n 3-uR n (j+1)) (uR n (j+1)) (d++Sc st n j):=λj d k=>by
  have m:=(ahy n j).1;have f:∀a b,a<=b->uR n a<=uR n b:=λa b h=>by
   unfold uR;have :=Nat.mul_le_mul_right (MY n) h;omega
  have l:=f (j+1) 4 ai;have e:FW n 3=uR n 4:=c 3;rw[show FW n 3-uR n j=(FW n j-uR n j)+(FW n 3-uR n (j+1)) by rw[e,c];have :=f j (j+1) ai;omega,DT,DU (FW n j-uR n j)];rw[show uR n j+(FW n j-uR n j)=uR n (j+1) by rw[<-c];omega];rfl
 have i:uR n 0=0:=by unfold uR;omega
 have g:FW n 3=n:=by unfold FW uR MY;omega
 have e:FW n 3=uR n 4:=c 3;have :=step 0 [] ai;rw[step 1 _ ai,step 2 _ ai,step 3 _ ai,i,g,Nat.sub_zero,show n-uR n 4=0 by rw[<-e,g];omega]at this;exact this.symm
section
variable {K:fE}{fl go sh ga em t sz:Nat}
theorem aq0 (L:Kin fl go sh ga em t)(ht:uA.contains (t,sz)=U){m:Mem}{d q:Nat}{xs:List ab}{α:Type}{E:pI α}{B0:Nat->Prop}{res:Nat->List α}{al:Option Nat}{TT:ab}(cm:Calm m)(o:Obj m d 0 xs)(s:m.base<=d)(hl:q+8<xs.length)(hav:xs[q+8]?=Z TT)(J:Room sz m TT al)(P:∀p,al=Z p->p≠d/\m.base<=p)(N:∀y,B0 y->y≠d/\al≠Z y/\y<m.next)
  (hlen:∀k,(res k).length<=21000)(gh:∀k,k<4->∃g BO BE,xs[q+2*k]?=Z g/\xs[q+2*k+1]?=Z (I 0)/\mI E sz BO BE m (res k) g/\(∀b,BO b->b≠d/\al≠Z b/\b<m.next)/\∀b,BE b->B0 b):
  ∃rv m' ys A,Ev K ga [vP d q] m (.tuple #[rv,I 0]) m'/\Kp m m' (λy=>y=d\/al=Z y)/\Obj m' d 0 ys/\ys.length=xs.length/\(∀x,x≠q+8->ys[x]?=xs[x]?)/\ys[q+8]?=Z rv/\Room sz m' rv A/\(∀p,A=Z p->ik m m' p)/\(aW E sz).R (λb=>B0 b\/ik m m' b) (gI res 4 0 []) m' rv/\(al=Y->gI res 4 0 []=[]->rv=.slice Y 0 0/\A=Y):=by
 obtain⟨G,hG⟩:∃G,G=gI res 4 0 []:=⟨_,rfl⟩;rw[<-hG];have hd:=o.lt;obtain⟨a0,n0,c0,rfl⟩:∃a n c,TT=.slice a n c:=by rcases J with⟨_,rfl⟩|⟨_,_,_,_,rfl,_⟩<;>exact⟨_,_,_,rfl⟩
 obtain⟨TV,m1,e1,k1,Qo⟩:=adt (K:=K) L ht (E:=E) J (λb s=>cm.own (P b s).2);have Ye:¬al=Z d:=λe=>(P d e).1 rfl
 have o1:=o.ext k1 Ye;have Fb:=cm.ext k1;obtain⟨ba,bc,apQ⟩:=Qo.form;obtain⟨m2,e2,o2,k2⟩:=gj (o:=q+8) TV o1 ((Fb.own (by rw[k1.base];exact s)).may _ _) hl Qo.one;have tH:Kp m m2 (λy=>y=d\/al=Z y):=(k1.mono λ_ _ h=> .inr h).trans k2 λ_ _ h=> .inl h
 have n12:=tH.next;have mn:∀p,al=Z p->p<m.next:=λp hp=>by
  rcases J with⟨h,_⟩|⟨b,_,_,h,_,r,_⟩
  .rw[hp]at h;cases h
  .rw[hp]at h;cases h;exact r.lt
 have Zn:mI E sz (λy=>al=Z y) eK m2 [] TV:=Qo.ext k2 λb s e=>s.elim (λh=>Ye (e▸h)) λh=>h
 subst apQ;obtain⟨t0,w0,e0⟩:=aU (K:=K) (m:=m) (m':=m2) (tm:=entry [vP d q]) (L.afU d q n0 c0 0 bc a0 ba) rfl (.mem (aO o hav)<|.call e1<|.mem e2 .nil);obtain⟨e,t1,m3,he,hx,rfl,hg3,k3,g,A,o3,hs3,hr3,ha3,q3,q4⟩:=eN (K:=K) (nt:=fp ga) (a:=qk (bX ga) [3]) 4
  (Inv:=λj tm M=>bj [0,13] tm=[vP d q,I j]/\Kp m M (λy=>y=d\/al=Z y)/\∃f g,Obj M d 0 (xs.set (q+8) g)/\nT g=U/\f.length<=j*21000/\gI res (4-j) j f=G/\
   ((f=[]/\g=.slice Y 0 0)\/∃b i rest,g=vL b 0 f.length dp/\(al=Z b\/ik m M b)/\Obj M b sz (i++rest)/\cE (λx u=>E.R B0 x M u/\okV sz u) f i/\(0<j->rest=[]/\ik m M b)/\(al=Y->f≠[])))
  (dm:=λe tm M=>e=.exit 0/\bj [0] tm=[vP d q]/\Kp m M (λy=>y=d\/al=Z y)/\∃g A,Obj M d 0 (xs.set (q+8) g)/\nT g=U/\Room sz M g A/\(∀p,A=Z p->ik m M p)/\(aW E sz).R (λb=>B0 b\/ik m M b) G M g/\(al=Y->G=[]->g=.slice Y 0 0/\A=Y))
  (by
   rintro j tm M T ⟨hg,C,f,g,H,h1,QS,D,fA⟩;obtain⟨svk,BO,BE,x1,x2,x3,x4,x5⟩:=gh j T;obtain⟨bka,bkc,hk⟩:=x3.form;have eo:q+j*2=q+2*j:=ai;have lsk:=x3.ext C (λb s e=>by
    rcases s with s|s
    .exact e.elim (x4 b s).1 (x4 b s).2.1
    .have :=N b (x5 b s);exact e.elim this.1 this.2.1)
   obtain⟨gS,f1,f2,f3⟩:=lsk.first;have QK:=hlen j;have W:=cm.ext C;have nk:=C.next;have l1:aI d (q+j*2+1) M=Z (I 0,M):=aO H (by rw[eo,List.getElem?_set_ne ai];exact x2);have l2:aI d (q+8) M=Z (g,M):=aO H (List.getElem?_set_self hl);have l3:aI d (q+j*2) M=Z (svk,M):=aO H (by rw[eo,List.getElem?_set_ne ai];exact x1);rw[show 4-j=(4-(j+1))+1 by omega]at D;have D:gI res (4-(j+1)) (j+1) (f++res j)=G:=D;have F:=f3.mono (Q':=λx u=>E.R B0 x M u/\okV sz u) λx u _ w=>⟨E.mono w.1 x5,w.2⟩
   have S6:∃s' z,cJ ae #[t,t] g svk M=Z (s',z)/\Kp M z (λy=>al=Z y\/m.next<=y)/\(∃ra rn rc,s'=.slice ra rn rc)/\
     (((f++res j)=[]/\s'=.slice Y 0 0)\/∃b i,s'=vL b 0 (f++res j).length dp/\ik m z b/\Obj z b sz i/\cE (λx u=>E.R B0 x z u/\okV sz u) (f++res j) i/\(al=Y->f++res j≠[])):=by
    rcases fA with⟨rfl,rfl⟩|⟨b,i,rest,rfl,ph,B,v,_,ag9⟩
    .by_cases h0:(res j).length=0
     .have OJ:res j=[]:=List.length_eq_zero_iff.1 h0;rw[OJ]at f1 f2 F;have aqk:gS=[]:=F;rw[aqk]at f1;exact⟨_,M,ML ht f1 f2,.refl _ _,⟨_,_,_,rfl⟩,.inl ⟨by rw[OJ];rfl,rfl⟩⟩
     .obtain⟨z,a1,a2,V,a4⟩:=MM W.gd ht f1 f2 F.one.1 F.one.2 h0 ai;exact⟨_,z,a1,V.sC,⟨_,_,_,rfl⟩,.inr ⟨M.next,gS,dA,⟨ai,ai⟩,a2,F.mono λx u _ w=>⟨E.ext w.1 V λ_ _ h=>h,w.2⟩,λ_ h=>h0 (by simpa using h)⟩⟩
    .have CW:m.base<=b:=by
      rcases ph with h|h
      .exact(P b h).2
      .have :=h.1;have :=cm.gd.bf;have :=cm.gd.fn;omega
     obtain⟨z,a1,a2,V,a4⟩:=Fx (len:=f.length) W.gd ht B v.one.1 (W.own (by rw[C.base];exact CW)) f1 f2 F.one.1 F.one.2 ai;have ep:∀y,B0 y->¬y=b:=λy hy e=>by
      have h':=N y hy;rcases ph with h|h
      .exact h'.2.1 (e▸h)
      .have :=h.1;omega
     exact⟨_,z,a1,V.mono λy _ h=>by rw[h];exact ph.imp id λh=>h.1,⟨_,_,_,rfl⟩,.inr ⟨M.next,i++gS,dA,⟨ai,ai⟩,a2,(v.mono λx u _ w=>⟨E.ext w.1 V ep,w.2⟩).append (F.mono λx u _ w=>⟨E.ext w.1 V ep,w.2⟩),λh h'=>ag9 h (List.append_eq_nil_iff.1 h').1⟩⟩
   obtain⟨s',z,a1,S,⟨ra,rn,rc,rfl⟩,apR⟩:=S6;have gM1:=W.gd.ext S;have hdM:¬(al=Z d\/m.next<=d):=λh=>h.elim Ye λh=>by omega
   obtain⟨M2,a2,oM2,kb⟩:=gj (o:=q+8) (.slice ra rn rc) (H.ext S hdM) (((W.ext S).own (by rw[S.base,C.base];exact s)).may _ _) (by simpa using hl) rfl;rw[List.set_set]at oM2;obtain⟨aa,an,ac,vw⟩:∃a n c,g=.slice a n c:=by rcases fA with⟨_,rfl⟩|⟨_,_,_,rfl,_⟩<;>exact⟨_,_,_,rfl⟩
   subst vw;subst hk;obtain⟨X,cN,cA⟩:=aL (K:=K) (m:=M) (m':=M2) L.P6 (L.afT d q j an ac (res j).length bkc rn rc aa bka ra) hg (.cond (FM T)<|.idx rfl T<|.mem l1<|.cond rfl<|.mem l2<|.idx rfl T<|.mem l3<|.mem (aJ W.gd)<|.mem a1<|.mem (aJ gM1)<|.mem a2 .nil);have n2:=kb.next;have n1:=S.next;refine .inl ⟨X,M2,cN,by rw[cA,add1 ai],?_,f++res j,_,oM2,rfl,by simp;omega,D,?_⟩
   .exact(C.trans S λb gR h=>h.elim .inr λh=>by omega).trans kb λb _ h=> .inl h
   .rcases apR with h|⟨b,i,e,l,B,v,Q⟩
    .exact .inl h
    .have s8:¬b=d:=by have :=l.1;omega
     have amM:ik m M2 b:=⟨l.1,by have :=l.2;omega⟩;exact .inr ⟨b,i,[],e,.inr amM,by rw[List.append_nil];exact B.ext kb s8,v.mono λx u _ w=>⟨E.ext w.1 kb λy hy=>(N y hy).1,w.2⟩,λ_=>⟨rfl,amM⟩,Q⟩)
  (by
   rintro tm M ⟨hg,C,f,g,H,h1,QS,D,fA⟩;obtain⟨X,cN,cA⟩:=aL (K:=K) (m:=M) (m':=M) L.P6 (L.afR d q 4) hg (.cond (SF 4) .nil);have D:f=G:=D;subst D;rcases fA with⟨rfl,rfl⟩|⟨b,i,rest,rfl,ph,B,v,T,Q⟩
   .exact⟨_,X,M,iq,cN,rfl,cA,C,_,Y,H,rfl,.inl ⟨rfl,rfl⟩,λ_ h=>(by cases h),aW.nil,λ_ _=>⟨rfl,rfl⟩⟩
   .obtain⟨rfl,l⟩:=T ai;rw[List.append_nil]at B;exact⟨_,X,M,iq,cN,rfl,cA,C,_,Z b,H,rfl,.inr ⟨b,_,i,rfl,rfl,B.ro,by rw[v.one.1];exact aj _⟩,λp h=>(by cases h;exact l),
     ⟨i,B.sl v.one.1 (.inl rfl),λb' _ _ _ e=>(by cases e;exact .inr l),v.mono λx u _ w=>⟨E.mono w.1 λ_ h=> .inl h,w.2⟩⟩,λh h'=>absurd h' (Q h)⟩)
  (tm:=t0) (m:=m2) ⟨e0,tH,[],_,o2,rfl,Nat.zero_le _,hG.symm,by
   rcases Zn with h|⟨b,i,rest,e,Na,_,B,v⟩
   .exact .inl h
   .have v:i=[]:=v;subst v;exact .inr ⟨b,[],rest,e,.inl Na.1,B,rfl,λh=>absurd h ai,λh=>(by rw[h]at Na;exact absurd Na.1 dA)⟩⟩ ai
 have l4:aI d (q+8) m3=Z (g,m3):=aO o3 (List.getElem?_set_self hl);obtain⟨X,h2,e3⟩:=aU (K:=K) (m:=m3) (m':=m3) (L.afQ d q g) hg3 (.mem l4 .nil);exact⟨g,m3,_,A,dE L.agf (aC.cut w0 (aC.Bz L.agv L.agz hx rfl (aC.last h2 L.WV))) (.inr rfl) e3 L.spec.2.2.2.1,k3,o3,dA,λx hx=>List.getElem?_set_ne (λe=>hx e.symm),List.getElem?_set_self hl,hr3,ha3,q3,q4⟩
end
theorem alz (a:Option Addr)(k:Int):Path 116 [.slice a 0 0,fR]
 [.val (pu ae [I 0] (convert 3 195 (I 0))) (.int .u64 0),
  .call 153 [.int .u64 0] (I k),
  .call 152 [.slice a 0 0,I 0,I 0,I k,fR] (.tuple #[])]
 (.tuple #[]):=lF
theorem aks (a:Option Addr)(k:Int):cV 152 0 2 [0,1,2,3,4] [.slice a 0 0,I 0,I 0,I k,fR]
 []
 .normal [0,1,2,3,4] [.slice a 0 0,I 0,I 0,I k,fR]:=cT
theorem afH (a:Option Addr)(k:Int):aY 152 [2] 0 99 [0,1,2,3,4] [.slice a 0 0,I 0,I 0,I k,fR]
 [yp,
  .call 205 [.slice a 0 0,I 0,I 0,fR] (.tuple #[])]
 .ret [] []:=cT
theorem aj6 (a:Option Addr):cV 205 0 1 [0,1,2,3] [.slice a 0 0,I 0,I 0,fR]
 []
 .normal [0,1,2,3,8] [.slice a 0 0,I 0,I 0,fR,I 1]:=cT
theorem afG:aY 205 [1] 0 99 [2,8] [I 0,I 1]
 [jT]
 (.exit 0) [] []:=cT
section
variable {K:fE}{m:Mem}
theorem ah1 {a:Option Addr}:Ev K 116 [.slice a 0 0,fR] m (.tuple #[]) m:=by
 have r:Ev K 205 [.slice a 0 0,I 0,I 0,fR] m (.tuple #[]) m:=by
  obtain⟨f,c,i⟩:=aU (K:=K) (m:=m) (m':=m) (tm:=entry [.slice a 0 0,I 0,I 0,fR]) (aj6 a) rfl .nil;obtain⟨e,o,p,q,g,rfl,rfl⟩:=eN (K:=K) (nt:=fp 205) (a:=cj 205 [1]) 0
   (Inv:=λj tm m'=>m'=m/\bj [0,1,2,3,8] tm=[.slice a 0 0,I 0,I 0,fR,I 1])
   (dm:=λe tm m'=>e=.exit 0/\m'=m)
   (λj tm m' h=>absurd h ai)
   (by
    rintro tm m' ⟨rfl,b⟩;have u:bj [2,8] tm=[I 0,I 1]:=by
     simp only[bj,List.map_cons,List.map_nil,List.cons.injEq,and_true]at b⊢;exact⟨b.2.2.1,b.2.2.2.2⟩
    obtain⟨d,n,t⟩:=aL (K:=K) (m:=m') (m':=m') CJ afG u (.cond rfl .nil);exact⟨_,d,m',iq,n,rfl,rfl⟩)
   (tm:=f) (m:=m) ⟨rfl,i⟩ ai
  exact dE (vs:=[]) ad1 (aC.cut c (aC.fC g (aC.done N9))) (.inl rfl) rfl
 have s:∀k:Int,Ev K 152 [.slice a 0 0,I 0,I 0,I k,fR] m (.tuple #[]) m:=λk=>by
  obtain⟨f,c,i⟩:=aU (K:=K) (m:=m) (m':=m) (tm:=entry [.slice a 0 0,I 0,I 0,I k,fR]) (aks a k) rfl .nil;obtain⟨e,o,p,q,g,rfl,rfl⟩:=eN (K:=K) (nt:=fp 152) (a:=cj 152 [2]) 0
   (Inv:=λj tm m'=>m'=m/\bj [0,1,2,3,4] tm=[.slice a 0 0,I 0,I 0,I k,fR])
   (dm:=λe tm m'=>e=.ret/\m'=m)
   (λj tm m' h=>absurd h ai)
   (by
    rintro tm m' ⟨rfl,b⟩;obtain⟨d,n,t⟩:=aL (K:=K) (m:=m') (m':=m') tZ (afH a k) b (.cond rfl<|.call r .nil);exact⟨_,d,m',iq,n,rfl,rfl⟩)
   (tm:=f) (m:=m) ⟨rfl,i⟩ ai
  exact dE (vs:=[]) ad2 (aC.cut c (aC.By Qp Qq g aM)) (.inr rfl) rfl
 exact bg (alz a _) (.val aM<|.call (show Ev K 153 [.int .u64 0] m (I (Sort.bitsLen 0:Int)) m from ahZ (l:=0) eJ)<|.call (s _) .nil)
end
theorem Um {B:Nat->Prop}{m:Mem}:∀{d:List El},(∀x∈d,bD.R B x.2 m x.1)->cE (λx u=>bD.R B x m u/\okV 1 u) (d.map (·.2)) (d.map (·.1))
 | [],_=>rfl
 |x::d,h=>by
  have a:=h x (List.mem_cons_self ..);refine⟨x.1,d.map (·.1),?_,⟨a,bD.ok a⟩,Um λy f=>h y (List.mem_cons_of_mem _ f)⟩;obtain⟨b,c,e,_⟩:=a;rw[List.map_cons,e];rfl
section
variable {K:fE}{fl go sh ga em t sz:Nat}
theorem ahU (L:Kin fl go sh ga em t)(ht:uA.contains (t,sz)=U){α:Type}{E:pI α}{X:Nat->Prop}{fs n:Nat}{cap:Array ab}{st:Nat->List α}{m:Mem}{d q:Nat}{cs:List ab}{J:Nat->Option Nat}{al:Option Nat}(hK:B9 K)(fA:B5 KW m X fs cap E sz st n)(hE:E.FG)(hXd:X d)(hXb:∀k b,J k=Z b->X b)
  (D:Calm m)(o:Obj m d 0 cs)(a:m.base<=d)(s:lq m d q sz cs J al)(hs:n<21000):
  ∃G m' w uy pK,Ev K fl [vP d q,I n,.func (.func fs) #[] cap] m (.tuple #[G,I 0]) m'/\Kp m m' (λy=>y=d\/(∃i,J i=Z y)\/al=Z y)/\Obj m' d 0 w/\w.length=cs.length/\(∀x,x<q\/q+9<=x->w[x]?=cs[x]?)/\
   lq m' d q sz w uy pK/\(∀j b,uy j=Z b->J j=Z b\/ik m m' b)/\(∀p,pK=Z p->ik m m' p)/\w[q+8]?=Z G/\(aW E sz).R (ik m m') (gI st n 0 []) m' G/\(al=Y->gI st n 0 []=[]->G=.slice Y 0 0/\pK=Y):=by
 obtain⟨t,M,xs,b3,b8,q8,hg,hr3,h3n,h8n,⟨N0,Np,T,hN0⟩,Mb,QU,hMk,hro,Zq,QB,BA,gh,Gq,Gr⟩:=O0 L ht hK fA hXd hXb D o a s hs;have M0:=o.lt;have hMn:=hMk.next;have hlen:=s.len;have L1:∀j b,J j=Z b->b<m.next:=λj b h=>s.lt h
 have dJ:M.opn=[]:=T.opn;have e1:=art hK T.wg T.sd.deaf dJ (by have :=T.sd.bf;have :=T.sd.fn;omega);obtain⟨f,A⟩:∃f,f=Eo M:=⟨_,rfl⟩;rw[<-A]at e1;have nf:f.next=M.next:=by rw[A];rfl
 have bf:∀b,f.blk b=M.blk b:=λb=>by rw[A];rfl
 have amA:f.bI=[]:=by rw[A];rfl
 have H:Kp m f (λy=>y=d\/∃i,J i=Z y):=by
  refine⟨ai,amA.trans D.bI.symm,?_,?_,?_,?_,?_,?_,?_,λb g c=>(bf b).trans (hMk.blk b g c)⟩
  .rw[A];exact dJ.trans D.opn.symm
  .rw[A];exact Mb
  .rw[A];exact QU
  .rw[A];exact Mb.trans D.floor.symm
  .rw[A];exact D.wg.symm
  .rw[A];exact D.gd.pend.symm
  .rw[A];exact T.sd.deaf.trans D.gd.deaf.symm
 have P:=D.ext H;have uL:m.base<=m.next:=by have :=D.gd.bf;have :=D.gd.fn;omega
 have tf:∀b,aP f.bI b=O:=λb=>by rw[amA];rfl
 have ro:∀{b sz:Nat}{w:List ab},RO M b sz w->RO f b sz w:=λ{b sz w} h=>⟨by rw[nf];exact h.lt,by rw[bf];exact h.kind,by rw[bf];exact h.sz,by rw[bf];exact h.cs⟩
 have l3:aI b3 0 f=Z (vP d q,f):=aO ((ro hr3).obj (tf _)) rfl;have amg:∀k,k<4->∃v Q,xs[q+2*k]?=Z v/\xs[q+2*k+1]?=Z (I 0)/\mI E sz (BA k) Q f (Sc st n k) v/\∀b,Q b->ik m f b:=by
  intro k C;obtain⟨v,mw,m2,Q,g,c,⟨N,Hu⟩,h4,h5,h6⟩:=gh k C;have h6n:=h6.next;have sm:∀{S:Nat->Prop},(∀b,S b->b≠d/\∀i,k<i->J i≠Z b)->uB S m2 f:=λhS=>⟨ai,λb a hl=>⟨(bf b).trans (h6.blk b hl λh=>h.elim (hS b a).1 λ⟨i,W,h⟩=>(hS b a).2 i W h),λ_=>tf b⟩⟩
  refine⟨v,Q,g,c,N.jq hE (sm λb a=>?_) (sm λb a=>?_) (λb a=>P.own ?_),λb a=>⟨by have :=(Hu b a).1;omega,by have :=(Hu b a).2;omega⟩⟩
  .rcases h4 b a with h|h
   .exact⟨(s.ne h).1,λi W z=>by have :=s.inj h z;omega⟩
   .have :=h.1;exact⟨ai,λi W z=>by have :=L1 i b z;omega⟩
  .have :=(Hu b a).1;exact⟨ai,λi W z=>by have :=L1 i b z;omega⟩
  .rw[H.base];rcases h4 b a with h|h
   .exact(s.ne h).2
   .have :=h.1;omega
 have Az:∀k b,k<4->BA k b->b≠d/\al≠Z b/\b<f.next:=λk b C h=>by
  obtain⟨TT,_,F⟩:=s.all;rcases Gr k b C h with h|h
  .exact⟨(s.ne h).1,λe=>(s.Nd e).2.2 k h,by have :=L1 k b h;omega⟩
  .refine⟨ai,λe=>?_,ai⟩;rcases F with⟨z,_⟩|⟨b',_,_,z,_,r,_⟩
   .rw[e]at z;cases z
   .rw[e]at z;cases z;have :=r.lt;omega
 obtain⟨TT,hav,F⟩:=s.all;have QS:∀p,al=Z p->p<m.next:=λp B=>by
  rcases F with⟨h,_⟩|⟨b,_,_,h,_,r,_⟩
  .rw[B]at h;cases h
  .rw[B]at h;cases h;exact r.lt
 have apX:Room sz f TT al:=F.ext H.Zj λb e h=>by
  rcases h with h|⟨i,h⟩
  .exact(s.Nd e).1 h
  .exact(s.Nd e).2.2 i h
 obtain⟨G,m',w,pK,e2,V,o2,hyl,hyo,hy8,Ew,nZ,q',q4⟩:=aq0 (K:=K) (E:=E) (B0:=ik m f) (res:=Sc st n) (xs:=xs) (q:=q) (TT:=TT) (al:=al) L ht P ((ro hro).obj (tf _)) (by rw[H.base];exact a) ai (by rw[QB _ (.inr (aj _))];exact hav) apX (λp B=>⟨(s.Nd B).1,by rw[H.base];exact(s.Nd B).2.1⟩)
  (λy hy=>⟨by have :=hy.1;omega,λe=>by have :=QS y e;have :=hy.1;omega,hy.2⟩)
  (λk=>by
   have g:=ahy n k;have c:=yV (st:=st) fA.one (FW n k-uR n k) (uR n k) [];unfold Sc;simp at c;omega) (λk C=>by
   obtain⟨v,Q,g,c,N,h4⟩:=amg k C;exact⟨v,BA k,Q,g,c,N,λb a=>Az k b C a,h4⟩)
 rw[VZ]at q' q4;have n2:=V.next;have cm':=P.ext V;obtain⟨t2,c,e3⟩:=aU (K:=K) (m:=M) (m':=m') (L.afV b3 b8 d q G 0) hg (.call e1<|.mem l3<|.call e2 .nil);have kk:Kp m m' (λy=>y=d\/(∃i,J i=Z y)\/al=Z y):=(H.mono λ_ _ h=>h.imp id .inl).trans V λb _ h=>h.imp id .inr
 have hex:∀k,∃ob:Option Nat,k<4->∃v,xs[q+2*k]?=Z v/\Room sz m' v ob/\∀b,ob=Z b->BA k b:=by
  intro k
  by_cases C:k<4
  .obtain⟨v,Q,g,c,N,h4⟩:=amg k C;rcases N with⟨_,rfl⟩|⟨b,c1,c2,rfl,gR,_,ob,gZ⟩
   .exact⟨Y,λ_=>⟨_,g,.inl ⟨rfl,rfl⟩,λ_ h=>(by cases h)⟩⟩
   .have ph:=Az k b C gR.1;exact⟨Z b,λ_=>⟨_,g,.inr ⟨b,_,_,rfl,rfl,ob.ro.ext V (λh=>h.elim ph.1 ph.2.1),by have :=gZ.one.1;simp;omega⟩,λ_ h=>(by cases h;exact gR.1)⟩⟩
  .exact⟨Y,λh=>absurd h C⟩
 obtain⟨YS,amN⟩:=Classical.axiomOfChoice hex;have Na:∀j b,(if j<4 then YS j else Y)=Z b->j<4/\BA j b:=λj b h=>by
  split at h
  .rename_i l;obtain⟨_,_,_,N⟩:=amN j l;exact⟨l,N b h⟩
  .cases h
 have ep:∀{j b},(if j<4 then YS j else Y)=Z b->b≠d/\m'.base<=b:=λ{j b} h=>by
  obtain⟨l,u⟩:=Na j b h;refine⟨(Az j b l u).1,?_⟩;rw[V.base,H.base];rcases Gr j b l u with h|h
  .exact(s.ne h).2
  .omega
 refine⟨G,m',w,λj=>if j<4 then YS j else Y,pK,dE L.agh (q8 _ _ (aC.last c L.WW)) (.inr rfl) e3 L.spec.2.2.2.2,kk,o2,hyl.trans Zq,λx hx=>by rw[hyo x ai];exact QB x ai,⟨ai,λj l=>?_,λj l=>bH ai,λ{i j b} g c=>?_,ep,⟨G,hy8,Ew⟩,λ{p} B=>?_⟩,λj b h=>?_,λp B=>⟨by have :=(nZ p B).1;omega,(nZ p B).2⟩,hy8,?_,q4⟩
 .obtain⟨v,g,c,_⟩:=amN j l;exact⟨v,by rw[hyo _ ai];exact g,by simp only[bh l];exact c⟩
 .obtain⟨W,g⟩:=Na i b g;obtain⟨l,c⟩:=Na j b c;rcases Nat.lt_trichotomy i j with h|h|h
  .exact absurd c (Gq i j b h l g)
  .exact h
  .exact absurd g (Gq j i b h W c)
 .have dN:=nZ p B;refine⟨by have :=dN.1;omega,by rw[V.base,H.base];have :=dN.1;omega,λj h=>?_⟩;obtain⟨l,u⟩:=Na j p h;have :=(Az j p l u).2.2;have :=dN.1;omega
 .obtain⟨l,u⟩:=Na j b h;rcases Gr j b l u with h|h
  .exact .inl h
  .exact .inr ⟨h.1,ai⟩
 .exact(aW E sz).mono q' λb a=>a.elim (λh=>⟨h.1,by have :=h.2;omega⟩) λh=>⟨by have :=h.1;omega,h.2⟩
end
def Bi (r:List Nat):ab:=.agg (r.map λ(n:Nat)=>ab.int .i32 n).toArray
abbrev Iz (r:List Nat):List ab:=r.map λ(n:Nat)=>ab.int .i32 n
abbrev wS:pI (List Nat):=jj Bi
theorem VC {r:List Nat}(h:r.length=6):okV 6 (Bi r):=⟨by simp[Bi,ab.cells,h],λy a=>by
 simp only[Bi,ab.cells,List.mem_map]at a;obtain⟨n,_,rfl⟩:=a;rfl⟩
theorem PS {r:List Nat}(h:okV 6 (Bi r)):r.length=6:=by simpa[Bi,ab.cells]using h.1
noncomputable def xj:V:=⟨0,0,⟨Array.replicate (2^60) 0⟩,O⟩
theorem vu:¬oz xj:=λh=>h rfl
noncomputable def nN(Tb:Nat->Option (List (List V)))(r:List Nat)(p:Nat)(i j:Int):V:=match Tb p with
 |none=>xj
 |some rows=>if 0<=i/\0<=j then(match r[i.toNat]? with
  |none=>xj
  |some x=>match rows[x]? with
   |none=>xj
   |some row=>match row[j.toNat]? with
    |none=>xj
    |some u=>u)else xj
theorem Tk {Tb:Nat->Option (List (List V))}{r:List Nat}{p:Nat}{i j:Int}(h:oz (nN Tb r p i j)):∃rows x row,Tb p=Z rows/\0<=i/\0<=j/\r[i.toNat]?=Z x/\rows[x]?=Z row/\row[j.toNat]?=Z (nN Tb r p i j):=by
 unfold nN at h⊢
 split at h
 .exact absurd h vu
 .rename_i rows e;simp only[e]
  split at h
  .rename_i a;rw[bh a]
   split at h
   .exact absurd h vu
   .rename_i x b
    split at h
    .exact absurd h vu
    .rename_i row d
     split at h
     .exact absurd h vu
     .rename_i u c;exact⟨rows,x,row,rfl,a.1,a.2,b,d,c⟩
  .exact absurd h vu
def fY (BT:Nat->Prop)(Tb:Nat->Option (List (List V)))(m:Mem):Prop:=∀p rows,Tb p=Z rows->BT p/\∃cl rl,Obj m p 0 [cl,rl]/\(aW bD 1).R BT rows m rl
theorem fY.ext{BT S:Nat->Prop}{Tb:Nat->Option (List (List V))}{m m':Mem}(h:fY BT Tb m)(k:Kp m m' S)(a:∀b,BT b->¬S b):fY BT Tb m':=λp rows e=>by
 obtain⟨c,f,d,o,q⟩:=h p rows e;exact⟨c,f,d,o.ext k (a p c),(aW bD 1).ext q k a⟩
theorem fY.same{BT:Nat->Prop}{Tb:Nat->Option (List (List V))}{m m':Mem}(h:fY BT Tb m)(s:uB BT m m'):fY BT Tb m':=λp rows c=>by
 obtain⟨a,d,b,o,q⟩:=h p rows c;exact⟨a,d,b,o.pX s a,aW.jq bD.jq _ _ _ _ _ q s⟩
def B6 (BT:Nat->Prop)(Tb:Nat->Option (List (List V)))(r:List Nat)(b o sz:Nat)(m:Mem):Prop:=(∃cs,Obj m b sz cs/\(cs.drop o).take 6=Iz r/\o+6<=cs.length)/\fY BT Tb m
theorem aoM (b c o p i j x a nt e q d f s:Nat)(u:V):Path 351 [vP b 0,vP c o]
 [jF MV s,
  .mem (aI b 0) (vP p 0),
  .mem (aI p 1) (vL a 0 nt e),
  .mem (aI b 1) (I i),
  .idx i 6 i,
  .mem (aI c (o+i*1)) (.int .i32 x),
  .idx x nt x,
  .mem (aI a (0+x*1)) (vL q 0 d f),
  .mem (aI b 2) (I j),
  .idx j d j,
  .mem (fN 4 q (0+j*4)) (nQ u),
  fQ,
  rJ s 0 (MW u),
  TQ 49 s (nQ u)]
 (.tuple #[nQ u,I 0]):=lF
theorem aiR {cs:List ab}{r:List Nat}{o i x:Nat}(h:(cs.drop o).take 6=Iz r)(c:r[i]?=Z x):cs[o+i]?=Z (.int .i32 x):=by
 have a:(Iz r)[i]?=Z (.int .i32 x):=by rw[List.getElem?_map,c];rfl
 rw[<-h]at a;have b:i<6:=by
  rcases Nat.lt_or_ge i 6 with b|b
  .exact b
  .rw[List.getElem?_eq_none (by simp;omega)]at a;cases a
 rw[List.getElem?_take_of_lt b,List.getElem?_drop]at a;exact a
section
variable {K:fE}{m m':Mem}{BT:Nat->Prop}{Tb:Nat->Option (List (List V))}
theorem B6.a9{r:List Nat}{b o sz:Nat}(h:B6 BT Tb r b o sz m)(k:Kp m m' eK):B6 BT Tb r b o sz m':=by
 obtain⟨⟨e,d,c⟩,a⟩:=h;exact⟨⟨e,d.a9 k,c⟩,a.ext k λ_ _ h=>h⟩
theorem NN {r:List Nat}{n o sz:Nat}:Scope K (B6 BT Tb r n o sz) (nN Tb r) (vP n o):=by
 refine⟨λm m' h k=>h.a9 k,?_⟩;intro p i j m b hs g ⟨⟨cs,D,G,hlen⟩,jI⟩ Q;obtain⟨rows,x,row,hp,hi,hj,w,F,A⟩:=Tk hs;obtain⟨_,cl,rl,N,L⟩:=jI p rows hp;generalize nN Tb r p i j=u at*;obtain⟨i,rfl⟩:∃k:Nat,i=k:=⟨i.toNat,ai⟩;obtain⟨j,rfl⟩:∃k:Nat,j=k:=⟨j.toNat,ai⟩;rw[Int.toNat_natCast]at w A;have H:x<rows.length:=(List.getElem?_eq_some_iff.1 F).1;have v:=(List.getElem?_eq_some_iff.1 F).2;obtain⟨E,ct,uv,l,rfl,_,s,z,_,c,M⟩:=aW.get L H;rw[v]at c;obtain⟨q,C,rfl,_,P,_⟩:=c;have MZ:j<row.length:=(List.getElem?_eq_some_iff.1 A).1;obtain⟨f,e1,S,k1,n1,_⟩:=bz g [I 0,I 0,.string .empty,.bool O];have g1:=g.ext k1;have a:=Q.a9 k1;obtain⟨d,e2,R,X⟩:=jW (o:=0) u.cells S ((g.own k1 (aj _)).may _ _) (by simp[V.cells]) rfl;have J:Kp m d eK:=k1.trans (X.mono (S':=λy=>y=m.next) λ_ _ h=>h) λb hb e=>by omega
 have B:i<6:=by
  have h6:r.length<=6:=by
   have :=congrArg List.length G;simp at this;omega
  have :=(List.getElem?_eq_some_iff.1 w).1;omega
 have t:aI E (0+x*1) f=Z (vL q 0 row.length C,f):=by
  refine aO (s.a9 k1) ?_;have h1:(l.drop (x*1)).take 1=[vL q 0 row.length C]:=z;have :=congrArg (·[0]?) h1;simpa using this
 have T:fN 4 q (0+j*4) f=Z (u.val,f):=by
  refine cL (vs:=u.cells) (P.a9 k1) ?_ ?_
  .rw[Nat.zero_add];exact xA A
  .rw[jM];omega
 have W:nY ae 49 (vP m.next 0) d=Z (u.val,d):=by
  exact ko R rfl aM aM
 exact⟨d,bg (aoM b n o p i j x E rows.length ct q row.length C m.next u) (.mem e1<|.mem (aO a rfl)<|.mem (aO (N.a9 k1) rfl)<|.mem (aO a rfl)<|.idx rfl B<|.mem (aO (D.a9 k1) (by rw[Nat.mul_one];exact aiR G w))<|.idx rfl H<|.mem t<|.mem (aO a rfl)<|.idx rfl MZ<|.mem T<|.mem (aJ g1)<|.mem e2<|.mem W .nil),J⟩
end
section
variable {K:fE}{m m':Mem}{B:Nat->Prop}
theorem aeK {R:Mem->Prop}{c:Nat->Int->Int->V}{rv sv ev:ab}(sc:Scope K R c rv){xs:List X}{acc:List (List V)}{BO BE:Nat->Prop}(g:Gd m)(hr:R m)(ls:mI bD 1 BO BE m acc sv)(hBO:∀b,BO b->b<m.next)(Hu:∀b,BE b->b<m.next)
  (hx:(aW oK 1).R B xs m ev)(dV:∀x∈xs,TX c x)(hl:xs.length<9000)(ha:acc.length<2^30)(r:(nU c xs []).2=0):
  ∃zX m' Zf J1,Ev K 111 [sv,ev,rv] m (.tuple #[zX,I 0]) m'/\Kp m m' BO/\mI bD 1 Zf J1 m' (acc++[(nU c xs []).1]) zX/\(∀b,Zf b->ik m m' b)/\(∀b,J1 b->BE b\/ik m m' b):=by
 revert r
 obtain⟨L,hL⟩:∃L,L=nU c xs []:=⟨_,rfl⟩;rw[<-hL];obtain⟨a,cc,hA⟩:=aW.form hx;obtain⟨q,hq⟩:∃q,q=m.next:=⟨_,rfl⟩;obtain⟨o1,k1,n1⟩:=iy g (k:={kind:=1,sz:=4,cs:=(fT (List.replicate xs.length j6)).map Z}) (cs:=fT (List.replicate xs.length j6)) rfl rfl rfl;have e1:=apu (m:=m) (n:=xs.length) ai;generalize m.alloc {kind:=1,sz:=4,cs:=(fT (List.replicate xs.length j6)).map Z}=Q at o1 k1 n1 e1;rw[<-hq]at o1 e1;have hr0:cV 111 0 3 [0,1,2] [sv,ev,rv] [.mem (gC ae 47 (I (xs.length:Int)) (I (xs.length:Int))) (vL q 0 xs.length xs.length)] .normal [0,2,8,16,17,18] [sv,rv,vL q 0 xs.length xs.length,ev,I (xs.length:Int),I 0]:=by rw[hA];exact ak7 xs.length cc a sv rv q
 obtain⟨t0,w0,e0⟩:=aU (K:=K) (m:=m) (m':=Q) (tm:=entry [sv,ev,rv]) hr0 rfl (.mem e1 .nil);obtain⟨e,t1,l,he,wN,S,hp⟩:=eN (K:=K) (nt:=fp 111) (a:=cj 111 [3]) xs.length
  (Inv:=λj tm m'=>∃vs,bj [0,2,8,16,17,18] tm=[sv,rv,vL q 0 xs.length xs.length,ev,I (xs.length:Int),I j]/\Kp m m' eK/\Q.next<=m'.next/\vs.length=j/\Obj m' q 4 (fT (vs++List.replicate (xs.length-j) j6))/\nU c (xs.drop j) vs=L)
  (dm:=λe tm m'=>Kp m m' eK/\((e=.exit 0/\Q.next<=m'.next/\bj [0,8] tm=[sv,vL q 0 xs.length xs.length]/\L.2=0/\L.1.length=xs.length/\Obj m' q 4 (fT L.1))\/(e=.ret/\L.2≠0/\bj [6,7] tm=[.slice Y 0 0,I L.2])))
  (by
   rintro j tm l w ⟨vs,z,D,nn,s,A,d⟩;obtain⟨p,c',u,ucs,rfl,hBp,ob,hu,hle,hE,SW⟩:=aW.get ((aW oK 1).ext hx D λ_ _ h=>h) w;obtain⟨x,hy⟩:∃y,xs[j]=y:=⟨_,rfl⟩;rw[hy]at hE;have Xp:x∈xs:=by rw[<-hy];exact List.getElem_mem w
   have S3:xs.drop j=x::xs.drop (j+1):=by rw[List.drop_eq_getElem_cons w,hy]
   obtain⟨t,bx,rfl⟩:=XR.form hE;have e2:aI p (0+j*1) l=Z (.iface t (vP bx 0),l):=by
    rw[Nat.zero_add];refine aO ob ?_;have h1:(ucs.drop (j*1)).take 1=[.iface t (vP bx 0)]:=hu;have h2:=amX (i:=0) h1 ai;simpa using h2
   have W:=g.ext D;obtain⟨f,b',P,hm,G,E⟩:=cOf (K:=K) (rv:=rv) sc.keep sc.r7 x l _ W (sc.keep _ _ hr D) hE (dV x Xp);have g3:=W.ext E;obtain⟨m4,M,e4,e5,o5,k5,n5⟩:=jV g3 [I 0,I 0,.string .empty,.bool O] (sA c x).1.cells rfl rfl;have CR:=(D.aX E).aX k5;have g5:=g.ext CR;have nx3:=E.next;have nx5:=k5.next;rw[S3]at d
   by_cases r:(sA c x).2=0
   .rw[r]at G;have e6:fN 4 P.next 0 M=Z ((sA c x).1.val,M):=cL (vs:=(sA c x).1.cells) o5 rfl (af rfl);have apW:List.replicate (xs.length-j) j6=j6::List.replicate (xs.length-(j+1)) j6:=by
     rw[show xs.length-j=(xs.length-(j+1))+1 by omega];rfl
    rw[apW]at A;obtain⟨m6,e7,o6,k6⟩:=jW (o:=j*4) (sA c x).1.cells ((A.a9 E).a9 k5) ((g.own CR ai).may _ _) (by rw[jM];simp[V.cells];omega) rfl;have nx6:=k6.next;have xS:=aoa (a:=vs) (b:=List.replicate (xs.length-(j+1)) j6) j6 (sA c x).1;rw[s]at xS;rw[xS]at o6;obtain⟨C,H,J⟩:=aL (K:=K) (m:=l) (m':=m6) IP (ak5 p q xs.length c' j sv rv _ (sA c x).1 P.next) z (.cond (FM w)<|.idx rfl w<|.mem e2<|.iZ hm G<|.mem e4<|.mem e5<|.cond rfl<|.mem e6<|.idx rfl w<|.mem (by rw[Nat.zero_add];exact e7) .nil);refine .inl ⟨C,m6,H,vs++[(sA c x).1],by rw[J,add1 ai],CR.new k6 (N:=m.next) (aj _) λb T=>by omega,ai,by simp[s],o6,?_⟩;rw[<-d]
    show _=(if _ then _ else _)
    rw[bH (by rw[r];simp)]
   .obtain⟨C,H,J⟩:=aL (K:=K) (m:=l) (m':=M) IP (ak6 p q xs.length c' j sv rv _ (sA c x).1 (sA c x).2 P.next) z (.cond (FM w)<|.idx rfl w<|.mem e2<|.iZ hm G<|.mem e4<|.mem e5<|.cond (neT r) .nil);have d:(if(sA c x).2≠0 then([],(sA c x).2)else nU c (xs.drop (j+1)) (vs++[(sA c x).1]))=L:=d;rw[bh r]at d;exact .inr ⟨_,C,M,iq,H,CR,.inr ⟨rfl,by rw[<-d];exact r,by rw[J,<-d]⟩⟩)
  (by
   rintro tm l ⟨vs,z,D,nn,s,A,d⟩;rw[hA]at z;obtain⟨C,H,J⟩:=aL (K:=K) (m:=l) (m':=l) IP (ak4 q xs.length cc xs.length a sv rv) z (.cond (SF _) .nil);rw[List.drop_length]at d;have d:(vs,(0:Int))=L:=d;rw[Nat.sub_self,List.replicate_zero,List.append_nil]at A;exact⟨_,C,l,iq,H,D,.inl ⟨rfl,nn,J,by rw[<-d],by rw[<-d];exact s,by rw[<-d];exact A⟩⟩)
  (tm:=t0) (m:=Q) ⟨[],e0,k1,aj _,rfl,o1,by rw[hL];rfl⟩ ai
 intro hzL;rcases hp with⟨rfl,nn,z,r,F,A⟩|⟨rfl,r,z⟩
 .have W:=g.ext S;have n2:=S.next;have Zn:=ls.ext S λ_ _ h=>h
  have hv:bD.R (λy=>y=q) L.1 l (vL q 0 xs.length xs.length):=⟨q,xs.length,by rw[F],rfl,A,.inr F.symm⟩;obtain⟨P,m4,s',G,g3,E,e4,k4,ls4,_,n4⟩:=Zn.add (t:=29) (v:=vL q 0 xs.length xs.length) W rfl eJ hv (λb T e=>by have :=hBO b T;omega) (λb T=>by have :=Hu b T;omega) (λb e=>by omega) (bD.ok hv) ha;obtain⟨C,h2,e2⟩:=aU (K:=K) (m:=l) (m':=m4) (ak3 q xs.length sv s' l.next) z (.mem G<|.mem e4 .nil);refine⟨s',m4,_,_,dE alH (aC.cut w0 (aC.fC wN (aC.last h2 St))) (.inr rfl) e2,(S.sC.trans k4 λ_ _ h=>h),ls4,λb h=>⟨ai,ai⟩,λb h=>?_⟩;rcases h with h|h
  .exact .inl h
  .exact .inr ⟨ai,ai⟩
 .exact absurd hzL r
theorem alg (sv:ab):Path 251 [sv,.nilIface]
 [yp]
 (.tuple #[sv,I 0]):=lF
theorem alf (b n cc j s t x g:Nat)(u:V)(z:Bool)(sv:ab):Path 251 [vL b 0 n cc,.iface t (vP x 0)]
 [jT,
  .idx (cf n 1) n j,
  .val (wm ae #[.iface t (vP x 0)] "Of" (.func (.method "Of") #[.iface t (vP x 0)] #[])) (.func (.method "Of") #[.iface t (vP x 0)] #[]),
  jF MV s,
  .mem (iW (vP s 0)) (I g),
  fQ,
  .iZ (gP ae (.iface t (vP x 0)) "Of") [vP b (0+j*6)] (.tuple #[nQ u,I 0]),
  .mem (dH (I g) (vP s 0) (oJ (vP s 0))) undef,
  fQ,
  rJ s 0 (MW u),
  vT 4 s (nQ u),
  .call 273 [nQ u] (.bool z),
  bu (!z) O]
 (.tuple #[vL b 0 n cc,I 0]):=lF
theorem alh (b n cc j s t x g:Nat)(u:V)(z:Bool)(sv:ab):Path 251 [vL b 0 n cc,.iface t (vP x 0)]
 [jT,
  .idx (cf n 1) n j,
  .val (wm ae #[.iface t (vP x 0)] "Of" (.func (.method "Of") #[.iface t (vP x 0)] #[])) (.func (.method "Of") #[.iface t (vP x 0)] #[]),
  jF MV s,
  .mem (iW (vP s 0)) (I g),
  fQ,
  .iZ (gP ae (.iface t (vP x 0)) "Of") [vP b (0+j*6)] (.tuple #[nQ u,I 0]),
  .mem (dH (I g) (vP s 0) (oJ (vP s 0))) undef,
  fQ,
  rJ s 0 (MW u),
  vT 4 s (nQ u),
  .call 273 [nQ u] (.bool z),
  bu (!z) U,
  .mem (su ae 223 (vL b 0 n cc) Y (Z (I (cf n 1)))) sv]
 (.tuple #[sv,I 0]):=lF
theorem cE.Nr{α:Type}{Q:α->ab->Prop}{x:α}:∀{l:List α}{cs:List ab},cE Q (l++[x]) cs->∃a v,cs=a++v.cells.toList/\cE Q l a/\Q x v
 | [],cs,⟨v,rest,e,q,h⟩=>by
  have h:rest=[]:=h;subst h;exact⟨[],v,by simpa using e,rfl,q⟩
 |y::l,cs,⟨v,rest,e,q,h⟩=>by
  obtain⟨a,u,d,c,b⟩:=cE.Nr h;exact⟨v.cells.toList++a,u,by rw[e,d,List.append_assoc],⟨v,a,rfl,q,c⟩,b⟩
theorem shrink {b n k:Nat}(a:k<=n):su ae 223 (vL b 0 n dp) Y (Z (I k)) m=Z (vL b 0 k dp,m):=by
 obtain⟨e,d,c,_⟩:=vO (t:=223) (sz:=6) rfl;unfold su jv;simp only[d,c,ky];simp[dp,a]
theorem anu {sv:ab}:Ev K 251 [sv,.nilIface] m (.tuple #[sv,I 0]) m:=bg (alg sv) (.cond rfl .nil)
theorem ara (g:Gd m){BO BE BT:Nat->Prop}{Tb:Nat->Option (List (List V))}{acc:List (List Nat)}{r:List Nat}{sv L:ab}{x:X}(ls:mI wS 6 BO BE m (acc++[r]) sv)(jI:fY BT Tb m)(Q:XR B x m L)(dV:TX (nN Tb r) x)(hz:(sA (nN Tb r) x).2=0)(T3:acc.length<2^29):
  ∃J m',Ev K 251 [sv,L] m (.tuple #[J,I 0]) m'/\Kp m m' eK/\mI wS 6 BO BE m' (acc++if(sA (nN Tb r) x).1.beq (lr U)=U then[r]else[]) J:=by
 rcases ls with⟨h,_⟩|⟨b,cs,rest,rfl,F,R,s,T⟩
 .simp at h
 obtain⟨FR,v,rfl,QR,C,ov⟩:=T.Nr;have C:v=Bi r:=C;subst C;have LX:=QR.one.1;have h6:=PS ov;have A:(Bi r).cells.toList=Iz r:=by simp[Bi,ab.cells]
 have D:B6 BT Tb r b (0+acc.length*6) 6 m:=⟨⟨_,s,by rw[A,Nat.zero_add,<-LX,List.append_assoc,List.drop_left,List.take_left' (by simp[h6])],by simp[Bi,ab.cells];omega⟩,jI⟩;have j:(acc++[r]).length=acc.length+1:=dA;rw[j];have G:cf (acc.length+1:Nat) 1=((acc.length:Nat):Int):=sO;obtain⟨t,d,rfl⟩:=XR.form Q;obtain⟨n,e1,o1,k1,n1,_⟩:=bz g [I 0,I 0,.string .empty,.bool O];have p:=g.ext k1;obtain⟨f,b',l,E,H,c⟩:=cOf (K:=K) (rv:=vP b (0+acc.length*6)) (λm m' h k=>B6.a9 h k) NN.r7 x n _ p (D.a9 k1) (XR.ext k1 (λ_ _ h=>h) Q) dV;rw[hz]at H;have g2:=p.ext c;have o2:=o1.a9 c;obtain⟨z,e3,o3,k3⟩:=jW (o:=0) (sA (nN Tb r) x).1.cells o2 (((g.own k1 (aj _)).ext c).may _ _) (by simp[V.cells]) rfl;have M:Kp m z eK:=(k1.aX c).trans (k3.mono (S':=λy=>y=m.next) λ_ _ h=>h) λb F e=>by omega
 have g3:=g.ext M;have P:fN 4 m.next 0 z=Z ((sA (nN Tb r) x).1.val,z):=cL (vs:=(sA (nN Tb r) x).1.cells) o3 rfl (af rfl);obtain⟨N,q,k4⟩:=aq7 (K:=K) g3 (sA (nN Tb r) x).1;have a:=M.aX k4;have fA:∀{v},dH (I (((n.blk m.next).bq:Nat):Int)) v (oJ v) l=dH (I (((l.blk m.next).bq:Nat):Int)) v (oJ v) l:=λ{v}=>by rw[c.blk m.next ai id]
 have S:l.floor<=m.next:=by rw[c.floor,k1.floor];exact g.fn
 have i:wm ae #[.iface t (vP d 0)] "Of" (.func (.method "Of") #[.iface t (vP d 0)] #[])=Z (.func (.method "Of") #[.iface t (vP d 0)] #[]):=by
  unfold wm
  show(match(gP ae (.iface t (vP d 0)) "Of").isSome with |true=>_|false=>Y)=_
  rw[E];rfl
 cases W:(sA (nN Tb r) x).1.beq (lr U)with
 |true=>
  rw[W]at q;refine⟨_,N,bg (alf b (acc.length+1) dp acc.length m.next t d (n.blk m.next).bq (sA (nN Tb r) x).1 U .nilIface) (.cond rfl<|.idx G ai<|.val i<|.mem e1<|.mem (fM _ _)<|.mem (aJ p)<|.iZ E H<|.mem (fA.trans (ahO rfl S rfl))<|.mem (aJ g2)<|.mem e3<|.mem P<|.call q<|.cond rfl .nil),a,?_⟩;rw[bh rfl];exact .inr ⟨b,_,rest,by rw[j],F,R.ext a,s.a9 a,T.mono λx u _ w=>w⟩
 |false=>
  rw[W]at q;refine⟨_,N,bg (alh b (acc.length+1) dp acc.length m.next t d (n.blk m.next).bq (sA (nN Tb r) x).1 O (vL b 0 acc.length dp)) (.cond rfl<|.idx G ai<|.val i<|.mem e1<|.mem (fM _ _)<|.mem (aJ p)<|.iZ E H<|.mem (fA.trans (ahO rfl S rfl))<|.mem (aJ g2)<|.mem e3<|.mem P<|.call q<|.cond rfl<|.mem (by rw[G];exact shrink ai) .nil),a,?_⟩;rw[bH Bool.false_ne_true,List.append_nil];exact .inr ⟨b,FR,(Bi r).cells.toList++rest,rfl,F,R.ext a,by rw[<-List.append_assoc];exact s.a9 a,QR⟩
end
theorem ao1 (k f c a e h n cc more i b x l j d m o g:Nat)(sv rv w rw :ab):Path 250 [sv,I k,vP f 0,vP c 0,vP a 0,vP e 0]
 [.mem (aI f 0) (vL h 0 n cc),
  .mem (aI c 0) (I more),
  .val (jk Nat.div .i64 k more (j5 ae .quo 3 O O (I k) (I more))) (I b),
  .idx b n b,
  .mem (fN 6 h (0+b*6)) rw,
  .mem (bW ae 223 1 [(0,rw)]) (vL o 0 1 1),
  fQ,
  .mem (cJ ae #[223,223] sv (vL o 0 1 1)) (vL d 0 l m),
  .mem (aI a 0) (I i),
  .mem (iW (vP a 0)) (I g),
  .mem (aI c 0) (I more),
  .val (jk Nat.mod .i64 k more (j5 ae .rem 3 O O (I k) (I more))) (I x),
  .idx (cf l 1) l j,
  fQ,
  .val (pu ae [I x] (convert 3 21 (I x))) (.int .i32 x),
  .mem (dH (I g) (vP a 0) (fX ae 3 (vP a 0))) undef,
  .idx i 6 i,
  fQ,
  .mem (du d (0+j*6+i*1) (.int .i32 x)) undef,
  .mem (aI e 1) w,
  .call 251 [vL d 0 l m,w] (.tuple #[rv,I 0])]
 (.tuple #[rv,I 0]):=lF
theorem apa (k a b n cc s:Nat)(sv rv ev:ab):Path 110 [sv,I k,vP a 0]
 [.mem (aI a 0) (vL b 0 n cc),
  .idx k n k,
  .mem (aI b (0+k*1)) ev,
  jF [Z (.int .i32 0),Z (.int .i32 0),Z (.int .i32 0),Z (.int .i32 0),Z (.int .i32 0),Z (.int .i32 0)] s,
  .call 111 [sv,ev,vP s 0] (.tuple #[rv,I 0])]
 (.tuple #[rv,I 0]):=lF
theorem aop {i:Nat}(hi:i<90000){j:Nat}(a:0<j){d:Option ab}:jk Nat.mod .i64 i j d=Z (I (i%j:Nat)):=by
 obtain⟨j,rfl⟩:∃k,j=k+1:=⟨j-1,ai⟩;unfold jk
 show(match Nat.blt i (hZ .i64)with |true=>Z (ab.int .i64 (.ofNat (Nat.mod i (Nat.succ j))))|false=>d)=_
 have :Nat.blt i (hZ .i64)=U:=by
  rw[show hZ .i64=9223372036854775808 from rfl,lh,iU];omega
 rw[this];rfl
theorem aqT {x:Nat}(h:x<90000):pu ae [I x] (convert 3 21 (I x))=Z (.int .i32 x):=by
 have e:pu ae [I x] (convert 3 21 (I x))=Z (.int .i32 (bY.i32.wrap x)):=aM;rw[e,show bY.i32.wrap x=x by unfold bY.wrap;simp[bY.signed,bY.bits];omega]
noncomputable def Zl(Tb:Nat->Option (List (List V)))(on:Option X)(r:List Nat):Bool:=match on with
 |none=>U
 |some x=>(sA (nN Tb r) x).1.beq (lr U)
def V6 (Tb:Nat->Option (List (List V)))(on:Option X)(r:List Nat):Prop:=match on with
 |none=>True
 |some x=>TX (nN Tb r) x/\(sA (nN Tb r) x).2=0
theorem mI.noE{α:Type}{E:pI α}{sz:Nat}{a k:Nat->Prop}{m:Mem}{acc:List α}{sv:ab}(h:mI E sz a k m acc sv)(g:∀{B B':Nat->Prop} {x m v},E.R B x m v->E.R B' x m v):mI E sz a eK m acc sv:=by
 rcases h with h|⟨b,j,rest,e,f,d,c,i⟩
 .exact .inl h
 .exact .inr ⟨b,j,rest,e,⟨f.1,id⟩,d,c,i.mono λx u _ w=>⟨g w.1,w.2⟩⟩
section
variable {K:fE}{m m':Mem}{B BT:Nat->Prop}{Tb:Nat->Option (List (List V))}
theorem ant (g:Gd m){f h:Nat->Prop}{acc:List (List Nat)}{r:List Nat}{sv b:ab}{on:Option X}(d:mI wS 6 f h m (acc++[r]) sv)(i:fY BT Tb m)(a:jc.R B on m b)(e:V6 Tb on r)(j:acc.length<2^29):
  ∃c m',Ev K 251 [sv,b] m (.tuple #[c,I 0]) m'/\Kp m m' eK/\mI wS 6 f h m' (acc++if Zl Tb on r=U then[r]else[]) c:=by
 cases on with
 |none=>
  have a:b=.nilIface:=a;subst a;exact⟨sv,m,anu,.refl _ _,by unfold Zl;rw[bh rfl];exact d⟩
 |some x=>exact ara g d i a e.1 e.2 j
theorem alQ {rows:List (List Nat)}{d cc k:Nat}{Bp:Nat->Prop}(h:(aW wS 6).R Bp rows m (vL d 0 rows.length cc))(i:k<rows.length):fN 6 d (0+k*6) m=Z (Bi rows[k],m)/\okV 6 (Bi rows[k]):=by
 obtain⟨b,c,u,l,e,_,o,g,j,a,f⟩:=aW.get h i;cases e;have a:u=Bi rows[k]:=a;subst a;exact⟨cL (vs:=(Bi rows[k]).cells.toList) o (by rw[Nat.zero_add];exact g) ai,f⟩
theorem Z7 {cs:List ab}{r:List Nat}{i x:Nat}(hi:i<r.length):(cs++Iz r).set (cs.length+i) (.int .i32 x)=cs++Iz (r.set i x):=by
 rw[List.set_append_right _ _ ai,Nat.add_sub_cancel_left];simp[Iz,List.map_set]
theorem Ny {m0:Mem}{X:Nat->Prop}{rows:List (List Nat)}{more i G H j cs:Nat}{on:Option AM.X}{tv J rl:ab}{Bp:Nat->Prop}(h1:Obj m0 G 0 [rl])(h2:Obj m0 H 0 [I more])(hci:Obj m0 j 0 [I i])(gZ:Obj m0 cs 0 [tv,J])(h3:(aW wS 6).R Bp rows m0 rl)(h4:jc.R B on m0 J)(h5:fY BT Tb m0)
  (q:∀b,b=G\/b=H\/b=j\/b=cs\/Bp b\/B b\/BT b->¬X b/\b<m0.next)(dV:∀r∈rows,∀k,k<more->V6 Tb on (r.set i k))(hn:rows.length*more<90000)(hi:i<6):
  B5 KW m0 X 250 #[vP G 0,vP H 0,vP j 0,vP cs 0] wS 6 (λk=>if Zl Tb on ((rows[k / more]!).set i (k%more))=U then[(rows[k / more]!).set i (k%more)]else[]) (rows.length*more):=by
 refine⟨λi=>by split<;>simp,?_⟩;intro f BO BE a sv k hk g n V hBO Hu ha;have V:=V.noE (λh=>h);have old:∀b,¬X b/\b<m0.next->¬BO b:=λb h1 h=>by
  rcases(hBO b h).1 with h|h
  .exact h1.1 h
  .omega
 have p:0<more:=by
  rcases Nat.eq_zero_or_pos more with h|h
  .rw[h]at hk;omega
  .exact h
 have d:k / more<rows.length:=Nat.div_lt_of_lt_mul (by rw[Nat.mul_comm];exact hk);obtain⟨pr,cc,_,_,rfl,_⟩:=aW.get h3 d;have wN:=q G (.inl rfl);have cN:=q H (.inr (.inl rfl));have m:=q j (.inr (.inr (.inl rfl)));have E:=q cs (.inr (.inr (.inr (.inl rfl))));have W:∀b,Bp b->_:=λb c=>q b (.inr (.inr (.inr (.inr (.inl c)))))
 have D:∀b,B b->_:=λb c=>q b (.inr (.inr (.inr (.inr (.inr (.inl c))))))
 have C:∀b,BT b->_:=λb c=>q b (.inr (.inr (.inr (.inr (.inr (.inr c))))))
 have s1:=h1.pX n wN.1;have s2:=h2.pX n cN.1;have si:=hci.pX n m.1;have sc:=gZ.pX n E.1;have s3:=aW.jq (sz:=6) jj.jq _ _ _ _ _ h3 (n.mono λb c=>(W b c).1);have s4:jc.R B on f J:=by
  cases on with
  |none=>exact h4
  |some x=>exact XR.jq h4 (n.mono λb c=>(D b c).1)
 have s5:=h5.same (n.mono λb c=>(C b c).1);obtain⟨l3,ov⟩:=alQ s3 d;rw[getElem!_pos rows (k / more) d];generalize hr:rows[k / more]=r at*;have hrm:r∈rows:=hr▸List.getElem_mem d;have M:=PS ov;obtain⟨m2,S,s',e2,g2,k2,e3,A,l,_,n3⟩:=V.add (t:=223) (B':=eK) (y:=r) (v:=Bi r) g rfl eJ rfl (λb _ h=>h) (λb h=>h.elim) (λb h=>h.elim) ov ai;have l:=l.noE (λh=>h);have g3:=g.ext A;rcases l with⟨h,_⟩|⟨b2,c3,rest,rfl,⟨rfl,_⟩,F,s,acU⟩
 .simp at h
 obtain⟨c1,v,rfl,QR,hv,ov'⟩:=acU.Nr;have hv:v=Bi r:=hv;subst hv;have LX:=QR.one.1;have hvc:(Bi r).cells.toList=Iz r:=by simp[Bi,ab.cells]
 rw[hvc]at s;have hlr:(Iz r).length=6:=by simp[M]
 obtain⟨Q,e4,P,L⟩:=gj (o:=0+a.length*6+i*1) (.int .i32 (k%more:Nat)) s (F.may _ _) (by simp[M];omega) rfl;have g4:=g3.ext L;have hmo:k%more<more:=Nat.mod_lt _ p;have Cp:k%more<=k:=Nat.mod_le _ _;have e0:0+a.length*6+i*1=c1.length+i:=ai;rw[e0]at P;rw[List.set_append_left _ _ (by simp[M];omega),Z7 ai]at P;have nl:f.next<=f.next+1:=ai;have N:Kp f Q BO:=A.trans L λb c e=>by omega
 have z:mI wS 6 (λy=>y=f.next+1) eK Q (a++[r.set i (k%more)]) (vL (f.next+1) 0 (a++[r]).length dp):=by
  refine .inr ⟨f.next+1,_,rest,dA,⟨rfl,id⟩,F.ext L,P,?_⟩;have :cE (λx u=>wS.R eK x Q u/\okV 6 u) (a++[r.set i (k%more)]) (c1++(Bi (r.set i (k%more))).cells.toList):=cE.snoc ⟨rfl,VC (by simp[M])⟩ (QR.mono λx u _ w=>w);simpa[Bi,ab.cells]using this
 have apT:=sc.ext N (old _ E);obtain⟨zX,m5,e5,k5,T⟩:=ant (K:=KW) (on:=on) g4 z (s5.ext N λb c=>old b (C b c)) (jc.ext s4 N λb c=>old b (D b c)) (dV r hrm _ hmo) ai;have fA:(S.blk j).bq=(S.blk j).bq:=rfl;have n5:=k5.next;have n4:=L.next;have T3:(a++[r]).length=a.length+1:=dA;rw[T3]at e5 z;have ar3:=s1;refine⟨zX,m5,_,eK,bg (ao1 k G H j cs pr rows.length cc more i (k / more) (k%more) (a.length+1) a.length (f.next+1) dp f.next (S.blk j).bq sv zX J (Bi r)) (.mem (aO s1 rfl)<|.mem (aO s2 rfl)<|.val (VL ai p)<|.idx rfl d<|.mem l3<|.mem e2<|.mem (aJ g2)<|.mem (by rw[<-T3];exact e3)<|.mem (aO (si.ext A (old _ m)) rfl)<|.mem (fM _ _)<|.mem (aO (s2.ext A (old _ cN)) rfl)<|.val (aop ai p)<|.idx sO ai<|.mem (aJ g3)<|.val (aqT ai)<|.mem (AK (si.ext A (old _ m)) rfl rfl)<|.idx rfl hi<|.mem (aJ g3)<|.mem e4<|.mem (aO apT rfl)<|.call e5 .nil),N.aX k5,T,λb h=> .inr ⟨ai,ai⟩,λb h=>h.elim⟩
theorem Nv {m0:Mem}{X:Nat->Prop}{rows:List (List Nat)}{qC:List AM.X}{p w:ab}{m n:Nat}{Bp:Nat->Prop}(h1:Obj m0 m 0 [p])(W:Obj m0 n 0 [w])(z:(aW wS 6).R Bp rows m0 w)(V:(aW oK 1).R B qC m0 p)(T:fY BT Tb m0)
  (l:∀b,b=m\/b=n\/Bp b\/B b\/BT b->¬X b/\b<m0.next)(A:∀r∈rows,(∀x∈qC,TX (nN Tb r) x)/\(nU (nN Tb r) qC []).2=0)(S:qC.length<9000):
  B5 KW m0 X 253 #[vP m 0,vP n 0] bD 1 (λk=>[(nU (nN Tb (rows[k]!)) qC []).1]) rows.length:=by
 refine⟨λi=>by simp,?_⟩;intro M BO BE acc E k j g d N t Hu ha;obtain⟨y,cc,_,_,rfl,_⟩:=aW.get z j;have L:=h1.pX d (l _ (.inl rfl)).1;have J:=W.pX d (l _ (.inr (.inl rfl))).1;have H:=aW.jq (sz:=6) jj.jq _ _ _ _ _ z (d.mono λb a=>(l b (.inr (.inr (.inl a)))).1);have G:=aW.jq oK.jq _ _ _ _ _ V (d.mono λb a=>(l b (.inr (.inr (.inr (.inl a))))).1);have F:=T.same (d.mono λb a=>(l b (.inr (.inr (.inr (.inr a))))).1);obtain⟨b,c,u,cs,e,_,o,P,Q,s,ov⟩:=aW.get H j;cases e;have s:u=Bi rows[k]:=s;subst s;rw[getElem!_pos rows k j];have f:rows[k]∈rows:=List.getElem_mem j;generalize rows[k]=r at*;have q:B6 BT Tb r y (0+k*6) 6 M:=⟨⟨cs,o,by rw[Nat.zero_add,P];simp[Bi,ab.cells],ai⟩,F⟩;obtain⟨v,m',Zf,J1,e1,k1,Qo,D,C⟩:=aeK (K:=KW) NN g q N (λb a=>(t b a).2) (λb a=>(Hu b a).2) G (A r f).1 S ai (A r f).2;exact⟨v,m',Zf,J1,bg (ao0 k m n y rows.length cc E p v 0) (.mem (aO L rfl)<|.mem (aO J rfl)<|.idx rfl j<|.mem (aJ g)<|.call e1 .nil),k1,Qo,λb h=> .inr (D b h),C⟩
end
structure cZ (m:Mem)(d:Nat)(SB:Nat->Prop)(rows:List (List Nat))(cs:List ab)(bo:Nat->Option Nat)(al:Option Nat)(bm:Nat->Option Nat)(am:Option Nat)(rl:ab):Prop where
 ob:Obj m d 0 cs
 len:cs.length=18
 bd:m.base<=d
 br:lq m d 0 6 cs bo al
 bw:lq m d 9 1 cs bm am
 all:cs[8]?=Z rl
 rws:(aW wS 6).R (λy=>al=Z y) rows m rl
 sd:SB d
 sb:∀{j b},bo j=Z b\/al=Z b\/bm j=Z b\/am=Z b->SB b/\b<m.next
theorem lq.PI{m:Mem}{d q sz:Nat}{cs:List ab}{e:Nat->Option Nat}{al:Option Nat}(h:lq m d q sz cs e al){b:Nat}(a:(∃j,e j=Z b)\/al=Z b):(m.blk b).sz=sz/\b<m.next:=by
 rcases a with⟨j,a⟩|a
 .obtain⟨g,r⟩:=h.kind a;exact⟨r.sz,r.lt⟩
 .obtain⟨i,_,f⟩:=h.all;rcases f with⟨c,_⟩|⟨k,_,_,c,_,r,_⟩
  .rw[a]at c;cases c
  .rw[a]at c;cases c;exact⟨r.sz,r.lt⟩
theorem lq.keep{m m':Mem}{d q sz:Nat}{cs f:List ab}{i:Nat->Option Nat}{al:Option Nat}{S:Nat->Prop}(h:lq m d q sz cs i al)(k:Kp m m' S)(r:f.length=cs.length)(l:∀x,q<=x->x<q+9->f[x]?=cs[x]?)(u:∀b,S b->b=d\/(m.blk b).sz≠sz\/m.next<=b):lq m' d q sz f i al:=by
 have n:∀b,(∃j,i j=Z b)\/al=Z b->b≠d->¬S b:=λb a t o=>by
  obtain⟨c,e⟩:=h.PI a;rcases u b o with h|h|h
  .exact t h
  .exact h c
  .omega
 refine⟨by rw[r];exact h.len,λj s=>?_,h.hi,h.inj,λa=>by rw[k.base];exact h.ne a,?_,λp=>by rw[k.base];exact h.Nd p⟩
 .obtain⟨g,c,e⟩:=h.sh j s;exact⟨g,by rw[l _ ai ai];exact c,e.ext k.Zj λb a=>n b (.inl ⟨j,a⟩) (h.ne a).1⟩
 .obtain⟨g,c,e⟩:=h.all;exact⟨g,by rw[l _ ai ai];exact c,e.ext k.Zj λb a=>n b (.inr a) (h.Nd a).1⟩
theorem cZ.a9{m m':Mem}{d:Nat}{g:Nat->Prop}{rows:List (List Nat)}{cs:List ab}{c:Nat->Option Nat}{al:Option Nat}{e:Nat->Option Nat}{f:Option Nat}{a:ab}(h:cZ m d g rows cs c al e f a)(k:Kp m m' eK):cZ m' d g rows cs c al e f a:=
 ⟨h.ob.a9 k,h.len,by rw[k.base];exact h.bd,h.br.keep k rfl (λ_ _ _=>rfl) λ_ h=>h.elim,h.bw.keep k rfl (λ_ _ _=>rfl) λ_ h=>h.elim,h.all,(aW wS 6).ext h.rws k λ_ _ h=>h,h.sd,λb=>⟨(h.sb b).1,by have :=(h.sb b).2;have :=k.next;omega⟩⟩
theorem ao2 (d i tp n cc more k a h b c g f:Nat)(e j:Option Addr)(w rv:ab):Path 200 [vP d 0,I i,.agg #[vP tp 0,w]]
 [jF [Z (I i)] h,
  jF [Z (vP tp 0),Z w] a,
  .mem (aI d 8) (.slice e n cc),
  .mem (aI a 0) (vP tp 0),
  .mem (iW (vP a 0)) (I g),
  .mem (aI tp 1) (.slice j more k),
  .mem (iW (vP tp 1)) (I f),
  jF [Z ei] c,
  jF [Z (I 0)] b,
  fQ,
  .mem (du c 0 (.slice e n cc)) undef,
  .mem (dH (I g) (vP a 0) (fX ae 147 (vP a 0))) undef,
  .mem (dH (I f) (vP tp 1) (fX ae 29 (vP tp 1))) undef,
  fQ,
  .mem (du b 0 (I more)) undef,
  .mem (aI c 0) (.slice e n cc),
  .mem (aI b 0) (I more),
  bu (ji (ly n more) 20000) O,
  .call 249 [vP d 0,I (ly n more),.func (.func 250) #[] #[vP c 0,vP b 0,vP h 0,vP a 0]] (.tuple #[rv,I 0])]
 (I 0):=lF
theorem alw (d i tp n cc more j a k c e g f:Nat)(b h:Option Addr)(w:ab):Path 200 [vP d 0,I i,.agg #[vP tp 0,w]]
 [jF [Z (I i)] k,
  jF [Z (vP tp 0),Z w] a,
  .mem (aI d 8) (.slice b n cc),
  .mem (aI a 0) (vP tp 0),
  .mem (iW (vP a 0)) (I g),
  .mem (aI tp 1) (.slice h more j),
  .mem (iW (vP tp 1)) (I f),
  jF [Z ei] e,
  jF [Z (I 0)] c,
  fQ,
  .mem (du e 0 (.slice b n cc)) undef,
  .mem (dH (I g) (vP a 0) (fX ae 147 (vP a 0))) undef,
  .mem (dH (I f) (vP tp 1) (fX ae 29 (vP tp 1))) undef,
  fQ,
  .mem (du c 0 (I more)) undef,
  .mem (aI e 0) (.slice b n cc),
  .mem (aI c 0) (I more),
  bu (ji (ly n more) 20000) U]
 (I 9):=lF
section
variable {K:fE}{m:Mem}{B BT:Nat->Prop}{Tb:Nat->Option (List (List V))}
theorem Tg (hK:B9 K)(cm:Calm m){d:Nat}{v:Nat->Prop}{rows:List (List Nat)}{cs:List ab}{Q C:Nat->Option Nat}{al E:Option Nat}{S:ab}{fs n:Nat}{s:Array ab}{st:Nat->List (List Nat)}(D:cZ m d v rows cs Q al C E S)
  (fA:B5 KW m (λb=>b=d\/∃k,Q k=Z b) fs s wS 6 st n)(hn:n<21000):
  ∃z a gS y A,Ev K 249 [vP d 0,I n,.func (.func fs) #[] s] m (.tuple #[z,I 0]) a/\Kp m a v/\cZ a d (λb=>v b\/ik m a b) (gI st n 0 []) gS y A C E z:=by
 obtain⟨z,a,P,y,A,e,k,o,r,G,R,W,Zz,g,q,_⟩:=ahU alS (t:=223) (sz:=6) rfl hK fA jj.jq (.inl rfl) (λk b h=> .inr ⟨k,h⟩) cm D.ob D.bd D.br hn;have nk:=k.next;have X:Kp m a v:=k.mono λb _ h=>by
  rcases h with rfl|⟨i,h⟩|h
  .exact D.sd
  .exact(D.sb (.inl h)).1
  .exact(D.sb (j:=0) (.inr (.inl h))).1
 have L:lq a d 9 1 P C E:=D.bw.keep k r (λx M B=>G x (.inr ai)) λb h=>by
  rcases h with h|h|h
  .exact .inl h
  .exact .inr (.inl (by rw[(D.br.PI (.inl h)).1];decide))
  .exact .inr (.inl (by rw[(D.br.PI (.inr h)).1];decide))
 obtain⟨TT,N,H⟩:=R.all;have J:z=TT:=by rw[show(0:Nat)+8=8 by rfl]at N g;rw[g]at N;exact Option.some.inj N
 subst J;have F:∀{j b},y j=Z b\/A=Z b\/C j=Z b\/E=Z b->(v b\/ik m a b)/\b<a.next:=λ{j b} h=>by
  rcases h with h|h|h
  .rcases W j b h with f|f
   .exact⟨.inl (D.sb (.inl f)).1,by have :=(D.sb (.inl f)).2;omega⟩
   .exact⟨.inr f,f.2⟩
  .have f:=Zz b h;exact⟨.inr f,f.2⟩
  .have f:=D.sb (j:=j) (b:=b) (.inr (.inr h));exact⟨.inl f.1,ai⟩
 refine⟨_,a,P,y,A,e,X,⟨o,r.trans D.len,by rw[k.base];exact D.bd,R,L,g,?_,.inl D.sd,F⟩⟩;obtain⟨FR,V,q2,T⟩:=q;refine⟨FR,V,λb o n c e=>?_,T.mono λx u _ w=>w⟩;rcases H with⟨M,B⟩|⟨p,l,xs,M,B,_,_⟩
 .rw[B]at e;cases e
 .rw[B]at e;cases e;exact M
noncomputable def Cy(Tb:Nat->Option (List (List V)))(on:Option X)(rows:List (List Nat))(i more k:Nat):List (List Nat):=if Zl Tb on ((rows[k / more]!).set i (k%more))=U then[(rows[k / more]!).set i (k%more)]else[]
theorem aro (hK:B9 K)(cm:Calm m){d:Nat}{x:Nat->Prop}{rows:List (List Nat)}{cs:List ab}{bo bm:Nat->Option Nat}{al am:Option Nat}{rl:ab}(D:cZ m d x rows cs bo al bm am rl){i tp:Nat}{on:Option X}{s:ab}{c:List (List V)}(hi:i<6)(htp:Tb tp=Z c)(jI:fY BT Tb m)(hx:jc.R B on m s)
  (lz:∀b,B b\/BT b->¬x b/\b<m.next)(dV:rows.length*c.length<=20000->∀r∈rows,∀k,k<c.length->V6 Tb on (r.set i k))(hn:rows.length*c.length<2^40):
  ∃W j4 gS M P DJ e,Ev K 200 [vP d 0,I i,.agg #[vP tp 0,s]] m (I (e:Nat)) W/\Kp m W x/\cZ W d (λb=>x b\/ik m W b) j4 gS M P bm am DJ/\(rows.length*c.length<=20000->e=0/\j4=gI (Cy Tb on rows i c.length) (rows.length*c.length) 0 [])/\(20000<rows.length*c.length->e=9):=by
 obtain⟨C,A,hrl⟩:=aW.form D.rws;subst hrl;obtain⟨hbt,cl,tl,ot,qt⟩:=jI tp c htp;obtain⟨N,ct,htl⟩:=aW.form qt;subst htl;obtain⟨bi,hbi⟩:∃b,b=m.next:=⟨_,rfl⟩;obtain⟨m1,e1,o1,k1,n1,_⟩:=bz cm.gd [I i];have g1:=cm.gd.ext k1;obtain⟨n,Zw⟩:∃b,b=m1.next:=⟨_,rfl⟩;obtain⟨p,e2,G,k2,n2,_⟩:=bz g1 [vP tp 0,s];have g2:=g1.ext k2;have nR:=k1.aX k2;obtain⟨b7,hb7⟩:∃b,b=p.next:=⟨_,rfl⟩;obtain⟨m3,e3,o3,q,n3,_⟩:=bz g2 [.slice Y 0 0];have g3:=g2.ext q;obtain⟨yf,hbm⟩:∃b,b=m3.next:=⟨_,rfl⟩;obtain⟨m4,e4,o4,l,n4,_⟩:=bz g3 [I 0];have g4:=g3.ext l;rw[<-hbi]at e1 o1;rw[<-Zw]at e2 G;rw[<-hb7]at e3 o3;rw[<-hbm]at e4 o4;obtain⟨T,e5,o5,g⟩:=gj (o:=0) (.slice C rows.length A) (o3.a9 l) (((g2.own q ai).ext l).may _ _) dA rfl;have g5:=g4.ext g;obtain⟨H,e6,o6,J⟩:=gj (o:=0) (I (c.length:Int)) (o4.ext g ai) (((g3.own l ai).ext g).may _ _) dA rfl;have M0:=D.ob.lt;have t:Kp m H eK:=by
  have a:=(nR.aX q).aX l;have b:=a.trans (g.mono (S':=λy=>m.next<=y) λy _ h=>by omega) (S:=eK) λy hy h=>by omega
  exact b.trans (J.mono (S':=λy=>m.next<=y) λy _ h=>by omega) λy hy h=>by omega
 have FT:=cm.ext t;have n56:=g.next;have n66:=J.next;have TY:Obj H bi 0 [I i]:=((((o1.a9 k2).a9 q).a9 l).ext g ai).ext J ai;have o2':Obj H n 0 [vP tp 0,s]:=(((G.a9 q).a9 l).ext g ai).ext J ai;have v:Obj H b7 0 [.slice C rows.length A]:=o5.ext J ai;have z:=D.a9 t;have n06:=t.next;have w:ly (rows.length:Int) (c.length:Int)=((rows.length*c.length:Nat):Int):=Lw (Nat.lt_trans hn eJ);have l1:aI d 8 p=Z (.slice C rows.length A,p):=aO (D.ob.a9 nR) D.all;have u:Obj p tp 0 [cl,.slice N c.length ct]:=ot.a9 nR;have ar0:tp<m.next:=ot.lt;have F:Obj T n 0 [vP tp 0,s]:=((G.a9 q).a9 l).ext g ai;have E:Obj T tp 0 [cl,.slice N c.length ct]:=((u.a9 q).a9 l).ext g ai;have jf:(T.blk n).bq=(p.blk n).bq:=by rw[g.blk n ai ai,l.blk n ai id,q.blk n ai id]
 have yM:(T.blk tp).bq=(p.blk tp).bq:=by rw[g.blk tp ai ai,l.blk tp ai id,q.blk tp ai id]
 by_cases L:rows.length*c.length<=20000
 case neg=>exact⟨H,rows,_,_,_,_,9,bg (alw d i tp rows.length A c.length ct n bi yf b7 (p.blk n).bq (p.blk tp).bq C N s) (.mem e1<|.mem e2<|.mem l1<|.mem (aO G rfl)<|.mem (fM _ _)<|.mem (aO u rfl)<|.mem (fM _ _)<|.mem e3<|.mem e4<|.mem (aJ g4)<|.mem e5<|.mem (AK F rfl jf)<|.mem (AK E rfl yM)<|.mem (aJ g5)<|.mem e6<|.mem (aO v rfl)<|.mem (aO o6 rfl)<|.cond (by rw[w];exact dT (od (j:=20000)) ai) .nil),t.sC,{z with sd:=.inl z.sd,sb:=λf=>⟨.inl (z.sb f).1,(z.sb f).2⟩},λh=>absurd h L,λ_=>rfl⟩
 have fA:=Ny (B:=B) (BT:=BT) (Tb:=Tb) (on:=on) (rows:=rows) (more:=c.length) (i:=i) (Bp:=λy=>al=Z y) (X:=λb=>b=d\/∃k,bo k=Z b) v o6 TY o2' z.rws (jc.ext hx t λ_ _ h=>h) (jI.ext t λ_ _ h=>h) (by
  intro b f;rcases f with rfl|rfl|rfl|rfl|f|f|f
  .exact⟨λh=>h.elim ai λ⟨k,h⟩=>by have :=(D.sb (.inl h)).2;omega,ai⟩
  .exact⟨λh=>h.elim ai λ⟨k,h⟩=>by have :=(D.sb (.inl h)).2;omega,ai⟩
  .exact⟨λh=>h.elim ai λ⟨k,h⟩=>by have :=(D.sb (.inl h)).2;omega,ai⟩
  .exact⟨λh=>h.elim ai λ⟨k,h⟩=>by have :=(D.sb (.inl h)).2;omega,ai⟩
  .exact⟨λh=>h.elim (D.br.Nd f).1 λ⟨k,h⟩=>(D.br.Nd f).2.2 k h,by have :=(D.sb (j:=0) (.inr (.inl f))).2;omega⟩
  .have :=lz b (.inl f);exact⟨λh=>h.elim (λe=>this.1 (e▸D.sd)) λ⟨k,h⟩=>this.1 (D.sb (.inl h)).1,ai⟩
  .have :=lz b (.inr f);exact⟨λh=>h.elim (λe=>this.1 (e▸D.sd)) λ⟨k,h⟩=>this.1 (D.sb (.inl h)).1,ai⟩) (dV L) ai hi
 obtain⟨rv,Q,gS,M,P,e7,k7,D7⟩:=Tg hK FT z fA ai;have fin:Kp m Q x:=t.sC.trans k7 λ_ _ h=>h
 have DD:cZ Q d (λb=>x b\/ik m Q b) (gI (Cy Tb on rows i c.length) (rows.length*c.length) 0 []) gS M P bm am rv:={D7 with sd:=.inl D.sd,sb:=λf=>⟨(D7.sb f).1.imp id λh=>⟨by have :=h.1;omega,h.2⟩,(D7.sb f).2⟩};exact⟨Q,_,gS,M,P,rv,0,bg (ao2 d i tp rows.length A c.length ct n bi yf b7 (p.blk n).bq (p.blk tp).bq C N s rv) (.mem e1<|.mem e2<|.mem l1<|.mem (aO G rfl)<|.mem (fM _ _)<|.mem (aO u rfl)<|.mem (fM _ _)<|.mem e3<|.mem e4<|.mem (aJ g4)<|.mem e5<|.mem (AK F rfl jf)<|.mem (AK E rfl yM)<|.mem (aJ g5)<|.mem e6<|.mem (aO v rfl)<|.mem (aO o6 rfl)<|.cond (by rw[w];exact dF (od (j:=20000)) ai)<|.call (by rw[w];exact e7) .nil),fin,DD,λ_=>⟨rfl,rfl⟩,λh=>absurd h ai⟩
noncomputable def anY(Tb:Nat->Option (List (List V)))(x:X)(rows:List (List Nat))(k:Nat):List (List Nat):=if Zl Tb (Z x) (rows[k]!)=U then[rows[k]!]else[]
end
theorem alu (d n cc c e g a:Nat)(f b:Option Addr)(rv:ab):Path 202 [vP d 0,.slice f c e]
 [jF [Z (.slice f c e)] g,
  .mem (aI d 8) (.slice b n cc),
  jF [Z ei] a,
  .mem (du a 0 (.slice b n cc)) undef,
  .mem (aI a 0) (.slice b n cc),
  fQ,
  .call 109 [vP d 9,I n,.func (.func 253) #[] #[vP g 0,vP a 0]] (.tuple #[rv,I 0])]
 (.tuple #[rv,I 0]):=lF
def vC:pI (Nat×Option X) where
 R B s m v:=∃xv,v=.agg #[vP s.1 0,xv]/\jc.R B s.2 m xv
 mono:=by
  rintro B B' x m v ⟨xv,e,h⟩ k;exact⟨xv,e,jc.mono h k⟩
 ext:=by
  rintro B S x m m' v ⟨xv,e,h⟩ k hs;exact⟨xv,e,jc.ext h k hs⟩
theorem vC.ok{B:Nat->Prop}{s:Nat×Option X}{m:Mem}{v:ab}(h:vC.R B s m v):okV 2 v/\∃a,v=.agg #[vP s.1 0,a]/\nT a=U:=by
 obtain⟨p,d⟩:=s;obtain⟨a,rfl,h⟩:=h;have :nT a=U/\a.oneCell'=U:=by
  cases d with
  |none=>have h:a=.nilIface:=h;subst h;exact⟨rfl,rfl⟩
  |some x=>obtain⟨t,b,rfl⟩:=XR.form h;exact⟨rfl,by simp[ab.oneCell']⟩
 exact⟨⟨rfl,λy c=>by
  have c:y=vP p 0\/y=a:=by simpa[ab.cells]using c
  rcases c with rfl|rfl
  .rfl
  .exact this.2⟩,a,rfl,this.1⟩
noncomputable def dM(Tb:Nat->Option (List (List V))):List (Nat×Option X)->Nat->List (List Nat)->List (List Nat)
 | [],_,rows=>rows
 |(p,on)::l,i,rows=>dM Tb l (i+1) (gI (Cy Tb on rows i ((Tb p).getD []).length) (rows.length*((Tb p).getD []).length) 0 [])
def xO (Tb:Nat->Option (List (List V))):List (Nat×Option X)->Nat->List (List Nat)->Nat->Prop
 | [],_,_,e=>e=0
 |(p,on)::l,i,rows,e=>∃t,Tb p=Z t/\rows.length*t.length<2^40/\(rows.length*t.length<=20000->(∀r∈rows,∀k,k<t.length->V6 Tb on (r.set i k))/\xO Tb l (i+1) (gI (Cy Tb on rows i t.length) (rows.length*t.length) 0 []) e)/\(20000<rows.length*t.length->e=9)
theorem BG {Tb:Nat->Option (List (List V))}{p i e:Nat}{on:Option X}{l:List (Nat×Option X)}{rows:List (List Nat)}{t:List (List V)}(h:Tb p=Z t)(c:rows.length*t.length<=20000)(b:∀r∈rows,∀k,k<t.length->V6 Tb on (r.set i k))
  (a:xO Tb l (i+1) (gI (Cy Tb on rows i t.length) (rows.length*t.length) 0 []) e):xO Tb ((p,on)::l) i rows e:=⟨t,h,Nat.lt_of_le_of_lt c eJ,λ_=>⟨b,a⟩,λh=>absurd h ai⟩
abbrev Xh (Tb:Nat->Option (List (List V)))(l:List (Nat×Option X))(i:Nat)(rows:List (List Nat)):Prop:=xO Tb l i rows 0
noncomputable def fu(Tb:Nat->Option (List (List V)))(wh:Option X)(rows:List (List Nat)):List (List Nat):=match wh with
 |none=>rows
 |some x=>gI (anY Tb x rows) rows.length 0 []
noncomputable def uI(Tb:Nat->Option (List (List V)))(qC:List X)(rows:List (List Nat)):List (List V):=gI (λk=>[(nU (nN Tb (rows[k]!)) qC []).1]) rows.length 0 []
def cU:List Nat:=[0,0,0,0,0,0]
section
variable {K:fE}{m:Mem}{B BT:Nat->Prop}{Tb:Nat->Option (List (List V))}
theorem anw (hK:B9 K)(H:Calm m){d:Nat}{w:Nat->Prop}{rows:List (List Nat)}{cs:List ab}{J L:Nat->Option Nat}{al M:Option Nat}{Q:ab}(D:cZ m d w rows cs J al L M Q){qC:List X}{iv:ab}(jI:fY BT Tb m)(hx:(aW oK 1).R B qC m iv)
  (W:∀b,B b\/BT b->¬w b/\b<m.next)(dV:∀r∈rows,(∀x∈qC,TX (nN Tb r) x)/\(nU (nN Tb r) qC []).2=0)(hl:qC.length<9000)(hn:rows.length<21000):
  ∃n f gS A z,Ev K 202 [vP d 0,iv] m (.tuple #[n,I 0]) f/\Kp m f w/\cZ f d (λb=>w b\/ik m f b) rows gS J al A z Q/\(aW bD 1).R (ik m f) (uI Tb qC rows) f n/\(M=Y->uI Tb qC rows=[]->n=.slice Y 0 0/\z=Y):=by
 obtain⟨T,S,v⟩:=aW.form D.rws;obtain⟨ia,ic,F⟩:=aW.form hx;subst F;obtain⟨ct,G⟩:∃b,b=m.next:=⟨_,rfl⟩;obtain⟨m1,e1,V,k1,n1,_⟩:=bz H.gd [.slice ia qC.length ic];have Fb:=H.ext k1;obtain⟨cr,T5⟩:∃b,b=m1.next:=⟨_,rfl⟩;obtain⟨m2,m3,e2,e3,C,k3,n3⟩:=Fb.gd.sd.ZL (.slice Y 0 0) (.slice T rows.length S) rfl;rw[<-G]at e1 V;rw[<-T5]at e2 e3 C;have l:=k1.aX k3;have P:=H.ext l;have g:=D.a9 l;have M0:=D.ob.lt;have n03:=l.next;have fA:=Nv (B:=B) (BT:=BT) (Tb:=Tb) (rows:=rows) (qC:=qC) (Bp:=λy=>al=Z y) (X:=λb=>b=d\/∃k,L k=Z b) (V.a9 k3) C (by have :=g.rws;rw[v]at this;exact this) ((aW oK 1).ext hx l λ_ _ h=>h) (jI.ext l λ_ _ h=>h) (by
  intro b a;rcases a with rfl|rfl|a|a|a
  .exact⟨λh=>h.elim ai λ⟨k,h⟩=>by have :=(D.sb (j:=k) (.inr (.inr (.inl h)))).2;omega,ai⟩
  .exact⟨λh=>h.elim ai λ⟨k,h⟩=>by have :=(D.sb (j:=k) (.inr (.inr (.inl h)))).2;omega,ai⟩
  .refine⟨λh=>h.elim (D.br.Nd a).1 λ⟨k,h⟩=>?_,by have :=(D.sb (j:=0) (.inr (.inl a))).2;omega⟩;have p:=(D.br.PI (.inr a)).1;rw[(D.bw.PI (.inl ⟨k,h⟩)).1]at p;exact absurd p eJ
  .have :=W b (.inl a);exact⟨λh=>h.elim (λe=>this.1 (e▸D.sd)) λ⟨k,h⟩=>this.1 (D.sb (j:=k) (.inr (.inr (.inl h)))).1,ai⟩
  .have :=W b (.inr a);exact⟨λh=>h.elim (λe=>this.1 (e▸D.sd)) λ⟨k,h⟩=>this.1 (D.sb (j:=k) (.inr (.inr (.inl h)))).1,ai⟩) dV hl
 obtain⟨n,f,N,A,z,e,k,o,u,s,Hv,nK,Zz,arY,q,q4⟩:=ahU agF (t:=29) (sz:=1) rfl hK fA bD.jq (.inl rfl) (λk b h=> .inr ⟨k,h⟩) P g.ob g.bd g.bw hn;have nk:=k.next;have kS:Kp m3 f w:=k.mono λb _ h=>by
  rcases h with rfl|⟨i,h⟩|h
  .exact D.sd
  .exact(D.sb (j:=i) (.inr (.inr (.inl h)))).1
  .exact(D.sb (j:=0) (.inr (.inr (.inr h)))).1
 have E:∀b,al=Z b->¬(b=d\/(∃i,L i=Z b)\/M=Z b):=λb a h=>by
  have p:=(D.br.PI (.inr a)).1;rcases h with h|h
  .exact(D.br.Nd a).1 h
  .rw[(D.bw.PI h).1]at p;exact absurd p eJ
 have Zx:lq f d 0 6 N J al:=g.br.keep k u (λx p h2=>s x (.inl ai)) λb h=>by
  rcases h with h|h|h
  .exact .inl h
  .exact .inr (.inl (by rw[(g.bw.PI (.inl h)).1];decide))
  .exact .inr (.inl (by rw[(g.bw.PI (.inr h)).1];decide))
 refine⟨n,f,N,A,z,bg (alu d rows.length S qC.length ic ct cr ia T n) (.mem e1<|.mem (aO (D.ob.a9 k1) (by rw[D.all,v]))<|.mem e2<|.mem e3<|.mem (aO C rfl)<|.mem (aJ P.gd)<|.call e .nil),l.sC.trans kS λ_ _ h=>h,⟨o,u.trans D.len,by rw[k.base,l.base];exact D.bd,Zx,Hv,by rw[s 8 (.inl ai)];exact D.all,(aW wS 6).ext g.rws k E,.inl D.sd,?_⟩,(aW bD 1).mono q λb a=>⟨by have :=a.1;omega,a.2⟩,q4⟩;intro j b h;rcases h with h|h|h|h
 .exact⟨.inl (D.sb (.inl h)).1,by have :=(D.sb (.inl h)).2;omega⟩
 .exact⟨.inl (D.sb (j:=0) (.inr (.inl h))).1,by have :=(D.sb (j:=0) (.inr (.inl h))).2;omega⟩
 .rcases nK j b h with c|c
  .have c:=D.sb (j:=j) (b:=b) (.inr (.inr (.inl c)));exact⟨.inl c.1,ai⟩
  .exact⟨.inr ⟨by have :=c.1;omega,c.2⟩,c.2⟩
 .have c:=Zz b h;exact⟨.inr ⟨by have :=c.1;omega,c.2⟩,c.2⟩
end
theorem akP (d a b q e g:Nat)(c:Option Addr)(w f h ev:ab):cV 149 0 3 [0,1] [.agg #[.slice c a b,w,f],vP d 0]
 [jF [Z (.slice c a b),Z w,Z f] e,
  .mem (aI d 8) h,
  .call 199 [h] ev,
  .mem (bW ae 223 1 [(0,(.agg #[.int .i32 0,.int .i32 0,.int .i32 0,.int .i32 0,.int .i32 0,.int .i32 0]))]) (vL g 0 1 1),
  .mem (cJ ae #[223,223] ev (vL g 0 1 1)) (vL q 0 1 dp),
  .mem (du d 8 (vL q 0 1 dp)) undef,
  .mem (aI e 0) (.slice c a b)]
 .normal [1,2,24,25,26] [vP d 0,vP e 0,.slice c a b,I a,I 0]:=cT
theorem akM (d e ps a c i b tp:Nat)(w:ab):aY 149 [3] 0 99 [1,2,24,25,26] [vP d 0,vP e 0,vL ps 0 a c,I a,I i]
 [bu (dx i a) U,
  .idx i a i,
  .mem (fN 2 ps (0+i*2)) (.agg #[vP tp 0,w]),
  jF [Z (.pointer Y),Z .nilIface] b,
  rJ b 0 [vP tp 0,w],
  vT 2 b (.agg #[vP tp 0,w]),
  .call 200 [vP d 0,I i,.agg #[vP tp 0,w]] (I 0),
  jT]
 .normal [1,2,24,25,26] [vP d 0,vP e 0,vL ps 0 a c,I a,I (bU i 1)]:=cT
theorem akO (d e ps a c i b tp:Nat)(w:ab):aY 149 [3] 0 99 [1,2,24,25,26] [vP d 0,vP e 0,vL ps 0 a c,I a,I i]
 [bu (dx i a) U,
  .idx i a i,
  .mem (fN 2 ps (0+i*2)) (.agg #[vP tp 0,w]),
  jF [Z (.pointer Y),Z .nilIface] b,
  rJ b 0 [vP tp 0,w],
  vT 2 b (.agg #[vP tp 0,w]),
  .call 200 [vP d 0,I i,.agg #[vP tp 0,w]] (I 9),
  yp]
 .ret [4,5] [ei,I 9]:=cT
theorem akN (d b n cc:Nat)(a:Option Addr)(w:ab):cV 149 4 99 [1,2] [vP d 0,vP b 0]
 [.mem (aI b 1) w,
  .call 201 [vP d 0,w] (I 0),
  jT,
  .mem (aI d 8) (.slice a n cc),
  bu (ji n 1000) U]
 .ret [4,5] [ei,I 9]:=cT
section
variable {K:fE}{m:Mem}{B BT:Nat->Prop}{Tb:Nat->Option (List (List V))}
theorem Tf (z:Calm m){d:Nat}{G:Nat->Prop}{rows:List (List Nat)}{cs:List ab}{M T:Nat->Option Nat}{al V:Option Nat}{H:ab}(D:cZ m d G rows cs M al T V H):
  ∃F a C k g q,Ev K 199 [H] m F a/\bW ae 223 1 [(0,Bi cU)] a=Z (vL a.next 0 1 1,C)/\cJ ae #[223,223] F (vL a.next 0 1 1) C=Z (vL q 0 1 dp,k)/\du d 8 (vL q 0 1 dp) k=Z (undef,g)/\Kp m g G/\
   cZ g d (λb=>G b\/ik m g b) [cU] (cs.set 8 (vL q 0 1 dp)) M (Z q) T V (vL q 0 1 dp):=by
 obtain⟨TT,P,hr⟩:=D.br.all;have e8:TT=H:=by rw[show(0:Nat)+8=8 by rfl,D.all]at P;exact(Option.some.inj P).symm
 subst e8;have M0:=D.ob.lt;obtain⟨F,a,e1,k1,Qo⟩:=adt (K:=K) alS (t:=223) (sz:=6) rfl (E:=wS) hr (λb hb=>z.own (D.br.Nd hb).2.1);have n1:=k1.next;have Fb:=z.ext k1;obtain⟨C,k,s',e2,g2,k2,e3,k3,_,⟨_,S,rfl,J,A⟩,n3⟩:=Qo.add (t:=223) (B':=eK) (y:=cU) (v:=Bi cU) Fb.gd rfl eJ rfl (λb _ h=>h) (λb h=>h.elim) (λb h=>h.elim) (VC rfl) eJ;have Ye:¬al=Z d:=λe=>(D.br.Nd e).1 rfl
 have B:Kp m k (λy=>al=Z y):=k1.trans k3 λ_ _ h=>h
 have o3:=D.ob.ext B Ye;have X:=z.ext B;have n13:=B.next;obtain⟨g,e4,o4,L⟩:=gj (o:=8) (vL (a.next+1) 0 1 dp) o3 ((X.own (by rw[B.base];exact D.bd)).may _ _) (by rw[D.len];omega) rfl;have n4:=L.next;have i:Kp m g (λy=>y=d\/al=Z y):=(B.mono λ_ _ h=> .inr h).trans L λ_ _ h=> .inl h
 have kS:Kp m g G:=i.mono λb _ h=>h.elim (λe=>e▸D.sd) λe=>(D.sb (j:=0) (.inr (.inl e))).1
 have hlen:(cs.set 8 (vL (a.next+1) 0 1 dp)).length=cs.length:=dA;have N:∀x,x≠8->(cs.set 8 (vL (a.next+1) 0 1 dp))[x]?=cs[x]?:=λx hx=>List.getElem?_set_ne (λe=>hx e.symm)
 have l:(cs.set 8 (vL (a.next+1) 0 1 dp))[8]?=Z (vL (a.next+1) 0 1 dp):=List.getElem?_set_self (by rw[D.len];omega);have r:¬a.next+1=d:=ai;have f:Obj g (a.next+1) 6 S:=J.ext L r;have s:=A.one.1;have uL:m.base<=m.next:=by have :=z.gd.bf;have :=z.gd.fn;omega
 have W:∀j b,M j=Z b->b<m.next:=λj b h=>D.br.lt h
 refine⟨F,a,C,k,g,a.next+1,e1,e2,e3,e4,kS,⟨o4,by rw[hlen];exact D.len,by rw[i.base];exact D.bd,⟨by rw[hlen];exact D.br.len,λj hj=>?_,D.br.hi,D.br.inj,λh=>by rw[i.base];exact D.br.ne h,⟨_,l,.inr ⟨a.next+1,1,_,rfl,rfl,f.ro,by simp[s]⟩⟩,λ{p} h=>?_⟩,?_,l,?_,.inl D.sd,λ{j b} h=>?_⟩⟩
 .obtain⟨sv,R,Q⟩:=D.br.sh j hj;exact⟨sv,by rw[N _ ai];exact R,Q.ext i.Zj λb e h=>h.elim (D.br.ne e).1 λh=>(D.br.Nd h).2.2 j e⟩
 .cases h;exact⟨r,by rw[i.base];omega,λj h=>by have :=W j _ h;omega⟩
 .refine D.bw.keep i hlen (λx R Q=>N x ai) λb h=>?_
  rcases h with h|h
  .exact .inl h
  .exact .inr (.inl (by rw[(D.br.PI (.inr h)).1];decide))
 .exact⟨S,f.sl s (.inl rfl),λb o n c e=>(by cases e;rfl),A.mono λx u _ w=>w⟩
 .rcases h with h|h|h
  .exact⟨.inl (D.sb (.inl h)).1,by have :=W j b h;omega⟩
  .cases h;exact⟨.inr ⟨ai,by have :=f.lt;omega⟩,f.lt⟩
  .have :=D.sb (j:=j) (b:=b) (.inr (.inr h));exact⟨.inl this.1,ai⟩
theorem cZ.mono{d:Nat}{i C9:Nat->Prop}{rows:List (List Nat)}{cs:List ab}{e f:Nat->Option Nat}{al g:Option Nat}{a:ab}(D:cZ m d i rows cs e al f g a)(h:∀b,i b->C9 b):cZ m d C9 rows cs e al f g a:={D with sd:=h _ D.sd,sb:=λc=>⟨h _ (D.sb c).1,(D.sb c).2⟩}
theorem aeH (hK:B9 K)(cm:Calm m){d:Nat}{G:Nat->Prop}{iP:List (List Nat)}{cs:List ab}{C bm:Nat->Option Nat}{al am:Option Nat}{w:ab}(D:cZ m d G iP cs C al bm am w){f:List (Nat×Option X)}{v:Option X}{qC:List X}{sv z S:ab}{H:Nat}
  (hs:(aW vC 2).R B f m sv)(hw:jc.R B v m z)(hi:(aW oK 1).R B qC m S)(jI:fY BT Tb m)(lz:∀b,B b\/BT b->¬G b/\b<m.next)(yq:f.length<=6)(hj:xO Tb f 0 [cU] H)
  (uJ:H=0->(dM Tb f 0 [cU]).length<21000/\(v=Y)/\((fu Tb v (dM Tb f 0 [cU])).length<=1000->∀r∈fu Tb v (dM Tb f 0 [cU]),(∀x∈qC,TX (nN Tb r) x)/\(nU (nN Tb r) qC []).2=0))(hl:qC.length<9000):
  ∃W m' j4 gS uy pK yf yk DJ e,Ev K 149 [.agg #[sv,z,S],vP d 0] m (.tuple #[W,I (e:Nat)]) m'/\Kp m m' G/\cZ m' d (λb=>G b\/ik m m' b) j4 gS uy pK yf yk DJ/\
   ((e=0/\(aW bD 1).R (ik m m') (uI Tb qC (fu Tb v (dM Tb f 0 [cU]))) m' W/\(am=Y->uI Tb qC (fu Tb v (dM Tb f 0 [cU]))=[]->W=.slice Y 0 0/\yk=Y)/\H=0/\(fu Tb v (dM Tb f 0 [cU])).length<=1000)\/(e=9/\W=.slice Y 0 0/\(H=9\/H=0/\1000<(fu Tb v (dM Tb f 0 [cU])).length))):=by
 obtain⟨R,hR⟩:∃R,R=dM Tb f 0 [cU]:=⟨_,rfl⟩;rw[<-hR]at uJ⊢;have M0:=D.ob.lt;have D0:cZ m d (λb=>G b/\b<m.next) iP cs C al bm am w:={D with sd:=⟨D.sd,M0⟩,sb:=λg=>⟨D.sb g,(D.sb g).2⟩};obtain⟨n,hSX⟩:∃n:Nat->Prop,n=λb=>G b/\b<m.next:=⟨_,rfl⟩
 rw[<-hSX]at D0;have uj:∀b,n b->G b/\b<m.next:=λb h=>by rw[hSX]at h;exact h
 obtain⟨L,nJ⟩:∃b,b=m.next:=⟨_,rfl⟩;obtain⟨t,e1,o1,k1,n1,_⟩:=bz cm.gd [sv,z,S];rw[<-nJ]at e1 o1;have Fb:=cm.ext k1;obtain⟨TV,m2,m3,m4,m5,q,x1,x2,x3,x4,k5,D5⟩:=Tf (K:=K) Fb (D0.a9 k1);have n5:=k5.next;obtain⟨sa,sc,vw⟩:=aW.form hs;have zo:∀{m'},Kp t m' n->(aW vC 2).R B f m' sv/\jc.R B v m' z/\(aW oK 1).R B qC m' S/\fY BT Tb m'/\Obj m' L 0 [sv,z,S]:=λk=>by
  have hk:Kp m _ G:=k1.sC.trans k λb _ h=>(uj b h).1
  exact⟨(aW vC 2).ext hs hk λb g=>(lz b (.inl g)).1,jc.ext hw hk λb g=>(lz b (.inl g)).1,(aW oK 1).ext hi hk λb g=>(lz b (.inl g)).1,jI.ext hk λb g=>(lz b (.inr g)).1,o1.ext k λh=>by have :=(uj _ h).2;omega⟩
 have aep:∀{M N:Mem},t.next<=N.next->∀b,B b\/BT b->¬(n b\/ik t M b)/\b<N.next:=λhM b g=>by
  have :=lz b g;exact⟨λh=>h.elim (λh=>this.1 (uj b h).1) λh=>by have :=h.1;omega,ai⟩
 obtain⟨t0,w0,e0⟩:=aU (K:=K) (m:=m) (m':=m5) (tm:=entry [.agg #[sv,z,S],vP d 0]) (by rw[vw];exact akP d f.length sc q L m2.next sa z S w TV) rfl (.mem (by rw[<-vw];exact e1)<|.mem (aO (D.ob.a9 k1) D.all)<|.call x1<|.mem x2<|.mem x3<|.mem x4<|.mem (by rw[<-vw];exact aO (zo k5).2.2.2.2 rfl) .nil);rw[<-vw]at e0;obtain⟨e,t1,M,he,hx,kM,arM,gS,uy,pK,DJ,DM,Ez⟩:=eN (K:=K) (nt:=fp 149) (a:=cj 149 [3]) f.length
  (Inv:=λj tm M=>bj [1,2,24,25,26] tm=[vP d 0,vP L 0,sv,I (f.length:Int),I j]/\Kp t M n/\∃rows cs C al w,cZ M d (λb=>n b\/ik t M b) rows cs C al bm am w/\dM Tb (f.drop j) j rows=R/\xO Tb (f.drop j) j rows H)
  (dm:=λe tm M=>Kp t M n/\∃rows cs C al w,cZ M d (λb=>n b\/ik t M b) rows cs C al bm am w/\((e=.exit 0/\bj [1,2] tm=[vP d 0,vP L 0]/\rows=R/\H=0)\/(e=.ret/\bj [4,5] tm=[.slice Y 0 0,I 9]/\H=9)))
  (by
   rintro j tm M MZ ⟨A,kk,rows,cs,C,al,w,DM,F,V⟩;obtain⟨f1,f2,f3,f4,f5⟩:=zo kk;obtain⟨ps,pc,u,ucs,amc,_,ob,hu,hle,hE,SW⟩:=aW.get f1 MZ;obtain⟨⟨p,on⟩,hp⟩:∃y,f[j]=y:=⟨_,rfl⟩;rw[hp]at hE;have S3:f.drop j=(p,on)::f.drop (j+1):=by rw[List.drop_eq_getElem_cons MZ,hp]
   rw[S3]at F V;obtain⟨Q,rfl,QB⟩:=hE;obtain⟨kW,htp,hjn,hjc,hj9⟩:=V;have F:dM Tb (f.drop (j+1)) (j+1) (gI (Cy Tb on rows j ((Tb p).getD []).length) (rows.length*((Tb p).getD []).length) 0 [])=R:=F;simp only[htp,Option.getD_some]at F;have Tr:=Fb.ext kk;have nk:=kk.next;have mQ:=(vC.ok (s:=(p,on)) ⟨Q,rfl,QB⟩).1.2;obtain⟨M1,M2,a1,a2,a3,ka,na⟩:=jV Tr.gd [.pointer Y,.nilIface] [vP p 0,Q] rfl (by
    rw[aB];intro y hy;exact mQ y (by simpa[ab.cells]using hy))
   have aqW:=Tr.ext ka;have P:=DM.a9 ka;obtain⟨E,ai2,J,bo3,al3,rl3,e3,a4,k3,D3,h30,h39⟩:=aro (K:=K) (B:=B) (BT:=BT) (Tb:=Tb) (i:=j) (tp:=p) (on:=on) hK aqW P ai htp (f4.ext ka λ_ _ h=>h) (jc.ext QB ka λ_ _ h=>h) (aep ai) (λh=>(hjc h).1) hjn;have l1:fN 2 ps (0+j*2) M=Z (.agg #[vP p 0,Q],M):=cL (vs:=[vP p 0,Q]) ob (by rw[Nat.zero_add];simpa[ab.cells]using hu) ai;have l2:fN 2 M.next 0 M2=Z (.agg #[vP p 0,Q],M2):=cL (vs:=[vP p 0,Q]) a3 rfl (af rfl);rw[amc]at A;have n3:=k3.next;have Qw:Kp t E n:=(kk.aX ka).trans k3 λb g h=>h.elim id λh=>by have :=h.1;omega
   have D3':cZ E d (λb=>n b\/ik t E b) ai2 J bo3 al3 bm am rl3:=D3.mono λb h=>by
    rcases h with(h|h)|h
    .exact .inl h
    .exact .inr ⟨h.1,by have :=h.2;omega⟩
    .exact .inr ⟨by have :=h.1;omega,h.2⟩
   by_cases h20:rows.length*kW.length<=20000
   case neg=>
    right
    have e9:=h39 ai;subst e9;obtain⟨T,cN,cA⟩:=aL (K:=K) (m:=M) (m':=E) IN (akO d L ps f.length pc j M.next p Q) A (.cond (FM MZ)<|.idx rfl MZ<|.mem l1<|.mem a1<|.mem a2<|.mem l2<|.call a4<|.cond rfl .nil);exact⟨_,T,E,iq,cN,Qw,_,_,_,_,_,D3',.inr ⟨rfl,cA,hj9 ai⟩⟩
   left
   obtain⟨rfl,rfl⟩:=h30 h20;obtain⟨T,cN,cA⟩:=aL (K:=K) (m:=M) (m':=E) IN (akM d L ps f.length pc j M.next p Q) A (.cond (FM MZ)<|.idx rfl MZ<|.mem l1<|.mem a1<|.mem a2<|.mem l2<|.call a4<|.cond rfl .nil);exact⟨T,E,cN,by rw[cA,add1 ai,<-amc],Qw,_,J,bo3,al3,rl3,D3',F,(hjc h20).2⟩)
  (by
   rintro tm M ⟨A,kk,rows,cs,C,al,w,DM,F,V⟩;rw[List.drop_length]at F V;have V:H=0:=V;have F:rows=R:=F;rw[vw]at A;obtain⟨T,cN,cA⟩:=aL (K:=K) (m:=M) (m':=M) IN (akL d L f.length sc f.length sa) A (.cond (SF _) .nil);exact⟨_,T,M,iq,cN,kk,rows,cs,C,al,w,DM,.inl ⟨rfl,cA,F,V⟩⟩)
  (tm:=t0) (m:=m5) ⟨e0,k5,_,_,_,_,_,D5,hR.symm,hj⟩ ai
 have nM:=kM.next;have Tr:=Fb.ext kM;have up:∀{N:Mem}{r:List (List Nat)} {c:List ab}{o o':Nat->Option Nat}{a a':Option Nat}{l:ab},Kp t N n->cZ N d (λb=>n b\/ik t N b) r c o a o' a' l->Kp m N G/\cZ N d (λb=>G b\/ik m N b) r c o a o' a' l:=λk DD=>⟨k1.sC.trans k λb _ h=>(uj b h).1,DD.mono λb h=>h.imp (λh=>(uj b h).1) λh=>⟨by have :=h.1;omega,h.2⟩⟩
 rcases Ez with⟨rfl,A,hrr,rfl⟩|⟨rfl,A,rfl⟩
 case inr=>
  obtain⟨u1,u2⟩:=up kM DM;exact⟨_,M,_,_,_,_,_,_,_,9,dE Wo (aC.cut w0 (aC.By I2 I7 hx aM)) (.inr rfl) A,u1,u2,.inr ⟨rfl,rfl,.inl rfl⟩⟩
 rw[hrr]at DM;obtain⟨hwl,hwo,dV⟩:=uJ rfl;obtain⟨f1,f2,f3,f4,f5⟩:=zo kM;have agN:∃M2 cs C al w,Ev K 201 [vP d 0,z] M (I 0) M2/\Kp M M2 (λb=>n b\/ik t M b)/\cZ M2 d (λb=>n b\/ik t M2 b) (fu Tb v R) cs C al bm am w:=by
  cases v with
  |none=>
   have f2:z=.nilIface:=f2;subst f2;obtain⟨M2,a1,a2⟩:=anx (K:=K) (d:=d) Tr.gd;have :=a2.next;exact⟨M2,_,_,_,_,a1,a2.sC,(DM.a9 a2).mono λb h=>h.imp id λh=>⟨h.1,by have :=h.2;omega⟩⟩
  |some x=>cases hwo
 obtain⟨M2,Tl,bo2,al2,rl2,a1,k2,P⟩:=agN;have tH:Kp t M2 n:=kM.trans k2 λb g h=>h.elim id λh=>by have :=h.1;omega
 have Nc:=Fb.ext tH;obtain⟨g1,g2,g3,g4,g5⟩:=zo tH;have n12:=tH.next;obtain⟨ra,rc,hrl⟩:=aW.form P.rws
 by_cases aev:(fu Tb v R).length<=1000
 case neg=>
  obtain⟨u1,u2⟩:=up tH P;obtain⟨T,h2,e2⟩:=aU (K:=K) (m:=M) (m':=M2) (akN d L (fu Tb v R).length rc ra z) A (.mem (aO f5 rfl)<|.call a1<|.cond rfl<|.mem (aO P.ob (by rw[P.all,hrl]))<|.cond (dT (od (j:=1000)) ai) .nil);exact⟨_,M2,_,_,_,_,_,_,_,9,dE Wo (aC.cut w0 (aC.Bz I2 I7 hx rfl (aC.last h2 G9))) (.inr rfl) e2,u1,u2,.inr ⟨rfl,rfl,.inr ⟨rfl,ai⟩⟩⟩
 obtain⟨W,E,J,bm3,am3,a3,k3,D3,q3,q4⟩:=anw (K:=K) (B:=B) (BT:=BT) (Tb:=Tb) hK Nc P g4 g3 (aep ai) (dV aev) hl ai;have n3:=k3.next;obtain⟨u1,u2⟩:=up (tH.trans k3 λb g h=>h.elim id λh=>by have :=h.1;omega) (D3.mono (C9:=λb=>n b\/ik t E b) λb h=>by
  rcases h with(h|h)|h
  .exact .inl h
  .exact .inr ⟨h.1,by have :=h.2;omega⟩
  .exact .inr ⟨by have :=h.1;omega,h.2⟩)
 obtain⟨T,h2,e2⟩:=aU (K:=K) (m:=M) (m':=E) (akK d L (fu Tb v R).length rc ra z S W 0) A (.mem (aO f5 rfl)<|.call a1<|.cond rfl<|.mem (aO P.ob (by rw[P.all,hrl]))<|.cond (dF (od (j:=1000)))<|.mem (aO g5 rfl)<|.call a3 .nil);exact⟨W,E,_,J,bo2,al2,bm3,am3,rl2,0,dE Wo (aC.cut w0 (aC.Bz I2 I7 hx rfl (aC.last h2 G9))) (.inr rfl) e2,u1,u2,.inl ⟨rfl,(aW bD 1).mono q3 λb g=>⟨by have :=g.1;omega,g.2⟩,q4,rfl,aev⟩⟩
theorem aeG (N:B9 K)(S:Calm m){d:Nat}{j:Nat->Prop}{iP:List (List Nat)}{cs:List ab}{T V:Nat->Option Nat}{al z:Option Nat}{C:ab}(D:cZ m d j iP cs T al V z C){c:List (Nat×Option X)}{f:Option X}{qC:List X}{sv w y:ab}
  (J:(aW vC 2).R B c m sv)(H:jc.R B f m w)(hi:(aW oK 1).R B qC m y)(G:fY BT Tb m)(F:∀b,B b\/BT b->¬j b/\b<m.next)(A:c.length<=6)(M:Xh Tb c 0 [cU])
  (t:(dM Tb c 0 [cU]).length<21000)(s:f=Y)(W:(fu Tb f (dM Tb c 0 [cU])).length<=1000)(Q:∀r∈fu Tb f (dM Tb c 0 [cU]),(∀x∈qC,TX (nN Tb r) x)/\(nU (nN Tb r) qC []).2=0)(L:qC.length<9000):
  ∃g a p u n o l i v,Ev K 149 [.agg #[sv,w,y],vP d 0] m (.tuple #[g,I 0]) a/\Kp m a j/\cZ a d (λb=>j b\/ik m a b) p u n o l i v/\(aW bD 1).R (ik m a) (uI Tb qC (fu Tb f (dM Tb c 0 [cU]))) a g/\(z=Y->uI Tb qC (fu Tb f (dM Tb c 0 [cU]))=[]->g=.slice Y 0 0/\i=Y):=by
 obtain⟨g,a,p,u,n,o,l,i,v,e,P,k,D',h⟩:=aeH (K:=K) N S D J H hi G F A M (λ_=>⟨t,s,λ_=>Q⟩) L;rcases h with⟨rfl,q,E,_,_⟩|⟨_,_,h|h⟩
 .exact⟨g,a,p,u,n,o,l,i,v,P,k,D',q,E⟩
 .cases h
 .omega
end
noncomputable def GY(l:List (List V)):List (List V):=l.mergeSort λx y=>decide (cB x y<=0)
theorem Tq {x y z:List V}(d:cB x y<=0)(c:cB y z<=0):cB x z<=0:=by
 rcases Int.lt_or_eq_of_le d with a|a
 .rcases Int.lt_or_eq_of_le c with b|b
  .exact Int.le_of_lt (mL.trans a b)
  .rw[<-jR.1 b];exact d
 .rw[jR.1 a];exact c
theorem Dy (l:List (List V)):(GY l).Perm l/\(GY l).Pairwise λx y=>cB x y<=0:=by
 refine⟨List.mergeSort_perm _ _,?_⟩;have :=List.pairwise_mergeSort (le:=λx y=>decide (cB x y<=0)) (by simpa using λa b c e d=>Tq e d) (by
  intro a b;rw[Bool.or_eq_true,iU,iU];rcases Int.lt_or_le 0 (cB a b)with h|h
  .exact .inr (Int.le_of_lt (mL.B3 h))
  .exact .inl h) l
 exact this.imp λh=>by simpa using h
abbrev ru:=List (Nat×Option X)×Option X×List X
noncomputable def eX(Tb:Nat->Option (List (List V)))(s:ru):List (List V):=uI Tb s.2.2 (fu Tb s.2.1 (dM Tb s.1 0 [cU]))
structure pF (Tb:Nat->Option (List (List V)))(s:ru):Prop where
 src:s.1.length<=6
 join:Xh Tb s.1 0 [cU]
 jl:(dM Tb s.1 0 [cU]).length<21000
 wh:s.2.1=Y
 max:(fu Tb s.2.1 (dM Tb s.1 0 [cU])).length<=1000
 qC:∀r∈fu Tb s.2.1 (dM Tb s.1 0 [cU]),(∀x∈s.2.2,TX (nN Tb r) x)/\(nU (nN Tb r) s.2.2 []).2=0
 il:s.2.2.length<9000
structure MS (Tb:Nat->Option (List (List V)))(s:ru)(je:Nat):Prop where
 src:s.1.length<=6
 join:xO Tb s.1 0 [cU] je
 rest:je=0->(dM Tb s.1 0 [cU]).length<21000/\(s.2.1=Y)/\((fu Tb s.2.1 (dM Tb s.1 0 [cU])).length<=1000->∀r∈fu Tb s.2.1 (dM Tb s.1 0 [cU]),(∀x∈s.2.2,TX (nN Tb r) x)/\(nU (nN Tb r) s.2.2 []).2=0)
 il:s.2.2.length<9000
def qN (Tb:Nat->Option (List (List V)))(s:ru)(je:Nat):Prop:=je=9\/je=0/\1000<(fu Tb s.2.1 (dM Tb s.1 0 [cU])).length
theorem pF.e{Tb:Nat->Option (List (List V))}{s:ru}(h:pF Tb s):MS Tb s 0/\¬qN Tb s 0:=⟨⟨h.src,h.join,λ_=>⟨h.jl,h.wh,λ_=>h.qC⟩,h.il⟩,λa=>by
 have :=h.max;rcases a with a|a
 .cases a
 .omega⟩
def tn:pI ru where
 R B s m v:=∃sv wv iv,v=.agg #[sv,wv,iv]/\(aW vC 2).R B s.1 m sv/\jc.R B s.2.1 m wv/\(aW oK 1).R B s.2.2 m iv
 mono:=by
  rintro B B' x m v ⟨sv,wv,iv,e,h1,h2,h3⟩ k;exact⟨sv,wv,iv,e,(aW vC 2).mono h1 k,jc.mono h2 k,(aW oK 1).mono h3 k⟩
 ext:=by
  rintro B S x m m' v ⟨sv,wv,iv,e,h1,h2,h3⟩ k hs;exact⟨sv,wv,iv,e,(aW vC 2).ext h1 k hs,jc.ext h2 k hs,(aW oK 1).ext h3 k hs⟩
section
variable {α:Type}{E:pI α}{sz t n len b:Nat}{m0 m m1:Mem}{acc ys:List α}{sv v x:ab}{S BO BE Zf B':Nat->Prop}
theorem mI.Pf(h:mI E sz BO BE m acc sv)(g:Gd m)(p:uA.contains (t,sz)=U)(q:∃j,mr m sz ys.length v=Z j/\Gh v=Z ys.length/\cE (λx u=>E.R B' x m u/\okV sz u) ys j)(J:∀b,BO b->¬B' b)(N:∀b,BE b->b<m.next)(M:∀b,B' b->b<m.next)(P:acc.length+ys.length<2^30):
  ∃l c,cJ ae #[t,t] sv v m=Z (l,c)/\Kp m c BO/\mI E sz (λy=>y=m.next) (λy=>BE y\/B' y) c (acc++ys) l/\(aW E sz).R (λy=>y=m.next\/BE y\/B' y) (acc++ys) c l:=by
 obtain⟨i,A,z,f⟩:=q;have B:¬(BE m.next\/B' m.next):=λh=>by
  rcases h with h|h
  .have :=N _ h;omega
  .have :=M _ h;omega
 rcases h with⟨rfl,rfl⟩|⟨b,j,rest,rfl,s,H,D,C⟩
 .by_cases a:ys.length=0
  .obtain rfl:=List.length_eq_zero_iff.1 a;have r:i=[]:=f;subst r;exact⟨_,m,ML p A z,.refl _ _,.inl ⟨rfl,rfl⟩,aW.nil⟩
  .obtain⟨c,e,o,k,n⟩:=MM g p A z f.one.1 f.one.2 a ai;have d:cE (λx u=>E.R (λy=>BE y\/B' y) x c u/\okV sz u) ys i:=f.mono λx u _ w=>⟨E.mono (E.ext w.1 k λ_ _ h=>h) λy a=> .inr a,w.2⟩
   exact⟨_,c,e,k.sC,.inr ⟨m.next,i,[],dA,⟨rfl,B⟩,g.own k (aj _),by rw[List.append_nil];exact o,d⟩,i,o.sl d.one.1 (.inl rfl),λL F G K e=>(by cases e;exact .inl rfl),d.mono λx u _ w=>⟨E.mono w.1 λy a=> .inr a,w.2⟩⟩
 .obtain⟨c,e,o,k,n⟩:=Fx (len:=acc.length) g p D C.one.1 H A z f.one.1 f.one.2 ai;have d:cE (λx u=>E.R (λy=>BE y\/B' y) x c u/\okV sz u) (acc++ys) (j++i):=cE.append (C.mono λx u _ w=>⟨E.mono (E.ext w.1 k λy a e=>s.2 (e▸a)) λy a=> .inl a,w.2⟩)
   (f.mono λx u _ w=>⟨E.mono (E.ext w.1 k λy a e=>J b s.1 (e▸a)) λy a=> .inr a,w.2⟩)
  exact⟨_,c,e,k.mono λy _ e=>by rw[e];exact s.1,.inr ⟨m.next,j++i,[],dA,⟨rfl,B⟩,g.own k (aj _),by rw[List.append_nil];exact o,d⟩,j++i,by rw[<-List.length_append]at*;exact o.sl d.one.1 (.inl rfl),λL F G K e=>(by cases e;exact .inl rfl),d.mono λx u _ w=>⟨E.mono w.1 λy a=> .inr a,w.2⟩⟩
theorem mI.cat(h:mI E sz BO BE m acc sv)(g:Gd m)(e:uA.contains (t,sz)=U)(q:(aW E sz).R B' ys m v)(i:∀b,BO b->¬B' b)(n:∀b,BE b->b<m.next)(l:∀b,B' b->b<m.next)(f:acc.length+ys.length<2^30):
  ∃c a,cJ ae #[t,t] sv v m=Z (c,a)/\Kp m a BO/\mI E sz (λy=>y=m.next) (λy=>BE y\/B' y) a (acc++ys) c/\(aW E sz).R (λy=>y=m.next\/BE y\/B' y) (acc++ys) a c:=by
 obtain⟨k,d,o,j⟩:=q;exact h.Pf g e ⟨k,qD d,d.Xj,j⟩ i n l f
end
theorem aly:Path 150 [ei]
 [yp]
 ei:=lF
section
variable {K:fE}{m:Mem}
theorem anB (g:Gd m){B:Nat->Prop}{l:List (List V)}{v:ab}(q:(aW bD 1).R B l m v)(M:l=[]->v=.slice Y 0 0)(L:∀b,B b->b<m.next)(T:l.length<=2^30):
  ∃f a,Ev K 150 [v] m f a/\Kp m a eK/\mI bD 1 (ik m a) B a l f/\(aW bD 1).R (λy=>ik m a y\/B y) l a f:=by
 by_cases j:l=[]
 .subst j;rw[M rfl];exact⟨_,m,bg aly (.cond rfl .nil),.refl _ _,.inl ⟨rfl,rfl⟩,aW.nil⟩
 .obtain⟨r,C,X,d⟩:=q;obtain⟨_,⟨e,N⟩|⟨p,P,rfl,Q,W⟩⟩:=id C
  .have :=d.one.1;rw[N]at this;exact absurd (List.length_eq_zero_iff.1 (by simp at this;omega)) j
  obtain⟨z,k1,G⟩:=iy g (k:={kind:=1,sz:=1,cs:=[]}) (cs:=[]) (sz:=1) rfl rfl rfl;have E:=ah2 (m:=m);generalize m.alloc {kind:=1,sz:=1,cs:=[]}=H at z k1 G E;have J:l.length≠0:=λh=>j (List.length_eq_zero_iff.1 h)
  obtain⟨A,D,s,i,S⟩:=MN (len:=0) (g.ext k1) (t:=29) rfl z rfl J (C.a9 k1) d.one.2 ai;rw[Nat.zero_add]at D;have F:cE (λx u=>bD.R B x A u/\okV 1 u) l r:=d.mono λx u _ w=>⟨bD.ext w.1 (k1.aX i) λ_ _ h=>h,w.2⟩
  refine⟨_,A,bg (ao8 p l.length P _ m.next) (.cond rfl<|.mem E<|.mem D .nil),k1.aX i,.inr ⟨H.next,r,[],rfl,⟨⟨ai,ai⟩,λh=>by have :=L _ h;omega⟩,(g.ext k1).own i (aj _),by simpa using s,F⟩,r,?_,λb o n c e=>(by cases e;exact .inl ⟨ai,ai⟩),F.mono λx u _ w=>⟨bD.mono w.1 λ_ h=> .inr h,w.2⟩⟩;exact Obj.sl (by simpa using s) (by simpa using d.one.1) (.inl rfl)
end
def BV (d:Nat)(bo bm:Nat->Option Nat)(al am:Option Nat)(b:Nat):Prop:=b=d\/(∃j,bo j=Z b)\/al=Z b\/(∃j,bm j=Z b)\/am=Z b
theorem cZ.exact{m:Mem}{d:Nat}{g:Nat->Prop}{rows:List (List Nat)}{cs:List ab}{a c:Nat->Option Nat}{al e:Option Nat}{f:ab}(D:cZ m d g rows cs a al c e f):
  cZ m d (BV d a c al e) rows cs a al c e f/\(∀b,BV d a c al e b->g b/\b<m.next/\((m.blk b).sz=0\/(m.blk b).sz=6\/(m.blk b).sz=1)):=by
 refine⟨{D with sd:=.inl rfl,sb:=λ{j b} h=>⟨?_,(D.sb h).2⟩},λb h=>?_⟩
 .rcases h with h|h|h|h
  .exact .inr (.inl ⟨j,h⟩)
  .exact .inr (.inr (.inl h))
  .exact .inr (.inr (.inr (.inl ⟨j,h⟩)))
  .exact .inr (.inr (.inr (.inr h)))
 .rcases h with rfl|⟨j,h⟩|h|⟨j,h⟩|h
  .exact⟨D.sd,D.ob.lt,.inl D.ob.sz⟩
  .exact⟨(D.sb (.inl h)).1,(D.sb (.inl h)).2,.inr (.inl (D.br.PI (.inl ⟨j,h⟩)).1)⟩
  .exact⟨(D.sb (j:=0) (.inr (.inl h))).1,(D.sb (j:=0) (.inr (.inl h))).2,.inr (.inl (D.br.PI (.inr h)).1)⟩
  .exact⟨(D.sb (.inr (.inr (.inl h)))).1,(D.sb (.inr (.inr (.inl h)))).2,.inr (.inr (D.bw.PI (.inl ⟨j,h⟩)).1)⟩
  .exact⟨(D.sb (j:=0) (.inr (.inr (.inr h)))).1,(D.sb (j:=0) (.inr (.inr (.inr h)))).2,.inr (.inr (D.bw.PI (.inr h)).1)⟩
theorem bD.sz4{B:Nat->Prop}{x:List V}{m:Mem}{v:ab}(h:bD.R B x m v):bD.R (λb=>B b/\(m.blk b).sz=4) x m v:=by
 obtain⟨b,c,e,d,o,a⟩:=h;exact⟨b,c,e,⟨d,o.sz⟩,o,a⟩
theorem akZ (d c e:Nat)(f:Option Addr)(a w b rv sv:ab)(fH:Nat):cV 115 0 6 [0,1] [.agg #[a,w,b,.slice f c e],vP d 0]
 [jF [Z a,Z w,Z b,Z (.slice f c e)] fH,
  vT 3 fH (.agg #[a,w,b]),
  .call 149 [.agg #[a,w,b],vP d 0] (.tuple #[rv,I 0]),
  jT,
  .call 150 [rv] sv,
  .mem (aI fH 3) (.slice f c e)]
 .normal [1,8,26,27,28] [vP d 0,sv,.slice f c e,I c,I 0]:=cT
theorem ak0 (d j k f c h i e g m:Nat)(l n:Option Addr)(al:Bool)(a w b rv:ab):aY 115 [6] 0 99 [1,8,26,27,28] [vP d 0,.slice l j k,vL f 0 c h,I c,I i]
 [bu (dx i c) U,
  .idx i c i,
  .mem (fN 4 f (0+i*4)) (.agg #[.bool al,a,w,b]),
  jF [Z (.bool O),Z ei,Z .nilIface,Z ei] e,
  rJ e 0 [.bool al,a,w,b],
  .mem (fN 3 e 1) (.agg #[a,w,b]),
  .call 149 [.agg #[a,w,b],vP d 0] (.tuple #[rv,I 0]),
  jT,
  .mem (cJ ae #[29,29] (.slice l j k) rv) (.slice n g m),
  .mem (aI e 0) (.bool al),
  bu (!al) O,
  bu (ji g 1000) O]
 .normal [1,8,26,27,28] [vP d 0,.slice n g m,vL f 0 c h,I c,I (bU i 1)]:=cT
theorem lq.ext{m m':Mem}{d q sz:Nat}{cs:List ab}{g:Nat->Option Nat}{al:Option Nat}{S:Nat->Prop}(h:lq m d q sz cs g al)(k:Kp m m' S)(i:∀b,(∃j,g j=Z b)\/al=Z b->¬S b):lq m' d q sz cs g al:=by
 refine⟨h.len,λj n=>?_,h.hi,h.inj,λa=>by rw[k.base];exact h.ne a,?_,λl=>by rw[k.base];exact h.Nd l⟩
 .obtain⟨c,f,e⟩:=h.sh j n;exact⟨c,f,e.ext k.Zj λb a=>i b (.inl ⟨j,a⟩)⟩
 .obtain⟨c,f,e⟩:=h.all;exact⟨c,f,e.ext k.Zj λb a=>i b (.inr a)⟩
theorem cZ.ext{m m':Mem}{d:Nat}{f S:Nat->Prop}{rows:List (List Nat)}{cs:List ab}{i l:Nat->Option Nat}{al n:Option Nat}{g:ab}(h:cZ m d f rows cs i al l n g)(k:Kp m m' S)(c:∀b,f b->¬S b):cZ m' d f rows cs i al l n g:=
 ⟨h.ob.ext k (c d h.sd),h.len,by rw[k.base];exact h.bd,h.br.ext k λb a=>c b (a.elim (λ⟨j,e⟩=>(h.sb (.inl e)).1) λe=>(h.sb (j:=0) (.inr (.inl e))).1),h.bw.ext k λb a=>c b (a.elim (λ⟨j,e⟩=>(h.sb (.inr (.inr (.inl e)))).1) λe=>(h.sb (j:=0) (.inr (.inr (.inr e)))).1),h.all,(aW wS 6).ext h.rws k λb e=>c b (h.sb (j:=0) (.inr (.inl e))).1,h.sd,λa=>⟨(h.sb a).1,by have :=(h.sb a).2;have :=k.next;omega⟩⟩
theorem mI.Hh{c d J1:Nat->Prop}{m:Mem}{acc:List (List V)}{sv:ab}(h:mI bD 1 c d m acc sv)(k:∀b,d b->(m.blk b).sz=4->J1 b)(n:∀b,c b->¬J1 b):mI bD 1 c J1 m acc sv:=by
 rcases h with h|⟨b,j,rest,e,a,g,f,i⟩
 .exact .inl h
 .exact .inr ⟨b,j,rest,e,⟨a.1,n b a.1⟩,g,f,i.mono λx u _ w=>⟨bD.mono (bD.sz4 w.1) λb a=>k b a.1 a.2,w.2⟩⟩
theorem mI.lt{α:Type}{E:pI α}{sz:Nat}{d f:Nat->Prop}{m:Mem}{acc:List α}{sv:ab}(h:mI E sz d f m acc sv):mI E sz (λy=>d y/\y<m.next) f m acc sv:=by
 rcases h with h|⟨b,j,rest,e,c,g,a,i⟩
 .exact .inl h
 .exact .inr ⟨b,j,rest,e,⟨⟨c.1,a.lt⟩,c.2⟩,g,a,i⟩
def uD (m0 m:Mem)(d:Nat)(S:Nat->Prop)(acc:List (List V))(sv:ab):Prop:=
 ∃SB rows cs bo al bm am rl BO BE,Kp m0 m S/\cZ m d SB rows cs bo al bm am rl/\mI bD 1 BO BE m acc sv/\(∀b,SB b->(S b\/m0.next<=b)/\b<m.next)/\∀b,BO b\/BE b->¬SB b/\m0.next<=b/\b<m.next
section
variable {K:fE}{m0 mA m:Mem}{B BT S:Nat->Prop}{Tb:Nat->Option (List (List V))}{d:Nat}{acc:List (List V)}{sv v:ab}
theorem uD.kp(h:uD m0 m d S acc sv):Kp m0 m S:=by obtain⟨_,_,_,_,_,_,_,_,_,_,h,_⟩:=h;exact h
theorem uD.form(h:uD m0 m d S acc sv):∃a c,sv=.slice a acc.length c:=by obtain⟨_,_,_,_,_,_,_,_,_,_,_,_,h,_⟩:=h;exact h.form
theorem Z9 (hK:B9 K)(Cw:Calm m0)(h:uD m0 mA d S acc sv)(k:Kp mA m eK){s:ru}(W:tn.R B s m v)(V:fY BT Tb m)(u:∀b,B b\/BT b->¬S b/\b<m0.next)(g:pF Tb s)(hl:acc.length+(eX Tb s).length<9000):
  ∃o i j f J,Ev K 149 [v,vP d 0] m (.tuple #[o,I 0]) i/\cJ ae #[29,29] sv o i=Z (j,f)/\Kp m f J/\(∀b,J b->(S b\/m0.next<=b)/\b<mA.next)/\uD m0 f d S (acc++eX Tb s) j/\∃B,(aW bD 1).R B (acc++eX Tb s) f j:=by
 obtain⟨q,rows,cs,bo,al,bm,am,rl,r,BE,G,D,L,n,e⟩:=h;obtain⟨xs,xw,xi,rfl,T,Q,P⟩:=W;have n0:=G.next;have n1:=k.next;have k1:=G.aX k;have H:=Cw.ext k1;have hf:∀b,B b\/BT b->¬q b/\b<m.next:=λb a=>⟨λh=>((n b h).1).elim (u b a).1 λh=>by have :=(u b a).2;omega,by have :=(u b a).2;omega⟩
 obtain⟨o,i,j4,gS,E,F,C,A,DJ,e2,l,D2,N,_⟩:=aeG hK H (D.a9 k) T Q P V hf g.src g.join g.jl g.wh g.max g.qC g.il;obtain⟨D3,z⟩:=D2.exact;have Nc:=H.ext l;have n2:=l.next;have L2:=(L.ext k λ_ _ h=>h).ext l λb a=>(e b a).1
 obtain⟨j,f,e3,p,L3,Q3⟩:=L2.cat (t:=29) Nc.gd rfl N (λb a h=>by have :=(e b (.inl a)).2.2;have :=h.1;omega) (λb a=>by have :=(e b (.inr a)).2.2;omega) (λb h=>h.2) (by rw[show uI Tb s.2.2 (fu Tb s.2.1 (dM Tb s.1 0 [cU]))=eX Tb s from rfl];omega);have n3:=p.next;have w:∀b,BV d E C F A b->¬r b:=λb h a=>by
  obtain⟨c,h2,_⟩:=z b h;have :=e b (.inl a);rcases c with c|c
  .exact this.1 c
  .have :=c.1;omega
 have M:=D3.ext p w;obtain⟨_,x⟩:=M.exact;refine⟨o,i,j,f,λb=>q b\/r b,e2,e3,(l.mono (S':=λb=>q b\/r b) λ_ _ h=> .inl h).trans (p.mono λ_ _ h=> .inr h) λ_ _ h=>h,λb a=>a.elim (λh=>n b h) λh=>⟨.inr (e b (.inl h)).2.1,(e b (.inl h)).2.2⟩,⟨_,_,_,_,_,_,_,_,λy=>y=i.next/\y<f.next,λb=>(BE b\/ik m i b)/\¬BV d E C F A b,?_,M,L3.lt.Hh (λb a h4=>⟨a,λh=>?_⟩) (λb a h=>?_),λb a=>?_,λb a=>?_⟩,_,Q3⟩
 .exact k1.trans ((l.mono (S':=λb=>q b\/r b) λ_ _ h=> .inl h).trans (p.mono λ_ _ h=> .inr h) λ_ _ h=>h) λb a h=>h.elim (λh=>(n b h).1.resolve_right ai) λh=>absurd (e b (.inl h)).2.1 ai
 .rcases(x b h).2.2 with h|h|h<;>omega
 .rw[a.1]at h;rcases h.1 with h|h
  .have :=(e _ (.inr h)).2.2;omega
  .have :=h.2;omega
 .obtain⟨c,h2,_⟩:=z b a;refine⟨?_,ai⟩;rcases c with c|c
  .exact(n b c).1
  .exact .inr (by have :=c.1;omega)
 .rcases a with⟨rfl,a⟩|⟨a,X⟩
  .exact⟨λh=>by have :=(z _ h).2.1;omega,ai,a⟩
  .refine⟨X,?_⟩;rcases a with h|h
   .have :=(e b (.inr h)).2;omega
   .have :=h.1;have :=h.2;omega
end
def Mj:pI (Bool×ru) where
 R B u m v:=∃sv wv iv,v=.agg #[.bool u.1,sv,wv,iv]/\tn.R B u.2 m (.agg #[sv,wv,iv])
 mono:=by
  rintro B B' x m v ⟨sv,wv,iv,e,h⟩ k;exact⟨sv,wv,iv,e,tn.mono h k⟩
 ext:=by
  rintro B S x m m' v ⟨sv,wv,iv,e,h⟩ k hs;exact⟨sv,wv,iv,e,tn.ext h k hs⟩
abbrev H3:=ru×List (Bool×ru)
def rm:pI H3 where
 R B b m v:=∃sv wv iv uv,v=.agg #[sv,wv,iv,uv]/\tn.R B b.1 m (.agg #[sv,wv,iv])/\(aW Mj 4).R B b.2 m uv
 mono:=by
  rintro B B' x m v ⟨sv,wv,iv,uv,e,h,q⟩ k;exact⟨sv,wv,iv,uv,e,tn.mono h k,(aW Mj 4).mono q k⟩
 ext:=by
  rintro B S x m m' v ⟨sv,wv,iv,uv,e,h,q⟩ k hs;exact⟨sv,wv,iv,uv,e,tn.ext h k hs,(aW Mj 4).ext q k hs⟩
theorem aoy (g i d n c f cc:Nat)(h e:Option Addr)(a w b u:ab)(fH:Nat):cV 76 4 10 [1,2,4] [vP g 0,vP i 0,vP d 0]
 [.mem (fN 4 g 2) (.agg #[a,w,b,u]),
  .call 115 [.agg #[a,w,b,u],vP d 0] (.tuple #[.slice e n c,I 0]),
  jT,
  .call 116 [.slice e n c,fR] (.tuple #[]),
  jF [Z ei,Z ei,Z ei,Z (I 0)] fH,
  rJ fH 0 [ei,ei,.slice e n c,I 0],
  .mem (aI g 1) (.slice h f cc)]
 .normal [2,10,46,47,48] [vP i 0,vP fH 0,.slice h f cc,I f,I 0]:=cT
def CA (B:Nat->Prop)(fe:List FI)(rows:List (List V))(n:Int)(m:Mem)(v:ab):Prop:=∃nv kv rv,v=.agg #[nv,kv,rv,I n]/\aew.R B (fe.map (·.n)) m nv/\aex.R B (fe.map (·.k)) m kv/\∃BO BE:Nat->Prop,mI bD 1 BO BE m rows rv/\∀b,BO b\/BE b->B b
theorem CA.ext{B S:Nat->Prop}{d:List FI}{rows:List (List V)}{n:Int}{m m':Mem}{v:ab}(h:CA B d rows n m v)(k:Kp m m' S)(a:∀b,B b->¬S b):CA B d rows n m' v:=by
 obtain⟨f,g,p,e,o,l,q,r,j,c⟩:=h;exact⟨f,g,p,e,(aW (jj Dn) 1).ext o k a,(aW (jj I) 1).ext l k a,q,r,j.ext k λb i=>a b (c b i),c⟩
theorem CA.mono{B B':Nat->Prop}{a:List FI}{rows:List (List V)}{n:Int}{m:Mem}{v:ab}(h:CA B a rows n m v)(k:∀b,B b->B' b):CA B' a rows n m v:=by
 obtain⟨c,d,p,e,l,j,o,q,i,g⟩:=h;exact⟨c,d,p,e,(aW (jj Dn) 1).mono l k,(aW (jj I) 1).mono j k,o,q,i,λb f=>k b (g b f)⟩
theorem O4 {m:Mem}{d:Nat}(o:Obj m d 0 YG)(c:m.base<=d):cZ m d (λb=>b=d) [] YG (λ_=>Y) Y (λ_=>Y) Y (.slice Y 0 0):=by
 refine⟨o,rfl,c,⟨af rfl,λj a=>⟨.slice Y 0 0,?_,.inl ⟨rfl,rfl⟩⟩,λ_ _=>rfl,iq,iq,⟨.slice Y 0 0,rfl,.inl ⟨rfl,rfl⟩⟩,iq⟩,⟨af rfl,λj a=>⟨.slice Y 0 0,?_,.inl ⟨rfl,rfl⟩⟩,λ_ _=>rfl,iq,iq,⟨.slice Y 0 0,rfl,.inl ⟨rfl,rfl⟩⟩,iq⟩,rfl,⟨[],oX.nil,λ_ _ _ _ e=>(by cases e),rfl⟩,rfl,λh=>by rcases h with h|h|h|h<;>cases h⟩
 .obtain rfl|rfl|rfl|rfl:j=0\/j=1\/j=2\/j=3:=ai
  all_goals rfl
 .obtain rfl|rfl|rfl|rfl:j=0\/j=1\/j=2\/j=3:=ai
  all_goals rfl
section
variable {K:fE}{m:Mem}{B BT:Nat->Prop}{Tb:Nat->Option (List (List V))}
theorem UI (g:Gd m){i j:Nat->Prop}{l:List (List V)}{sv:ab}(h:mI bD 1 i j m l sv)(w:l.length<65536)(v:TK K l)(z:∀x∈l,x.length<99999)(B:∀b,j b->b<m.next):
  ∃f,Ev K 116 [sv,fR] m (.tuple #[]) f/\Kp m f i/\mI bD 1 i j f (GY l) sv:=by
 obtain⟨c,q⟩:=Dy l;rcases h with⟨rfl,rfl⟩|⟨b,E,rest,rfl,⟨k,n⟩,u,r,C⟩
 .exact⟨m,ah1,.refl _ _,.inl ⟨List.perm_nil.1 c,rfl⟩⟩
 .obtain⟨d,s,D,k1,a,p,o⟩:=anD (K:=K) (cc:=dp) g r n C u w v z B;have A:=Dx (p.trans c.symm) o q;exact⟨s,D,k1.mono λy _ e=>by rw[e];exact k,.inr ⟨b,d.toList.map (·.1),rest,by rw[c.length_eq],⟨k,n⟩,a.ow,a.ob,A▸Um λx t=>(a.el x t).1⟩⟩
end
def uC (m:Mem)(db mp:Nat):Prop:=Obj m db 0 [.int .i32 0,.int .u32 0,.map (Z mp)]/\m.base<=db
theorem p74 (a b e d:Nat)(c:Option Addr)(rv:ab):Path 74 [.slice c a b]
 [jF [Z (.slice c a b)] e,
  jF [Z ei,Z (I 0),Z ei,Z (I 0),Z ei,Z (I 0),Z ei,Z (I 0),Z ei] d,
  .mem (aI e 0) (.slice c a b),
  .call 109 [vP d 0,I a,.func (.func 110) #[] #[vP e 0]] (.tuple #[rv,I 0])]
 (.tuple #[rv,I 0]):=lF
noncomputable def cv0:Nat->Int->Int->V:=nN (λ_=>Y) cU
noncomputable def Xm(xs:List X):List V:=(nU cv0 xs []).1
theorem vi {α a:Type}[Inhabited α]{f:α->a}{l:List α}:∀(n i:Nat) (acc:List a),i+n=l.length->gI (λk=>[f (l[k]!)]) n i acc=acc++(l.drop i).map f
 |0,i,acc,h=>by
  unfold gI;rw[List.drop_of_length_le ai];simp
 |n+1,i,acc,h=>by
  unfold gI;rw[vi n (i+1) _ ai,List.drop_eq_getElem_cons (i:=i) ai,getElem!_pos l i ai,List.map_cons,List.append_assoc];rfl
section
variable {K:fE}{m:Mem}{B:Nat->Prop}
theorem UF {m0:Mem}{X:Nat->Prop}{rows:List (List AM.X)}{y:ab}{d:Nat}(T:Obj m0 d 0 [y])(S:(aW (aW oK 1) 1).R B rows m0 y)(C:∀b,b=d\/B b->¬X b/\b<m0.next)(dV:∀l∈rows,(∀x∈l,TX cv0 x)/\(nU cv0 l []).2=0/\l.length<9000):
  B5 KW m0 X 110 #[vP d 0] bD 1 (λk=>[Xm (rows[k]!)]) rows.length:=by
 refine⟨λi=>by simp,?_⟩;intro e BO BE acc F k j g z N s Hu ha;have H:=T.pX z (C _ (.inl rfl)).1;have G:=aW.jq (sz:=1) (aW.jq (sz:=1) oK.jq) _ _ _ _ _ S (z.mono λb a=>(C b (.inr a)).1);obtain⟨b,c,u,cs,rfl,_,o,n,Q,A,ov⟩:=aW.get G j;have r:rows[k]∈rows:=List.getElem_mem j;rw[getElem!_pos rows k j];obtain⟨a1,a2,a3⟩:=dV _ r;have e1:aI b (0+k*1) e=Z (u,e):=by
  rw[Nat.zero_add,Nat.mul_one];rw[Nat.mul_one]at n;refine aO o ?_;obtain⟨w,v,rfl⟩:=aW.form A;rw[show(ab.slice w rows[k].length v).cells.toList=[.slice w rows[k].length v]from rfl]at n;have :=congrArg (·[0]?) n;simpa using this
 obtain⟨L,e2,J,f,n2,_⟩:=bz g [.int .i32 0,.int .i32 0,.int .i32 0,.int .i32 0,.int .i32 0,.int .i32 0];have V:=g.ext f;have q:B6 eK (λ_=>Y) cU e.next 0 0 L:=⟨⟨_,J,rfl,af rfl⟩,λp rows h=>by cases h⟩;have Qo:=N.ext f λ_ _ h=>h
 obtain⟨t,M,Zf,J1,W,P,m,E,D⟩:=aeK (K:=KW) (NN (BT:=eK) (sz:=0)) V q Qo (λb a=>by have :=(s b a).2;omega) (λb a=>by have :=(Hu b a).2;omega) ((aW oK 1).ext A f λ_ _ h=>h) a1 a3 ai a2;exact⟨t,M,Zf,J1,bg (apa k d b rows.length c e.next F t u) (.mem (aO H rfl)<|.idx rfl j<|.mem e1<|.mem e2<|.call W .nil),f.sC.trans P λ_ _ h=>h,m,λb h=> .inr (by have :=E b h;exact⟨by have :=this.1;omega,this.2⟩),λb h=>(D b h).imp id λh=>⟨by have :=h.1;omega,h.2⟩⟩
theorem c74 (S:B9 K)(g:Calm m){rows:List (List X)}{rv:ab}(q:(aW (aW oK 1) 1).R B rows m rv)(T:∀b,B b->b<m.next)(dV:∀n∈rows,(∀x∈n,TX cv0 x)/\(nU cv0 n []).2=0/\n.length<9000)(P:rows.length<21000):
  ∃a l,Ev K 74 [rv] m (.tuple #[a,I 0]) l/\Kp m l eK/\(aW bD 1).R (ik m l) (rows.map Xm) l a:=by
 obtain⟨v,u,rfl⟩:=aW.form q;obtain⟨b1,F⟩:∃b,b=m.next:=⟨_,rfl⟩;obtain⟨H,C,p,k1,n1,_⟩:=bz g.gd [.slice v rows.length u];rw[<-F]at C p;have Fb:=g.ext k1;obtain⟨d,Q⟩:∃b,b=H.next:=⟨_,rfl⟩;obtain⟨y,A,w,r,n2,_⟩:=bz Fb.gd [.slice Y 0 0,I 0,.slice Y 0 0,I 0,.slice Y 0 0,I 0,.slice Y 0 0,I 0,.slice Y 0 0];rw[<-Q]at A w;have f:=k1.aX r;have D:=g.ext f;have E:y.base<=d:=by
  have h1:=D.gd.bf;have h2:=g.gd.fn;have h3:=f.floor;have h4:=f.base;have :=g.gd.bf;omega
 have s:lq y d 0 1 [.slice Y 0 0,I 0,.slice Y 0 0,I 0,.slice Y 0 0,I 0,.slice Y 0 0,I 0,.slice Y 0 0] (λ_=>Y) Y:=by
  refine⟨af rfl,λj hj=>⟨.slice Y 0 0,?_,.inl ⟨rfl,rfl⟩⟩,λ_ _=>rfl,iq,iq,⟨.slice Y 0 0,rfl,.inl ⟨rfl,rfl⟩⟩,iq⟩;obtain rfl|rfl|rfl|rfl:j=0\/j=1\/j=2\/j=3:=ai
  all_goals rfl
 have V:=UF (B:=B) (X:=λb=>b=d) (p.a9 r) ((aW (aW oK 1) 1).ext q f λ_ _ h=>h) (λb c=>c.elim (λe=>⟨ai,ai⟩) λh=>by have :=T b h;exact⟨ai,ai⟩) dV;obtain⟨a,G,ys,uy,pK,W,z,o3,L,J,Hv,asa,Zz,M,o,_⟩:=ahU (K:=K) agF (t:=29) (sz:=1) rfl S V bD.jq rfl (λk b h=>by cases h) D w E s P;rw[vi _ _ _ ai]at o;have n3:=z.next;refine⟨a,G,bg (p74 rows.length u b1 d v a) (.mem C<|.mem A<|.mem (aO (p.a9 r) rfl)<|.call W .nil),f.new z (N:=m.next) (aj _) λb c=>?_,by
  rw[List.drop_zero,List.nil_append]at o;exact(aW bD 1).mono o λb c=>⟨by have :=c.1;omega,c.2⟩⟩
 rcases c with h|⟨i,h⟩|h
 .omega
 .cases h
 .cases h
end
def iO (n:Nat):List UInt8:=if h:n<10 then[UInt8.ofNat (48+n)]else iO (n / 10)++[UInt8.ofNat (48+n%10)]
 termination_by n
 decreasing_by omega
theorem Jy {n:Nat}(h:n<10):iO n=[UInt8.ofNat (48+n)]:=by rw[iO,dif_pos h]
theorem Jz {n:Nat}(h:¬n<10):iO n=iO (n / 10)++[UInt8.ofNat (48+n%10)]:=by rw[iO,dif_neg h]
theorem aqS {k:Nat}(h:k<10):(UInt8.ofNat (48+k)).toNat=48+k:=by
 rw[UInt8.toNat_ofNat'];omega
theorem aps (a:Int):pu ae [I a] (Op.unary .neg (I a))=Z (I (bY.i64.wrap (-a))):=by
 have h:(Op.unary .neg (I a)).aQ ae=Z (I (bY.i64.wrap (0-a))):=rfl;rw[Int.zero_sub]at h;exact vh rfl h rfl
theorem adl:pu ae [I 48] (convert 3 5 (I 48))=Z (.int .u8 48):=aM
theorem adk:pu ae [I 49] (convert 3 5 (I 49))=Z (.int .u8 49):=aM
theorem adj:pu ae [I 50] (convert 3 5 (I 50))=Z (.int .u8 50):=aM
theorem adi:pu ae [I 51] (convert 3 5 (I 51))=Z (.int .u8 51):=aM
theorem adh:pu ae [I 52] (convert 3 5 (I 52))=Z (.int .u8 52):=aM
theorem adg:pu ae [I 53] (convert 3 5 (I 53))=Z (.int .u8 53):=aM
theorem adf:pu ae [I 54] (convert 3 5 (I 54))=Z (.int .u8 54):=aM
theorem ade:pu ae [I 55] (convert 3 5 (I 55))=Z (.int .u8 55):=aM
theorem adb:pu ae [I 56] (convert 3 5 (I 56))=Z (.int .u8 56):=aM
theorem ada:pu ae [I 57] (convert 3 5 (I 57))=Z (.int .u8 57):=aM
theorem anf {k:Nat}(a:k<10):pu ae [I (48+k:Nat)] (convert 3 5 (I (48+k:Nat)))=Z (.int .u8 (48+k:Nat)):=by
 have h:k=0\/k=1\/k=2\/k=3\/k=4\/k=5\/k=6\/k=7\/k=8\/k=9:=ai;rcases h with rfl|rfl|rfl|rfl|rfl|rfl|rfl|rfl|rfl|rfl
 .exact adl
 .exact adk
 .exact adj
 .exact adi
 .exact adh
 .exact adg
 .exact adf
 .exact ade
 .exact adb
 .exact ada
theorem arz {m:Mem}(x:Int):bW ae 72 1 [(0,.int .u8 x)] m=Z (vL m.next 0 1 1,m.alloc {kind:=1,sz:=1,cs:=[Z (.int .u8 x)]}):=aM
theorem YX (l r:List UInt8):(⟨l.toArray⟩++⟨r.toArray⟩:ByteArray)=⟨(l++r).toArray⟩:=by
 apply ByteArray.ext;rw[ByteArray.data_append];simp
theorem uw {l r:List UInt8}(h:l.length+r.length<9223372036854775808):AL ⟨l.toArray⟩ ⟨r.toArray⟩=Z (.string ⟨(l++r).toArray⟩):=by
 unfold AL;have b:(⟨l.toArray⟩:ByteArray).size=l.length:=by show l.toArray.size=_;simp
 have a:(⟨r.toArray⟩:ByteArray).size=r.length:=by show r.toArray.size=_;simp
 rw[b,a];have :Nat.blt (l.length+r.length) 9223372036854775808=U:=Nat.ble_eq_true_of_le ai;rw[this,YX]
theorem Mo:∀(k n:Nat),n<10^(k+1)->(iO n).length<=k+1
 |0,n,h=>by rw[Jy (by simpa using h)];simp
 |k+1,n,h=>by
  by_cases a:n<10
  .rw[Jy a];simp
  .rw[Jz a];have b:n<10^(k+1)*10:=by rw[<-Nat.pow_succ];exact h
   have :=Mo k (n / 10) ai;simp;omega
theorem O3 {n:Nat}(h:n<9223372036854775808):(iO n).length<=19:=Mo 18 n (Nat.lt_trans h eJ)
section
variable {K:fE}{m:Mem}
theorem ao4 (n:Int)(a b:Int)(fH:Nat)(s1:ByteArray):Path 16 [I n]
 [bu (dx n 0) O,
  .val (jk Nat.mod .i64 n 10 (j5 ae .rem 3 O U (I n) (I 10))) (I a),
  .val (pu ae [I (bU 48 a)] (convert 3 5 (I (bU 48 a)))) (.int .u8 b),
  .mem (bW ae 72 1 [(0,(.int .u8 b))]) (vL fH 0 1 1),
  .mem (gp ae 72 9 (vL fH 0 1 1)) (kI s1),
  bu (dx n 10) U]
 (kI s1):=lF
theorem ao3 (n:Int)(a c b:Int)(fH:Nat)(s1 s2:ByteArray):Path 16 [I n]
 [bu (dx n 0) O,
  .val (jk Nat.mod .i64 n 10 (j5 ae .rem 3 O U (I n) (I 10))) (I a),
  .val (pu ae [I (bU 48 a)] (convert 3 5 (I (bU 48 a)))) (.int .u8 c),
  .mem (bW ae 72 1 [(0,(.int .u8 c))]) (vL fH 0 1 1),
  .mem (gp ae 72 9 (vL fH 0 1 1)) (kI s1),
  bu (dx n 10) O,
  .val (jk Nat.div .i64 n 10 (j5 ae .quo 3 O U (I n) (I 10))) (I b),
  .call 16 [I b] (kI s2),
  .val (AL s2 s1) (kI (s2++s1))]
 (kI (s2++s1)):=lF
theorem aey (d:Bool)(a b:Int)(c:b≠0):jk Nat.mod .i64 a b (j5 ae .rem 3 O d (I a) (I b))=Z (I (VI a b)):=by
 cases d with
 |false=>exact ac8 a b c
 |true=>rw[(afF O U a b c).trans (afF O O a b c).symm];exact ac8 a b c
theorem aez (d:Bool)(a b:Int)(c:b≠0):jk Nat.div .i64 a b (j5 ae .quo 3 O d (I a) (I b))=Z (I (NT a b)):=by
 cases d with
 |false=>exact am8 a b c
 |true=>rw[(afI O U a b c).trans (afI O O a b c).symm];exact am8 a b c
theorem VH (a:Nat)(b:Nat):VI a b=((a%b:Nat):Int):=rfl
theorem K8 {a:Nat}(b:Nat)(c:a<9223372036854775808):NT a b=((a / b:Nat):Int):=by
 unfold NT;rw[show Int.tdiv a b=((a / b:Nat):Int)from rfl];have :=Nat.div_le_self a b;generalize a / b=q at this;exact rK ⟨ai,ai⟩
theorem c16 (n:Nat):∀{m:Mem},Gd m->n<9223372036854775808->∃j,Ev K 16 [I n] m (.string ⟨(iO n).toArray⟩) j/\Kp m j eK:=by
 induction n using Nat.strongRecOn with
 |ind n y=>
  intro m g z;have q:(.bool (dx n 0):ab)=.bool O:=by rw[fW,yz ai]
  have i:jk Nat.mod .i64 n 10 (j5 ae .rem 3 O U (I n) (I 10))=Z (I (n%10:Nat)):=aey U n 10 eJ;have o:n%10<10:=Nat.mod_lt _ eJ;have D:bU 48 (n%10:Nat)=((48+n%10:Nat):Int):=by rw[qy ⟨ai,ai⟩];omega
  have f:pu ae [I (bU 48 (n%10:Nat))] (convert 3 5 (I (bU 48 (n%10:Nat))))=Z (.int .u8 (48+n%10:Nat)):=by rw[D];exact anf o
  obtain⟨a,k1,u⟩:=iy g (k:={kind:=1,sz:=1,cs:=[Z (.int .u8 (48+n%10:Nat))]}) (cs:=[.int .u8 (48+n%10:Nat)]) (sz:=1) rfl rfl rfl;have c:=arz (m:=m) ((48+n%10:Nat):Int);generalize m.alloc {kind:=1,sz:=1,cs:=[Z (.int .u8 (48+n%10:Nat))]}=b at a k1 u c;have B:([.int .u8 (48+n%10:Nat)]:List ab)=x9 [UInt8.ofNat (48+n%10)]:=by
   show _=[ab.int .u8 ((UInt8.ofNat (48+n%10)).toNat:Int)]
   rw[aqS o]
  rw[B]at a;have p:gp ae 72 9 (vL m.next 0 1 1) b=Z (.string ⟨#[UInt8.ofNat (48+n%10)]⟩,b):=Uw (l:=[UInt8.ofNat (48+n%10)]) a
  by_cases h:n<10
  .have d:(.bool (dx n 10):ab)=.bool U:=by rw[fW,Cb ai]
   have A:iO n=[UInt8.ofNat (48+n%10)]:=by rw[Jy h,Nat.mod_eq_of_lt h]
   rw[A];exact⟨b,bg (ao4 n ..) (.cond q<|.val i<|.val f<|.mem c<|.mem p<|.cond d .nil),k1⟩
  .have d:(.bool (dx n 10):ab)=.bool O:=by rw[fW,yz ai]
   obtain⟨v,C,w⟩:=y (n / 10) ai (g.ext k1) ai;have t:jk Nat.div .i64 n 10 (j5 ae .quo 3 O U (I n) (I 10))=Z (I (n / 10:Nat)):=by
    rw[aez U n 10 eJ];have :=K8 10 z;exact congrArg (λx=>Z (I x)) this
   have e:=uw (l:=iO (n / 10)) (r:=[UInt8.ofNat (48+n%10)]) (by have :=O3 (n:=n / 10) ai;simp;omega);rw[<-Jz h]at e;have s:(⟨(iO (n / 10)).toArray⟩++⟨#[UInt8.ofNat (48+n%10)]⟩:ByteArray)=⟨(iO n).toArray⟩:=by
    rw[Jz h];exact YX _ [UInt8.ofNat (48+n%10)]
   refine⟨v,?_,k1.aX w⟩;have :=bg (K:=K) (ao3 n (fH:=m.next) (s1:=⟨#[UInt8.ofNat (48+n%10)]⟩) (s2:=⟨(iO (n / 10)).toArray⟩) ..) (.cond q<|.val i<|.val f<|.mem c<|.mem p<|.cond d<|.val t<|.call C<|.val (by rw[s];exact e) .nil);rwa[s]at this
end
def txG:ByteArray:=⟨#[67,82,69,65,84,69,32,84,65,66,76,69,32,103,40,97,32,73,78,84,44,32,98,32,73,78,84,41]⟩
def bE:ByteArray:=⟨#[101]⟩
def bG:ByteArray:=⟨#[103]⟩
def alW (a b:Nat):List UInt8:=[73,78,83,69,82,84,32,73,78,84,79,32,103,32,86,65,76,85,69,83,32,40]++iO a++[44,32]++iO b++[41]
def Dc (s:TO):ru:=(s.js.map λx=>(x.p,x.on),s.wh,s.qC)
def Ui (b:H5):H3:=(Dc b.first,b.us.map λu=>(u.all,Dc u.sel))
theorem cE.map'{α a:Type}{f:α->a}{Q:α->ab->Prop}{Q':a->ab->Prop}(h:∀x v,Q x v->Q' (f x) v):∀{l:List α}{cs:List ab},cE Q l cs->cE Q' (l.map f) cs
 | [],cs,q=>q
 |x::l,cs,q=>by
  obtain⟨v,r,e,c,b⟩:=q;exact⟨v,r,e,h _ _ c,cE.map' h b⟩
theorem aW.map'{α a:Type}{E:pI α}{E':pI a}{f:α->a}{sz:Nat}{B:Nat->Prop}{m:Mem}(h:∀x v,E.R B x m v->E'.R B (f x) m v){l:List α}{v:ab}(q:(aW E sz).R B l m v):(aW E' sz).R B (l.map f) m v:=by
 obtain⟨e,d,c,b⟩:=q;exact⟨e,by rw[List.length_map];exact d,c,b.map' λx v w=>⟨h x v w.1,w.2⟩⟩
theorem Kc {B:Nat->Prop}{m:Mem}{s:TO}{v:ab}(h:nL.R B s m v):tn.R B (Dc s) m v:=by
 obtain⟨a,w,b,e,f,d,c⟩:=h;exact⟨a,w,b,e,aW.map' (E:=Mm) (E':=vC) (λx v ⟨o,e,h⟩=>⟨o,e,h⟩) f,d,c⟩
theorem GI {B:Nat->Prop}{m:Mem}{s:H5}{v:ab}(h:jK.R B s m v):rm.R B (Ui s) m v:=by
 obtain⟨a,w,b,u,e,d,c⟩:=h;exact⟨a,w,b,u,e,Kc d,aW.map' (E:=Ml) (E':=Mj) (λx v ⟨a,w,b,e,h⟩=>⟨a,w,b,e,Kc h⟩) c⟩
def gk (n:Nat):V:=⟨1,(n:Int),.empty,O⟩
def gH (x:Nat×Nat):List V:=[gk x.1,gk x.2]
theorem mj (n:Nat):oz (gk n):=λh=>(by cases h)
theorem P2 {α:Type}{st:Nat->List α}{f:Nat->α}:∀(n i:Nat) (acc:List α),(∀k,i<=k->k<i+n->st k=[f k])->gI st n i acc=acc++(List.range' i n).map f
 |0,i,acc,h=>by unfold gI;simp
 |n+1,i,acc,h=>by
  unfold gI;rw[P2 n (i+1) _ (λk b a=>h k ai ai),h i ai ai,List.range'_succ,List.map_cons,List.append_assoc];rfl
section
variable {Tb:Nat->Option (List (List V))}{p:Nat}{ps:List (Nat×Nat)}
theorem Hm {rows:List (List V)}(h:Tb p=Z rows):dM Tb [(p,Y)] 0 [cU]=(List.range rows.length).map λk=>cU.set 0 k:=by
 unfold dM dM;rw[h];simp only[Option.getD_some,List.length_singleton,Nat.one_mul];rw[P2 (f:=λk=>cU.set 0 k) rows.length 0 [] (λk _ a=>?_),List.nil_append,List.range_eq_range'];unfold Cy;rw[bh (by rfl),Nat.div_eq_of_lt ai,Nat.mod_eq_of_lt ai];rfl
theorem LN {qC:List X}{R:List (List Nat)}:uI Tb qC R=R.map λr=>(nU (nN Tb r) qC []).1:=by
 unfold uI;rw[show(λk=>[(nU (nN Tb (R[k]!)) qC []).1])=λk=>[(λr=>(nU (nN Tb r) qC []).1) (R[k]!)]from rfl,vi (f:=λr=>(nU (nN Tb r) qC []).1) R.length 0 [] ai];simp
end
theorem alV (u v:V):Xm [.lit u,.lit v]=[u,v]:=by simp[Xm,nU,sA]
theorem agJ {a b:Nat}{xs:List X}(h:xs=[.lit (gk a),.lit (gk b)]):(∀x∈xs,TX cv0 x)/\(nU cv0 xs []).2=0/\xs.length<9000:=by
 subst h;refine⟨λx c=>?_,by simp[nU,sA],af rfl⟩;rcases aN.1 c with rfl|c
 .exact mj a
 .rw[List.mem_singleton.1 c];exact mj b
section
variable {m:Mem}
theorem mI.row{k g:Nat->Prop}{l:List (List V)}{sv:ab}(h:mI bD 1 k g m l sv){j:Nat}(i:j<l.length):
  ∃b a c,sv=vL b 0 l.length dp/\(k b/\g a)/\aI b j m=Z (vL a 0 l[j].length c,m)/\Obj m a 4 (fT l[j]):=by
 rcases h with⟨rfl,rfl⟩|⟨b,s,rest,rfl,p,t,o,r⟩
 .simp at i
 .obtain⟨u,f,q,_⟩:=cE.get (Q:=λx u=>bD.R g x m u) (sz:=1) r i;obtain⟨a,c,rfl,d,n,_⟩:=q;have e:s[j]?=Z (vL a 0 l[j].length c):=by
   rw[Nat.mul_one]at f;rw[show(vL a 0 l[j].length c).cells.toList=[vL a 0 l[j].length c]from rfl]at f;have :=congrArg (·[0]?) f;simpa using this
  refine⟨b,a,c,rfl,⟨p.1,d⟩,aO o ?_,n⟩;rw[List.getElem?_append_left (List.getElem?_eq_some_iff.1 e).1];exact e
end
def bO (π:Nat->Nat):Nat->ab->ab
 |0,v=>v
 |n+1,v=>match v with
  | .pointer (Z a)=> .pointer (Z ⟨π a.block,a.off,a.spot⟩)
  | .slice (Z a) l c=> .slice (Z ⟨π a.block,a.off,a.spot⟩) l c
  | .map (Z r)=> .map (Z (π r))
  | .func fn f c=> .func fn (f.toList.map (bO π n)).toArray (c.toList.map (bO π n)).toArray
  | .iface t x=> .iface t (bO π n x)
  | .agg cs=> .agg (cs.toList.map (bO π n)).toArray
  | .tuple cs=> .tuple (cs.toList.map (bO π n)).toArray
  |v=>v
def oD:Nat->ab->Bool
 |0,v=>de v
 |n+1,v=>match v with
  | .pointer (Z _)=>U
  | .slice (Z _) _ _=>U
  | .map (Z _)=>U
  | .func _ f c=>f.toList.all (oD n)&&c.toList.all (oD n)
  | .iface _ x=>oD n x
  | .agg cs=>cs.toList.all (oD n)
  | .tuple cs=>cs.toList.all (oD n)
  |v=>de v
theorem tU {π:Nat->Nat}{n:Nat}{v:ab}(h:de v=U):bO π n v=v:=by
 cases n with
 |zero=>rfl
 |succ n=>cases v with
  |pointer a=>cases a<;>first |rfl|cases h
  |slice a l c=>cases a<;>first |rfl|cases h
  |map a=>cases a<;>first |rfl|cases h
  |_=>first |rfl|cases h
theorem sQ {ρ:dz}{π:Nat->Nat}{n:Nat}(c:∀{v w:ab},oD n v=U->(aV ρ (bO π n v) w↔aV (λb=>ρ (π b)) v w)):∀{l r:List ab},l.all (oD n)=U->(bP (aV ρ) (l.map (bO π n)) r↔bP (aV λb=>ρ (π b)) l r)
 | [],r,_=>by cases r<;>exact Iff.rfl
 |a::l,[],_=>Iff.rfl
 |a::l,b::r,h=>by
  simp only[List.all_cons,ag]at h;exact and_congr (c h.1) (sQ c h.2)
theorem sL {ρ:dz}{π:Nat->Nat}:∀{n:Nat}{v w:ab},oD n v=U->(aV ρ (bO π n v) w↔aV (λb=>ρ (π b)) v w):=by
 intro n
 induction n with
 |zero=>intro v w h;exact(aG h).trans (aG h).symm
 |succ n d=>
  intro v w h;cases v with
  |pointer a=>cases a with
   |none=>exact(aG rfl).trans (aG rfl).symm
   |some a=>exact(cQ (a:=⟨π a.block,a.off,a.spot⟩)).trans (cQ (ρ:=λb=>ρ (π b)) (a:=a)).symm
  |slice a l c=>cases a with
   |none=>exact(aG rfl).trans (aG rfl).symm
   |some a=>exact(cp (a:=⟨π a.block,a.off,a.spot⟩)).trans (cp (ρ:=λb=>ρ (π b)) (a:=a)).symm
  |map r=>cases r with
   |none=>exact(aG rfl).trans (aG rfl).symm
   |some r=>exact(jG (r:=π r)).trans (jG (ρ:=λb=>ρ (π b)) (r:=r)).symm
  |func g f c=>
   have h:(f.toList.all (oD n)&&c.toList.all (oD n))=U:=h;rw[ag]at h;refine Iff.trans gA (Iff.trans ?_ gA.symm);exact exists_congr λi=>exists_congr λj=>and_congr_right λ_=>and_congr (sQ d h.1) (sQ d h.2)
  |iface t x=>exact gB.trans ((exists_congr λe=>and_congr_right λ_=>d h).trans gB.symm)
  |agg cs=>exact iz.trans ((exists_congr λe=>and_congr_right λ_=>sQ d h).trans iz.symm)
  |tuple cs=>exact fw.trans ((exists_congr λe=>and_congr_right λ_=>sQ d h).trans fw.symm)
  |_=>first |exact(aG (by exact h)).trans (aG (by exact h)).symm|cases h
def VG (π:Nat->Nat)(x:Option ab):Option ab:=match x with |some v=>Z (bO π 20 v)|none=>Y
def afE (π:Nat->Nat)(e:MapEntry):MapEntry:={e with key:=bO π 20 e.key,val:=bO π 20 e.val}
def oA (π:Nat->Nat)(k:eh):eh:={k with cs:=k.cs.map (VG π),es:=(k.es.toList.map (afE π)).toArray}
def okC (x:Option ab):Bool:=match x with |some v=>oD 20 v|none=>O
def okE (e:MapEntry):Bool:=oD 20 e.key&&oD 20 e.val
def okB (k:eh):Bool:=k.cs.all okC&&k.es.toList.all okE
theorem EW {ρ:dz}{π:Nat->Nat}:∀{l es:List MapEntry},l.all okE=U->(bP (zO ρ) (l.map (afE π)) es↔bP (zO λb=>ρ (π b)) l es)
 | [],r,_=>by cases r<;>exact Iff.rfl
 |a::l,[],_=>Iff.rfl
 |a::l,b::r,h=>by
  simp only[List.all_cons,ag]at h;have c:=h.1;unfold okE at c;rw[ag]at c;exact and_congr (and_congr (sL c.1) (and_congr (sL c.2) Iff.rfl)) (EW h.2)
structure wW (π:Nat->Nat)(k k':eh):Prop where
 kind:k'.kind=k.kind
 cells:k.kind=1->k'.sz=k.sz/\k'.cs=k.cs.map (VG π)
 map:k.kind=2->k'.es.toList=k.es.toList.map (afE π)/\k'.clock=k.clock
 iter:k.kind=3->k'.pos=k.pos/\k'.str=k.str
structure pG (G:Nat)(mi m:Mem)(π:Nat->Nat):Prop where
 wf:Wf mi
 fi:mi.floor=mi.base
 hnI:mi.home<=mi.next
 fm:m.floor=m.base
 hn:m.home<=m.next
 acP:mi.bI=[]
 bI:m.bI=[]
 af8:mi.opn=[]
 opn:m.opn=[]
 wgI:mi.wg=Y
 wg:m.wg=Y
 adT:mi.pend=[]
 pend:m.pend=[]
 am9:mi.deaf=0
 deaf:m.deaf=0
 gl:∀b,b<G->π b=b
 lt:∀b,b<mi.next->π b<m.next
 ge:∀b,mi.next<=b->π b=m.next+(b-mi.next)
 inj:∀b b',(mi.blk b).kind≠0->(mi.blk b').kind≠0->π b=π b'->b=b'
 same:∀b,(mi.blk b).kind≠0->wW π (mi.blk b) (m.blk (π b))
 okb:∀b,okB (mi.blk b)=U
 pos:∀b,(mi.blk b).kind=1->(mi.blk b).pos=1->(m.blk (π b)).pos=1
 base:∀b,(mi.blk b).kind≠0->(mi.base<=b↔m.base<=π b)
 home:∀b,(mi.blk b).kind≠0->(mi.home<=b↔m.home<=π b)
 low:∀b,b<m.home->(m.blk b).kind<=1
def B7 (mi:Mem)(π:Nat->Nat)(y:Nat):Prop:=∀b,(mi.blk b).kind≠0->π b≠y
def Bl (ρ:dz)(mi m:Mem)(π:Nat->Nat)(E:Perm):Perm where
 rd c x:=(∃b p,ρ b=Z p/\B7 mi π b/\p.c=c/\p.d<=x/\x<p.d+p.room/\m.px b (x-p.d))\/E.rd c x
 wr c x:=(∃b p,ρ b=Z p/\B7 mi π b/\p.c=c/\p.d<=x/\x<p.d+p.room/\m.okW b (x-p.d))\/E.wr c x
 ob c:=(∃b p,ρ b=Z p/\B7 mi π b/\p.c=c/\((m.blk b).kind=2\/(m.blk b).kind=3)/\m.bQ b=U)\/E.ob c
 deaf:=E.deaf
theorem kK {m:Mem}(h:m.bI=[]){b o:Nat}:m.px b o↔(m.blk b).kind=1/\(o<(m.blk b).cs.length->∃v,(m.blk b).cs[o]?=Z (Z v)):=by
 unfold Mem.px;rw[h];exact⟨λh=>⟨h.1,h.2.2⟩,λh=>⟨h.1,rfl,h.2⟩⟩
theorem nH {m:Mem}(h:m.opn=[]){b o:Nat}:m.okW b o↔m.px b o/\m.floor<=b:=by
 unfold Mem.okW;rw[h];exact⟨λh=>⟨h.1,h.2.resolve_right iq⟩,λh=>⟨h.1,.inl h.2⟩⟩
theorem P8 {π:Nat->Nat}{m m':Mem}{b b' o:Nat}(d:m.bI=[])(e:m'.bI=[])(s:wW π (m.blk b) (m'.blk b')):m.px b o↔m'.px b' o:=by
 rw[kK d,kK e,s.kind];refine and_congr_right λc=>?_
 rw[(s.cells c).2,List.length_map,List.getElem?_map];refine imp_congr_right λa=>?_
 rw[List.getElem?_eq_getElem a];cases(m.blk b).cs[o]with
 |none=>exact⟨λ⟨v,h⟩=>(by cases h),λ⟨v,h⟩=>(by cases h)⟩
 |some v=>exact⟨λ_=>⟨_,rfl⟩,λ_=>⟨_,rfl⟩⟩
section
variable {P:aE}{G:Nat}{E:Perm}{bJ w:ar}{ρ:dz}{mi m:Mem}{π:Nat->Nat}
theorem pG.px(h:pG G mi m π){b o:Nat}(a:(mi.blk b).kind≠0):mi.px b o↔m.px (π b) o:=P8 h.acP h.bI (h.same b a)
theorem pG.okW(h:pG G mi m π){b o:Nat}(a:(mi.blk b).kind≠0):mi.okW b o↔m.okW (π b) o:=by
 rw[nH h.af8,nH h.opn,h.fi,h.fm];exact and_congr (h.px a) (h.base b a)
theorem pG.own(h:pG G mi m π){b:Nat}(a:(mi.blk b).kind≠0):mi.bQ b=U↔m.bQ (π b)=U:=by
 rw[Br h.acP,Br h.bI];exact h.home b a
theorem SM (h:pG P.globals.size mi m π)(H:dj P E bJ .idle ρ m w):dj P (Bl ρ mi m π E) w .idle (λb=>ρ (π b)) mi w:=by
 have q:=H.kH;have R:∀{b o},mi.px b o->(mi.blk b).kind≠0:=λk=>by rw[((kK h.acP).1 k).1];decide
 have K:∀{b b' c x:Nat}{p n:Pl},b≠b'->ρ b=Z p->ρ b'=Z n->p.c=c->n.c=c->p.d<=x->x<p.d+p.room->n.d<=x->x<n.d+n.room->(m.blk b).kind=1->(m.blk b').kind=1->False:=
  λV i l X W r1 r2 r3 r4 k1 k2=>by
   have :=(q.sep _ _ _ _ V i l (by rw[k1];simp) (by rw[k2];simp) (X.trans W.symm)).2.2;omega
 refine⟨⟨λb p j=>?_,λb p j a=>?_,λb p o v j S=>?_,λb p o j M a t=>?_,λb p j a M=>?_,λb p j a M=>?_,
  λb b' p n V j dN a T S=>?_,λb p j=>q.sX (π b) p j,λb p j a jh=>?_⟩,bC.refl _ _,⟨λc x f=>⟨?_,?_⟩,λc f=>⟨?_,?_,?_⟩,λc x f=>?_⟩,λg hg=>?_,⟨h.wgI,h.adT,h.hnI⟩,h.wf,λb p x j t i l u f=>?_,λc x f hr=>?_⟩
 .rcases Nat.lt_or_ge b mi.next with i|i
  .exact i
  .have :=q.oe (π b) p j;have :=h.ge b i;omega
 .have r:(mi.blk b).kind≠0:=by rw[a];decide
  have s:=h.same b r;obtain⟨L,F,a3⟩:=q.cells (π b) p j (s.kind.trans a);rw[(s.cells a).2,List.length_map]at F;exact⟨L.trans (s.cells a).1,F,a3⟩
 .obtain⟨c1,c2,c3⟩:=tA S;have s:=h.same b (by rw[c1];decide);have mK:m.cell (π b) o=Z (bO π 20 v):=uu (s.kind.trans c1) (by rw[h.bI];rfl) (by rw[(s.cells c1).2,List.getElem?_map,c3];rfl);obtain⟨v',X,W⟩:=q.lZ (π b) p o _ j mK;have t:=h.okb b;unfold okB at t;rw[ag]at t;have hv:=aB.1 t.1 _ (List.mem_of_getElem? c3);exact⟨v',X,(sL hv).1 W⟩
 .have r:(mi.blk b).kind≠0:=by rw[a];decide
  exact q.thaw (π b) p o j M ((h.same b r).kind.trans a) ((h.base b r).1 t)
 .have r:(mi.blk b).kind≠0:=by rw[a];decide
  have s:=h.same b r;obtain⟨mT,L,F⟩:=q.maps (π b) p j (s.kind.trans a) ((h.own r).1 M);rw[(s.map a).2]at L;rw[(s.map a).1]at F;have t:=h.okb b;unfold okB at t;rw[ag]at t;exact⟨mT,L,(EW t.2).1 F⟩
 .have r:(mi.blk b).kind≠0:=by rw[a];decide
  have s:=h.same b r;obtain⟨L,F⟩:=q.mJ (π b) p j (s.kind.trans a) ((h.own r).1 M);rw[(s.iter a).1,(s.iter a).2]at F;exact⟨L,F⟩
 .have s:=(h.same b a).kind;have s':=(h.same b' T).kind;have :=q.sep (π b) (π b') p n (λe=>V (h.inj b b' a T e)) j dN (by rw[s];exact a) (by rw[s'];exact T) S;rw[s,s']at this;exact this
 .have r:(mi.blk b).kind≠0:=by rw[a];decide
  exact q.vars (π b) p j ((h.same b r).kind.trans a) (h.pos b a jh)
 .rcases f with⟨b,p,i,_,rfl,_⟩|f
  .exact q.sX b p i
  .exact(H.apart.cell c x f).1
 .rintro⟨b',n,A,z,C,B,J⟩;have a:=R ((nH h.af8).1 J).1;have y:=(h.okW a).1 J;rcases f with⟨b,p,i,G,l,u,D,N⟩|f
  .exact K (λe=>G b' a e.symm) i A l z u D C B ((kK h.bI).1 N).1 ((kK h.bI).1 ((nH h.opn).1 y).1).1
  .exact(H.apart.cell c x f).2 ⟨π b',n,A,z,C,B,y⟩
 .rcases f with⟨b,p,i,_,rfl,_⟩|f
  .exact q.sX b p i
  .exact(H.apart.obj c f).1
 .rintro⟨b',n,A,z,C,B⟩;have a:(mi.blk b').kind≠0:=ai;have ZB:(m.blk (π b')).kind=2\/(m.blk (π b')).kind=3:=by rw[(h.same b' a).kind];exact C
  rcases f with⟨b,p,i,G,l,u,D⟩|f
  .have :=q.sep b (π b') p n (λe=>G b' a e.symm) i A ai ai (l.trans z.symm);omega
  .exact(H.apart.obj c f).2.1 ⟨π b',n,A,z,ZB,(h.own a).1 B⟩
 .rcases f with⟨b,p,i,_,l,u,D⟩|f
  .exact(q.low.ob c ⟨b,p,i,l,u,D⟩).2
  .exact(H.apart.obj c f).2.2
 .rcases f with⟨b,p,i,G,l,u,D,N⟩|f
  .exact .inl ⟨b,p,i,G,l,u,D,N.1⟩
  .exact .inr (H.apart.wf c x f)
 .obtain⟨p,i,l⟩:=H.pS g hg;exact⟨p,by show ρ (π g)=Z p;rw[h.gl g hg];exact i,l⟩
 .have a:=R u;have Q:=(h.px a).1 u;rcases f with⟨b',n,A,f0,z,C,B,J⟩|f
  .exact K (λe=>f0 b a e) j A rfl z i l C B ((kK h.bI).1 Q).1 ((kK h.bI).1 J).1
  .exact H.Ps (π b) p x j ((h.base b a).1 t) i l Q f
 .obtain⟨b',n,A,z,C,B,J⟩:=hr;have a:=R J;have y:=(h.px a).1 J;rcases f with⟨b,p,i,G,l,u,D,N⟩|f
  .exact K (λe=>G b' a e.symm) i A l z u D C B ((kK h.bI).1 ((nH h.opn).1 N).1).1 ((kK h.bI).1 y).1
  .exact H.ew c x f ⟨π b',n,A,z,C,B,y⟩
end
end Go.AM
