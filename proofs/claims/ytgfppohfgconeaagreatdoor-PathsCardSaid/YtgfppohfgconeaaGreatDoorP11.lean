/-
  What the claim stands on, part 11.
-/
import Derived.Test.YtgfppohfgconeaaGreatDoorP10
set_option linter.unusedVariables false
set_option linter.unusedSimpArgs false
open Option renaming some → Z, none → Y
open Bool renaming true → U, false → O
open Go renaming Value → ab, World → ar
open Go.Proofs.Tryz renaming prog → ae
open Nat renaming le_of_ble_eq_true → af, le_refl → aj, eq_of_beq_eq_true → aA, lt_of_lt_of_le → aZ
open Bool renaming and_eq_true → ag
open List renaming all_eq_true → aB, mem_cons → aN
namespace Go.AM
set_option maxRecDepth 1000000
open Go Go.Conc Go.Proofs
section
variable {K:fE}{m0 m:Mem}{S SB FO AO E:Nat->Prop}{cb mb:Nat}{gF:Bool}{fresh all:List (List V)}{fv av:ab}
theorem YI (Cw:Calm m0)(k0:Kp m0 m S)(C:wY m0 m cb mb gF SB FO AO E [] all fv av)(uj:∀b,SB b->b<m.next){made:List (List V)}{Q:Nat->Prop}{N:Option Addr}{F:Nat}(q:(aW bD 1).R Q made m (.slice N made.length F))(hQ:∀b,Q b->b<m.next/\b≠cb/\b≠mb/\¬FO b)(hQE:∀b,Q b->(m.blk b).sz=4->E b)
  (hn:made.length<21000){t0:Tm}(X:bj [0,28,29,30] t0=[vP cb 0,.slice N made.length F,I (made.length:Int),I 0]):
  ∃D r A o,uT K (fp 198) (cj 198 [6]) 100000000000000 ⟨t0,m,[]⟩ (.exit 0) ⟨D,r,[]⟩/\bj [0] D=[vP cb 0]/\Kp m r (λy=>y=cb\/y=mb\/FO y)/\wY m0 r cb mb gF SB o AO E (jH gF all made) all A av:=by
 obtain⟨R,hR⟩:∃R,R=jH gF all made:=⟨_,rfl⟩;rw[<-hR];have zg:=λb f=>(C.z b f).2.2
 obtain⟨e,D,r,he,hx,rfl,A,o,i,k1,C1⟩:=eN (K:=K) (nt:=fp 198) (a:=cj 198 [6]) made.length
  (Inv:=λj tm M=>∃d p n,bj [0,28,29,30] tm=[vP cb 0,.slice N made.length F,I (made.length:Int),I j]/\Kp m M (λy=>y=cb\/y=mb\/FO y)/\wY m0 M cb mb gF SB n AO E d all p av/\(made.drop j).foldl (Kn gF all) d=R/\d.length<=j/\∀b,n b->FO b\/m.next<=b)
  (dm:=λe tm M=>e=.exit 0/\∃p n,bj [0] tm=[vP cb 0]/\Kp m M (λy=>y=cb\/y=mb\/FO y)/\wY m0 M cb mb gF SB n AO E R all p av)
  (by
   rintro j tm M G ⟨d,p,n,i,l,B,g,T3,OT⟩
   left
   have nM:=l.next;have t:Kp m0 M (λy=>S y\/y=cb\/y=mb\/FO y):=(k0.mono (S':=λy=>S y\/y=cb\/y=mb\/FO y) λ_ _ h=> .inl h).trans l λ_ _ h=> .inr h
   have gM:=Cw.gd.ext t;rw[List.drop_eq_getElem_cons G,List.foldl_cons]at g;have w:∀b,Q b->¬(b=cb\/b=mb\/FO b):=λb f h=>by have :=hQ b f;rcases h with h|h|h<;>simp_all
   obtain⟨pb,pc,u,cs,e,hQb,ou,v,hu2,T,ov⟩:=aW.get ((aW bD 1).ext q l w) G;cases e;generalize made[j]=x at g T;obtain⟨L,c,rfl,_,orw,hc⟩:=id T;have P:bD.R E x M (vL L 0 x.length c):=bD.mono (bD.sz4 T) λb f=>hQE b f.1 (by rw[<-l.blk b (hQ b f.1).1 (w b f.1)];exact f.2)
   have l1:aI pb (0+j*1) M=Z (vL L 0 x.length c,M):=by
    rw[Nat.zero_add,Nat.mul_one];rw[Nat.mul_one]at v;refine aO ou ?_;have :=congrArg (·[0]?) v;simpa[ab.cells]using this
   have l0:aI cb 0 M=Z (.bool gF,M):=aO B.ob rfl;have aqB:∀b,SB b->b<M.next:=λb f=>by have :=uj b f;omega
   have W:∀{M':Mem},Kp M M' (λy=>y=cb\/y=mb\/n y)->Kp m M' (λy=>y=cb\/y=mb\/FO y):=λk=>l.trans k λb f h=>h.imp id λh=>h.imp id λh=>(OT b h).resolve_right ai
   cases gF with
   |true=>
    have fA:Kn U all d x=d++[x]:=rfl;rw[fA]at g;obtain⟨m2,m3,m4,A,e2,l2,e3,e4,k4,C4⟩:=adm Cw t B aqB P ov ai;obtain⟨J,cN,H⟩:=aL (K:=K) Qe (aki cb pb made.length F j L x.length c p A _) i (.cond (FM G)<|.idx rfl G<|.mem l1<|.mem l0<|.rp rfl<|.mem l2<|.mem e2<|.mem e3<|.mem e4 .nil);rw[add1 ai]at H;exact⟨J,m4,cN,_,_,_,H,W (k4.mono λ_ _ h=>h.imp id .inr),C4,g,by simp;omega,λb f=> .inr ai⟩
   |false=>cases B.s)
  (by
   rintro tm M ⟨d,p,n,i,l,B,g,T3,OT⟩;rw[List.drop_length]at g;have g:d=R:=g;subst g;have EH:bj [0,29,30] tm=[vP cb 0,I (made.length:Int),I (made.length:Int)]:=by
    simp only[bj,List.map_cons,List.map_nil,List.cons.injEq,and_true]at i⊢;exact⟨i.1,i.2.2.1,i.2.2.2⟩
   obtain⟨J,cN,H⟩:=aL (K:=K) (m:=M) (m':=M) Qe (akf cb made.length made.length) EH (.cond (SF _) .nil);exact⟨_,J,M,iq,cN,rfl,_,_,H,l,B⟩)
  (tm:=t0) (m:=m) ⟨[],fv,FO,X,.refl _ _,C,hR.symm,aj _,λb f=> .inl f⟩ ai
 exact⟨D,r,A,o,hx,i,k1,C1⟩
end
theorem akk (e d c:Nat)(a w b rv:ab):cV 198 0 99 [0,1,2] [vP e 0,.agg #[a,w,b],vP d 0]
 [jF [Z a,Z w,Z b] c,
  vT 3 c (.agg #[a,w,b]),
  .call 149 [.agg #[a,w,b],vP d 0] (.tuple #[rv,I 9]),
  yp]
 .ret [6] [I 9]:=cT
theorem akg (a g h fn e b c:Nat)(i f d:Option Addr):cV 198 7 99 [0] [vP a 0]
 [.mem (aI a 3) (.slice i g h),
  .mem (aI a 2) (.slice f fn e),
  fQ,
  .mem (cJ ae #[29,29] (.slice i g h) (.slice f fn e)) (.slice d b c),
  fQ,
  .mem (du a 3 (.slice d b c)) undef,
  .mem (aI a 3) (.slice d b c),
  bu (ji b 1000) U]
 .ret [6] [I 9]:=cT
theorem Ls {gF:Bool}{all:List (List V)}:∀{made acc:List (List V)},(made.foldl (Kn gF all) acc).length<=acc.length+made.length
 | [],acc=>aj _
 |x::made,acc=>by
  have h:=Ls (gF:=gF) (all:=all) (made:=made) (acc:=Kn gF all acc x);have :(Kn gF all acc x).length<=acc.length+1:=by unfold Kn;simp
  rw[List.foldl_cons,List.length_cons];omega
theorem mI.room{α:Type}{E:pI α}{sz:Nat}{a i:Nat->Prop}{m:Mem}{acc:List α}{sv:ab}(h:mI E sz a i m acc sv):∃o,Room sz m sv o/\∀b,o=Z b->a b/\Own m b:=by
 rcases h with⟨_,rfl⟩|⟨b,j,rest,rfl,f,d,c,g⟩
 .exact⟨Y,.inl ⟨rfl,rfl⟩,λb e=>by cases e⟩
 .have :=g.one.1;exact⟨Z b,.inr ⟨b,_,_,rfl,rfl,c.ro,by simp;omega⟩,λb e=>by cases e;exact⟨f.1,d⟩⟩
theorem ac7 {B:Nat->Prop}{l:List (List V)}{m:Mem}{v:ab}(h:(aW bD 1).R B l m v):(aW bD 1).R (λb=>B b/\b<m.next) l m v:=by
 obtain⟨p,d,k,j⟩:=h;refine⟨p,d,λb o n c e=>⟨k b o n c e,?_⟩,j.mono λx u _ w=>⟨?_,w.2⟩⟩
 .rcases d.2 with⟨a,_⟩|⟨r,q,a,f,_⟩
  .rw[a]at e;cases e
  .rw[a]at e;cases e;exact f.lt
 .obtain⟨b,c,e,i,o,g⟩:=w.1;exact⟨b,c,e,⟨i,o.lt⟩,o,g⟩
section
variable {K:fE}{m0 m:Mem}{B BT S SB FO AO E:Nat->Prop}{cb mb d:Nat}{gF:Bool}{fresh all:List (List V)}{fv av v:ab}{Tb:Nat->Option (List (List V))}
set_option maxHeartbeats 1000000 in
theorem anz(hK:B9 K)(Cw:Calm m0)(k0:Kp m0 m S){iP:List (List Nat)}{cs:List ab}{bo bm:Nat->Option Nat}{al am:Option Nat}{rl:ab}(D:cZ m d SB iP cs bo al bm am rl)(C:wY m0 m cb mb gF SB FO AO E fresh all fv av){s:ru}(hs:tn.R B s m v)(jI:fY BT Tb m)(lz:∀b,B b\/BT b->¬SB b/\b<m.next)
  {je:Nat}(dV:MS Tb s je)(mn:all.length<=1000):
  ∃m' C9 j4 gS uy pK V T DJ e,Ev K 198 [vP cb 0,v,vP d 0] m (I ((e:Nat):Int)) m'/\Kp m m' (λb=>SB b\/b=cb\/b=mb\/FO b\/AO b)/\cZ m' d C9 j4 gS uy pK V T DJ/\(∀b,C9 b->(SB b\/m.next<=b)/\b<m'.next)/\
   ((e=0/\(∃FO' AO' w Yr av',wY m0 m' cb mb gF C9 FO' AO' w (jH gF all (eX Tb s)) (all++jH gF all (eX Tb s)) Yr av')/\¬qN Tb s je/\(all++jH gF all (eX Tb s)).length<=1000)\/(e=9/\(qN Tb s je\/1000<(all++jH gF all (eX Tb s)).length))):=by
 obtain⟨X,W,xi,rfl,q1,q2,q3⟩:=hs;have cm:=Cw.ext k0;obtain⟨D0,QV⟩:=D.exact;obtain⟨b4,hb4⟩:∃b,b=m.next:=⟨_,rfl⟩;obtain⟨H,e1,o1,k1,n1,_⟩:=bz cm.gd [X,W,xi];rw[<-hb4]at e1 o1;have Fb:=cm.ext k1;have l1:fN 3 b4 0 H=Z (.agg #[X,W,xi],H):=cL (vs:=[X,W,xi]) o1 rfl (af rfl);have f1:∀{b},b<m.next->b<H.next:=λh=>by omega
 have old:=λ{α:Type}{E:pI α}{x:α}{u:ab} (h:E.R B x m u)=>E.ext h k1 λ_ _ h=>h
 obtain⟨rv,F,j4,gS,uy,pK,V,T,DJ,er,e2,k2,D2,dQ⟩:=aeH (K:=K) hK Fb (D0.a9 k1) (old q1) (old q2) (old q3) (jI.ext k1 λ_ _ h=>h) (λb k=>⟨λh=>(lz b k).1 (QV b h).1,f1 (lz b k).2⟩) dV.src dV.join dV.rest dV.il;have Nc:=Fb.ext k2;have n2:=k2.next;obtain⟨D3,S8⟩:=D2.exact;obtain⟨r,hSX⟩:∃r,r=BV d uy V pK T:=⟨_,rfl⟩;rw[<-hSX]at D3 S8;have nR:Kp m F SB:=k1.sC.trans (k2.mono (S':=SB) λb k h=>(QV b h).1) λ_ _ h=>h
 have ahu:∀{M:Mem},F.next<=M.next->∀b,r b->(SB b\/m.next<=b)/\b<M.next:=λhM b h=>by
  have :=S8 b h;exact⟨this.1.elim (λh=> .inl (QV b h).1) λh=> .inr (by have :=h.1;omega),ai⟩
 rcases dQ with⟨rfl,qr,_,hje,acM⟩|⟨rfl,rfl,X9⟩
 case inr=>
  obtain⟨t0,w0,g0⟩:=aU (K:=K) (m:=m) (m':=F) (tm:=entry [vP cb 0,.agg #[X,W,xi],vP d 0]) (akk cb d b4 X W xi _) rfl (.mem e1<|.mem l1<|.call e2<|.cond rfl .nil);exact⟨F,r,j4,gS,uy,pK,V,T,DJ,9,dE Wk (aC.last w0 Ah) (.inr rfl) g0,nR.mono λ_ _ h=> .inl h,D3,ahu (aj _),.inr ⟨rfl,.inl X9⟩⟩
 have hnb:¬qN Tb s je:=λh=>by
  rcases h with h|h
  .omega
  .omega
 obtain⟨made,xm⟩:∃l,l=eX Tb s:=⟨_,rfl⟩;rw[show uI Tb s.2.2 (fu Tb s.2.1 (dM Tb s.1 0 [cU]))=eX Tb s from rfl,<-xm]at qr;rw[<-xm];have hml:made.length<=1000:=by
  have :(eX Tb s).length<=0+(fu Tb s.2.1 (dM Tb s.1 0 [cU])).length:=yV (λi=>aj _) _ _ [];rw[xm];omega
 have hnl:(jH gF all made).length<=0+made.length:=Ls (acc:=[]);have QT:∀b,b<m.next->r b->SB b:=λb k h=>(S8 b h).1.elim (λh=>(QV b h).1) λh=>by have :=h.1;omega
 have z:=C.z;have zE:∀b,E b->¬SB b/\m0.next<=b/\b<m.next:=λb h=>z b (.inr (.inr (.inr (.inr h))))
 have zA:∀b,AO b->¬SB b/\m0.next<=b/\b<m.next:=λb h=>z b (.inr (.inr (.inr (.inl h))))
 have zF:∀b,FO b->¬SB b/\m0.next<=b/\b<m.next:=λb h=>z b (.inr (.inr (.inl h)))
 have zc:=z cb (.inl rfl);have zm:=z mb (.inr (.inl rfl));have C2:=(C.ext k1 λ_ _ h=>h).ext k2 λb k h=>(z b k).1 (QV b h).1
 have N0:=k0.next;obtain⟨w,hE'⟩:∃w:Nat->Prop,w=λb=>E b\/(ik H F b/\¬r b):=⟨_,rfl⟩
 have toE:∀b,E b->w b:=λb h=>by rw[hE'];exact .inl h
 have p:∀b,w b->(E b\/m.next<b)/\b<F.next/\¬r b:=λb h=>by
  rw[hE']at h;rcases h with h|h
  .exact⟨.inl h,by have :=(zE b h).2.2;omega,λc=>(zE b h).1 (QT b (zE b h).2.2 c)⟩
  .exact⟨.inr (by have :=h.1.1;omega),h.1.2,h.2⟩
 obtain⟨o,sY,L⟩:=C2.f.room;obtain⟨T7,m3,e3,k3,L3⟩:=adt (K:=K) agF (t:=29) (sz:=1) rfl (E:=bD) sY λb h=>(L b h).2
 have n3:=k3.next;have uo:=Nc.ext k3;have A:∀b,o=Z b->b≠cb/\b≠mb/\¬AO b/\¬E b/\b<m.next/\m0.next<=b/\¬SB b:=λb h=>by
  have h:=(L b h).1;have h1:=C.fo b h;have n:=zF b h;exact⟨h1.1,h1.2.1,h1.2.2.1,h1.2.2.2,n.2.2,n.2.1,n.1⟩
 have apq:=C2.ob.ext k3 λh=>(A cb h).1 rfl
 have kb3:Kp m0 m3 (λb=>S b\/SB b\/o=Z b):=(((k0.mono (S':=λb=>S b\/SB b\/o=Z b) λ_ _ h=> .inl h).trans nR λ_ _ h=> .inr (.inl h))).trans k3 λ_ _ h=> .inr (.inr h)
 have mQ:nT T7=U:=L3.one;obtain⟨m4,e4,o4,k4⟩:=gj (o:=2) T7 apq ((Cw.gd.own kb3 zc.2.1).may _ _) (af rfl) mQ;have n4:=k4.next;have Xc:Kp F m4 (λb=>b=cb\/o=Z b):=(k3.mono (S':=λb=>b=cb\/o=Z b) λ_ _ h=> .inr h).trans k4 λ_ _ h=> .inl h
 have LU:∀b,H.next<=b->¬(b=cb\/o=Z b):=λb k h=>by
  rcases h with h|h
  .omega
  .have :=(A b h).2.2.2.2.1;omega
 have kb4:Kp m0 m4 (λb=>S b\/SB b\/b=cb\/o=Z b):=((k0.mono (S':=λb=>S b\/SB b\/b=cb\/o=Z b) λ_ _ h=> .inl h).trans nR λ_ _ h=> .inr (.inl h)).trans Xc λ_ _ h=> .inr (.inr h)
 have hA4:∀b,AO b\/w b->¬(b=cb\/o=Z b):=λb k=>by
  rcases k with h|h
  .exact λc=>c.elim (C.ao b h).1 λc=>(A b c).2.2.1 h
  .rcases(p b h).1 with n|n
   .exact λc=>c.elim (C.e b n).1 λc=>(A b c).2.2.2.1 n
   .exact LU b ai
 have C4:wY m0 m4 cb mb gF r (λb=>o=Z b) AO w [] all T7 av:=by
  refine⟨o4,(L3.Hh (J1:=w) (λb h=>h.elim) λb h c=>?_).ext k4 λb k=>?_,((C2.a.Hh (J1:=w) (λb h _=>toE b h) λb h c=>?_).ext Xc hA4),λh=>absurd rfl h,(aW bD 1).ext ((aW bD 1).mono C2.ax λb h=>h.imp id (toE b)) Xc hA4,C.s,C.cm,λb k=>?_,λb h=>?_,λb h=>⟨(C.ao b h).1,(C.ao b h).2.1,λc=>?_⟩,λb h=>?_⟩
  .rcases(p b c).1 with n|n
   .exact(A b h).2.2.2.1 n
   .have :=(A b h).2.2.2.2.1;omega
  .rcases k with h|h
   .exact(A b h).1
   .rcases(p b h).1 with n|n
    .exact(C.e b n).1
    .omega
  .rcases(p b c).1 with n|n
   .exact(C.ao b h).2.2 n
   .have :=(zA b h).2.2;omega
  .have hold:∀b,(¬SB b/\m0.next<=b/\b<m.next)->¬r b/\m0.next<=b/\b<m4.next:=λb h=>⟨λc=>h.1 (QT b h.2.2 c),h.2.1,ai⟩
   rcases k with h|h|h|h|h
   .exact hold b (z b (.inl h))
   .exact hold b (z b (.inr (.inl h)))
   .exact hold b ⟨(A b h).2.2.2.2.2.2,(A b h).2.2.2.2.2.1,(A b h).2.2.2.2.1⟩
   .exact hold b (zA b h)
   .have :=p b h;exact⟨this.2.2,this.1.elim (λh=>(zE b h).2.1) λh=>by omega,ai⟩
  .have :=A b h;exact⟨this.1,this.2.1,this.2.2.1,λc=>(p b c).1.elim this.2.2.2.1 λc=>by omega⟩
  .exact(p b c).1.elim (C.ao b h).2.2 λc=>by have :=(zA b h).2.2;omega
  .rcases(p b h).1 with n|n
   .exact C.e b n
   .exact⟨ai,ai⟩
 obtain⟨ra,rc,rfl⟩:=aW.form qr;have q:∀b,ik H F b->H.next<=b/\b<F.next:=λb h=>h
 have ja:∀b,ik H F b->(m4.blk b).sz=(F.blk b).sz:=λb h=>by rw[Xc.blk b (q b h).2 (LU b (q b h).1)]
 obtain⟨t0,w0,g0⟩:=aU (K:=K) (m:=m) (m':=m4) (tm:=entry [vP cb 0,.agg #[X,W,xi],vP d 0]) (akj cb d b4 made.length rc ra X W xi fv T7) rfl (.mem e1<|.mem l1<|.call e2<|.cond rfl<|.mem (aO C2.ob rfl)<|.call e3<|.mem e4 .nil);obtain⟨t1,P,fv5,FO5,hx,hg,k5,g⟩:=YI (K:=K) Cw kb4 C4 (λb h=>by have :=(S8 b h).2.1;omega) (made:=made) (Q:=ik H F) ((aW bD 1).ext qr Xc λb h=>LU b (q b h).1) (λb h=>⟨by have :=(q b h).2;omega,by have :=(q b h).1;omega,by have :=(q b h).1;omega,λc=>LU b (q b h).1 (.inr c)⟩)
  (λb h h4=>by rw[hE'];exact .inr ⟨h,λc=>by rw[ja b h]at h4;rcases(S8 b c).2.2 with h|h|h<;>omega⟩) ai g0
 have n5:=k5.next;have kb5:Kp m0 P (λb=>S b\/SB b\/b=cb\/b=mb\/o=Z b):=(kb4.mono (S':=λb=>S b\/SB b\/b=cb\/b=mb\/o=Z b) λb _ h=>h.imp id λh=>h.imp id λh=>h.imp id .inr).trans k5 λb _ h=> .inr (.inr h)
 have g5:=Cw.gd.ext kb5;have y:=g.z;have N:∀b,w b->b<P.next:=λb h=>(y b (.inr (.inr (.inr (.inr h))))).2.2
 obtain⟨av6,m6,e6,k6,L6,A6⟩:=g.a.Pf (t:=29) g5 rfl g.f.first (λb h=>(g.ao b h).2.2) N N (by simp;omega);have n6:=k6.next;have apn:=g.ob.ext k6 λh=>(g.ao cb h).1 rfl
 obtain⟨G,e7,o7,k7⟩:=gj (o:=3) av6 apn ((Cw.gd.own ((kb5.mono (S':=λb=>(S b\/SB b\/b=cb\/b=mb\/o=Z b)\/AO b) λ_ _ h=> .inl h).trans k6 λ_ _ h=> .inr h) zc.2.1).may _ _) (af rfl) L6.one;have n7:=k7.next;have J:Kp P G (λb=>b=cb\/AO b):=(k6.mono (S':=λb=>b=cb\/AO b) λ_ _ h=> .inr h).trans k7 λ_ _ h=> .inl h
 obtain⟨aa,ac,rfl⟩:=g.a.form;obtain⟨fa,fc,rfl⟩:=g.f.form;obtain⟨ga,gc,rfl⟩:=L6.form;have hF5:∀b,FO5 b->¬(b=cb\/AO b):=λb h c=>c.elim (g.fo b h).1 (g.fo b h).2.2.1
 have hE5:∀b,w b->¬(b=cb\/AO b):=λb h c=>c.elim (g.e b h).1 λc=>(g.ao b c).2.2 h
 have hA7:∀b,(b=P.next/\b<m6.next)\/w b->¬b=cb:=λb k=>by
  rcases k with h|h
  .have :=(y cb (.inl rfl)).2.2;omega
  .exact(g.e b h).1
 have hK7:Kp m G (λb=>SB b\/b=cb\/b=mb\/FO b\/AO b):=by
  refine((((nR.mono (S':=λb=>SB b\/b=cb\/b=mb\/FO b\/AO b) λ_ _ h=> .inl h).trans Xc ?_).trans k5 ?_).trans J ?_)
  .exact λb _ h=> .inr (h.elim .inl λh=> .inr (.inr (.inl (L b h).1)))
  .exact λb _ h=> .inr (h.imp id λh=>h.imp id λh=> .inl (L b h).1)
  .exact λb _ h=> .inr (h.imp id λh=> .inr (.inr h))
 have hD7:cZ G d r j4 gS uy pK V T DJ:=by
  refine((D3.ext Xc λb h c=>?_).ext k5 λb h c=>?_).ext J λb h c=>?_
  .rcases c with c|c
   .exact(y b (.inl c)).1 h
   .have :=A b c;exact this.2.2.2.2.2.2 (QT b this.2.2.2.2.1 h)
  .rcases c with c|c|c
   .exact(y b (.inl c)).1 h
   .exact(y b (.inr (.inl c))).1 h
   .have :=A b c;exact this.2.2.2.2.2.2 (QT b this.2.2.2.2.1 h)
  .rcases c with c|c
   .exact(y b (.inl c)).1 h
   .exact(y b (.inr (.inr (.inr (.inl c))))).1 h
 have hC7:wY m0 G cb mb gF r FO5 (λb=>b=P.next/\b<m6.next) w (jH gF all made) (all++jH gF all made) (.slice fa (jH gF all made).length fc) (.slice ga (all++jH gF all made).length gc):=by
  refine⟨o7,g.f.ext J λb k=>k.elim (hF5 b) (hE5 b),(L6.lt.Hh (J1:=w) (λb h _=>h.elim id id) λb h c=>?_).ext k7 hA7,λh=>(aW bD 1).ext (g.fx h) J λb k=>k.elim (hF5 b) (hE5 b),(aW bD 1).ext ((aW bD 1).mono (ac7 A6) λb h=>h.1.imp (λe=>⟨e,h.2⟩) λh=>h.elim id id) k7 hA7,C.s,C.cm,λb k=>?_,λb h=>⟨(g.fo b h).1,(g.fo b h).2.1,λe=>?_,(g.fo b h).2.2.2⟩,λb h=>⟨?_,?_,λc=>?_⟩,g.e⟩
  .have :=N b c;omega
  .have hold:∀b,(¬r b/\m0.next<=b/\b<P.next)->¬r b/\m0.next<=b/\b<G.next:=λb h=>⟨h.1,h.2.1,ai⟩
   rcases k with h|h|h|h|h
   .exact hold b (y b (.inl h))
   .exact hold b (y b (.inr (.inl h)))
   .exact hold b (y b (.inr (.inr (.inl h))))
   .exact⟨λc=>by have :=(S8 b c).2.1;omega,by have :=kb5.next;omega,ai⟩
   .exact hold b (y b (.inr (.inr (.inr (.inr h)))))
  .have :=(y b (.inr (.inr (.inl h)))).2.2;omega
  .have :=(y cb (.inl rfl)).2.2;omega
  .have :=(y mb (.inr (.inl rfl))).2.2;omega
  .have :=N b c;omega
 by_cases hl:(all++jH gF all made).length<=1000
 .obtain⟨t2,w2,g2⟩:=aU (K:=K) (m:=P) (m':=G) (akh cb all.length ac (jH gF all made).length fc (all++jH gF all made).length gc aa fa ga) hg (.mem (aO g.ob rfl)<|.mem (aO g.ob rfl)<|.mem (aJ g5)<|.mem e6<|.mem (aJ (g5.ext k6))<|.mem e7<|.mem (aO o7 rfl)<|.cond (dF (od (j:=1000))) .nil);exact⟨G,r,j4,gS,uy,pK,V,T,DJ,0,dE Wk (aC.cut w0 (aC.fC hx (aC.last w2 Ah))) (.inr rfl) g2,hK7,hD7,ahu ai,.inl ⟨rfl,⟨_,_,_,_,_,hC7⟩,hnb,hl⟩⟩
 .obtain⟨t2,w2,g2⟩:=aU (K:=K) (m:=P) (m':=G) (akg cb all.length ac (jH gF all made).length fc (all++jH gF all made).length gc aa fa ga) hg (.mem (aO g.ob rfl)<|.mem (aO g.ob rfl)<|.mem (aJ g5)<|.mem e6<|.mem (aJ (g5.ext k6))<|.mem e7<|.mem (aO o7 rfl)<|.cond (dT (od (j:=1000)) ai) .nil);exact⟨G,r,j4,gS,uy,pK,V,T,DJ,9,dE Wk (aC.cut w0 (aC.fC hx (aC.last w2 Ah))) (.inr rfl) g2,hK7,hD7,ahu ai,.inr ⟨rfl,.inr ai⟩⟩
end
theorem akW (p d h g j l f c i:Nat)(a w b n k m:ab)(gF:Bool)(e:Int):cV 148 0 5 [0,1] [.agg #[vP p 0,.bool U,a,w,b,vL f 0 c i],vP d 0]
 [jF [Z (vP p 0),Z (.bool U),Z a,Z w,Z b,Z (vL f 0 c i)] h,
  .mem (aI h 5) (vL f 0 c i),
  .idx 0 c 0,
  vT 4 f (.agg #[.bool gF,n,k,m]),
  jF [Z (.bool O),Z ei,Z .nilIface,Z ei] g,
  rJ g 0 [.bool gF,n,k,m],
  .mem (aI g 0) (.bool gF),
  .mem y6 (.map (Z l)),
  jF [Z (.bool gF),Z (.map (Z l)),Z ei,Z ei] j,
  .mem (fN 3 h 2) (.agg #[a,w,b]),
  .call 198 [vP j 0,.agg #[a,w,b],vP d 0] (I e)]
 .normal [1,2,6,7,8,9] [vP d 0,vP h 0,vP g 0,vP j 0,I e,I 1]:=cT
theorem akU (d i h c p k fn f:Nat)(g:Option Addr)(a w b:ab)(e:Int):aY 148 [5] 0 99 [1,2,6,7,8,9] [vP d 0,vP i 0,vP h 0,vP c 0,I 0,I k]
 ((rp 4 (.bool U) U (.mem (aI c 2) (.slice g fn f)::(rp 3 (.bool U) U ([bu (ji fn 0) U,
  bu (ji k 200) O,
  .mem (aI i 0) (vP p 0),
  .mem (aI c 2) (.slice g fn f),
  fQ,
  .mem (du p 1 (.slice g fn f)) undef,
  .mem (fN 3 h 1) (.agg #[a,w,b]),
  .call 198 [vP c 0,.agg #[a,w,b],vP d 0] (I e)])))))
 .normal [1,2,6,7,8,9] [vP d 0,vP i 0,vP h 0,vP c 0,I e,I (bU k 1)]:=cT
theorem akT (d f e a k fn b:Nat)(c:Option Addr):aY 148 [5] 0 99 [1,2,6,7,8,9] [vP d 0,vP f 0,vP e 0,vP a 0,I 0,I k]
 ((rp 4 (.bool U) U (.mem (aI a 2) (.slice c fn b)::(rp 3 (.bool U) U ([bu (ji fn 0) U,
  bu (ji k 200) U])))))
 .ret [4,5] [ei,I 10]:=cT
theorem akS (a fn b:Nat)(c:Option Addr):aY 148 [5] 0 99 [7,8] [vP a 0,I 0]
 ((rp 4 (.bool U) U (.mem (aI a 2) (.slice c fn b)::(rp 3 (.bool U) U ([bu (ji fn 0) O])))))
 (.exit 0) [7,8] [vP a 0,I 0]:=cT
theorem akV (a:Nat):aY 148 [5] 0 99 [7,8] [vP a 0,I 9]
 ((rp 8 (.bool O) O ([])))
 (.exit 0) [7,8] [vP a 0,I 9]:=cT
theorem akR (a:Nat):cV 148 6 99 [7,8] [vP a 0,I 9]
 [yp]
 .ret [4,5] [ei,I 9]:=cT
theorem akQ (a:Nat)(v:ab):cV 148 6 99 [7,8] [vP a 0,I 0]
 [jT,
  .mem (aI a 3) v]
 .ret [4,5] [v,I 0]:=cT
theorem Wp:jJ 148 2 [4,5]=U:=aM
theorem Ha:(dq (bX 148)).length<=99:=af aM
theorem ack:jY (bX 148) 5=Z (0,(cj 148 [5])):=aM
theorem CK:jz 148 [5]:=aM
theorem acp:mm (fp 148) (bX 148) (cj 148 [5]) 5 0=U:=aM
def rC (p:Nat)(rows:List (List V))(Tb:Nat->Option (List (List V)))(q:Nat):Option (List (List V)):=if q=p then Z rows else Tb q
inductive Rt (T:List (List V)->Nat->Option (List (List V)))(gF:Bool)(s:ru):Nat->List (List V)->List (List V)->List (List V)->Nat->Prop
 |done {k:Nat}{all:List (List V)}:Rt T gF s k [] all all 0
 |over {k:Nat}{f all:List (List V)} (h0:f≠[]) (hk:200<k):Rt T gF s k f all [] 10
 |fail {k je:Nat}{f all:List (List V)} (h0:f≠[]) (hk:k<=200) (ok:MS (T f) s je) (hb:qN (T f) s je\/1000<(all++jH gF all (eX (T f) s)).length):Rt T gF s k f all [] 9
 |step {k e:Nat}{f all res:List (List V)} (h0:f≠[]) (hk:k<=200) (ok:pF (T f) s) (hl:(all++jH gF all (eX (T f) s)).length<=1000)
   (n:Rt T gF s (k+1) (jH gF all (eX (T f) s)) (all++jH gF all (eX (T f) s)) res e):Rt T gF s k f all res e
theorem Rt.ways{T:List (List V)->Nat->Option (List (List V))}{gF:Bool}{s:ru}{k er:Nat}{f all res:List (List V)}(h:Rt T gF s k f all res er):
  (f=[]/\res=all/\er=0)\/(f≠[]/\200<k/\res=[]/\er=10)\/(f≠[]/\k<=200/\∃c,MS (T f) s c/\
   (((qN (T f) s c\/1000<(all++jH gF all (eX (T f) s)).length)/\res=[]/\er=9)\/
    (¬qN (T f) s c/\(all++jH gF all (eX (T f) s)).length<=1000/\Rt T gF s (k+1) (jH gF all (eX (T f) s)) (all++jH gF all (eX (T f) s)) res er))):=by
 cases h with
 |done=>exact .inl ⟨rfl,rfl,rfl⟩
 |over b a=>exact .inr (.inl ⟨b,a,rfl,rfl⟩)
 |fail b a ok hb=>exact .inr (.inr ⟨b,a,_,ok,.inl ⟨hb,rfl,rfl⟩⟩)
 |step b a ok d n=>exact .inr (.inr ⟨b,a,0,ok.e.1,.inr ⟨ok.e.2,d,n⟩⟩)
theorem WC {m:Mem}:∃a,y6 m=Z (.map (Z m.next),a)/\Kp m a eK/\a.next=m.next+1:=
 ⟨m.alloc {kind:=2},rfl,⟨Nat.le_succ _,rfl,rfl,rfl,rfl,rfl,rfl,rfl,rfl,λx b _=>by rw[Mem.cC,bH ai]⟩,rfl⟩
section
variable {K:fE}{m:Mem}{B BT SB:Nat->Prop}{p d:Nat}{gF:Bool}{Tb:Nat->Option (List (List V))}
theorem ars (hK:B9 K)(cm:Calm m){iP:List (List Nat)}{cs:List ab}{bo bm:Nat->Option Nat}{al am:Option Nat}{rl:ab}(D:cZ m d SB iP cs bo al bm am rl)(uj:∀b,SB b->b<m.next){cl rl0 xa xw xb xu:ab}(op:Obj m p 0 [cl,rl0])(wp:Own m p)(hpS:¬SB p)
  {first again:ru}{res:List (List V)}{er:Nat}(c:rm.R B (first,[(gF,again)]) m (.agg #[xa,xw,xb,xu]))(jI:fY BT Tb m)(lz:∀b,B b\/BT b->¬SB b/\b≠p/\b<m.next)(dV:pF Tb first)(h1:gF=U)
  (hl:(jH gF [] (eX Tb first)).length<=1000)(hr:Rt (λf=>rC p f Tb) gF again 1 (jH gF [] (eX Tb first)) (jH gF [] (eX Tb first)) res er):
  ∃m' sv C9 j4 gS uy pK yf yk DJ AE,Ev K 148 [.agg #[vP p 0,.bool U,xa,xw,xb,xu],vP d 0] m (.tuple #[sv,I er]) m'/\Kp m m' (λb=>SB b\/b=p)/\cZ m' d C9 j4 gS uy pK yf yk DJ/\
   (aW bD 1).R AE res m' sv/\(∀b,AE b->¬C9 b/\m.next<=b/\b<m'.next)/\(∀b,C9 b->(SB b\/m.next<=b)/\b<m'.next)/\∃r,Obj m' p 0 [cl,r]:=by
 obtain⟨_,_,_,xu',e,nK,nJ⟩:=c;cases e;obtain⟨ub,uc,u,ucs,e,hub,ou,hu1,hu2,hu,ov⟩:=aW.get (j:=0) nJ (Nat.lt_succ_self 0);cases e;obtain⟨ya,yw,yb,rfl,hag⟩:=hu;have g:=cm.gd;obtain⟨b2,ahq⟩:∃b,b=m.next:=⟨_,rfl⟩;obtain⟨m1,e1,o1,k1,n1,_⟩:=bz g [vP p 0,.bool U,xa,xw,xb,vL ub 0 1 uc];rw[<-ahq]at e1 o1;obtain⟨m2,s,e2,e3,o3,k3,n3⟩:=jV (g.ext k1) [.bool O,.slice Y 0 0,.nilIface,.slice Y 0 0] [.bool gF,ya,yw,yb] rfl (aB.2 λy hy=>ov.2 y hy);obtain⟨b6,hb6⟩:∃b,b=m1.next:=⟨_,rfl⟩;rw[<-hb6]at e2 e3 o3;have pf:=k1.aX k3;have uo:=cm.ext pf;have n03:=pf.next;obtain⟨m4,e4,k4,n4⟩:=WC (m:=s);obtain⟨mb,OL⟩:∃b,b=s.next:=⟨_,rfl⟩;rw[<-OL]at e4;obtain⟨m5,e5,o5,k5,n5,_⟩:=bz (uo.gd.ext k4) [.bool gF,.map (Z mb),.slice Y 0 0,.slice Y 0 0];obtain⟨t,hcb⟩:∃b,b=m4.next:=⟨_,rfl⟩;rw[<-hcb]at e5 o5;have Q:=k4.aX k5;have CR:=pf.aX Q;have n05:=CR.next;have o15:=((o1.a9 k3).a9 k4).a9 k5;have o35:=(o3.a9 k4).a9 k5;have C5:wY s m5 t mb gF SB eK eK eK [] [] (.slice Y 0 0) (.slice Y 0 0):=
  ⟨o5,.inl ⟨rfl,rfl⟩,.inl ⟨rfl,rfl⟩,λh=>absurd rfl h,aW.nil,h1,ai,λb c=>by
   have c:b=t\/b=mb:=by rcases c with h|h|h|h|h<;>first |exact .inl h|exact .inr h|exact h.elim
   exact⟨λh=>by have :=uj b h;omega,ai,ai⟩,λb h=>h.elim,λb h=>h.elim,λb h=>h.elim⟩
 have aqL:∀b,B b\/BT b->¬SB b/\b<m5.next:=λb c=>⟨(lz b c).1,by have :=(lz b c).2.2;omega⟩
 obtain⟨m6,SB6,ai1,cs6,bo6,al6,bm6,am6,rl6,er6,e6,k6,D6,hS6,hc6⟩:=anz (K:=K) hK uo Q (D.a9 CR) C5 (tn.ext nK CR λ_ _ h=>h) (jI.ext CR λ_ _ h=>h) aqL dV.e.1 (Nat.zero_le _);rw[List.nil_append]at hc6;obtain⟨rfl,⟨FO6,AO6,E6,fv6,av6,C6⟩,-,-⟩:=hc6.resolve_right λh=>h.2.elim dV.e.2 (Nat.not_lt.2 hl)
 have k6':Kp m5 m6 (λb=>SB b\/s.next<=b):=k6.mono λb c h=>by
  rcases h with h|h|h|h|h
  .exact .inl h
  .exact .inr ai
  .exact .inr ai
  .exact h.elim
  .exact h.elim
 obtain⟨t0,w0,g0⟩:=aU (K:=K) (m:=m) (m':=m6) (tm:=entry [.agg #[vP p 0,.bool U,xa,xw,xb,vL ub 0 1 uc],vP d 0]) (akW p d b2 b6 t mb ub 1 uc xa xw xb ya yw yb gF 0) rfl
  (.mem e1<|.mem (aO o1 rfl)<|.idx rfl (Nat.lt_succ_self 0)<|.mem (cL (vs:=[.bool gF,ya,yw,yb]) (ou.a9 k1) hu1 ai)<|.mem e2<|.mem e3<|.mem (aO o3 rfl)<|.mem e4<|.mem e5<|.mem (cL (vs:=[xa,xw,xb]) o15 rfl (af rfl))<|.call e6 .nil)
 have K6:Kp s m6 (λb=>SB b\/b=p):=(Q.sC (S:=λb=>SB b\/b=p)).trans k6' λb c h=> .inl (h.resolve_right ai)
 have n6:=K6.next;have dB:=op.lt;obtain⟨e,t1,m7,he,hx,X,UT,cs7,bo7,al7,bm7,am7,rl7,K7,D7,hS7,or7,Ez⟩:=j7 (K:=K) (nt:=fp 148) (a:=cj 148 [5])
  (Inv:=λn tm M=>(∃k f all v DH FR YS E A C x Nf F E1 Yq W,n=202-k/\(k<=201/\all.length<=1000)/\bj [1,2,6,7,8,9] tm=[vP d 0,vP b2 0,vP b6 0,vP t 0,I 0,I (k:Nat)]/\Kp s M (λb=>SB b\/b=p)/\cZ M d v DH FR YS E A C x/\
   wY s M t mb gF v Nf F E1 f all Yq W/\(∀b,v b->(SB b\/s.next<=b)/\b<M.next)/\(∃r,Obj M p 0 [cl,r])/\Rt (λf=>rC p f Tb) gF again k f all res er)\/
   (er=9/\res=[]/\bj [7,8] tm=[vP t 0,I 9]/\∃v DH FR YS E A C x,Kp s M (λb=>SB b\/b=p)/\cZ M d v DH FR YS E A C x/\(∀b,v b->(SB b\/s.next<=b)/\b<M.next)/\∃r,Obj M p 0 [cl,r]))
  (dm:=λe tm M=>∃v DH FR YS E A C x,Kp s M (λb=>SB b\/b=p)/\cZ M d v DH FR YS E A C x/\(∀b,v b->(SB b\/s.next<=b)/\b<M.next)/\(∃r,Obj M p 0 [cl,r])/\
   ((e=.exit 0/\er=0/\bj [7,8] tm=[vP t 0,I 0]/\∃Nf F E1 Yq W f,wY s M t mb gF v Nf F E1 f res Yq W)\/(e=.ret/\res=[]/\bj [4,5] tm=[.slice Y 0 0,I er])\/(e=.exit 0/\er=9/\res=[]/\bj [7,8] tm=[vP t 0,I 9])))
  (by
   rintro n tm M (⟨k,f,all,v,DH,FR,YS,E,A,C,x,Nf,F,E1,Yq,W,rfl,⟨CX,QS⟩,hg,KM,DM,CM,w,⟨r,H⟩,hr⟩|⟨rfl,rfl,hg,v,DH,FR,YS,E,A,C,x,KM,DM,w,H⟩)
   case inr=>
    right
    obtain⟨G,cN,N⟩:=aL (K:=K) (m:=M) (m':=M) CK (akV t) hg (.rp rfl .nil);exact⟨_,G,M,iq,cN,_,_,_,_,_,_,_,_,KM,DM,w,H,.inr (.inr ⟨rfl,rfl,rfl,N⟩)⟩
   obtain⟨fa,fc,hfv⟩:=CM.f.form;subst hfv;have nM:=KM.next;have Tr:=uo.ext KM;have k0M:Kp m M (λb=>SB b\/b=p):=(pf.sC (S:=λb=>SB b\/b=p)).trans KM λ_ _ h=>h
   have lf:aI t 2 M=Z (.slice fa f.length fc,M):=aO CM.ob rfl;rcases hr.ways with⟨rfl,rfl,rfl⟩|⟨h0,hk,rfl,rfl⟩|⟨h0,hk,je,SW,hn⟩
   .right
    have EH:bj [7,8] tm=[vP t 0,I 0]:=by
     simp only[bj,List.map_cons,List.map_nil,List.cons.injEq,and_true]at hg⊢;exact⟨hg.2.2.2.1,hg.2.2.2.2.1⟩
    obtain⟨G,cN,N⟩:=aL (K:=K) (m:=M) (m':=M) CK (akS t 0 fc fa) EH (.rp rfl<|.mem lf<|.rp rfl<|.cond (dF (od (i:=0) (j:=0))) .nil);exact⟨_,G,M,iq,cN,_,_,_,_,_,_,_,_,KM,DM,w,⟨r,H⟩,.inl ⟨rfl,rfl,N,_,_,_,_,_,_,CM⟩⟩
   .right
    have Jh:0<f.length:=List.length_pos_iff.2 h0;obtain⟨G,cN,N⟩:=aL (K:=K) (m:=M) (m':=M) CK (akT d b2 b6 t k f.length fc fa) hg (.rp rfl<|.mem lf<|.rp rfl<|.cond (dT (od (i:=f.length) (j:=0)) Jh)<|.cond (dT (od (i:=k) (j:=200)) hk) .nil);exact⟨_,G,M,iq,cN,_,_,_,_,_,_,_,_,KM,DM,w,⟨r,H⟩,.inr (.inl ⟨rfl,rfl,N⟩)⟩
   .left
    have Jh:0<f.length:=List.length_pos_iff.2 h0;have nSp:¬v p:=λh=>by have :=(w p h).1;rcases this with h|h;exact hpS h;omega
    have zM:=CM.z;have zp:∀b,b=t\/b=mb\/Nf b\/F b\/E1 b->¬b=p:=λb c e=>by have :=(zM b c).2.1;omega
    have acV:∀b,b=b2\/b=b6->¬(SB b\/b=p)/\¬v b/\b<s.next:=λb c=>by
     have h3:¬SB b:=λh=>by have :=uj b h;omega
     exact⟨λh=>h.elim h3 λh=>by omega,λh=>(w b h).1.elim h3 λh=>by omega,ai⟩
    obtain⟨P,e1',TY,J⟩:=gj (o:=1) (.slice fa f.length fc) H (((wp.ext k0M)).may _ _) (af rfl) rfl;have n1':=J.next;have TY:Obj P p 0 [cl,.slice fa f.length fc]:=TY;have K1:Kp s P (λb=>SB b\/b=p):=KM.trans J λ_ _ h=> .inr h
    have T:Kp m P (λb=>SB b\/b=p):=k0M.trans J λ_ _ h=> .inr h
    have D1:=DM.ext J λb c e=>nSp (e▸c)
    have C1:=CM.ext J zp;have hS1:∀b,v b->(SB b\/s.next<=b)/\b<P.next:=λb c=>⟨(w b c).1,by have :=(w b c).2;omega⟩
    have amZ:∀b,B b\/BT b->¬(SB b\/b=p):=λb c h=>h.elim (lz b c).1 (lz b c).2.1
    have hT1:fY (λb=>BT b\/b=p\/Nf b\/E1 b) (rC p f Tb) P:=by
     intro q rows hq;unfold rC at hq
     split at hq
     .rename_i e;subst e;cases hq;exact⟨.inr (.inl rfl),cl,_,TY,(aW bD 1).mono (C1.fx h0) λb c=> .inr (.inr c)⟩
     .obtain⟨h1,c1,r1,h2,h3⟩:=(jI.ext T λb c=>amZ b (.inr c)) q rows hq;exact⟨.inl h1,c1,r1,h2,(aW bD 1).mono h3 λb c=> .inl c⟩
    have aqM:∀b,B b\/(BT b\/b=p\/Nf b\/E1 b)->¬v b/\b<P.next:=λb c=>by
     have h0:∀b,B b\/BT b->¬v b/\b<P.next:=λb c=>by
      have h:=lz b c;have :=T.next;exact⟨λh'=>(hS1 b h').1.elim h.1 λh'=>by omega,ai⟩
     rcases c with h|h|h|h|h
     .exact h0 b (.inl h)
     .exact h0 b (.inr h)
     .exact⟨by rw[h];exact nSp,by have :=T.next;omega⟩
     .have :=C1.z b (.inr (.inr (.inl h)));exact⟨this.1,this.2.2⟩
     .have :=C1.z b (.inr (.inr (.inr (.inr h))));exact⟨this.1,this.2.2⟩
    obtain⟨M2,SB2,adR,Tl,bo2,al2,bm2,am2,rl2,er2,HO,k2',D2,hS2,Jm⟩:=anz (K:=K) hK uo K1 D1 C1 (tn.ext hag T λb c=>amZ b (.inl c)) hT1 aqM SW QS;have zC:=C1.z;have Hr:∀b,b<s.next->(v b\/b=t\/b=mb\/Nf b\/F b)->SB b:=λb c h=>by
     rcases h with h|h|h|h|h
     .exact(hS1 b h).1.resolve_right ai
     .omega
     .omega
     .have :=(zC b (.inr (.inr (.inl h)))).2.1;omega
     .have :=(zC b (.inr (.inr (.inr (.inl h))))).2.1;omega
    have K2:Kp s M2 (λb=>SB b\/b=p):=K1.trans k2' λb c h=> .inl (Hr b c h)
    have o2b:∀{b sz:Nat}{l:List ab},(b=b2\/b=b6)->Obj s b sz l->Obj P b sz l:=λc o=>o.ext K1 (acV _ c).1
    have l2:aI b2 0 M=Z (vP p 0,M):=aO (((o1.a9 k3)).ext KM (acV _ (.inl rfl)).1) rfl;have l6:fN 3 b6 1 P=Z (.agg #[ya,yw,yb],P):=cL (vs:=[ya,yw,yb]) (o2b (.inr rfl) o3) rfl (af rfl);have n2':=k2'.next;obtain⟨G,cN,N⟩:=aL (K:=K) (m:=M) (m':=M2) CK (akU d b2 b6 t p k f.length fc fa ya yw yb er2) hg
     (.rp rfl<|.mem lf<|.rp rfl<|.cond (dT (od (i:=f.length) (j:=0)) Jh)<|.cond (dF (od (i:=k) (j:=200)))<|.mem l2<|.mem lf<|.mem (aJ Tr.gd)<|.mem e1'<|.mem l6<|.call HO .nil)
    have amQ:∀b,SB2 b->(SB b\/s.next<=b)/\b<M2.next:=λb c=>by
     have :=hS2 b c;exact⟨this.1.elim (λh=>(hS1 b h).1) λh=> .inr (by have :=K1.next;omega),this.2⟩
    have op2:∃r,Obj M2 p 0 [cl,r]:=⟨_,TY.ext k2' λh=>hpS (Hr p ai h)⟩;rcases hn with⟨c,rfl,rfl⟩|⟨hnb,LX,hn⟩
    .obtain⟨rfl,-⟩:=Jm.resolve_left λh=>c.elim h.2.2.1 (Nat.not_lt.2 h.2.2.2)
     have hg3:bj [7,8] G=[vP t 0,I 9]:=by
      simp only[bj,List.map_cons,List.map_nil,List.cons.injEq,and_true]at N⊢;exact⟨N.2.2.2.1,N.2.2.2.2.1⟩
     exact⟨0,G,M2,ai,cN,.inr ⟨rfl,rfl,hg3,SB2,adR,Tl,bo2,al2,bm2,am2,rl2,K2,D2,amQ,op2⟩⟩
    .obtain⟨rfl,⟨FO2,AO2,E2,T7,av2,C2⟩,-,-⟩:=Jm.resolve_right λh=>h.2.elim hnb (Nat.not_lt.2 LX)
     rw[add1 ai]at N;exact⟨202-(k+1),G,M2,ai,cN,.inl ⟨k+1,_,_,SB2,adR,Tl,bo2,al2,bm2,am2,rl2,FO2,AO2,E2,T7,av2,rfl,⟨ai,LX⟩,N,K2,D2,C2,amQ,op2,hn⟩⟩)
  (n:=201) (k:=100000000000000) (tm:=t0) (m:=m6) (.inl ⟨1,_,_,SB6,ai1,cs6,bo6,al6,bm6,am6,rl6,FO6,AO6,E6,fv6,av6,rfl,⟨ai,hl⟩,g0,K6,D6,C6,λb c=>⟨(hS6 b c).1.imp id λh=>by omega,(hS6 b c).2⟩,⟨rl0,((op.a9 pf).a9 Q).ext k6' λh=>h.elim hpS λh=>by omega⟩,hr⟩) ai
 have n7:=K7.next;have Ox:=(pf.sC (S:=λb=>SB b\/b=p)).trans K7 λ_ _ h=>h
 have ahv:∀b,X b->(SB b\/m.next<=b)/\b<m7.next:=λb c=>⟨(hS7 b c).1.imp id λh=>by omega,(hS7 b c).2⟩
 rcases Ez with⟨rfl,rfl,L,FO7,AO7,E7,fv7,av7,fr7,C7⟩|⟨rfl,rfl,L⟩|⟨rfl,rfl,rfl,L⟩
 .obtain⟨G,h2,HO⟩:=aU (K:=K) (m:=m7) (m':=m7) (akQ t av7) L (.cond rfl<|.mem (aO C7.ob rfl) .nil);exact⟨m7,av7,X,UT,cs7,bo7,al7,bm7,am7,rl7,λb=>AO7 b\/E7 b,dE Wp (aC.cut w0 (aC.fC hx (aC.last h2 Ha))) (.inr rfl) HO,Ox,D7,C7.ax,λb c=>by
   have :=C7.z b (.inr (.inr (.inr c)));exact⟨this.1,ai,this.2.2⟩,ahv,or7⟩
 .exact⟨m7,_,X,UT,cs7,bo7,al7,bm7,am7,rl7,eK,dE Wp (aC.cut w0 (aC.By ack acp hx aM)) (.inr rfl) L,Ox,D7,aW.nil,λb c=>c.elim,ahv,or7⟩
 .obtain⟨G,h2,HO⟩:=aU (K:=K) (m:=m7) (m':=m7) (akR t) L (.cond rfl .nil);exact⟨m7,_,X,UT,cs7,bo7,al7,bm7,am7,rl7,eK,dE Wp (aC.cut w0 (aC.fC hx (aC.last h2 Ha))) (.inr rfl) HO,Ox,D7,aW.nil,λb c=>c.elim,ahv,or7⟩
end
theorem ak2 (p d e n c s1:Nat)(a w b f:ab)(g:Option Addr):cV 114 0 99 [0,1] [.agg #[vP p 0,.bool O,a,w,b,f],vP d 0]
 [jF [Z (vP p 0),Z (.bool O),Z a,Z w,Z b,Z f] e,
  .mem (fN 4 e 2) (.agg #[a,w,b,f]),
  .mem (aI e 1) (.bool O),
  jT,
  .mem (aI e 0) (vP p 0),
  .mem (iW (vP e 0)) (I s1),
  fQ,
  .bZ (.func (.func 115) #[.agg #[a,w,b,f]] #[]) [vP d 0] (.tuple #[.slice g n c,I 0]),
  .mem (dH (I s1) (vP e 0) (fX ae 147 (vP e 0))) undef,
  fQ,
  .mem (du p 1 (.slice g n c)) undef]
 .ret [4] [I 0]:=cT
theorem ak1 (p d e n c s1 er:Nat)(a w b f:ab)(g:Option Addr):cV 114 0 99 [0,1] [.agg #[vP p 0,.bool U,a,w,b,f],vP d 0]
 [jF [Z (vP p 0),Z (.bool U),Z a,Z w,Z b,Z f] e,
  .mem (fN 4 e 2) (.agg #[a,w,b,f]),
  .mem (aI e 1) (.bool U),
  yp,
  vT 6 e (.agg #[vP p 0,.bool U,a,w,b,f]),
  .mem (aI e 0) (vP p 0),
  .mem (iW (vP e 0)) (I s1),
  fQ,
  .bZ (.func (.func 148) #[.agg #[vP p 0,.bool U,a,w,b,f]] #[]) [vP d 0] (.tuple #[.slice g n c,I er]),
  .mem (dH (I s1) (vP e 0) (fX ae 147 (vP e 0))) undef,
  fQ,
  .mem (du p 1 (.slice g n c)) undef]
 .ret [4] [I er]:=cT
theorem ad3:jJ 114 2 [4]=U:=aM
theorem Hb:(dq (bX 114)).length<=99:=af aM
def Za (m m':Mem)(d:Nat)(SB S:Nat->Prop)(res:List (List V))(sv:ab):Prop:=
 ∃C9 rows cs bo al bm am rl AE,Kp m m' S/\cZ m' d C9 rows cs bo al bm am rl/\(aW bD 1).R AE res m' sv/\(∀b,AE b->¬C9 b/\m.next<=b/\b<m'.next)/\∀b,C9 b->(SB b\/m.next<=b)/\b<m'.next
def Un (Tb:Nat->Option (List (List V))):List (Bool×ru)->List (List V)->List (List V)->Prop
 | [],acc,R=>acc=R
 |u::us,acc,R=>u.1=U/\pF Tb u.2/\(acc++eX Tb u.2).length<=1000/\Un Tb us (acc++eX Tb u.2) R
theorem mI.enc{m:Mem}{f g:Nat->Prop}{l:List (List V)}{sv:ab}(L:mI bD 1 f g m l sv)(Q:∃B,(aW bD 1).R B l m sv):(aW bD 1).R (λb=>f b\/g b) l m sv:=by
 rcases L with⟨rfl,rfl⟩|⟨b,s,rest,rfl,k,_,i,d⟩
 .exact aW.nil
 .obtain⟨_,r,⟨a,p⟩,_,_⟩:=Q;rcases p with⟨e,_⟩|⟨v,t,e,o,j⟩
  .cases e
  .cases e;obtain rfl:=o.same i;have q:=d.one.1;obtain rfl:rest=[]:=List.length_eq_zero_iff.1 (by simp only[List.length_append]at a;omega);exact⟨_,⟨a,.inr ⟨_,_,rfl,o,j⟩⟩,λb o n c e=>(by cases e;exact .inl k.1),by
    rw[List.append_nil];exact d.mono λx u _ w=>⟨bD.mono w.1 λ_ h=> .inr h,w.2⟩⟩
section
variable {K:fE}{m0 m:Mem}{B BT S SB:Nat->Prop}{p d:Nat}{Tb:Nat->Option (List (List V))}{v:ab}
theorem aeI (hK:B9 K)(X:Calm m){iP:List (List Nat)}{cs:List ab}{bo bm:Nat->Option Nat}{al am:Option Nat}{rl:ab}(D:cZ m d SB iP cs bo al bm am rl){c:H3}(f:rm.R B c m v)(jI:fY BT Tb m)(G:∀b,B b\/BT b->¬SB b/\b<m.next)
  (o:pF Tb c.1)(h0:eX Tb c.1≠[]){R:List (List V)}(huk:Un Tb c.2 (eX Tb c.1) R)(hul:c.2.length<90000):
  ∃g m',Ev K 115 [v,vP d 0] m (.tuple #[g,I 0]) m'/\Za m m' d SB SB R g/\∃M N:Nat->Prop,mI bD 1 M N m' R g/\∀b,M b\/N b->m.next<=b/\b<m'.next:=by
 obtain⟨C,z,E,uv,rfl,nK,nJ⟩:=f;obtain⟨D0,QV⟩:=D.exact;have J:∀b,B b\/BT b->¬BV d bo bm al am b/\b<m.next:=λb f=>⟨λh=>(G b f).1 (QV b h).1,(G b f).2⟩
 obtain⟨x,s,rfl⟩:=aW.form nJ;obtain⟨b2,ahq⟩:∃b,b=m.next:=⟨_,rfl⟩;obtain⟨m1,e1,o1,k1,n1,_⟩:=bz X.gd [C,z,E,.slice x c.2.length s];rw[<-ahq]at e1 o1;have Fb:=X.ext k1;have l1:fN 3 b2 0 m1=Z (.agg #[C,z,E],m1):=cL (vs:=[C,z,E]) o1 rfl (af rfl);obtain⟨_,_,_,e,q1,q2,q3⟩:=tn.ext nK k1 λ_ _ h=>h
 cases e;obtain⟨rv,m2,j4,gS,uy,pK,yf,yk,DJ,e2,W,D2,qr,OJ⟩:=aeG hK Fb (D0.a9 k1) q1 q2 q3 (jI.ext k1 λ_ _ h=>h) (λb f=>⟨(J b f).1,by have :=(J b f).2;omega⟩) o.src o.join o.jl o.wh o.max o.qC o.il;have Nc:=Fb.ext W;have n2:=W.next;obtain⟨D3,S8⟩:=D2.exact;have yq:(eX Tb c.1).length<=1000:=by
  have :(eX Tb c.1).length<=0+(fu Tb c.1.2.1 (dM Tb c.1.1 0 [cU])).length:=yV (λi=>aj _) _ _ [];have :=o.max;omega
 obtain⟨g,t,e3,T,L3,Q3⟩:=anB (K:=K) Nc.gd qr (λh=>absurd h h0) (λb h=>h.2) (by show(eX Tb c.1).length<= _;omega);have n3:=T.next;have aqo:¬BV d bo bm al am b2:=λh=>by have :=(QV _ h).2.1;omega
 have l2:aI b2 3 t=Z (.slice x c.2.length s,t):=aO ((o1.ext W aqo).a9 T) rfl;have nR:Kp m m2 SB:=k1.sC.trans (W.mono (S':=SB) λb f h=>(QV b h).1) λ_ _ h=>h
 have D4:=D3.a9 T;obtain⟨_,hD4⟩:=D4.exact;have A:uD m t d SB (eX Tb c.1) g:=by
  refine⟨_,_,_,_,_,_,_,_,λy=>ik m2 t y/\y<t.next,λb=>ik m1 m2 b/\¬BV d uy yf pK yk b,nR.aX T,D4,L3.lt.Hh (λb f h4=>⟨f,λh=>?_⟩) (λb f h=>?_),λb f=>?_,λb f=>?_⟩
  .rcases(hD4 b h).2.2 with h|h|h<;>omega
  .have :=f.1.1;have :=h.1.2;omega
  .obtain⟨w,h2,_⟩:=S8 b f;refine⟨?_,ai⟩;rcases w with w|w
   .exact .inl (QV b w).1
   .exact .inr (by have :=w.1;omega)
  .rcases f with⟨h,_⟩|⟨h,hn⟩
   .exact⟨λh'=>by have :=(S8 _ h').2.1;have :=h.1;omega,by have :=h.1;omega,h.2⟩
   .exact⟨hn,by have :=h.1;omega,by have :=h.2;omega⟩
 obtain⟨t0,w0,e0⟩:=aU (K:=K) (m:=m) (m':=t) (tm:=entry [.agg #[C,z,E,.slice x c.2.length s],vP d 0]) (akZ d c.2.length s x C z E rv g b2) rfl (.mem e1<|.mem l1<|.call e2<|.cond rfl<|.call e3<|.mem l2 .nil);obtain⟨e,t1,m5,he,wN,rfl,F,H,A5,Q5⟩:=eN (K:=K) (nt:=fp 115) (a:=cj 115 [6]) c.2.length
  (Inv:=λj tm m'=>∃k g,bj [1,8,26,27,28] tm=[vP d 0,g,.slice x c.2.length s,I (c.2.length:Int),I j]/\uD m m' d SB k g/\(∃B,(aW bD 1).R B k m' g)/\Un Tb (c.2.drop j) k R)
  (dm:=λe tm m'=>e=.exit 0/\∃g,bj [8] tm=[g]/\uD m m' d SB R g/\∃B,(aW bD 1).R B R m' g)
  (by
   rintro j tm l hj ⟨k,g,H,P,Q4,n⟩
   left
   rw[List.drop_eq_getElem_cons hj]at n;have tI:=P.kp;have Mw:=X.ext tI;obtain⟨ub,uc',u,cu,e,hB0,ou,w,h2,hu1,hu2⟩:=aW.get ((aW Mj 4).ext nJ tI λb f=>(G b (.inl f)).1) hj;cases e;obtain⟨q,p,r,rfl,As⟩:=hu1;obtain⟨m6,m7,e6,e7,o7,k7,n7⟩:=jV Mw.gd [.bool O,.slice Y 0 0,.nilIface,.slice Y 0 0] [.bool c.2[j].1,q,p,r] rfl (aB.2 λy hy=>hu2.2 y hy);have SW:=n.2.1;have hs:=n.2.2.1;have hlen:(k++eX Tb c.2[j].2).length=k.length+(eX Tb c.2[j].2).length:=List.length_append;obtain⟨rv,m8,s3,S,S1,e8,e9,k9,hS1,A9,Q9⟩:=Z9 hK X P k7 (tn.ext As k7 λ_ _ h=>h) (jI.ext (tI.aX k7) λb f=>(G b (.inr f)).1) G SW ai;obtain⟨sa,sc,rfl⟩:=P.form;obtain⟨ra,rc,rfl⟩:=A9.form;have l4:fN 4 ub (0+j*4) l=Z (.agg #[.bool c.2[j].1,q,p,r],l):=cL (vs:=[.bool c.2[j].1,q,p,r]) ou (by rw[Nat.zero_add];exact w) ai;have l3:fN 3 l.next 1 m7=Z (.agg #[q,p,r],m7):=cL (vs:=[q,p,r]) o7 rfl (af rfl);have o9:Obj S l.next 0 [.bool c.2[j].1,q,p,r]:=o7.ext k9 λh=>by have :=(hS1 _ h).2;omega
   have l9:aI l.next 0 S=Z (.bool c.2[j].1,S):=aO o9 rfl;have QS:=n.1;rw[QS]at l4 e7 l9;obtain⟨Q,cN,cA⟩:=aL (K:=K) Qf (ak0 d k.length sc ub c.2.length s j l.next _ rc sa ra U q p r rv) H (.cond (dT nX)<|.idx rfl hj<|.mem l4<|.mem e6<|.mem e7<|.mem l3<|.call e8<|.cond rfl<|.mem e9<|.mem l9<|.cond rfl<|.cond (dF (od (j:=1000)) ai) .nil);rw[eQ]at cA;exact⟨Q,S,cN,_,_,cA,A9,Q9,n.2.2.2⟩)
  (by
   rintro tm l ⟨k,g,H,P,Q4,n⟩;rw[List.drop_length]at n;obtain rfl:k=R:=n;obtain⟨Q,cN,cA⟩:=aL (K:=K) (m:=l) (m':=l) Qf (akY d c.2.length s c.2.length x g) H (.cond (dF nX) .nil);exact⟨_,Q,l,iq,cN,rfl,g,cA,P,Q4⟩)
  (tm:=t0) (m:=t) ⟨_,g,e0,A,⟨_,Q3⟩,huk⟩ ai
 obtain⟨Q,h2,HO⟩:=aU (K:=K) (m:=m5) (m':=m5) (akX F) H .nil;obtain⟨C9,j4,gS,uy,pK,yf,yk,DJ,M,N,k5,D5,L5,hS5,L⟩:=A5;exact⟨F,m5,dE alG (aC.cut w0 (aC.fC wN (aC.last h2 Sr))) (.inr rfl) HO,⟨C9,j4,gS,uy,pK,yf,yk,DJ,λb=>M b\/N b,k5,D5,L5.enc Q5,L,hS5⟩,M,N,L5,λb f=>(L b f).2⟩
def FE (m0 m:Mem)(d:Nat)(S BT:Nat->Prop)(Tb:Nat->Option (List (List V))):Prop:=
 ∃SB rows cs bo al bm am rl,Kp m0 m S/\cZ m d SB rows cs bo al bm am rl/\(∀b,SB b->(b=d\/m0.next<=b)/\b<m.next)/\fY BT Tb m/\∀b,BT b->¬SB b/\b<m.next
theorem Ke (Cw:Calm m0){B g:Mem}(D:Kp m0 m S)(n:∀b,SB b->(b=d\/m0.next<=b)/\b<m.next)(N:fY BT Tb m)(j:∀b,BT b->¬SB b/\b<m.next)(P:S d)(k1:Kp m B eK){res:List (List V)}{sv:ab}(Q:∀b,SB b->b<m.next)(a:Za B g d SB (λb=>SB b\/b=p) res sv){E r:ab}(op:Obj g p 0 [E,r])(t:p<m0.next/\m0.base<=p/\p≠d/\S p)(F:¬BT p):
  ∃i G,du p 1 sv g=Z (undef,i)/\Kp m i (λb=>b=d\/b=p\/m0.next<=b)/\FE m0 i d S G (rC p res Tb)/\∀b,G b->BT b\/b=p\/m.next<=b:=by
 obtain⟨H,rows,cs,bo,al,bm,am,L,J,C,D2,A,f,z⟩:=a;have n0:=D.next;have n1:=k1.next;have n2:=C.next;have v:Kp m g (λb=>SB b\/b=p):=k1.sC.trans C λ_ _ h=>h
 have w:Kp m0 g S:=D.trans v λb c h=>h.elim (λh=>(n b h).1.elim (λh=>h▸P) λh=>by omega) λh=>h▸t.2.2.2
 have Nc:=Cw.ext w;have x:¬SB p:=λh=>(n p h).1.elim t.2.2.1 λh=>by omega
 have l:¬H p:=λh=>(z p h).1.elim x λh=>by omega
 have K:Own g p:=Nc.own (by rw[w.base];exact t.2.1);obtain⟨i,e,o,k⟩:=gj (o:=1) sv op (K.may _ _) (af rfl) (aW.nT A).1;have n3:=k.next;have y:∀b,J b->¬b=p:=λb c e=>by have :=(f b c).2.1;omega
 refine⟨i,λb=>BT b\/b=p\/J b,e,(v.mono (S':=λb=>b=d\/b=p\/m0.next<=b) λb _ h=>h.elim (λh=>(n b h).1.imp id .inr) λh=> .inr (.inl h)).trans k λ_ _ h=> .inr (.inl h),⟨H,rows,cs,bo,al,bm,am,L,w.trans k λb _ h=>h▸t.2.2.2,D2.ext k λb c h=>l (h▸c),λb c=>?_,?_,λb c=>?_⟩,λb c=>c.imp id λh=>h.imp id λh=>by have :=(f b h).2.1;omega⟩
 .have :=z b c;exact⟨this.1.elim (λh=>(n b h).1) λh=> .inr ai,ai⟩
 .intro q rows s;unfold rC at s
  split at s
  .rename_i X;subst X;cases s;exact⟨.inr (.inl rfl),E,sv,o,(aW bD 1).mono ((aW bD 1).ext A k y) λb c=> .inr (.inr c)⟩
  .obtain⟨W,c1,M,T,R⟩:=((N.ext v λb c h=>h.elim (j b c).1 λh=>F (h▸c)).ext k λb c h=>F (h▸c)) q rows s;exact⟨.inl W,c1,M,T,(aW bD 1).mono R λb c=> .inl c⟩
 .rcases c with h|h|h
  .have :=j b h;exact⟨λu=>(z b u).1.elim this.1 λu=>by omega,ai⟩
  .exact⟨λu=>l (h▸u),ai⟩
  .have :=f b h;exact⟨this.1,ai⟩
variable {cl r0 xa xw xb xu:ab}
theorem anE (hK:B9 K)(Q:Calm m0)(W:FE m0 m d S BT Tb)(hd:S d)(op:Obj m p 0 [cl,r0])(M:p<m0.next/\m0.base<=p/\p≠d/\S p)(XE:¬BT p){g:H3}{R:List (List V)}(n:rm.R B g m (.agg #[xa,xw,xb,xu]))(hB:∀b,B b->b<m0.next/\b≠d/\b≠p)(dV:pF Tb g.1)(h0:eX Tb g.1≠[])(C:Un Tb g.2 (eX Tb g.1) R)(A:g.2.length<90000):
  ∃m' v,Ev K 114 [.agg #[vP p 0,.bool O,xa,xw,xb,xu],vP d 0] m (I 0) m'/\Kp m m' (λb=>b=d\/b=p\/m0.next<=b)/\FE m0 m' d S v (rC p R Tb)/\∀b,v b->BT b\/b=p\/m.next<=b:=by
 obtain⟨SB,rows,cs,bo,al,bm,am,rl,z,D,f,L,s⟩:=W;have n0:=z.next;have u:=Q.ext z;obtain⟨i,nJ⟩:∃b,b=m.next:=⟨_,rfl⟩;obtain⟨k,P,j,k1,n1,_⟩:=bz u.gd [vP p 0,.bool O,xa,xw,xb,xu];rw[<-nJ]at P j;have F:∀b,B b\/BT b->¬SB b/\b<k.next:=λb n=>by
  rcases n with h|h
  .have :=hB b h;exact⟨λN=>(f b N).1.elim this.2.1 λN=>by omega,ai⟩
  .have :=s b h;exact⟨this.1,ai⟩
 obtain⟨H,y,e2,e,_⟩:=aeI (K:=K) hK (u.ext k1) (D.a9 k1) (rm.ext n k1 λ_ _ h=>h) (L.ext k1 λ_ _ h=>h) F dV h0 C A;have E:¬SB p:=λh=>(f p h).1.elim M.2.2.1 λh=>by omega
 have t:Kp k y SB:=by obtain⟨_,_,_,_,_,_,_,_,_,h,_⟩:=e;exact h
 have O':Za k y d SB (λb=>SB b\/b=p) R H:=by
  obtain⟨C9,r,c,o,a,X,a',l,AE,h,hh⟩:=e;exact⟨C9,r,c,o,a,X,a',l,AE,h.mono λ_ _ h=> .inl h,hh⟩
 obtain⟨J,v,e3,k3,W3,G⟩:=Ke Q z f L s hd k1 (λb n=>(f b n).2) O' ((op.a9 k1).ext t E) M XE;have x:=j.ext t (show¬SB i from λh=>by have :=(f _ h).2;omega);obtain⟨w,c,T⟩:∃w c,H=.slice w R.length c:=by obtain⟨_,_,_,_,_,_,_,_,_,_,_,q,_⟩:=e;exact aW.form q
 subst T;have fA:(y.blk i).bq=(k.blk i).bq:=by rw[t.blk i ai λh=>by have :=(f _ h).2;omega]
 obtain⟨t2,h2,HO⟩:=aU (K:=K) (m:=m) (m':=J) (tm:=entry [.agg #[vP p 0,.bool O,xa,xw,xb,xu],vP d 0]) (ak2 p d i R.length c (k.blk i).bq xa xw xb xu w) rfl
  (.mem P<|.mem (cL (vs:=[xa,xw,xb,xu]) j rfl (af rfl))<|.mem (aO j rfl)<|.cond rfl<|.mem (aO j rfl)<|.mem (fM _ _)<|.mem (aJ (u.ext k1).gd)<|.bZ e2<|.mem (AK x rfl fA)<|.mem (aJ ((u.ext k1).ext t).gd)<|.mem e3 .nil)
 exact⟨J,v,dE ad3 (aC.last h2 Hb) (.inr rfl) HO,k3,W3,G⟩
theorem aeJ (hK:B9 K)(M:Calm m0)(W:FE m0 m d S BT Tb)(hd:S d)(op:Obj m p 0 [cl,r0])(x:p<m0.next/\m0.base<=p/\p≠d/\S p)(L:¬BT p){first again:ru}{gF:Bool}{res:List (List V)}{er:Nat}(a:rm.R B (first,[(gF,again)]) m (.agg #[xa,xw,xb,xu]))(hB:∀b,B b->b<m0.next/\b≠d/\b≠p)
  (dV:pF Tb first)(h1:gF=U)(hl:(jH gF [] (eX Tb first)).length<=1000)(hr:Rt (λf=>rC p f Tb) gF again 1 (jH gF [] (eX Tb first)) (jH gF [] (eX Tb first)) res er):
  ∃m' q,Ev K 114 [.agg #[vP p 0,.bool U,xa,xw,xb,xu],vP d 0] m (I er) m'/\Kp m m' (λb=>b=d\/b=p\/m0.next<=b)/\FE m0 m' d S q (rC p res Tb)/\∀b,q b->BT b\/b=p\/m.next<=b:=by
 obtain⟨SB,rows,cs,bo,al,bm,am,rl,o,D,i,F,k⟩:=W;have n0:=o.next;have J:=M.ext o;obtain⟨g,nJ⟩:∃b,b=m.next:=⟨_,rfl⟩;obtain⟨v,H,j,k1,n1,_⟩:=bz J.gd [vP p 0,.bool U,xa,xw,xb,xu];rw[<-nJ]at H j;have s:=J.ext k1;have w:¬SB p:=λh=>(i p h).1.elim x.2.2.1 λh=>by omega
 have y:∀b,B b\/BT b->¬SB b/\b≠p/\b<v.next:=λb a=>by
  rcases a with h|h
  .have :=hB b h;exact⟨λG=>(i b G).1.elim this.2.1 λG=>by omega,this.2.2,ai⟩
  .have :=k b h;exact⟨this.1,λe=>L (e▸h),ai⟩
 obtain⟨m2,sv,C9,j4,gS,T,pK,P,N,DJ,AE,e2,n,D2,C,A,Yg,r,t⟩:=ars (K:=K) hK s (D.a9 k1) (λb a=>by have :=(i b a).2;omega) (op.a9 k1) (s.own (by rw[k1.base,o.base];exact x.2.1)) w (rm.ext a k1 λ_ _ h=>h) (F.ext k1 λ_ _ h=>h) y dV h1 hl hr;obtain⟨E,q,e3,k3,W3,z⟩:=Ke M o i F k hd k1 (λb a=>(i b a).2) ⟨C9,j4,gS,T,pK,P,N,DJ,AE,n,D2,C,A,Yg⟩ t x L;have l:¬(SB g\/g=p):=λh=>h.elim (λh=>by have :=(i _ h).2;omega) λh=>by omega
 have u:=j.ext n l;obtain⟨X,c,Q⟩:=aW.form C;subst Q;have fA:(m2.blk g).bq=(v.blk g).bq:=by rw[n.blk g ai l]
 obtain⟨t2,h2,HO⟩:=aU (K:=K) (m:=m) (m':=E) (tm:=entry [.agg #[vP p 0,.bool U,xa,xw,xb,xu],vP d 0]) (ak1 p d g res.length c (v.blk g).bq er xa xw xb xu X) rfl
  (.mem H<|.mem (cL (vs:=[xa,xw,xb,xu]) j rfl (af rfl))<|.mem (aO j rfl)<|.cond rfl<|.mem (cL (vs:=[vP p 0,.bool U,xa,xw,xb,xu]) j rfl (af rfl))<|.mem (aO j rfl)<|.mem (fM _ _)<|.mem (aJ s.gd)<|.bZ e2<|.mem (AK u rfl fA)<|.mem (aJ (s.ext n).gd)<|.mem e3 .nil)
 exact⟨E,q,dE ad3 (aC.last h2 Hb) (.inr rfl) HO,k3,W3,z⟩
end
theorem aow (j h d f n c i p g:Nat)(of:Bool)(a w b e:ab):aY 76 [3] 0 99 [1,2,4,16,17,18] [vP j 0,vP h 0,vP d 0,vL f 0 n c,I n,I i]
 [bu (dx i n) U,
  .idx i n i,
  .mem (fN 6 f (0+i*6)) (.agg #[vP p 0,.bool of,a,w,b,e]),
  jF [Z (.pointer Y),Z (.bool O),Z ei,Z .nilIface,Z ei,Z ei] g,
  rJ g 0 [vP p 0,.bool of,a,w,b,e],
  vT 6 g (.agg #[vP p 0,.bool of,a,w,b,e]),
  .call 114 [.agg #[vP p 0,.bool of,a,w,b,e],vP d 0] (I 0),
  jT]
 .normal [1,2,4,16,17,18] [vP j 0,vP h 0,vP d 0,vL f 0 n c,I n,I (bU i 1)]:=cT
theorem aox (j g d h n c i p f:Nat)(of:Bool)(a w b e:ab)(er:Int):aY 76 [3] 0 99 [1,2,4,16,17,18] [vP j 0,vP g 0,vP d 0,vL h 0 n c,I n,I i]
 [bu (dx i n) U,
  .idx i n i,
  .mem (fN 6 h (0+i*6)) (.agg #[vP p 0,.bool of,a,w,b,e]),
  jF [Z (.pointer Y),Z (.bool O),Z ei,Z .nilIface,Z ei,Z ei] f,
  rJ f 0 [vP p 0,.bool of,a,w,b,e],
  vT 6 f (.agg #[vP p 0,.bool of,a,w,b,e]),
  .call 114 [.agg #[vP p 0,.bool of,a,w,b,e],vP d 0] (I er),
  bu (xL er 0) U,
  rJ g 0 [ei,ei,ei,I 0]]
 .ret [2,3] [vP g 0,I er]:=cT
abbrev xp:=Nat×Bool×H3
def Mk:pI xp where
 R B x m v:=∃sv wv iv uv,v=.agg #[vP x.1 0,.bool x.2.1,sv,wv,iv,uv]/\rm.R B x.2.2 m (.agg #[sv,wv,iv,uv])
 mono:=by
  rintro B B' x m v ⟨sv,wv,iv,uv,e,h⟩ k;exact⟨sv,wv,iv,uv,e,rm.mono h k⟩
 ext:=by
  rintro B S x m m' v ⟨sv,wv,iv,uv,e,h⟩ k hs;exact⟨sv,wv,iv,uv,e,rm.ext h k hs⟩
inductive kU:(Nat->Option (List (List V)))->List xp->(Nat->Option (List (List V)))->Nat->Prop
 |nil {Tb:Nat->Option (List (List V))}:kU Tb [] Tb 0
 |one {Tb T':Nat->Option (List (List V))} {p er:Nat}{bd:H3}{R:List (List V)} {l:List xp} (dV:pF Tb bd.1) (h0:eX Tb bd.1≠[]) (hu:Un Tb bd.2 (eX Tb bd.1) R) (hul:bd.2.length<90000) (h:kU (rC p R Tb) l T' er):kU Tb ((p,O,bd)::l) T' er
 |rnd {Tb T':Nat->Option (List (List V))} {p er:Nat}{first again:ru}{gF:Bool}{res:List (List V)} {l:List xp} (dV:pF Tb first) (h1:gF=U) (hl:(jH gF [] (eX Tb first)).length<=1000)
   (hr:Rt (λf=>rC p f Tb) gF again 1 (jH gF [] (eX Tb first)) (jH gF [] (eX Tb first)) res 0) (h:kU (rC p res Tb) l T' er):kU Tb ((p,U,(first,[(gF,again)]))::l) T' er
 |err {Tb T':Nat->Option (List (List V))} {p er:Nat}{first again:ru}{gF:Bool}{res:List (List V)} {l:List xp} (dV:pF Tb first) (h1:gF=U) (hl:(jH gF [] (eX Tb first)).length<=1000)
   (hr:Rt (λf=>rC p f Tb) gF again 1 (jH gF [] (eX Tb first)) (jH gF [] (eX Tb first)) res er) (h:er≠0):kU Tb ((p,U,(first,[(gF,again)]))::l) T' er
structure anP (K:fE)(T':Nat->Option (List (List V)))(s:ru):Prop where
 ok:pF T' s
 h0:eX T' s≠[]
 n:(eX T' s).length<65536
 st:TK K (eX T' s)
 x:∀x∈eX T' s,x.length<99999
def sI (er:Nat)(B:Nat->Prop)(fe:List FI)(rows:List (List V))(m:Mem)(v:ab):Prop:=(er=0->CA B fe rows 0 m v)/\(er≠0->v=.agg #[.slice Y 0 0,.slice Y 0 0,.slice Y 0 0,I 0])
theorem sI.form{er:Nat}{B:Nat->Prop}{i:List FI}{rows:List (List V)}{m:Mem}{v:ab}(h:sI er B i rows m v):∃b c a,v=.agg #[b,c,a,I 0]/\([b,c,a,I 0].all (·.oneCell'))=U:=by
 by_cases he:er=0
 .obtain⟨b,c,a,rfl,g,f,k,l,d,j⟩:=h.1 he;refine⟨b,c,a,rfl,?_⟩;obtain⟨_,_,e⟩:=d.form;subst e;simp[(aW.nT g).2,(aW.nT f).2];exact⟨rfl,rfl⟩
 .exact⟨_,_,_,h.2 he,rfl⟩
theorem sI.ext{S:Nat->Prop}{er:Nat}{B:Nat->Prop}{a:List FI}{rows:List (List V)}{m m':Mem}{v:ab}(h:sI er B a rows m v)(k:Kp m m' S)(c:∀b,B b->¬S b):sI er B a rows m' v:=⟨λe=>(h.1 e).ext k c,h.2⟩
theorem sI.mono{er:Nat}{B B':Nat->Prop}{a:List FI}{rows:List (List V)}{m:Mem}{v:ab}(h:sI er B a rows m v)(k:∀b,B b->B' b):sI er B' a rows m v:=⟨λe=>(h.1 e).mono k,h.2⟩
section
variable {K:fE}{m0 m:Mem}{B BT S:Nat->Prop}{d er:Nat}{Tb T':Nat->Option (List (List V))}
theorem ary (t:B9 K)(y:Calm m0)(W:FE m0 m d S BT Tb)(q:S d){x:xp}{l:List xp}(G:kU Tb (x::l) T' er)(op:∃E r,Obj m x.1 0 [E,r])(o:x.1<m0.next/\m0.base<=x.1/\x.1≠d/\S x.1)(w:¬BT x.1){D z C A:ab}(s:rm.R B x.2.2 m (.agg #[D,z,C,A]))(u:∀b,B b->b<m0.next/\b≠d/\b≠x.1):
  ∃a c F e,Ev K 114 [.agg #[vP x.1 0,.bool x.2.1,D,z,C,A],vP d 0] m (I (e:Nat)) a/\Kp m a (λb=>b=d\/b=x.1\/m0.next<=b)/\FE m0 a d S c F/\(if e=0 then kU F l T' er else er=e)/\∀b,c b->BT b\/b=x.1\/m.next<=b:=by
 obtain⟨E,r,op⟩:=op;cases G with
 |one f H hu j h=>
  obtain⟨a,c,e,k,g,i⟩:=anE (K:=K) t y W q op o w s u f H hu j;exact⟨a,c,_,0,e,k,g,h,i⟩
 |rnd f v p n h=>
  obtain⟨a,c,e,k,g,i⟩:=aeJ (K:=K) t y W q op o w s u f v p n;exact⟨a,c,_,0,e,k,g,h,i⟩
 |err f v p n h=>
  obtain⟨a,c,e,k,g,i⟩:=aeJ (K:=K) t y W q op o w s u f v p n;exact⟨a,c,_,er,e,k,g,by rw[bH h],i⟩
theorem aq1 (hK:B9 K){fe:List FI}{parts:List xp}{s:ru}{pv Mp N J L xu:ab}(cm:Calm m)(hc:rZ.R B fe m Mp)(hpv:(aW Mk 6).R B parts m pv)(D:rm.R B (s,[]) m (.agg #[N,J,L,xu]))(jI:fY BT Tb m)(E:∀b,B b\/BT b->b<m.next)
  (S4:fe.length<9000)(dB:parts.length<9000)(yr:∀x∈parts,(∃H r,Obj m x.1 0 [H,r])/\m.base<=x.1/\¬BT x.1/\¬B x.1)(XK:(parts.map (·.1)).Nodup)(hpt:kU Tb parts T' er)(hf:er=0->anP K T' s):
  ∃v m',Ev K 76 [.agg #[pv,Mp,N,J,L,xu]] m (.tuple #[v,I er]) m'/\Kp m m' (λb=>∃x∈parts,b=x.1)/\sI er (ik m m') fe (GY (eX T' s)) m' v:=by
 obtain⟨ca,cc,Jk⟩:=aW.form hc;obtain⟨pa,T,rfl⟩:=aW.form hpv;have g:=cm.gd;obtain⟨Q,P,rfl⟩:∃Q P,xu=.slice Q 0 P:=by
  obtain⟨_,_,_,_,e,_,q⟩:=D;obtain⟨a,c,e'⟩:=aW.form q;cases e;exact⟨a,c,e'⟩
 obtain⟨w,nK⟩:∃b,b=m.next:=⟨_,rfl⟩;obtain⟨m1,e1,o1,k1,n1,_⟩:=bz g [.slice pa parts.length T,Mp,N,J,L,.slice Q 0 P];obtain⟨k,nJ⟩:∃b,b=m1.next:=⟨_,rfl⟩;obtain⟨m2,e2,o2,k2,n2,_⟩:=bz (g.ext k1) [.slice Y 0 0,.slice Y 0 0,.slice Y 0 0,I 0];have nR:=k1.aX k2;obtain⟨d,hd⟩:∃b,b=m2.next:=⟨_,rfl⟩;obtain⟨p,e3,o3,k3,n3,_⟩:=bz (g.ext nR) YG;rw[<-nK]at e1 o1;rw[<-nJ]at e2 o2;rw[<-hd]at e3 o3;have t:=nR.aX k3;have uo:=cm.ext t;have o13:=(o1.a9 k2).a9 k3;have l1:aI w 0 p=Z (.slice pa parts.length T,p):=aO o13 rfl;obtain⟨A,hA⟩:∃A,A=ab.agg #[.slice pa parts.length T,Mp,N,J,L,.slice Q 0 P]:=⟨_,rfl⟩;rw[<-hA];obtain⟨t0,w0,e0⟩:=aU (K:=K) (m:=m) (m':=p) (tm:=entry [A]) (aov parts.length T fe.length cc 0 P pa ca Q N J L w k d) (by rw[hA,Jk];rfl) (by rw[Jk]at e1;exact .mem e1<|.mem e2<|.mem e3<|.mem l1 .nil);have uL:p.base<=d:=by
  have h1:=uo.gd.bf;have h2:=g.fn;have h3:=t.floor;have h4:=t.base;have :=g.bf;omega
 have n03:=t.next;obtain⟨S,hS⟩:∃S:Nat->Prop,S=λb=>b=d\/∃x∈parts,b=x.1:=⟨_,rfl⟩
 have hSd:S d:=by rw[hS];exact .inl rfl
 have hpn:∀x∈parts,x.1<m.next:=λx D=>by obtain⟨⟨_,_,o⟩,_⟩:=yr x D;exact o.lt
 have hSn:∀b,S b->b<m.next\/b=d:=λb h=>by
  rw[hS]at h;exact h.elim .inr λ⟨x,D,e⟩=> .inl (e▸hpn x D)
 have W3:FE p p d S BT Tb:=⟨_,_,_,_,_,_,_,_,.refl _ _,O4 o3 uL,λb f=>⟨.inl f,ai⟩,jI.ext t λ_ _ h=>h,λb f=>by have :=E b (.inr f);exact⟨λe=>by omega,ai⟩⟩;have hBS:∀b,B b->¬S b:=λb f h=>by
  rw[hS]at h;rcases h with h|⟨x,D,h⟩
  .have :=E b (.inl f);omega
  .exact(yr x D).2.2.2 (h▸f)
 have acV:¬S k:=λh=>by have :=hSn k h;omega
 obtain⟨e,t1,m5,he,wN,Ez⟩:=eN (K:=K) (nt:=fp 76) (a:=cj 76 [3]) parts.length
  (Inv:=λj tm M=>∃n T1,bj [1,2,4,16,17,18] tm=[vP w 0,vP k 0,vP d 0,.slice pa parts.length T,I (parts.length:Int),I j]/\FE p M d S n T1/\kU T1 (parts.drop j) T' er/\∀x∈parts.drop j,¬n x.1/\∃H r,Obj M x.1 0 [H,r])
  (dm:=λe tm M=>(e=.exit 0/\er=0/\bj [1,2,4] tm=[vP w 0,vP k 0,vP d 0]/\∃n,FE p M d S n T')\/(e=.ret/\er≠0/\bj [2,3] tm=[vP k 0,I er]/\Kp p M (λb=>S b\/b=k)/\Obj M k 0 [.slice Y 0 0,.slice Y 0 0,.slice Y 0 0,I 0]))
  (by
   rintro j tm M hj ⟨n,T1,hg,W,hP,hR⟩;rw[List.drop_eq_getElem_cons hj]at hP hR;obtain⟨h1,h2⟩:=hR _ (List.mem_cons_self ..);have Xp:parts[j]∈parts:=List.getElem_mem hj;have hx0:=yr _ Xp;have kM:Kp p M S:=by obtain⟨_,_,_,_,_,_,_,_,h,_⟩:=W;exact h
   have ep:∀y∈parts.drop (j+1),y.1≠parts[j].1:=λy X e=>by
    obtain⟨i,hi,rfl⟩:=List.getElem_of_mem X;rw[List.getElem_drop]at e;have :=(List.getElem_inj (xs:=parts.map (·.1)) (i:=j+1+i) (j:=j) (h₀:=by simp at hi⊢;omega) (h₁:=by simpa using hj) XK).1 (by simpa using e);omega
   obtain⟨pp,c',u,cu,e,_,ou,q1,q2,⟨ya,yw,yb,yu,rfl,s8⟩,ov⟩:=aW.get ((aW Mk 6).ext ((aW Mk 6).ext hpv t λ_ _ h=>h) kM hBS) hj;cases e;generalize parts[j]=x at*;have gM:=(uo.ext kM).gd;obtain⟨m6,m7,e6,e7,o7,C,n7⟩:=jV gM [.pointer Y,.bool O,.slice Y 0 0,.nilIface,.slice Y 0 0,.slice Y 0 0] [vP x.1 0,.bool x.2.1,ya,yw,yb,yu] rfl (aB.2 λy X=>ov.2 y X);have W7:FE p m7 d S n T1:=by
    obtain⟨SB,r,c,o,a,o',a',l,h1,h2,h3,h4,h5⟩:=W;have :=C.next;exact⟨SB,r,c,o,a,o',a',l,h1.aX C,h2.a9 C,λb f=>⟨(h3 b f).1,by have :=(h3 b f).2;omega⟩,h4.ext C λ_ _ h=>h,λb f=>⟨(h5 b f).1,by have :=(h5 b f).2;omega⟩⟩
   have hxn:=hpn x Xp;obtain⟨m8,BT8,T8,e1,e8,V,W8,F,hB8⟩:=ary (K:=K) hK uo W7 hSd hP (by obtain⟨H,r,o⟩:=h2;exact⟨H,r,o.a9 C⟩) ⟨ai,by rw[t.base];exact hx0.2.1,ai,by rw[hS];exact .inr ⟨x,Xp,rfl⟩⟩ h1 (rm.ext s8 C λ_ _ h=>h) λb f=>by
    have :=E b (.inl f);exact⟨ai,ai,λe=>hx0.2.2.2 (e▸f)⟩
   by_cases hz:e1=0
   case neg=>
    right
    rw[bH hz]at F;subst F;have k8':Kp p m8 S:=by obtain⟨_,_,_,_,_,_,_,_,h,_⟩:=W8;exact h
    obtain⟨m9,e9,o9,k9⟩:=jW (o:=0) [.slice Y 0 0,.slice Y 0 0,.slice Y 0 0,I 0] ((o2.a9 k3).ext k8' acV) ((g.own ((t.sC (S:=S)).trans k8' λ_ _ h=>h) ai).may _ _) (af rfl) rfl;obtain⟨t2,cN,cA⟩:=aL (K:=K) N6 (aox w k d pp parts.length T j x.1 M.next x.2.1 ya yw yb yu er) hg (.cond (FM hj)<|.idx rfl hj<|.mem (cL (vs:=[vP x.1 0,.bool x.2.1,ya,yw,yb,yu]) ou (by rw[Nat.zero_add];exact q1) ai)<|.mem e6<|.mem e7<|.mem (cL (vs:=[vP x.1 0,.bool x.2.1,ya,yw,yb,yu]) o7 rfl (af rfl))<|.call e8<|.cond (neT ai)<|.mem e9 .nil);exact⟨_,t2,m9,iq,cN,.inr ⟨rfl,hz,cA,(k8'.mono λ_ _ h=> .inl h).trans k9 λ_ _ h=> .inr h,o9⟩⟩
   left
   subst hz;rw[bh rfl]at F;obtain⟨t2,cN,cA⟩:=aL (K:=K) N6 (aow w k d pp parts.length T j x.1 M.next x.2.1 ya yw yb yu) hg (.cond (FM hj)<|.idx rfl hj<|.mem (cL (vs:=[vP x.1 0,.bool x.2.1,ya,yw,yb,yu]) ou (by rw[Nat.zero_add];exact q1) ai)<|.mem e6<|.mem e7<|.mem (cL (vs:=[vP x.1 0,.bool x.2.1,ya,yw,yb,yu]) o7 rfl (af rfl))<|.call e8<|.cond rfl .nil);rw[add1 ai]at cA;have n37:=kM.next;refine⟨t2,m8,cN,BT8,T8,cA,W8,F,λy X=>?_⟩;obtain⟨a1,H,r,a2⟩:=hR y (List.mem_cons_of_mem _ X);have hyn:=hpn y (List.mem_of_mem_drop X);refine⟨λh=>?_,H,r,(a2.a9 C).ext V λh=>?_⟩
   .rcases hB8 _ h with h|h|h
    .exact a1 h
    .exact ep y X h
    .omega
   .rcases h with h|h|h
    .omega
    .exact ep y X h
    .omega)
  (by
   rintro tm M ⟨n,T1,hg,W,hP,_⟩;rw[List.drop_length]at hP;cases hP;obtain⟨t2,cN,cA⟩:=aL (K:=K) (m:=M) (m':=M) N6 (aot w k d parts.length T parts.length pa) hg (.cond (SF _) .nil);exact⟨_,t2,M,iq,cN,.inl ⟨rfl,rfl,cA,n,W⟩⟩)
  (tm:=t0) (m:=p) ⟨BT,Tb,e0,W3,hpt,λx D=>⟨(yr x D).2.2.1,by obtain⟨⟨H,r,o⟩,_⟩:=yr x D;exact⟨H,r,o.a9 t⟩⟩⟩ ai
 obtain⟨SP,hSP⟩:∃SP:Nat->Prop,SP=λb=>∃x∈parts,b=x.1:=⟨_,rfl⟩
 rcases Ez with⟨rfl,rfl,hg,BT5,W5⟩|⟨rfl,hz,hg,k5,o5⟩
 case inr=>
  have eR:nY ae 31 (vP k 0) m5=Z (.agg #[.slice Y 0 0,.slice Y 0 0,.slice Y 0 0,I 0],m5):=ko o5 rfl oh.1 oh.2;refine⟨_,m5,QW alB (aC.cut w0 (aC.By agx agB wN aM)) (.inr rfl) hg eR,(t.sC (S:=λb=>∃x∈parts,b=x.1)).trans k5 λb f h=>?_,λh=>absurd h hz,λ_=>rfl⟩;rcases h with h|h
  .rw[hS]at h;exact h.resolve_left ai
  .omega
 obtain⟨SB,arN,cs5,bo5,al5,bm5,am5,rl5,k5,D5,uj,Xu,aqF⟩:=W5;obtain⟨dV,h0,hn,hs,hlen⟩:=hf rfl;have n5:=k5.next;have cm5:=uo.ext k5;have ahr:¬S w/\¬S k:=⟨λh=>by have :=hSn w h;omega,λh=>by have :=hSn k h;omega⟩;have o15:=o13.ext k5 ahr.1;have l2:fN 4 w 2 m5=Z (.agg #[N,J,L,.slice Q 0 P],m5):=cL (vs:=[N,J,L,.slice Q 0 P]) o15 rfl (af rfl);obtain⟨sv,m6,e6,O6,BO,BE,L6,G⟩:=aeI (K:=K) hK cm5 D5 (rm.ext (rm.ext D t λ_ _ h=>h) k5 hBS) Xu (λb f=>by
  rcases f with h|h
  .have :=E b (.inl h);exact⟨λh'=>(uj b h').1.elim (λh=>by omega) λh=>by omega,ai⟩
  .exact aqF b h) dV h0 (R:=eX T' s) rfl (af rfl)
 have k6:Kp m5 m6 SB:=by obtain⟨_,_,_,_,_,_,_,_,_,h,_⟩:=O6;exact h
 obtain⟨qa,rc,vw⟩:=L6.form;have n6:=k6.next;have FT:=cm5.ext k6;obtain⟨m7,e7,C,L7⟩:=UI (K:=K) FT.gd L6 hn hs hlen λb f=>(G b (.inr f)).2
 have n7:=C.next;have k37:Kp p m7 S:=(k5.trans k6 λb f h=>(uj b h).1.elim (λh=>h▸hSd) λh=>by omega).trans C λb f h=>by have :=(G b (.inl h)).1;omega
 have cm7:=FT.ext C;have Ox:Kp m m7 SP:=(t.sC (S:=SP)).trans k37 λb f h=>by
  rw[hS]at h;rcases h with h|h
  .omega
  .rw[hSP];exact h
 obtain⟨nV,aqp⟩:∃b,b=m7.next:=⟨_,rfl⟩;obtain⟨m8,m8',e8,e9,o8,V,n8⟩:=jV cm7.gd [.slice Y 0 0,.slice Y 0 0,.slice Y 0 0,I 0] [.slice Y 0 0,.slice Y 0 0,sv,I 0] rfl (by rw[vw];rfl);rw[<-aqp]at e8 e9 o8;have o17:=o13.ext k37 ahr.1;have l3:aI w 1 m8'=Z (Mp,m8'):=aO (o17.a9 V) rfl;have Zo:=Ox.aX V;obtain⟨t2,w2,HO⟩:=aU (K:=K) (m:=m5) (m':=m8') (aoy w k d (eX T' s).length rc fe.length cc ca qa N J L (.slice Q 0 P) nV) hg (by rw[Jk]at l3;rw[vw]at e6 e7 e9;exact .mem l2<|.call e6<|.cond rfl<|.call e7<|.mem e8<|.mem e9<|.mem l3 .nil);have aqA:∀b,B b->¬SP b:=λb f h=>hBS b f (by rw[hSP]at h;rw[hS];exact .inr h)
 obtain⟨t3,m9,nv,kv,hx9,hg9,k9,o9,q1,q2⟩:=To (K:=K) (B:=B) (Mp:=Mp) (t0:=t2) (m0:=m7) cm7.gd V ai ai o8 (rZ.ext hc Zo aqA) (λb f=>by have :=E b (.inl f);exact⟨ai,by have :=Zo.next;omega⟩) S4 (by rw[HO,Jk]);have n9:=k9.next;have n8':=V.next;have l4:fN 4 nV 0 m9=Z (.agg #[nv,kv,sv,I 0],m9):=cL (vs:=[nv,kv,sv,I 0]) o9 rfl (af rfl);have k09:Kp m m9 SP:=Zo.trans k9 λb f h=>by omega
 have o29:=(((o2.a9 k3).ext k37 ahr.2).a9 V).ext k9 (show¬k=nV by omega);obtain⟨z,YC,o10,Xd⟩:=jW (o:=0) [nv,kv,sv,I 0] o29 ((g.own k09 ai).may _ _) (af rfl) (by rw[vw];simp[(aW.nT q1).2,(aW.nT q2).2];exact⟨rfl,rfl⟩);have n10:=Xd.next;obtain⟨t4,w4,e4'⟩:=aU (K:=K) (m:=m9) (m':=z) (aor k nV nv kv sv) hg9 (.mem l4<|.mem YC .nil);have eR:nY ae 31 (vP k 0) z=Z (.agg #[nv,kv,sv,I 0],z):=ko o10 rfl oh.1 oh.2;refine⟨_,z,QW alB (aC.cut w0 (aC.fC wN (aC.cut w2 (aC.fC hx9 (aC.last w4 Wc))))) (.inr rfl) e4' eR,hSP▸k09.trans Xd λb f h=>by omega,⟨λ_=>⟨nv,kv,sv,rfl,?_,?_,BO,BE,?_,?_⟩,λh=>absurd rfl h⟩⟩
 .exact(aW (jj Dn) 1).mono ((aW (jj Dn) 1).ext q1 Xd λb f h=>by have :=f.1;omega) λb f=>⟨by have :=f.1;omega,by have :=f.2;omega⟩
 .exact(aW (jj I) 1).mono ((aW (jj I) 1).ext q2 Xd λb f h=>by have :=f.1;omega) λb f=>⟨by have :=f.1;omega,by have :=f.2;omega⟩
 .have apA:Kp m7 z (λy=>y=nV\/y=k):=(V.sC.trans (k9.mono λ_ _ h=> .inl h) λ_ _ h=>h).trans (Xd.mono λ_ _ h=> .inr h) λ_ _ h=>h
  exact L7.ext apA λb f h=>by have h1:=(G b f);omega
 .intro b f;have h1:=(G b f);exact⟨ai,ai⟩
end
def Qg (x:List UInt8):List (List UInt8)->Bool
 | []=>U
 |y::l=>!kL x y&&Qg x l
def D8:List (List UInt8)->Bool
 | []=>U
 |x::l=>Qg x l&&D8 l
theorem zt:∀l:List UInt8,kL l l=U
 | []=>rfl
 |a::l=>by unfold kL;rw[Nat.beq_refl,zt l];rfl
theorem DZ {x:List UInt8}:∀{l:List (List UInt8)},Qg x l=U->x∉l
 | [],_,h=>by cases h
 |y::l,h,a=>by
  unfold Qg at h;rw[ag]at h;rcases aN.1 a with rfl|a
  .rw[zt]at h;cases h.1
  .exact DZ h.2 a
theorem Hc {α:Type}{f:α->List UInt8}:∀{l:List α},D8 (l.map f)=U->∀{x y:α},x∈l->y∈l->f x=f y->x=y
 | [],_,_,_,h,_,_=>by cases h
 |z::l,h,x,y,d,c,e=>by
  rw[List.map_cons]at h;unfold D8 at h;rw[ag]at h;rcases aN.1 d with rfl|b<;>rcases aN.1 c with rfl|a
  .rfl
  .exact(DZ h.1 (List.mem_map.2 ⟨y,a,e.symm⟩)).elim
  .exact(DZ h.1 (List.mem_map.2 ⟨x,b,e⟩)).elim
  .exact Hc h.2 b a e
def gv.text(r:gv):List UInt8:=match r.args with | [.string T]=>T.data.toList|_=>[]
theorem aeM:dX ae 22=U:=aM
def Oz:Nat->List (Nat×eh)->Bool
 |_,[]=>U
 |lo,x::l=>Nat.ble lo x.1&&Oz (x.1+1) l
theorem CV:∀{lo:Nat}{L:List (Nat×eh)},Oz lo L=U->(∀x∈L,lo<=x.1)/\(L.map (·.1)).Nodup
 |_,[],_=>⟨λx c=>(by cases c),List.nodup_nil⟩
 |lo,x::l,h=>by
  unfold Oz at h;rw[ag]at h;have g:=af h.1;obtain⟨b,f⟩:=CV h.2;refine⟨λy a=>?_,?_⟩
  .rcases aN.1 a with rfl|a
   .exact g
   .have :=b y a;omega
  .rw[List.map_cons,List.nodup_cons];refine⟨λd=>?_,f⟩;obtain⟨y,a,e⟩:=List.mem_map.1 d;have :=b y a;omega
theorem Zc:Oz 12 KL=U:=aM
def Kl:ab->Nat
 | .slice Y _ _=>0
 | .slice (Z _) n _=>n+1
 | .bool b=>b.toNat
 | .iface t _=>t
 | .string s=>s.size
 |_=>0
theorem Kk {π:Nat->Nat}{v:ab}:Kl (bO π 20 v)=Kl v:=by
 cases v with
 |pointer a=>cases a<;>rfl
 |slice a l c=>cases a<;>rfl
 |map a=>cases a<;>rfl
 |_=>rfl
theorem Rj {r a:iQ}{f:Nat}{args:List ab}{m:Mem}{π rI:Nat->Nat}(h:r.at f args m π)(e:a.at f args m rI)(c:Pv r)(g:Pv a){l:List Nat}{u b:ab}(n:pO r.mi r.args l=Z u)(d:pO a.mi a.args l=Z b):Kl u=Kl b:=by
 rw[<-Kk (π:=π),wH h e c g n d,Kk]
structure CQ (Q:CD->Prop):Prop where
 f:∀{d},Q d->d.f=75
 fact:∀{d},Q d->∀o,(gO d o).Fact (gO d o).J
 apt:∀{d},Q d->∀o,pO (gO d o).mi (gO d o).args [0,0,1,1]=Z (wV o)
 one:∀{d d' o f args m π rI},Q d->Q d'->(gO d o).at f args m π->(gO d' o).at f args m rI->d'=d
 ok:∀{d},Q d->d.ok=U/\d.c.map (·.1)=d.A.map (·.1)/\∀x∈d.L,1100<=x.1/\x.1<d.nx
def CDq (Q:CD->Prop)(d:CD):Prop:=(∃a b,d=iD a b)\/Q d
def RSq (Q:CD->Prop)(r:iQ):Prop:=r=qQ\/∃d o,CDq Q d/\r=gO d o
section
variable {Q:CD->Prop}
theorem CQ.ET(c:CQ Q){d:CD}(h:CDq Q d)(o:Option Nat):(gO d o).Fact (gO d o).J:=by
 rcases h with⟨a,b,rfl⟩|h
 .exact QA a b o
 .exact c.fact h o
theorem CQ.okq(a:CQ Q){d:CD}(h:CDq Q d):d.ok=U/\d.c.map (·.1)=d.A.map (·.1)/\∀x∈d.L,1100<=x.1/\x.1<d.nx:=h.elim (λh=>ano (.inl h)) a.ok
theorem CQ.fq(c:CQ Q){d:CD}(h:CDq Q d):(d.f=73/\∃a b,d=iD a b)\/(d.f=75/\Q d):=by
 rcases h with⟨a,b,rfl⟩|h
 .exact .inl ⟨rfl,a,b,rfl⟩
 .exact .inr ⟨c.f h,h⟩
theorem CQ.rok(c:CQ Q)(r:iQ)(h:RSq Q r):FF Ct r:=by
 rcases h with rfl|⟨d,o,b,rfl⟩
 .exact afi _ (.inl rfl)
 .refine(c.ET b o).ok (.head _) (λx a=>⟨x.2,.tail _ (List.mem_append_left _ a),.inr jd.Sb⟩) (λx a=> .tail _ (List.mem_append_right _ a)) ?_
  show dX ae d.f=U
  rcases c.fq b with⟨e,_⟩|⟨e,_⟩<;>rw[e]
  .exact tB.2.1
  .exact tB.2.2
theorem CQ.nav(a:CQ Q){d:CD}(h:CDq Q d)(o:Option Nat):pO (gO d o).mi (gO d o).args [0,0,1,1]=Z (wV o):=h.elim (λh=>alM (.inl h) o) λh=>a.apt h o
theorem CQ.ape(i:CQ Q){d k:CD}{o g:Option Nat}{f:Nat}{args:List ab}{m:Mem}{π rI:Nat->Nat}(n:CDq Q d)(l:CDq Q k)(h:(gO d o).at f args m π)(j:(gO k g).at f args m rI):k=d/\g=o:=by
 have c:=(i.ET n o).at;have p:=(i.ET l g).at;have u:g=o:=by
  have :=ah9 h j c p (i.nav n o) (i.nav l g);cases o<;>cases g
  .rfl
  .cases this
  .cases this
  .exact congrArg Z (Nat.succ.inj this).symm
 subst u;refine⟨?_,rfl⟩;have y:d.f=f:=h.1;have z:k.f=f:=j.1;rcases i.fq n with⟨e,a,b,rfl⟩|⟨e,t⟩<;>rcases i.fq l with⟨x,r,q,rfl⟩|⟨x,s⟩
 .have w:vN a=vN r:=wH h j c p (ad6 a b g) (ad6 r q g);have v:vN b=vN q:=wH h j c p (ad5 a b g) (ad5 r q g);rw[Ib w,Ib v]
 .omega
 .omega
 .exact i.one t s h j
theorem CQ.aoo(b:CQ Q){r g:iQ}{f:Nat}{args:List ab}{m:Mem}{π rI:Nat->Nat}(n:RSq Q r)(q:RSq Q g)(h:r.at f args m π)(j:g.at f args m rI):g=r/\rI=π:=by
 have e:g=r:=by
  have i:=h.1;have k:=j.1;rcases n with rfl|⟨d,o,a,rfl⟩<;>rcases q with rfl|⟨p,s,l,rfl⟩
  .rfl
  .have k:p.f=f:=k;have i:38=f:=i;rcases b.fq l with⟨e,_⟩|⟨e,_⟩<;>omega
  .have i:d.f=f:=i;have k:38=f:=k;rcases b.fq a with⟨e,_⟩|⟨e,_⟩<;>omega
  .obtain⟨rfl,rfl⟩:=b.ape a l h j;rfl
 subst e;refine⟨rfl,?_⟩;rcases n with rfl|⟨d,o,a,rfl⟩
 .have c:=qP.at;exact Hg h j rfl rfl c.args c.args qP.cert qP.cert c.cn
 .have c:=(b.ET a o).at;exact Hg h j rfl rfl c.args c.args (b.ET a o).cert (b.ET a o).cert c.cn
theorem CQ.tw(b:CQ Q){r:iQ}{f:Nat}{args:List ab}{m:Mem}{π:Nat->Nat}(a:RSq Q r)(h:r.at f args m π):Zi (RSq Q) f args m=Z (bO π 20 r.v,r.out m π):=ae6 a h λg e d c=>by
 obtain⟨rfl,rfl⟩:=b.aoo a d h c;exact⟨rfl,rfl,rfl,rfl,rfl⟩
end
theorem ahN {Q:CD->Prop}(E:CQ Q){d:CD}{m:Mem}{lo l t pg s:Nat}{j:ab}(D:CDq Q d)(M:Calm m)(hG:Gl m)(X:GX m l t pg s j)(T:JZ m lo l pg s)(J:rz lo d.A m):
  ∃π u,Zi (RSq Q) d.f [.map (Z l),bO (sh lo) 20 d.sv] m=Z (.tuple #[bO π 20 d.qv,I d.er],u)/\Kp m u eK/\pW π d.L u (ik m u)/\π 1002=pg/\∀b,1100<=b->π b=m.next+(b-1100):=by
 obtain⟨F,h2,K⟩:=E.okq D;unfold CD.ok at F;simp only[ag]at F;obtain⟨⟨r,W⟩,V⟩:=F;obtain⟨N,q2⟩:=FD r;obtain⟨π,o⟩:∃π,π=FK 1100 m.next (lA lo d.A l t pg s j):=⟨_,rfl⟩;have R:π 1000=l:=by rw[o,DR r eJ eJ];rfl
 have P:π 1002=pg:=by rw[o,DR r eJ eJ];rfl
 have hE:=aqO r W X T J;have c:=(E.ET D (oW j)).at;have S:pG ae.globals.size (gO d (oW j)).mi m π:=by
  rw[o];refine alX M hG c.k (show 12<=1100 by decide) (λx a=>?_) hE;rcases List.mem_append.1 a with a|a
  .obtain⟨y,z,rfl⟩:=List.mem_map.1 a;obtain⟨_,_,_,cs,_,h5⟩:=N y z;exact(J _ _ _ h5).2.lt
  .rcases List.mem_append.1 a with a|a
   .simp only[aN,List.not_mem_nil,or_false]at a;rcases a with rfl|rfl|rfl|rfl
    .exact X.map.lt
    .exact X.pe
    .exact X.g.lt
    .exact X.c.lt
   .rcases X.w with rfl|⟨G,n,rfl,q⟩
    .cases a
    .have a:x∈[(1006,G)]:=a;rw[List.mem_singleton.1 a];exact q
 have S5:(gO d (oW j)).at d.f [.map (Z l),bO (sh lo) 20 d.sv] m π:=by
  refine⟨rfl,?_,⟨lA lo d.A l t pg s j,?_,o⟩,S⟩
  .show _=[ab.map (Z (π 1000)),bO π 20 d.sv]
   rw[R,PW (p:=λb=>Nat.blt b 12||d.A.any λy=>Nat.beq y.1 b) (π:=π) (rI:=sh lo) (λb i=>?_) V];rw[Bool.or_eq_true]at i;rcases i with i|i
   .have i:b<12:=af i;rw[o];unfold sh FK;rw[bh i,bh i]
   .obtain⟨y,z,e⟩:=List.any_eq_true.1 i;rw[<-aA e,o,adS r z]
  .show(d.A.map (λx:Nat×eh=>(x.1,sh lo x.1))++([(1000,l),(1001,t),(1002,pg),(1004,s)]++lW j)).map (λx:Nat×Nat=>x.1)=(d.c++([(1000,[0,0]),(1001,[0,0,0]),(1002,[0,0,1]),(1004,[0,0,1,0])]++cW (oW j))).map (λx:Nat×List Nat=>x.1)
   simp only[List.map_append];rw[h2,List.map_map];refine congrArg (_++·) ?_;rcases X.w with rfl|⟨G,n,rfl,q⟩<;>rfl
 have H:=E.tw (.inr ⟨d,_,D,rfl⟩) S5;have C:oD 19 d.qv=U:=by
  have h:(oD 19 d.qv&&(oD 19 (I d.er)&&U))=U:=c.val;rw[ag]at h;exact h.1
 rw[show bO π 20 (gO d (oW j)).v=.tuple #[bO π 20 d.qv,I d.er] by
  show ab.tuple #[bO π 19 d.qv,I d.er]=_
  rw[vZ C]]at H
 have B:∀b,1100<=b->π b=m.next+(b-1100):=λb i=>by rw[o];exact ab0 i
 refine⟨π,_,H,?_,?_,P,B⟩
 .exact acD B λx a=>(K x a).1
 .exact SH M rfl B K c.ln
def CkP (K:fE)(d:CD):Prop:=∀m lo mp pe pg cg rl,Calm m->Gl m->GX m mp pe pg cg rl->JZ m lo mp pg cg->rz lo d.A m->∃π m',Ev K d.f [.map (Z mp),bO (sh lo) 20 d.sv] m (.tuple #[bO π 20 d.qv,I d.er]) m'/\Kp m m' eK/\pW π d.L m' (ik m m')/\π 1002=pg/\∀b,1100<=b->π b=m.next+(b-1100)
theorem CkP.ck{K:fE}{d:CD}(h:CkP K d):Ck K d:=by
 intro m n k j i s g a b c d e;obtain⟨f,l,r,q,p,o,_⟩:=h m n k j i s g a b c d e;exact⟨f,l,r,q,p,o⟩
theorem Sa:VB.fact=U:=aM
def Bg (R:List gv):List gv:=VB::R++(List.range 144).map λk=>F7 (k / 12) (k%12)
structure JV (R:List gv):Prop where
 is:∀{r},r∈R->r.fact=U/\r.f=22/\r.mi=tG/\∃T,r.args=[.string T]
 nd:D8 ((Bg R).map gv.text)=U
 nf:∀{a b},a<12->b<12->(F7 a b).fact=U
def Y' (R:List gv)(r:gv):Prop:=r=w7\/r∈Bg R
theorem ai5 {K:fE}{r:gv}{T:ByteArray}{sv:ab}(e:∀m,Calm m->Gl m->Ev K 22 [.string T] m (bO (uG m) 20 r.v) (jg (uG m) tG m r.L r.nx))(n:r.v=.tuple #[sv,I 0,I 0])(g:oD 20 r.v=U)(c:∀x∈r.L,12<=x.1/\x.1<r.nx)(q:Oz 12 r.L=U):TL K T r.L sv:=by
 intro m i s;obtain⟨z,j⟩:=CV q;have e:=e m i s;rw[n]at e g;have p:oD 19 sv=U:=by
  have h:(oD 19 sv&&(oD 19 (I 0)&&(oD 19 (I 0)&&U)))=U:=g;rw[ag]at h;exact h.1
 have u:bO (uG m) 20 (.tuple #[sv,I 0,I 0])=.tuple #[bO (uG m) 20 sv,I 0,I 0]:=by
  rw[vZ p];rfl
 rw[u]at e;refine⟨_,e,W2 λx a=>(c x a).1,λb y A o=>?_⟩;obtain⟨k,f,w,rfl,t⟩:=za o;obtain⟨d,l⟩:=c _ f;exact⟨d,Qs i j f d l (λx a=>(c x a).1) w t⟩
theorem W4 {K:fE}(e:∀m,Calm m->Gl m->Ev K 14 [] m (bO (uG m) 20 w7.v) (jg (uG m) tG m w7.L w7.nx)):Py K:=by
 intro m c i;have e:=e m c i;have a:Kp m (jg (uG m) tG m w7.L w7.nx) eK:=W2 λx l=>(CV Zc).1 x l
 obtain⟨M,d⟩:∃M,M=jg (uG m) tG m w7.L w7.nx:=⟨_,rfl⟩;obtain⟨h,g⟩:=CV Zc;have p:M.next=m.next+1213:=by rw[d];rfl
 have o:m.base<=m.next:=by have :=c.gd.bf;have :=c.gd.fn;omega
 rw[<-d]at e a;have n:Ev K 14 [] m (vP (m.next+1) 0) M:=e;have j:Obj M (m.next+1) 0 [.int .i32 0,.int .u32 0,.map (Z m.next)]:=by
  rw[d];exact Qs (b:=13) (k:={kind:=1,pos:=1,cs:=[Z (.int .i32 0),Z (.int .u32 0),Z (.map (Z 12))]}) (cs:=[.int .i32 0,.int .u32 0,.map (Z 12)]) c g (.tail _ (.head _)) eJ eJ h rfl rfl
 have f:M.blk m.next={oA (uG m) {kind:=2,clock:=1,es:=#[⟨.string ⟨#[101]⟩,.pointer (Z ⟨129,0,Y⟩),0⟩]}with bq:=m.tick}:=by
  have :=Qt (m:=m) (nx:=1225) g (b:=12) (.head _) h;rw[d];exact this
 exact⟨M,m.next+1,m.next,m.next+117,n,a,⟨j,by rw[a.base];omega⟩,⟨ai,by rw[f];rfl,by rw[f];rfl,by rw[f];rfl,by rw[a.bI,c.bI];rfl,by rw[a.home];exact i.hn,by rw[a.base];exact o,ai⟩,ai,ai,ai⟩
section
variable {Q:CD->Prop}{R:List gv}
theorem JV.isq(b:JV R){r:gv}(h:r∈Bg R):r.fact=U/\r.f=22/\r.mi=tG/\∃T,r.args=[.string T]:=by
 rcases List.mem_append.1 h with h|h
 .rcases aN.1 h with rfl|h
  .exact⟨Sa,rfl,rfl,_,rfl⟩
  .exact b.is h
 .obtain⟨k,a,rfl⟩:=List.mem_map.1 h;have a:=List.mem_range.1 a;exact⟨b.nf ai (Nat.mod_lt _ eJ),rfl,rfl,_,rfl⟩
theorem afh (a:JV R)(r:gv)(h:Y' R r):Y9 Ct r:=by
 rcases h with rfl|h
 .exact(gv.dY NS rfl AP.2.2.1).1
 .obtain⟨d,c,b,_⟩:=a.isq h;exact(gv.dY d b (by rw[c];exact aeM)).1
theorem UR (a:JV R){r:gv}(h:Y' R r):r.f=14\/r.f=22:=by
 rcases h with rfl|h
 .exact .inl rfl
 .exact .inr (a.isq h).2.1
noncomputable def Ur(Q:CD->Prop)(R:List gv):cH:=λf args m=>match twR (Y' R) f args m with |some r=>Z r|none=>Zi (RSq Q) f args m
theorem ae4 (g:CQ Q)(e:JV R){Fin:ab->ar->Prop}:gE ae X0 U (Jn Fin) Mv (Ur Q R):=by
 intro f args m v b c a;unfold Ur at a
 split at a
 .rename_i r d;exact ae2 (Fin:=Fin) aeR (afh e) f args m v b c (d.trans a)
 .exact ae5 (Fin:=Fin) aeR g.rok f args m v b c a
theorem adQ (b:CQ Q){r:iQ}(h:RSq Q r):r.f=38\/r.f=73\/r.f=75:=by
 rcases h with rfl|⟨d,o,a,rfl⟩
 .exact .inl rfl
 .exact .inr ((b.fq a).imp (λh=>h.1) λh=>h.1)
theorem ana (d:CQ Q)(c:JV R){f:Nat}(h:ju f=O){args:List ab}{m:Mem}:Ur Q R f args m=Y:=by
 unfold Ur;rw[Dj λr b e=>?_]
 .exact Kh λr b e=>by rcases adQ d b with a|a|a<;>rw[e]at a<;>subst a<;>cases h
 .rcases UR c b with a|a<;>rw[e]at a<;>subst a<;>cases h
noncomputable def ZE(Q:CD->Prop)(R:List gv)(M n:Nat):cH:=ME ae X0 (og ae X0 M) (Ur Q R) n
theorem JG (M n f:Nat)(args:List ab)(m:Mem):ZE Q R M (n+1) f args m=match Ur Q R f args m with |some r=>Z r|none=>if Nat.beq f 137 then xE X0 (og ae X0 M) args m else if Nat.beq f 140 then Hn args m else(kX ae X0 f).body (ZE Q R M n) args m:=rfl
theorem Q7 (b:CQ Q)(a:JV R)(M n f:Nat)(args:List ab)(m:Mem)(h:ju f=O):ZE Q R M (n+1) f args m=(kX ae X0 f).body (ZE Q R M n) args m:=by
 rw[JG,ana b a h];unfold ju at h;simp only[Bool.or_eq_false_iff]at h
 show(if Nat.beq f 137 then _ else if Nat.beq f 140 then _ else _)=_
 rw[h.1.1.1.1.1.1,h.1.1.1.1.1.2];rfl
noncomputable def KQ(hQ:CQ Q)(hR:JV R):fE:=⟨ZE Q R,Q7 hQ hR⟩
theorem adF (c:CQ Q)(b:JV R){f:Nat}(d:f=137\/f=140){args:List ab}{m:Mem}:Ur Q R f args m=Y:=by
 unfold Ur;rw[Dj λr a e=>?_]
 .exact Kh λr a e=>by have :=adQ c a;omega
 .have :=UR b a;omega
theorem agE (b:CQ Q)(a:JV R):B9 (KQ b a):=⟨λM n args m=>by
 show ZE Q R M (n+1) 137 args m=_
 rw[JG,adF b a (.inl rfl)];rfl,λM n args m=>by
 show ZE Q R M (n+1) 140 args m=_
 rw[JG,adF b a (.inr rfl)];rfl⟩
theorem anb (b:CQ Q)(a:JV R){Fin:ab->ar->Prop}(M n:Nat):gE ae X0 U (Jn Fin) Mv (ZE Q R M n):=Fj qE (tN qE M) (ae4 b a) n
theorem adG (b:CQ Q)(a:JV R){f:Nat}{args:List ab}{m m':Mem}{v:ab}(h:Ur Q R f args m=Z (v,m')):Ev (KQ b a) f args m v m':=by
 refine⟨1,λM n _ c=>?_⟩;obtain⟨n,rfl⟩:∃k,n=k+1:=⟨n-1,ai⟩
 show ZE Q R M (n+1) f args m=_
 rw[JG,h]
theorem W6 (b:CQ Q)(a:JV R){f:Nat}{args:List ab}{m m':Mem}{v:ab}(d:f=38\/f=73\/f=75)(h:Zi (RSq Q) f args m=Z (v,m')):Ev (KQ b a) f args m v m':=by
 refine adG b a ?_;unfold Ur;rw[Dj λr c e=>?_]
 .exact h
 .have :=UR a c;omega
theorem ad8 (h:CQ Q)(g:JV R){r:gv}{m:Mem}{args:List ab}(l:Y' R r)(a:r.mi=tG)(q:Calm m)(o:Gl m)(n:args=r.args.map (bO (uG m) 20))(k:∀b c,Y' R b->b.at r.f args m c->b=r):Ev (KQ h g) r.f args m (bO (uG m) 20 r.v) (jg (uG m) tG m r.L r.nx):=by
 have s:r.at r.f args m (uG m):=⟨rfl,n,by rw[a];exact alY q o⟩;have d:=ae3 l s λb c p j=>by
  have e:=k b c p j;subst e;have i:=j.2.2;rw[a]at i;exact⟨rfl,SN i⟩
 unfold gv.out at d;rw[a]at d;refine adG h g ?_;unfold Ur;rw[d]
theorem Rb (a:CQ Q)(c:JV R)(d:CD)(b:CDq Q d):CkP (KQ a c) d:=by
 intro m v u t s w r p o X j n;obtain⟨f,i,e,k,q,g,l⟩:=ahN a b p o X j n;exact⟨f,i,W6 a c (.inr ((a.fq b).imp (λh=>h.1) λh=>h.1)) e,k,q,g,l⟩
theorem IA (h:CQ Q)(a:JV R){r:gv}(d:r∈Bg R){T:ByteArray}{sv:ab}(g:r.args=[.string T])(o:r.v=.tuple #[sv,I 0,I 0])(p:Oz 12 r.L=U):TL (KQ h a) T r.L sv:=by
 obtain⟨s,f,i,_⟩:=a.isq d;have l:=gv.dY s i (by rw[f];exact aeM);refine ai5 (λm u q=>?_) o l.1.val l.2 p;have e:=ad8 h a (.inr d) i u q (args:=[.string T]) (by rw[g];rfl) λy x c b=>by
  have k:=b.1;rcases c with rfl|c
  .rw[f]at k;cases k
  .refine Hc a.nd c d ?_;obtain⟨_,_,_,w,n⟩:=a.isq c;have j:=b.2.1;rw[n]at j;have t:[ab.string T]=[.string w]:=j;unfold gv.text;rw[g,n];cases t;rfl
 rw[f]at e;exact e
theorem SJ (c:CQ Q)(a:JV R):Py (KQ c a):=W4 λm f d=>ad8 c a (r:=w7) (.inl rfl) rfl f d (args:=[]) rfl λh g b e=>by
 rcases b with rfl|b
 .rfl
 .have :=e.1;rw[(a.isq b).2.1]at this;cases this
theorem ahJ (D:CQ Q)(T:JV R):Cr (KQ D T):=by
 intro m M z s H A V d r X C N hA;obtain⟨j,g⟩:∃j,j=sh M 93:=⟨_,rfl⟩;have o:Obj m j 2 r6:=by rw[g];exact(hA 93 2 r6 rfl).2
 have S4:M<=j:=by rw[g,G0 eJ];omega
 have lt:=N.lt;have lo':=N.lo;obtain⟨l,t⟩:∃l,l=[(93,j),(1010,z),(1000,s),(1001,H)]:=⟨_,rfl⟩;obtain⟨a,i⟩:∃a,a=FK 1100 m.next l:=⟨_,rfl⟩;have u:a 93=j:=by rw[i,t];rfl
 have w:a 1010=z:=by rw[i,t];rfl
 have n:a 1000=s:=by rw[i,t];rfl
 have J:a 1001=H:=by rw[i,t];rfl
 have B:a 1108=m.next+8:=by rw[i];rfl
 have c:=qP.at;have nmd:s≠z:=λe=>by
  have E:=d.kind;rw[e,r.kind]at E;cases E
 have hE:Emb m a qQ.K:=by
  refine⟨λx f=>?_,λx f=>?_,λx f=>?_,λx f y P e=>?_⟩<;>simp only[qQ,aN,List.not_mem_nil,or_false]at f
  .rcases f with rfl|rfl|rfl
   .show a 93<_;rw[u];exact o.lt
   .show a 1000<_;rw[n];exact d.lt
   .show a 1010<_;rw[w];exact r.lt
  .rcases f with rfl|rfl|rfl
   .show _<=a 93/\_<=a 93;rw[u];omega
   .show _<=a 1000/\_<=a 1000;rw[n];exact⟨d.base,d.home⟩
   .show _<=a 1010/\_<=a 1010;rw[w];exact⟨X,C⟩
  .rcases f with rfl|rfl|rfl
   .show wW a (bk 93 2 r6).2 (m.blk (a 93))
    rw[u];refine⟨o.kind,λ_=>⟨o.sz,?_⟩,λh=>(by cases h),λh=>by cases h⟩;rw[o.cs];rfl
   .show wW a ad9.2 (m.blk (a 1000))
    rw[n];refine⟨d.kind,λh=>(by cases h),λ_=>⟨?_,d.clock⟩,λh=>by cases h⟩;rw[d.es]
    show _=([⟨sB [101],vP (a 1001) 0,0⟩]:List MapEntry)
    rw[J]
   .show wW a (bk 1010 0 [.int .i32 1,.int .u32 0,.map (Z 1000)]).2 (m.blk (a 1010))
    rw[w];refine⟨r.kind,λ_=>⟨r.sz,?_⟩,λh=>(by cases h),λh=>by cases h⟩;rw[r.cs]
    show _=([Z (.int .i32 1),Z (.int .u32 0),Z (.map (Z (a 1000)))]:List (Option ab))
    rw[n];rfl
  .simp only[qQ,aN,List.not_mem_nil,or_false]at P;rcases f with rfl|rfl|rfl<;>rcases P with rfl|rfl|rfl
   .rfl
   .have e:a 93=a 1000:=e;omega
   .have e:a 93=a 1010:=e;omega
   .have e:a 1000=a 93:=e;omega
   .rfl
   .have e:a 1000=a 1010:=e;omega
   .have e:a 1010=a 93:=e;omega
   .have e:a 1010=a 1000:=e;omega
   .rfl
 have mS:pG ae.globals.size qQ.mi m a:=by
  rw[i];refine alX A V c.k (show 12<=1100 by decide) (λx f=>?_) (show Emb m (FK 1100 m.next l) qQ.K by rw[<-i];exact hE);rw[t]at f;simp only[aN,List.not_mem_nil,or_false]at f;rcases f with rfl|rfl|rfl|rfl
  .exact o.lt
  .exact r.lt
  .exact d.lt
  .exact d.pe
 have S5:qQ.at 38 [vP z 0,.agg #[.string bG,vL j 0 2 dp]] m a:=by
  refine⟨rfl,?_,⟨l,by rw[t];rfl,i⟩,mS⟩
  show _=[vP (a 1010) 0,.agg #[.string bG,vL (a 93) 0 2 dp]]
  rw[u,w]
 have S:=D.tw (.inl rfl) S5;obtain⟨p,v⟩:∃p,p=qQ.out m a:=⟨_,rfl⟩;rw[<-v]at S;have J4:p.next=m.next+9:=by rw[v];rfl
 have q:Kp m p (λy=>y=s):=by
  rw[v];refine⟨Nat.le_add_right _ _,rfl,rfl,rfl,rfl,rfl,rfl,rfl,rfl,λb hb ep=>?_⟩;rcases gL (m:=m) (L:=qQ.L.map λx=>(a x.1,oA a x.2)) (nx:=m.next+(1109-1100)) b with⟨e,_⟩|⟨k,hm,_⟩
  .exact e
  .obtain⟨x,f,ex⟩:=List.mem_map.1 hm;simp only[qQ,aN,List.not_mem_nil,or_false]at f;rcases f with rfl|rfl
   .have e:a 1000=b:=congrArg Prod.fst ex;exact absurd (e.symm.trans n) ep
   .have e:a 1108=b:=congrArg Prod.fst ex;omega
 have W:((qQ.L.map λx=>(a x.1,oA a x.2)).map (·.1)).Nodup:=by
  show[a 1000,a 1108].Nodup
  have :=d.lt;rw[n,B,List.nodup_cons];exact⟨λh=>by have :=List.mem_singleton.1 h;omega,List.nodup_cons.2 ⟨λh=>(by cases h),List.nodup_nil⟩⟩
 have G:p.blk s={oA a {kind:=2,clock:=2,es:=#[⟨sB [101],vP 1001 0,0⟩,⟨sB [103],vP 1108 0,1⟩]}with bq:=m.tick}:=by
  rw[v,<-n];exact sV (x:=(a 1000,oA a {kind:=2,clock:=2,es:=#[⟨sB [101],vP 1001 0,0⟩,⟨sB [103],vP 1108 0,1⟩]})) W (.head _)
 have F:p.blk (m.next+8)={oA a (vk 1108 [vL 93 0 2 dp,.slice Y 0 0]).2 with bq:=m.tick}:=by
  rw[v,<-B];exact sV (x:=(a 1108,oA a (vk 1108 [vL 93 0 2 dp,.slice Y 0 0]).2)) W (.tail _ (.head _))
 have Zy:m.base<=m.next:=by have :=A.gd.bf;have :=A.gd.fn;omega
 have hh0:=V.hn;have hml:=d.lt;have dB:=d.pe;have ar4:=o.lt;refine⟨p,m.next+8,by rw[<-g];exact W6 D T (.inl rfl) S,q,?_,ai⟩;rw[<-g];refine⟨⟨ai,by rw[G];rfl,?_,by rw[G];rfl,by rw[q.bI];exact d.Dh,by rw[q.home];exact d.home⟩,⟨ai,by rw[F];rfl,by rw[F];rfl,?_,by rw[q.bI,A.bI];rfl⟩,o.ext q (show¬j=s by omega),.inl rfl,ai,?_⟩
 .rw[G]
  show([⟨sB [101],vP (a 1001) 0,0⟩,⟨sB [103],vP (a 1108) 0,1⟩]:List MapEntry)=_
  rw[J,B]
 .rw[F]
  show([Z (vL (a 93) 0 2 dp),Z (.slice Y 0 0)]:List (Option ab))=_
  rw[u];rfl
 .have E:=d.base;have h2:=d.home;rw[q.base,q.home];omega
end
def noT (ps:List Nat)(L:List (Nat×eh)):List (Nat×eh):=L.filter λx=>!ps.any (Nat.beq x.1)
theorem An {ps:List Nat}{b sz:Nat}{cs:List ab}:∀{L:List (Nat×eh)},pz (noT ps L) b=Z (sz,cs)->pz L b=Z (sz,cs)/\b∉ps
 | [],h=>by cases h
 |x::L,h=>by
  unfold noT at h;rw[List.filter_cons]at h
  split at h
  .rename_i a;unfold pz at h⊢;cases hb:Nat.beq x.1 b with
   |true=>
    rw[hb]at h;refine⟨h,λf=>?_⟩;have e:=aA hb;have :ps.any (Nat.beq x.1)=U:=List.any_eq_true.2 ⟨b,f,by rw[e];exact Nat.beq_refl _⟩;rw[this]at a;cases a
   |false=>
    rw[hb]at h;exact An (L:=L) h
  .rename_i a;obtain⟨i,c⟩:=An (L:=L) h;refine⟨?_,c⟩;unfold pz;cases hb:Nat.beq x.1 b with
   |true=>
    have e:=aA hb;have a:ps.any (Nat.beq x.1)=U:=by
     cases g:ps.any (Nat.beq x.1)with
     |true=>rfl
     |false=>rw[g]at a;exact absurd rfl a
    obtain⟨y,d,j⟩:=List.any_eq_true.1 a;exact absurd (by rw[<-e,aA j];exact d) c
   |false=>exact i
def GG (x:RA):xp:=(x.p,x.self,Ui x.b)
theorem RF {B:Nat->Prop}{m:Mem}{x:RA}{v:ab}(h:tq.R B x m v):Mk.R B (GG x) m v:=by
 obtain⟨a,w,b,u,e,h⟩:=h;exact⟨a,w,b,u,e,GI h⟩
structure QP (d:CD)(cq:A1):Prop where
 f:d.f=75/\d.er=0
 enc:∀{π:Nat->Nat}{m:Mem}{B:Nat->Prop},pW π (noT (cq.parts.map (·.p)) d.L) m B->HL.R B (tR.iX π cq) m (bO π 20 d.qv)
 tb:∀x∈cq.parts,1100<=x.p/\∃cl r,pz d.L x.p=Z (0,[cl,r])
 ge:∀b sz cs,pz d.L b=Z (sz,cs)->1100<=b
 nd:(cq.parts.map (·.p)).Nodup
 us:cq.b.us=[]
 cl:cq.fe.length<9000
 pl:cq.parts.length<9000
def anN (res:List (List V)):Prop:=res≠[]/\res.length<65536/\∀x∈res,x.length<99999
def ait (K:fE)(Tb:Nat->Option (List (List V)))(n er:Nat)(G:(Nat->Nat)->Prop)(cq:A1)(res:List (List V)):Prop:=
 ∀π:Nat->Nat,G π->(∀b,1100<=b->n<=π b/\∀b',1100<=b'->π b=π b'->b=b')->∃T',kU Tb ((tR.iX π cq).parts.map GG) T' er/\(er=0->pF T' (Dc (yJ.iX π cq.b.first))/\anN (eX T' (Dc (yJ.iX π cq.b.first)))/\GY (eX T' (Dc (yJ.iX π cq.b.first)))=res/\TK K (eX T' (Dc (yJ.iX π cq.b.first))))
def adB (K:fE)(d:CD)(mp lo:Nat)(G:(Nat->Nat)->Prop)(m:Mem):Prop:=∀m3,Kp m m3 eK->∃π m',Ev K d.f [.map (Z mp),bO (sh lo) 20 d.sv] m3 (.tuple #[bO π 20 d.qv,I d.er]) m'/\Kp m3 m' eK/\pW π d.L m' (ik m3 m')/\G π/\∀b,1100<=b->π b=m3.next+(b-1100)
section
variable {K:fE}{m:Mem}{W:Nat->Prop}{db mp lo er n:Nat}{res:List (List V)}{Tb:Nat->Option (List (List V))}{G:(Nat->Nat)->Prop}
theorem aq3 (hK:B9 K){d:CD}{i:A1}{X:Bool}{x0 x1 V xs S T:ab}{pa:Option Addr}{pn pc:Nat}{rest:List ab}(Cv:adB K d mp lo G m)(q:QP d i)(cm:Calm m)(qB:Obj m db 0 (x0::x1::.map (Z mp)::rest))(jI:fY W Tb m)(hW:∀b,W b->b<m.next)(hl:n<=m.next)(vw:bO (sh lo) 20 d.sv=.agg #[.bool X,.slice pa pn pc,V,xs,S,T])(hq:ait K Tb n er G i res):
  ∃v m',Ev K 40 [vP db 0,.agg #[.bool X,.slice pa pn pc,V,xs,S,T]] m (.tuple #[v,I er]) m'/\Kp m m' eK/\sI er (ik m m') i.fe res m' v:=by
 have g:=cm.gd;have EJ:=qB.lt;obtain⟨b1,nK⟩:∃b,b=m.next:=⟨_,rfl⟩;obtain⟨m1,e1,o1,k1,n1,_⟩:=bz g [.bool X,.slice pa pn pc,V,xs,S,T];obtain⟨b2,nJ⟩:∃b,b=m1.next:=⟨_,rfl⟩;obtain⟨m2,e2,o2,k2,n2,_⟩:=bz (g.ext k1) [.slice Y 0 0,.slice Y 0 0,.slice Y 0 0,I 0];have nR:=k1.aX k2;have g2:=g.ext nR;rw[<-nK]at e1 o1;rw[<-nJ]at e2 o2;have l1:aI db 2 m2=Z (.map (Z mp),m2):=aO (qB.a9 nR) rfl;have l2:fN 6 b1 0 m2=Z (.agg #[.bool X,.slice pa pn pc,V,xs,S,T],m2):=cL (vs:=[.bool X,.slice pa pn pc,V,xs,S,T]) (o1.a9 k2) rfl (af rfl);obtain⟨F,hb3⟩:∃b,b=m2.next:=⟨_,rfl⟩;obtain⟨m3,e3,o3,k3,n3,_⟩:=bz g2 [.slice Y 0 0,.slice Y 0 0,.slice Y 0 0,.nilIface,.slice Y 0 0,.slice Y 0 0];rw[<-hb3]at e3 o3;have pf:=nR.aX k3;have g3:=g.ext pf;obtain⟨j,m4,e4,k4,La,uQ,kj⟩:=Cv m3 pf;have n3':=pf.next;have n4':=k4.next;obtain⟨TP,hTP⟩:∃TP:Nat->Prop,TP=λb=>∃x∈i.parts,b=j x.p:=⟨_,rfl⟩
 have La':pW j (noT (i.parts.map (·.p)) d.L) m4 (λb=>ik m3 m4 b/\¬TP b):=by
  intro b sz cs hg;obtain⟨h1,h2⟩:=An hg;obtain⟨h3,h4⟩:=La b sz cs h1;refine⟨⟨h3,λh=>?_⟩,h4⟩;rw[hTP]at h;obtain⟨x,t,e⟩:=h;have k:=q.ge b sz cs h1;have wN:=(q.tb x t).1;rw[kj _ k,kj _ wN]at e;exact h2 (List.mem_map.2 ⟨x,t,ai⟩)
 have q4:=q.enc La';obtain⟨v,hv⟩:∃v,v=bO j 20 d.qv:=⟨_,rfl⟩;rw[<-hv]at e4 q4;rw[vw,q.f.1,q.f.2]at e4;obtain⟨p,Mp,a,w,y,u,rfl,qp,qc,qb⟩:=q4;obtain⟨E,D,hp⟩:=aW.form qp;have dB:(tR.iX j i).parts.length=i.parts.length:=List.length_map ..;rw[dB]at hp;subst hp;have qb4:=qb;obtain⟨_,_,_,_,he,z1,z2,z3,z4⟩:=jK.four qb4;cases he;have tI:=pf.aX k4;have Mw:=cm.ext tI;have n4:=k4.next;have Cv:dH (I ((m3.blk F).bq:Int)) (vP F 0) (oJ (vP F 0)) m4=Z (undef,m4):=aeC (b:=F) g tI ai rfl (NA k4 o3.lt);obtain⟨ca,cc,aqj⟩:=aW.form qc;obtain⟨m5,e5,o5,P⟩:=jW (o:=0) [.slice E i.parts.length D,Mp,a,w,y,u] (o3.a9 k4) ((g.own tI ai).may _ _) (af rfl) (by rw[aqj];simp[z1,z2,z3,z4];exact⟨rfl,rfl⟩);have n5:=P.next;have CR:Kp m m5 eK:=tI.new P (N:=m.next) (aj _) λb k=>by omega
 have cm5:=cm.ext CR;have l3:fN 6 F 0 m5=Z (.agg #[.slice E i.parts.length D,Mp,a,w,y,u],m5):=cL (vs:=[.slice E i.parts.length D,Mp,a,w,y,u]) o5 rfl (af rfl);have M:∀y,ik m3 m4 y/\¬TP y->¬y=F:=λy Q e=>by have :=Q.1.1;omega
 have o25:=(((o2.a9 k3).a9 k4).ext P (show¬b2=F by omega));have Xu:=jI.ext CR λ_ _ h=>h
 obtain⟨T',hpt,q8⟩:=hq j uQ λb k=>by
  rw[kj b k];exact⟨ai,λb' gR e=>by rw[kj b' gR]at e;omega⟩
 obtain⟨J,C⟩:∃l,l=(tR.iX j i).parts.map GG:=⟨_,rfl⟩;have R:∀x∈J,∃z∈i.parts,x.1=j z.p:=λx t=>by
  rw[C]at t;obtain⟨y,Q,rfl⟩:=List.mem_map.1 t;obtain⟨z,H,rfl⟩:=List.mem_map.1 (show y∈i.parts.map (GR.iX j)from Q);exact⟨z,H,rfl⟩
 obtain⟨v6,m6,e6,k6,q6⟩:=aq1 (K:=K) (B:=λb=>ik m3 m4 b/\¬TP b) (parts:=J) (s:=Dc (yJ.iX j i.b.first)) (T':=T') hK cm5 (rZ.ext qc P M) (by
   rw[C];exact aW.map' (E':=Mk) (λx v h=>RF h) ((aW tq 6).ext qp P M)) (by
   have :=GI (jK.ext qb P M);have e:Ui (tR.iX j i).b=(Dc (yJ.iX j i.b.first),[]):=by
    show(Dc (yJ.iX j i.b.first),(i.b.us.map (tCU.iX j)).map _)=_
    rw[q.us];rfl
   rw[e]at this;exact this) Xu (λb k=>k.elim (λk=>by have :=k.1.2;omega) λk=>by have :=hW b k;omega) q.cl (by rw[C,List.length_map,dB];exact q.pl) (λx t=>by
   obtain⟨z,H,ez⟩:=R x t;obtain⟨hz1,cl,r,A⟩:=q.tb z H;obtain⟨b1',TY⟩:=La z.p _ _ A;have hbn:=b1'.1;rw[ez];refine⟨⟨_,_,(show Obj m5 (j z.p) 0 [bO j 20 cl,bO j 20 r]from TY.ext P (show¬j z.p=F by omega))⟩,by rw[CR.base];have :=g.bf;have :=g.fn;omega,λh=>by have :=hW _ h;omega,λh=>h.2 (by rw[hTP];exact⟨z,H,rfl⟩)⟩) (by
   rw[C]
   show(((i.parts.map (GR.iX j)).map GG).map (·.1)).Nodup
   rw[List.map_map,List.map_map];have :i.parts.map (((λx:xp=>x.1)∘GG)∘GR.iX j)=(i.parts.map (·.p)).map j:=by rw[List.map_map];rfl
   rw[this,List.Nodup,List.pairwise_map];refine List.Pairwise.imp_of_mem ?_ q.nd;intro a c ha hc ep e;obtain⟨x,t,rfl⟩:=List.mem_map.1 ha;obtain⟨y,Q,rfl⟩:=List.mem_map.1 hc;have h3:=(q.tb x t).1;have h4:=(q.tb y Q).1;rw[kj _ h3,kj _ h4]at e;omega) (by rw[C];exact hpt) λhe=>by
   obtain⟨f1,f2,f3,f4⟩:=q8 he;exact⟨f1,f2.1,f2.2.1,f4,f2.2.2⟩
 have q6:sI er (ik m5 m6) i.fe res m6 v6:=⟨λhe=>(q8 he).2.2.1▸q6.1 he,q6.2⟩;obtain⟨nv,kv,rv,rfl,Q⟩:=q6.form;have aqz:∀b,b<m3.next->¬∃x∈J,b=x.1:=λb k h=>by
  obtain⟨x,t,rfl⟩:=h;obtain⟨z,H,ez⟩:=R x t;obtain⟨hz1,cl,r,A⟩:=q.tb z H;have :=(La z.p _ _ A).1.1;omega
 have n6:=k6.next;have xh:Kp m m6 eK:=CR.new k6 (N:=m.next) (aj _) λb k=>by
  obtain⟨x,t,rfl⟩:=k;obtain⟨z,H,ez⟩:=R x t;obtain⟨hz1,cl,r,A⟩:=q.tb z H;have :=(La z.p _ _ A).1.1;omega
 obtain⟨m7,e7,o7,k7⟩:=jW (o:=0) [nv,kv,rv,I 0] (o25.ext k6 (aqz b2 ai)) ((g.own xh ai).may _ _) (af rfl) Q;have n7:=k7.next;have eR:nY ae 31 (vP b2 0) m7=Z (.agg #[nv,kv,rv,I 0],m7):=ko o7 rfl oh.1 oh.2;exact⟨_,m7,bg (p40 db mp X pn pc pa V xs S T (.slice E i.parts.length D) Mp a w y u nv kv rv (I 0) er b1 b2 F _)
  (.mem e1<|.mem e2<|.mem l1<|.mem l2<|.mem e3<|.mem (fM _ _)<|.mem (aJ g3)<|.call e4<|.mem Cv<|.mem (aJ Mw.gd)<|.mem e5<|.cond rfl<|.mem l3<|.call e6<|.mem e7<|.mem eR .nil),xh.new k7 (N:=m.next) (aj _) λb k=>by omega,
  sI.mono (sI.ext q6 k7 λb k h=>by have :=k.1;omega) λb k=>⟨by have :=k.1;omega,by have :=k.2;omega⟩⟩
def C40 (K:fE)(d:CD)(db mp er:Nat)(fe:List FI)(res:List (List V))(m:Mem):Prop:=∀(m3:Mem) (lo:Nat) (rc:Bool) (pa:Option Addr) (pn pc:Nat) (xi xs xw xu x0 x1:ab) (rest:List ab),Calm m3->Gl m3->Kp m m3 (λy=>y=db)->rz lo d.A m3->m.next<lo->lo<=m3.next->Obj m3 db 0 (x0::x1::.map (Z mp)::rest)->bO (sh lo) 20 d.sv=.agg #[.bool rc,.slice pa pn pc,xi,xs,xw,xu]->
 ∃v m',Ev K 40 [vP db 0,.agg #[.bool rc,.slice pa pn pc,xi,xs,xw,xu]] m3 (.tuple #[v,I er]) m'/\Kp m3 m' eK/\sI er (ik m3 m') fe res m' v
theorem anC {T:ByteArray}{d:CD}{J:List FI}(H:C40 K d db mp er J res m)(cm:Calm m)(hG:Gl m)(V:uC m db mp)(hh:m.home<=db)(hT:TL K T d.A (.iface 108 d.sv))
  (vw:∀lo,∃j n k l i g c f,bO (sh lo) 20 d.sv=.agg #[.bool j,.slice n k l,i,g,c,f]/\bO (sh lo) 20 (.iface 108 d.sv)=.iface 108 (.agg #[.bool j,.slice n k l,i,g,c,f])/\([.bool j,.slice n k l,i,g,c,f].all (·.oneCell'))=U):
  ∃v q,Ev K 12 [vP db 0,.string T] m (.tuple #[v,I er,I 0]) q/\Kp m q (λy=>y=db)/\uC q db mp/\sI er (ik m q) J res q v:=by
 obtain⟨s,p,q,R,P,M,L,e,YB,B,t,cF,⟨h5,hQ⟩,F,Wr⟩:=ah0 (K:=K) (S:=eK)
  (Q:=λs p R P M L e=>e=er/\sI er (ik s p) J res p (.agg #[R,P,M,L])) cm hG V hh hT (λb e=>e.elim) (by
  intro s lo C G B o3 hA cF hle;obtain⟨j,n,k,l,i,g,c,f,s1,s2,s3⟩:=vw lo;rw[s2];obtain⟨X,e4,o4,k4,n4,_⟩:=bz C.gd [.slice Y 0 0,.slice Y 0 0,.slice Y 0 0,I 0];have Mw:=C.ext k4;obtain⟨m5,D,e5,e6,o6,E,n6⟩:=jV Mw.gd [.bool O,.slice Y 0 0,.slice Y 0 0,.slice Y 0 0,.nilIface,.slice Y 0 0] [.bool j,.slice n k l,i,g,c,f] rfl s3;have FT:=Mw.ext E;have r:=k4.aX E;have xh:=B.aX r;have n3:=B.next;have n36:=r.next;obtain⟨v,m7,e7,z,W⟩:=H D lo j n k l i g c f _ _ _ FT (G.a9 r) xh (hA.ext r λ_ h=>h.elim) cF ai (o3.a9 r) s1;obtain⟨w,x,u,rfl,hy⟩:=W.form;have n7:=z.next;obtain⟨p,e8,o8,t⟩:=jW (o:=0) [w,x,u,I 0] ((o4.a9 E).a9 z) ((C.gd.own (r.aX z) (aj _)).may _ _) (af rfl) hy;have n8:=t.next;have eR:nY ae 31 (vP s.next 0) p=Z (.agg #[w,x,u,I 0],p):=ko o8 rfl oh.1 oh.2;have l6:fN 6 X.next 0 D=Z (.agg #[.bool j,.slice n k l,i,g,c,f],D):=cL (vs:=[.bool j,.slice n k l,i,g,c,f]) o6 rfl (af rfl);exact⟨w,x,u,I 0,(er:Int),p,bg (aoR db j k l n i g c f w x u (I 0) er s.next X.next) (.mem e4<|.cond rfl<|.cond rfl<|.cond rfl<|.mem e5<|.mem e6<|.mem l6<|.call e7<|.mem e8<|.mem eR .nil),(r.aX z).new t (N:=s.next) (aj _) λb a=>by omega,hy,rfl,
   sI.mono (sI.ext W t λb a h=>by have :=a.1;omega) λb a=>⟨by have :=a.1;omega,by have :=a.2;omega⟩⟩)
 subst h5;have n8:=t.next;have n':=F.next;exact⟨_,q,YB,(B.aX t).trans F λb a h=>h.elim id λh=>by omega,Wr,sI.mono (sI.ext hQ F λb a h=>by have :=a.1;have :=V.1.lt;rcases h with h|h<;>omega) λb a=>⟨by have :=a.1;omega,by have :=a.2;omega⟩⟩
theorem aru (F:B9 K){T:ByteArray}{d:CD}{r:A1}(P:∀a lo,Calm a->Gl a->Kp m a (λy=>y=db)->rz lo d.A a->m.next<lo->lo<=a.next->adB K d mp lo G a)(D:QP d r)(N:Calm m)(H:Gl m)(w:uC m db mp)(C:m.home<=db)(E:TL K T d.A (.iface 108 d.sv))(x:fY W Tb m)(t:∀b,W b->b<m.next/\b≠db)(B:ait K Tb m.next er G r res)
  (u:∀lo,∃i n j l h g e f,bO (sh lo) 20 d.sv=.agg #[.bool i,.slice n j l,h,g,e,f]/\bO (sh lo) 20 (.iface 108 d.sv)=.iface 108 (.agg #[.bool i,.slice n j l,h,g,e,f])/\([.bool i,.slice n j l,h,g,e,f].all (·.oneCell'))=U):
  ∃v c,Ev K 12 [vP db 0,.string T] m (.tuple #[v,I er,I 0]) c/\Kp m c (λy=>y=db)/\uC c db mp/\sI er (ik m c) r.fe res c v:=
 anC (λa lo i n j l h g e f R Q rest s q k J M L o z=>by
  have S:=k.next;exact aq3 F (P a lo s q k J M L) D s o (x.ext k λb p=>(t b p).2) (λb p=>by have :=(t b p).1;omega) ai z B) N H w C E u
end
theorem YL {K:fE}{m:Mem}{W:Nat->Prop}{l g j pg o:Nat}{rows:List (List V)}{d:CD}(h:CkP K d)(v:Gl m)(n:Calm m)(D:Kb W m g j pg o rows)(B:¬W l):
  ∀a c,Calm a->Gl a->Kp m a (λy=>y=l)->rz c d.A a->m.next<c->c<=a.next->adB K d g c (λp=>p 1002=pg) a:=by
 intro a c q i k z H G s f;obtain⟨r,X,_⟩:=(D.ext (k.aX f) λb u e=>B (e▸u)).x;have F:=D.lt _ D.w.1;have E:=D.lt _ D.w.2.1;have C:=D.lt _ D.w.2.2;have t:=v.hn;have J:m.base<=m.next:=by have :=n.gd.bf;have :=n.gd.fn;omega
 exact h s c g j pg o r (q.ext f) (i.a9 f) X ⟨ai,by rw[f.base,f.home,k.base,k.home];omega⟩ (z.ext f λ_ h=>h.elim)
def QPs (d:CD):Prop:=(∃i j,d=pD i j)\/d=Gc
theorem NY (i j:Nat)(o:Option Nat):pO (gO (pD i j) o).mi (gO (pD i j) o).args [1,1,2,0]=Z (vN i)/\pO (gO (pD i j) o).mi (gO (pD i j) o).args [1,1,5,1,0]=Z (vN j)/\pO (gO (pD i j) o).mi (gO (pD i j) o).args [0,0,1,1]=Z (wV o):=by
 cases o<;>exact⟨aM,aM,aM⟩
theorem VY (o:Option Nat):pO (gO Gc o).mi (gO Gc o).args [1,1,2,0]=Z (Si [] [122])/\pO (gO Gc o).mi (gO Gc o).args [0,0,1,1]=Z (wV o):=by
 cases o<;>exact⟨aM,aM⟩
theorem adU (i j:Nat):(pD i j).ok=U/\(pD i j).c.map (·.1)=(pD i j).A.map (·.1)/\((pD i j).L.all λx=>Nat.ble 1100 x.1&&Nat.blt x.1 (pD i j).nx)=U:=⟨aM,rfl,aM⟩
theorem afZ:Gc.ok=U/\Gc.c.map (·.1)=Gc.A.map (·.1)/\(Gc.L.all λx=>Nat.ble 1100 x.1&&Nat.blt x.1 Gc.nx)=U:=⟨aM,rfl,aM⟩
theorem rT:CQ QPs:=by
 refine⟨λh=>?_,λh o=>?_,λh o=>?_,λ{d u o f args m π rI} q l h g=>?_,λ{d} h=>?_⟩
 .rcases h with⟨i,j,rfl⟩|rfl<;>rfl
 .rcases h with⟨i,j,rfl⟩|rfl
  .exact yU i j o
  .exact DS o
 .rcases h with⟨i,j,rfl⟩|rfl
  .exact(NY i j o).2.2
  .exact(VY o).2
 .rcases q with⟨i,j,rfl⟩|rfl<;>rcases l with⟨b,a,rfl⟩|rfl
  .have c:=(yU i j o).at;have k:=(yU b a o).at;rw[Ib (wH h g c k (NY i j o).1 (NY b a o).1),Ib (wH h g c k (NY i j o).2.1 (NY b a o).2.1)]
  .have e:=Rj h g (yU i j o).at (DS o).at (NY i j o).1 (VY o).1;exact absurd (show Kl (vN 0)=Kl (Si [] [122])from e) eJ
  .have e:=Rj h g (DS o).at (yU b a o).at (VY o).1 (NY b a o).1;exact absurd (show Kl (Si [] [122])=Kl (vN 0)from e) eJ
  .rfl
 .have p:d.ok=U/\d.c.map (·.1)=d.A.map (·.1)/\(d.L.all λx=>Nat.ble 1100 x.1&&Nat.blt x.1 d.nx)=U:=by
   rcases h with⟨i,j,rfl⟩|rfl
   .exact adU i j
   .exact afZ
  obtain⟨t,s,r⟩:=p;exact⟨t,s,λx n=>by
   have :=aB.1 r x n;rw[ag]at this;exact⟨af this.1,af this.2⟩⟩
def pN:ByteArray:=⟨#[110]⟩
def pCq (i j:Nat):A1:=⟨[⟨1148,O,⟨⟨[],Y,[.lit (gk i)]⟩,[⟨U,⟨[],Y,[.lit (gk j)]⟩⟩]⟩⟩,⟨1202,U,⟨⟨[⟨1148,Y⟩],Y,[.r7 1148 0 0]⟩,[⟨U,⟨[⟨1202,Y⟩,⟨1002,Z (.bin 11 (.r7 1002 1 0) (.r7 1202 0 0))⟩],Y,[.r7 1002 1 1]⟩⟩]⟩⟩],[⟨pN,1⟩],⟨⟨[⟨1202,Y⟩],Y,[.r7 1202 0 0]⟩,[]⟩⟩
theorem ab2:((List.range 12).all λi=>(List.range 12).all λj=>tR.wU (noT [1148,1202] (pD i j).L) (pCq i j) (pD i j).qv)=U:=aM
theorem ab1 {i j:Nat}(hi:i<12)(a:j<12):tR.wU (noT [1148,1202] (pD i j).L) (pCq i j) (pD i j).qv=U:=aB.1 (aB.1 ab2 i (List.mem_range.2 hi)) j (List.mem_range.2 a)
theorem ak9 {i j:Nat}(hi:i<12)(d:j<12):QP (pD i j) (pCq i j):=by
 refine⟨⟨rfl,rfl⟩,λe=>tR.ok e (ab1 hi d),λx a=>?_,λb f g h=>?_,(show[1148,1202].Nodup by decide),rfl,(show 1<9000 by decide),(show 2<9000 by decide)⟩
 .rcases aN.1 a with rfl|a
  .exact⟨(by decide:1100<=1148),vL 1151 0 1 dp,.slice Y 0 0,aM⟩
  .rw[List.mem_singleton.1 a];exact⟨(by decide:1100<=1202),vL 1205 0 1 dp,.slice Y 0 0,aM⟩
 .obtain⟨k,c,_⟩:=za h;have :=aB.1 (adU i j).2.2 _ c;rw[ag]at this;exact af this.1
def dC (E:List (Nat×Nat))(f:List Nat):List Nat:=f.flatMap λn=>(E.filter λe=>e.1==n).map (·.2)
def iw (E:List (Nat×Nat)):Nat->List Nat->List Nat
 |0,_=>[]
 |k+1,f=>f++iw E k (dC E f)
def itE (E:List (Nat×Nat)):Nat->List Nat->List Nat
 |0,f=>f
 |k+1,f=>itE E k (dC E f)
section
variable {E:List (Nat×Nat)}{f:List Nat}
theorem z6 {x:Nat}:x∈dC E f↔∃n∈f,(n,x)∈E:=by
 unfold dC;rw[List.mem_flatMap]
 constructor
 .rintro⟨n,a,h⟩;obtain⟨e,b,rfl⟩:=List.mem_map.1 h;obtain⟨d,c⟩:=List.mem_filter.1 b;have :e.1=n:=by simpa using c
  exact⟨n,a,this▸d⟩
 .rintro⟨n,a,h⟩;exact⟨n,a,List.mem_map.2 ⟨(n,x),List.mem_filter.2 ⟨h,dA⟩,rfl⟩⟩
theorem AX:∀{k:Nat}{f:List Nat},dC E (iw E k f)=iw E k (dC E f)
 |0,_=>rfl
 |k+1,f=>by
  show dC E (f++iw E k (dC E f))=dC E f++iw E k (dC E (dC E f))
  have h:dC E (f++iw E k (dC E f))=dC E f++dC E (iw E k (dC E f)):=List.flatMap_append;rw[h,AX]
theorem Rm:∀{k:Nat}{f:List Nat},iw E (k+1) f=iw E k f++itE E k f
 |0,f=>by show f++[]=[]++f;simp
 |k+1,f=>by
  show f++iw E (k+1) (dC E f)=(f++iw E k (dC E f))++itE E k (dC E f)
  rw[Rm,List.append_assoc]
variable (hE:∀e∈E,e.1<e.2/\e.2<12)
include hE
theorem Xi:∀{k j:Nat}{f:List Nat},(∀x∈f,j<=x/\x<12)->∀x∈itE E k f,j+k<=x/\x<12
 |0,_,_,h=>h
 |k+1,j,f,h=>λx b=>by
  have :=Xi (k:=k) (j:=j+1) (f:=dC E f) (λy a=>by
   obtain⟨n,c,d⟩:=z6.1 a;have :=h n c;have :=hE _ d;exact⟨ai,this.2⟩) x b
  exact⟨ai,this.2⟩
theorem acH (h:∀x∈f,x<12):itE E 12 f=[]:=by
 refine List.eq_nil_iff_forall_not_mem.2 λx b=>?_
 have :=Xi hE (j:=0) (λy a=>⟨Nat.zero_le _,h y a⟩) x b;omega
theorem Rn (h:∀x∈f,x<12):iw E 12 f=f++dC E (iw E 12 f):=by
 have :=Rm (E:=E) (k:=12) (f:=f);rw[acH hE h,List.append_nil]at this;rw[AX];exact this.symm
omit hE
theorem ZZ:∀E:List (Nat×Nat),(E.map λ_=>0).sum=0
 | []=>rfl
 |e::E=>by rw[List.map_cons,List.sum_cons,ZZ E]
theorem O9 {b:Nat}:∀{E:List (Nat×Nat)},(dC E f).count b=(E.map λe=>if e.2=b then f.count e.1 else 0).sum:=by
 induction f with
 |nil=>
  intro E;have :(E.map λe=>if e.2=b then([]:List Nat).count e.1 else 0)=E.map λ_=>0:=List.map_congr_left λe _=>by simp
  rw[this];exact(ZZ E).symm
 |cons n f c=>
  intro E;have g:dC E (n::f)=(E.filter λe=>e.1==n).map (·.2)++dC E f:=rfl;rw[g,List.count_append,c];clear c g
  induction E with
  |nil=>rfl
  |cons e E c=>
   simp only[List.map_cons,List.sum_cons,List.filter_cons];rw[<-Nat.add_assoc]
   by_cases d:e.1=n
   .rw[bh (by simp[d]),List.map_cons,List.count_cons]
    by_cases a:e.2=b
    .rw[bh a,bh a,d,List.count_cons_self];simp[a];omega
    .rw[bH a,bH a];simp[a];omega
   .rw[bH (by simpa using d)]
    by_cases a:e.2=b
    .rw[bh a,bh a,List.count_cons_of_ne ai];omega
    .rw[bH a,bH a];omega
end
def nP (E:List (Nat×Nat))(c i:Nat->Nat)(A j b:Nat):Nat:=i b+(E.map λe=>if e.2=b/\e.1<A then c e.1 else 0).sum+((E.take j).map λe=>if e.2=b/\e.1=A then c A else 0).sum
theorem UC {f g:Nat×Nat->Nat}:∀{E:List (Nat×Nat)},(∀e∈E,f e=g e)->(E.map f).sum=(E.map g).sum:=λh=>by rw[List.map_congr_left h]
theorem ae9 {f g:Nat×Nat->Nat}:∀{E:List (Nat×Nat)},(E.map f).sum+(E.map g).sum=(E.map λe=>f e+g e).sum
 | []=>rfl
 |e::E=>by
  have :=ae9 (f:=f) (g:=g) (E:=E);simp only[List.map_cons,List.sum_cons];omega
section
variable {E:List (Nat×Nat)}{c i:Nat->Nat}{A j b:Nat}
theorem ahK:nP E c i 0 0 b=i b:=by
 have :(E.map λe=>if e.2=b/\e.1<0 then c e.1 else 0).sum=0:=by
  rw[UC (g:=λ_=>0) λe _=>bH λh=>by omega];exact ZZ E
 unfold nP;rw[this];rfl
theorem YJ:nP E c i A E.length b=nP E c i (A+1) 0 b:=by
 unfold nP;rw[List.take_length,List.take_zero,Nat.add_assoc,ae9,UC (g:=λe=>if e.2=b/\e.1<A+1 then c e.1 else 0)]
 .rfl
 .intro e _
  by_cases h:e.2=b
  .by_cases a:e.1=A
   .rw[bH ai,bh ⟨h,a⟩,bh ai,a,Nat.zero_add]
   .rw[bH (show¬(e.2=b/\e.1=A) by omega)]
    by_cases d:e.1<A
    .rw[bh ⟨h,d⟩,bh ai,Nat.add_zero]
    .rw[bH ai,bH ai]
  .rw[bH (λx=>h x.1),bH (λx=>h x.1),bH (λx=>h x.1)]
theorem Tp (h:j<E.length):nP E c i A (j+1) b=nP E c i A j b+if E[j].2=b/\E[j].1=A then c A else 0:=by
 unfold nP;rw[List.take_succ_eq_append_getElem h,List.map_append,List.sum_append];simp only[List.map_cons,List.map_nil,List.sum_cons,List.sum_nil];omega
variable (hc:∀b,c b=i b+(E.map λe=>if e.2=b then c e.1 else 0).sum)(hE:∀e∈E,e.1<e.2/\e.2<12)
include hc hE
theorem ado:nP E c i A j A=c A:=by
 have d:((E.take j).map λe=>if e.2=A/\e.1=A then c A else 0).sum=0:=by
  rw[UC (g:=λ_=>0) λe a=>bH λh=>by have :=hE e (List.mem_of_mem_take a);omega];exact ZZ _
 have b:(E.map λe=>if e.2=A/\e.1<A then c e.1 else 0).sum=(E.map λe=>if e.2=A then c e.1 else 0).sum:=UC λe a=>by
  by_cases h:e.2=A
  .rw[bh ⟨h,by have :=hE e a;omega⟩,bh h]
  .rw[bH (λx=>h x.1),bH h]
 unfold nP;rw[d,b,hc A];rfl
theorem YK:nP E c i 12 0 b=c b:=by
 have d:(E.map λe=>if e.2=b/\e.1<12 then c e.1 else 0).sum=(E.map λe=>if e.2=b then c e.1 else 0).sum:=UC λe a=>by
  by_cases h:e.2=b
  .rw[bh ⟨h,by have :=hE e a;omega⟩,bh h]
  .rw[bH (λx=>h x.1),bH h]
 unfold nP;rw[d,hc b];rfl
end
theorem HR {E:List (Nat×Nat)}{f:List Nat}(a:∀e∈E,e.1<e.2/\e.2<12)(h:∀x∈f,x<12)(b:Nat):(iw E 12 f).count b=f.count b+(E.map λe=>if e.2=b then(iw E 12 f).count e.1 else 0).sum:=by
 rw[<-O9];have :=congrArg (List.count b) (Rn a h);rw[List.count_append]at this;exact this
theorem JR {E:List (Nat×Nat)}(b:∀e∈E,e.1<e.2/\e.2<12):∀{k:Nat}{f:List Nat},(∀x∈f,x<12)->∀x∈iw E k f,x<12
 |0,_,_=>λx a=>by cases a
 |k+1,f,h=>λx a=>by
  rcases List.mem_append.1 a with a|a
  .exact h x a
  .exact JR b (λy c=>by obtain⟨n,_,d⟩:=z6.1 c;exact(b _ d).2) x a
theorem vY:∀{l:List Nat},(∀x∈l,x<12)->((List.range 12).map λb=>l.count b).sum=l.length
 | [],_=>rfl
 |x::l,h=>by
  have d:=vY (l:=l) λy a=>h y (List.mem_cons_of_mem _ a)
  have f:=h x List.mem_cons_self;have e:∀b,(x::l).count b=l.count b+if x=b then 1 else 0:=λb=>by rw[List.count_cons];simp
  simp only[e];have :∀L:List Nat,(L.map λb=>l.count b+if x=b then 1 else 0).sum=(L.map λb=>l.count b).sum+L.count x:=by
   intro L
   induction L with
   |nil=>rfl
   |cons y L c=>
    simp only[List.map_cons,List.sum_cons,c,List.count_cons]
    by_cases a:x=y
    .simp[a];omega
    .rw[bH a,bH (by simpa using λh=>a h.symm)];omega
  rw[this,d,List.length_cons];have :(List.range 12).count x=1:=by
   obtain rfl|rfl|rfl|rfl|rfl|rfl|rfl|rfl|rfl|rfl|rfl|rfl:x=0\/x=1\/x=2\/x=3\/x=4\/x=5\/x=6\/x=7\/x=8\/x=9\/x=10\/x=11:=ai
   all_goals rfl
  rw[this]
theorem apd (a:Int):Sk [0,a,0,0]=a:=by
 unfold Sk;simp only[ne_eq,not_true_eq_false,if_false];unfold Sk
 split
 .rfl
 .rename_i h;have h:a=0:=by simpa using h
  rw[h];rfl
theorem adp (a b:Nat):oP (gk a) (gk b)=pE a b:=by
 have e:oP (gk a) (gk b)=Sk [0,pE a b,0,0]:=aM;rw[e,apd]
theorem aqV (a b:Nat):pE a b=0↔a=b:=by
 unfold pE
 split
 .exact⟨λh=>(by cases h),λh=>by omega⟩
 .split
  .exact⟨λh=>(by cases h),λh=>by omega⟩
  .exact⟨λ_=>by omega,λ_=>rfl⟩
theorem ah5 (a b:Nat):JO (gk a) (gk b)=lr (decide (a=b)):=by
 show lr (rk (oP (gk a) (gk b)) 0)=_
 rw[adp,my,decide_eq_decide.2 (aqV a b)]
theorem Ut (p:Bool):(lr p).beq (lr U)=p:=by cases p<;>rfl
section
variable {cv:Nat->Int->Int->V}{x y:X}{u v:V}
theorem agn {op:Int}(b:sA cv x=(u,0))(a:sA cv y=(v,0)):sA cv (.bin op x y)=(JO u v,0):=by
 show(JO _ _,0)=_
 rw[b,a]
end
theorem Lx {α:Type}{st:Nat->List α}{x:α}:∀(n i:Nat) (acc:List α),x∈gI st n i acc↔x∈acc\/∃k,i<=k/\k<i+n/\x∈st k
 |0,i,acc=>⟨.inl,λh=>h.elim id λ⟨k,c,b,_⟩=>by omega⟩
 |n+1,i,acc=>by
  unfold gI;rw[Lx n (i+1),List.mem_append]
  constructor
  .rintro((h|h)|⟨k,c,b,a⟩)
   .exact .inl h
   .exact .inr ⟨i,ai,ai,h⟩
   .exact .inr ⟨k,ai,ai,a⟩
  .rintro(h|⟨k,c,b,a⟩)
   .exact .inl (.inl h)
   .by_cases d:k=i
    .exact .inl (.inr (d▸a))
    .exact .inr ⟨k,ai,ai,a⟩
def F6 (i j:Nat):List Nat:=(cU.set 0 i).set 1 j
section
variable {T:Nat->Option (List (List V))}{p0 p1 p:Nat}{R0 R1 R:List (List V)}{on wh:Option X}{it:X}
theorem JF {i j c:Nat}{u:V}{row:List V}(h:T p=Z R)(hi:R[i]?=Z row)(a:row[c]?=Z u):nN T (F6 i j) p 0 c=u:=by
 unfold nN;rw[h];simp only[];rw[bh ⟨ai,ai⟩]
 show(match Z i with |none=>xj|some x=>_)=u
 simp only[hi]
 show(match row[c]? with |none=>xj|some u=>u)=u
 rw[a]
theorem O7 {i j c:Nat}{u:V}{row:List V}(h:T p=Z R)(a:R[j]?=Z row)(b:row[c]?=Z u):nN T (F6 i j) p 1 c=u:=by
 unfold nN;rw[h];simp only[];rw[bh ⟨ai,ai⟩]
 show(match Z j with |none=>xj|some x=>_)=u
 simp only[a]
 show(match row[c]? with |none=>xj|some u=>u)=u
 rw[b]
theorem aea (h:T p0=Z R0):gI (Cy T Y [cU] 0 R0.length) (1*R0.length) 0 []=(List.range R0.length).map λk=>cU.set 0 k:=by
 have :=Hm (p:=p0) h;unfold dM dM at this;rw[h]at this;exact this
theorem Xg (a:T p0=Z R0)(b:T p1=Z R1):dM T [(p0,Y),(p1,on)] 0 [cU]=gI (Cy T on ((List.range R0.length).map λk=>cU.set 0 k) 1 R1.length) (R0.length*R1.length) 0 []:=by
 unfold dM dM dM;rw[a,b];simp only[Option.getD_some,List.length_singleton];rw[aea a];simp
theorem ah7 {k:Nat}(a:k<R0.length*R1.length):Cy T on ((List.range R0.length).map λk=>cU.set 0 k) 1 R1.length k=if Zl T on (F6 (k / R1.length) (k%R1.length))=U then[F6 (k / R1.length) (k%R1.length)]else[]:=by
 have h:k / R1.length<R0.length:=Nat.div_lt_of_lt_mul (by rw[Nat.mul_comm];exact a);unfold Cy;rw[getElem!_pos _ _ (by simpa using h)];simp only[List.getElem_map,List.getElem_range];rfl
theorem SA (l:T p0=Z R0)(g:T p1=Z R1){r:List Nat}:r∈dM T [(p0,Y),(p1,on)] 0 [cU]↔∃i j,i<R0.length/\j<R1.length/\r=F6 i j/\Zl T on (F6 i j)=U:=by
 rw[Xg l g,Lx]
 constructor
 .rintro(h|⟨k,_,a,h⟩)
  .cases h
  .rw[Nat.zero_add]at a;rw[ah7 a]at h;have b:0<R1.length:=Nat.pos_of_ne_zero λe=>by rw[e,Nat.mul_zero]at a;omega
   split at h
   .rename_i c;exact⟨_,_,Nat.div_lt_of_lt_mul (by rw[Nat.mul_comm];exact a),Nat.mod_lt _ b,List.mem_singleton.1 h,c⟩
   .cases h
 .rintro⟨i,j,f,d,rfl,c⟩;have a:i*R1.length+j<R0.length*R1.length:=by
   calc i*R1.length+j<i*R1.length+R1.length:=ai
    _=(i+1)*R1.length:=by rw[Nat.add_mul,Nat.one_mul]
    _<=R0.length*R1.length:=Nat.mul_le_mul_right _ f
  refine .inr ⟨i*R1.length+j,Nat.zero_le _,ai,?_⟩;have b:0<R1.length:=ai;have n:(i*R1.length+j) / R1.length=i:=by rw[Nat.mul_comm,Nat.mul_add_div b,Nat.div_eq_of_lt d];rfl
  have m:(i*R1.length+j)%R1.length=j:=by rw[Nat.mul_comm,Nat.mul_add_mod,Nat.mod_eq_of_lt d]
  rw[ah7 a,n,m,bh c];exact .head _
theorem acv {a:Nat->Int->Int->V}(h:(sA a it).2=0):nU a [it] []=([(sA a it).1],0):=by
 unfold nU;rw[bH (by rw[h];simp)];rfl
end
def ir (n:Nat):List V:=[gk n]
section
variable {T:Nat->Option (List (List V))}{pr pg:Nat}{fs:List Nat}{es:List (Nat×Nat)}
theorem cvF (d:T pr=Z (fs.map ir))(a:T pg=Z (es.map gH)){i j:Nat}(hi:i<fs.length)(f:j<es.length):
  (nN T (F6 i j) pr 0 0=gk fs[i]/\nN T (F6 i j) pg 1 0=gk es[j].1/\nN T (F6 i j) pg 1 1=gk es[j].2)/\
  nN T (F6 j i) pr 1 0=gk fs[i]/\nN T (F6 j i) pg 0 0=gk es[j].1/\nN T (F6 j i) pg 0 1=gk es[j].2:=by
 have e:(fs.map ir)[i]?=Z (ir fs[i]):=by rw[List.getElem?_map,List.getElem?_eq_getElem hi];rfl
 have b:(es.map gH)[j]?=Z (gH es[j]):=by rw[List.getElem?_map,List.getElem?_eq_getElem f];rfl
 exact⟨⟨JF (c:=0) d e rfl,O7 (c:=0) a b rfl,O7 (c:=1) a b rfl⟩,O7 (c:=0) d e rfl,JF (c:=0) a b rfl,JF (c:=1) a b rfl⟩
theorem agb {on:X}{r:List Nat}{b:Bool}(h:sA (nN T r) on=(lr b,0)):Zl T (Z on) r=b:=by
 show(sA (nN T r) on).1.beq (lr U)=b
 rw[h];exact Ut b
end
def wP (pr pg:Nat):ru:=([(pr,Y),(pg,Z (.bin 11 (.r7 pg 1 0) (.r7 pr 0 0)))],Y,[.r7 pg 1 1])
theorem G5 {α:Type}{st:Nat->List α}:∀(n:Nat),gI st n 0 []=(List.range n).flatMap st
 |0=>rfl
 |n+1=>by
  rw[DT n 1,G5 n,List.range_succ,List.flatMap_append,Nat.zero_add]
  show _++st n=_
  simp
theorem xV {α a:Type}{f g:α->List a}:∀{l:List α},(∀x∈l,f x=g x)->l.flatMap f=l.flatMap g
 | [],_=>rfl
 |x::l,h=>by rw[List.flatMap_cons,List.flatMap_cons,h x List.mem_cons_self,xV λy b=>h y (List.mem_cons_of_mem _ b)]
theorem DL {α:Type}{h:Nat->Nat->List α}{m:Nat}:∀(a:Nat),((List.range (a*m)).flatMap λk=>h (k / m) (k%m))=(List.range a).flatMap λi=>(List.range m).flatMap λj=>h i j
 |0=>by rw[Nat.zero_mul];rfl
 |a+1=>by
  rw[Nat.add_mul,Nat.one_mul,List.range_add,List.flatMap_append,DL a,List.range_succ,List.flatMap_append]
  congr 1
  simp only[List.flatMap_cons,List.flatMap_nil,List.append_nil,List.flatMap_map];refine xV λj b=>?_
  have b:=List.mem_range.1 b;rw[Nat.mul_comm a m,Nat.mul_add_div ai,Nat.div_eq_of_lt b,Nat.mul_add_mod,Nat.mod_eq_of_lt b,Nat.add_zero]
theorem ER {α a:Type}{g:α->List a}{f:Nat->List a}:∀{l:List α},(∀i (h:i<l.length),f i=g l[i])->(List.range l.length).flatMap f=l.flatMap g
 | [],_=>rfl
 |x::l,h=>by
  rw[List.length_cons,List.range_succ_eq_map,List.flatMap_cons,List.flatMap_map,List.flatMap_cons,h 0 (Nat.zero_lt_succ _)]
  congr 1
  exact ER λi b=>h (i+1) (Nat.succ_lt_succ b)
section
variable {T:Nat->Option (List (List V))}{pr pg:Nat}{fs:List Nat}{es:List (Nat×Nat)}
theorem onP (a:T pr=Z (fs.map ir))(c:T pg=Z (es.map gH)){i j:Nat}(hi:i<fs.length)(b:j<es.length):sA (nN T (F6 i j)) (.bin 11 (.r7 pg 1 0) (.r7 pr 0 0))=(lr (decide (es[j].1=fs[i])),0):=by
 obtain⟨⟨e,d,f⟩,_⟩:=cvF a c hi b;rw[agn (u:=gk es[j].1) (v:=gk fs[i]) (by unfold sA;rw[d]) (by unfold sA;rw[e]),ah5]
theorem agH (a:T pr=Z (fs.map ir))(c:T pg=Z (es.map gH)):dM T (wP pr pg).1 0 [cU]=(List.range fs.length).flatMap λi=>(List.range es.length).flatMap λj=>if Zl T (Z (.bin 11 (.r7 pg 1 0) (.r7 pr 0 0))) (F6 i j)=U then[F6 i j]else[]:=by
 show dM T [(pr,Y),(pg,Z (.bin 11 (.r7 pg 1 0) (.r7 pr 0 0)))] 0 [cU]=_
 rw[Xg a c,G5,List.length_map,List.length_map,<-DL (h:=λi j=>if Zl T (Z (.bin 11 (.r7 pg 1 0) (.r7 pr 0 0))) (F6 i j)=U then[F6 i j]else[])];refine xV λk b=>?_
 have :=ah7 (T:=T) (on:=Z (.bin 11 (.r7 pg 1 0) (.r7 pr 0 0))) (R0:=fs.map ir) (R1:=es.map gH) (k:=k) (by rw[List.length_map,List.length_map];exact List.mem_range.1 b);rw[List.length_map,List.length_map]at this;exact this
theorem adP (b:T pr=Z (fs.map ir))(a:T pg=Z (es.map gH)):eX T (wP pr pg)=(dC es fs).map ir:=by
 have k:eX T (wP pr pg)=(dM T (wP pr pg).1 0 [cU]).map λr=>[nN T r pg 1 1]:=by
  unfold eX uI;rw[show fu T (wP pr pg).2.1 (dM T (wP pr pg).1 0 [cU])=dM T (wP pr pg).1 0 [cU]from rfl];exact(vi (f:=λr=>[nN T r pg 1 1]) _ 0 [] ai).trans (by rw[List.nil_append];rfl)
 rw[k,agH b a,List.map_flatMap];unfold dC;rw[List.map_flatMap];refine ER λi c=>?_
 rw[List.map_flatMap];refine(ER (g:=λe=>if e.1=fs[i]then[ir e.2]else[]) λj d=>?_).trans ?_
 .rw[agb (onP b a c d)];obtain⟨⟨_,_,m⟩,_⟩:=cvF b a c d
  by_cases h:es[j].1=fs[i]
  .rw[bh (by simpa using h),bh h]
   show[[nN T (F6 i j) pg 1 1]]=_
   rw[m];rfl
  .rw[bH (by simpa using h),bH h];rfl
 .generalize fs[i]=n;clear k a c
  induction es with
  |nil=>rfl
  |cons e es l=>
   rw[List.flatMap_cons,l,List.filter_cons]
   by_cases h:e.1=n
   .rw[bh h,bh (by simpa using h)];rfl
   .rw[bH h,bH (by simpa using h)];rfl
theorem GW:∀{fs:List Nat},(dC es fs).length<=fs.length*es.length
 | []=>Nat.zero_le _
 |n::fs=>by
  have h:=GW (fs:=fs);have a:dC es (n::fs)=(es.filter λe=>e.1==n).map (·.2)++dC es fs:=rfl;have b:(es.filter λe=>e.1==n).length<=es.length:=List.length_filter_le ..;rw[a,List.length_append,List.length_map,List.length_cons,Nat.add_mul,Nat.one_mul];omega
theorem En (a:T pr=Z (fs.map ir))(b:T pg=Z (es.map gH)):(dM T (wP pr pg).1 0 [cU]).length=(dC es fs).length:=by
 have h:=congrArg List.length (adP a b);rw[List.length_map]at h;rw[<-h];have e:eX T (wP pr pg)=[]++((dM T (wP pr pg).1 0 [cU]).drop 0).map λr=>(nU (nN T r) (wP pr pg).2.2 []).1:=vi (f:=λr=>(nU (nN T r) (wP pr pg).2.2 []).1) (l:=dM T (wP pr pg).1 0 [cU]) _ 0 [] (Nat.zero_add _)
 rw[e,List.nil_append,List.drop_zero,List.length_map]
theorem aiW (b:T pr=Z (fs.map ir))(c:T pg=Z (es.map gH))(v:fs.length<=1000)(u:es.length<=1000):MS T (wP pr pg) (if fs.length*es.length<=20000 then 0 else 9):=by
 have m:(fs.map ir).length=fs.length:=List.length_map ..;have d:(es.map gH).length=es.length:=List.length_map ..;have y:fs.length*es.length<=1000*1000:=Nat.mul_le_mul v u;have f:gI (Cy T Y [cU] 0 (fs.map ir).length) (1*(fs.map ir).length) 0 []=(List.range fs.length).map λk=>cU.set 0 k:=by rw[aea b,m]
 have w:∀{r:List Nat},r∈dM T (wP pr pg).1 0 [cU]->∃i j,∃(_:i<fs.length) (_:j<es.length),r=F6 i j:=λh=>by
  obtain⟨i,j,a,g,e,_⟩:=(SA b c).1 h;exact⟨i,j,by rw[m]at a;exact a,by rw[d]at g;exact g,e⟩
 refine⟨af rfl,BG b (by rw[m,List.length_singleton];omega) (λ_ _ _ _=>trivial) ⟨_,c,?_,λh=>⟨λr l k n=>?_,?_⟩,λh=>?_⟩,λh=>?_,af rfl⟩
 .rw[List.length_singleton,f,List.length_map,List.length_range,d];omega
 .rw[List.length_singleton,f]at l;obtain⟨i,a,rfl⟩:=List.mem_map.1 l;have a:=List.mem_range.1 a;rw[d]at n;obtain⟨⟨q,p,o⟩,_⟩:=cvF b c a n;exact⟨⟨rfl,by show oz (nN T (F6 i k) _ _ _);rw[p];exact mj _,by show oz (nN T (F6 i k) _ _ _);rw[q];exact mj _⟩,congrArg Prod.snd (onP b c a n)⟩
 .rw[List.length_singleton,f,List.length_map,List.length_range,d]at h;exact bh h
 .rw[List.length_singleton,f,List.length_map,List.length_range,d]at h;exact bH ai
 .have t:fs.length*es.length<=20000:=Nat.le_of_not_lt λz=>by rw[bH ai]at h;cases h
  refine⟨by rw[En b c];have :=GW (es:=es) (fs:=fs);omega,rfl,λ_ r l=>?_⟩;obtain⟨i,j,a,g,rfl⟩:=w l;obtain⟨⟨q,p,o⟩,_⟩:=cvF b c a g;exact⟨λx s=>by rw[List.mem_singleton.1 s];show oz _;rw[o];exact mj _,rfl⟩
theorem arA (a:T pr=Z (fs.map ir))(b:T pg=Z (es.map gH)):qN T (wP pr pg) (if fs.length*es.length<=20000 then 0 else 9)↔20000<fs.length*es.length\/1000<(dC es fs).length:=by
 unfold qN;rw[show fu T (wP pr pg).2.1 (dM T (wP pr pg).1 0 [cU])=dM T (wP pr pg).1 0 [cU]from rfl,En a b]
 by_cases h:fs.length*es.length<=20000
 .rw[bh h];omega
 .rw[bH h];omega
end
theorem MS.ok{Tb:Nat->Option (List (List V))}{s:ru}(h:MS Tb s 0)(e:¬qN Tb s 0):pF Tb s:=by
 obtain⟨d,c,b⟩:=h.rest rfl;have a:(fu Tb s.2.1 (dM Tb s.1 0 [cU])).length<=1000:=Nat.le_of_not_lt λh=>e (.inr ⟨rfl,h⟩)
 exact⟨h.src,h.join,d,c,a,b a,h.il⟩
theorem Lt (all:List (List V)):∀made a:List (List V),made.foldl (Kn U all) a=a++made
 | [],a=>(List.append_nil _).symm
 |x::made,a=>by
  rw[List.foldl_cons,Lt all made]
  show(a++[x])++made=_
  rw[List.append_assoc];rfl
theorem MO {E:List (Nat×Nat)}:∀k,iw E k []=[]
 |0=>rfl
 |k+1=>by show[]++iw E k []=[];rw[MO k];rfl
theorem aoq {es:List (Nat×Nat)}(D:∀e∈es,e.1<e.2/\e.2<12)(F:es.length<=1000):
  ∀(n k:Nat) (f all:List Nat),k+n<=200->(∀x∈f,12<=x+n/\x<12)->f.length<=all.length->all.length<=1000->
   ∃g,((g=0/\(all++iw es n (dC es f)).length<=1000)\/(g=9/\(1000<(all++iw es n (dC es f)).length\/20000<(all++iw es n (dC es f)).length*es.length)))/\
    ∀(b:Nat->Option (List (List V))) (a pg:Nat),b pg=Z (es.map gH)->pg≠a->Rt (λf=>rC a f b) U (wP a pg) k (f.map ir) (all.map ir) (if g=0 then(all++iw es n (dC es f)).map ir else[]) g:=by
 intro n
 induction n with
 |zero=>
  intro k f all _ s _ r;have :f=[]:=List.eq_nil_iff_forall_not_mem.2 λx o=>by have :=s x o;omega
  subst this;have e:all++iw es 0 (dC es [])=all:=by rw[show iw es 0 (dC es [])=[]from rfl,List.append_nil]
  exact⟨0,.inl ⟨rfl,by rw[e];exact r⟩,λb a pg _ _=>by rw[e];exact .done⟩
 |succ n A=>
  intro k f all H s J r
  by_cases w:f=[]
  .subst w;have e:all++iw es (n+1) (dC es [])=all:=by rw[show dC es []=[]from rfl,MO,List.append_nil]
   exact⟨0,.inl ⟨rfl,by rw[e];exact r⟩,λb a pg _ _=>by rw[e];exact .done⟩
  have i:f.map ir≠[]:=by simpa using w
  have t:all++iw es (n+1) (dC es f)=(all++dC es f)++iw es n (dC es (dC es f)):=by
   show all++(dC es f++_)=_
   rw[List.append_assoc]
  rw[t];have z:∀{b:Nat->Option (List (List V))} {a pg:Nat},b pg=Z (es.map gH)->pg≠a->MS (rC a (f.map ir) b) (wP a pg) (if f.length*es.length<=20000 then 0 else 9)/\(qN (rC a (f.map ir) b) (wP a pg) (if f.length*es.length<=20000 then 0 else 9)↔20000<f.length*es.length\/1000<(dC es f).length)/\
    jH U (all.map ir) (eX (rC a (f.map ir) b) (wP a pg))=(dC es f).map ir:=λ{b a pg} d c=>by
   have p:rC a (f.map ir) b a=Z (f.map ir):=bh rfl;have v:rC a (f.map ir) b pg=Z (es.map gH):=(bH c).trans d;exact⟨aiW p v ai F,arA p v,by rw[adP p v];exact Lt _ _ _⟩
  have hlen:(all.map ir++(dC es f).map ir).length=all.length+(dC es f).length:=by rw[List.length_append,List.length_map,List.length_map]
  by_cases u:20000<f.length*es.length\/1000<(dC es f).length\/1000<all.length+(dC es f).length
  .refine⟨9,.inr ⟨rfl,?_⟩,λb a pg d c=>?_⟩
   .simp only[List.length_append];rcases u with h|h|h
    .right
     exact aZ h (Nat.mul_le_mul_right _ ai)
    .left;omega
    .left;omega
   .obtain⟨m,j,l⟩:=z d c;refine .fail i ai m ?_;rcases u with h|h|h
    .exact .inl (j.2 (.inl h))
    .exact .inl (j.2 (.inr h))
    .exact .inr (by rw[l,hlen];exact h)
  .have q:f.length*es.length<=20000:=ai;obtain⟨g,G,C⟩:=A (k+1) (dC es f) (all++dC es f) ai (λx o=>by
    obtain⟨y,B,E⟩:=z6.1 o;have :=s y B;have :=D _ E;exact⟨ai,this.2⟩) (by rw[List.length_append];omega) (by rw[List.length_append];omega)
   refine⟨g,G,λb a pg d c=>?_⟩;obtain⟨m,j,l⟩:=z d c;rw[bh q]at m j;refine .step i ai (m.ok λh=>u (by have :=j.1 h;omega)) (by rw[l,hlen];omega) ?_;rw[l,<-List.map_append];exact C b a pg d c
theorem ab8 {a b:Nat}(h:a<=b):cB (ir a) (ir b)<=0:=by
 rcases Nat.eq_or_lt_of_le h with rfl|h
 .exact Int.le_of_eq (jR.2 rfl)
 .have d:pE (gk a).n (gk b).n= -1:=by
   have :(gk a).n<(gk b).n:=by show(a:Int)<b;omega
   unfold pE;rw[bh this]
  have e:pE (gk a).k (gk b).k=0:=rfl;have c:oP (gk a) (gk b)= -1:=by
   unfold oP;rw[e,d];rfl
  show(if oP (gk a) (gk b)≠0 then oP (gk a) (gk b)else _)<=0
  rw[c];decide
section
variable {T:Nat->Option (List (List V))}{p:Nat}{fs:List Nat}
theorem UN (h:T p=Z (fs.map ir))(m:fs.length<=1000):pF T ([(p,Y)],Y,[.r7 p 0 0])/\eX T ([(p,Y)],Y,[.r7 p 0 0])=fs.map ir:=by
 have a:=Hm (p:=p) h;rw[List.length_map]at a;have e:∀{k:Nat} (d:k<fs.length),nN T (cU.set 0 k) p 0 0=gk fs[k]:=λ{k} d=>by
  have l:(fs.map ir)[k]?=Z (ir fs[k]):=by rw[List.getElem?_map,List.getElem?_eq_getElem d];rfl
  exact JF (i:=k) (j:=0) (c:=0) h l rfl
 refine⟨⟨af rfl,BG h ?_ (λ_ _ _ _=>trivial) rfl,?_,rfl,?_,λr b=>?_,af rfl⟩,?_⟩
 .simp only[List.length_singleton,List.length_map];omega
 .rw[a];simp;omega
 .unfold fu;rw[a];simp;omega
 .unfold fu at b;simp only[]at b;rw[a]at b;obtain⟨k,d,rfl⟩:=List.mem_map.1 b;exact⟨λx f=>by rw[List.mem_singleton.1 f];show oz _;rw[e (List.mem_range.1 d)];exact mj _,by rw[acv rfl]⟩
 .unfold eX fu;rw[LN,a,List.map_map];refine List.ext_getElem dA λk n g=>?_
  simp only[List.getElem_map,List.getElem_range,Function.comp];rw[acv rfl]
  show[nN T (cU.set 0 k) p 0 0]=_
  rw[e (by simpa using g)];rfl
theorem UL (s:Nat):pF T ([],Y,[.lit (gk s)])/\eX T ([],Y,[.lit (gk s)])=[ir s]:=by
 refine⟨⟨af rfl,rfl,af rfl,rfl,af rfl,λr b=>⟨λx a=>by rw[List.mem_singleton.1 a];exact mj _,by rw[acv rfl]⟩,af rfl⟩,?_⟩;unfold eX fu dM;rw[LN,List.map_cons,List.map_nil,acv rfl];rfl
end
noncomputable def af7(l:List Nat):List (List V):=GY (l.map ir)
theorem afK {K:fE}{i j pg n:Nat}{es:List (Nat×Nat)}(hi:i<12)(G:j<12)(P:es.length<=60)(y:∀e∈es,e.1<e.2/\e.2<12)(N:pg<n):
  ∃k,((k=0/\(iw es 12 [i,j]).length<=1000)\/(k=9/\(1000<(iw es 12 [i,j]).length\/20000<(iw es 12 [i,j]).length*es.length)))/\
   ait K (tbG pg (es.map gH)) n k (λa=>a 1002=pg) (pCq i j) (af7 (iw es 12 [i,j])):=by
 have w:∀x∈[i,j],x<12:=λx f=>by
  rcases aN.1 f with rfl|f
  .exact hi
  .rw[List.mem_singleton.1 f];exact G
 obtain⟨k,t,H⟩:=aoq y ai 12 1 [i,j] [i,j] eJ (λx f=>⟨ai,w x f⟩) (aj _) (by show 2<=1000;decide);have z:[i,j]++iw es 12 (dC es [i,j])=iw es 12 [i,j]:=by rw[<-AX];exact(Rn y w).symm
 rw[z]at t;refine⟨k,t,λa C p=>?_⟩;have W:a 1148≠a 1202:=λe=>absurd ((p 1148 eJ).2 1202 eJ e) eJ
 have S:=(p 1148 eJ).1;have Q:=(p 1202 eJ).1;obtain⟨m,l⟩:∃T,T=tbG pg (es.map gH):=⟨_,rfl⟩;have s:m pg=Z (es.map gH):=by rw[l];exact bh rfl
 obtain⟨d,g⟩:∃T,T=rC (a 1148) ([i,j].map ir) m:=⟨_,rfl⟩;have L:d (a 1148)=Z ([i,j].map ir):=by rw[g];exact bh rfl
 have r:d pg=Z (es.map gH):=by rw[g];unfold rC;rw[bH ai];exact s
 have o:=H d (a 1202) pg r ai;rw[z]at o;obtain⟨A,J⟩:=UN (T:=d) L (by show 2<=1000;decide);obtain⟨E,q⟩:=UL (T:=m) i;obtain⟨D,v⟩:=UL (T:=m) j;have c:jH U [] (eX d ([(a 1148,Y)],Y,[.r7 (a 1148) 0 0]))=[i,j].map ir:=by rw[J];rfl
 have B:(tR.iX a (pCq i j)).parts.map GG=[(a 1148,O,(([],Y,[.lit (gk i)]),[(U,([],Y,[.lit (gk j)]))])),(a 1202,U,(([(a 1148,Y)],Y,[.r7 (a 1148) 0 0]),[(U,wP (a 1202) (a 1002))]))]:=rfl;have M:Dc (yJ.iX a (pCq i j).b.first)=([(a 1202,Y)],Y,[.r7 (a 1202) 0 0]):=rfl;rw[C]at B;rw[<-l,B,M];have u:∀{T':Nat->Option (List (List V))},kU d [(a 1202,U,(([(a 1148,Y)],Y,[.r7 (a 1148) 0 0]),[(U,wP (a 1202) pg)]))] T' k->kU m [(a 1148,O,(([],Y,[.lit (gk i)]),[(U,([],Y,[.lit (gk j)]))])),(a 1202,U,(([(a 1148,Y)],Y,[.r7 (a 1148) 0 0]),[(U,wP (a 1202) pg)]))] T' k:=λh=>
  .one E (by rw[q];simp) (R:=[i,j].map ir) ⟨rfl,D,by rw[q,v];exact af rfl,by rw[q,v];rfl⟩ (af rfl) (g▸h)
 rcases t with⟨rfl,hlen⟩|⟨rfl,_⟩
 .rw[bh rfl]at o;have F:rC (a 1202) ((iw es 12 [i,j]).map ir) d (a 1202)=Z ((iw es 12 [i,j]).map ir):=bh rfl;obtain⟨d1,d2⟩:=UN F hlen;refine⟨_,u (.rnd A rfl (by rw[c];show 2<=1000;decide) (by rw[c];exact o) .nil),λ_=>⟨d1,?_,?_,?_⟩⟩
  .rw[d2];refine⟨λe=>?_,by rw[List.length_map];omega,λx f=>?_⟩
   .have :=List.map_eq_nil_iff.1 e;cases this
   .obtain⟨b,_,rfl⟩:=List.mem_map.1 f;exact(by decide:1<99999)
  .rw[d2];rfl
  .rw[d2];exact UQ (by rw[List.length_map];omega)
 .rw[bH eJ]at o;exact⟨d,u (.err A rfl (by rw[c];show 2<=1000;decide) (by rw[c];exact o) eJ),λh=>by cases h⟩
theorem aoL (p o:Nat)(d:Bool)(e f:Nat)(g:Option Addr)(a b w u n m l k j i:ab)(fH h c q:Nat):Path 40 [vP p 0,.agg #[.bool d,.slice g e f,a,b,w,u]]
 [jF [Z (.bool d),Z (.slice g e f),Z a,Z b,Z w,Z u] fH,
  jF [Z ei,Z ei,Z ei,Z (I 0)] h,
  .mem (aI p 2) (.map (Z o)),
  vT 6 fH (.agg #[.bool d,.slice g e f,a,b,w,u]),
  jF [Z ei,Z ei,Z ei,Z .nilIface,Z ei,Z ei] c,
  .mem (iW (vP c 0)) (I q),
  fQ,
  .call 75 [.map (Z o),.agg #[.bool d,.slice g e f,a,b,w,u]] (.tuple #[.agg #[n,m,l,k,j,i],I 3]),
  .mem (dH (I q) (vP c 0) (oJ (vP c 0))) undef,
  fQ,
  rJ c 0 [n,m,l,k,j,i],
  yp,
  rJ h 0 [ei,ei,ei,I 0],
  TQ 31 h (.agg #[ei,ei,ei,I 0])]
 (.tuple #[.agg #[ei,ei,ei,I 0],I 3]):=lF
section
variable {K:fE}{m:Mem}{db mp:Nat}{G:(Nat->Nat)->Prop}
theorem aq2 (c:∀a d,Calm a->Gl a->Kp m a (λy=>y=db)->rz d Gc.A a->m.next<d->d<=a.next->adB K Gc mp d G a)(fe:List FI)(res:List (List V)):C40 K Gc db mp 3 fe res m:=by
 intro L d q v s u n l j k x0 x1 rest i E P S LX Zu r vw;have c:=c L d i E P S LX Zu;clear LX Zu S P
 revert i E r c
 generalize L=m;intro i E r c;have g:=i.gd;have EJ:=r.lt;obtain⟨b1,nK⟩:∃b,b=m.next:=⟨_,rfl⟩;obtain⟨m1,e1,J,k1,n1,_⟩:=bz g [.bool q,.slice v s u,n,l,j,k];obtain⟨F,nJ⟩:∃b,b=m1.next:=⟨_,rfl⟩;obtain⟨f,X,H,R,n2,_⟩:=bz (g.ext k1) [.slice Y 0 0,.slice Y 0 0,.slice Y 0 0,I 0];have z:=k1.aX R;have g2:=g.ext z;rw[<-nK]at e1 J;rw[<-nJ]at X H;have l1:aI db 2 f=Z (.map (Z mp),f):=aO (r.a9 z) rfl;have l2:fN 6 b1 0 f=Z (.agg #[.bool q,.slice v s u,n,l,j,k],f):=cL (vs:=[.bool q,.slice v s u,n,l,j,k]) (J.a9 R) rfl (af rfl);obtain⟨e,D⟩:∃b,b=f.next:=⟨_,rfl⟩;obtain⟨a,W,w,Q,n3,_⟩:=bz g2 [.slice Y 0 0,.slice Y 0 0,.slice Y 0 0,.nilIface,.slice Y 0 0,.slice Y 0 0];rw[<-D]at W w;have t:=z.aX Q;have g3:=g.ext t;obtain⟨π,M,T,h,-,-,-⟩:=c a t;rw[vw]at T;have n3':=t.next;have p:=t.aX h;have Mw:=i.ext p;have n4:=h.next;have c:dH (I ((a.blk e).bq:Int)) (vP e 0) (oJ (vP e 0)) M=Z (undef,M):=aeC (b:=e) g p ai rfl (NA h w.lt);obtain⟨m5,e5,o5,C⟩:=jW (o:=0) [.slice Y 0 0,.slice Y 0 0,.slice Y 0 0,.nilIface,.slice Y 0 0,.slice Y 0 0] (w.a9 h) ((g.own p ai).may _ _) (af rfl) rfl;have n5:=C.next;have CR:Kp m m5 eK:=p.new C (N:=m.next) (aj _) λb hb=>by omega
 have x:=(((H.a9 Q).a9 h).ext C (show¬F=e by omega));obtain⟨B,e7,o7,k7⟩:=jW (o:=0) [.slice Y 0 0,.slice Y 0 0,.slice Y 0 0,I 0] x ((g.own CR ai).may _ _) (af rfl) rfl;have eR:nY ae 31 (vP F 0) B=Z (.agg #[.slice Y 0 0,.slice Y 0 0,.slice Y 0 0,I 0],B):=ko o7 rfl oh.1 oh.2;exact⟨_,B,bg (aoL db mp q s u v n l j k _ _ _ _ _ _ b1 F e _)
  (.mem e1<|.mem X<|.mem l1<|.mem l2<|.mem W<|.mem (fM _ _)<|.mem (aJ g3)<|.call T<|.mem c<|.mem (aJ Mw.gd)<|.mem e5<|.cond rfl<|.mem e7<|.mem eR .nil),CR.new k7 (N:=m.next) (aj _) λb hb=>by omega,⟨iq,λ_=>rfl⟩⟩
end
theorem aoA (b a c:Nat)(d:Option Addr)(s t:ab):cV 17 0 3 [0,1] [.agg #[s,t,.slice d a c,I 0],I 0]
 [jF [Z s,Z t,Z (.slice d a c),Z (I 0)] b]
 .normal [1,2,6,7] [I 0,vP b 0,ei,I 0]:=cT
theorem aoB (b i a e c d f:Nat)(z:Int)(sv h g:ab):aY 17 [3] 0 99 [1,2,6,7] [I 0,vP b 0,sv,I i]
 (.mem (aI b 2) (vL c 0 a e)::bu (dx i a) U::.mem (aI b 2) (vL c 0 a e)::.idx i a i::.mem (aI c (0+i*1)) (vL d 0 1 f)::jT::jT::.mem (aI b 2) (vL c 0 a e)::jT::jT::.idx i a i::jT::.mem (aI c (0+i*1)) (vL d 0 1 f)::jT::.idx 0 1 0::jT::jT::.mem (aI d 0) (I 1)::(rp 3 (.bool O) O ([.mem (aI b 2) (vL c 0 a e),
  .idx i a i,
  .mem (aI c (0+i*1)) (vL d 0 1 f),
  .idx 0 1 0,
  .mem (aI d 1) (I z),
  .mem (bW ae 22 1 [(0,(I z))]) g,
  .mem (cJ ae #[22,22] sv g) h])))
 .normal [1,2,6,7] [I 0,vP b 0,h,I (bU i 1)]:=cT
theorem aoz (b i a c:Nat)(d:Option Addr)(sv:ab):aY 17 [3] 0 99 [1,2,6,7] [I 0,vP b 0,sv,I i]
 [.mem (aI b 2) (.slice d a c),
  bu (dx i a) O]
 (.exit 0) [1,6] [I 0,sv]:=cT
theorem aoC (sv:ab):cV 17 4 99 [1,6] [I 0,sv]
 []
 .ret [4,5] [sv,.bool U]:=cT
theorem aph:jJ 17 2 [4,5]=U:=aM
theorem Wl:(dq (bX 17)).length<=99:=af aM
theorem Wm:jz 17 [3]:=aM
def Ep (x:Int):List V:=[apr x]
section
variable {K:fE}{m:Mem}{Ba:Nat->Prop}
theorem c17 (g:Gd m){fe:List FI}{c:List Int}{v:ab}(ha:CA Ba fe (c.map Ep) 0 m v)(hl:c.length<9000):
  ∃m' d,Ev K 17 [v,I 0] m (.tuple #[d,.bool U]) m'/\Kp m m' eK/\(aW (jj I) 1).R (ik m m') c m' d:=by
 obtain⟨s,t,rv,rfl,a1,a2,BO,BE,W,_⟩:=ha;obtain⟨z,w,rfl⟩:=W.form;have J:(c.map Ep).length=c.length:=List.length_map _;obtain⟨o,T,G,k1,n1,_⟩:=bz g [s,t,.slice z (c.map Ep).length w,I 0];have n1':=k1.next;obtain⟨q,hq⟩:∃b,b=m.next:=⟨_,rfl⟩;rw[<-hq]at T G;have P:=W.ext k1 λ_ _ h=>h
 obtain⟨t0,w0,e0⟩:=aU (K:=K) (m:=m) (m':=o) (tm:=entry [.agg #[s,t,.slice z (c.map Ep).length w,I 0],I 0])
  (aoA q (c.map Ep).length w z s t) rfl (.mem T .nil)
 obtain⟨e,t1,H,he,wN,rfl,d,B,k2,i,p,u⟩:=eN (K:=K) (nt:=fp 17) (a:=cj 17 [3]) c.length
  (Inv:=λj tm M=>∃d,bj [1,2,6,7] tm=[I 0,vP q 0,d,I j]/\Kp o M eK/\∃i:Nat->Prop,(∀b,i b->o.next<=b/\b<M.next)/\AZ (jj I) 1 i M (c.take j) d)
  (dm:=λe tm M=>e=.exit 0/\∃d,bj [1,6] tm=[I 0,d]/\Kp o M eK/\∃i:Nat->Prop,(∀b,i b->o.next<=b/\b<M.next)/\AZ (jj I) 1 i M c d)
  (by
   rintro j tm M hj ⟨d,B,k,i,p,u⟩
   left
   have gM:=(g.ext k1).ext k;have n0:=k.next;have A:j<(c.map Ep).length:=ai;obtain⟨n,C,S,e3,_,Q,F⟩:=(P.ext k λ_ _ h=>h).row A;cases e3;rw[List.getElem_map]at Q F;have l:aI n (0+j*1) M=Z (vL C 0 1 S,M):=by rw[Nat.zero_add,Nat.mul_one];exact Q
   have r:aI q 2 M=Z (vL n 0 (c.map Ep).length dp,M):=aO (G.a9 k) rfl;have x0:aI C 0 M=Z (I 1,M):=aO F rfl;have X:aI C 1 M=Z (I c[j],M):=aO F rfl;obtain⟨m3,m4,V,e6,g6,k6,e7,k7,L7,vw,n7⟩:=u.add (t:=22) (x:=c[j]) (v:=I c[j]) (B':=eK) gM (g.ext k1) k rfl eJ p rfl (λ_ _ h=>h) (λ_ h=>h.elim) ⟨rfl,by simp[ab.cells,ab.oneCell']⟩ (by simp;omega);obtain⟨D,L,E⟩:=aL (K:=K) Wm (aoB q j (c.map Ep).length dp n C S c[j] d V _) B
    (.mem r<|.cond (FM A)<|.mem r<|.idx rfl A<|.mem l<|.cond rfl<|.cond rfl<|.mem r<|.cond rfl<|.cond rfl<|.idx rfl A<|.cond rfl<|.mem l<|.cond rfl<|.idx rfl eJ<|.cond rfl<|.cond rfl<|.mem x0<|.rp rfl<|.mem r<|.idx rfl A<|.mem l<|.idx rfl eJ<|.mem X<|.mem e6<|.mem e7<|.nil)
   rw[add1 ai]at E;refine⟨D,m4,L,V,E,k.new k7 (N:=o.next) (aj _) λb f=>(p b f).1,λy=>i y\/eK y\/y=M.next+1,λb f=>?_,?_⟩
   .rcases f with f|f|f
    .have :=p b f;omega
    .exact f.elim
    .omega
   .rw[List.take_add_one,List.getElem?_eq_getElem hj];exact L7)
  (by
   rintro tm M ⟨d,B,k,i,p,u⟩;have r:aI q 2 M=Z (.slice z (c.map Ep).length w,M):=aO (G.a9 k) rfl;obtain⟨D,L,E⟩:=aL (K:=K) (m:=M) (m':=M) Wm (aoz q c.length (c.map Ep).length w z d) B (.mem r<|.cond (by rw[J];exact SF _) .nil);rw[List.take_length]at u;exact⟨_,D,M,iq,L,rfl,d,E,k,i,p,u⟩)
  (tm:=t0) (m:=o) ⟨_,e0,.refl _ _,eK,λ_ h=>h.elim,AZ.nil⟩ ai
 obtain⟨D,w2,e2⟩:=aU (K:=K) (m:=H) (m':=H) (aoC d) B .nil;exact⟨H,d,dE aph (aC.cut w0 (aC.fC wN (aC.last w2 Wl))) (.inr rfl) e2,k1.aX k2,(aW (jj I) 1).mono u.fin λb f=>by have :=p b f;exact⟨ai,this.2⟩⟩
end
end Go.AM
