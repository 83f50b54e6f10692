/-
  What the claim stands on, part 10.
-/
import Derived.Test.YtgfppohfgconeaaGreatDoorP9
set_option linter.unusedVariables false
set_option linter.unusedSimpArgs false
open Option renaming some → Z, none → Y
open Bool renaming true → U, false → O
open Go renaming Value → ab, World → ar, Program → aE, TypeId → aT
open Go.Proofs.Tryz renaming prog → ae
open Nat renaming le_of_ble_eq_true → af, le_refl → aj, eq_of_beq_eq_true → aA, lt_of_lt_of_le → aZ
open Bool renaming and_eq_true → ag
open Option.some renaming injEq → ah
open Prod.mk renaming injEq → ay
open List renaming all_eq_true → aB, mem_cons → aN
open Option renaming map_eq_some_iff → aD, bind_eq_some_iff → bM
namespace Go.AM
open Go Go.Conc Go.Proofs
def jg (π:Nat->Nat)(mi m:Mem)(L:List (Nat×eh))(nx:Nat):Mem:=Gi m (L.map λx=>(π x.1,oA π x.2)) (m.next+(nx-mi.next))
structure Pw (mi mq:Mem)(L:List (Nat×eh))(nx:Nat):Prop where
 base:mq.base=mi.base
 home:mq.home=mi.home
 floor:mq.floor=mi.floor
 bI:mq.bI=[]
 opn:mq.opn=[]
 wg:mq.wg=Y
 deaf:mq.deaf=0
 an3:∀b,(mi.blk b).kind≠0->(∃k,(b,k)∈L)\/jd (mq.blk b) (mi.blk b)
 next:mq.next<=nx
 nx0:mi.next<=nx
 new:∀x∈L,(mi.next<=x.1\/(mi.blk x.1).kind≠0/\x.2.kind=(mi.blk x.1).kind)/\x.1<nx/\jd x.2 (mq.blk x.1)/\x.2.live/\okB x.2=U
def F9 (ρ zS:dz)(m:Mem)(N:Nat):dz:=λy=>if y<m.next then ρ y else zS (N+(y-m.next))
section
variable {P:aE}{G:Nat}{E:Perm}{bJ w w':ar}{ρ zS:dz}{mi m mq:Mem}{π:Nat->Nat}{L:List (Nat×eh)}{nx:Nat}
theorem PX (h:pG G mi m π)(hold:∀b,b<mi.next->zS b=ρ (π b))(b:Nat):F9 ρ zS m mi.next (π b)=zS b:=by
 unfold F9;rcases Nat.lt_or_ge b mi.next with a|a
 .rw[bh (h.lt b a),hold b a]
 .have :=h.ge b a;rw[bH ai]
  congr 1
  omega
theorem Ky {π:Nat->Nat}{k d b:eh}(h:jd k d)(s:wW π d b):wW π k b:=by
 obtain⟨c,l,j,i,g,f,e⟩:=h;refine⟨s.kind.trans c.symm,λa=>?_,λa=>?_,λa=>?_⟩
 .rw[c]at a;rw[l,i];exact s.cells a
 .rw[c]at a;rw[g,f];exact s.map a
 .rw[c]at a;rw[j,e];exact s.iter a
theorem Z6 {π:Nat->Nat}{k:eh}{t:Nat}:wW π k {oA π k with bq:=t}:=⟨rfl,λ_=>⟨rfl,rfl⟩,λ_=>⟨rfl,rfl⟩,λ_=>⟨rfl,rfl⟩⟩
theorem Hl (h:pG G mi m π)(t:Wf m)(q:Pw mi mq L nx){y:Nat}(o:((jg π mi m L nx).blk y).kind≠0):
  (∃b,y=π b/\wW π (mq.blk b) ((jg π mi m L nx).blk y)/\okB (mq.blk b)=U/\(mi.next<=b\/(mi.blk b).kind≠0/\(mq.blk b).kind=(mi.blk b).kind)/\(((jg π mi m L nx).blk y).pos=(mq.blk b).pos\/(jg π mi m L nx).blk y=m.blk y/\b<mi.next))\/((jg π mi m L nx).blk y=m.blk y/\B7 mi π y/\y<m.next):=by
 rcases gL (m:=m) (L:=L.map λx=>(π x.1,oA π x.2)) (nx:=m.next+(nx-mi.next)) y with⟨e,u⟩|⟨k,v,e⟩
 .have e:(jg π mi m L nx).blk y=m.blk y:=e;have d:y<m.next:=by
   rcases Nat.lt_or_ge y m.next with d|d
   .exact d
   .rw[e,t.zo y d]at o;exact absurd rfl o
  by_cases p:∃b,(mi.blk b).kind≠0/\π b=y
  .obtain⟨b,a,rfl⟩:=p;have j:b<mi.next:=by
    rcases Nat.lt_or_ge b mi.next with f|f
    .exact f
    .exact absurd (h.wf.zo b f) a
   rcases q.an3 b a with⟨k,i⟩|g
   .exact absurd rfl (u (π b,oA π k) (List.mem_map.2 ⟨(b,k),i,rfl⟩))
   .refine .inl ⟨b,rfl,?_,?_,.inr ⟨a,g.1⟩,.inr ⟨e,j⟩⟩
    .rw[e];exact Ky g (h.same b a)
    .have :=h.okb b;unfold okB at this⊢;rw[g.2.2.2.1,g.2.2.2.2.1];exact this
  .exact .inr ⟨e,λb a w=>p ⟨b,a,w⟩,d⟩
 .obtain⟨x,s,ex⟩:=List.mem_map.1 v;cases ex;obtain⟨r,H,c,F,l⟩:=q.new x s;have e:(jg π mi m L nx).blk (π x.1)={oA π x.2 with bq:=m.tick}:=e;refine .inl ⟨x.1,rfl,?_,?_,r.imp id λn=>⟨n.1,c.1.symm.trans n.2⟩,.inl ?_⟩
  .rw[e];obtain⟨f,E,D,C,B,A,z⟩:=c;exact Ky ⟨f.symm,E.symm,D.symm,C.symm,B.symm,A.symm,z.symm⟩ Z6
  .unfold okB at l⊢;rw[<-c.2.2.2.1,<-c.2.2.2.2.1];exact l
  .rw[e];exact c.2.2.1
theorem Ow (h:pG P.globals.size mi m π)(H:dj P E bJ .idle ρ m w)(Hq:dj P (Bl ρ mi m π E) w .idle zS mq w')(hle:dz.le (λb=>ρ (π b)) zS)(hold:∀b,b<mi.next->zS b=ρ (π b))(q:Pw mi mq L nx):
  dj P E bJ .idle (F9 ρ zS m mi.next) (jg π mi m L nx) w'/\j3 ((az (F9 ρ zS m mi.next) (jg π mi m L nx)).or E) ((az zS mq).or (Bl ρ mi m π E)):=by
 have R:=H.kH;have sq:=Hq.kH;have K:=Hq.rest;have KE:bC E w w':=K.sub (λ_ _=> .inr) λ_=> .inr
 obtain⟨M,hM⟩:∃M,M=jg π mi m L nx:=⟨_,rfl⟩;obtain⟨f,hU⟩:∃f,f=F9 ρ zS m mi.next:=⟨_,rfl⟩;have S:∀b,f (π b)=zS b:=λb=>by rw[hU];exact PX h hold b
 have aiN:(λb=>f (π b))=zS:=funext S;have N:∀{y},y<m.next->f y=ρ y:=λl=>by rw[hU];exact bh l
 have ule:ρ.le f:=λb p i=>by rw[N (R.oe b p i)];exact i
 have t:=λ{y:Nat} (j:(M.blk y).kind≠0)=>by
  have :=Hl (y:=y) h H.wf q (by rw[<-hM];exact j);rw[<-hM]at this;exact this
 have TM:M.bI=[]:=by rw[hM];exact h.bI
 have aiu:M.opn=[]:=by rw[hM];exact h.opn
 have Rw:M.base=m.base:=by rw[hM];rfl
 have Zb:M.home=m.home:=by rw[hM];rfl
 have Mfl:M.floor=m.floor:=by rw[hM];rfl
 have Rv:M.next=m.next+(nx-mi.next):=by rw[hM];rfl
 rw[<-hM,<-hU];have bn:mi.base<=mi.next:=by have :=h.wf.fl;rw[h.fi]at this;exact this
 have bm:m.base<=m.next:=by have :=H.wf.fl;rw[h.fm]at this;exact this
 have VO:∀{b},(mi.next<=b\/(mi.blk b).kind≠0/\(mq.blk b).kind=(mi.blk b).kind)->(mq.base<=b↔m.base<=π b):=λ{b} A=>by
  rw[q.base];rcases A with A|A
  .have :=h.ge b A
   constructor<;>intro _<;>omega
  .exact h.base b A.1
 have VN:∀{b},(mi.next<=b\/(mi.blk b).kind≠0/\(mq.blk b).kind=(mi.blk b).kind)->(mq.bQ b=U↔M.bQ (π b)=U):=λ{b} A=>by
  rw[Br q.bI,Br TM,q.home,Zb];rcases A with A|A
  .have :=h.ge b A;have :=h.hnI;have :=h.hn
   constructor<;>intro _<;>omega
  .exact h.home b A.1
 have qR:∀{b y o},wW π (mq.blk b) (M.blk y)->(mq.px b o↔M.px y o):=λs=>P8 q.bI TM s
 have qW:∀{b o},wW π (mq.blk b) (M.blk (π b))->(mi.next<=b\/(mi.blk b).kind≠0/\(mq.blk b).kind=(mi.blk b).kind)->(mq.okW b o↔M.okW (π b) o):=λs A=>by
  rw[nH q.opn,nH aiu,q.floor,h.fi,<-q.base,Mfl,h.fm];exact and_congr (qR s) (VO A)
 have mR:∀{y o},M.blk y=m.blk y->(M.px y o↔m.px y o):=λe=>by rw[kK TM,kK h.bI,e]
 have mW:∀{y o},M.blk y=m.blk y->(M.okW y o↔m.okW y o):=λe=>by rw[nH aiu,nH h.opn,Mfl,mR e]
 have mO:∀y,(M.bQ y=U↔m.bQ y=U):=λy=>by rw[Br TM,Br h.bI,Zb]
 have kR:∀{y o},M.px y o->(M.blk y).kind≠0:=λk=>by rw[((kK TM).1 k).1];decide
 have rrd:∀{b p x},ρ b=Z p->B7 mi π b->p.d<=x->x<p.d+p.room->m.px b (x-p.d)->(Bl ρ mi m π E).rd p.c x:=λr G F Q T=> .inl ⟨_,_,r,G,rfl,F,Q,T⟩
 have Gm:∀c x,(az f M).rd c x->(az zS mq).rd c x\/(Bl ρ mi m π E).rd c x:=by
  rintro c x ⟨y,p,r,G,F,Q,T⟩;rcases t (kR T)with⟨b,rfl,s,_⟩|⟨e,D,l⟩
  .exact .inl ⟨b,p,by rw[<-S];exact r,G,F,Q,(qR s).2 T⟩
  .exact .inr (.inl ⟨y,p,by rw[<-N l];exact r,D,G,F,Q,(mR e).1 T⟩)
 have uJ:∀c x,(az f M).wr c x->(az zS mq).wr c x\/∃b p,ρ b=Z p/\B7 mi π b/\p.c=c/\p.d<=x/\x<p.d+p.room/\m.okW b (x-p.d):=by
  rintro c x ⟨y,p,r,G,F,Q,T⟩;rcases t (kR ((nH aiu).1 T).1)with⟨b,rfl,s,_,A,_⟩|⟨e,D,l⟩
  .exact .inl ⟨b,p,by rw[<-S];exact r,G,F,Q,(qW s A).2 T⟩
  .exact .inr ⟨y,p,by rw[<-N l];exact r,D,G,F,Q,(mW e).1 T⟩
 have CW:∀c,(az f M).ob c->(az zS mq).ob c\/∃b p,ρ b=Z p/\B7 mi π b/\p.c=c/\((m.blk b).kind=2\/(m.blk b).kind=3)/\m.bQ b=U:=by
  rintro c ⟨y,p,r,G,F,Q⟩;rcases t (y:=y) ai with⟨b,rfl,s,_,A,_⟩|⟨e,D,l⟩
  .exact .inl ⟨b,p,by rw[<-S];exact r,G,by rw[<-s.kind];exact F,(VN A).2 Q⟩
  .exact .inr ⟨y,p,by rw[<-N l];exact r,D,G,by rw[<-e];exact F,(mO y).1 Q⟩
 have Mq:∀{b C p J},zS b=Z p->f C=Z J->wW π (mq.blk b) (M.blk (π b))->(mi.next<=b\/(mi.blk b).kind≠0/\(mq.blk b).kind=(mi.blk b).kind)->M.blk C=m.blk C->B7 mi π C->C<m.next->
   (M.blk (π b)).kind≠0->(m.blk C).kind≠0->p.c=J.c->(M.blk (π b)).kind=1/\(m.blk C).kind=1/\(p.room=0\/J.room=0\/p.d+p.room<=J.d\/J.d+J.room<=p.d):=by
  intro b C p J i dN s A e D FN j gQ hc;rw[N FN]at dN;rcases A with A|⟨hi,QM⟩
  .have k3:=(Hq.wf.live b).2;have k3':=(H.wf.live C).2;rw[<-s.kind]at k3;have fl:mq.floor<=b:=by rw[q.floor];have :=h.wf.fl;omega
   have oq:mq.bQ b=U:=(Br q.bI b).2 (by rw[q.home];have :=h.hnI;omega);have alive:∀{k:eh},k.live->∀o,o<k.cs.length->∃v,k.cs[o]?=Z (Z v):=λ{k} j o ho=>by
    have r:=List.getElem?_eq_getElem ho;cases hv:k.cs[o]with
    |none=>exact absurd hv (j.1 _ (List.getElem_mem ho))
    |some v=>exact⟨v,by rw[r,hv]⟩
   have shk:(M.blk (π b)).kind=1->∃y,w'.shape? p.c=Z y:=λh=>by
    obtain⟨_,_,e,n,h,_⟩:=sq.cells b p i (by rw[<-s.kind];exact h);exact⟨_,h⟩
   have afb:(m.blk C).kind=1->∃y,w'.shape? J.c=Z y:=λh=>by
    obtain⟨_,_,e,n,h,_⟩:=R.cells C J dN h;exact⟨_,by rw[K.shape _ (R.sX C J dN)];exact h⟩
   have ob':(m.blk C).kind=2\/(m.blk C).kind=3->(Bl ρ mi m π E).ob J.c:=λHr=> .inl ⟨C,J,dN,D,rfl,Hr,(Br h.bI C).2 (by
    by_cases cF:C<m.home
    .have :=h.low C cF;omega
    .omega)⟩
   by_cases e1:(M.blk (π b)).kind=1
   .by_cases e2:(m.blk C).kind=1
    .refine⟨e1,e2,Classical.byContradiction λhn=>?_⟩;have hy1:(az zS mq).wr p.c (max p.d J.d):=
      ⟨b,p,i,rfl,ai,ai,⟨by rw[<-s.kind];exact e1,by rw[q.bI];rfl,alive (Hq.wf.live b) _⟩,.inl fl⟩
     have hy2:(Bl ρ mi m π E).rd p.c (max p.d J.d):=by
      rw[hc];exact rrd dN D ai ai ⟨e2,by rw[h.bI];rfl,alive (H.wf.live C) _⟩
     exact(Hq.apart.cell _ _ hy2).2 hy1
    .exfalso
     obtain⟨y,l⟩:=shk e1;have :=(Hq.apart.obj _ (ob' ai)).2.2;rw[<-hc,l]at this;cases this
   .exfalso
    have o1:(az zS mq).ob p.c:=⟨b,p,i,rfl,by rw[<-s.kind];omega,oq⟩
    by_cases e2:(m.blk C).kind=1
    .obtain⟨y,l⟩:=afb e2;have :=(sq.low.ob _ o1).2;rw[hc,l]at this;cases this
    .have :=(Hq.apart.obj _ (ob' ai)).2.1;rw[<-hc]at this;exact this o1
  .have hbn:b<mi.next:=by
    rcases Nat.lt_or_ge b mi.next with r|r
    .exact r
    .exact absurd (h.wf.zo b r) hi
   have e1:(M.blk (π b)).kind=(m.blk (π b)).kind:=s.kind.trans (QM.trans (h.same b hi).kind.symm);rw[e1]at j⊢;rw[hold b hbn]at i;exact R.sep (π b) C p J (D b hi) i dN j gQ hc
 refine⟨⟨⟨λy p i=>?_,λy p i j=>?_,λy p o v i hc=>?_,λy p o i ho j A=>?_,λy p i j ho=>?_,λy p i j ho=>?_,
  λy C p J ep i dN j gQ hc=>?_,λy p i=>?_,λy p i j jh=>?_⟩,H.rest.trans KE,⟨λc x he=>⟨aZ (H.apart.cell c x he).1 K.size,λB=>?_⟩,λc he=>⟨aZ (H.apart.obj c he).1 K.size,λB=>?_,?_⟩,H.apart.wf⟩,
  λg hg=>let⟨p,a,b⟩:=H.pS g hg;⟨p,ule _ _ a,b⟩,⟨by rw[hM];exact h.wg,by rw[hM];exact h.pend,?_⟩,?_,λy p x i A r G F he=>?_,λc x he hr=>?_⟩,⟨λc x B=>?_,λc x B=>?_,λc B=>?_⟩⟩
 .rw[Rv];rcases Nat.lt_or_ge y m.next with l|l
  .omega
  .rw[hU]at i;unfold F9 at i;rw[bH ai]at i;have :=sq.oe _ p i;have :=q.next;omega
 .rcases t (y:=y) (by rw[j];decide)with⟨b,rfl,s,_⟩|⟨e,D,l⟩
  .have X:=s.kind.symm.trans j;obtain⟨W,V,a3⟩:=sq.cells b p (by rw[<-S];exact i) X;exact⟨W.trans (s.cells X).1.symm,by rw[(s.cells X).2,List.length_map];exact V,a3⟩
  .rw[e]at j⊢;rw[N l]at i;obtain⟨W,V,e',n,a3,a4⟩:=R.cells y p i j;exact⟨W,V,e',n,by rw[K.shape _ (R.sX y p i)];exact a3,a4⟩
 .obtain⟨c1,c2,c3⟩:=tA hc;rcases t (y:=y) (by rw[c1];decide)with⟨b,rfl,s,dV,_⟩|⟨e,D,l⟩
  .have X:=s.kind.symm.trans c1;rw[(s.cells X).2,List.getElem?_map]at c3;obtain⟨z,hz,ez⟩:=aD.1 c3;unfold okB at dV;rw[ag]at dV;have hv:=aB.1 dV.1 _ (List.mem_of_getElem? hz);cases z with
   |none=>cases ez
   |some u=>
    cases ez;obtain⟨v',W,V⟩:=sq.lZ b p o u (by rw[<-S];exact i) (uu X (by rw[q.bI];rfl) hz);exact⟨v',W,(sL hv).2 (by rw[aiN];exact V)⟩
  .rw[e]at c1 c3;rw[N l]at i;have mK:m.cell y o=Z v:=uu c1 (by rw[h.bI];rfl) c3;obtain⟨v',W,V⟩:=R.lZ y p o v i mK;have hro:=jw R i mK;refine⟨v',?_,V.iX ule⟩;rw[K.cell _ _ (rrd i D ai ai (by rw[Nat.add_sub_cancel_left];exact Mem.eW mK))];exact W
 .rcases t (y:=y) (by rw[j];decide)with⟨b,rfl,s,_,ph,_⟩|⟨e,D,l⟩
  .exact sq.thaw b p o (by rw[<-S];exact i) ho (s.kind.symm.trans j) ((VO ph).2 (by rw[<-Rw];exact A))
  .rw[e]at j;rw[N l]at i;rw[vz (K.sE _ _ (R.sX y p i))];exact R.thaw y p o i ho j (by rw[<-Rw];exact A)
 .rcases t (y:=y) (by rw[j];decide)with⟨b,rfl,s,dV,ph,_⟩|⟨e,D,l⟩
  .have X:=s.kind.symm.trans j;obtain⟨mT,W,V⟩:=sq.maps b p (by rw[<-S];exact i) X ((VN ph).2 ho);unfold okB at dV;rw[ag]at dV;rw[(s.map X).2,(s.map X).1];exact⟨mT,W,(EW dV.2).2 (by rw[aiN];exact V)⟩
  .rw[e]at j⊢;rw[N l]at i;obtain⟨mT,W,V⟩:=R.maps y p i j ((mO y).1 ho);refine⟨mT,?_,V.mono λ_ _ x=>⟨x.1.iX ule,x.2.1.iX ule,x.2.2⟩⟩;rw[K.obj _ (.inl ⟨y,p,i,D,rfl,.inl j,(mO y).1 ho⟩)];exact W
 .rcases t (y:=y) (by rw[j];decide)with⟨b,rfl,s,dV,ph,_⟩|⟨e,D,l⟩
  .have X:=s.kind.symm.trans j;rw[(s.iter X).1,(s.iter X).2];exact sq.mJ b p (by rw[<-S];exact i) X ((VN ph).2 ho)
  .rw[e]at j⊢;rw[N l]at i;obtain⟨W,V⟩:=R.mJ y p i j ((mO y).1 ho);exact⟨W,by rw[K.obj _ (.inl ⟨y,p,i,D,rfl,.inr j,(mO y).1 ho⟩)];exact V⟩
 .rcases t j with⟨b,rfl,s,_,A,_⟩|⟨e,D,l⟩<;>rcases t gQ with⟨b',rfl,s',_,gR,_⟩|⟨e',h0',FN⟩
  .rw[s.kind]at j⊢;rw[s'.kind]at gQ⊢;exact sq.sep b b' p J (λe=>ep (by rw[e])) (by rw[<-S];exact i) (by rw[<-S];exact dN) j gQ hc
  .rw[e']at gQ⊢;exact Mq (by rw[<-S];exact i) dN s A e' h0' FN j gQ hc
  .rw[e]at j⊢;obtain⟨W,V,a3⟩:=Mq (by rw[<-S];exact dN) i s' gR e D l gQ j hc.symm;exact⟨V,W,ai⟩
  .rw[e]at j⊢;rw[e']at gQ⊢;exact R.sep y C p J ep (by rw[<-N l];exact i) (by rw[<-N FN];exact dN) j gQ hc
 .rcases Nat.lt_or_ge y m.next with l|l
  .rw[N l]at i;exact aZ (R.sX y p i) K.size
  .rw[hU]at i;unfold F9 at i;rw[bH ai]at i;exact sq.sX _ p i
 .rcases t (y:=y) (by rw[j];decide)with⟨b,rfl,s,_,ph,⟨e⟩|⟨e,hbn⟩⟩|⟨e,D,l⟩
  .exact sq.vars b p (by rw[<-S];exact i) (s.kind.symm.trans j) (by rw[<-e];exact jh)
  .rw[e]at j jh;exact R.vars (π b) p (by rw[<-N (h.lt b hbn)];exact i) j jh
  .rw[e]at j jh;exact R.vars y p (by rw[<-N l];exact i) j jh
 .rcases uJ c x B with B|⟨b,p,r,_,G,F,Q,T⟩
  .exact(Hq.apart.cell c x (.inr he)).2 B
  .exact(H.apart.cell c x he).2 ⟨b,p,r,G,F,Q,T⟩
 .rcases CW c B with B|⟨b,p,r,_,G,F,Q⟩
  .exact(Hq.apart.obj c (.inr he)).2.1 B
  .exact(H.apart.obj c he).2.1 ⟨b,p,r,G,F,Q⟩
 .exact(Hq.apart.obj c (.inr he)).2.2
 .rw[Zb,Rv];have :=h.hn;omega
 .refine⟨λy=>?_,λy l=>?_,λs ui=>?_,?_,λy=>?_⟩
  .rw[hM]
   show _<m.tick+1
   rcases gL (m:=m) (L:=L.map λx=>(π x.1,oA π x.2)) (nx:=m.next+(nx-mi.next)) y with⟨e,_⟩|⟨k,_,e⟩
   .have e:(jg π mi m L nx).blk y=m.blk y:=e;rw[e];exact Nat.lt_succ_of_lt (H.wf.bq y)
   .have e:(jg π mi m L nx).blk y={k with bq:=m.tick}:=e;rw[e];exact Nat.lt_succ_self _
  .rw[Rv]at l;refine Classical.byContradiction λj=>?_
   rcases t j with⟨b,rfl,s,_,A,_⟩|⟨e,D,FN⟩
   .have hkq:(mq.blk b).kind≠0:=by rw[<-s.kind];exact j
    have hbq:b<mq.next:=by
     rcases Nat.lt_or_ge b mq.next with r|r
     .exact r
     .exact absurd (Hq.wf.zo b r) hkq
    have :=q.next;rcases Nat.lt_or_ge b mi.next with r|r
    .have :=h.lt b r;omega
    .have :=h.ge b r;omega
   .omega
  .rw[TM]at ui;cases ui
  .rw[Mfl,Rv];have :=H.wf.fl;omega
  .rw[hM];rcases gL (m:=m) (L:=L.map λx=>(π x.1,oA π x.2)) (nx:=m.next+(nx-mi.next)) y with⟨e,_⟩|⟨k,hm,e⟩
   .have e:(jg π mi m L nx).blk y=m.blk y:=e;rw[e];exact H.wf.live y
   .have e:(jg π mi m L nx).blk y={k with bq:=m.tick}:=e;rw[e];obtain⟨x,B,ex⟩:=List.mem_map.1 hm;cases ex;obtain⟨_,_,_,n4,n5⟩:=q.new x B;refine⟨λz hz=>?_,n4.2⟩;obtain⟨u,hu,rfl⟩:=List.mem_map.1 hz;cases u with
    |none=>exact absurd rfl (n4.1 _ hu)
    |some u=>exact λe=>by cases e
 .rcases t (kR F)with⟨b,rfl,s,_,ph,_⟩|⟨e,D,l⟩
  .exact Hq.Ps b p x (by rw[<-S];exact i) ((VO ph).2 (by rw[<-Rw];exact A)) r G ((qR s).2 F) (.inr he)
  .exact H.Ps y p x (by rw[<-N l];exact i) (by rw[<-Rw];exact A) r G ((mR e).1 F) he
 .obtain⟨y,p,r,G,F,Q,T⟩:=hr;rcases t (kR T)with⟨b,rfl,s,_,ph,_⟩|⟨e,D,l⟩
  .exact Hq.ew c x (.inr he) ⟨b,p,by rw[<-S];exact r,G,F,Q,(qR s).2 T⟩
  .exact H.ew c x he ⟨y,p,by rw[<-N l];exact r,G,F,Q,(mR e).1 T⟩
 .rcases B with B|B
  .exact(Gm c x B).imp id id
  .exact .inr (.inr B)
 .rcases B with B|B
  .exact(uJ c x B).imp id .inl
  .exact .inr (.inr B)
 .rcases B with B|B
  .exact(CW c B).imp id .inl
  .exact .inr (.inr B)
end
section
variable {mi m mq:Mem}{π:Nat->Nat}{L:List (Nat×eh)}{nx G:Nat}
theorem ace (h:pG G mi m π)(q:Pw mi mq L nx)(l:∀b,mq.next<=b->(mq.blk b).kind=0):Mv m (jg π mi m L nx):=by
 refine⟨Nat.le_add_right _ _,Nat.le_succ _,λd=>?_,λy=>?_,λs r=> .inl r⟩
 .refine⟨λy=>?_,λy i=>?_,λs c=>?_,?_,λy=>?_⟩
  .show _<m.tick+1
   rcases gL (m:=m) (L:=L.map λx=>(π x.1,oA π x.2)) (nx:=m.next+(nx-mi.next)) y with⟨e,_⟩|⟨k,_,e⟩
   .have e:(jg π mi m L nx).blk y=m.blk y:=e;rw[e];exact Nat.lt_succ_of_lt (d.bq y)
   .have e:(jg π mi m L nx).blk y={k with bq:=m.tick}:=e;rw[e];exact Nat.lt_succ_self _
  .have i:m.next+(nx-mi.next)<=y:=i;refine Classical.byContradiction λj=>?_
   rcases Hl h d q j with⟨b,rfl,s,_,A,_⟩|⟨e,B,C⟩
   .have f:(mq.blk b).kind≠0:=by rw[<-s.kind];exact j
    have v:b<mq.next:=by
     rcases Nat.lt_or_ge b mq.next with a|a
     .exact a
     .exact absurd (l b a) f
    have :=q.next;rcases Nat.lt_or_ge b mi.next with a|a
    .have :=h.lt b a;omega
    .have :=h.ge b a;omega
   .omega
  .have c:s∈m.bI:=c;rw[h.bI]at c;cases c
  .show m.floor<=m.next+_
   have :=d.fl;omega
  .rcases gL (m:=m) (L:=L.map λx=>(π x.1,oA π x.2)) (nx:=m.next+(nx-mi.next)) y with⟨e,_⟩|⟨k,t,e⟩
   .have e:(jg π mi m L nx).blk y=m.blk y:=e;rw[e];exact d.live y
   .have e:(jg π mi m L nx).blk y={k with bq:=m.tick}:=e;rw[e];obtain⟨x,o,ex⟩:=List.mem_map.1 t;cases ex;obtain⟨_,_,_,g,w⟩:=q.new x o;refine⟨λz n=>?_,g.2⟩;obtain⟨u,p,rfl⟩:=List.mem_map.1 n;cases u with
    |none=>exact absurd rfl (g.1 _ p)
    |some u=>exact λe=>by cases e
 .rcases gL (m:=m) (L:=L.map λx=>(π x.1,oA π x.2)) (nx:=m.next+(nx-mi.next)) y with⟨e,_⟩|⟨k,_,e⟩
  .exact .inl e
  .exact .inr (by
    have e:(jg π mi m L nx).blk y={k with bq:=m.tick}:=e;rw[e];exact aj _)
end
theorem LL {Fin:ab->ar->Prop}{call:cH}(C:gE ae X0 U (Jn Fin) Mv call){mi M m:Mem}{π:Nat->Nat}{f:Nat}{args:List ab}{v:ab}{L:List (Nat×eh)}{nx:Nat}(hY:call f args mi=Z (v,M))(r:dX ae f=U)
  (h:pG ae.globals.size mi m π)(q:Pw mi M L nx)(ha:args.all (oD 20)=U)(hv:oD 20 v=U):
  Mv m (jg π mi m L nx)/\∃c,∀{E:Perm}{R:ar}{u:pj}{ρ:dz}{w:ar} (D:Array ab) (fr:Frame) (cs:List Frame) (n:Nat) (kind:CallKind),
   dj ae E R u ρ m w->bP (aV ρ) (args.map (bO π 20)) D.toList->(kind=.normal\/(kind=.deferred/\fr.mode=.returning/\f≠X0.Nl/\f≠X0.xy))->
   (∀B t z y,ρ.le t->tD m ρ t->dj ae E R B t (jg π mi m L nx) y->aV t (bO π 20 v) z->Jn Fin B n ((az t (jg π mi m L nx)).or E) (G (if kind=.normal then fr.finish z else fr) cs) y)->
   Jn Fin u (n+c) ((az ρ m).or E) (G (Frame.enter ae f D kind) (fr::cs)) w:=by
 obtain⟨P,_,K⟩:=C f args mi v M h.wf hY;refine⟨ace h q (P.wf h.wf).zo,?_⟩;obtain⟨c,K⟩:=K r;refine⟨c,λ{E R u ρ w} D fr cs n kind H hr A X5=>?_⟩;cases u with
 |Dd=>trivial
 |gi gr=>
  obtain⟨_,_,_,wa,k1,_⟩:=H.gi;rw[h.wg]at k1;cases k1
 |idle=>
  have HI:=SM h H;have N:=K D fr cs n kind HI ((sQ (λh=>sL h) ha).1 hr) A λB l z y Q hold X QD=>by
   cases B with
   |Dd=>trivial
   |gi gr=>
    obtain⟨_,_,_,wa,k1,_⟩:=X.gi;rw[q.wg]at k1;cases k1
   |idle=>
    have T:∀b,b<mi.next->l b=ρ (π b):=λb r=>hold b r λs V=>by rw[h.adT]at V;cases V
    obtain⟨Ho,F⟩:=Ow h H X Q T q;have J:ρ.le (F9 ρ l m mi.next):=λb p W=>(bh (H.kH.oe b p W)).trans W
    have :=X5 .idle (F9 ρ l m mi.next) z y J (.of λb r=>bh r) Ho ((sL hv).2 (by
     have :(λb=>F9 ρ l m mi.next (π b))=l:=funext λb=>PX h T b
     rw[this];exact QD))
    exact JM.perm F Ho.low.wr (h.deaf.trans q.deaf.symm) this
  have S:∀{b o},mi.px b o->(mi.blk b).kind≠0:=λk=>by rw[((kK h.acP).1 k).1];decide
  have F:j3 ((az (λb=>ρ (π b)) mi).or (Bl ρ mi m π E)) ((az ρ m).or E):=by
   refine⟨λc x a=>?_,λc x a=>?_,λc a=>?_⟩
   .rcases a with⟨b,p,i,g,e,d,j⟩|⟨b,p,i,_,g,e,d,j⟩|a
    .exact .inl ⟨π b,p,i,g,e,d,(h.px (S j)).1 j⟩
    .exact .inl ⟨b,p,i,g,e,d,j⟩
    .exact .inr a
   .rcases a with⟨b,p,i,g,e,d,j⟩|⟨b,p,i,_,g,e,d,j⟩|a
    .exact .inl ⟨π b,p,i,g,e,d,(h.okW (S ((nH h.af8).1 j).1)).1 j⟩
    .exact .inl ⟨b,p,i,g,e,d,j⟩
    .exact .inr a
   .rcases a with⟨b,p,i,g,e,d⟩|⟨b,p,i,_,g,e,d⟩|a
    .have A:(mi.blk b).kind≠0:=ai;exact .inl ⟨π b,p,i,g,by rw[(h.same b A).kind];exact e,(h.own A).1 d⟩
    .exact .inl ⟨b,p,i,g,e,d⟩
    .exact .inr a
  exact JM.perm F HI.low.wr (h.am9.trans h.deaf.symm) N
set_option maxRecDepth 1000000
structure gv where
 f:Nat
 args:List ab
 mi:Mem
 v:ab
 L:List (Nat×eh)
 nx:Nat
def gv.at(r:gv)(f:Nat)(args:List ab)(m:Mem)(π:Nat->Nat):Prop:=r.f=f/\args=r.args.map (bO π 20)/\pG ae.globals.size r.mi m π
def gv.out(r:gv)(m:Mem)(π:Nat->Nat):Mem:=jg π r.mi m r.L r.nx
open Classical in
noncomputable def twR(RS:gv→Prop):cH:=λf args m=>
 if h:∃x:gv×(Nat→Nat),RS x.1∧x.1.at f args m x.2 then Z (bO (Classical.choose h).2 20 (Classical.choose h).1.v,(Classical.choose h).1.out m (Classical.choose h).2)else Y
theorem ae3 {RS:gv->Prop}{r:gv}{f:Nat}{args:List ab}{m:Mem}{π:Nat->Nat}(e:RS r)(h:r.at f args m π)(d:∀a c,RS a->a.at f args m c->a=r/\c=π):twR RS f args m=Z (bO π 20 r.v,r.out m π):=by
 have b:∃x:gv×(Nat->Nat),RS x.1/\x.1.at f args m x.2:=⟨(r,π),e,h⟩;unfold twR;rw[dif_pos b];obtain⟨i,g⟩:=d _ _ (Classical.choose_spec b).1 (Classical.choose_spec b).2;rw[i,g]
theorem Dj {RS:gv->Prop}{f:Nat}{args:List ab}{m:Mem}(h:∀r,RS r->r.f≠f):twR RS f args m=Y:=by
 unfold twR;exact dif_neg λ⟨x,b,a,_⟩=>h _ b a
structure Y9 (call:cH)(r:gv):Prop where
 call:∃mq,call r.f r.args r.mi=Z (r.v,mq)/\Pw r.mi mq r.L r.nx
 bod:dX ae r.f=U
 args:r.args.all (oD 20)=U
 val:oD 20 r.v=U
theorem ae2 {Fin:ab->ar->Prop}{call:cH}(C:gE ae X0 U (Jn Fin) Mv call){RS:gv->Prop}(h:∀r,RS r->Y9 call r):gE ae X0 U (Jn Fin) Mv (twR RS):=by
 intro f args m v s t a;unfold twR at a
 split at a
 .rename_i b;have c:=Classical.choose_spec b;simp only[ah,ay]at a;obtain⟨rfl,rfl⟩:=a;generalize Classical.choose b=x at c;obtain⟨r,p⟩:=x;obtain⟨k,rfl,rfl,g⟩:=c;obtain⟨⟨q,n,l⟩,d,o,j⟩:=h r k;obtain⟨k1,i⟩:=LL (Fin:=Fin) C n d g l o j;exact⟨k1,λe=>(by rw[d]at e;cases e),λ_=>i⟩
 .cases a
structure Gl (m:Mem):Prop where
 pS:Zd m
 base:0<m.base
 home:0<m.home
 hn:m.home<=m.next
 nx:12<=m.next
 low:∀b,b<m.home->(m.blk b).kind<=1
theorem Gl.ext{m m':Mem}{S:Nat->Prop}(h:Gl m)(k:Kp m m' S)(c:∀b,S b->m.home<=b):Gl m':=by
 have e:=h.home;have i:=h.hn;have g:=h.nx;have f:=k.next;refine⟨h.pS.ext k λa=>by have :=c 0 a;omega,by rw[k.base];exact h.base,by rw[k.home];exact e,by rw[k.home];omega,ai,λb d=>?_⟩;rw[k.home]at d;rw[k.blk b ai λa=>by have :=c b a;omega];exact h.low b d
theorem Gl.a9{m m':Mem}(h:Gl m)(k:Kp m m' eK):Gl m':=h.ext k λ_ h=>h.elim
def uG (m:Mem)(b:Nat):Nat:=if b<12 then b else m.next+(b-12)
theorem Dv (π:Nat->Nat):cP.map (VG π)=cP:=by
 have a:(cP.all λx=>match x with |some y=>de y|none=>O)=U:=aM
 conv=>rhs;rw[<-List.map_id cP]
 refine List.map_congr_left λx b=>?_
 have :=aB.1 a x b
 split at this
 .exact congrArg Z (tU this)
 .cases this
theorem alY {m:Mem}(e:Calm m)(d:Gl m):pG ae.globals.size tG m (uG m):=by
 have i:tG.blk 0={kind:=1,cs:=cP}:=by rw[iS,bh rfl]
 have c:∀b,(tG.blk b).kind≠0->b=0:=λb a=>by
  rw[iS]at a
  split at a
  .rename_i h;exact h.symm
  .exact absurd rfl a
 have f:uG m 0=0:=rfl;have g:=d.pS;refine⟨Ia,rfl,aj _,e.floor,d.hn,rfl,e.bI,rfl,e.opn,rfl,e.wg,rfl,e.gd.pend,rfl,e.gd.deaf,λb a=>?_,λb a=>?_,λb a=>?_,λb n l k _=>by rw[c b l,c n k],λb a=>?_,λb=>?_,λb a j=>?_,λb a=>?_,λb a=>?_,d.low⟩
 .rw[globals_size]at a;exact bh a
 .have a:b<12:=a;have :=d.nx;unfold uG;rw[bh a];omega
 .have a:12<=b:=a;exact bH ai
 .rw[c b a,f,i];refine⟨g.kind,λ_=>⟨g.sz,?_⟩,λh=>(by cases h),λh=>by cases h⟩;rw[show(({kind:=1,cs:=cP}:eh).cs)=cP from rfl,Dv,g.cs]
  kernel_rfl
 .rw[iS]
  split
  .kernel_rfl
  .rfl
 .rw[c b (by rw[a];decide),i]at j;cases j
 .rw[c b a,f];have :=d.base;exact⟨λh=>absurd h eJ,λh=>by omega⟩
 .rw[c b a,f];have :=d.home;exact⟨λh=>absurd h eJ,λh=>by omega⟩
theorem SN {m:Mem}{π:Nat->Nat}(h:pG ae.globals.size tG m π):π=uG m:=by
 funext b
 unfold uG;rw[<-globals_size]
 split
 .rename_i a;exact h.gl b a
 .rename_i a;rw[globals_size]at a⊢;exact h.ge b (by show 12<=b;omega)
section
variable {m:Mem}{L:List (Nat×eh)}{nx:Nat}
theorem W2 (f:∀x∈L,12<=x.1):Kp m (jg (uG m) tG m L nx) eK:=by
 refine⟨Nat.le_add_right _ _,rfl,rfl,rfl,rfl,rfl,rfl,rfl,rfl,λb a _=>?_⟩;rcases gL (m:=m) (L:=L.map λx=>(uG m x.1,oA (uG m) x.2)) (nx:=m.next+(nx-tG.next)) b with⟨e,_⟩|⟨k,d,_⟩
 .exact e
 .obtain⟨x,c,ex⟩:=List.mem_map.1 d;cases ex;have :=f x c
  exfalso
  unfold uG at a;rw[bH ai]at a;omega
theorem sV {t:Nat}:∀{L:List (Nat×eh)} {h:jE}{x:Nat×eh},(L.map (·.1)).Nodup->x∈L->(Oq t L h).get x.1={x.2 with bq:=t}
 | [],_,x,_,a=>by cases a
 |y::l,h,x,b,a=>by
  rw[List.map_cons,List.nodup_cons]at b;unfold Oq;rw[jE.get_put];rcases aN.1 a with rfl|a
  .rw[bh rfl]
  .rw[bH λe=>b.1 (List.mem_map.2 ⟨x,a,e.symm⟩)];exact sV b.2 a
theorem Qt (h:(L.map (·.1)).Nodup){b:Nat}{k:eh}(d:(b,k)∈L)(f:∀x∈L,12<=x.1):(jg (uG m) tG m L nx).blk (uG m b)={oA (uG m) k with bq:=m.tick}:=by
 have l:((L.map λx=>(uG m x.1,oA (uG m) x.2)).map (·.1)).Nodup:=by
  rw[List.map_map];have :(L.map ((λx=>x.1)∘λx=>(uG m x.1,oA (uG m) x.2)))=(L.map (·.1)).map (uG m):=by rw[List.map_map];rfl
  rw[this,List.Nodup,List.pairwise_map];refine List.Pairwise.imp_of_mem ?_ h;intro a c j i n e;obtain⟨x,d,rfl⟩:=List.mem_map.1 j;obtain⟨y,g,rfl⟩:=List.mem_map.1 i;have :=f x d;have :=f y g;unfold uG at e;rw[bH ai,bH ai]at e;omega
 exact sV (x:=(uG m b,oA (uG m) k)) l (List.mem_map.2 ⟨(b,k),d,rfl⟩)
theorem Qs (i:Calm m)(d:(L.map (·.1)).Nodup){b:Nat}{k:eh}{cs:List ab}(a:(b,k)∈L)(j:12<=b)(l:b<nx)(h:∀x∈L,12<=x.1)(f:k.kind=1)(g:k.cs=cs.map Z):Obj (jg (uG m) tG m L nx) (uG m b) k.sz (cs.map (bO (uG m) 20)):=by
 have e:=Qt (m:=m) (nx:=nx) d a h;have c:uG m b=m.next+(b-12):=bH ai;refine⟨?_,by rw[e];exact f,by rw[e];rfl,?_,?_⟩
 .rw[c]
  show _<m.next+(nx-12)
  omega
 .rw[e]
  show k.cs.map (VG (uG m))=_
  rw[g,List.map_map,List.map_map];rfl
 .show aP m.bI _=O
  rw[i.bI];rfl
end
theorem vZ {π:Nat->Nat}:∀{n:Nat}{v:ab},oD n v=U->bO π (n+1) v=bO π n v:=by
 have b:∀{n:Nat},(∀{v:ab},oD n v=U->bO π (n+1) v=bO π n v)->∀{l:List ab},l.all (oD n)=U->l.map (bO π (n+1))=l.map (bO π n):=λd l h=>List.map_congr_left λx g=>d (aB.1 h x g)
 intro n
 induction n with
 |zero=>intro v h;exact tU h
 |succ n d=>
  intro v h;cases v with
  |func e f c=>
   have h:(f.toList.all (oD n)&&c.toList.all (oD n))=U:=h;rw[ag]at h
   show ab.func e (f.toList.map (bO π (n+1))).toArray (c.toList.map (bO π (n+1))).toArray=ab.func e (f.toList.map (bO π n)).toArray (c.toList.map (bO π n)).toArray
   rw[b d h.1,b d h.2]
  |iface t x=>exact congrArg (ab.iface t) (d h)
  |agg cs=>
   show ab.agg (cs.toList.map (bO π (n+1))).toArray=ab.agg (cs.toList.map (bO π n)).toArray
   rw[b d h]
  |tuple cs=>
   show ab.tuple (cs.toList.map (bO π (n+1))).toArray=ab.tuple (cs.toList.map (bO π n)).toArray
   rw[b d h]
  |pointer a=>cases a<;>rfl
  |slice a l c=>cases a<;>rfl
  |map a=>cases a<;>rfl
  |_=>rfl
theorem nj {π:Nat->Nat}{l:List ab}(h:l.all (oD 19)=U):bO π 20 (.agg l.toArray)=.agg (l.map (bO π 20)).toArray:=by
 show ab.agg (l.map (bO π 19)).toArray=_
 congr 2
 exact List.map_congr_left λx a=>(vZ (aB.1 h x a)).symm
theorem VF {π:Nat->Nat}{n:Nat}{v:ab}:(bO π n v).oneCell'=v.oneCell':=by
 cases n with
 |zero=>rfl
 |succ n=>cases v with
  |pointer a=>cases a<;>rfl
  |slice a l c=>cases a<;>rfl
  |map a=>cases a<;>rfl
  |_=>rfl
def GM:List (Option ab)->Option (List ab)
 | []=>Z []
 |some v::l=>match GM l with |some r=>Z (v::r)|none=>Y
 |none::_=>Y
theorem yD:∀{l:List (Option ab)} {r:List ab},GM l=Z r->l=r.map Z
 | [],r,h=>by cases h;rfl
 |some v::l,r,h=>by
  unfold GM at h
  split at h
  .rename_i s a;cases h;rw[yD a];rfl
  .cases h
 |none::l,r,h=>by cases h
def pz:List (Nat×eh)->Nat->Option (Nat×List ab)
 | [],_=>Y
 |x::l,b=>if Nat.beq x.1 b then(if Nat.beq x.2.kind 1 then(match GM x.2.cs with |some cs=>Z (x.2.sz,cs)|none=>Y)else Y)else pz l b
theorem za:∀{L:List (Nat×eh)} {b sz:Nat}{cs:List ab},pz L b=Z (sz,cs)->∃k,(b,k)∈L/\k.kind=1/\k.sz=sz/\k.cs=cs.map Z
 | [],_,_,_,h=>by cases h
 |x::l,b,sz,cs,h=>by
  unfold pz at h
  split at h
  .rename_i d
   split at h
   .rename_i c
    split at h
    .rename_i r a;cases h;exact⟨x.2,by rw[<-aA d];exact List.mem_cons_self ..,aA c,rfl,yD a⟩
    .cases h
   .cases h
  .obtain⟨k,f,e⟩:=za h;exact⟨k,List.mem_cons_of_mem _ f,e⟩
def pW (π:Nat->Nat)(L:List (Nat×eh))(m:Mem)(B:Nat->Prop):Prop:=∀b sz cs,pz L b=Z (sz,cs)->B (π b)/\Obj m (π b) sz (cs.map (bO π 20))
structure Tel {α:Type}(E:pI α) where
 wU:List (Nat×eh)->α->ab->Bool
 ok:∀{π:Nat->Nat}{L:List (Nat×eh)} {m:Mem}{B:Nat->Prop},pW π L m B->∀{x:α}{v:ab},wU L x v=U->E.R B x m (bO π 20 v)
def an4 {α:Type}(val:α->ab)(hv:∀(π:Nat->Nat) x,bO π 20 (val x)=val x):Tel (jj val):=
 ⟨λ_ x v=>Mh 20 (val x) v,λ{π} _ _ _ _ {x v} h=>by rw[<-pU h];exact hv π x⟩
def Sn (sz:Nat)(v:ab):Bool:=oD 20 v&&match sz with
 |1=>(match v with | .agg _=>O|v=>v.oneCell')
 |sz=>(match v with | .agg cs=>Nat.beq cs.toList.length sz&&cs.toList.all λx=>oD 19 x&&x.oneCell'|_=>O)
def Bc {α:Type}(sz:Nat)(c:α->ab->Bool):List α->List ab->Bool
 | [],cs=>cs.isEmpty
 |x::l,cs=>(match sz,cs with
  |1,v::r=>Sn 1 v&&c x v&&Bc sz c l r
  |1,[]=>O
  |RN,cs=>Nat.ble RN cs.length&&Sn RN (.agg (cs.take RN).toArray)&&c x (.agg (cs.take RN).toArray)&&Bc sz c l (cs.drop RN))
theorem V7 {v:ab}(h:Sn 1 v=U):v.cells.toList=[v]/\∀b:Nat->Nat,(bO b 20 v).cells.toList=[bO b 20 v]/\okV 1 (bO b 20 v):=by
 unfold Sn at h;rw[ag]at h;have j:=h.2;have d:∀u:ab,(match u with | .agg _=>O|u=>u.oneCell')=U->u.cells=#[u]/\u.oneCell'=U:=λu i=>by
  cases u<;>first |exact⟨rfl,i⟩|cases i
 obtain⟨n,e⟩:=d v j;refine⟨by rw[n],λb=>?_⟩;have m:(match bO b 20 v with | .agg _=>O|u=>u.oneCell')=U:=by
  cases v with
  |agg cs=>cases j
  |pointer a=>cases a<;>exact e
  |slice a l c=>cases a<;>exact e
  |map a=>cases a<;>exact e
  |_=>exact e
 obtain⟨f,k⟩:=d _ m;refine⟨by rw[f],by rw[f];rfl,λy g=>?_⟩;rw[f]at g;rw[List.mem_singleton.1 g];exact k
theorem V8 {sz:Nat}{l:List ab}(c:sz≠1)(h:Sn sz (.agg l.toArray)=U):l.length=sz/\(∀x∈l,oD 19 x=U/\x.oneCell'=U):=by
 unfold Sn at h;rw[ag]at h;have a:=h.2
 split at a
 .exact absurd rfl c
 .simp only[ag]at a;exact⟨aA a.1,λx b=>by
   have :=aB.1 a.2 x b;rwa[ag]at this⟩
theorem yI {α:Type}{sz:Nat}{c:α->ab->Bool}{Q:α->ab->Prop}{π:Nat->Nat}(a:∀x v,c x v=U->Q x (bO π 20 v)):∀{l:List α}{cs:List ab},Bc sz c l cs=U->cE (λx u=>Q x u/\okV sz u) l (cs.map (bO π 20))
 | [],cs,h=>by
  unfold Bc at h;rw[List.isEmpty_iff.1 h];rfl
 |x::l,cs,h=>by
  unfold Bc at h
  split at h
  .rename_i v r;simp only[ag]at h;obtain⟨⟨e,d⟩,b⟩:=h;obtain⟨_,i⟩:=V7 e;exact⟨bO π 20 v,r.map (bO π 20),by rw[(i π).1];rfl,⟨a _ _ d,(i π).2⟩,yI a b⟩
  .cases h
  .rename_i q f;simp only[ag]at h;obtain⟨⟨⟨s,e⟩,d⟩,b⟩:=h;have k:sz≠1:=by
    rintro rfl;cases cs with
    |nil=>exact f rfl rfl
    |cons v r=>exact q v r rfl rfl
   obtain⟨p,j⟩:=V8 k e;have g:=nj (π:=π) (l:=cs.take sz) (aB.2 λx o=>(j x o).1);refine⟨bO π 20 (.agg (cs.take sz).toArray),(cs.drop sz).map (bO π 20),?_,⟨a _ _ d,?_⟩,yI a b⟩
   .rw[g]
    show cs.map _=(cs.take sz).map _++_
    rw[<-List.map_append,List.take_append_drop]
   .rw[g];refine⟨by show((cs.take sz).map (bO π 20)).length=sz;rw[List.length_map,p],λy n=>?_⟩;obtain⟨z,m,rfl⟩:=List.mem_map.1 (show y∈(cs.take sz).map (bO π 20)from n);rw[VF];exact(j z m).2
def an5 {α:Type}{E:pI α}(c:Tel E)(sz:Nat):Tel (aW E sz) where
 wU L l v:=match v with
  | .slice Y n cap=>Nat.beq n 0&&Nat.beq cap 0&&l.isEmpty
  | .slice (Z a) n cap=>Nat.beq a.off 0&&a.spot.isNone&&Nat.beq n l.length&&(Nat.beq cap dp||Nat.beq cap n)&&(match pz L a.block with
   |some (RN,cs)=>Nat.beq RN sz&&Bc sz (c.wU L) l cs
   |none=>O)
  |_=>O
 ok:=by
  intro π L m B hL l v h
  split at h
  .rename_i n cap;simp only[ag]at h;obtain⟨⟨h1,h2⟩,h3⟩:=h;rw[aA h1,aA h2,List.isEmpty_iff.1 h3];exact aW.nil
  .rename_i a n cap;simp only[ag]at h;obtain⟨⟨⟨⟨h1,h2⟩,h3⟩,h4⟩,h5⟩:=h
   split at h5
   .rename_i RN cs hg;rw[ag]at h5;obtain⟨hb,ho⟩:=hL _ _ _ hg;have gZ:=yI (π:=π) (λx v=>c.ok hL (x:=x) (v:=v)) h5.2;obtain⟨b,o,sp⟩:=a;have e1:o=0:=aA h1;have e2:sp=Y:=Option.isNone_iff_eq_none.1 h2;subst e1 e2;have e3:=aA h3;subst e3;rw[aA h5.1]at ho;refine⟨cs.map (bO π 20),⟨gZ.one.1,.inr ⟨π b,cap,rfl,ho,?_⟩⟩,λb' o' n' c' e=>by cases e;exact hb,gZ⟩;rw[Bool.or_eq_true]at h4;exact h4.imp aA aA
   .cases h5
  .cases h
def aeF:Tel rZ:=an5 (an4 FI.val λπ x=>by
 show ab.agg #[bO π 19 (.string x.n),bO π 19 (I x.k)]=_
 rw[tU rfl,tU rfl]) 2
def Zm (l:List ab):Bool:=l.all (oD 19)
def JA (m:Mem)(v:ab)(k:Nat):Option ab:=match v with
 | .pointer (Z a)=>if(m.blk a.block).kind=1 then((m.blk a.block).cs[a.off+k]?).join else Y
 | .slice (Z a) _ _=>if(m.blk a.block).kind=1 then((m.blk a.block).cs[a.off+k]?).join else Y
 | .map (Z r)=>if(m.blk r).kind=2 then((m.blk r).es.toList[k]?).map (·.val)else Y
 |_=>Y
def Wx (m:Mem):ab->List Nat->Option ab
 |v,[]=>Z v
 |v,k::l=>match JA m v k with |some u=>Wx m u l|none=>Y
def pO (m:Mem)(args:List ab)(l:List Nat):Option ab:=match l with
 |i::j::l=>((args[i]?).bind λa=>a.cells.toList[j]?).bind λv=>Wx m v l
 |_=>Y
def Lb:ab->Option Nat
 | .pointer (Z a)=>Z a.block
 | .slice (Z a) _ _=>Z a.block
 | .map (Z r)=>Z r
 |_=>Y
theorem K' {π:Nat->Nat}{v:ab}:Lb (bO π 20 v)=(Lb v).map π:=by
 cases v with
 |pointer a=>cases a<;>rfl
 |slice a l c=>cases a<;>rfl
 |map a=>cases a<;>rfl
 |_=>rfl
section
variable {G:Nat}{mi m:Mem}{π:Nat->Nat}
theorem Ti (h:pG G mi m π){v u:ab}{k:Nat}(e:JA mi v k=Z u):JA m (bO π 20 v) k=Z (bO π 20 u):=by
 have cell:∀{b o:Nat},(if(mi.blk b).kind=1 then((mi.blk b).cs[o]?).join else Y)=Z u->(if(m.blk (π b)).kind=1 then((m.blk (π b)).cs[o]?).join else Y)=Z (bO π 20 u):=λ{b o} e=>by
  split at e
  .rename_i d;have s:=h.same b (by rw[d];decide);rw[bh (s.kind.trans d),(s.cells d).2,List.getElem?_map];cases f:(mi.blk b).cs[o]? with
   |none=>rw[f]at e;cases e
   |some x=>
    rw[f]at e;cases x with
    |none=>cases e
    |some y=>cases e;rfl
  .cases e
 cases v with
 |pointer a=>cases a with
  |none=>cases e
  |some a=>exact cell e
 |slice a l c=>cases a with
  |none=>cases e
  |some a=>exact cell e
 |map r=>cases r with
  |none=>cases e
  |some r=>
   unfold JA at e;simp only at e
   split at e
   .rename_i d;have s:=h.same r (by rw[d];decide)
    show(if(m.blk (π r)).kind=2 then((m.blk (π r)).es.toList[k]?).map (·.val)else Y)=_
    rw[bh (s.kind.trans d),(s.map d).1,List.getElem?_map];cases f:(mi.blk r).es.toList[k]? with
    |none=>rw[f]at e;cases e
    |some x=>rw[f]at e;cases e;rfl
   .cases e
 |_=>cases e
theorem Qi (h:pG G mi m π):∀{l:List Nat}{v u:ab},Wx mi v l=Z u->Wx m (bO π 20 v) l=Z (bO π 20 u)
 | [],v,u,e=>by cases e;rfl
 |k::l,v,u,e=>by
  unfold Wx at e⊢
  split at e
  .rename_i x a;rw[Ti h a];exact Qi h e
  .cases e
theorem Tt {a v:ab}{j:Nat}(e:oD 20 a=U)(b:a.cells.toList[j]?=Z v):(bO π 20 a).cells.toList[j]?=Z (bO π 20 v):=by
 cases a with
 |agg cs=>
  have d:cs.toList.all (oD 19)=U:=e;have b:cs.toList[j]?=Z v:=b
  show((cs.toList.map (bO π 19)))[j]?=_
  rw[List.getElem?_map,b];exact congrArg Z (vZ (aB.1 d _ (List.mem_of_getElem? b))).symm
 |pointer p=>
  have b:[ab.pointer p][j]?=Z v:=b;cases j with
  |zero=>cases b;cases p<;>rfl
  |succ j=>cases b
 |slice p n c=>
  have b:[ab.slice p n c][j]?=Z v:=b;cases j with
  |zero=>cases b;cases p<;>rfl
  |succ j=>cases b
 |map p=>
  have b:[ab.map p][j]?=Z v:=b;cases j with
  |zero=>cases b;cases p<;>rfl
  |succ j=>cases b
 |_=>cases j with
  |zero=>cases b;rfl
  |succ j=>cases b
theorem Lv (h:pG G mi m π){args:List ab}(c:args.all (oD 20)=U){l:List Nat}{u:ab}(e:pO mi args l=Z u):pO m (args.map (bO π 20)) l=Z (bO π 20 u):=by
 unfold pO at e⊢
 split at e
 .rename_i i j l;obtain⟨v,g,f⟩:=bM.1 e;obtain⟨a,b,d⟩:=bM.1 g;refine bM.2 ⟨bO π 20 v,bM.2 ⟨bO π 20 a,by rw[List.getElem?_map,b];rfl,?_⟩,Qi h f⟩;exact Tt (aB.1 c _ (List.mem_of_getElem? b)) d
 .cases e
theorem Lu {G':Nat}{a:Mem}{rI:Nat->Nat}{args b xs:List ab}(h:pG G mi m π)(k:pG G' a m rI)(j:args.all (oD 20)=U)(g:b.all (oD 20)=U)(e:xs=args.map (bO π 20))(e':xs=b.map (bO rI 20)){l:List Nat}{u c:ab}(n:pO mi args l=Z u)(i:pO a b l=Z c):bO π 20 u=bO rI 20 c:=by
 have f:=Lv h j n;have d:=Lv k g i;rw[<-e]at f;rw[<-e',f]at d;exact Option.some.inj d
theorem acb {G':Nat}{a:Mem}{rI:Nat->Nat}{args d xs:List ab}(h:pG G mi m π)(q:pG G' a m rI)(k:args.all (oD 20)=U)(i:d.all (oD 20)=U)(e:xs=args.map (bO π 20))(e':xs=d.map (bO rI 20)){l:List Nat}{u c:ab}{b b':Nat}(n:pO mi args l=Z u)(j:pO a d l=Z c)(p:Lb u=Z b)(g:Lb c=Z b'):π b=rI b':=by
 have :=Lu h q k i e e' n j;have f:Lb (bO π 20 u)=Z (π b):=by rw[K',p];rfl
 have o:Lb (bO rI 20 c)=Z (rI b'):=by rw[K',g];rfl
 rw[this,o]at f;exact(Option.some.inj f).symm
end
def FK (N nx:Nat)(l:List (Nat×Nat))(b:Nat):Nat:=if b<12 then b else if b<N then(match l.find? λx=>Nat.beq x.1 b with |some x=>x.2|none=>0)else nx+(b-N)
def kOk (K:List (Nat×eh))(N:Nat):Bool:=K.all λx=>Nat.ble 12 x.1&&Nat.blt x.1 N&&Nat.blt 0 x.2.kind&&Nat.ble x.2.kind 3&&okB x.2&&Nat.beq x.2.pos 0&&x.2.cs.all (·.isSome)
theorem Ql {K:List (Nat×eh)}{N:Nat}(d:kOk K N=U)(b:Nat):((Gi tG K N).blk b).kind≠0->b=0\/∃k,(b,k)∈K/\(Gi tG K N).blk b={k with bq:=1}:=λa=>by
 rcases gL (m:=tG) (L:=K) (nx:=N) b with⟨e,_⟩|⟨k,c,e⟩
 .rw[e,iS]at a
  split at a
  .rename_i h;exact .inl h.symm
  .exact absurd rfl a
 .exact .inr ⟨k,c,e⟩
theorem vt {K:List (Nat×eh)}{N:Nat}(h:kOk K N=U){x:Nat×eh}(b:x∈K):12<=x.1/\x.1<N/\0<x.2.kind/\x.2.kind<=3/\okB x.2=U/\x.2.pos=0/\∀y∈x.2.cs,y≠Y:=by
 have :=aB.1 h x b;simp only[ag]at this;obtain⟨⟨⟨⟨⟨⟨k,j⟩,i⟩,g⟩,f⟩,d⟩,c⟩:=this;exact⟨af k,af j,af i,af g,f,aA d,λy a e=>by
  have :=aB.1 c y a;rw[e]at this;cases this⟩
structure Emb (m:Mem)(π:Nat->Nat)(K:List (Nat×eh)):Prop where
 lt:∀x∈K,π x.1<m.next
 base:∀x∈K,m.base<=π x.1/\m.home<=π x.1
 kH:∀x∈K,wW π x.2 (m.blk (π x.1))
 inj:∀x∈K,∀y∈K,π x.1=π y.1->x.1=y.1
theorem alX {m:Mem}(p:Calm m)(i:Gl m){K:List (Nat×eh)}{N:Nat}{l:List (Nat×Nat)}(f:kOk K N=U)(y:12<=N)(B:∀x∈l,x.2<m.next)(n:Emb m (FK N m.next l) K):pG ae.globals.size (Gi tG K N) m (FK N m.next l):=by
 have j:=λb=>Ql (b:=b) f
 have q:FK N m.next l 0=0:=rfl;have w:(Gi tG K N).blk 0={kind:=1,cs:=cP}:=by
  rcases gL (m:=tG) (L:=K) (nx:=N) 0 with⟨e,_⟩|⟨k,u,_⟩
  .rw[e,iS,bh rfl]
  .have o:12<=0:=(vt f u).1;omega
 have g:=i.pS;refine⟨aeY Ia rfl y λx t=>?_,rfl,y,p.floor,i.hn,rfl,p.bI,rfl,p.opn,rfl,p.wg,rfl,p.gd.pend,rfl,p.gd.deaf,λb a=>?_,λb a=>?_,λb a=>?_,λb E o v r=>?_,λb a=>?_,λb=>?_,λb a d=>?_,λb a=>?_,λb a=>?_,i.low⟩
 .obtain⟨_,v,_,D,_,_,C⟩:=vt f t;exact⟨v,C,D⟩
 .rw[globals_size]at a;exact bh a
 .have a:b<N:=a;have :=i.nx;unfold FK
  by_cases A:b<12
  .rw[bh A];omega
  .rw[bH A,bh a]
   split
   .rename_i x t;exact B x (List.mem_of_find?_eq_some t)
   .omega
 .have a:N<=b:=a;unfold FK;rw[bH ai,bH ai];rfl
 .have F:=i.base;rcases j b o with rfl|⟨k,c,_⟩<;>rcases j E v with rfl|⟨G,z,_⟩
  .rfl
  .rw[q]at r;have :=(n.base _ z).1;rw[<-r]at this;omega
  .rw[q]at r;have :=(n.base _ c).1;rw[r]at this;omega
  .exact n.inj _ c _ z r
 .rcases j b a with rfl|⟨k,c,e⟩
  .rw[q,w];refine⟨g.kind,λ_=>⟨g.sz,?_⟩,λh=>(by cases h),λh=>by cases h⟩;rw[show(({kind:=1,cs:=cP}:eh).cs)=cP from rfl,Dv,g.cs]
   kernel_rfl
  .rw[e];have s:=n.kH _ c;exact⟨s.kind,s.cells,s.map,s.iter⟩
 .rcases gL (m:=tG) (L:=K) (nx:=N) b with⟨e,_⟩|⟨k,u,e⟩
  .rw[e,iS]
   split
   .kernel_rfl
   .rfl
  .rw[e];exact(vt f u).2.2.2.2.1
 .rcases j b (by rw[a];decide)with rfl|⟨k,c,e⟩
  .rw[w]at d;cases d
  .rw[e]at d;have d:k.pos=1:=d;rw[(vt f c).2.2.2.2.2.1]at d;cases d
 .have :=i.base;rcases j b a with rfl|⟨k,c,_⟩
  .rw[q];exact⟨λh=>absurd (show 12<=0 from h) eJ,λh=>by omega⟩
  .have o:=(vt f c).1;exact⟨λ_=>(n.base _ c).1,λ_=>o⟩
 .have :=i.home;rcases j b a with rfl|⟨k,c,_⟩
  .rw[q];exact⟨λh=>absurd (show 12<=0 from h) eJ,λh=>by omega⟩
  .have o:=(vt f c).1;exact⟨λ_=>(n.base _ c).2,λ_=>o⟩
def Wb (mq:Mem)(L:List (Nat×eh))(nx:Nat):Bool:=
 Nat.beq mq.base 12&&Nat.beq mq.home 12&&Nat.beq mq.floor 12&&mq.bI.isEmpty&&mq.opn.isEmpty&&mq.wg.isNone&&Nat.beq mq.deaf 0&&Nat.ble mq.next nx&&Nat.ble 12 nx&&HH (mq.blk 0) (tG.blk 0)&&
 L.all λx=>Nat.ble 12 x.1&&Nat.blt x.1 nx&&Nat.ble x.2.kind 3&&HH x.2 (mq.blk x.1)&&okB x.2
theorem Wa {f:Mem}{L:List (Nat×eh)}{nx:Nat}(h:Wb f L nx=U):Pw tG f L nx/\∀x∈L,12<=x.1/\x.1<nx:=by
 unfold Wb at h;simp only[ag]at h;obtain⟨⟨⟨⟨⟨⟨⟨⟨⟨⟨s,r⟩,q⟩,p⟩,o⟩,n⟩,m⟩,l⟩,k⟩,i⟩,d⟩:=h;have d:=aB.1 d;have a:∀x∈L,12<=x.1/\x.1<nx/\jd x.2 (f.blk x.1)/\x.2.live/\okB x.2=U:=λx c=>by
  have :=d x c;simp only[ag]at this;obtain⟨⟨⟨⟨w,v⟩,u⟩,j⟩,t⟩:=this;exact⟨af w,af v,EX j,⟨O1 j,af u⟩,t⟩
 refine⟨⟨aA s,aA r,aA q,List.isEmpty_iff.1 p,List.isEmpty_iff.1 o,Option.isNone_iff_eq_none.1 n,aA m,λb g=> .inr ?_,af l,af k,λx c=>⟨.inl (a x c).1,(a x c).2⟩⟩,λx c=>⟨(a x c).1,(a x c).2.1⟩⟩;rw[iS]at g
 split at g
 .rename_i e;subst e;exact EX i
 .exact absurd rfl g
noncomputable def gv.fact(r:gv):Bool:=(match Ct r.f r.args tG with |some (v',mq)=>Mh 20 r.v v'&&Wb mq r.L r.nx|none=>O)&&r.args.all (oD 20)&&oD 20 r.v
theorem gv.dY{r:gv}(h:r.fact=U)(hm:r.mi=tG)(g:dX ae r.f=U):Y9 Ct r/\∀x∈r.L,12<=x.1/\x.1<r.nx:=by
 unfold gv.fact at h;rw[ag,ag]at h;obtain⟨⟨h,i⟩,d⟩:=h
 split at h
 .rename_i j c e;rw[ag]at h;obtain⟨b,a⟩:=Wa h.2;refine⟨⟨⟨c,?_,by rw[hm];exact b⟩,g,i,d⟩,a⟩;rw[hm,e,pU h.1]
 .cases h
def Bh (T:List UInt8)(v:ab)(L:List (Nat×eh))(nx:Nat):gv:=⟨22,[.string ⟨T.toArray⟩],tG,v,L,nx⟩
def vN (n:Nat):ab:=.iface 316 (.agg #[I 1,I n,.string .empty,.bool O])
def dg (n:Nat):List UInt8:=if Nat.blt n 10 then[UInt8.ofNat (48+n)]else[UInt8.ofNat (48+n / 10),UInt8.ofNat (48+n%10)]
def F7 (a b:Nat):gv:=Bh ([73,78,83,69,82,84,32,73,78,84,79,32,103,32,86,65,76,85,69,83,32,40]++dg a++[44,32]++dg b++[41]) (.tuple #[.iface 95 (.agg #[.string ⟨#[103]⟩,vL 137 0 1 1]),I 0,I 0])
 [(125,{kind:=1,sz:=1,cs:=[Z (vN a),Z (vN b)]}),(137,{kind:=1,sz:=1,cs:=[Z (vL 125 0 2 dp)]})] 152
noncomputable def rO(a:Nat):Bool:=(List.range 12).all λb=>(F7 a b).fact
def bk (b sz:Nat)(cs:List ab):Nat×eh:=(b,{kind:=1,sz:=sz,cs:=cs.map Z})
def vk (b:Nat)(cs:List ab):Nat×eh:=(b,{kind:=1,pos:=1,cs:=cs.map Z})
def sB (l:List UInt8):ab:=.string ⟨l.toArray⟩
def Si (a b:List UInt8):ab:=.iface 320 (.agg #[sB a,sB b])
def pR:List UInt8:=[114,40,110,41,32,65,83,32,40,83,69,76,69,67,84,32,122,32,70,82,79,77,32,115,32,85,78,73,79,78,32,65,76,76,32,83,69,76,69,67,84,32,98,32,70,82,79,77,32,114,32,74,79,73,78,32,103,32,79,78,32,97,32,61,32,110,41,32,83,69,76,69,67,84,32,110,32,70,82,79,77,32,114]
def pTx (i j:Nat):List UInt8:=[87,73,84,72,32,82,69,67,85,82,83,73,86,69,32,115,40,122,41,32,65,83,32,40,83,69,76,69,67,84,32]++dg i++[32,85,78,73,79,78,32,65,76,76,32,83,69,76,69,67,84,32]++dg j++[41,44,32]++pR
def pT0:List UInt8:=[87,73,84,72,32,82,69,67,85,82,83,73,86,69,32]++pR
def pA (i j:Nat):List (Nat×eh):=[bk 66 1 [sB [122]],bk 137 2 [vN i,.string .empty],bk 205 2 [vN j,.string .empty],bk 216 4 [.bool U,vL 205 0 1 1,.slice Y 0 0,.nilIface],bk 267 1 [sB [110]],bk 339 2 [Si [] [122],.string .empty],bk 363 3 [sB [115],.string .empty,.nilIface],bk 429 2 [Si [] [98],.string .empty],bk 532 3 [sB [114],.string .empty,.nilIface,sB [103],.string .empty,.iface 304 (.agg #[I 11,Si [] [97],Si [] [110]])],bk 540 4 [.bool U,vL 429 0 1 1,vL 532 0 2 dp,.nilIface],bk 554 6 [sB [115],vL 66 0 1 1,vL 137 0 1 1,.slice Y 0 0,.nilIface,vL 216 0 1 dp,sB [114],vL 267 0 1 1,vL 339 0 1 1,vL 363 0 1 1,.nilIface,vL 540 0 1 dp],bk 605 2 [Si [] [110],.string .empty],bk 628 3 [sB [114],.string .empty,.nilIface]]
def pSV:ab:=.agg #[.bool U,vL 554 0 2 dp,vL 605 0 1 1,vL 628 0 1 1,.nilIface,.slice Y 0 0]
def aS (i j:Nat):gv:=Bh (pTx i j) (.tuple #[.iface 108 pSV,I 0,I 0]) (pA i j) 650
def pA0:List (Nat×eh):=[bk 66 1 [sB [110]],bk 138 2 [Si [] [122],.string .empty],bk 162 3 [sB [115],.string .empty,.nilIface],bk 228 2 [Si [] [98],.string .empty],bk 331 3 [sB [114],.string .empty,.nilIface,sB [103],.string .empty,.iface 304 (.agg #[I 11,Si [] [97],Si [] [110]])],bk 339 4 [.bool U,vL 228 0 1 1,vL 331 0 2 dp,.nilIface],bk 352 6 [sB [114],vL 66 0 1 1,vL 138 0 1 1,vL 162 0 1 1,.nilIface,vL 339 0 1 dp],bk 403 2 [Si [] [110],.string .empty],bk 426 3 [sB [114],.string .empty,.nilIface]]
def ala:ab:=.agg #[.bool U,vL 352 0 1 1,vL 403 0 1 1,vL 426 0 1 1,.nilIface,.slice Y 0 0]
def UW:gv:=Bh pT0 (.tuple #[.iface 108 ala,I 0,I 0]) pA0 448
structure iQ where
 f:Nat
 args:List ab
 K:List (Nat×eh)
 N:Nat
 c:List (Nat×List Nat)
 v:ab
 L:List (Nat×eh)
 nx:Nat
noncomputable def iQ.mi(r:iQ):Mem:=Gi tG r.K r.N
def iQ.at(r:iQ)(f:Nat)(args:List ab)(m:Mem)(π:Nat->Nat):Prop:=r.f=f/\args=r.args.map (bO π 20)/\(∃l,l.map (·.1)=r.c.map (·.1)/\π=FK r.N m.next l)/\pG ae.globals.size r.mi m π
noncomputable def iQ.out(r:iQ)(m:Mem)(π:Nat->Nat):Mem:=jg π r.mi m r.L r.nx
open Classical in
noncomputable def Zi(RS:iQ→Prop):cH:=λf args m=>
 if h:∃x:iQ×(Nat→Nat),RS x.1∧x.1.at f args m x.2 then Z (bO (Classical.choose h).2 20 (Classical.choose h).1.v,(Classical.choose h).1.out m (Classical.choose h).2)else Y
theorem ae6 {RS:iQ->Prop}{r:iQ}{f:Nat}{args:List ab}{m:Mem}{π:Nat->Nat}(e:RS r)(h:r.at f args m π)(d:∀a c,RS a->a.at f args m c->a.v=r.v/\a.L=r.L/\a.nx=r.nx/\a.N=r.N/\c=π):Zi RS f args m=Z (bO π 20 r.v,r.out m π):=by
 have b:∃x:iQ×(Nat->Nat),RS x.1/\x.1.at f args m x.2:=⟨(r,π),e,h⟩;unfold Zi;rw[dif_pos b];obtain⟨l,k,j,i,g⟩:=d _ _ (Classical.choose_spec b).1 (Classical.choose_spec b).2;unfold iQ.out jg;rw[l,k,j,g,show(iQ.mi (Classical.choose b).1).next=(iQ.mi r).next from i]
theorem Kh {RS:iQ->Prop}{f:Nat}{args:List ab}{m:Mem}(h:∀r,RS r->r.f≠f):Zi RS f args m=Y:=by
 unfold Zi;exact dif_neg λ⟨x,b,a,_⟩=>h _ b a
structure FF (call:cH)(r:iQ):Prop where
 call:∃mq,call r.f r.args r.mi=Z (r.v,mq)/\Pw r.mi mq r.L r.nx
 bod:dX ae r.f=U
 args:r.args.all (oD 20)=U
 val:oD 20 r.v=U
theorem ae5 {Fin:ab->ar->Prop}{call:cH}(C:gE ae X0 U (Jn Fin) Mv call){RS:iQ->Prop}(h:∀r,RS r->FF call r):gE ae X0 U (Jn Fin) Mv (Zi RS):=by
 intro f args m v s t a;unfold Zi at a
 split at a
 .rename_i b;have c:=Classical.choose_spec b;simp only[ah,ay]at a;obtain⟨rfl,rfl⟩:=a;generalize Classical.choose b=x at c;obtain⟨r,p⟩:=x;obtain⟨k,rfl,rfl,_,g⟩:=c;obtain⟨⟨q,n,l⟩,d,o,j⟩:=h r k;obtain⟨k1,i⟩:=LL (Fin:=Fin) C n d g l o j;exact⟨k1,λe=>(by rw[d]at e;cases e),λ_=>i⟩
 .cases a
def Re (mi:Mem)(args:List ab)(c:List (Nat×List Nat)):Bool:=c.all λx=>match pO mi args x.2 with
 |some v=>(match Lb v with |some b=>Nat.beq b x.1|none=>O)
 |none=>O
theorem My {mi:Mem}{args:List ab}{c:List (Nat×List Nat)}(h:Re mi args c=U){x:Nat×List Nat}(a:x∈c):∃v,pO mi args x.2=Z v/\Lb v=Z x.1:=by
 have :=aB.1 h x a
 split at this
 .rename_i v d
  split at this
  .rename_i b e;exact⟨v,d,by rw[e,aA this]⟩
  .cases this
 .cases this
theorem Lh {N nx:Nat}:∀{l:List (Nat×Nat)},(l.map (·.1)).Nodup->(∀x∈l,12<=x.1/\x.1<N)->∀x∈l,FK N nx l x.1=x.2:=by
 intro l b c x a;obtain⟨f,e⟩:=c x a;unfold FK;rw[bH ai,bh e];have :∀{l:List (Nat×Nat)},(l.map (·.1)).Nodup->x∈l->l.find? (λy=>Nat.beq y.1 x.1)=Z x:=by
  intro l
  induction l with
  |nil=>intro _ h;cases h
  |cons y l d=>
   intro b a;rw[List.map_cons,List.nodup_cons]at b;rw[List.find?_cons];rcases aN.1 a with rfl|a
   .rw[Nat.beq_refl]
   .have :Nat.beq y.1 x.1=O:=by
     cases c:Nat.beq y.1 x.1 with
     |false=>rfl
     |true=>exact absurd (List.mem_map.2 ⟨x,a,(aA c).symm⟩) b.1
    rw[this];exact d b.2 a
 rw[this b a]
theorem y9 {N nx:Nat}:∀{l c:List (Nat×Nat)} {ks:List Nat},l.map (·.1)=ks->c.map (·.1)=ks->(∀x∈l,∀y∈c,x.1=y.1->x.2=y.2)->l=c
 | [],[],_,_,_,_=>rfl
 | [],y::c,ks,h,d,_=>by rw[<-h]at d;cases d
 |x::l,[],ks,h,d,_=>by rw[<-d]at h;cases h
 |x::l,y::c,ks,h,d,e=>by
  rw[<-d,List.map_cons,List.map_cons]at h
  injection h with f k
  have j:=e x (List.mem_cons_self ..) y (List.mem_cons_self ..) f;rw[y9 (N:=N) (nx:=nx) (ks:=c.map (·.1)) k rfl λa i b g=>e a (List.mem_cons_of_mem _ i) b (List.mem_cons_of_mem _ g)]
  congr 1
  exact Prod.ext f j
theorem Hg {r b:iQ}{f:Nat}{args:List ab}{m:Mem}{π rI:Nat->Nat}(h:r.at f args m π)(J:b.at f args m rI)(E:b.c=r.c)(s:b.N=r.N)(F:r.args.all (oD 20)=U)(w:b.args.all (oD 20)=U)(q:Re r.mi r.args r.c=U)(n:Re b.mi b.args b.c=U)(j:(r.c.map (·.1)).Nodup/\∀x∈r.c,12<=x.1/\x.1<r.N):rI=π:=by
 obtain⟨_,e,⟨l,d,rfl⟩,D⟩:=h;obtain⟨_,M,⟨C,a,rfl⟩,P⟩:=J;rw[E]at a n;have p:∀{l:List (Nat×Nat)},l.map (·.1)=r.c.map (·.1)->∀x∈l,12<=x.1/\x.1<r.N:=λ{l} d x g=>by
  have :x.1∈r.c.map (·.1):=d▸List.mem_map.2 ⟨x,g,rfl⟩;obtain⟨y,i,L⟩:=List.mem_map.1 this;rw[<-L];exact j.2 y i
 have :C=l:=y9 (N:=0) (nx:=0) a d λx g y i k=>by
  have H:=Lh (N:=r.N) (nx:=m.next) (by rw[a];exact j.1) (p a) x g;have G:=Lh (N:=r.N) (nx:=m.next) (by rw[d];exact j.1) (p d) y i;have :x.1∈r.c.map (·.1):=a▸List.mem_map.2 ⟨x,g,rfl⟩;obtain⟨z,o,K⟩:=List.mem_map.1 this;obtain⟨v,B,u⟩:=My q o;obtain⟨Q,A,t⟩:=My n o;have :=acb D P F w e M B A u t;rw[s,K]at this;rw[<-H,<-G,<-k];exact this.symm
 rw[this,s]
def kP (k:eh):Nat×Nat×Nat×List (Option ab)×List MapEntry×Nat×List UInt8:=(k.kind,k.sz,k.pos,k.cs,k.es.toList,k.clock,k.str.data.toList)
theorem acG {k a:eh}(h:kP k=kP a):jd k a:=by
 unfold kP at h;simp only[ay]at h;obtain⟨l,j,i,g,f,e,b⟩:=h;refine⟨l,j,i,g,Array.toList_inj.1 f,e,?_⟩;cases d:k.str;cases c:a.str;rw[d,c]at b;simp only[Array.toList_inj]at b;rw[b]
def agq (ids:List Nat)(p:ab×Mem):ab×(Nat×Nat×Nat)×(List Span×List Span)×Bool×Nat×Nat×List (Nat×Nat×Nat×List (Option ab)×List MapEntry×Nat×List UInt8):=
 (p.1,(p.2.base,p.2.home,p.2.floor),(p.2.bI,p.2.opn),p.2.wg.isNone,p.2.deaf,p.2.next,ids.map λb=>kP (p.2.blk b))
theorem abW {r:iQ}{J:List (Nat×eh)}{B:Nat}(h:(Ct r.f r.args r.mi).map (agq (J.map (·.1)))=Z (r.v,(12,12,12),([],[]),U,0,B,J.map λx=>kP x.2))
  (u:∃k,(0,k)∈J/\jd k (tG.blk 0))(t:∀x∈r.K,∃k,(x.1,k)∈J/\((x.1,k)∈r.L\/jd k x.2))(X:∀x∈r.L,x∈J/\(r.N<=x.1\/∃k,(x.1,k)∈r.K/\x.2.kind=k.kind)/\x.1<r.nx/\x.2.live/\okB x.2=U)(s:kOk r.K r.N=U)(q:(r.K.map (·.1)).Nodup)(C:B<=r.nx/\r.N<=r.nx)
  (V:dX ae r.f=U)(W:r.args.all (oD 20)=U)(S:oD 20 r.v=U):FF Ct r:=by
 obtain⟨⟨v,j⟩,T,p⟩:=aD.1 h;unfold agq at p;simp only[ay]at p;obtain⟨rfl,⟨Q,P,M⟩,⟨H,G⟩,F,E,D,A⟩:=p;have c:∀{b:Nat}{k:eh},(b,k)∈J->jd k (j.blk b):=λ{b k} g=>by
  rw[List.map_map]at A;have :∀{l:List (Nat×eh)},(l.map ((λb=>kP (j.blk b))∘λx=>x.1))=l.map (λx=>kP x.2)->(b,k)∈l->kP (j.blk b)=kP k:=by
   intro l
   induction l with
   |nil=>intro _ h;cases h
   |cons y l R=>
    intro h i;rw[List.map_cons,List.map_cons]at h
    injection h with e1 e2
    rcases aN.1 i with rfl|i
    .exact e1
    .exact R e2 i
  exact acG (this A g).symm
 have z:∀{k n:eh},jd k n->jd n k:=λh=>h.symm
 have w:∀{b:Nat}{k:eh},(b,k)∈r.K->(Gi tG r.K r.N).blk b={k with bq:=1}:=λ{b k} g=>sV (x:=(b,k)) q g
 refine⟨⟨j,T,⟨Q,P,M,H,G,Option.isNone_iff_eq_none.1 F,E,λb J6=>?_,by rw[D];exact C.1,C.2,λx g=>?_⟩⟩,V,W,S⟩
 .rcases Ql s b J6 with rfl|⟨k,o,e⟩
  .obtain⟨k0,d,a⟩:=u;refine .inr ((z (c d)).trans (a.trans ?_));rcases gL (m:=tG) (L:=r.K) (nx:=r.N) 0 with⟨e,_⟩|⟨k,i,_⟩
   .have e:r.mi.blk 0=tG.blk 0:=e;rw[e];exact jd.Sb
   .have d:12<=0:=(vt s i).1;omega
  .obtain⟨n,d,a|a⟩:=t _ o
   .exact .inl ⟨n,a⟩
   .refine .inr ((z (c d)).trans (a.trans ?_));have e:r.mi.blk b={k with bq:=1}:=e;rw[e];exact⟨rfl,rfl,rfl,rfl,rfl,rfl,rfl⟩
 .obtain⟨d,a,h3,h4,h5⟩:=X x g;refine⟨a.imp id λ⟨k,o,ek⟩=>?_,h3,c d,h4,h5⟩;have e:r.mi.blk x.1={k with bq:=1}:=w o;rw[e];exact⟨λh=>by have a:0<k.kind:=(vt s o).2.2.1;have h:k.kind=0:=h;omega,ek⟩
def VB:gv:=Bh [67,82,69,65,84,69,32,84,65,66,76,69,32,103,40,97,32,73,78,84,44,32,98,32,73,78,84,41] (.tuple #[.iface 91 (.agg #[.string ⟨#[103]⟩,vL 93 0 2 dp]),I 0,I 0])
 [(93,{kind:=1,sz:=2,cs:=[Z (.string ⟨#[97]⟩),Z (I 1),Z (.string ⟨#[98]⟩),Z (I 1)]})] 116
def aon:gv:=Bh [83,69,76,69,67,84,32,42,32,70,82,79,77,32,103] (.tuple #[.iface 108 (.agg #[.bool O,.slice Y 0 0,.slice Y 0 0,vL 63 0 1 1,.nilIface,.slice Y 0 0]),I 0,I 0])
 [(63,{kind:=1,sz:=3,cs:=[Z (.string ⟨#[103]⟩),Z (.string .empty),Z (.nilIface)]})] 85
def aom:gv:=Bh [83,69,76,69,67,84,32,42,32,70,82,79,77,32,103,32,85,78,73,79,78,32,65,76,76,32,83,69,76,69,67,84,32,98,44,32,97,32,70,82,79,77,32,103] (.tuple #[.iface 108 (.agg #[.bool O,.slice Y 0 0,.slice Y 0 0,vL 64 0 1 1,.nilIface,vL 201 0 1 dp]),I 0,I 0])
 [(64,{kind:=1,sz:=3,cs:=[Z (.string ⟨#[103]⟩),Z (.string .empty),Z (.nilIface)]}),(170,{kind:=1,sz:=2,cs:=[Z (.iface 320 (.agg #[.string .empty,.string ⟨#[98]⟩])),Z (.string .empty),Z (.iface 320 (.agg #[.string .empty,.string ⟨#[97]⟩])),Z (.string .empty)]}),(193,{kind:=1,sz:=3,cs:=[Z (.string ⟨#[103]⟩),Z (.string .empty),Z (.nilIface)]}),(201,{kind:=1,sz:=4,cs:=[Z (.bool U),Z (vL 170 0 2 dp),Z (vL 193 0 1 1),Z (.nilIface)]})] 216
def aol:gv:=Bh [83,69,76,69,67,84,32,98,32,65,83,32,97,44,32,97,32,65,83,32,98,32,70,82,79,77,32,103,32,85,78,73,79,78,32,65,76,76,32,83,69,76,69,67,84,32,42,32,70,82,79,77,32,103] (.tuple #[.iface 108 (.agg #[.bool O,.slice Y 0 0,vL 139 0 2 dp,vL 163 0 1 1,.nilIface,vL 227 0 1 dp]),I 0,I 0])
 [(139,{kind:=1,sz:=2,cs:=[Z (.iface 320 (.agg #[.string .empty,.string ⟨#[98]⟩])),Z (.string ⟨#[97]⟩),Z (.iface 320 (.agg #[.string .empty,.string ⟨#[97]⟩])),Z (.string ⟨#[98]⟩)]}),(163,{kind:=1,sz:=3,cs:=[Z (.string ⟨#[103]⟩),Z (.string .empty),Z (.nilIface)]}),(219,{kind:=1,sz:=3,cs:=[Z (.string ⟨#[103]⟩),Z (.string .empty),Z (.nilIface)]}),(227,{kind:=1,sz:=4,cs:=[Z (.bool U),Z (.slice Y 0 0),Z (vL 219 0 1 1),Z (.nilIface)]})] 242
def aok:gv:=Bh [83,69,76,69,67,84,32,42,32,70,82,79,77,32,103,32,85,78,73,79,78,32,83,69,76,69,67,84,32,42,32,70,82,79,77,32,103] (.tuple #[.iface 108 (.agg #[.bool O,.slice Y 0 0,.slice Y 0 0,vL 64 0 1 1,.nilIface,vL 125 0 1 dp]),I 0,I 0])
 [(64,{kind:=1,sz:=3,cs:=[Z (.string ⟨#[103]⟩),Z (.string .empty),Z (.nilIface)]}),(117,{kind:=1,sz:=3,cs:=[Z (.string ⟨#[103]⟩),Z (.string .empty),Z (.nilIface)]}),(125,{kind:=1,sz:=4,cs:=[Z (.bool O),Z (.slice Y 0 0),Z (vL 117 0 1 1),Z (.nilIface)]})] 140
def w7:gv:=⟨14,[],tG,vP 13 0,KL,1225⟩
theorem NS:w7.fact=U:=aM
def r6:List ab:=[sB [97],I 1,sB [98],I 1]
def ad9:Nat×eh:=(1000,{kind:=2,clock:=1,es:=#[⟨sB [101],vP 1001 0,0⟩]})
def Xa:Nat×eh:=(1000,{kind:=2,clock:=2,es:=#[⟨sB [101],vP 1001 0,0⟩,⟨sB [103],vP 1002 0,1⟩]})
def wV:Option Nat->ab
 |none=> .slice Y 0 0
 |some n=>vL 1006 0 n dp
def cW:Option Nat->List (Nat×List Nat)
 |none=>[]
 |some _=>[(1006,[0,0,1,1])]
def kG (o:Option Nat):List (Nat×eh):=[Xa,bk 1002 0 [vL 1004 0 2 dp,wV o],bk 1004 2 r6]
def cG (o:Option Nat):List (Nat×List Nat):=[(1000,[0,0]),(1001,[0,0,0]),(1002,[0,0,1]),(1004,[0,0,1,0])]++cW o
def qQ:iQ:={f:=38,args:=[vP 1010 0,.agg #[sB [103],vL 93 0 2 dp]],K:=[bk 93 2 r6,ad9,bk 1010 0 [.int .i32 1,.int .u32 0,.map (Z 1000)]],N:=1100,c:=[(93,[1,1]),(1010,[0,0]),(1000,[0,0,2]),(1001,[0,0,2,0])],v:=I 0,L:=[(1000,{kind:=2,clock:=2,es:=#[⟨sB [101],vP 1001 0,0⟩,⟨sB [103],vP 1108 0,1⟩]}),vk 1108 [vL 93 0 2 dp,.slice Y 0 0]],nx:=1109}
structure CD where
 f:Nat
 A:List (Nat×eh)
 c:List (Nat×List Nat)
 sv:ab
 qv:ab
 L:List (Nat×eh)
 nx:Nat
 er:Int:=0
def gO (d:CD)(o:Option Nat):iQ:={f:=d.f,args:=[.map (Z 1000),d.sv],K:=d.A++kG o,N:=1100,c:=d.c++cG o,v:=.tuple #[d.qv,I d.er],L:=d.L,nx:=d.nx}
def iD (a b:Nat):CD:={f:=73,sv:=.agg #[sB [103],vL 137 0 1 1],A:=(F7 a b).L,c:=[(125,[1,1,0]),(137,[1,1])],qv:=vL 1112 0 1 dp,L:=[vk 1104 [I 1,I a,.string .empty,.bool O],vk 1108 [I 1,I b,.string .empty,.bool O],bk 1110 1 [.iface 317 (vP 1104 0),.iface 317 (vP 1108 0)],bk 1112 1 [vL 1110 0 2 dp]],nx:=1113}
def q1D:CD:={f:=75,sv:=.agg #[.bool O,.slice Y 0 0,.slice Y 0 0,vL 63 0 1 1,.nilIface,.slice Y 0 0],A:=aon.L,c:=[(63,[1,3])],qv:=.agg #[.slice Y 0 0,vL 1129 0 2 dp,vL 1116 0 1 dp,.nilIface,vL 1127 0 2 dp,.slice Y 0 0],L:=[bk 1116 2 [vP 1002 0,.nilIface],vk 1119 [vP 1002 0,I 0,I 0],vk 1125 [vP 1002 0,I 0,I 1],bk 1127 1 [.iface 396 (vP 1119 0),.iface 396 (vP 1125 0)],bk 1129 2 r6],nx:=1132}
def q2D:CD:={f:=75,sv:=.agg #[.bool O,.slice Y 0 0,.slice Y 0 0,vL 64 0 1 1,.nilIface,vL 201 0 1 dp],A:=aom.L,c:=[(64,[1,3]),(170,[1,5,1]),(193,[1,5,2]),(201,[1,5])],qv:=.agg #[.slice Y 0 0,vL 1129 0 2 dp,vL 1116 0 1 dp,.nilIface,vL 1127 0 2 dp,vL 1186 0 1 dp],L:=[bk 1116 2 [vP 1002 0,.nilIface],vk 1119 [vP 1002 0,I 0,I 0],vk 1125 [vP 1002 0,I 0,I 1],bk 1127 1 [.iface 396 (vP 1119 0),.iface 396 (vP 1125 0)],bk 1129 2 r6,bk 1142 2 [vP 1002 0,.nilIface],vk 1150 [vP 1002 0,I 0,I 1],vk 1166 [vP 1002 0,I 0,I 0],bk 1170 1 [.iface 396 (vP 1150 0),.iface 396 (vP 1166 0)],bk 1186 4 [.bool U,vL 1142 0 1 dp,.nilIface,vL 1170 0 2 dp]],nx:=1188}
def q3D:CD:={f:=75,sv:=.agg #[.bool O,.slice Y 0 0,vL 139 0 2 dp,vL 163 0 1 1,.nilIface,vL 227 0 1 dp],A:=aol.L,c:=[(139,[1,2]),(163,[1,3]),(219,[1,5,2]),(227,[1,5])],qv:=.agg #[.slice Y 0 0,vL 1149 0 2 dp,vL 1116 0 1 dp,.nilIface,vL 1144 0 2 dp,vL 1186 0 1 dp],L:=[bk 1116 2 [vP 1002 0,.nilIface],vk 1124 [vP 1002 0,I 0,I 1],vk 1140 [vP 1002 0,I 0,I 0],bk 1144 1 [.iface 396 (vP 1124 0),.iface 396 (vP 1140 0)],bk 1149 2 r6,bk 1162 2 [vP 1002 0,.nilIface],vk 1165 [vP 1002 0,I 0,I 0],vk 1171 [vP 1002 0,I 0,I 1],bk 1173 1 [.iface 396 (vP 1165 0),.iface 396 (vP 1171 0)],bk 1186 4 [.bool U,vL 1162 0 1 dp,.nilIface,vL 1173 0 2 dp]],nx:=1188}
def q4D:CD:={f:=75,sv:=.agg #[.bool O,.slice Y 0 0,.slice Y 0 0,vL 64 0 1 1,.nilIface,vL 125 0 1 dp],A:=aok.L,c:=[(64,[1,3]),(117,[1,5,2]),(125,[1,5])],qv:=.agg #[.slice Y 0 0,vL 1129 0 2 dp,vL 1116 0 1 dp,.nilIface,vL 1127 0 2 dp,vL 1166 0 1 dp],L:=[bk 1116 2 [vP 1002 0,.nilIface],vk 1119 [vP 1002 0,I 0,I 0],vk 1125 [vP 1002 0,I 0,I 1],bk 1127 1 [.iface 396 (vP 1119 0),.iface 396 (vP 1125 0)],bk 1129 2 r6,bk 1142 2 [vP 1002 0,.nilIface],vk 1145 [vP 1002 0,I 0,I 0],vk 1151 [vP 1002 0,I 0,I 1],bk 1153 1 [.iface 396 (vP 1145 0),.iface 396 (vP 1151 0)],bk 1166 4 [.bool O,vL 1142 0 1 dp,.nilIface,vL 1153 0 2 dp]],nx:=1168}
def Qv:Nat×eh:=(0,{kind:=1,cs:=cP})
def lOk (K L:List (Nat×eh))(N nx:Nat):Bool:=L.all λx=>(Nat.ble N x.1||K.any λy=>Nat.beq y.1 x.1&&Nat.beq x.2.kind y.2.kind)&&Nat.blt x.1 nx&&Nat.ble x.2.kind 3&&(x.2.cs.all (·.isSome))&&okB x.2
def ndB:List Nat->Bool
 | []=>U
 |x::l=>l.all (λy=>!Nat.beq x y)&&ndB l
def iQ.wU(r:iQ):Bool:=lOk r.K r.L r.N r.nx&&kOk r.K r.N&&ndB (r.K.map (·.1))&&ndB (r.c.map (·.1))&&(r.c.all λx=>Nat.ble 12 x.1&&Nat.blt x.1 r.N)&&Nat.ble r.N r.nx&&r.args.all (oD 20)&&oD 20 r.v&&ndB (r.L.map (·.1))
def iQ.J(r:iQ):List (Nat×eh):=Qv::r.K++r.L
structure iQ.Fact(r:iQ)(J:List (Nat×eh)):Prop where
 run:(Ct r.f r.args r.mi).map (agq (J.map (·.1)))=Z (r.v,(12,12,12),([],[]),U,0,r.nx,J.map λx=>kP x.2)
 wU:r.wU=U
 cert:Re r.mi r.args r.c=U
theorem qP:qQ.Fact (Qv::bk 93 2 r6::bk 1010 0 [.int .i32 1,.int .u32 0,.map (Z 1000)]::qQ.L):=⟨aM,aM,aM⟩
theorem QA (a b:Nat)(o:Option Nat):(gO (iD a b) o).Fact (gO (iD a b) o).J:=by cases o<;>exact⟨aM,aM,aM⟩
theorem VT (o:Option Nat):(gO q1D o).Fact (gO q1D o).J:=by cases o<;>exact⟨aM,aM,aM⟩
theorem VS (o:Option Nat):(gO q2D o).Fact (gO q2D o).J:=by cases o<;>exact⟨aM,aM,aM⟩
theorem VQ (o:Option Nat):(gO q3D o).Fact (gO q3D o).J:=by cases o<;>exact⟨aM,aM,aM⟩
theorem VP (o:Option Nat):(gO q4D o).Fact (gO q4D o).J:=by cases o<;>exact⟨aM,aM,aM⟩
def sh (lo b:Nat):Nat:=if b<12 then b else lo+(b-12)
theorem G0 {lo b:Nat}(h:12<=b):sh lo b=lo+(b-12):=bH ai
def rz (lo:Nat)(L:List (Nat×eh))(m:Mem):Prop:=∀b sz cs,pz L b=Z (sz,cs)->12<=b/\Obj m (sh lo b) sz (cs.map (bO (sh lo) 20))
theorem rz.ext{lo:Nat}{L:List (Nat×eh)}{m m':Mem}{S:Nat->Prop}(h:rz lo L m)(k:Kp m m' S)(f:∀b,S b->b<lo):rz lo L m':=λb c i e=>by
 obtain⟨a,g⟩:=h b c i e;refine⟨a,g.ext k λd=>?_⟩;have :=f _ d;rw[G0 a]at this;omega
structure adz (m:Mem)(mp pe pg:Nat):Prop where
 lt:mp<m.next
 kind:(m.blk mp).kind=2
 es:(m.blk mp).es.toList=[⟨sB [101],vP pe 0,0⟩,⟨sB [103],vP pg 0,1⟩]
 clock:(m.blk mp).clock=2
 Dh:aP m.bI mp=O
 home:m.home<=mp
theorem adz.ext{m m':Mem}{a b pg:Nat}{S:Nat->Prop}(h:adz m a b pg)(k:Kp m m' S)(c:¬S a):adz m' a b pg:=by
 have e:=k.blk a h.lt c;exact⟨aZ h.lt k.next,by rw[e];exact h.kind,by rw[e];exact h.es,by rw[e];exact h.clock,by rw[k.bI];exact h.Dh,by rw[k.home];exact h.home⟩
structure GX (m:Mem)(mp pe pg cg:Nat)(rl:ab):Prop where
 map:adz m mp pe pg
 g:Obj m pg 0 [vL cg 0 2 dp,rl]
 c:Obj m cg 2 r6
 w:rl=.slice Y 0 0\/∃rb n,rl=vL rb 0 n dp/\rb<m.next
 pe:pe<m.next
 base:(m.base<=mp/\m.base<=pg/\m.base<=cg)/\m.home<=mp/\m.home<=pg/\m.home<=cg
structure JZ (m:Mem)(lo mp pg cg:Nat):Prop where
 lt:mp<lo/\pg<lo/\cg<lo
 lo:m.base<=lo/\m.home<=lo
theorem JZ.ext{m m':Mem}{lo a pg b:Nat}{S:Nat->Prop}(h:JZ m lo a pg b)(k:Kp m m' S):JZ m' lo a pg b:=⟨h.lt,by rw[k.base,k.home];exact h.lo⟩
theorem GX.ext{m m':Mem}{a i pg d:Nat}{f:ab}{S:Nat->Prop}(h:GX m a i pg d f)(k:Kp m m' S)(b:¬S a/\¬S pg/\¬S d):GX m' a i pg d f:=by
 have n:=k.next;refine⟨h.map.ext k b.1,h.g.ext k b.2.1,h.c.ext k b.2.2,h.w.imp id λ⟨j,l,e,o⟩=>⟨j,l,e,ai⟩,aZ h.pe n,?_⟩;rw[k.base,k.home];exact h.base
def oW (rl:ab):Option Nat:=match rl with | .slice (Z _) n _=>Z n|_=>Y
def lW (rl:ab):List (Nat×Nat):=match rl with | .slice (Z a) _ _=>[(1006,a.block)] |_=>[]
def lG (mp pe pg cg:Nat)(rl:ab):List (Nat×Nat):=[(1000,mp),(1001,pe),(1002,pg),(1004,cg)]++lW rl
def lA (lo:Nat)(A:List (Nat×eh))(mp pe pg cg:Nat)(rl:ab):List (Nat×Nat):=A.map (λx=>(x.1,sh lo x.1))++lG mp pe pg cg rl
def aOk:Nat->List (Nat×eh)->Bool
 |_,[]=>U
 |lo,x::l=>Nat.ble lo x.1&&Nat.blt x.1 1000&&Nat.beq x.2.kind 1&&(match GM x.2.cs with |some cs=>cs.all (oD 20)|none=>O)&&aOk (x.1+1) l
theorem FD:∀{lo:Nat}{A:List (Nat×eh)},aOk lo A=U->(∀x∈A,lo<=x.1/\x.1<1000/\x.2.kind=1/\∃a,GM x.2.cs=Z a/\pz A x.1=Z (x.2.sz,a))/\(A.map (·.1)).Nodup
 |_,[],_=>⟨λx m=>(by cases m),List.nodup_nil⟩
 |lo,x::l,h=>by
  unfold aOk at h;simp only[ag]at h;obtain⟨⟨⟨⟨f,d⟩,c⟩,i⟩,o⟩:=h;have f:=af f;have d:x.1<1000:=af d;have c:=aA c;obtain⟨g,k⟩:=FD o;refine⟨λy b=>?_,?_⟩
  .rcases aN.1 b with rfl|b
   .split at i
    .rename_i a j;refine⟨f,d,c,a,j,?_⟩;unfold pz;rw[bh (Nat.beq_refl _),c,bh (by rfl),j]
    .cases i
   .obtain⟨t,s,r,a,q,p⟩:=g y b;refine⟨ai,s,r,a,q,?_⟩;have :Nat.beq x.1 y.1=O:=by
     cases hb:Nat.beq x.1 y.1 with
     |false=>rfl
     |true=>have :=aA hb;omega
    unfold pz;rw[this];exact p
  .rw[List.map_cons,List.nodup_cons];refine⟨λn=>?_,k⟩;obtain⟨y,b,e⟩:=List.mem_map.1 n;have :=(g y b).1;omega
def Xn (p:Nat->Bool):Nat->ab->Bool
 |0,v=>U
 |n+1,v=>match v with
  | .pointer (Z a)=>p a.block
  | .slice (Z a) _ _=>p a.block
  | .map (Z r)=>p r
  | .func _ f c=>f.toList.all (Xn p n)&&c.toList.all (Xn p n)
  | .iface _ x=>Xn p n x
  | .agg cs=>cs.toList.all (Xn p n)
  | .tuple cs=>cs.toList.all (Xn p n)
  |_=>U
theorem PW {π rI:Nat->Nat}{p:Nat->Bool}(e:∀b,p b=U->π b=rI b):∀{n:Nat}{v:ab},Xn p n v=U->bO π n v=bO rI n v:=by
 intro n
 induction n with
 |zero=>intro v _;rfl
 |succ n g=>
  have d:∀{l:List ab},l.all (Xn p n)=U->l.map (bO π n)=l.map (bO rI n):=λh=>List.map_congr_left λv i=>g (aB.1 h v i)
  intro v h;cases v with
  |pointer a=>cases a with
   |none=>rfl
   |some a=>show ab.pointer (Z ⟨π a.block,a.off,a.spot⟩)=_;rw[e _ h];rfl
  |slice a l c=>cases a with
   |none=>rfl
   |some a=>show ab.slice (Z ⟨π a.block,a.off,a.spot⟩) l c=_;rw[e _ h];rfl
  |map r=>cases r with
   |none=>rfl
   |some r=>show ab.map (Z (π r))=_;rw[e _ h];rfl
  |func j f c=>
   have h:(f.toList.all (Xn p n)&&c.toList.all (Xn p n))=U:=h;rw[ag]at h
   show ab.func j (f.toList.map (bO π n)).toArray (c.toList.map (bO π n)).toArray=_
   rw[d h.1,d h.2];rfl
  |iface t x=>show ab.iface t (bO π n x)=_;rw[g h];rfl
  |agg cs=>show ab.agg (cs.toList.map (bO π n)).toArray=_;rw[d h];rfl
  |tuple cs=>show ab.tuple (cs.toList.map (bO π n)).toArray=_;rw[d h];rfl
  |_=>rfl
def aIn (A:List (Nat×eh)):Bool:=A.all λx=>x.2.cs.all λc=>match c with |some v=>Xn (λb=>Nat.blt b 12||A.any λy=>Nat.beq y.1 b) 20 v|none=>U
section
variable {m:Mem}{lo mp pe pg cg:Nat}{rl:ab}{A:List (Nat×eh)}
theorem adS (f:aOk 12 A=U){x:Nat×eh}(a:x∈A):FK 1100 m.next (lA lo A mp pe pg cg rl) x.1=sh lo x.1:=by
 obtain⟨d,c⟩:=FD f;obtain⟨i,g,_⟩:=d x a;unfold FK lA;rw[bH ai,bh ai,List.find?_append];have :∀{A:List (Nat×eh)},(A.map (·.1)).Nodup->x∈A->(A.map λy=>(y.1,sh lo y.1)).find? (λy=>Nat.beq y.1 x.1)=Z (x.1,sh lo x.1):=by
  intro A
  induction A with
  |nil=>intro _ h;cases h
  |cons y l e=>
   intro b a;rw[List.map_cons,List.nodup_cons]at b;rw[List.map_cons,List.find?_cons];rcases aN.1 a with rfl|a
   .simp only[Nat.beq_refl]
   .have :Nat.beq y.1 x.1=O:=by
     cases hb:Nat.beq y.1 x.1 with
     |false=>rfl
     |true=>exact absurd (List.mem_map.2 ⟨x,a,(aA hb).symm⟩) b.1
    simp only[this];exact e b.2 a
 rw[this c a];rfl
theorem DR (f:aOk 12 A=U){b:Nat}(g:1000<=b)(a:b<1100):FK 1100 m.next (lA lo A mp pe pg cg rl) b=FK 1100 m.next (lG mp pe pg cg rl) b:=by
 obtain⟨c,_⟩:=FD f;unfold FK lA;rw[bH ai,bh a,bH ai,bh a,List.find?_append];have :(A.map λy=>(y.1,sh lo y.1)).find? (λy=>Nat.beq y.1 b)=Y:=by
  rw[List.find?_eq_none];intro y d h;obtain⟨x,e,rfl⟩:=List.mem_map.1 d;have :=aA h;have :=(c x e).2.1;simp only at*;omega
 rw[this];rfl
theorem ab0 {b:Nat}(a:1100<=b):FK 1100 m.next (lA lo A mp pe pg cg rl) b=m.next+(b-1100):=by
 unfold FK;rw[bH ai,bH ai]
theorem aqO (r:aOk 12 A=U)(S:aIn A=U)(X:GX m mp pe pg cg rl)(K:JZ m lo mp pg cg)(L:rz lo A m):Emb m (FK 1100 m.next (lA lo A mp pe pg cg rl)) (A++kG (oW rl)):=by
 obtain⟨q,q2⟩:=FD r;obtain⟨a,l⟩:∃a,a=FK 1100 m.next (lA lo A mp pe pg cg rl):=⟨_,rfl⟩;rw[<-l];have pA:∀{x:Nat×eh},x∈A->a x.1=sh lo x.1:=λd=>by rw[l];exact adS r d
 have j:a 1000=mp:=by rw[l,DR r eJ eJ];rfl
 have P:a 1001=pe:=by rw[l,DR r eJ eJ];rfl
 have i:a 1002=pg:=by rw[l,DR r eJ eJ];rfl
 have f:a 1004=cg:=by rw[l,DR r eJ eJ];rfl
 have D:=X.g.kind;have N:=X.c.kind;have E:=X.map.kind;have B:mp≠pg:=λe=>by rw[e,D]at E;cases E
 have z:mp≠cg:=λe=>by rw[e,N]at E;cases E
 have u:pg≠cg:=λe=>by
  have F:=X.g.sz;have T:=X.c.sz;rw[e,T]at F;cases F
 have Q:bO a 20 (wV (oW rl))=rl:=by
  rcases X.w with rfl|⟨W,n,rfl,_⟩
  .rfl
  .show vL (a 1006) 0 n dp=_
   rw[l,DR r eJ eJ];rfl
 have mem:∀{x:Nat×eh},x∈A++kG (oW rl)->x∈A\/x=Xa\/x=bk 1002 0 [vL 1004 0 2 dp,wV (oW rl)]\/x=bk 1004 2 r6:=λd=>by
  rcases List.mem_append.1 d with h|h
  .exact .inl h
  .right
   simpa[kG]using h
 have s:∀{x:Nat×eh},x∈A->lo<=a x.1:=λd=>by
  rw[pA d,G0 (q _ d).1];omega
 refine⟨λx d=>?_,λx d=>?_,λx d=>?_,λx d y G e=>?_⟩
 .rcases mem d with h|rfl|rfl|rfl
  .obtain⟨_,_,_,V,_,H⟩:=q x h;rw[pA h];exact(L _ _ _ H).2.lt
  .show a 1000<_;rw[j];exact X.map.lt
  .show a 1002<_;rw[i];exact X.g.lt
  .show a 1004<_;rw[f];exact X.c.lt
 .rcases mem d with h|rfl|rfl|rfl
  .have :=s h;have :=K.lo;omega
  .show m.base<=a 1000/\_<=a 1000;rw[j];exact⟨X.base.1.1,X.base.2.1⟩
  .show m.base<=a 1002/\_<=a 1002;rw[i];exact⟨X.base.1.2.1,X.base.2.2.1⟩
  .show m.base<=a 1004/\_<=a 1004;rw[f];exact⟨X.base.1.2.2,X.base.2.2.2⟩
 .rcases mem d with h|rfl|rfl|rfl
  .obtain⟨_,_,J,V,M,H⟩:=q x h;have o:=(L _ _ _ H).2;rw[pA h];refine⟨o.kind.trans J.symm,λ_=>⟨o.sz,?_⟩,λC=>(by rw[J]at C;cases C),λC=>by rw[J]at C;cases C⟩;rw[o.cs,yD M,List.map_map,List.map_map];refine List.map_congr_left λv R=>?_
   show Z (bO (sh lo) 20 v)=Z (bO a 20 v)
   refine congrArg Z (PW (p:=λb=>Nat.blt b 12||A.any λy=>Nat.beq y.1 b) (λb k=>?_) ?_)
   .rw[Bool.or_eq_true]at k;rcases k with k|k
    .have k:b<12:=af k;rw[l];unfold sh FK;rw[bh k,bh k]
    .obtain⟨y,G,e⟩:=List.any_eq_true.1 k;rw[<-aA e,pA G]
   .have F:=aB.1 (aB.1 S x h) (Z v) (by rw[yD M];exact List.mem_map.2 ⟨v,R,rfl⟩);exact F
  .show wW a Xa.2 (m.blk (a 1000))
   rw[j];refine⟨E,λh=>(by cases h),λ_=>⟨?_,X.map.clock⟩,λh=>by cases h⟩;rw[X.map.es]
   show _=([⟨sB [101],vP (a 1001) 0,0⟩,⟨sB [103],vP (a 1002) 0,1⟩]:List MapEntry)
   rw[P,i]
  .show wW a (bk 1002 0 [vL 1004 0 2 dp,wV (oW rl)]).2 (m.blk (a 1002))
   rw[i];refine⟨D,λ_=>⟨X.g.sz,?_⟩,λh=>(by cases h),λh=>by cases h⟩;rw[X.g.cs]
   show _=[Z (vL (a 1004) 0 2 dp),Z (bO a 20 (wV (oW rl)))]
   rw[f,Q];rfl
  .show wW a (bk 1004 2 r6).2 (m.blk (a 1004))
   rw[f];refine⟨N,λ_=>⟨X.c.sz,?_⟩,λh=>(by cases h),λh=>by cases h⟩;rw[X.c.cs];rfl
 .have lt:=K.lt;rcases mem d with h|rfl|rfl|rfl<;>rcases mem G with t|rfl|rfl|rfl
  .rw[pA h,pA t,G0 (q _ h).1,G0 (q _ t).1]at e;have :=(q _ h).1;have :=(q _ t).1;omega
  .have :=s h;have e:a x.1=a 1000:=e;rw[j]at e;omega
  .have :=s h;have e:a x.1=a 1002:=e;rw[i]at e;omega
  .have :=s h;have e:a x.1=a 1004:=e;rw[f]at e;omega
  .have :=s t;have e:a 1000=a y.1:=e;rw[j]at e;omega
  .rfl
  .have e:a 1000=a 1002:=e;rw[j,i]at e;exact absurd e B
  .have e:a 1000=a 1004:=e;rw[j,f]at e;exact absurd e z
  .have :=s t;have e:a 1002=a y.1:=e;rw[i]at e;omega
  .have e:a 1002=a 1000:=e;rw[j,i]at e;exact absurd e.symm B
  .rfl
  .have e:a 1002=a 1004:=e;rw[i,f]at e;exact absurd e u
  .have :=s t;have e:a 1004=a y.1:=e;rw[f]at e;omega
  .have e:a 1004=a 1000:=e;rw[f,j]at e;exact absurd e.symm z
  .have e:a 1004=a 1002:=e;rw[f,i]at e;exact absurd e.symm u
  .rfl
end
def F8 (π:Nat->Nat):X->X
 | .bin op l r=> .bin op (F8 π l) (F8 π r)
 | .no x=> .no (F8 π x)
 | .isn x=> .isn (F8 π x)
 | .lit v=> .lit v
 | .r7 p i j=> .r7 (π p) i j
def Pd (L:List (Nat×eh))(t:Nat)(v:ab):Option (List ab):=match v with
 | .iface u (.pointer (Z a))=>if Nat.beq u t&&Nat.beq a.off 0&&a.spot.isNone then(match pz L a.block with |some (sz,cs)=>if Nat.beq sz 0 then Z cs else Y|none=>Y)else Y
 |_=>Y
theorem zz {π:Nat->Nat}{L:List (Nat×eh)}{m:Mem}{B:Nat->Prop}(i:pW π L m B){t:Nat}{v:ab}{cs:List ab}(h:Pd L t v=Z cs):∃b,bO π 20 v=.iface t (vP b 0)/\B b/\Obj m b 0 (cs.map (bO π 20)):=by
 unfold Pd at h
 split at h
 .rename_i u a
  split at h
  .rename_i c;simp only[ag]at c
   split at h
   .rename_i l n f
    split at h
    .rename_i e;cases h;obtain⟨g,d⟩:=i _ _ _ f;obtain⟨b,o,sp⟩:=a;have k:o=0:=aA c.1.2;have j:sp=Y:=Option.isNone_iff_eq_none.1 c.2;subst k j;rw[aA e]at d;rw[aA c.1.1];exact⟨π b,rfl,g,d⟩
    .cases h
   .cases h
  .cases h
 .cases h
def Ce (L:List (Nat×eh)):X->ab->Bool
 | .bin op l r,v=>(match Pd L 305 v with |some [o,a,b]=>Mh 20 (I op) o&&Ce L l a&&Ce L r b|_=>O)
 | .no x,v=>(match Pd L 390 v with |some [a]=>Ce L x a|_=>O)
 | .isn x,v=>(match Pd L 393 v with |some [a]=>Ce L x a|_=>O)
 | .lit u,v=>(match Pd L 317 v with |some cs=>Yx (Mh 20) u.cells cs|none=>O)
 | .r7 p i j,v=>(match Pd L 396 v with |some cs=>Yx (Mh 20) [vP p 0,I i,I j] cs|none=>O)
theorem vX {π:Nat->Nat}{L:List (Nat×eh)}{m:Mem}{B:Nat->Prop}(g:pW π L m B):∀{x:X}{v:ab},Ce L x v=U->XR B (F8 π x) m (bO π 20 v)
 | .bin op l r,v,h=>by
  unfold Ce at h
  split at h
  .rename_i o a b d;simp only[ag]at h;obtain⟨k,e,f,c⟩:=zz g d;rw[<-pU h.1.1]at c;exact⟨k,_,_,e,f,c,vX g h.1.2,vX g h.2⟩
  .cases h
 | .no x,v,h=>by
  unfold Ce at h
  split at h
  .rename_i a d;obtain⟨k,e,f,c⟩:=zz g d;exact⟨k,_,e,f,c,vX g h⟩
  .cases h
 | .isn x,v,h=>by
  unfold Ce at h
  split at h
  .rename_i a d;obtain⟨k,e,f,c⟩:=zz g d;exact⟨k,_,e,f,c,vX g h⟩
  .cases h
 | .lit u,v,h=>by
  unfold Ce at h
  split at h
  .rename_i n d;obtain⟨k,e,f,c⟩:=zz g d;rw[<-xX (λa b=>pU) h]at c;exact⟨k,e,f,c⟩
  .cases h
 | .r7 p i j,v,h=>by
  unfold Ce at h
  split at h
  .rename_i n d;obtain⟨k,e,f,c⟩:=zz g d;rw[<-xX (λa b=>pU) h]at c;exact⟨k,e,f,c⟩
  .cases h
structure Gz {α:Type}(E:pI α) where
 iX:(Nat->Nat)->α->α
 wU:List (Nat×eh)->α->ab->Bool
 ok:∀{π:Nat->Nat}{L:List (Nat×eh)} {m:Mem}{B:Nat->Prop},pW π L m B->∀{x:α}{v:ab},wU L x v=U->E.R B (iX π x) m (bO π 20 v)
theorem RL {α:Type}{sz:Nat}{c:α->ab->Bool}{Q:α->ab->Prop}{f:α->α}{π:Nat->Nat}(d:∀x v,c x v=U->Q (f x) (bO π 20 v)){l:List α}{cs:List ab}(h:Bc sz c l cs=U):cE (λx u=>Q x u/\okV sz u) (l.map f) (cs.map (bO π 20)):=by
 have :=yI (Q:=λx v=>Q (f x) v) d h;have a:∀{l:List α}{cs:List ab},cE (λx u=>Q (f x) u/\okV sz u) l cs->cE (λx u=>Q x u/\okV sz u) (l.map f) cs:=by
  intro l
  induction l with
  |nil=>intro cs h;exact h
  |cons x l b=>
   rintro cs ⟨v,r,e,q,h⟩;exact⟨v,r,e,q,b h⟩
 exact a this
def Bb {α:Type}{E:pI α}(c:Gz E)(sz:Nat):Gz (aW E sz) where
 iX π l:=l.map (c.iX π)
 wU L l v:=match v with
  | .slice Y n cap=>Nat.beq n 0&&Nat.beq cap 0&&l.isEmpty
  | .slice (Z a) n cap=>Nat.beq a.off 0&&a.spot.isNone&&Nat.beq n l.length&&(Nat.beq cap dp||Nat.beq cap n)&&(match pz L a.block with
   |some (RN,cs)=>Nat.beq RN sz&&Bc sz (c.wU L) l cs
   |none=>O)
  |_=>O
 ok:=by
  intro π L m B hL l v h
  split at h
  .rename_i n cap;simp only[ag]at h;obtain⟨⟨h1,h2⟩,h3⟩:=h;rw[aA h1,aA h2,List.isEmpty_iff.1 h3];exact aW.nil
  .rename_i a n cap;simp only[ag]at h;obtain⟨⟨⟨⟨h1,h2⟩,h3⟩,h4⟩,h5⟩:=h
   split at h5
   .rename_i RN cs hg;rw[ag]at h5;obtain⟨hb,ho⟩:=hL _ _ _ hg;have gZ:=RL (Q:=λx u=>E.R B x m u) (π:=π) (f:=c.iX π) (λx v=>c.ok hL (x:=x) (v:=v)) h5.2;obtain⟨b,o,sp⟩:=a;have e1:o=0:=aA h1;have e2:sp=Y:=Option.isNone_iff_eq_none.1 h2;subst e1 e2;have e3:=aA h3;subst e3;rw[aA h5.1]at ho;refine⟨cs.map (bO π 20),⟨gZ.one.1,.inr ⟨π b,cap,by rw[List.length_map];rfl,ho,?_⟩⟩,λb' o' n' c' e=>by cases e;exact hb,gZ⟩;rw[Bool.or_eq_true]at h4;rw[List.length_map];exact h4.imp aA aA
   .cases h5
  .cases h
def tlX:Gz oK where
 iX:=F8
 wU:=Ce
 ok:=by
  intro π L m B hL x v h;exact vX hL h
def tXo:Gz jc where
 iX π x:=x.map (F8 π)
 wU L x v:=match x,v with
  |none,.nilIface=>U
  |some x,v=>Ce L x v
  |_,_=>O
 ok:=by
  intro π L m B hL x v h
  split at h
  .rfl
  .exact vX hL h
  .cases h
def tCS:Gz Mm where
 iX π x:=⟨π x.p,x.on.map (F8 π)⟩
 wU L x v:=match v with
  | .agg cs=>(match cs.toList with | [p,o]=>Zm [p,o]&&Mh 20 (vP x.p 0) p&&tXo.wU L x.on o|_=>O)
  |_=>O
 ok:=by
  intro π L m B hL x v h
  split at h
  .rename_i cs
   split at h
   .rename_i p o gZ;simp only[ag]at h;have e:cs=[p,o].toArray:=by rw[<-gZ]
    rw[e,nj h.1.1];refine⟨bO π 20 o,?_,tXo.ok hL h.2⟩;rw[<-pU h.1.2];rfl
   .cases h
  .cases h
def yJ:Gz nL where
 iX π x:=⟨x.js.map (tCS.iX π),x.wh.map (F8 π),x.qC.map (F8 π)⟩
 wU L x v:=match v with
  | .agg cs=>(match cs.toList with | [a,w,b]=>Zm [a,w,b]&&(Bb tCS 2).wU L x.js a&&tXo.wU L x.wh w&&(Bb tlX 1).wU L x.qC b|_=>O)
  |_=>O
 ok:=by
  intro π L m B hL x v h
  split at h
  .rename_i cs
   split at h
   .rename_i a w b gZ;simp only[ag]at h;have e:cs=[a,w,b].toArray:=by rw[<-gZ]
    rw[e,nj h.1.1.1];exact⟨_,_,_,rfl,(Bb tCS 2).ok hL h.1.1.2,tXo.ok hL h.1.2,(Bb tlX 1).ok hL h.2⟩
   .cases h
  .cases h
def tCU:Gz Ml where
 iX π x:=⟨x.all,yJ.iX π x.sel⟩
 wU L x v:=match v with
  | .agg cs=>(match cs.toList with | [z,a,w,b]=>Zm [z,a,w,b]&&Zm [a,w,b]&&Mh 20 (.bool x.all) z&&yJ.wU L x.sel (.agg [a,w,b].toArray)|_=>O)
  |_=>O
 ok:=by
  intro π L m B hL x v h
  split at h
  .rename_i cs
   split at h
   .rename_i z a w b gZ;simp only[ag]at h;have e:cs=[z,a,w,b].toArray:=by rw[<-gZ]
    have q:=yJ.ok hL h.2;rw[nj h.1.1.2]at q;rw[e,nj h.1.1.1];refine⟨_,_,_,?_,q⟩;rw[<-pU h.1.2];rfl
   .cases h
  .cases h
def GU:Gz jK where
 iX π x:=⟨yJ.iX π x.first,x.us.map (tCU.iX π)⟩
 wU L x v:=match v with
  | .agg cs=>(match cs.toList with | [a,w,b,u]=>Zm [a,w,b,u]&&Zm [a,w,b]&&yJ.wU L x.first (.agg [a,w,b].toArray)&&(Bb tCU 4).wU L x.us u|_=>O)
  |_=>O
 ok:=by
  intro π L m B hL x v h
  split at h
  .rename_i cs
   split at h
   .rename_i a w b u gZ;simp only[ag]at h;have e:cs=[a,w,b,u].toArray:=by rw[<-gZ]
    have q:=yJ.ok hL h.1.2;rw[nj h.1.1.2]at q;rw[e,nj h.1.1.1];exact⟨_,_,_,_,rfl,q,(Bb tCU 4).ok hL h.2⟩
   .cases h
  .cases h
def GR:Gz tq where
 iX π x:=⟨π x.p,x.self,GU.iX π x.b⟩
 wU L x v:=match v with
  | .agg cs=>(match cs.toList with | [p,z,a,w,b,u]=>Zm [p,z,a,w,b,u]&&Zm [a,w,b,u]&&Mh 20 (vP x.p 0) p&&Mh 20 (.bool x.self) z&&GU.wU L x.b (.agg [a,w,b,u].toArray)|_=>O)
  |_=>O
 ok:=by
  intro π L m B hL x v h
  split at h
  .rename_i cs
   split at h
   .rename_i p z a w b u gZ;simp only[ag]at h;have e:cs=[p,z,a,w,b,u].toArray:=by rw[<-gZ]
    have q:=GU.ok hL h.2;rw[nj h.1.1.1.2]at q;rw[e,nj h.1.1.1.1];refine⟨_,_,_,_,?_,q⟩;rw[<-pU h.1.1.2,<-pU h.1.2];rfl
   .cases h
  .cases h
def tR:Gz HL where
 iX π x:=⟨x.parts.map (GR.iX π),x.fe,GU.iX π x.b⟩
 wU L x v:=match v with
  | .agg cs=>(match cs.toList with | [p,c,a,w,b,u]=>Zm [p,c,a,w,b,u]&&Zm [a,w,b,u]&&(Bb GR 6).wU L x.parts p&&aeF.wU L x.fe c&&GU.wU L x.b (.agg [a,w,b,u].toArray)|_=>O)
  |_=>O
 ok:=by
  intro π L m B hL x v h
  split at h
  .rename_i cs
   split at h
   .rename_i p c a w b u gZ;simp only[ag]at h;have e:cs=[p,c,a,w,b,u].toArray:=by rw[<-gZ]
    have q:=GU.ok hL h.2;rw[nj h.1.1.1.2]at q;rw[e,nj h.1.1.1.1];exact⟨_,_,_,_,_,_,rfl,(Bb GR 6).ok hL h.1.1.2,aeF.ok hL h.1.2,q⟩
   .cases h
  .cases h
theorem IS:∀{l:List Nat},ndB l=U->l.Nodup
 | [],_=>List.nodup_nil
 |x::l,h=>by
  unfold ndB at h;rw[ag]at h;rw[List.nodup_cons];refine⟨λa=>?_,IS h.2⟩;have :=aB.1 h.1 x a;rw[Nat.beq_refl]at this;cases this
structure Pv (r:iQ):Prop where
 l:∀x∈r.L,(r.N<=x.1\/∃k,(x.1,k)∈r.K/\x.2.kind=k.kind)/\x.1<r.nx/\x.2.live/\okB x.2=U
 k:kOk r.K r.N=U
 kn:(r.K.map (·.1)).Nodup
 cn:(r.c.map (·.1)).Nodup/\∀x∈r.c,12<=x.1/\x.1<r.N
 nx:r.N<=r.nx
 args:r.args.all (oD 20)=U
 val:oD 20 r.v=U
 ln:(r.L.map (·.1)).Nodup
theorem iQ.Fact.at{r:iQ}{J:List (Nat×eh)}(h:r.Fact J):Pv r:=by
 have :=h.wU;unfold iQ.wU at this;simp only[ag]at this;obtain⟨⟨⟨⟨⟨⟨⟨⟨n,m⟩,l⟩,k⟩,j⟩,i⟩,g⟩,f⟩,d⟩:=this;refine⟨λx b=>?_,m,IS l,⟨IS k,λx b=>?_⟩,af i,g,f,IS d⟩
 .have :=aB.1 n x b;simp only[ag,Bool.or_eq_true]at this;obtain⟨⟨⟨⟨c,s⟩,q⟩,p⟩,o⟩:=this;refine⟨c.imp af λc=>?_,af s,⟨λy a e=>?_,af q⟩,o⟩
  .obtain⟨y,a,e⟩:=List.any_eq_true.1 c;rw[ag]at e;exact⟨y.2,(aA e.1)▸a,aA e.2⟩
  .have :=aB.1 p y a;rw[e]at this;cases this
 .have :=aB.1 j x b;rw[ag]at this;exact⟨af this.1,af this.2⟩
theorem iQ.Fact.ok{r:iQ}{J:List (Nat×eh)}(h:r.Fact J)(d:Qv∈J)(b:∀x∈r.K,∃k,(x.1,k)∈J/\((x.1,k)∈r.L\/jd k x.2))(a:∀x∈r.L,x∈J)(g:dX ae r.f=U):FF Ct r:=by
 have c:=h.at;refine abW h.run ⟨Qv.2,d,?_⟩ b (λx e=>⟨a x e,c.l x e⟩) c.k c.kn ⟨aj _,c.nx⟩ g c.args c.val;rw[iS,bh rfl];exact jd.Sb
def CDs (d:CD):Prop:=(∃a b,d=iD a b)\/d=q1D\/d=q2D\/d=q3D\/d=q4D
theorem ads {d:CD}(h:CDs d)(o:Option Nat):(gO d o).Fact (gO d o).J:=by
 rcases h with⟨a,b,rfl⟩|rfl|rfl|rfl|rfl
 .exact QA a b o
 .exact VT o
 .exact VS o
 .exact VQ o
 .exact VP o
def RSK (r:iQ):Prop:=r=qQ\/∃d o,CDs d/\r=gO d o
theorem tB:dX ae 38=U/\dX ae 73=U/\dX ae 75=U:=⟨aM,aM,aM⟩
theorem aqY {d:CD}(h:CDs d):d.f=73/\(∃a b,d=iD a b)\/d.f=75/\(d=q1D\/d=q2D\/d=q3D\/d=q4D):=by
 rcases h with⟨a,b,rfl⟩|h
 .exact .inl ⟨rfl,a,b,rfl⟩
 .refine .inr ⟨?_,h⟩;rcases h with rfl|rfl|rfl|rfl<;>rfl
theorem afi (r:iQ)(h:RSK r):FF Ct r:=by
 rcases h with rfl|⟨d,o,b,rfl⟩
 .refine qP.ok (.head _) (λx a=>?_) (λx a=> .tail _ (.tail _ (.tail _ a))) tB.1;simp only[qQ,aN,List.not_mem_nil,or_false]at a;rcases a with rfl|rfl|rfl
  .exact⟨_,.tail _ (.head _),.inr jd.Sb⟩
  .exact⟨_,.tail _ (.tail _ (.tail _ (.head _))),.inl (.head _)⟩
  .exact⟨_,.tail _ (.tail _ (.head _)),.inr jd.Sb⟩
 .refine(ads b o).ok (.head _) (λx a=>⟨x.2,.tail _ (List.mem_append_left _ a),.inr jd.Sb⟩) (λx a=> .tail _ (List.mem_append_right _ a)) ?_
  show dX ae d.f=U
  rcases aqY b with⟨e,_⟩|⟨e,_⟩<;>rw[e]
  .exact tB.2.1
  .exact tB.2.2
def ZV:ab->Nat
 | .slice Y _ _=>0
 | .slice (Z _) n _=>n+1
 | .bool b=>b.toNat
 |_=>0
theorem PG {π:Nat->Nat}{v:ab}:ZV (bO π 20 v)=ZV v:=by
 cases v with
 |pointer a=>cases a<;>rfl
 |slice a l c=>cases a<;>rfl
 |map a=>cases a<;>rfl
 |_=>rfl
section
variable {r r':iQ}{f:Nat}{args:List ab}{m:Mem}{π rI:Nat->Nat}
theorem wH (h:r.at f args m π)(b:r'.at f args m rI)(c:Pv r)(e:Pv r'){l:List Nat}{u a:ab}(n:pO r.mi r.args l=Z u)(d:pO r'.mi r'.args l=Z a):bO π 20 u=bO rI 20 a:=Lu h.2.2.2 b.2.2.2 c.args e.args h.2.1 b.2.1 n d
theorem ah9 (h:r.at f args m π)(d:r'.at f args m rI)(c:Pv r)(e:Pv r'){l:List Nat}{u a:ab}(n:pO r.mi r.args l=Z u)(b:pO r'.mi r'.args l=Z a):ZV u=ZV a:=by
 rw[<-PG (π:=π),wH h d c e n b,PG]
end
theorem alM {d:CD}(h:CDs d)(o:Option Nat):pO (gO d o).mi (gO d o).args [0,0,1,1]=Z (wV o):=by
 rcases h with⟨a,b,rfl⟩|rfl|rfl|rfl|rfl<;>cases o<;>kernel_rfl
theorem ad6 (a b:Nat)(o:Option Nat):pO (gO (iD a b) o).mi (gO (iD a b) o).args [1,1,0,0]=Z (vN a):=by cases o<;>kernel_rfl
theorem ad5 (a b:Nat)(o:Option Nat):pO (gO (iD a b) o).mi (gO (iD a b) o).args [1,1,0,1]=Z (vN b):=by cases o<;>kernel_rfl
theorem Ib {a b:Nat}(h:vN a=vN b):a=b:=by
 unfold vN at h;simp only[ab.iface.injEq,ab.agg.injEq,true_and,Array.mk.injEq,List.cons.injEq,ab.int.injEq]at h;omega
section
variable {m mi:Mem}{π:Nat->Nat}{N nx:Nat}{L:List (Nat×eh)}
theorem acD (a:∀b,N<=b->π b=m.next+(b-N))(g:∀x∈L,N<=x.1):Kp m (jg π mi m L nx) eK:=by
 refine⟨Nat.le_add_right _ _,rfl,rfl,rfl,rfl,rfl,rfl,rfl,rfl,λb f _=>?_⟩;rcases gL (m:=m) (L:=L.map λx=>(π x.1,oA π x.2)) (nx:=m.next+(nx-mi.next)) b with⟨e,_⟩|⟨k,d,_⟩
 .exact e
 .obtain⟨x,c,ex⟩:=List.mem_map.1 d;cases ex;rw[a _ (g x c)]at f;omega
theorem SH (v:Calm m)(r:mi.next=N)(f:∀b,N<=b->π b=m.next+(b-N))(h:∀x∈L,N<=x.1/\x.1<nx)(n:(L.map (·.1)).Nodup):pW π L (jg π mi m L nx) (ik m (jg π mi m L nx)):=by
 intro b A D p;obtain⟨k,d,o,rfl,g⟩:=za p;obtain⟨u,B⟩:=h _ d;have l:=f b u;have z:(jg π mi m L nx).next=m.next+(nx-N):=by rw[<-r];rfl
 have w:((L.map λx=>(π x.1,oA π x.2)).map (·.1)).Nodup:=by
  rw[List.map_map];have :(L.map ((λx=>x.1)∘λx=>(π x.1,oA π x.2)))=(L.map (·.1)).map π:=by rw[List.map_map];rfl
  rw[this,List.Nodup,List.pairwise_map];refine List.Pairwise.imp_of_mem ?_ n;intro a c q g C e;obtain⟨x,d,rfl⟩:=List.mem_map.1 q;obtain⟨y,j,rfl⟩:=List.mem_map.1 g;have t:=(h x d).1;have s:=(h y j).1;rw[f _ t,f _ s]at e;omega
 have e:(jg π mi m L nx).blk (π b)={oA π k with bq:=m.tick}:=sV (x:=(π b,oA π k)) w (List.mem_map.2 ⟨(b,k),d,rfl⟩);have i:π b<(jg π mi m L nx).next:=by rw[z,l];omega
 refine⟨⟨ai,i⟩,i,by rw[e];exact o,by rw[e];rfl,?_,?_⟩
 .rw[e]
  show k.cs.map (VG π)=_
  rw[g,List.map_map,List.map_map];rfl
 .show aP m.bI _=O
  rw[v.bI];rfl
end
def CD.ok(d:CD):Bool:=aOk 12 d.A&&aIn d.A&&Xn (λb=>Nat.blt b 12||d.A.any λy=>Nat.beq y.1 b) 20 d.sv
theorem ano {d:CD}(h:CDs d):d.ok=U/\d.c.map (·.1)=d.A.map (·.1)/\∀x∈d.L,1100<=x.1/\x.1<d.nx:=by
 have e:∀{d:CD},d.ok=U->d.c.map (·.1)=d.A.map (·.1)->(d.L.all λx=>Nat.ble 1100 x.1&&Nat.blt x.1 d.nx)=U->d.ok=U/\d.c.map (·.1)=d.A.map (·.1)/\∀x∈d.L,1100<=x.1/\x.1<d.nx:=λ{d} j i g=>⟨j,i,λx f=>by
  have :=aB.1 g x f;rw[ag]at this;exact⟨af this.1,af this.2⟩⟩
 rcases h with⟨a,b,rfl⟩|rfl|rfl|rfl|rfl
 .exact e aM rfl aM
 .exact e aM rfl aM
 .exact e aM rfl aM
 .exact e aM rfl aM
 .exact e aM rfl aM
theorem p39 (i f c d k j p l m a s on g o q:Nat)(e n t h r:Option Addr)(b:ByteArray):Path 39 [vP i 0,.agg #[kI b,.slice e c d]]
 [jF [Z (kI b),Z (.slice e c d)] k,
  jF [Z ei,Z ei,Z ei,Z (I 0)] j,
  .mem (aI i 2) (.map (Z f)),
  vT 2 k (.agg #[kI b,.slice e c d]),
  fQ,
  .call 73 [.map (Z f),.agg #[kI b,.slice e c d]] (.tuple #[.slice n l m,I 0]),
  jT,
  .call 74 [.slice n l m] (.tuple #[.slice t a s,I 0]),
  jT,
  .mem (aI i 2) (.map (Z f)),
  .mem (aI k 0) (kI b),
  .mem (wo ae 67 (.map (Z f)) (kI b) O) (vP p 0),
  .mem (aI p 1) (.slice h on g),
  bu (ji (bU on a) 1000) O,
  .mem (aI p 1) (.slice h on g),
  .mem (cJ ae #[29,29] (.slice h on g) (.slice t a s)) (.slice r o q),
  .mem (du p 1 (.slice r o q)) undef,
  rJ j 0 [ei,ei,ei,I a],
  TQ 31 j (.agg #[ei,ei,ei,I a])]
 (.tuple #[.agg #[ei,ei,ei,I a],I 0]):=lF
def Ck (K:fE)(d:CD):Prop:=∀m lo mp pe pg cg rl,Calm m->Gl m->GX m mp pe pg cg rl->JZ m lo mp pg cg->rz lo d.A m->∃π m',Ev K d.f [.map (Z mp),bO (sh lo) 20 d.sv] m (.tuple #[bO π 20 d.qv,I d.er]) m'/\Kp m m' eK/\pW π d.L m' (ik m m')/\π 1002=pg
structure Kb (W:Nat->Prop)(m:Mem)(mp pe pg cg:Nat)(rows:List (List V)):Prop where
 x:∃rl,GX m mp pe pg cg rl/\∃BO BE:Nat->Prop,mI bD 1 BO BE m rows rl/\(aW bD 1).R (λy=>BO y\/BE y) rows m rl/\∀b,BO b\/BE b->W b/\b≠mp/\b≠pg/\b≠cg
 w:W mp/\W pg/\W cg
 lt:∀b,W b->b<m.next
theorem Kb.ext{W S:Nat->Prop}{m m':Mem}{f e pg g:Nat}{rows:List (List V)}(h:Kb W m f e pg g rows)(k:Kp m m' S)(a:∀b,W b->¬S b):Kb W m' f e pg g rows:=by
 obtain⟨i,X,j,l,L,q,d⟩:=h.x;exact⟨⟨i,X.ext k ⟨a _ h.w.1,a _ h.w.2.1,a _ h.w.2.2⟩,j,l,L.ext k λb c=>a b (d b c).1,(aW bD 1).ext q k λb c=>a b (d b c).1,d⟩,h.w,λb c=>aZ (h.lt b c) k.next⟩
def tbG (pg:Nat)(rows:List (List V))(p:Nat):Option (List (List V)):=if p=pg then Z rows else Y
theorem Kb.at{W:Nat->Prop}{m:Mem}{f d pg k:Nat}{rows:List (List V)}(h:Kb W m f d pg k rows):fY W (tbG pg rows) m:=λp l a=>by
 unfold tbG at a
 split at a
 .rename_i e;cases a;subst e;obtain⟨c,X,n,o,_,q,j⟩:=h.x;exact⟨h.w.2.1,_,c,X.g,(aW bD 1).mono q λb i=>(j b i).1⟩
 .cases a
section
variable {K:fE}{m:Mem}{W:Nat->Prop}{db mp pe pg cg lo:Nat}{rows:List (List V)}
theorem agL {π:Nat->Nat}{a b:Nat}{B:Nat->Prop}(h:pW π (iD a b).L m B):(aW (aW oK 1) 1).R B [[.lit (gk a),.lit (gk b)]] m (bO π 20 (iD a b).qv):=by
 obtain⟨w,q⟩:=h 1104 0 [I 1,I a,.string .empty,.bool O] rfl;obtain⟨u,p⟩:=h 1108 0 [I 1,I b,.string .empty,.bool O] rfl;obtain⟨t,f⟩:=h 1110 1 [.iface 317 (vP 1104 0),.iface 317 (vP 1108 0)] rfl;obtain⟨s,l⟩:=h 1112 1 [vL 1110 0 2 dp] rfl;have d:∀v:ab,v.cells.toList=[v]->v.oneCell'=U->okV 1 v:=λv i x=>⟨by rw[<-Array.length_toList,i];rfl,λy g=>by rw[i]at g;rw[List.mem_singleton.1 g];exact x⟩
 have k:XR B (.lit (gk a)) m (.iface 317 (vP (π 1104) 0)):=⟨_,rfl,w,q⟩;have j:XR B (.lit (gk b)) m (.iface 317 (vP (π 1108) 0)):=⟨_,rfl,u,p⟩;have r:(aW oK 1).R B [.lit (gk a),.lit (gk b)] m (vL (π 1110) 0 2 dp):=⟨_,⟨rfl,.inr ⟨_,_,rfl,f,.inl rfl⟩⟩,λb o n c e=>by cases e;exact t,⟨_,_,rfl,⟨k,d _ rfl rfl⟩,_,_,rfl,⟨j,d _ rfl rfl⟩,rfl⟩⟩;exact⟨_,⟨rfl,.inr ⟨_,_,rfl,l,.inl rfl⟩⟩,λb o n c e=>by cases e;exact s,⟨_,_,rfl,⟨r,d _ rfl rfl⟩,rfl⟩⟩
theorem Xl (a b:Nat):[[X.lit (gk a),.lit (gk b)]].map Xm=[gH (a,b)]:=by
 simp only[List.map_cons,List.map_nil,alV];rfl
theorem aq4 (hK:B9 K){a b:Nat}{x0 x1:ab}{rest:List ab}(Cv:Ck K (iD a b))(V:Calm m)(hG:Gl m)(qB:Obj m db 0 (x0::x1::.map (Z mp)::rest))(D:Kb W m mp pe pg cg rows)(EJ:¬W db)(j8:JZ m lo mp pg cg)(hL:rz lo (iD a b).A m)(acM:rows.length<1000):
  ∃P W',Ev K 39 [vP db 0,.agg #[.string bG,vL (sh lo 137) 0 1 1]] m (.tuple #[.agg #[.slice Y 0 0,.slice Y 0 0,.slice Y 0 0,I 1],I 0]) P/\Kp m P W/\Kb W' P mp pe pg cg (rows++[gH (a,b)])/\∀b,W' b->W b\/ik m P b:=by
 have g:=V.gd;have M0:=qB.lt;obtain⟨b3,hb3⟩:∃b,b=m.next:=⟨_,rfl⟩;obtain⟨m1,e1,o1,k1,n1,_⟩:=bz g [.string bG,vL (sh lo 137) 0 1 1];rw[<-hb3]at e1 o1;have g1:=g.ext k1;obtain⟨C,hb4⟩:∃b,b=m1.next:=⟨_,rfl⟩;obtain⟨z,e2,o2,k2,n2,_⟩:=bz g1 [.slice Y 0 0,.slice Y 0 0,.slice Y 0 0,I 0];rw[<-hb4]at e2 o2;have s:=k1.aX k2;have g2:=g.ext s;have l1:aI db 2 z=Z (.map (Z mp),z):=aO (qB.a9 s) rfl;have l2:fN 2 b3 0 z=Z (.agg #[.string bG,vL (sh lo 137) 0 1 1],z):=cL (vs:=[.string bG,vL (sh lo 137) 0 1 1]) (o1.a9 k2) rfl (af rfl);have D2:=D.ext s λ_ _ h=>h
 obtain⟨_,X2,_⟩:=D2.x;obtain⟨X,E,e3,T,La,_⟩:=Cv z lo mp pe pg cg _ (V.ext s) (hG.a9 s) X2 (j8.ext s) (hL.ext s λ_ h=>h.elim);have e3:Ev K 73 [.map (Z mp),.agg #[.string bG,vL (sh lo 137) 0 1 1]] z (.tuple #[vL (X 1112) 0 1 dp,I 0]) E:=e3;have q3:(aW (aW oK 1) 1).R (ik z E) [[.lit (gk a),.lit (gk b)]] E (vL (X 1112) 0 1 dp):=agL La;have pf:=s.aX T;have uo:=V.ext pf;obtain⟨v4,d,e4,S,q4⟩:=c74 (K:=K) hK uo q3 (λb q=>q.2) (λxs tJ=>agJ (a:=a) (b:=b) (List.mem_singleton.1 tJ)) (af rfl);rw[Xl]at q4;obtain⟨na,nc,rfl⟩:=aW.form q4;have M:=pf.aX S;have Mw:=V.ext M;have n3:=T.next;have n4:=S.next;have D4:=D.ext M λ_ _ h=>h
 obtain⟨rl,f,BO,BE,L4,qr,u⟩:=D4.x;have l3:aI db 2 d=Z (.map (Z mp),d):=aO (qB.a9 M) rfl;have l4:aI b3 0 d=Z (.string bG,d):=aO (((o1.a9 k2).a9 T).a9 S) rfl;have hM:aeP d mp [(bE,pe),(bG,pg)]:=⟨f.map.lt,f.map.kind,by rw[f.map.es];rfl,f.map.Dh,f.map.home⟩;have l5:wo ae 67 (.map (Z mp)) (.string bG) O d=Z (vP pg 0,d):=acm (.inr ⟨mp,rfl,hM⟩:anO d (.map (Z mp)) _) bG;obtain⟨oa,oc,rfl⟩:=L4.form;have l6:aI pg 1 d=Z (.slice oa rows.length oc,d):=aO f.g rfl;have i:∀b,W b->b<m.next:=D.lt;obtain⟨s5,F,e5,G,L5,q5⟩:=L4.cat (t:=29) Mw.gd rfl q4 (λb q h=>by have :=i b (u b (.inl q)).1;have :=h.1;omega) (λb q=>by have :=i b (u b (.inr q)).1;omega) (λb h=>h.2) (by show rows.length+1<2^30;omega);have hn5:(∃v n,s5=vL v 0 n dp/\v<F.next)/\d.next<F.next:=by
  rcases id L5 with⟨h,_⟩|⟨v,cs,rest,e,q,_,ob,_⟩
  .simp at h
  .have q:v=d.next:=q.1;exact⟨⟨v,_,e,ob.lt⟩,by have :=ob.lt;omega⟩
 obtain⟨sa,sc,rfl⟩:=L5.form;have n5:=G.next;have htl:=i _ D.w.2.1;obtain⟨m6,e6,o6,k6⟩:=gj (o:=1) (.slice sa (rows++[gH (a,b)]).length sc) (f.g.ext G λh=>(u _ (.inl h)).2.2.1 rfl) ((Mw.own f.base.1.2.1|>.ext G).may _ _) (af rfl) rfl;have n6:=k6.next;have H:Kp d m6 W:=(G.mono λb _ h=>(u b (.inl h)).1).trans (k6.mono λb _ h=>by rw[h];exact D.w.2.1) λ_ _ h=>h
 have xh:Kp m m6 W:=M.sC.trans H λ_ _ h=>h
 have b4W:¬W C:=λh=>by have :=i _ h;omega
 obtain⟨l,e7,o7,Q⟩:=jW (o:=0) [.slice Y 0 0,.slice Y 0 0,.slice Y 0 0,I 1] (((o2.a9 T).a9 S).ext H b4W) ((g.own xh ai).may _ _) (af rfl) rfl;have n7:=Q.next;have Ox:Kp m l W:=xh.new Q (N:=m.next) (aj _) λb q=>by omega
 have eR:nY ae 31 (vP C 0) l=Z (.agg #[.slice Y 0 0,.slice Y 0 0,.slice Y 0 0,I 1],l):=ko o7 rfl oh.1 oh.2;have c9:(.bool (ji (bU (rows.length:Int) ((1:Nat):Int)) 1000):ab)=.bool O:=by
  rw[oU ai];exact dF (od (j:=1000)) ai
 have ev:Ev K 39 _ m _ l:=bg (p39 db mp 1 1 b3 C pg 1 dp 1 nc rows.length oc _ sc (Z ⟨sh lo 137,0,Y⟩) (Z ⟨X 1112,0,Y⟩) na oa sa bG) (.mem e1<|.mem e2<|.mem l1<|.mem l2<|.mem (aJ g2)<|.call e3<|.cond rfl<|.call e4<|.cond rfl<|.mem l3<|.mem l4<|.mem l5<|.mem l6<|.cond c9<|.mem l6<|.mem e5<|.mem e6<|.mem e7<|.mem eR .nil);have B:Kp F l (λy=>y=pg\/y=C):=(k6.mono λ_ _ h=> .inl h).trans (Q.mono λ_ _ h=> .inr h) λ_ _ h=>h
 have p:Kp d l (λy=>BO y\/y=pg\/y=C):=(G.mono λ_ _ h=> .inl h).trans (B.mono λ_ _ h=> .inr h) λ_ _ h=>h
 have no:∀{y},W y->y≠pg->¬BO y->¬(BO y\/y=pg\/y=C):=λ{y} k r h3 h=>by
  rcases h with h|h|h
  .exact h3 h
  .exact r h
  .have :=i _ k;omega
 have oc7:=f.c.ext p (no D.w.2.2 (λe=>by
  have k:=f.g.sz;have r:=f.c.sz;rw[e,k]at r;cases r) λh=>(u _ (.inl h)).2.2.2 rfl)
 have om7:=f.map.ext p (no D.w.1 (λe=>by
  have k:=f.g.kind;have r:=f.map.kind;rw[e,k]at r;cases r) λh=>(u _ (.inl h)).2.1 rfl)
 have kj:∀{y},BE y\/ik E d y\/ik d F y->y<l.next/\(W y\/ik m l y)/\y≠mp/\y≠pg/\y≠cg:=λ{y} h=>by
  rcases h with h|h|h
  .have k:=u _ (.inr h);have :=i _ k.1;exact⟨ai,.inl k.1,k.2⟩
  .have k:=h.1;have r:=h.2;have :=i _ D.w.1;have :=i _ D.w.2.1;have :=i _ D.w.2.2;exact⟨ai,.inr ⟨ai,ai⟩,ai,ai,ai⟩
  .have k:=h.1;have r:=h.2;have :=i _ D.w.1;have :=i _ D.w.2.1;have :=i _ D.w.2.2;exact⟨ai,.inr ⟨ai,ai⟩,ai,ai,ai⟩
 have L:∀y,y=d.next\/BE y\/ik E d y->¬(y=pg\/y=C):=λy h e=>by
  have h':BE y\/ik E d y\/ik d F y:=h.elim (λh=> .inr (.inr ⟨ai,ai⟩)) λh=>h.elim .inl λh=> .inr (.inl h)
  rcases e with e|e
  .exact(kj h').2.2.2.1 e
  .rcases h' with h|h|h
   .have :=i _ (u _ (.inr h)).1;omega
   .have :=h.1;omega
   .have :=h.1;omega
 obtain⟨⟨v,n,es,hrb⟩,ar5⟩:=hn5;refine⟨l,λy=>W y\/ik m l y,ev,Ox,⟨⟨_,⟨om7,o6.ext Q ai,oc7,.inr ⟨v,n,es,ai⟩,by have :=f.pe;omega,by rw[p.base,p.home];exact f.base⟩,_,_,L5.ext B L,(aW bD 1).ext q5 B L,λy J=>?_⟩,⟨.inl D.w.1,.inl D.w.2.1,.inl D.w.2.2⟩,λy J=>J.elim (λh=>by have :=i y h;omega) λh=>h.2⟩,λy J=>J⟩;exact(kj (J.elim (λh=> .inr (.inr ⟨ai,ai⟩)) λh=>h.elim .inl λh=> .inr (.inl h))).2
end
theorem aoT (g b cc f d:Nat)(c:Option Addr)(a:ByteArray)(e:Int):Path 26 [vP g 0,.iface 91 (.agg #[kI a,.slice c b cc])]
 [jF [Z ei,Z ei,Z ei,Z (I 0)] f,
  yp,
  jF [Z zvE,Z ei] d,
  rJ d 0 [kI a,.slice c b cc],
  vT 2 d (.agg #[kI a,.slice c b cc]),
  .call 38 [vP g 0,.agg #[kI a,.slice c b cc]] (I e),
  rJ f 0 [ei,ei,ei,I 0],
  TQ 31 f (.agg #[ei,ei,ei,I 0])]
 (.tuple #[.agg #[ei,ei,ei,I 0],I e]):=lF
theorem aoS (k g cc j i:Nat)(h:Option Addr)(f:ByteArray)(d c b a:ab)(e:Int):Path 26 [vP k 0,.iface 95 (.agg #[kI f,.slice h g cc])]
 [jF [Z ei,Z ei,Z ei,Z (I 0)] j,
  jT,
  yp,
  jF [Z zvE,Z ei] i,
  rJ i 0 [kI f,.slice h g cc],
  vT 2 i (.agg #[kI f,.slice h g cc]),
  .call 39 [vP k 0,.agg #[kI f,.slice h g cc]] (.tuple #[.agg #[d,c,b,a],I e]),
  rJ j 0 [d,c,b,a],
  TQ 31 j (.agg #[d,c,b,a])]
 (.tuple #[.agg #[d,c,b,a],I e]):=lF
def TL (K:fE)(T:ByteArray)(L:List (Nat×eh))(sv:ab):Prop:=∀m,Calm m->Gl m->∃m2,Ev K 22 [.string T] m (.tuple #[bO (sh m.next) 20 sv,I 0,I 0]) m2/\Kp m m2 eK/\rz m.next L m2
structure TN (m:Mem)(mp pe:Nat):Prop where
 lt:mp<m.next
 kind:(m.blk mp).kind=2
 es:(m.blk mp).es.toList=[⟨sB [101],vP pe 0,0⟩]
 clock:(m.blk mp).clock=1
 Dh:aP m.bI mp=O
 home:m.home<=mp
 base:m.base<=mp
 pe:pe<m.next
theorem TN.ext{m m':Mem}{a b:Nat}{S:Nat->Prop}(h:TN m a b)(k:Kp m m' S)(c:¬S a):TN m' a b:=by
 have e:=k.blk a h.lt c;exact⟨aZ h.lt k.next,by rw[e];exact h.kind,by rw[e];exact h.es,by rw[e];exact h.clock,by rw[k.bI];exact h.Dh,by rw[k.home];exact h.home,by rw[k.base];exact h.base,aZ h.pe k.next⟩
def Cr (K:fE):Prop:=∀m lo db mp pe,Calm m->Gl m->TN m mp pe->Obj m db 0 [.int .i32 1,.int .u32 0,.map (Z mp)]->m.base<=db->m.home<=db->JZ m lo mp db pe->rz lo VB.L m->∃m' pg,Ev K 38 [vP db 0,.agg #[.string bG,vL (sh lo 93) 0 2 dp]] m (I 0) m'/\Kp m m' (λy=>y=mp)/\GX m' mp pe pg (sh lo 93) (.slice Y 0 0)/\m.next<=pg
section
variable {K:fE}{m:Mem}{W:Nat->Prop}{db mp pe pg cg:Nat}{rows:List (List V)}
theorem ah0 {T:ByteArray}{L:List (Nat×eh)}{s:ab}{Q:Mem->Mem->ab->ab->ab->ab->Int->Prop}{S:Nat->Prop}(u:Calm m)(hG:Gl m)(z:uC m db mp)(hh:m.home<=db)(hT:TL K T L s)(hS:∀b,S b->b<m.next/\b≠db)
  (OR:∀a B,Calm a->Gl a->Kp m a (λy=>y=db)->Obj a db 0 [.int .i32 1,.int .u32 0,.map (Z mp)]->rz B L a->m.next<B->B<=a.next->∃i f d c e j,Ev K 26 [vP db 0,bO (sh B) 20 s] a (.tuple #[.agg #[i,f,d,c],I e]) j/\Kp a j S/\([i,f,d,c].all (·.oneCell'))=U/\Q a j i f d c e):
  ∃a j P i f d c e,Ev K 12 [vP db 0,.string T] m (.tuple #[.agg #[i,f,d,c],I e,I 0]) P/\Kp m a (λy=>y=db)/\Kp a j S/\m.next<a.next/\Q a j i f d c e/\Kp j P (λy=>y=db\/y=m.next)/\uC P db mp:=by
 have g:=u.gd;obtain⟨z,E⟩:=z;have M0:=z.lt;obtain⟨p,nK⟩:∃b,b=m.next:=⟨_,rfl⟩;obtain⟨m1,e1,o1,k1,n1,_⟩:=bz g [.slice Y 0 0,.slice Y 0 0,.slice Y 0 0,I 0];rw[<-nK]at e1 o1;have g1:=g.ext k1;obtain⟨m2,e2,V,q2⟩:=hT m1 (u.ext k1) (hG.a9 k1);have A:=k1.aX V;have Nc:=u.ext A;have n2:=V.next;obtain⟨a,e3,o3,t⟩:=c24 (K:=K) Nc.gd.deaf (z.a9 A) ((Nc.own (by rw[A.base];exact E)).may _ _);have uo:=Nc.ext t;have n3:=t.next;have C:Kp m a (λy=>y=db):=A.sC.trans t λ_ _ h=>h
 obtain⟨i,f,d,c,e,j,W,r,hy,hq⟩:=OR a m1.next uo (hG.ext C λb e=>e▸hh) C o3 (q2.ext t λy e=>by omega) ai ai;have n8:=r.next;have Zo:Kp m j (λy=>y=db\/S y):=(C.mono λ_ _ h=> .inl h).trans (r.mono λ_ _ h=> .inr h) λ_ _ h=>h
 have X:=u.ext Zo;obtain⟨m9,q,e9,YC,J,x,n10⟩:=jV X.gd [.slice Y 0 0,.slice Y 0 0,.slice Y 0 0,I 0] [i,f,d,c] rfl hy;have R:fN 4 j.next 0 q=Z (.agg #[i,f,d,c],q):=cL (vs:=[i,f,d,c]) J rfl (af rfl);have w:=Zo.aX x;have arX:=x.next;have b1S:¬S p:=λh=>by have :=(hS _ h).1;omega
 have F:=(((o1.a9 V).ext t (show¬p=db by omega)).ext r b1S).a9 x;obtain⟨M,e11,H,k⟩:=jW (o:=0) [i,f,d,c] F ((g.own w ai).may _ _) (af rfl) hy;have n11:=k.next;have n:Kp m M (λy=>y=db\/S y):=w.new k (N:=m.next) (aj _) λb hb=>by omega
 have v:=u.ext n;have apm:=((o3.ext r λh=>(hS _ h).2 rfl).a9 x).ext k (show¬db=p by omega);obtain⟨l,YB,G,D⟩:=c25 (K:=K) v.gd.deaf apm ((v.own (by rw[n.base];exact E)).may _ _);have eR:nY ae 31 (vP p 0) l=Z (.agg #[i,f,d,c],l):=ko (H.ext D (show¬p=db by omega)) rfl oh.1 oh.2;refine⟨a,j,l,i,f,d,c,e,bg (p12 db T _ i f d c e p j.next) (.mem e1<|.call e2<|.cond rfl<|.call e3<|.call W<|.mem e9<|.mem YC<|.mem R<|.mem e11<|.call YB<|.mem eR .nil),C,r,ai,hq,?_,G,by rw[D.base,n.base];exact E⟩;exact(x.sC.trans (k.mono λ_ _ h=> .inr (h.trans nK)) λ_ _ h=>h).trans (D.mono λ_ _ h=> .inl h) λ_ _ h=>h
theorem arw (T5:Cr K)(C:Calm m)(V:Gl m)(q:uC m db mp)(T:m.home<=db)(hT:TL K txG VB.L (.iface 91 (.agg #[.string bG,vL 93 0 2 dp])))(M:TN m mp pe)(D:mp≠db):
  ∃j pg cg,Ev K 12 [vP db 0,.string txG] m (.tuple #[anH,I 0,I 0]) j/\Kp m j (λy=>y=db\/y=mp)/\uC j db mp/\Kb (λb=>b=mp\/b=pg\/b=cg) j mp pe pg cg []/\m.next<pg/\m.next<cg:=by
 have z:=M.lt;obtain⟨d,i,j,H,G,F,E,e,YB,t,r,cF,⟨h1,h2,h3,h4,h5,pg,cg,X,l,A⟩,R,Wr⟩:=ah0 (K:=K) (S:=λy=>y=mp)
  (Q:=λd i H G F E e=>H=.slice Y 0 0/\G=.slice Y 0 0/\F=.slice Y 0 0/\E=I 0/\e=0/\∃pg cg,GX i mp pe pg cg (.slice Y 0 0)/\m.next<pg/\m.next<cg) C V q T hT (λb e=>⟨e▸z,λh=>D (e▸h)⟩) (by
  intro d a v B t o3 W cF hle;obtain⟨J,e4,o4,P,n4,_⟩:=bz v.gd [.slice Y 0 0,.slice Y 0 0,.slice Y 0 0,I 0];have Mw:=v.ext P;obtain⟨m5,w,e5,e6,o6,x,n6⟩:=jV Mw.gd [.string .empty,.slice Y 0 0] [.string bG,vL (sh a 93) 0 2 dp] rfl rfl;have FT:=Mw.ext x;have f:=P.aX x;have k:=t.aX f;have n3:=t.next;have ob:=q.1.lt;have hpe:=M.pe;have hh0:=V.hn;have Zy:m.base<=m.next:=by have :=C.gd.bf;have :=C.gd.fn;omega
  obtain⟨m7,pg,e7,s,X,l⟩:=T5 w a db mp pe FT (B.a9 f) (M.ext k D) (o3.a9 f) (by rw[k.base];exact q.2) (by rw[k.home];exact T) ⟨ai,by rw[k.base,k.home];omega⟩ (W.ext f λ_ h=>h.elim);have n7:=s.next;have n6':=f.next;have n:¬d.next=mp:=ai;obtain⟨i,e8,o8,r⟩:=jW (o:=0) [.slice Y 0 0,.slice Y 0 0,.slice Y 0 0,I 0] ((o4.a9 x).ext s n) ((v.gd.own (f.sC.trans s λ_ _ h=>h) (aj _)).may _ _) (af rfl) rfl;have eR:nY ae 31 (vP d.next 0) i=Z (anH,i):=ko o8 rfl oh.1 oh.2;have l6:fN 2 J.next 0 w=Z (.agg #[.string bG,vL (sh a 93) 0 2 dp],w):=cL (vs:=[.string bG,vL (sh a 93) 0 2 dp]) o6 rfl (af rfl);have hc:sh a 93<d.next:=(W 93 2 r6 rfl).2.lt;have hs:sh a 93=a+81:=G0 eJ;exact⟨_,_,_,_,0,i,bg (aoT db 2 dp d.next J.next _ bG 0) (.mem e4<|.cond rfl<|.mem e5<|.mem e6<|.mem l6<|.call e7<|.mem e8<|.mem eR .nil),(f.sC.trans s λ_ _ h=>h).new r (N:=d.next) (aj _) λb p=>by omega,rfl,rfl,rfl,rfl,rfl,rfl,pg,sh a 93,X.ext r ⟨λe=>n e.symm,λe=>by omega,λe=>by omega⟩,ai,ai⟩)
 subst h1 h2 h3 h4 h5;have ob:=q.1.lt;have u:=X.ext R ⟨λe=>e.elim D λe=>by omega,λe=>e.elim (λe=>by omega) λe=>by omega,λe=>e.elim (λe=>by omega) λe=>by omega⟩;refine⟨j,pg,cg,YB,?_,Wr,⟨⟨_,u,eK,eK,.inl ⟨rfl,rfl⟩,aW.nil,λb p=>p.elim (λh=>h.elim) λh=>h.elim⟩,⟨.inl rfl,.inr (.inl rfl),.inr (.inr rfl)⟩,λb p=>?_⟩,l,A⟩
 .exact((t.mono (S':=λy=>y=db\/y=mp) λ_ _ h=> .inl h).trans (r.mono λ_ _ h=> .inr h) λ_ _ h=>h).trans R λb p h=>h.elim .inl λh=>by omega
 .rcases p with rfl|rfl|rfl
  .exact u.map.lt
  .exact u.g.lt
  .exact u.c.lt
theorem arv (hK:B9 K){T:ByteArray}{a b:Nat}(Cv:Ck K (iD a b))(A:Calm m)(V:Gl m)(H:uC m db mp)(hh:m.home<=db)(hT:TL K T (F7 a b).L (.iface 95 (iD a b).sv))(D:Kb W m mp pe pg cg rows)(r:¬W db)(B:rows.length<1000):
  ∃k f,Ev K 12 [vP db 0,.string T] m (.tuple #[.agg #[.slice Y 0 0,.slice Y 0 0,.slice Y 0 0,I 1],I 0,I 0]) k/\Kp m k (λy=>y=db\/W y)/\uC k db mp/\Kb f k mp pe pg cg (rows++[gH (a,b)])/\∀b,f b->W b\/m.next<b:=by
 obtain⟨j,i,k,G,F,E,C,e,YB,q,n,cF,⟨h1,h2,h3,h4,h5,f,x,d⟩,R,Wr⟩:=ah0 (K:=K) (S:=W)
  (Q:=λj i G F E C e=>G=.slice Y 0 0/\F=.slice Y 0 0/\E=.slice Y 0 0/\C=I 1/\e=0/\∃f,Kb f i mp pe pg cg (rows++[gH (a,b)])/\∀b,f b->W b\/m.next<b) A V H hh hT (λb c=>⟨D.lt b c,λe=>r (e▸c)⟩) (by
  intro j l t z q o3 hA cF hle;obtain⟨M,e4,o4,P,n4,_⟩:=bz t.gd [.slice Y 0 0,.slice Y 0 0,.slice Y 0 0,I 0];have X:=t.ext P;obtain⟨m5,J,e5,e6,o6,u,n6⟩:=jV X.gd [.string .empty,.slice Y 0 0] [.string bG,vL (sh l 137) 0 1 1] rfl rfl;have FT:=X.ext u;have g:=P.aX u;have s:=q.aX g;have n3:=q.next;have D6:=D.ext s λb c e=>r (e▸c)
  have hh0:=V.hn;have Zy:m.base<=m.next:=by have :=A.gd.bf;have :=A.gd.fn;omega
  have w1:=D.lt _ D.w.1;have w2:=D.lt _ D.w.2.1;have w3:=D.lt _ D.w.2.2;obtain⟨m7,f,e7,p,x,d⟩:=aq4 (K:=K) hK Cv FT (z.a9 g) (o3.a9 g) D6 r ⟨ai,by rw[s.base,s.home];omega⟩ (hA.ext g λ_ h=>h.elim) B;have n7:=p.next;have n36:=g.next;have v:¬W j.next:=λh=>by have :=D.lt _ h;omega
  obtain⟨i,e8,o8,n⟩:=jW (o:=0) [.slice Y 0 0,.slice Y 0 0,.slice Y 0 0,I 1] ((o4.a9 u).ext p v) ((t.gd.own (g.sC.trans p λ_ _ h=>h) (aj _)).may _ _) (af rfl) rfl;have eR:nY ae 31 (vP j.next 0) i=Z (.agg #[.slice Y 0 0,.slice Y 0 0,.slice Y 0 0,I 1],i):=ko o8 rfl oh.1 oh.2;have l6:fN 2 M.next 0 J=Z (.agg #[.string bG,vL (sh l 137) 0 1 1],J):=cL (vs:=[.string bG,vL (sh l 137) 0 1 1]) o6 rfl (af rfl);refine⟨_,_,_,_,0,i,bg (aoS db 1 1 j.next M.next (Z ⟨sh l 137,0,Y⟩) bG _ _ _ _ 0) (.mem e4<|.cond rfl<|.cond rfl<|.mem e5<|.mem e6<|.mem l6<|.call e7<|.mem e8<|.mem eR .nil),(g.sC.trans p λ_ _ h=>h).new n (N:=j.next) (aj _) λb c=>by omega,rfl,rfl,rfl,rfl,rfl,rfl,f,x.ext n λb c e=>?_,λb c=>?_⟩
  .rcases d b c with h|h
   .have :=D.lt b h;omega
   .have :=h.1;omega
  .rcases d b c with h|h
   .exact .inl h
   .exact .inr (by have :=h.1;omega))
 subst h1 h2 h3 h4 h5;refine⟨k,f,YB,?_,Wr,x.ext R λb c e=>?_,d⟩
 .exact((q.mono (S':=λy=>y=db\/W y) λ_ _ h=> .inl h).trans (n.mono λ_ _ h=> .inr h) λ_ _ h=>h).trans R λb c h=>h.elim .inl λh=>by omega
 .rcases d b c with h|h
  .exact e.elim (λe=>r (e▸h)) λe=>by have :=D.lt b h;omega
  .rcases e with e|e
   .have :=H.1.lt;omega
   .omega
end
def Py (K:fE):Prop:=∀m,Calm m->Gl m->∃m' db mp pe,Ev K 14 [] m (vP db 0) m'/\Kp m m' eK/\uC m' db mp/\TN m' mp pe/\m.next<=db/\m.next<=mp/\mp≠db
theorem p18 (x:Int)(k:Nat)(b a:Int):Path 18 [I x]
 [.call 15 [I x,I 144] (I k),
  .val (jk Nat.div .i64 k 12 (j5 ae .quo 3 O U (I k) (I 12))) (I b),
  .val (jk Nat.mod .i64 k 12 (j5 ae .rem 3 O U (I k) (I 12))) (I a)]
 (.tuple #[I b,I a]):=lF
theorem ao6 (x:Int)(n:Nat)(a:Int):Path 15 [I x,I n]
 [bu (dx x 0) O,
  .val (jk Nat.mod .i64 x n (j5 ae .rem 3 O O (I x) (I n))) (I a)]
 (I a):=lF
theorem ao5 (x:Int)(n:Nat)(a b:Int):Path 15 [I x,I n]
 [bu (dx x 0) U,
  .val (pu ae [I (bU x 1)] (Op.unary .neg (I (bU x 1)))) (I a),
  .val (jk Nat.mod .i64 a n (j5 ae .rem 3 O O (I a) (I n))) (I b)]
 (I b):=lF
theorem aoF (b c a e:Nat)(d:Option Addr):cV 10 0 8 [0] [.slice d b c]
 [.call 14 [] (vP a 0),
  jT,
  .call 12 [vP a 0,kI (⟨#[67,82,69,65,84,69,32,84,65,66,76,69,32,103,40,97,32,73,78,84,44,32,98,32,73,78,84,41]⟩)] (.tuple #[.agg #[ei,ei,ei,I 0],I 0,I 0]),
  jF [Z ei,Z ei,Z ei,Z (I 0)] e,
  rJ e 0 [ei,ei,ei,I 0],
  jT]
 .normal [0,3,7] [.slice d b c,vP a 0,I 0]:=cT
theorem aoG (d c g f i e a b:Nat)(x:Int)(s1 s2 l k j h:ByteArray):aY 10 [8] 0 99 [0,3,7] [vL d 0 c g,vP f 0,I i]
 ((rp 3 (.bool (dx i c)) U (bu (dx i 60) U::.idx i c i::.mem (aI d (0+i*1)) (I x)::.call 18 [I x] (.tuple #[I a,I b])::.call 16 [I a] (kI s1)::.val (AL (⟨#[73,78,83,69,82,84,32,73,78,84,79,32,103,32,86,65,76,85,69,83,32,40]⟩) s1) (kI l)::.val (AL l (⟨#[44,32]⟩)) (kI k)::.call 16 [I b] (kI s2)::.val (AL k s2) (kI j)::.val (AL j (⟨#[41]⟩)) (kI h)::.call 12 [vP f 0,kI h] (.tuple #[.agg #[ei,ei,ei,I 1],I 0,I 0])::jF [Z ei,Z ei,Z ei,Z (I 0)] e::rJ e 0 [ei,ei,ei,I 1]::jT::jT::.mem (aI e 3) (I 1)::(rp 3 (.bool O) O ([])))))
 .normal [0,3,7] [vL d 0 c g,vP f 0,I (bU i 1)]:=cT
theorem aoE (a c b i:Nat)(d:Option Addr):aY 10 [8] 0 99 [0,3,7] [.slice d a c,vP b 0,I i]
 ((rp 3 (.bool (dx i a)) O ([jT])))
 (.exit 0) [3] [vP b 0]:=cT
theorem aoD (a c b i:Nat)(d:Option Addr):aY 10 [8] 0 99 [0,3,7] [.slice d a c,vP b 0,I i]
 ((rp 3 (.bool (dx i a)) U ([bu (dx i 60) O])))
 (.exit 0) [3] [vP b 0]:=cT
theorem aoH (a:Nat):cV 10 9 99 [3] [vP a 0]
 []
 .ret [2] [vP a 0]:=cT
theorem api:jJ 10 1 [2]=U:=aM
theorem Wq:(dq (bX 10)).length<=99:=af aM
theorem Oa:jz 10 [8]:=aM
def pY (x:Int)(n:Nat):Nat:=(if x<0 then(-(x+1)).toNat else x.toNat)%n
section
variable {K:fE}{m:Mem}
theorem c15 {x:Int}(b:Eu x){n:Nat}(e:0<n):Ev K 15 [I x,I n] m (I (pY x n:Int)) m:=by
 unfold pY
 by_cases h:x<0
 .obtain⟨y,a⟩:∃y:Nat,(y:Int)= -(x+1):=⟨(-(x+1)).toNat,ai⟩;have d:bU x 1=x+1:=qy ⟨by have :=b.1;omega,ai⟩;have c:=aps (bU x 1);rw[d,<-a,rK ⟨ai,by have :=b.1;omega⟩]at c;rw[bh h,<-a,Int.toNat_natCast];exact bg (ao5 x n _ _) (.cond (by rw[fW,Cb h])<|.val (by rw[d];exact c)<|.val (ac8 y n ai) .nil)
 .obtain⟨y,a⟩:∃y:Nat,(y:Int)=x:=⟨x.toNat,ai⟩;subst a;rw[bH h,Int.toNat_natCast];exact bg (ao6 _ n _) (.cond (by rw[fW,yz h])<|.val (ac8 y n ai) .nil)
def im (x:Int):Nat×Nat:=(pY x 144 / 12,pY x 144%12)
theorem EY (x:Int):(im x).1<12/\(im x).2<12:=by
 have :pY x 144<144:=Nat.mod_lt _ eJ;unfold im;exact⟨by show pY x 144 / 12<12;omega,Nat.mod_lt _ eJ⟩
theorem c18 {x:Int}(c:Eu x):Ev K 18 [I x] m (.tuple #[I ((im x).1:Int),I ((im x).2:Int)]) m:=by
 have d:pY x 144<144:=Nat.mod_lt _ eJ;have b:=aez U (pY x 144:Int) 12 eJ;have a:=aey U (pY x 144:Int) 12 eJ;rw[show(12:Int)=((12:Nat):Int)from rfl,K8 12 ai]at b;rw[show(12:Int)=((12:Nat):Int)from rfl,VH]at a;exact bg (p18 x (pY x 144) _ _) (.call (c15 (n:=144) c eJ)<|.val b<|.val a .nil)
end
theorem ac9:((List.range 12).all λa=>decide ((iO a).length<=2))=U:=aM
theorem C0 {a:Nat}(h:a<12):(iO a).length<=2:=of_decide_eq_true (aB.1 ac9 a (List.mem_range.2 h))
theorem Jv {α:Type}{val:α->ab}{B:Nat->Prop}{m:Mem}{l:List α}{v:ab}(h:(aW (jj val) 1).R B l m v)(i:∀x,(val x).cells.toList=[val x]){j:Nat}(g:j<l.length):∃b c,v=vL b 0 l.length c/\aI b (0+j*1) m=Z (val l[j],m):=by
 obtain⟨b,c,u,o,e,_,f,d,k,a,n⟩:=aW.get h g;have a:u=val l[j]:=a;subst a;refine⟨b,c,e,?_⟩;rw[Nat.zero_add,Nat.mul_one];rw[Nat.mul_one,i]at d;refine aO f ?_;have :=congrArg (·[0]?) d;simpa using this
def uE (B:Nat->Prop)(xs:List Int)(m:Mem)(v:ab):Prop:=(xs=[]/\∃la lc,v=.slice la 0 lc)\/(aW (jj I) 1).R B xs m v
theorem uE.form{B:Nat->Prop}{xs:List Int}{m:Mem}{v:ab}(h:uE B xs m v):∃b a,v=.slice b xs.length a:=by
 rcases h with⟨rfl,b,a,rfl⟩|h
 .exact⟨b,a,rfl⟩
 .exact aW.form h
theorem uE.a9{B:Nat->Prop}{xs:List Int}{m m':Mem}{v:ab}(h:uE B xs m v)(k:Kp m m' eK):uE B xs m' v:=h.imp id λh=>(aW (jj I) 1).ext h k λ_ _ h=>h
theorem uE.ld{B:Nat->Prop}{xs:List Int}{m:Mem}{v:ab}(h:uE B xs m v){j:Nat}(a:j<xs.length):∃b c,v=vL b 0 xs.length c/\aI b (0+j*1) m=Z (I xs[j],m):=by
 rcases h with⟨rfl,_⟩|h
 .exact absurd a (Nat.not_lt_zero _)
 .exact Jv h (λ_=>rfl) a
structure GK (K:fE):Prop where
 gi:B9 K
 known:Py K
 cr:Cr K
 rdG:TL K txG VB.L (.iface 91 (.agg #[.string bG,vL 93 0 2 dp]))
 rdN:∀a b,a<12->b<12->TL K ⟨(alW a b).toArray⟩ (F7 a b).L (.iface 95 (iD a b).sv)
 ckI:∀a b,Ck K (iD a b)
section
variable {K:fE}{m:Mem}{BX:Nat->Prop}
theorem c10 (v:GK K)(p:Calm m)(X:Gl m){xs:List Int}{xv:ab}(hx:uE BX xs m xv)(mS:∀x∈xs,Eu x):
  ∃m' c d z u w W,Ev K 10 [xv] m (vP c 0) m'/\Kp m m' eK/\uC m' c d/\Kb W m' d z u w (((xs.take 60).map im).map gH)/\¬W c/\m.next<=c/\∀b,W b->m.next<=b:=by
 obtain⟨T,A,F⟩:=hx.form;have hh:=X.hn;obtain⟨m1,c,d,z,e1,k1,J,M1,EJ,hmp,ep⟩:=v.known m p X;have n1:=k1.next;obtain⟨m2,u,w,e2,k2,Lq,D2,hpg,hcg⟩:=arw (K:=K) v.cr (p.ext k1) (X.a9 k1) J (by rw[k1.home];omega) v.rdG M1 ep;obtain⟨P,o⟩:∃P:Nat->Prop,P=λb=>b=d\/b=u\/b=w:=⟨_,rfl⟩
 rw[<-o]at D2;have M0:=J.1.lt;have hml:=M1.lt;have K2:Kp m m2 eK:=k1.new k2 (N:=m.next) (aj _) λb n=>by rcases n with h|h<;>omega
 have n2:=k2.next;obtain⟨x3,m3,e3,f3,o3,E,n3⟩:=jV (p.ext K2).gd [.slice Y 0 0,.slice Y 0 0,.slice Y 0 0,I 0] [.slice Y 0 0,.slice Y 0 0,.slice Y 0 0,I 0] rfl rfl;have K3:=K2.aX E;have n3':=E.next;have apl:uC m3 c d:=⟨Lq.1.a9 E,by rw[E.base];exact Lq.2⟩;have D3:=D2.ext E λ_ _ h=>h
 have aqy:¬P c:=λh=>by rw[o]at h;rcases h with h|h|h<;>omega
 have aqx:∀b,P b->m.next<=b:=λb h=>by rw[o]at h;rcases h with h|h|h<;>omega
 obtain⟨t0,w0,e0⟩:=aU (K:=K) (m:=m) (m':=m3) (tm:=entry [xv]) (aoF xs.length A c m2.next T) (by rw[F];rfl) (.call e1<|.cond rfl<|.call e2<|.mem e3<|.mem f3<|.cond rfl .nil);obtain⟨e,t1,m5,he,wN,rfl,k,W5,K5,apk,D5,aqw,aqv⟩:=eN (K:=K) (nt:=fp 10) (a:=cj 10 [8]) (min xs.length 60)
  (Inv:=λj tm M=>bj [0,3,7] tm=[.slice T xs.length A,vP c 0,I j]/\∃W,Kp m M eK/\uC M c d/\Kb W M d z u w (((xs.take j).map im).map gH)/\¬W c/\(∀b,W b->m.next<=b))
  (dm:=λe tm M=>e=.exit 0/\bj [3] tm=[vP c 0]/\∃W,Kp m M eK/\uC M c d/\Kb W M d z u w (((xs.take 60).map im).map gH)/\¬W c/\(∀b,W b->m.next<=b))
  (by
   rintro j tm M hj ⟨k,W,q,t,D,g,f⟩
   left
   have Q:j<xs.length:=ai;have nM:=q.next;obtain⟨pl,c',e,lx⟩:=(hx.a9 q).ld Q;rw[F]at e;cases e;obtain⟨a,b,Ay⟩:∃a b,im xs[j]=(a,b):=⟨_,_,rfl⟩;have cF:=EY xs[j];have ZC:=c18 (K:=K) (m:=M) (mS _ (List.getElem_mem Q));rw[Ay]at cF ZC;have ha:a<12:=cF.1;have n:b<12:=cF.2;obtain⟨M1,e4,C⟩:=c16 (K:=K) a (p.ext q).gd ai;have S:=q.aX C;obtain⟨M2,e5,B⟩:=c16 (K:=K) b (p.ext S).gd ai;have i:=S.aX B;have n4:=C.next;have n5:=B.next;have da:=C0 ha;have dbl:=C0 n;have v1:=uw (l:=[73,78,83,69,82,84,32,73,78,84,79,32,103,32,86,65,76,85,69,83,32,40]) (r:=iO a) (by simp;omega);have v2:=uw (l:=[73,78,83,69,82,84,32,73,78,84,79,32,103,32,86,65,76,85,69,83,32,40]++iO a) (r:=[44,32]) (by simp;omega);have v3:=uw (l:=[73,78,83,69,82,84,32,73,78,84,79,32,103,32,86,65,76,85,69,83,32,40]++iO a++[44,32]) (r:=iO b) (by simp;omega);have v4:=uw (l:=[73,78,83,69,82,84,32,73,78,84,79,32,103,32,86,65,76,85,69,83,32,40]++iO a++[44,32]++iO b) (r:=[41]) (by simp;omega);have Lq:uC M2 c d:=⟨(t.1.a9 C).a9 B,by rw[B.base,C.base];exact t.2⟩;have DD:=(D.ext C λ_ _ h=>h).ext B λ_ _ h=>h
   obtain⟨M3,W',e6,k6,L,D6,G⟩:=arv (K:=K) v.gi (v.ckI a b) (p.ext i) (X.a9 i) Lq (by rw[i.home];omega) (v.rdN a b ha n) DD g (by simp;omega);have R:Kp m M3 eK:=i.new k6 (N:=m.next) (aj _) λb n=>n.elim (λh=>by omega) (f b)
   have n6:=k6.next;obtain⟨x7,M4,e7,f7,o7,V,n7⟩:=jV (p.ext R).gd [.slice Y 0 0,.slice Y 0 0,.slice Y 0 0,I 0] [.slice Y 0 0,.slice Y 0 0,.slice Y 0 0,I 1] rfl rfl;obtain⟨s,H,y⟩:=aL (K:=K) Oa (aoG pl xs.length A c j M3.next a b xs[j] _ _ _ _ _ _) k (.rp (FM Q)<|.cond (dT (nX (j:=60)))<|.idx rfl Q<|.mem lx<|.call ZC<|.call e4<|.val v1<|.val v2<|.call e5<|.val v3<|.val v4<|.call e6<|.mem e7<|.mem f7<|.cond rfl<|.cond rfl<|.mem (aO o7 rfl)<|.rp rfl .nil);rw[add1 ai]at y;refine⟨s,M4,H,y,W',R.aX V,⟨L.1.a9 V,by rw[V.base];exact L.2⟩,?_,λh=>(G _ h).elim g λh=>by have :=t.1.lt;omega,λb n=>(G b n).elim (f b) λh=>by omega⟩;have :=D6.ext V λ_ _ h=>h
   rwa[show((xs.take (j+1)).map im).map gH=((xs.take j).map im).map gH++[gH (a,b)] by
    rw[List.take_add_one,List.getElem?_eq_getElem Q,List.map_append,List.map_append];show _++[gH (im xs[j])]=_;rw[Ay]])
  (by
   rintro tm M ⟨k,W,q,t,D,g,f⟩
   by_cases h:xs.length<=60
   .rw[Nat.min_eq_left h]at k D;obtain⟨s,H,y⟩:=aL (K:=K) (m:=M) (m':=M) Oa (aoE xs.length A c xs.length T) k (.rp (SF _)<|.cond rfl .nil);refine⟨_,s,M,iq,H,rfl,y,W,q,t,?_,g,f⟩;rw[List.take_length]at D;rw[List.take_of_length_le h];exact D
   .rw[Nat.min_eq_right ai]at k D;obtain⟨s,H,y⟩:=aL (K:=K) (m:=M) (m':=M) Oa (aoD xs.length A c 60 T) k (.rp (FM ai)<|.cond (dF (nX (j:=60))) .nil);exact⟨_,s,M,iq,H,rfl,y,W,q,t,D,g,f⟩)
  (tm:=t0) (m:=m3) ⟨e0,P,K3,apl,D3,aqy,aqx⟩ ai
 obtain⟨s,h2,HO⟩:=aU (K:=K) (m:=m5) (m':=m5) (aoH c) k .nil;exact⟨m5,c,d,z,u,w,W5,dE api (aC.cut w0 (aC.fC wN (aC.last h2 Wq))) (.inr rfl) HO,K5,apk,D5,aqw,EJ,aqv⟩
end
open Go Go.Conc Go.ConcM Go.Proofs Go.Proofs.YtgfppohfgconeaaGreatDoor Go.ChangeShapes
def Ed (k:eh):Mem:={heap:=jE.put (jE.put [] 0 {kind:=1,cs:=cP}) 12 k,next:=13,tick:=1,base:=13,home:=13,floor:=13,opn:=[],bI:=[],wg:=Y,pend:=[],deaf:=0}
theorem pd (k:eh)(b:Nat):(Ed k).blk b=if 12=b then k else if 0=b then{kind:=1,cs:=cP}else{}:=by
 show(jE.put (jE.put [] 0 {kind:=1,cs:=cP}) 12 k).get b=_
 rw[jE.get_put]
 split
 .rfl
 .exact iS b
def ρx (p:Pl):dz:=λb=>if b=12 then Z p else ρ0 b
theorem Ku {o:Nat}{v:ab}(h:cP[o]?=Z (Z v)):de v=U:=by
 have a:(cP.all λx=>match x with |some y=>de y|none=>O)=U:=aM;exact aB.1 a _ (List.mem_of_getElem? h)
theorem RV {o:Nat}(h:o<cP.length):∃s,cP[o]?=Z (Z (.string s)):=by
 have a:(cP.all λx=>match x with |some (.string _)=>U|_=>O)=U:=aM;have :=aB.1 a _ (List.getElem_mem h)
 split at this
 .rename_i s b;exact⟨s,by rw[List.getElem?_eq_getElem h,b]⟩
 .cases this
structure arL (W:ar)(k:eh)(p:Pl):Prop where
 bq:k.bq=0
 live:k.live
 pos:k.pos=0
 kind:k.kind=0\/k.kind=1
 sz:p.sz=k.sz
 len:k.cs.length<=p.room
 shape:k.kind=1->∃e n,W.shape? p.c=Z (e,n)/\p.d+p.room<=n
 lZ:k.kind=1->∀o v,k.cs[o]?=Z (Z v)->de v=U/\W.cell? ⟨p.c,p.d+o,Y⟩=Z v
 sep:k.kind=1->p.c=0->cP.length<=p.d
theorem vb {W:ar}(ja:12<=W.heap.size){C:Array ab}{M:aT}{fr:Nat×Nat}(R:W.heap[0]?=Z (.cells C M fr))(hC:cP.length<=C.size)(V:∀(o:Nat) v,cP[o]?=Z (Z v)->C[o]?=Z v){k:eh}{p:Pl}(hp:p.c<W.heap.size)(j:arL W k p):
  dj ae (ab5 W) W .idle (ρx p) (Ed k) W/\Wf (Ed k):=by
 have r:∀b q,ρx p b=Z q->b=12/\q=p\/b<12/\q=⟨b,0,if b=0 then cP.length else 0,0⟩:=λb q h=>by
  unfold ρx at h
  split at h
  .rename_i f;cases h;exact .inl ⟨f,rfl⟩
  .unfold ρ0 at h
   split at h
   .rename_i f;cases h;exact .inr ⟨f,rfl⟩
   .cases h
 have z:(Ed k).blk 12=k:=by rw[pd,bh rfl]
 have F:(Ed k).blk 0={kind:=1,cs:=cP}:=by rw[pd,bH eJ,bh rfl]
 have kind:∀b,((Ed k).blk b).kind≠0->b=0\/b=12:=λb f=>by
  rw[pd]at f
  split at f
  .rename_i h;exact .inr h.symm
  .split at f
   .rename_i h;exact .inl h.symm
   .exact absurd rfl f
 have K:∀b,((Ed k).blk b).kind=0\/((Ed k).blk b).kind=1:=λb=>by
  rw[pd]
  split
  .exact j.kind
  .split
   .exact .inr rfl
   .exact .inl rfl
 have l:∀q,ρx p 0=Z q->q=⟨0,0,cP.length,0⟩:=λq h=>by
  rcases r _ _ h with⟨h,_⟩|⟨_,h⟩
  .cases h
  .rw[h,bh rfl]
 have m:∀q,ρx p 12=Z q->q=p:=λq h=>by
  rcases r _ _ h with⟨_,h⟩|⟨h,_⟩
  .exact h
  .omega
 have T:Wf (Ed k):=by
  refine⟨λb=>?_,λb f=>?_,λs X=>(by cases X),aj _,λb=>?_⟩
  .rw[pd]
   split
   .rw[j.bq];exact Nat.one_pos
   .split<;>exact Nat.one_pos
  .have f:13<=b:=f;rw[pd,bH ai,bH ai]
  .rw[pd]
   split
   .exact j.live
   .have :=Ia.live b;rw[iS]at this;exact this
 have D:k.kind=1->p.c=0->(cP.length=0\/p.room=0\/0+cP.length<=p.d\/p.d+p.room<=0):=λi H=> .inr (.inr (.inl (by have :=j.sep i H;omega)))
 refine⟨⟨⟨λb q a=>?_,λb q a n=>?_,λb q o v a hc=>?_,λb q o a _ _ f=>?_,λb q a E _=>?_,λb q a E _=>?_,λb y q N S a L n t u=>?_,
  λb q a=>?_,λb q a n P=>?_⟩,bC.refl _ _,⟨λb o G=>⟨G,?_⟩,λb G=>⟨G.1,?_,G.2⟩,λ_ _ h=>h.elim⟩,λg Q=>?_,⟨rfl,rfl,aj _⟩,T,λb q x a f=>?_,λ_ _ h=>h.elim⟩,T⟩
 .show b<13
  rcases r b q a with⟨h,_⟩|⟨h,_⟩<;>omega
 .rcases kind b (by rw[n];decide)with rfl|rfl
  .rw[l q a,F];refine⟨rfl,aj _,M,C.size,?_,by show 0+cP.length<=C.size;omega⟩;unfold ar.shape?;rw[R]
  .rw[m q a];rw[z]at n⊢;exact⟨j.sz,j.len,j.shape n⟩
 .obtain⟨J,c2,B⟩:=tA hc;rcases kind b (by rw[J];decide)with rfl|rfl
  .rw[l q a];rw[F]at B;refine⟨v,?_,(aG (Ku B)).2 rfl⟩;have e:W.cell? ⟨0,0+o,Y⟩=C[0+o]?:=by unfold ar.cell?;simp[R]
   show W.cell? ⟨0,0+o,Y⟩=Z v
   rw[e,Nat.zero_add];exact V o v B
  .rw[m q a];rw[z]at J B;obtain⟨i,H⟩:=j.lZ J o v B;exact⟨v,H,(aG i).2 rfl⟩
 .have f:13<=b:=f;rcases r b q a with⟨h,_⟩|⟨h,_⟩<;>omega
 .rcases K b with h|h<;>rw[h]at E<;>cases E
 .rcases K b with h|h<;>rw[h]at E<;>cases E
 .rcases kind b n with rfl|rfl<;>rcases kind y t with rfl|rfl
  .exact absurd rfl S
  .rw[l q a]at u⊢;rw[m N L]at u⊢;rw[z]at t⊢;have i:=j.kind.resolve_left t;refine⟨by rw[F],i,D i u.symm⟩
  .rw[m q a]at u⊢;rw[l N L]at u⊢;rw[z]at n⊢;have i:=j.kind.resolve_left n;refine⟨i,by rw[F],?_⟩;rcases D i u with h|h|h|h
   .exact .inr (.inl h)
   .exact .inl h
   .exact .inr (.inr (.inr h))
   .exact .inr (.inr (.inl h))
  .exact absurd rfl S
 .rcases r b q a with⟨_,rfl⟩|⟨h,rfl⟩
  .exact hp
  .show b<W.heap.size
   omega
 .rcases kind b (by rw[n];decide)with rfl|rfl
  .rw[l q a]
  .rw[z,j.pos]at P;cases P
 .rintro⟨y,q,i,_,_,_,_,w⟩;rcases w with w|w
  .have w:13<=y:=w;rcases r y q i with⟨h,_⟩|⟨h,_⟩<;>omega
  .cases w
 .rintro⟨y,q,i,_,A,_⟩;rcases K y with h|h<;>rw[h]at A<;>rcases A with A|A<;>cases A
 .rw[globals_size]at Q;refine⟨⟨g,0,if g=0 then cP.length else 0,0⟩,?_,rfl,rfl⟩;unfold ρx;rw[bH ai];unfold ρ0;rw[bh Q]
 .have f:13<=b:=f;rcases r b q a with⟨h,_⟩|⟨h,_⟩<;>omega
theorem WJ (k:eh):Calm (Ed k):=⟨⟨rfl,rfl,aj _,aj _,aj _,λs h=>by cases h⟩,rfl,rfl,rfl,rfl⟩
theorem WI (k:eh):Zd (Ed k):=by
 have a:(Ed k).blk 0={kind:=1,cs:=cP}:=by rw[pd,bH eJ,bh rfl]
 exact⟨by show 0<13;decide,by rw[a],by rw[a],by rw[a];kernel_rfl,rfl⟩
def adC (W:ar)(xs:List Int)(v:ab):Prop:=(∀x∈xs,Eu x)/\(v=.slice Y 0 0/\xs=[]\/∃c o cap,v=.slice (Z ⟨c,o,Y⟩) xs.length cap/\xs.length<=cap/\cap<dp/\c<W.heap.size/\(∀i,i<cap->∃z:Int,W.cell? ⟨c,o+i,Y⟩=Z (I z))/\∀i (h:i<xs.length),W.cell? ⟨c,o+i,Y⟩=Z (I xs[i]))
theorem RU {W:ar}(D:12<=W.heap.size){C:Array ab}{P:aT}{fr:Nat×Nat}(q:W.heap[0]?=Z (.cells C P fr))(F:cP.length<=C.size)(j:∀(o:Nat) v,cP[o]?=Z (Z v)->C[o]?=Z v){xs:List Int}{v:ab}(ha:adC W xs v):
  ∃(k:eh) (ρ:dz) (J:ab),k.kind<=1/\dj ae (ab5 W) W .idle ρ (Ed k) W/\Wf (Ed k)/\aV ρ J v/\uE (λb=>b=12) xs (Ed k) J:=by
 obtain⟨mS,⟨rfl,rfl⟩|⟨c,o,a,rfl,L,oI,M,T,d⟩⟩:=ha
 .obtain⟨H,w⟩:=vb D q F j (k:={}) (p:=⟨0,0,0,0⟩) (by show 0<W.heap.size;omega) ⟨rfl,⟨λx d=>(by cases d),eJ⟩,rfl,.inl rfl,rfl,aj _,iq,iq,iq⟩;exact⟨_,_,_,Nat.zero_le _,H,w,(aG (v:=.slice Y 0 0) rfl).2 rfl,.inl ⟨rfl,_,_,rfl⟩⟩
 .rcases Nat.eq_zero_or_pos xs.length with m|m
  .obtain⟨H,w⟩:=vb D q F j (k:={}) (p:=⟨c,o,0,0⟩) M ⟨rfl,⟨λx d=>(by cases d),eJ⟩,rfl,.inl rfl,rfl,aj _,iq,iq,iq⟩;refine⟨_,_,.slice (Z ⟨12,0,Y⟩) 0 a,Nat.zero_le _,H,w,⟨1,⟨c,o,0,0⟩,a,rfl,rfl,by rw[m];rfl,?_⟩,.inl ⟨List.length_eq_zero_iff.1 m,_,_,rfl⟩⟩;rw[bH ai]
  .have gh:∃e n,W.shape? c=Z (e,n)/\o+a<=n:=by
    obtain⟨z,h⟩:=T (a-1) ai;unfold ar.cell? at h;unfold ar.shape?;cases E:W.heap[c]? with
    |none=>simp[E]at h
    |some Q=>
     cases Q with
     |cells A t f=>
      simp only[E]at h;refine⟨t,A.size,rfl,?_⟩;have :o+(a-1)<A.size:=by
       rcases Nat.lt_or_ge (o+(a-1)) A.size with G|G
       .exact G
       .simp[G]at h
      omega
     |_=>simp[E]at h
   obtain⟨H,w⟩:=vb D q F j (k:={kind:=1,sz:=1,cs:=xs.map λx=>Z (I x)}) (p:=⟨c,o,a,1⟩) M ⟨rfl,⟨λx d=>by
     obtain⟨y,_,rfl⟩:=List.mem_map.1 d;exact λh=>(by cases h),af rfl⟩,rfl,.inr rfl,rfl,by simpa using L,λ_=>gh,λ_ i u K=>by
     rw[List.getElem?_map]at K;obtain⟨y,V,e⟩:=aD.1 K;cases e;obtain⟨hi,rfl⟩:=List.getElem?_eq_some_iff.1 V;exact⟨rfl,d i hi⟩,λ_ g=>by
     have g:c=0:=g;subst g;rcases Nat.lt_or_ge o cP.length with h|h
     .exfalso
      obtain⟨s,X⟩:=RV h;have e1:=j _ _ X;have N:=d 0 m;have e:W.cell? ⟨0,o+0,Y⟩=C[o+0]?:=by unfold ar.cell?;simp[q]
      rw[e,Nat.add_zero,e1]at N;cases N
     .exact h⟩
   have CW:Obj (Ed {kind:=1,sz:=1,cs:=xs.map λx=>Z (I x)}) 12 1 (xs.map I):=by
    have r:∀k,(Ed k).blk 12=k:=λk=>by rw[pd,bh rfl]
    exact⟨by show 12<13;decide,by rw[r],by rw[r],by rw[r,List.map_map];rfl,rfl⟩
   refine⟨_,_,.slice (Z ⟨12,0,Y⟩) xs.length dp,aj _,H,w,⟨1,⟨c,o,a,1⟩,a,rfl,rfl,rfl,?_⟩,.inr ⟨xs.map I,⟨dA,.inr ⟨12,dp,rfl,CW,.inl rfl⟩⟩,λb o n c e=>by cases e;rfl,?_⟩⟩
   .rw[bh rfl];exact⟨L,by show 0+a*1<=a;omega⟩
   .have B:∀l:List Int,cE (λx u=>(jj I).R (λb=>b=12) x (Ed {kind:=1,sz:=1,cs:=xs.map λx=>Z (I x)}) u/\okV 1 u) l (l.map I):=by
     intro l
     induction l with
     |nil=>exact rfl
     |cons x l S=>exact⟨I x,l.map I,rfl,⟨rfl,⟨rfl,by simp[ab.cells,ab.oneCell']⟩⟩,S⟩
    exact B xs
theorem acr {a b:Nat}(d:a<12)(c:b<12):(F7 a b).args=[.string ⟨(alW a b).toArray⟩]:=by
 have h:((List.range 12).all λa=>kL (dg a) (iO a))=U:=aM;have f:=mz (aB.1 h a (List.mem_range.2 d));have e:=mz (aB.1 h b (List.mem_range.2 c))
 show[ab.string ⟨(_++dg a++[44,32]++dg b++[41]:List UInt8).toArray⟩]=_
 rw[f,e];rfl
theorem ags {k:eh}(a:k.kind<=1):Gl (Ed k):=by
 refine⟨WI k,by show 0<13;decide,by show 0<13;decide,aj _,by show 12<=13;decide,λb c=>?_⟩;rw[pd]
 split
 .exact a
 .split
  .exact aj _
  .exact Nat.zero_le _
section
variable {H:Type}{enc:aT×ab->H}
theorem YY {W:ar}{B:Reach}{G:Nat}{v:ab}{d:DataW H}{p:List MemPlace}(z:ab.okWide ae W B G 22 v)(t:DataW.Trod enc ae W 0 (λ_=>U) U 22 v d p):
  ∃K,adC W K v/\∀k:ar,(∀i o,i<W.heap.size->k.cell? ⟨i,o,Y⟩=W.cell? ⟨i,o,Y⟩)->∃L,DataW.Trod enc ae k 0 (λb=>decide (b<W.heap.size)) U 22 v d L:=by
 have g:ae.underlying 22=Z (.slice 3):=aM;have A:ae.underlying 3=Z (.int .i64):=Tryz.underlying3;have l:ae.cellsOf 3=1:=aM;obtain⟨a,len,e,rfl⟩:=Go.WideShapes.okWide_slice g z;obtain⟨fuel,M⟩:=t;rcases open_ints g A l M with⟨f,u⟩|⟨y,w,S,j,f,_,E,N,q,u,C,D⟩
 .have f:[ab.slice a len e]=[.slice Y 0 0]:=f;cases f;cases u;exact⟨[],⟨λx r=>(by cases r),.inl ⟨rfl,rfl⟩⟩,λk _=>⟨[],1,by
   show DataW.trod enc ae k 0 _ U 1 22 [.slice Y 0 0]=_
   rw[DataW.trod_step];unfold DataW.trodStep;simp only[g]⟩⟩
 .have f:[ab.slice a len e]=[.slice (Z y) w S]:=f;cases f;have q:j.length=e:=by simpa using q
  have m:Cell.ok ae W B G 22 (.slice (Z y) len e):=by
   simp only[ab.okWide,g,Cell.okWide]at z;exact z
  obtain⟨c,o,sp⟩:=y;have R:sp=Y/\c<W.heap.size:=by
   simp only[Cell.ok,g]at m;obtain⟨_,_,_,Q,row,cells,F,_⟩:=m;refine⟨Q,?_⟩;unfold ar.shape? at F;rcases Nat.lt_or_ge c W.heap.size with h|h
   .exact h
   .simp[h]at F
  obtain⟨rfl,s⟩:=R;have J:∀i (h:i<j.length),W.cell? ⟨c,o+i,Y⟩=Z (I j[i]):=λi h=>by
   have :=C i h;rw[Go.WideShapes.add_plain]at this;rw[this,List.getD,List.getElem?_eq_getElem h];rfl
  have hlen:(j.take len).length=len:=by rw[List.length_take];omega
  refine⟨j.take len,⟨λx r=>Nm (D x (List.mem_of_mem_take r)),.inr ⟨c,o,e,by rw[hlen],by rw[hlen];exact E,?_,s,λi n=>⟨_,J i ai⟩,λi n=>?_⟩⟩,λk P=>?_⟩
  .have :maxLen<dp:=eJ;omega
  .rw[List.getElem_take];exact J i (by rw[hlen]at n;omega)
  .cases u;refine⟨_,2,shut_ints' 0 g A l (Nat.zero_le _) E N (by simp[s,q]) (λi n=>?_) D⟩;rw[P _ _ s];have :=C i n;rwa[Go.WideShapes.add_plain]at this
end
def pD (i j:Nat):CD:={f:=75,A:=pA i j,c:=[(66,[1,1,1]),(137,[1,1,2]),(205,[1,1,5,1]),(216,[1,1,5]),(267,[1,1,7]),(339,[1,1,8]),(363,[1,1,9]),(429,[1,1,11,1]),(532,[1,1,11,2]),(540,[1,1,11]),(554,[1,1]),(605,[1,2]),(628,[1,3])],sv:=pSV,qv:=.agg #[vL 1282 0 2 dp,vL 1311 0 1 dp,vL 1295 0 1 dp,.nilIface,vL 1306 0 1 dp,.slice Y 0 0],L:=[vk 1118 [I 1,I i,.string .empty,.bool O],bk 1120 1 [.iface 317 (vP 1118 0)],vk 1132 [I 1,I j,.string .empty,.bool O],bk 1134 1 [.iface 317 (vP 1132 0)],bk 1145 4 [.bool U,.slice Y 0 0,.nilIface,vL 1134 0 1 dp],vk 1148 [vL 1151 0 1 dp,.slice Y 0 0],bk 1151 2 [sB [122],I 1],bk 1183 2 [vP 1148 0,.nilIface],vk 1190 [vP 1148 0,I 0,I 0],bk 1194 1 [.iface 396 (vP 1190 0)],vk 1202 [vL 1205 0 1 dp,.slice Y 0 0],bk 1205 2 [sB [110],I 1],vk 1235 [vP 1002 0,I 1,I 0],vk 1243 [vP 1202 0,I 0,I 0],vk 1250 [I 11,.iface 396 (vP 1235 0),.iface 396 (vP 1243 0)],bk 1253 2 [vP 1202 0,.nilIface,vP 1002 0,.iface 305 (vP 1250 0)],vk 1264 [vP 1002 0,I 1,I 1],bk 1268 1 [.iface 396 (vP 1264 0)],bk 1280 4 [.bool U,vL 1253 0 2 dp,.nilIface,vL 1268 0 1 dp],bk 1282 6 [vP 1148 0,.bool O,.slice Y 0 0,.nilIface,vL 1120 0 1 dp,vL 1145 0 1 dp,vP 1202 0,.bool U,vL 1183 0 1 dp,.nilIface,vL 1194 0 1 dp,vL 1280 0 1 dp],bk 1295 2 [vP 1202 0,.nilIface],vk 1302 [vP 1202 0,I 0,I 0],bk 1306 1 [.iface 396 (vP 1302 0)],bk 1311 2 [sB [110],I 1]],nx:=1314}
def Gc:CD:={f:=75,A:=pA0,c:=[(66,[1,1,1]),(138,[1,1,2]),(162,[1,1,3]),(228,[1,1,5,1]),(331,[1,1,5,2]),(339,[1,1,5]),(352,[1,1]),(403,[1,2]),(426,[1,3])],sv:=ala,qv:=.agg #[.slice Y 0 0,.slice Y 0 0,.slice Y 0 0,.nilIface,.slice Y 0 0,.slice Y 0 0],L:=[],nx:=1262,er:=3}
theorem yU (i j:Nat)(o:Option Nat):(gO (pD i j) o).Fact (gO (pD i j) o).J:=by cases o<;>exact⟨aM,aM,aM⟩
theorem DS (o:Option Nat):(gO Gc o).Fact (gO Gc o).J:=by cases o<;>exact⟨aM,aM,aM⟩
theorem akj (c d h n e:Nat)(f:Option Addr)(a w b g i:ab):cV 198 0 6 [0,1,2] [vP c 0,.agg #[a,w,b],vP d 0]
 [jF [Z a,Z w,Z b] h,
  vT 3 h (.agg #[a,w,b]),
  .call 149 [.agg #[a,w,b],vP d 0] (.tuple #[.slice f n e,I 0]),
  jT,
  .mem (aI c 2) g,
  .call 180 [g] i,
  .mem (du c 2 i) undef]
 .normal [0,28,29,30] [vP c 0,.slice f n e,I n,I 0]:=cT
theorem aki (a b n e i f k c:Nat)(g h d:ab):aY 198 [6] 0 99 [0,28,29,30] [vP a 0,vL b 0 n e,I n,I i]
 (bu (dx i n) U::.idx i n i::.mem (aI b (0+i*1)) (vL f 0 k c)::.mem (aI a 0) (.bool U)::(rp 8 (.bool U) U ([.mem (aI a 2) g,
  .mem (bW ae 29 1 [(0,(vL f 0 k c))]) d,
  .mem (cJ ae #[29,29] g d) h,
  .mem (du a 2 h) undef])))
 .normal [0,28,29,30] [vP a 0,vL b 0 n e,I n,I (bU i 1)]:=cT
theorem akf (a n i:Nat):aY 198 [6] 0 99 [0,29,30] [vP a 0,I n,I i]
 [bu (dx i n) O]
 (.exit 0) [0] [vP a 0]:=cT
theorem akh (a g h fn e b c:Nat)(i f d:Option Addr):cV 198 7 99 [0] [vP a 0]
 [.mem (aI a 3) (.slice i g h),
  .mem (aI a 2) (.slice f fn e),
  fQ,
  .mem (cJ ae #[29,29] (.slice i g h) (.slice f fn e)) (.slice d b c),
  fQ,
  .mem (du a 3 (.slice d b c)) undef,
  .mem (aI a 3) (.slice d b c),
  bu (ji b 1000) O]
 .ret [6] [I 0]:=cT
theorem Wk:jJ 198 3 [6]=U:=aM
theorem Ah:(dq (bX 198)).length<=99:=af aM
theorem Qe:jz 198 [6]:=aM
def Kn (_:Bool)(_ acc:List (List V))(x:List V):List (List V):=acc++[x]
def jH (gF:Bool)(all made:List (List V)):List (List V):=made.foldl (Kn gF all) []
structure wY (m0 m:Mem)(cb mb:Nat)(gF:Bool)(SB FO AO E:Nat->Prop)(fresh all:List (List V))(fv av:ab):Prop where
 ob:Obj m cb 0 [.bool gF,.map (Z mb),fv,av]
 f:mI bD 1 FO E m fresh fv
 a:mI bD 1 AO E m all av
 fx:fresh≠[]->(aW bD 1).R (λy=>FO y\/E y) fresh m fv
 ax:(aW bD 1).R (λy=>AO y\/E y) all m av
 s:gF=U
 cm:cb≠mb
 z:∀b,(b=cb\/b=mb\/FO b\/AO b\/E b)->¬SB b/\m0.next<=b/\b<m.next
 fo:∀b,FO b->b≠cb/\b≠mb/\¬AO b/\¬E b
 ao:∀b,AO b->b≠cb/\b≠mb/\¬E b
 e:∀b,E b->b≠cb/\b≠mb
section
variable {K:fE}{m0 m:Mem}{S SB FO AO E:Nat->Prop}{cb mb:Nat}{gF:Bool}{fresh all:List (List V)}{fv av:ab}
theorem wY.ext{m':Mem}(C:wY m0 m cb mb gF SB FO AO E fresh all fv av)(k:Kp m m' S)(d:∀b,b=cb\/b=mb\/FO b\/AO b\/E b->¬S b):wY m0 m' cb mb gF SB FO AO E fresh all fv av:=
 ⟨C.ob.ext k (d _ (.inl rfl)),C.f.ext k λb c=>d b (.inr (.inr (c.elim .inl λh=> .inr (.inr h)))),C.a.ext k λb c=>d b (.inr (.inr (.inr c))),λh=>(aW bD 1).ext (C.fx h) k λb c=>d b (.inr (.inr (c.elim .inl λh=> .inr (.inr h)))),(aW bD 1).ext C.ax k λb c=>d b (.inr (.inr (.inr c))),C.s,C.cm,λb c=>by have h:=C.z b c;have n:=k.next;exact⟨h.1,h.2.1,ai⟩,C.fo,C.ao,C.e⟩
theorem adm (L:Calm m0)(F:Kp m0 m S)(C:wY m0 m cb mb gF SB FO AO E fresh all fv av)(N:∀b,SB b->b<m.next){x:List V}{u:ab}(X:bD.R E x m u)(Q:okV 1 u)(hl:fresh.length<2^29):
  ∃q p j G,bW ae 29 1 [(0,u)] m=Z (vL m.next 0 1 1,q)/\aI cb 2 m=Z (fv,m)/\cJ ae #[29,29] fv (vL m.next 0 1 1) q=Z (G,p)/\du cb 2 G p=Z (undef,j)/\Kp m j (λy=>y=cb\/FO y)/\wY m0 j cb mb gF SB (λy=>y=m.next+1) AO E (fresh++[x]) all G av:=by
 have g:=L.gd.ext F;have r:∀b,E b->b<m.next:=λb d=>(C.z b (.inr (.inr (.inr (.inr d))))).2.2
 obtain⟨q,p,J,e2,g2,k2,e3,D,L3,⟨h1,FR,P,W,l⟩,n3⟩:=C.f.add (t:=29) g rfl eJ X (λb d=>(C.fo b d).2.2.2) r r Q ai;have M:=C.z cb (.inl rfl);have A:=C.ob.ext D λh=>(C.fo cb h).1 rfl
 obtain⟨j,e4,T,k⟩:=gj (o:=2) J A ((L.gd.own ((F.mono (S':=λy=>S y\/FO y) λ_ _ h=> .inl h).trans D λ_ _ h=> .inr h) M.2.1).may _ _) (af rfl) h1;have n4:=k.next;have i:∀b,E b->¬b=cb:=λb d=>(C.e b d).1
 have H:Kp m j (λy=>y=cb\/FO y):=(D.mono (S':=λy=>y=cb\/FO y) λ_ _ h=> .inr h).trans k λ_ _ h=> .inl h
 have L4:=(L3.Hh (J1:=E) (λb d _=>d.elim id id) λb d h=>by have :=r b h;omega).ext k λb d=>d.elim (λh=>by omega) (i b)
 have K:∀b,AO b\/E b->¬(b=cb\/FO b):=λb d=>by
  rintro(h|h)
  .exact d.elim (λd=>(C.ao b d).1 h) λd=>i b d h
  .exact d.elim (λd=>(C.fo b h).2.2.1 d) λd=>(C.fo b h).2.2.2 d
 refine⟨q,p,j,J,e2,aO C.ob rfl,e3,e4,H,T,L4,C.a.ext H K,λ_=>?_,(aW bD 1).ext C.ax H K,C.s,C.cm,λb d=>?_,λb d=>?_,C.ao,C.e⟩
 .subst P;have B:=W.ext k (show¬m.next+1=cb by omega);refine⟨FR,by rw[List.length_append];exact B.sl (by have :=l.one.1;simpa using this) (.inl rfl),λb o n c e=>(by cases e;exact .inl rfl),l.mono λy v _ w=>⟨bD.mono (bD.ext w.1 k λb d=>d.elim (i b) (i b)) λb d=> .inr (d.elim id id),w.2⟩⟩
 .have hold:∀b,b=cb\/b=mb\/FO b\/AO b\/E b->¬SB b/\m0.next<=b/\b<j.next:=λb d=>by have :=C.z b d;exact⟨this.1,this.2.1,ai⟩
  rcases d with h|h|h|h|h
  .exact hold b (.inl h)
  .exact hold b (.inr (.inl h))
  .exact⟨λh'=>by have :=N b h';omega,by have :=F.next;omega,ai⟩
  .exact hold b (.inr (.inr (.inr (.inl h))))
  .exact hold b (.inr (.inr (.inr (.inr h))))
 .have zm:=C.z mb (.inr (.inl rfl));exact⟨ai,ai,λh=>by have :=C.z b (.inr (.inr (.inr (.inl h))));omega,λh=>by have :=r b h;omega⟩
end
end Go.AM
