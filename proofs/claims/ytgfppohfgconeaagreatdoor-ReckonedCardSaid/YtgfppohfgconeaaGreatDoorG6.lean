/-
  What the claim stands on, part 6.
-/
import Derived.Test.YtgfppohfgconeaaGreatDoorG5
import Derived.Test.YtgfppohfgconeaaGreatDoorTie
import Derived.Conc.HoldsTime
import Derived.LaidLaws
import Derived.Laws.StructEq
set_option linter.unusedVariables false
set_option linter.unusedSimpArgs false
open Go.Proofs.Tryz renaming prog → ae
open Go renaming Value → af, World → aA, Program → aE, TypeId → aW, Operand → cq, IntKind → cQ, Oper → hZ
open Nat renaming le_of_ble_eq_true → ag, le_refl → ai, eq_of_beq_eq_true → aT, lt_of_lt_of_le → bq, le_trans → cM
open Option.some renaming injEq → ah
open Bool renaming and_eq_true → aj, false_eq_true → bu
open Option renaming map_eq_some_iff → ar, bind_some → cz, map_some → cR, isSome_iff_exists → qF
open Prod.mk renaming injEq → aC
open List renaming all_eq_true → aV, mem_cons → bC
namespace Go.AM
open Go Go.Conc Go.Proofs
def px (k k':mn):Prop:=k.kind=k'.kind/\k.sz=k'.sz/\k.pos=k'.pos/\k.cs=k'.cs/\k.es=k'.es/\k.clock=k'.clock/\k.str=k'.str
theorem px.trans{a b c:mn}(h:px a b)(k:px b c):px a c:=
 ⟨h.1.trans k.1,h.2.1.trans k.2.1,h.2.2.1.trans k.2.2.1,h.2.2.2.1.trans k.2.2.2.1,h.2.2.2.2.1.trans k.2.2.2.2.1,h.2.2.2.2.2.1.trans k.2.2.2.2.2.1,h.2.2.2.2.2.2.trans k.2.2.2.2.2.2⟩
theorem px.symm{a b:mn}(h:px a b):px b a:=⟨h.1.symm,h.2.1.symm,h.2.2.1.symm,h.2.2.2.1.symm,h.2.2.2.2.1.symm,h.2.2.2.2.2.1.symm,h.2.2.2.2.2.2.symm⟩
def RU (t:Nat):List (Nat×mn)->kZ->kZ
 | [],h=>h
 |x::l,h=>(RU t l h).put x.1 {x.2 with bw:=t}
def ju (m:Mem)(L:List (Nat×mn))(nx:Nat):Mem:={m with heap:=RU m.tick L m.heap,next:=nx,tick:=m.tick+1}
theorem Ht {t:Nat}:∀{L:List (Nat×mn)} {h:kZ} (b:Nat),((RU t L h).get b=h.get b/\∀x∈L,x.1≠b)\/∃k,(b,k)∈L/\(RU t L h).get b={k with bw:=t}
 | [],h,b=> .inl ⟨rfl,fun x hx=>by cases hx⟩
 |x::l,h,b=>by
  unfold RU;rw[kZ.get_put]
  by_cases e:x.1=b
  ·subst e;exact .inr ⟨x.2,List.mem_cons_self ..,bL rfl⟩
  ·rw[bT e];rcases Ht (t:=t) (L:=l) (h:=h) b with⟨h1,h2⟩|⟨k,h1,h2⟩
   ·refine .inl ⟨h1,fun y hy=>?_⟩;rcases bC.1 hy with rfl|hy
    ·exact e
    ·exact h2 y hy
   ·exact .inr ⟨k,List.mem_cons_of_mem _ h1,h2⟩
theorem js {m:Mem}{L:List (Nat×mn)}{nx:Nat}(b:Nat):(ju m L nx).blk b=m.blk b/\(∀x∈L,x.1≠b)\/∃k,(b,k)∈L/\(ju m L nx).blk b={k with bw:=m.tick}:=Ht b
structure PB (G:Nat)(mi m:Mem):Prop where
 wf:Wf mi
 next:mi.next=m.next
 base:mi.base=m.base
 home:mi.home=m.home
 hn:m.home<=m.next
 fi:mi.floor=mi.base
 fm:m.floor=m.base
 WT:mi.bO=[]
 bO:m.bO=[]
 akU:mi.opn=[]
 opn:m.opn=[]
 wgI:mi.wg=none
 wg:m.wg=none
 XY:mi.pend=[]
 pend:m.pend=[]
 aii:mi.deaf=0
 deaf:m.deaf=0
 same:∀b,(mi.blk b).kind≠0->px (mi.blk b) (m.blk b)
 low:∀b,b<m.home->(m.blk b).kind<=1
def yT (ρ:dL)(mi m:Mem)(E:Perm):Perm where
 rd c x:=(∃b p,ρ b=some p/\(mi.blk b).kind=0/\p.c=c/\p.d<=x/\x<p.d+p.room/\m.pz b (x-p.d))\/E.rd c x
 wr c x:=(∃b p,ρ b=some p/\(mi.blk b).kind=0/\p.c=c/\p.d<=x/\x<p.d+p.room/\m.okW b (x-p.d))\/E.wr c x
 ob c:=(∃b p,ρ b=some p/\(mi.blk b).kind=0/\p.c=c/\((m.blk b).kind=2\/(m.blk b).kind=3)/\m.bU b=true)\/E.ob c
 deaf:=E.deaf
section
variable {P:aE}{G:Nat}{E:Perm}{bI w:aA}{ρ:dL}{mi m:Mem}
theorem PB.pz(h:PB G mi m){b o:Nat}(k:mi.pz b o):m.pz b o:=by
 obtain⟨k1,k2,k3⟩:=k;obtain⟨s1,_,_,s4,_⟩:=h.same b (by rw[k1];simp);exact⟨by rw[<-s1];exact k1,by rw[h.bO];rfl,by rw[<-s4];exact k3⟩
theorem PB.okW(h:PB G mi m){b o:Nat}(k:mi.okW b o):m.okW b o:=by
 refine⟨h.pz k.1,?_⟩;rcases k.2 with k|k
 ·exact .inl (by rw[h.fm,<-h.base,<-h.fi];exact k)
 ·rw[h.akU]at k;cases k
theorem rY {m:Mem}(h:m.bO=[])(b:Nat):m.bU b=true↔m.home<=b:=by
 unfold Mem.bU;rw[h];simp[aS]
theorem Se (h:PB P.globals.size mi m)(H:dd P E bI .idle ρ m w):dd P (yT ρ mi m E) w .idle ρ mi w:=by
 have hs:=H.ku;have l:=xY H.ku H.apart;have Zv:∀{b b' c x:Nat}{p p':Pl},b≠b'->ρ b=some p->ρ b'=some p'->p.c=c->p'.c=c->p.d<=x->x<p.d+p.room->p'.d<=x->x<p'.d+p'.room->(m.blk b).kind=1->(m.blk b').kind=1->False:=
  fun dx h1 h2 e1 e2 r1 r2 r3 r4 k1 k2=>by
   have :=(hs.sep _ _ _ _ dx h1 h2 (by rw[k1];simp) (by rw[k2];simp) (e1.trans e2.symm)).2.2;omega
 refine⟨⟨fun b p hp=>by rw[h.next];exact hs.nj b p hp,fun b p hp hk=>?_,fun b p o v hp hc=>?_,fun b p o hp ho hk hb=>?_,fun b p hp hk ho=>?_,fun b p hp hk ho=>?_,
  fun b b' p p' dx hp dW hk fR hc=>?_,hs.rr,fun b p hp hk iV=>?_⟩,bD.refl _ _,⟨fun c x he=>⟨?_,?_⟩,fun c he=>⟨?_,?_,?_⟩,fun c x he=>?_⟩,H.qy,⟨h.wgI,h.XY,by rw[h.home,h.next];exact h.hn⟩,h.wf,fun b p x hp hb h1 h2 h3 he=>?_,fun c x he hr=>?_⟩
 ·obtain⟨s1,s2,_,s4,_⟩:=h.same b (by rw[hk];simp);obtain⟨a1,a2,a3⟩:=hs.cells b p hp (by rw[<-s1];exact hk);exact⟨a1.trans s2.symm,by rw[s4];exact a2,a3⟩
 ·obtain⟨c1,c2,c3⟩:=rj hc;obtain⟨s1,_,_,s4,_⟩:=h.same b (by rw[c1];simp);exact hs.lT b p o v hp (rT (by rw[<-s1];exact c1) (by rw[h.bO];rfl) (by rw[<-s4];exact c3))
 ·obtain⟨s1,_⟩:=h.same b (by rw[hk];simp);exact hs.thaw b p o hp ho (by rw[<-s1];exact hk) (by rw[<-h.base];exact hb)
 ·obtain⟨s1,_,_,_,s5,s6,_⟩:=h.same b (by rw[hk];simp);rw[s5,s6];exact hs.maps b p hp (by rw[<-s1];exact hk) ((rY h.bO b).2 (by rw[<-h.home];exact(rY h.WT b).1 ho))
 ·obtain⟨s1,_,s3,_,_,_,s7⟩:=h.same b (by rw[hk];simp);rw[s3,s7];exact hs.lN b p hp (by rw[<-s1];exact hk) ((rY h.bO b).2 (by rw[<-h.home];exact(rY h.WT b).1 ho))
 ·obtain⟨s1,_⟩:=h.same b hk;obtain⟨s1',_⟩:=h.same b' fR;rw[s1]at hk⊢;rw[s1']at fR⊢;exact hs.sep b b' p p' dx hp dW hk fR hc
 ·obtain⟨s1,_,s3,_⟩:=h.same b (by rw[hk];simp);exact hs.vars b p hp (by rw[<-s1];exact hk) (by rw[<-s3];exact iV)
 ·rcases he with⟨b,p,h1,_,rfl,_⟩|he
  ·exact hs.rr b p h1
  ·exact(H.apart.cell c x he).1
 ·rintro⟨b',p',f1,f2,f3,f4,f5⟩;rcases he with⟨b,p,h1,h0,h2,h3,h4,h5⟩|he
  ·have dx:b≠b':=fun e=>by subst e;rw[f5.1.1]at h0;cases h0
   exact Zv dx h1 f1 h2 f2 h3 h4 f3 f4 h5.1 (h.pz f5.1).1
  ·exact(H.apart.cell c x he).2 ⟨b',p',f1,f2,f3,f4,h.okW f5⟩
 ·rcases he with⟨b,p,h1,_,rfl,_⟩|he
  ·exact hs.rr b p h1
  ·exact(H.apart.obj c he).1
 ·rintro⟨b',p',f1,f2,f3,f4⟩;have f3':(m.blk b').kind=2\/(m.blk b').kind=3:=by rw[<-(h.same b' av).1];exact f3
  rcases he with⟨b,p,h1,h0,h2,h3,h4⟩|he
  ·have dx:b≠b':=fun e=>by subst e;omega
   have :=hs.sep b b' p p' dx h1 f1 av av (h2.trans f2.symm);omega
  ·exact(H.apart.obj c he).2.1 ⟨b',p',f1,f2,f3',(rY h.bO b').2 (by rw[<-h.home];exact(rY h.WT b').1 f4)⟩
 ·rcases he with⟨b,p,h1,_,h2,h3,h4⟩|he
  ·exact(hs.low.ob c ⟨b,p,h1,h2,h3,h4⟩).2
  ·exact(H.apart.obj c he).2.2
 ·rcases he with⟨b,p,h1,h0,h2,h3,h4,h5⟩|he
  ·exact .inl ⟨b,p,h1,h0,h2,h3,h4,h5.1⟩
  ·exact .inr (H.apart.wf c x he)
 ·rcases he with⟨b',p',f1,f0,f2,f3,f4,f5⟩|he
  ·have dx:b≠b':=fun e=>by subst e;rw[h3.1]at f0;cases f0
   exact Zv dx hp f1 rfl f2 h1 h2 f3 f4 (h.pz h3).1 f5.1
  ·exact H.K' b p x hp (by rw[<-h.base];exact hb) h1 h2 (h.pz h3) he
 ·obtain⟨b',p',f1,f2,f3,f4,f5⟩:=hr;rcases he with⟨b,p,h1,h0,h2,h3,h4,h5⟩|he
  ·have dx:b≠b':=fun e=>by subst e;rw[f5.1]at h0;cases h0
   exact Zv dx h1 f1 h2 f2 h3 h4 f3 f4 h5.1.1 (h.pz f5).1
  ·exact H.ew c x he ⟨b',p',f1,f2,f3,f4,h.pz f5⟩
structure Lb (mi mq:Mem)(L:List (Nat×mn))(nx:Nat):Prop where
 base:mq.base=mi.base
 home:mq.home=mi.home
 floor:mq.floor=mi.floor
 bO:mq.bO=[]
 opn:mq.opn=[]
 wg:mq.wg=none
 deaf:mq.deaf=0
 adi:∀b,b<mi.next->(mi.blk b).kind≠0->px (mq.blk b) (mi.blk b)
 next:mq.next<=nx
 nx0:mi.next<=nx
 new:∀x∈L,mi.next<=x.1/\x.1<nx/\px x.2 (mq.blk x.1)/\x.2.live
variable {mq:Mem}{L:List (Nat×mn)}{nx:Nat}{CY:dL}{w':aA}
theorem R1 (h:PB G mi m)(hw:Wf m)(q:Lb mi mq L nx){b:Nat}(hk:((ju m L nx).blk b).kind≠0):
  (px ((ju m L nx).blk b) (mq.blk b)/\(m.next<=b\/(mi.blk b).kind≠0))\/((ju m L nx).blk b=m.blk b/\(mi.blk b).kind=0/\b<m.next):=by
 rcases js (m:=m) (L:=L) (nx:=nx) b with⟨e,_⟩|⟨k,hm,e⟩
 ·by_cases hb:b<m.next
  ·by_cases hi:(mi.blk b).kind=0
   ·exact .inr ⟨e,hi,hb⟩
   ·refine .inl ⟨?_,.inr hi⟩;rw[e];exact(h.same b hi).symm.trans (q.adi b (by rw[h.next];exact hb) hi).symm
  ·rw[e,hw.DL b av]at hk;exact absurd rfl hk
 ·obtain⟨n1,_,n3,_⟩:=q.new _ hm;refine .inl ⟨?_,.inl (by rw[<-h.next];exact n1)⟩;rw[e];exact n3
theorem wM (h:PB G mi m)(q:Lb mi mq L nx){b o:Nat}(hs:px ((ju m L nx).blk b) (mq.blk b))(k:(ju m L nx).pz b o):mq.pz b o:=by
 obtain⟨k1,k2,k3⟩:=k;obtain⟨s1,_,_,s4,_⟩:=hs;exact⟨by rw[<-s1];exact k1,by rw[q.bO];rfl,by rw[<-s4];exact k3⟩
theorem R2 (h:PB G mi m)(q:Lb mi mq L nx){b o:Nat}(hs:px ((ju m L nx).blk b) (mq.blk b))(k:(ju m L nx).okW b o):mq.okW b o:=by
 refine⟨wM h q hs k.1,?_⟩;rcases k.2 with k|k
 ·have k:m.floor<=b:=k;exact .inl (by rw[q.floor,h.fi,h.base,<-h.fm];exact k)
 ·have k:bG m.opn b o=true:=k;rw[h.opn]at k;cases k
theorem OB (h:PB P.globals.size mi m)(H:dd P E bI .idle ρ m w)(Hq:dd P (yT ρ mi m E) w .idle CY mq w')(hle:ρ.le CY)(hold:∀b,b<m.next->CY b=ρ b)(q:Lb mi mq L nx):
  dd P E bI .idle CY (ju m L nx) w'/\jN ((aB CY (ju m L nx)).or E) ((aB CY mq).or (yT ρ mi m E)):=by
 have hs:=H.ku;have sq:=Hq.ku;have K:=Hq.rest;have KE:bD E w w':=K.sub (fun _ _=> .inr) fun _=> .inr
 have src:=fun{b:Nat}=>R1 (b:=b) h H.wf q
 have rrd:∀{b p x},ρ b=some p->(mi.blk b).kind=0->p.d<=x->x<p.d+p.room->m.pz b (x-p.d)->(yT ρ mi m E).rd p.c x:=fun h1 h2 h3 h4 h5=> .inl ⟨_,_,h1,h2,rfl,h3,h4,h5⟩
 have old:∀{b p},b<m.next->CY b=some p->ρ b=some p:=fun hb hp=>by rw[<-hold _ hb];exact hp
 have Yz:∀c x,(aB CY (ju m L nx)).rd c x->(aB CY mq).rd c x\/(yT ρ mi m E).rd c x:=by
  rintro c x ⟨b,p,h1,h2,h3,h4,h5⟩;rcases src (b:=b) (by rw[h5.1];simp)with⟨s,_⟩|⟨e,h0,hb⟩
  ·exact .inl ⟨b,p,h1,h2,h3,h4,wM h q s h5⟩
  ·refine .inr (.inl ⟨b,p,old hb h1,h0,h2,h3,h4,?_⟩);obtain⟨k1,k2,k3⟩:=h5;rw[e]at k1 k3;exact⟨k1,k2,k3⟩
 have tc:∀c x,(aB CY (ju m L nx)).wr c x->(aB CY mq).wr c x\/∃b p,ρ b=some p/\(mi.blk b).kind=0/\p.c=c/\p.d<=x/\x<p.d+p.room/\m.okW b (x-p.d):=by
  rintro c x ⟨b,p,h1,h2,h3,h4,h5⟩;rcases src (b:=b) (by rw[h5.1.1];simp)with⟨s,_⟩|⟨e,h0,hb⟩
  ·exact .inl ⟨b,p,h1,h2,h3,h4,R2 h q s h5⟩
  ·refine .inr ⟨b,p,old hb h1,h0,h2,h3,h4,?_⟩;obtain⟨⟨k1,k2,k3⟩,k4⟩:=h5;rw[e]at k1 k3;exact⟨⟨k1,k2,k3⟩,k4⟩
 have aaB:∀b,(ju m L nx).bU b=true->mq.bU b=true:=fun b ho=>(rY q.bO b).2 (by rw[q.home,h.home];exact(rY (m:=ju m L nx) h.bO b).1 ho)
 have Qw:∀b,(ju m L nx).bU b=true->m.bU b=true:=fun b ho=>ho
 have Dw:∀c,(aB CY (ju m L nx)).ob c->(aB CY mq).ob c\/∃b p,ρ b=some p/\(mi.blk b).kind=0/\p.c=c/\((m.blk b).kind=2\/(m.blk b).kind=3)/\m.bU b=true:=by
  rintro c ⟨b,p,h1,h2,h3,h4⟩;rcases src (b:=b) av with⟨s,_⟩|⟨e,h0,hb⟩
  ·exact .inl ⟨b,p,h1,h2,by rw[<-s.1];exact h3,aaB b h4⟩
  ·exact .inr ⟨b,p,old hb h1,h0,h2,by rw[<-e];exact h3,Qw b h4⟩
 have H4:∀{b b' p p'},CY b=some p->CY b'=some p'->px ((ju m L nx).blk b) (mq.blk b)->(m.next<=b\/(mi.blk b).kind≠0)->(ju m L nx).blk b'=m.blk b'->(mi.blk b').kind=0->b'<m.next->
   ((ju m L nx).blk b).kind≠0->(m.blk b').kind≠0->p.c=p'.c->((ju m L nx).blk b).kind=1/\(m.blk b').kind=1/\(p.room=0\/p'.room=0\/p.d+p.room<=p'.d\/p'.d+p'.room<=p.d):=by
  intro b b' p p' hp dW s abo e h0 gN hk fR hc;have HK:=old gN dW
  by_cases hb:b<m.next
  ·have hi:(mi.blk b).kind≠0:=abo.resolve_left av;have e1:((ju m L nx).blk b).kind=(m.blk b).kind:=s.1.trans ((q.adi b (by rw[h.next];exact hb) hi).1.trans (h.same b hi).1);rw[e1]at hk⊢;exact hs.sep b b' p p' (fun e=>by subst e;exact hi h0) (old hb hp) HK hk fR hc
  ·have k3:=(Hq.wf.live b).2;have k3':=(H.wf.live b').2;rw[<-s.1]at k3;have fl:mq.floor<=b:=by rw[q.floor,h.fi,h.base,<-h.fm];have :=H.wf.fl;omega
   have oq:mq.bU b=true:=(rY q.bO b).2 (by rw[q.home,h.home];have :=h.hn;omega);have alive:∀{k:mn},k.live->∀o,o<k.cs.length->∃v,k.cs[o]?=some (some v):=fun{k} hk o ho=>by
    have h1:=List.getElem?_eq_getElem ho;cases hv:k.cs[o]with
    |none=>exact absurd hv (hk.1 _ (List.getElem_mem ho))
    |some v=>exact⟨v,by rw[h1,hv]⟩
   have shk:((ju m L nx).blk b).kind=1->∃y,w'.shape? p.c=some y:=fun h=>by
    obtain⟨_,_,e,n,h,_⟩:=sq.cells b p hp (by rw[<-s.1];exact h);exact⟨_,h⟩
   have Zt:(m.blk b').kind=1->∃y,w'.shape? p'.c=some y:=fun h=>by
    obtain⟨_,_,e,n,h,_⟩:=hs.cells b' p' HK h;exact⟨_,by rw[K.shape _ (hs.rr b' p' HK)];exact h⟩
   have ob':(m.blk b').kind=2\/(m.blk b').kind=3->(yT ρ mi m E).ob p'.c:=fun Ms=> .inl ⟨b',p',HK,h0,rfl,Ms,(rY h.bO b').2 (by
    by_cases cN:b'<m.home
    ·have :=h.low b' cN;omega
    ·omega)⟩
   by_cases e1:((ju m L nx).blk b).kind=1
   ·by_cases e2:(m.blk b').kind=1
    ·refine⟨e1,e2,Classical.byContradiction fun hn=>?_⟩;have WB:(aB CY mq).wr p.c (max p.d p'.d):=
      ⟨b,p,hp,rfl,av,av,⟨by rw[<-s.1];exact e1,by rw[q.bO];rfl,alive (Hq.wf.live b) _⟩,.inl fl⟩
     have hy2:(yT ρ mi m E).rd p.c (max p.d p'.d):=by
      rw[hc];exact rrd HK h0 av av ⟨e2,by rw[h.bO];rfl,alive (H.wf.live b') _⟩
     exact(Hq.apart.cell _ _ hy2).2 WB
    ·exfalso
     obtain⟨y,hy⟩:=shk e1;have :=(Hq.apart.obj _ (ob' av)).2.2;rw[<-hc,hy]at this;cases this
   ·exfalso
    have o1:(aB CY mq).ob p.c:=⟨b,p,hp,rfl,by rw[<-s.1];omega,oq⟩
    by_cases e2:(m.blk b').kind=1
    ·obtain⟨y,hy⟩:=Zt e2;have :=(sq.low.ob _ o1).2;rw[hc,hy]at this;cases this
    ·have :=(Hq.apart.obj _ (ob' av)).2.1;rw[<-hc]at this;exact this o1
 refine⟨⟨⟨fun b p hp=>?_,fun b p hp hk=>?_,fun b p o v hp hc=>?_,fun b p o hp ho hk hb=>?_,fun b p hp hk ho=>?_,fun b p hp hk ho=>?_,
  fun b b' p p' dx hp dW hk fR hc=>?_,sq.rr,fun b p hp hk iV=>?_⟩,H.rest.trans KE,⟨fun c x he=>⟨bq (H.apart.cell c x he).1 K.size,fun hx=>?_⟩,fun c he=>⟨bq (H.apart.obj c he).1 K.size,fun hx=>?_,?_⟩,H.apart.wf⟩,
  fun g hg=>let⟨p,a,b⟩:=H.qy g hg;⟨p,hle _ _ a,b⟩,⟨h.wg,h.pend,?_⟩,?_,fun b p x hp hb h1 h2 h3 he=>?_,fun c x he hr=>?_⟩,⟨fun c x hx=>?_,fun c x hx=>?_,fun c hx=>?_⟩⟩
 ·exact bq (sq.nj b p hp) q.next
 ·rcases src (b:=b) (by rw[hk];simp)with⟨s,_⟩|⟨e,h0,hb⟩
  ·obtain⟨s1,s2,_,s4,_⟩:=s;obtain⟨a1,a2,a3⟩:=sq.cells b p hp (by rw[<-s1];exact hk);exact⟨a1.trans s2.symm,by rw[s4];exact a2,a3⟩
  ·rw[e]at hk⊢;obtain⟨a1,a2,e',n,a3,a4⟩:=hs.cells b p (old hb hp) hk;exact⟨a1,a2,e',n,by rw[K.shape _ (hs.rr b p (old hb hp))];exact a3,a4⟩
 ·obtain⟨c1,c2,c3⟩:=rj hc;rcases src (b:=b) (by rw[c1];simp)with⟨s,_⟩|⟨e,h0,hb⟩
  ·obtain⟨s1,_,_,s4,_⟩:=s;exact sq.lT b p o v hp (rT (by rw[<-s1];exact c1) (by rw[q.bO];rfl) (by rw[<-s4];exact c3))
  ·rw[e]at c1 c3;have pf:m.cell b o=some v:=rT c1 c2 c3;obtain⟨v',a1,a2⟩:=hs.lT b p o v (old hb hp) pf;have F8:=jc hs (old hb hp) pf;refine⟨v',?_,a2.pC hle⟩;rw[K.cell _ _ (rrd (old hb hp) h0 av av (by rw[Nat.add_sub_cancel_left];exact Mem.eN pf))];exact a1
 ·rcases src (b:=b) (by rw[hk];simp)with⟨s,_⟩|⟨e,h0,gN⟩
  ·exact sq.thaw b p o hp ho (by rw[<-s.1];exact hk) (by rw[q.base,h.base];exact hb)
  ·rw[e]at hk;rw[tj (K.qA _ _ (hs.rr b p (old gN hp)))];exact hs.thaw b p o (old gN hp) ho hk hb
 ·rcases src (b:=b) (by rw[hk];simp)with⟨s,_⟩|⟨e,h0,hb⟩
  ·obtain⟨s1,_,_,_,s5,s6,_⟩:=s;rw[s5,s6];exact sq.maps b p hp (by rw[<-s1];exact hk) (aaB b ho)
  ·rw[e]at hk⊢;obtain⟨mj,a1,a2⟩:=hs.maps b p (old hb hp) hk (Qw b ho);refine⟨mj,?_,a2.mono fun _ _ x=>⟨x.1.pC hle,x.2.1.pC hle,x.2.2⟩⟩;rw[K.obj _ (.inl ⟨b,p,old hb hp,h0,rfl,.inl hk,Qw b ho⟩)];exact a1
 ·rcases src (b:=b) (by rw[hk];simp)with⟨s,_⟩|⟨e,h0,hb⟩
  ·obtain⟨s1,_,s3,_,_,_,s7⟩:=s;rw[s3,s7];exact sq.lN b p hp (by rw[<-s1];exact hk) (aaB b ho)
  ·rw[e]at hk⊢;obtain⟨a1,a2⟩:=hs.lN b p (old hb hp) hk (Qw b ho);exact⟨a1,by rw[K.obj _ (.inl ⟨b,p,old hb hp,h0,rfl,.inr hk,Qw b ho⟩)];exact a2⟩
 ·rcases src hk with⟨s,t⟩|⟨e,h0,hb⟩<;>rcases src fR with⟨s',t'⟩|⟨e',h0',gN⟩
  ·rw[s.1]at hk⊢;rw[s'.1]at fR⊢;exact sq.sep b b' p p' dx hp dW hk fR hc
  ·rw[e']at fR⊢;exact H4 hp dW s t e' h0' gN hk fR hc
  ·rw[e]at hk⊢;obtain⟨a1,a2,a3⟩:=H4 dW hp s' t' e h0 hb fR hk hc.symm;exact⟨a2,a1,av⟩
  ·rw[e]at hk⊢;rw[e']at fR⊢;exact hs.sep b b' p p' dx (old hb hp) (old gN dW) hk fR hc
 ·rcases src (b:=b) (by rw[hk];simp)with⟨s,_⟩|⟨e,h0,hb⟩
  ·obtain⟨s1,_,s3,_⟩:=s;exact sq.vars b p hp (by rw[<-s1];exact hk) (by rw[<-s3];exact iV)
  ·rw[e]at hk iV;exact hs.vars b p (old hb hp) hk iV
 ·rcases tc c x hx with hx|⟨b,p,h1,_,h2,h3,h4,h5⟩
  ·exact(Hq.apart.cell c x (.inr he)).2 hx
  ·exact(H.apart.cell c x he).2 ⟨b,p,h1,h2,h3,h4,h5⟩
 ·rcases Dw c hx with hx|⟨b,p,h1,_,h2,h3,h4⟩
  ·exact(Hq.apart.obj c (.inr he)).2.1 hx
  ·exact(H.apart.obj c he).2.1 ⟨b,p,h1,h2,h3,h4⟩
 ·exact(Hq.apart.obj c (.inr he)).2.2
 ·show m.home<=nx
  have :=h.hn;have :=q.nx0;have :=h.next;omega
 ·refine⟨fun b=>?_,fun b hb=>?_,fun s sA=>?_,?_,fun b=>?_⟩
  ·show _<m.tick+1
   rcases js (m:=m) (L:=L) (nx:=nx) b with⟨e,_⟩|⟨k,_,e⟩
   ·rw[e];exact Nat.lt_succ_of_lt (H.wf.bw b)
   ·rw[e];exact Nat.lt_succ_self _
  ·have hb:nx<=b:=hb;rcases js (m:=m) (L:=L) (nx:=nx) b with⟨e,_⟩|⟨k,hm,e⟩
   ·rw[e];exact H.wf.DL b (by have :=q.nx0;have :=h.next;omega)
   ·have :=(q.new _ hm).2.1;have :b<nx:=this;omega
  ·have sA:s∈m.bO:=sA;rw[h.bO]at sA;cases sA
  ·show m.floor<=nx
   have :=H.wf.fl;have :=q.nx0;have :=h.next;omega
  ·rcases js (m:=m) (L:=L) (nx:=nx) b with⟨e,_⟩|⟨k,hm,e⟩
   ·rw[e];exact H.wf.live b
   ·rw[e];exact(q.new _ hm).2.2.2
 ·rcases src (b:=b) (by rw[h3.1];simp)with⟨s,_⟩|⟨e,h0,gN⟩
  ·exact Hq.K' b p x hp (by rw[q.base,h.base];exact hb) h1 h2 (wM h q s h3) (.inr he)
  ·obtain⟨k1,k2,k3⟩:=h3;rw[e]at k1 k3;exact H.K' b p x (old gN hp) hb h1 h2 ⟨k1,k2,k3⟩ he
 ·obtain⟨b,p,h1,h2,h3,h4,h5⟩:=hr;rcases src (b:=b) (by rw[h5.1];simp)with⟨s,_⟩|⟨e,h0,gN⟩
  ·exact Hq.ew c x (.inr he) ⟨b,p,h1,h2,h3,h4,wM h q s h5⟩
  ·obtain⟨k1,k2,k3⟩:=h5;rw[e]at k1 k3;exact H.ew c x he ⟨b,p,old gN h1,h2,h3,h4,k1,k2,k3⟩
 ·rcases hx with hx|hx
  ·exact(Yz c x hx).imp id id
  ·exact .inr (.inr hx)
 ·rcases hx with hx|hx
  ·exact(tc c x hx).imp id .inl
  ·exact .inr (.inr hx)
 ·rcases hx with hx|hx
  ·exact(Dw c hx).imp id .inl
  ·exact .inr (.inr hx)
end
theorem aaY {mi m mq:Mem}{L:List (Nat×mn)}{nx G:Nat}(h:PB G mi m)(q:Lb mi mq L nx):Mv m (ju m L nx):=by
 refine⟨by have :=q.nx0;have :=h.next;show m.next<=nx;omega,Nat.le_succ _,fun hw=>?_,fun b=>?_,fun s hs=> .inl hs⟩
 ·refine⟨fun b=>?_,fun b hb=>?_,fun s sA=>?_,?_,fun b=>?_⟩
  ·show _<m.tick+1
   rcases js (m:=m) (L:=L) (nx:=nx) b with⟨e,_⟩|⟨k,_,e⟩
   ·rw[e];exact Nat.lt_succ_of_lt (hw.bw b)
   ·rw[e];exact Nat.lt_succ_self _
  ·have hb:nx<=b:=hb;rcases js (m:=m) (L:=L) (nx:=nx) b with⟨e,_⟩|⟨k,hm,e⟩
   ·rw[e];exact hw.DL b (by have :=q.nx0;have :=h.next;omega)
   ·have :b<nx:=(q.new _ hm).2.1;omega
  ·have sA:s∈m.bO:=sA;rw[h.bO]at sA;cases sA
  ·show m.floor<=nx
   have :=hw.fl;have :=q.nx0;have :=h.next;omega
  ·rcases js (m:=m) (L:=L) (nx:=nx) b with⟨e,_⟩|⟨k,hm,e⟩
   ·rw[e];exact hw.live b
   ·rw[e];exact(q.new _ hm).2.2.2
 ·rcases js (m:=m) (L:=L) (nx:=nx) b with⟨e,_⟩|⟨k,_,e⟩
  ·exact .inl e
  ·exact .inr (by rw[e];exact ai _)
theorem Wv {Fin:af->aA->Prop}{call:cL}(C:iG ae X0 true (Jn Fin) Mv call){mi mq m:Mem}{f:Nat}{args:List af}{v:af}{L:List (Nat×mn)}{nx:Nat}(fX:call f args mi=some (v,mq))(hb:fN ae f=true)
  (h:PB ae.globals.size mi m)(q:Lb mi mq L nx):
  Mv m (ju m L nx)/\∃c,∀{E:Perm}{bI:aA}{σ:nq}{ρ:dL}{w:aA} (bX:Array af) (fr:Frame) (cs:List Frame) (n:Nat) (kind:CallKind),
   dd ae E bI σ ρ m w->bM (bg ρ) args bX.toList->(kind= .normal\/(kind= .deferred/\fr.mode= .returning/\f≠X0.Aq/\f≠X0.oQ))->
   (∀gJ bH v' w',ρ.le bH->rl m ρ bH->dd ae E bI gJ bH (ju m L nx) w'->bg bH v v'->Jn Fin gJ n ((aB bH (ju m L nx)).or E) (G (if kind= .normal then fr.finish v' else fr) cs) w')->
   Jn Fin σ (n+c) ((aB ρ m).or E) (G (Frame.enter ae f bX kind) (fr::cs)) w:=by
 refine⟨aaY h q,?_⟩;obtain⟨_,_,uy⟩:=C f args mi v mq h.wf fX;obtain⟨c,uy⟩:=uy hb;refine⟨c,fun{E bI σ ρ w} bX fr cs n kind H hr hk SQ=>?_⟩;cases σ with
 |Ap=>trivial
 |fS gr=>
  obtain⟨_,_,_,wa,k1,_⟩:=H.fS;rw[h.wg]at k1;cases k1
 |idle=>
  have HI:=Se h H;have key:=uy bX fr cs n kind HI hr hk fun gJ CY v' w' hle hold Hq hv=>by
   cases gJ with
   |Ap=>trivial
   |fS gr=>
    obtain⟨_,_,_,wa,k1,_⟩:=Hq.fS;rw[q.wg]at k1;cases k1
   |idle=>
    have kz:∀b,b<m.next->CY b=ρ b:=fun b hb=>hold b (by rw[h.next];exact hb) fun s hs=>by rw[h.XY]at hs;cases hs
    obtain⟨Ho,yh⟩:=OB h H Hq hle kz q;have :=SQ .idle CY v' w' hle (.of kz) Ho hv;exact JM.perm yh Ho.low.wr (h.deaf.trans q.deaf.symm) this
  have yh:jN ((aB ρ mi).or (yT ρ mi m E)) ((aB ρ m).or E):=by
   refine⟨fun c x hx=>?_,fun c x hx=>?_,fun c hx=>?_⟩
   ·rcases hx with⟨b,p,h1,h2,h3,h4,h5⟩|⟨b,p,h1,_,h2,h3,h4,h5⟩|hx
    ·exact .inl ⟨b,p,h1,h2,h3,h4,h.pz h5⟩
    ·exact .inl ⟨b,p,h1,h2,h3,h4,h5⟩
    ·exact .inr hx
   ·rcases hx with⟨b,p,h1,h2,h3,h4,h5⟩|⟨b,p,h1,_,h2,h3,h4,h5⟩|hx
    ·exact .inl ⟨b,p,h1,h2,h3,h4,h.okW h5⟩
    ·exact .inl ⟨b,p,h1,h2,h3,h4,h5⟩
    ·exact .inr hx
   ·rcases hx with⟨b,p,h1,h2,h3,h4⟩|⟨b,p,h1,_,h2,h3,h4⟩|hx
    ·exact .inl ⟨b,p,h1,h2,by rw[<-(h.same b av).1];exact h3,(rY h.bO b).2 (by rw[<-h.home];exact(rY h.WT b).1 h4)⟩
    ·exact .inl ⟨b,p,h1,h2,h3,h4⟩
    ·exact .inr hx
  exact JM.perm yh HI.low.wr (h.aii.trans h.deaf.symm) key
end Go.AM
namespace Go.AM
open Go Go.Conc Go.Proofs
def eqA:Option Addr->Option Addr->Bool
 |none,none=>true
 |some ⟨b,o,none⟩,some ⟨b',o',none⟩=>Nat.beq b b'&&Nat.beq o o'
 |_,_=>false
theorem Tl {a b:Option Addr}(h:eqA a b=true):a=b:=by
 unfold eqA at h
 split at h
 ·rfl
 ·rw[aj]at h;rw[aT h.1,aT h.2]
 ·cases h
def Us {α:Type}(e:α->α->Bool):List α->List α->Bool
 | [],[]=>true
 |a::l,b::r=>e a b&&Us e l r
 |_,_=>false
theorem yx {α:Type}{e:α->α->Bool}(he:∀a b,e a b=true->a=b):∀{l r:List α},Us e l r=true->l=r
 | [],[],_=>rfl
 |a::l,b::r,h=>by
  unfold Us at h;rw[aj]at h;rw[he a b h.1,yx he h.2]
 | [],_::_,h=>by cases h
 |_::_,[],h=>by cases h
def Ur:Nat->af->af->Bool
 |0,_,_=>false
 |n+1,a,b=>
  match a,b with
  | .bool x,.bool y=>decide (x=y)
  | .int k x,.int k' y=>decide (k=k')&&decide (x=y)
  | .string s,.string t=>pX s.data.toList t.data.toList
  | .pointer a,.pointer b=>eqA a b
  | .slice a l c,.slice a' l' c'=>eqA a a'&&Nat.beq l l'&&Nat.beq c c'
  | .map (some r),.map (some r')=>Nat.beq r r'
  | .map none,.map none=>true
  | .nilIface,.nilIface=>true
  | .nilFunc,.nilFunc=>true
  | .iface t x,.iface t' y=>Nat.beq t t'&&Ur n x y
  | .agg cs,.agg ds=>Us (Ur n) cs.toList ds.toList
  | .tuple cs,.tuple ds=>Us (Ur n) cs.toList ds.toList
  |_,_=>false
theorem zt {s t:ByteArray}(h:pX s.data.toList t.data.toList=true):s=t:=by
 have h2:=rN h;cases s;cases t;simp only[Array.toList_inj]at h2;rw[h2]
theorem BJ:∀{n:Nat}{a b:af},Ur n a b=true->a=b:=by
 intro n
 induction n with
 |zero=>intro a b h;cases h
 |succ n ih=>
  intro a b h;unfold Ur at h
  split at h
  ·rw[of_decide_eq_true h]
  ·rw[aj]at h;rw[of_decide_eq_true h.1,of_decide_eq_true h.2]
  ·rw[zt h]
  ·rw[Tl h]
  ·simp only[aj]at h;rw[Tl h.1.1,aT h.1.2,aT h.2]
  ·rw[aT h]
  ·rfl
  ·rfl
  ·rfl
  ·rw[aj]at h;rw[aT h.1,ih h.2]
  ·have :=yx (fun a b=>ih) h;rw[Array.toList_inj.1 this]
  ·have :=yx (fun a b=>ih) h;rw[Array.toList_inj.1 this]
  ·cases h
def eqC (x y:Option af):Bool:=match x,y with
 |some a,some b=>Ur 20 a b
 |_,_=>false
theorem ab0 (x y:Option af)(h:eqC x y=true):x=y:=by
 unfold eqC at h
 split at h
 ·rw[BJ h]
 ·cases h
def eqE (x y:MapEntry):Bool:=Ur 20 x.key y.key&&Ur 20 x.val y.val&&Nat.beq x.born y.born
theorem abZ (x y:MapEntry)(h:eqE x y=true):x=y:=by
 unfold eqE at h;simp only[aj]at h;cases x;cases y;simp only at h;rw[BJ h.1.1,BJ h.1.2,aT h.2]
def uN (k k':mn):Bool:=Nat.beq k.kind k'.kind&&Nat.beq k.sz k'.sz&&Nat.beq k.pos k'.pos&&Us eqC k.cs k'.cs&&Us eqE k.es.toList k'.es.toList&&Nat.beq k.clock k'.clock&&pX k.str.data.toList k'.str.data.toList
theorem pj {k k':mn}(h:uN k k'=true):px k k':=by
 unfold uN at h;simp only[aj]at h;obtain⟨⟨⟨⟨⟨⟨h1,h2⟩,h3⟩,h4⟩,h5⟩,h6⟩,h7⟩:=h;exact⟨aT h1,aT h2,aT h3,yx ab0 h4,Array.toList_inj.1 (yx abZ h5),aT h6,zt h7⟩
theorem BK {k k':mn}(h:uN k k'=true):∀x∈k.cs,x≠none:=by
 unfold uN at h;simp only[aj]at h;have h4:=h.1.1.1.2;intro x hx;have :∀{l r:List (Option af)},Us eqC l r=true->∀x∈l,x≠none:=by
  intro l
  induction l with
  |nil=>intro r _ x hx;cases hx
  |cons a l ih=>
   intro r h x hx;cases r with
   |nil=>cases h
   |cons b r=>
    unfold Us at h;rw[aj]at h;rcases bC.1 hx with rfl|hx
    ·intro e;subst e;have :=h.1;unfold eqC at this;cases this
    ·exact ih h.2 x hx
 exact this h4 x hx
structure Row where
 f:Nat
 args:List af
 K:List (Nat×mn)
 N:Nat
 v:af
 L:List (Nat×mn)
 nx:Nat
def Row.mi(r:Row):Mem:=ju u7 r.K r.N
def Row.okQ(r:Row)(mq:Mem):Bool:=
 Nat.beq mq.base 12&&Nat.beq mq.home 12&&Nat.beq mq.floor 12&&mq.bO.isEmpty&&mq.opn.isEmpty&&mq.wg.isNone&&Nat.beq mq.deaf 0&&Nat.ble mq.next r.nx&&Nat.ble r.N r.nx&&Nat.ble 12 r.N&&
 uN (mq.blk 0) (r.mi.blk 0)&&(r.K.all fun x=>Nat.blt 0 x.1&&Nat.blt x.1 r.N&&Nat.ble x.2.kind 3&&uN (mq.blk x.1) (r.mi.blk x.1)&&uN x.2 x.2)&&r.L.all fun x=>Nat.ble r.N x.1&&Nat.blt x.1 r.nx&&Nat.ble x.2.kind 3&&uN x.2 (mq.blk x.1)
def Row.fact(call:cL)(r:Row):Bool:=match call r.f r.args r.mi with
 |some (v',mq)=>Ur 20 r.v v'&&r.okQ mq
 |none=>false
def Row.fits(r:Row)(m:Mem):Bool:=
 Nat.beq m.next r.N&&Nat.beq m.base 12&&Nat.beq m.home 12&&Nat.beq m.floor 12&&m.bO.isEmpty&&m.opn.isEmpty&&m.wg.isNone&&m.pend.isEmpty&&Nat.beq m.deaf 0&&uN (r.mi.blk 0) (m.blk 0)&&(r.K.all fun x=>uN (r.mi.blk x.1) (m.blk x.1))&&
 ((List.range 12).all fun b=>Nat.ble (m.blk b).kind 1)
def oR:List Row->cL
 | [],_,_,_=>none
 |r::l,f,args,m=>if Nat.beq r.f f&&Us (Ur 20) r.args args then(if r.fits m then some (r.v,ju m r.L r.nx)else none)else oR l f args m
theorem oh (b:Nat):u7.blk b=if 0=b then{kind:=1,cs:=gP}else{}:=by
 show(kZ.put [] 0 {kind:=1,cs:=gP}).get b=_
 rw[kZ.get_put]
 split
 ·rfl
 ·unfold kZ.get;have :∀i,Bd hp4 ([]:kZ) i=hp4:=fun _=>rfl
  rw[this];unfold Tc hp4 hp3 hp2 WN;simp only[N8.Fz]
theorem El:Wf u7:=by
 refine⟨fun b=>?_,fun b hb=>?_,fun s hs=>(by cases hs),ai _,fun b=>?_⟩
 ·rw[oh];split<;>exact Nat.one_pos
 ·have hb:12<=b:=hb;rw[oh,bT av]
 ·rw[oh]
  split
  ·refine⟨fun x hx=>?_,dB⟩;have hx:x∈gP:=hx;have :∀y∈gP,y≠none:=by
    have h:(gP.all (·.isSome))=true:=by kernel_rfl
    intro y hy e;have :=aV.1 h y hy;rw[e]at this;cases this
   exact this x hx
  ·exact⟨fun x hx=>(by cases hx),Nat.zero_le _⟩
theorem Zi {m:Mem}{L:List (Nat×mn)}{nx:Nat}(hw:Wf m)(hh:m.bO=[])(hn:m.next<=nx)(hL:∀x∈L,x.1<nx/\x.2.live):Wf (ju m L nx):=by
 refine⟨fun b=>?_,fun b hb=>?_,fun s sA=>?_,?_,fun b=>?_⟩
 ·show _<m.tick+1
  rcases js (m:=m) (L:=L) (nx:=nx) b with⟨e,_⟩|⟨k,_,e⟩
  ·rw[e];exact Nat.lt_succ_of_lt (hw.bw b)
  ·rw[e];exact Nat.lt_succ_self _
 ·have hb:nx<=b:=hb;rcases js (m:=m) (L:=L) (nx:=nx) b with⟨e,_⟩|⟨k,hm,e⟩
  ·rw[e];exact hw.DL b av
  ·have :b<nx:=(hL _ hm).1;omega
 ·have sA:s∈m.bO:=sA;rw[hh]at sA;cases sA
 ·show m.floor<=nx
  have :=hw.fl;omega
 ·rcases js (m:=m) (L:=L) (nx:=nx) b with⟨e,_⟩|⟨k,hm,e⟩
  ·rw[e];exact hw.live b
  ·rw[e];exact(hL _ hm).2
theorem UU {r:Row}{mq m:Mem}(hq:r.okQ mq=true)(hm:r.fits m=true):PB ae.globals.size r.mi m/\Lb r.mi mq r.L r.nx:=by
 unfold Row.okQ at hq;unfold Row.fits at hm;simp only[aj]at hq hm;obtain⟨⟨⟨⟨⟨⟨⟨⟨⟨⟨⟨⟨q1,q2⟩,q3⟩,q4⟩,q5⟩,q6⟩,q7⟩,q8⟩,q9⟩,q10⟩,q11⟩,q12⟩,XW⟩:=hq;obtain⟨⟨⟨⟨⟨⟨⟨⟨⟨⟨⟨m1,m2⟩,m3⟩,m4⟩,m5⟩,m6⟩,m7⟩,m8⟩,m9⟩,fM⟩,LR⟩,y8⟩:=hm;have q12:=aV.1 q12;have XW:=aV.1 XW;have LR:=aV.1 LR;have y8:=aV.1 y8;have e1:=aT m1;have e2:=aT m2;have e3:=aT m3;have e4:=aT m4;have hN:12<=r.N:=ag q10;have hK:∀x∈r.K,x.1<r.N/\x.2.live:=fun x hx=>by
  have :=q12 x hx;simp only[aj]at this;exact⟨bq (Nat.lt_succ_self _) (ag this.1.1.1.2),BK this.2,ag this.1.1.2⟩
 have WQ:∀b,(r.mi.blk b).kind≠0->b=0\/∃x∈r.K,x.1=b:=fun b hb=>by
  rcases js (m:=u7) (L:=r.K) (nx:=r.N) b with⟨e,_⟩|⟨k,hk,_⟩
  ·have e:r.mi.blk b=u7.blk b:=e;rw[e,oh]at hb
   split at hb
   ·rename_i h;exact .inl h.symm
   ·exact absurd rfl hb
  ·exact .inr ⟨_,hk,rfl⟩
 refine⟨⟨Zi El rfl hN hK,e1.symm,e2.symm,e3.symm,by rw[e3,e1];exact hN,rfl,by rw[e4,e2],rfl,List.isEmpty_iff.1 m5,rfl,List.isEmpty_iff.1 m6,rfl,Option.isNone_iff_eq_none.1 m7,rfl,List.isEmpty_iff.1 m8,rfl,aT m9,fun b hb=>?_,fun b hb=>?_⟩,
  ⟨aT q1,aT q2,aT q3,List.isEmpty_iff.1 q4,List.isEmpty_iff.1 q5,Option.isNone_iff_eq_none.1 q6,aT q7,fun b _ hb=>?_,ag q8,ag q9,fun x hx=>?_⟩⟩
 ·rcases WQ b hb with rfl|⟨x,hx,rfl⟩
  ·exact pj fM
  ·exact pj (LR x hx)
 ·rw[e3]at hb;exact ag (y8 b (List.mem_range.2 hb))
 ·rcases WQ b hb with rfl|⟨x,hx,rfl⟩
  ·exact pj q11
  ·have :=q12 x hx;simp only[aj]at this;exact pj this.1.2
 ·have :=XW x hx;simp only[aj]at this;exact⟨ag this.1.1.1,bq (Nat.lt_succ_self _) (ag this.1.1.2),pj this.2,BK this.2,ag this.1.2⟩
theorem Lu {Fin:af->aA->Prop}{call:cL}(C:iG ae X0 true (Jn Fin) Mv call):∀{rows:List Row},(∀r∈rows,r.fact call=true/\fN ae r.f=true)->iG ae X0 true (Jn Fin) Mv (oR rows)
 | [],_=>by intro f args m v m' hw h;cases h
 |r::l,hr=>by
  intro f args m v m' hw h;unfold oR at h
  split at h
  ·rename_i hc;rw[aj]at hc;have e1:=aT hc.1;have e2:=yx (fun a b=>BJ) hc.2
   split at h
   ·rename_i hf;simp only[ah,aC]at h;obtain⟨rfl,rfl⟩:=h;obtain⟨h1,h2⟩:=hr r (List.mem_cons_self ..);unfold Row.fact at h1
    split at h1
    ·rename_i v' mq fX;rw[aj]at h1;have ev:=BJ h1.1;obtain⟨hi,hq⟩:=UU h1.2 hf;rw[<-ev]at fX;rw[<-e1,<-e2];obtain⟨k1,k2⟩:=Wv (Fin:=Fin) C fX h2 hi hq;exact⟨k1,fun hb=>(by rw[h2]at hb;cases hb),fun _=>k2⟩
    ·cases h1
   ·cases h
  ·exact Lu C (fun x hx=>hr x (List.mem_cons_of_mem _ hx)) f args m v m' hw h
end Go.AM
namespace Go.AM
set_option maxRecDepth 1000000
open Go Go.Conc Go.Proofs
theorem Ba {w:List UInt8}{a b:Int}{k:Nat}:∀{l:List T3},E7 w a b l=some k->∃r∈l,r.word=w/\a=(r.first :Int)/\b=(r.last:Int)/\r.kind=k
 | [],h=>by cases h
 |r::l,h=>by
  unfold E7 at h
  split at h
  ·rename_i hc;simp only[aj,jE]at hc;exact⟨r,List.mem_cons_self ..,rN hc.1.1.2,hc.1.2,hc.2,by simpa using h⟩
  ·obtain⟨x,h1,h2⟩:=Ba h;exact⟨x,List.mem_cons_of_mem _ h1,h2⟩
theorem yE:fN ae 78=true/\fN ae 12=true/\fN ae 14=true/\fN ae 19=true/\fN ae 15=true:=by
 refine⟨?_,?_,?_,?_,?_⟩<;>kernel_rfl
theorem globals_size:ae.globals.size=12:=by kernel_rfl
theorem S8:Ix ae.globals.size u7:=by
 rw[globals_size];refine⟨El,ai _,ai _,ai _,rfl,rfl,rfl,fun b hb=>?_,fun o v hv=>?_⟩
 ·rw[oh]
  split
  ·rename_i h;exact .inr ⟨h.symm,rfl⟩
  ·exact .inl rfl
 ·rw[oh,bL rfl]at hv;have hv:gP[o]?=some (some v):=hv;have h:(gP.all fun x=>match x with |some y=>dE y|none=>false)=true:=by kernel_rfl
  have :=aV.1 h _ (List.mem_of_getElem? hv);exact this
theorem Zm {Fin:af->aA->Prop}:iG ae X0 true (Jn Fin) Mv twS:=by
 intro f args m v m' hw h;unfold twS at h
 split at h
 ·rename_i hf;have hf:=aT hf;subst hf
  split at h
  ·rename_i w a b
   split at h
   ·rename_i k hk
    split at h
    ·rename_i hm;simp only[ah,aC]at h;obtain⟨rfl,rfl⟩:=h;obtain⟨r,hr,e1,rfl,rfl,rfl⟩:=Ba hk;have DC:=aV.1 P4 r hr;unfold Lo at DC
     split at DC
     ·rename_i n mg' fX;rw[aj]at DC;have en:=of_decide_eq_true DC.1;subst en;have ew:(⟨r.word.toArray⟩:ByteArray)=w:=by
       cases w;simp only at e1;rw[e1]
      rw[ew]at fX;have ami:acZ u7 m:=by
       unfold YQ at hm;simp only[aj]at hm;obtain⟨⟨⟨⟨⟨⟨⟨h1,h2⟩,h3⟩,h4⟩,h5⟩,h6⟩,h7⟩,h8⟩:=hm;have e0:u7.blk 0={kind:=1,cs:=gP}:=by rw[oh,bL rfl]
       exact⟨Option.isNone_iff_eq_none.1 h1,aT h2,List.isEmpty_iff.1 h3,List.isEmpty_iff.1 h4,Nat.lt_of_succ_le (ag h5),aT h6,by rw[e0];exact aT h7,by rw[e0];exact MH h8⟩
      obtain⟨c,hc⟩:=UH (Fin:=Fin) (rB oI 40) S8 (by rw[globals_size];rfl) fX (aT DC.2) yE.1 (by rfl) (by rfl) ami;exact⟨Mv.refl m,fun hb=>(by rw[yE.1]at hb;cases hb),fun _=>⟨c,hc⟩⟩
     ·cases DC
    ·cases h
   ·cases h
  ·cases h
 ·cases h
noncomputable def Ct:cL:=Ih ae X0 (kY ae X0 60) twS 60
theorem ai1 {Fin:af->aA->Prop}:iG ae X0 true (Jn Fin) Mv Ct:=B4 oI (rB oI 60) Zm 60
def KL:List (Nat×mn):=[
 (12,{kind:=2,clock:=1,es:=#[⟨.string ⟨#[101]⟩,.pointer (some ⟨129,0,none⟩),0⟩]}),
 (13,{kind:=1,pos:=1,cs:=[some (.int .i32 0),some (.int .u32 0),some (.map (some 12))]}),
 (96,{kind:=1,sz:=2,cs:=[some (.string ⟨#[97]⟩),some (.int .i64 1),some (.string ⟨#[98]⟩),some (.int .i64 1)]}),
 (129,{kind:=1,pos:=1,cs:=[some (.slice (some ⟨96,0,none⟩) 2 eP),some (.slice (some ⟨664,0,none⟩) 3 eP)]}),
 (622,{kind:=1,sz:=4,cs:=[some (.int .i64 1),some (.int .i64 1),some (.string ⟨#[]⟩),some (.bool false),some (.int .i64 1),some (.int .i64 2),some (.string ⟨#[]⟩),some (.bool false)]}),
 (630,{kind:=1,sz:=4,cs:=[some (.int .i64 1),some (.int .i64 2),some (.string ⟨#[]⟩),some (.bool false),some (.int .i64 1),some (.int .i64 3),some (.string ⟨#[]⟩),some (.bool false)]}),
 (638,{kind:=1,sz:=4,cs:=[some (.int .i64 1),some (.int .i64 3),some (.string ⟨#[]⟩),some (.bool false),some (.int .i64 1),some (.int .i64 1),some (.string ⟨#[]⟩),some (.bool false)]}),
 (664,{kind:=1,sz:=1,cs:=[some (.slice (some ⟨622,0,none⟩) 2 2),some (.slice (some ⟨630,0,none⟩) 2 2),some (.slice (some ⟨638,0,none⟩) 2 2)]})]
def Bf:Row:={f:=14,args:=[],K:=[],N:=12,v:= .pointer (some ⟨13,0,none⟩),L:=KL,nx:=1225}
end Go.AM
namespace Go.AM
set_option maxRecDepth 1000000
open Go Go.Conc Go.Proofs
noncomputable def ax(f:Nat):Code:=match(ae.funcs[f]?).bind (·.body)with |some c=>c|none=> .skip
def CM:Code->Code
 | .seq a _=>a
 |c=>c
def nP:Code->Code
 | .seq _ b=>b
 |c=>c
def cC (n:Int):Prop:= -9223372036854775808<=n/\n<9223372036854775808
theorem lh {n:Int}(h:cC n):cQ.i64.wrap n=n:=by
 obtain⟨h1,h2⟩:=h
 show(if(true&&decide (n%(2^64:Int)≥(2^63:Int)))=true then n%(2^64:Int)-(2^64:Int)else n%(2^64:Int))=n
 simp only[Bool.true_and,jE]
 split<;>omega
noncomputable def q1:Code:=CM (nP (ax 15))
noncomputable def q2:Code:=CM (nP (nP (ax 15)))
noncomputable def q3:Code:=nP (nP (nP (ax 15)))
noncomputable def XT(f:Nat):List ResultVar:=match ae.funcs[f]? with |some fn=>fn.results.toList|none=>[]
end Go.AM
namespace Go.AM
set_option maxRecDepth 1000000
open Go Go.Conc Go.Proofs
noncomputable def t0:Code:=CM (ax 19)
noncomputable def t1:Code:=CM (nP (ax 19))
noncomputable def t2:Code:=CM (nP (nP (ax 19)))
noncomputable def t3:Code:=nP (nP (nP (ax 19)))
end Go.AM
namespace Go.AM
set_option maxRecDepth 1000000
open Go Go.Conc Go.Proofs
noncomputable def l0:Code:=CM (ax 7)
noncomputable def l1:Code:=CM (nP (ax 7))
noncomputable def l4:Code:=CM (nP (nP (nP (ax 7))))
noncomputable def l5:Code:=CM (nP (nP (nP (nP (ax 7)))))
noncomputable def l6:Code:=CM (nP (nP (nP (nP (nP (ax 7))))))
end Go.AM
namespace Go.AM
set_option maxRecDepth 1000000
open Go Go.Conc Go.Proofs Go.Proofs.YtgfppohfgconeaaGreatDoor
noncomputable def ank(r:Option (Exit×Ss)):Bool:=match r with
 |some (.ret,st)=>(match j1 ae 216 (XT 7) st.tm st.mem with |some (.bool b)=>b|_=>false)&&st.df.isEmpty&&Nat.beq st.mem.deaf 0&&st.mem.wg.isNone
 |_=>false
def ρ0:dL:=fun b=>if b<12 then some ⟨b,0,if b=0 then gP.length else 0,0⟩else none
def aaG (W:aA):Perm:=⟨fun b _=>b<W.heap.size,fun _ _=>False,fun b=>b<W.heap.size/\W.shape? b=none,0⟩
theorem I8 {W:aA}(jJ:12<=W.heap.size){C:Array af}{ty:aW}{fr:Nat×Nat}(h0:W.heap[0]?=some (.cells C ty fr))(hC:gP.length<=C.size)(hv:∀(o:Nat) v,gP[o]?=some (some v)->C[o]?=some v):
  dd ae (aaG W) W .idle ρ0 u7 W:=by
 have nj:∀b p,ρ0 b=some p->b<12/\p=⟨b,0,if b=0 then gP.length else 0,0⟩:=fun b p h=>by
  unfold ρ0 at h
  split at h
  ·rename_i hb;cases h;exact⟨hb,rfl⟩
  ·cases h
 have kind:∀b,(u7.blk b).kind≠0->b=0:=fun b hb=>by
  rw[oh]at hb
  split at hb
  ·rename_i h;exact h.symm
  ·exact absurd rfl hb
 have k0:u7.blk 0={kind:=1,cs:=gP}:=by rw[oh,bL rfl]
 refine⟨⟨fun b p hp=>(nj b p hp).1,fun b p hp hk=>?_,fun b p o v hp hc=>?_,fun b p o hp _ _ hb=>?_,fun b p hp hk _=>?_,fun b p hp hk _=>?_,fun b b' p p' dx hp dW hk fR _=>absurd ((kind b hk).trans (kind b' fR).symm) dx,
  fun b p hp=>?_,fun b p hp hk iV=>?_⟩,bD.refl _ _,⟨fun b o he=>⟨he,?_⟩,fun b he=>⟨he.1,?_,he.2⟩,fun _ _ h=>h.elim⟩,fun g hg=>?_,⟨rfl,rfl,ai _⟩,El,fun b p x hp hb=>?_,fun _ _ h=>h.elim⟩
 ·have :=kind b (by rw[hk];simp);subst this;obtain⟨_,rfl⟩:=nj _ _ hp;refine⟨by rw[k0],by rw[k0];exact ai _,ty,C.size,?_,?_⟩
  ·unfold aA.shape?;rw[h0]
  ·show 0+(if 0=0 then gP.length else 0)<=C.size
   rw[bL rfl];omega
 ·obtain⟨c1,c2,c3⟩:=rj hc;have :=kind b (by rw[c1];simp);subst this;obtain⟨_,rfl⟩:=nj _ _ hp;rw[k0]at c3;have uz:(gP.all fun x=>match x with |some y=>dE y|none=>false)=true:=by kernel_rfl
  have dF:dE v=true:=aV.1 uz _ (List.mem_of_getElem? c3);refine⟨v,?_,(aL dF).2 rfl⟩;have e:W.cell? ⟨0,0+o,none⟩=C[0+o]?:=by unfold aA.cell?;simp[h0]
  show W.cell? ⟨0,0+o,none⟩=some v
  rw[e,Nat.zero_add];exact hv o v c3
 ·have hb:12<=b:=hb;have :=(nj b p hp).1;omega
 ·have :=kind b (by rw[hk];simp);subst this;rw[k0]at hk;cases hk
 ·have :=kind b (by rw[hk];simp);subst this;rw[k0]at hk;cases hk
 ·obtain⟨h1,rfl⟩:=nj b p hp
  show b<W.heap.size
  omega
 ·have :=kind b (by rw[hk];simp);subst this;rw[k0]at iV;cases iV
 ·rintro⟨b',p,h1,_,_,_,_,h5⟩;have :=(nj b' p h1).1;rcases h5 with h5|h5
  ·have h5:12<=b':=h5;omega
  ·cases h5
 ·rintro⟨b',p,h1,_,h3,_⟩;have :=kind b' av;subst this;rw[k0]at h3;rcases h3 with h3|h3<;>cases h3
 ·rw[globals_size]at hg;exact⟨⟨g,0,if g=0 then gP.length else 0,0⟩,by unfold ρ0;rw[bL hg],rfl,rfl⟩
 ·have hb:12<=b:=hb;have :=(nj b p hp).1;omega
theorem Wu {W w':aA}(k:bD (aaG W) W w')(may:MemPlace->Prop):W.keptBut {w' with os:=W.os} may:=by
 refine⟨rfl,k.output,fun i hi=>?_⟩;have hs:=k.shape i hi;have hf:=k.qA i 0 hi;have hc:∀o,w'.cell? ⟨i,o,none⟩=W.cell? ⟨i,o,none⟩:=fun o=>k.cell i o hi
 have ho:W.shape? i=none->w'.heap[i]?=W.heap[i]?:=fun h=>k.obj i ⟨hi,h⟩
 show match W.heap[i]?,w'.heap[i]? with
  |some (.cells c t fr),some (.cells c' t' fr')=>t'=t/\fr'=fr/\c'.size=c.size/\∀j:Nat,¬may (.cell i j)->c'[j]?=c[j]?
  |some (.map es clock),some (.map mj ab5)=>may (.map i)\/(mj=es/\ab5=clock)
  |o,o'=>o'=o
 unfold aA.shape? at hs ho;unfold KN at hf;unfold aA.cell? at hc;simp only at hs hf hc ho;cases hW:W.heap[i]? with
 |none=>
  rw[hW]at ho;rw[ho rfl]
 |some o=>
  cases o with
  |cells c t fr=>
   rw[hW]at hs hf hc;cases hw:w'.heap[i]? with
   |none=>rw[hw]at hs;cases hs
   |some o'=>
    cases o' with
    |cells c' t' fr'=>
     rw[hw]at hs hf hc;simp only[ah,aC]at hs hf;refine⟨hs.1,hf,hs.2,fun j _=>?_⟩;have :=hc j;simpa using this
    |_=>rw[hw]at hs;cases hs
  |map es clock=>
   rw[hW]at ho;rw[ho rfl];exact .inr ⟨rfl,rfl⟩
  |_=>rw[hW]at ho;rw[ho rfl]
end Go.AM
namespace Go.AM
open Go
inductive T (α:Type) where
 |done(a:α)
 |fail
 |mem(f:Mem->Option (af×Mem))(k:af->T α)
 |call(f:Nat)(args:List af)(k:af->T α)
 |fT(fv:af)(args:List af)(k:af->T α)
 |fw(r:Option (Nat×af))(args:List af)(k:af->T α)
 |val(r:Option af)(k:af->T α)
 |cond(v:af)(k:Bool->T α)
 |idx(n:Int)(len:Nat)(k:Nat->T α)
def den {R:Type}(cl:cL):T R->Mem->Option (R×Mem)
 | .done a,m=>some (a,m)
 | .fail,_=>none
 | .mem f k,m=>match f m with |some (v,m')=>den cl (k v) m'|none=>none
 | .call f args k,m=>match cl f args m with |some (v,m')=>den cl (k v) m'|none=>none
 | .fT fv args k,m=>match fv with
  | .func (.func f) first cap=>(match cl f (first.toList++args++cap.toList) m with |some (v,m')=>den cl (k v) m'|none=>none)
  |_=>none
 | .fw r args k,m=>match r with
  |some (f,recv)=>(match cl f (recv::args) m with |some (v,m')=>den cl (k v) m'|none=>none)
  |none=>none
 | .val r k,m=>match r with |some v=>den cl (k v) m|none=>none
 | .cond v k,m=>match v with | .bool b=>den cl (k b) m|_=>none
 | .idx n len k,m=>match n with | .ofNat i=>(match Nat.blt i len with |true=>den cl (k i) m|false=>none)| .negSucc _=>none
section
variable {R:Type}
def GU (p:af)(k:Nat->Nat->T R):T R:=match p with | .pointer (some ⟨b,o,none⟩)=>k b o|_=> .fail
def nZ (x y:af)(k:cQ->Int->Int->T R):T R:=
 match x with
 | .int a i=>match y with
  | .int b j=>match Nat.beq (wy a) (wy b)with |true=>k a i j|false=> .fail
  |_=> .fail
 |_=> .fail
def Gk (x y:af)(k:ByteArray->ByteArray->T R):T R:=
 match x with
 | .string a=>match y with
  | .string b=>k a b
  |_=> .fail
 |_=> .fail
def JJ (r:Option af)(k:af->T R):T R:=match r with |some v=>k v|none=> .fail
def lH (q:Int->Int->Option Nat)(f:Int->Int->Int)(a:cQ)(i j:Int):Int:=
 match q i j with
 |some n=>match Nat.blt n (kT a)with |true=> .ofNat n|false=>a.wrap (f i j)
 |none=>a.wrap (f i j)
def qG (nR:Bool)(i j:Int):Int:=
 match br j i with
 |true=>match nR with |true=>i|false=>j
 |false=>match nR with |true=>j|false=>i
def aF (s:ByteArray)(i:Nat):Nat:=match qE s.data.toList i with |some b=>b.toNat|none=>0
def ab8 (x:cq):cq:=match x with | .const _=> .const .nilFunc|_=> .tmp 0
def ab9 (c:Bool):cq:=match c with |true=> .const .nilFunc|false=> .tmp 0
def pu (P:aE)(lO:List af)(s:Sem af):Option af:=
 match lO.all plain with
 |true=>match s.aP P with
  |some v=>match plain v with |true=>some v|false=>none
  |none=>none
 |false=>none
def iP (P:aE)(op:BinOp)(t:aW)(cx cy:Bool)(a b:af):Option af:=pu P [a,b] (do eqGuard op t (ab9 cx) (ab9 cy) a b;binOp op t a b)
def eq2 (P:aE)(op:BinOp)(t:aW)(cx cy:Bool)(a b:af)(k:af->T R):T R:=
 match op with
 | .eql=>(match qZ P t cx cy a b with |some v=>k (.bool v)|none=> .val (iP P op t cx cy a b) k)
 | .neq=>(match qZ P t cx cy a b with |some v=>k (.bool (!v))|none=> .val (iP P op t cx cy a b) k)
 |_=> .val (iP P op t cx cy a b) k
def aI (b o:Nat)(m:Mem):Option (af×Mem):=
 match m.blk b with
 |⟨1,_,cs,_,_,_,_,_⟩=>match Mw m b o 1 with
  |true=>match H2 o cs with
   |some v::_=>some (v,m)
   |_=>none
  |false=>none
 |_=>none
def eJ (n b o:Nat)(m:Mem):Option (af×Mem):=match m.dQ b o n with |some l=>some (.agg l.toArray,m)|none=>none
def jo (b o:Nat)(v:af)(m:Mem):Option (af×Mem):=
 match gy v with
 |false=>none
 |true=>match m.blk b with
  |⟨1,sz,cs,es,c,str,pos,_⟩=>match Ou m b o with
   |true=>match uY o cs v with
    |some kW=>some (undef,{m with heap:=m.heap.put b ⟨1,sz,kW,es,c,str,pos,m.tick⟩,tick:=Nat.succ m.tick})
    |none=>none
   |false=>none
  |_=>none
def sO (b o:Nat)(vs:List af)(m:Mem):Option (af×Mem):=match m.dS b o vs with |some m'=>some (undef,m')|none=>none
def rU (cs:List (Option af))(m:Mem):Option (af×Mem):=
 some (ptrTo m.next 0,{m with heap:=m.heap.put m.next ⟨1,0,cs,#[],0,.empty,1,m.tick⟩,tick:=Nat.succ m.tick,next:=Nat.succ m.next})
def sQ (P:aE)(t:aW)(x:af)(lo hi:Option af)(m:Mem):Option (af×Mem):=match jH P t x lo hi m with |some v=>some (v,m)|none=>none
def L1 (P:aE)(t:aW)(x k:af)(ok:Bool)(m:Mem):Option (af×Mem):=match jQ P t x k ok m with |some v=>some (v,m)|none=>none
def Rr (P:aE)(t:aW)(x k v:af)(m:Mem):Option (af×Mem):=match lC P t x k v m with |some m'=>some (undef,m')|none=>none
def wJ (m:Mem):Option (af×Mem):=some (.map (some m.next),m.alloc {kind:=2})
def LL (P:aE)(first :Array af)(name:String)(v:af):Option af:=
 match(first[0]?:Option af)with
 |some r=>match(eW P r name).isSome with |true=>some v|false=>none
 |none=>none
def mM (q:Nat->Nat->Nat)(a:cQ)(i j:Int)(d:Option af):Option af:=
 match i with
 | .ofNat i=>match j with
  | .ofNat (j+1)=>match Nat.blt i (kT a)with |true=>some (.int a (.ofNat (q i (Nat.succ j))))|false=>d
  |_=>d
 |_=>d
def pq (q:Nat->Nat->Nat)(a:cQ)(i j:Int)(d:Option af):Option af:=
 match i with
 | .ofNat i=>match j with
  | .ofNat j=>match Nat.blt i (kT a)&&Nat.blt j (kT a)with |true=>some (.int a (.ofNat (q i j)))|false=>d
  |_=>none
 |_=>d
def jM (a b:ByteArray):Option af:=match Nat.blt (a.size+b.size) 9223372036854775808 with |true=>some (.string (a++b))|false=>none
abbrev Cq (R:Type):=Tm->(af->T R)->T R
def acD (P:aE)(op:BinOp)(t:aW)(cx cy:Bool)(x y:kN):Cq R:=
 match P.underlying t with
 |some (.int _)=>match op with
  | .lss=>fun tm k=>nZ (x tm) (y tm) fun _ i j=>k (.bool (br i j))
  | .leq=>fun tm k=>nZ (x tm) (y tm) fun _ i j=>k (.bool (fW i j))
  | .gtr=>fun tm k=>nZ (x tm) (y tm) fun _ i j=>k (.bool (fD i j))
  | .geq=>fun tm k=>nZ (x tm) (y tm) fun _ i j=>k (.bool (iE i j))
  | .eql=>fun tm k=>nZ (x tm) (y tm) fun _ i j=>k (.bool (aZ i j))
  | .neq=>fun tm k=>nZ (x tm) (y tm) fun _ i j=>k (.bool (hY i j))
  | .add=>fun tm k=>nZ (x tm) (y tm) fun a i j=>k (.int a (lH ml Int.add a i j))
  | .sub=>fun tm k=>nZ (x tm) (y tm) fun a i j=>k (.int a (lH oe Int.sub a i j))
  | .mul=>fun tm k=>nZ (x tm) (y tm) fun a i j=>k (.int a (lH E0 Int.mul a i j))
  | .or=>fun tm k=>nZ (x tm) (y tm) fun a i j=> .val (pq Nat.lor a i j (iP P op t cx cy (x tm) (y tm))) k
  | .and=>fun tm k=>nZ (x tm) (y tm) fun a i j=> .val (pq Nat.land a i j (iP P op t cx cy (x tm) (y tm))) k
  | .xor=>fun tm k=>nZ (x tm) (y tm) fun a i j=> .val (pq Nat.xor a i j (iP P op t cx cy (x tm) (y tm))) k
  | .quo=>fun tm k=>nZ (x tm) (y tm) fun a i j=> .val (mM Nat.div a i j (iP P op t cx cy (x tm) (y tm))) k
  | .rem=>fun tm k=>nZ (x tm) (y tm) fun a i j=> .val (mM Nat.mod a i j (iP P op t cx cy (x tm) (y tm))) k
  |_=>fun tm k=> .val (iP P op t cx cy (x tm) (y tm)) k
 |some .string=>match op with
  | .eql=>fun tm k=>Gk (x tm) (y tm) fun a b=>k (.bool ((a.toList==b.toList)==true))
  | .neq=>fun tm k=>Gk (x tm) (y tm) fun a b=>k (.bool ((a.toList==b.toList)==false))
  | .add=>fun tm k=>Gk (x tm) (y tm) fun a b=> .val (jM a b) k
  |_=>fun tm k=> .val (iP P op t cx cy (x tm) (y tm)) k
 |_=>fun tm k=>eq2 P op t cx cy (x tm) (y tm) k
def loadT (P:aE)(t:aW)(x:kN):Option (Cq R):=
 match mT P t with
 |some true=>match dq P t with
  |some n=>some fun tm k=>GU (x tm) fun b o=> .mem (eJ n b o) k
  |none=>none
 |some false=>some fun tm k=>GU (x tm) fun b o=> .mem (aI b o) k
 |none=>none
def storeT (P:aE)(t:aW)(p x:kN):Option (Cq R):=
 match dq P t with
 |some n=>match mT P t with
  |some true=>some fun tm k=>GU (p tm) fun b o=>match x tm with
   | .agg cs=>(match Nat.beq n cs.size with |true=> .mem (sO b o cs.toList) k|false=> .fail)
   |_=> .fail
  |some false=>match Nat.beq n 1 with |true=>some fun tm k=>GU (p tm) fun b o=> .mem (jo b o (x tm)) k|false=>none
  |none=>none
 |none=>none
def vm (P:aE)(s:aW)(p:kN)(f:Nat):Option (Cq R):=
 match P.underlying s with
 |some (.struct fields)=>match fields[f]? with
  |some fd=>match dq P fd.type with
   |some (_+1)=>some fun tm k=>GU (p tm) fun b o=>k (ptrTo b (Nat.add o fd.offset))
   |_=>none
  |none=>none
 |_=>none
def vg (P:aE)(t:aW)(x i:kN):Option (Cq R):=
 match P.underlying t with
 |some (.slice e)=>match dq P e with
  |some s=>some fun tm k=>match x tm with
   | .slice (some ⟨b,o,none⟩) len _=>(match i tm with | .int _ n=> .idx n len fun j=>k (ptrTo b (Nat.add o (Nat.mul j s)))|_=> .fail)
   |_=> .fail
  |none=>none
 |some (.array len e)=>match dq P e with
  |some s=>some fun tm k=>GU (x tm) fun b o=>match i tm with | .int _ n=> .idx n len fun j=>k (ptrTo b (Nat.add o (Nat.mul j s)))|_=> .fail
  |none=>none
 |_=>none
def Ko (P:aE)(t:aW)(x i:kN):Option (Cq R):=
 match P.underlying t with
 |some .string=>some fun tm k=>match x tm with
  | .string s=>(match i tm with | .int _ n=> .idx n s.size fun j=>k (.int .u8 (.ofNat (aF s j)))|_=> .fail)
  |_=> .fail
 |_=>some fun tm k=>JJ (vh P t (x tm) (i tm)) k
def abd (P:aE)(t:aW)(x:kN):Option (Cq R):=
 match P.underlying t with
 |some .string=>some fun tm k=>match x tm with | .string s=>k (.int .i64 (.ofNat s.size))|_=> .fail
 |some (.slice _)=>some fun tm k=>match x tm with | .slice _ n _=>k (.int .i64 (.ofNat n))|_=> .fail
 |_=>none
def Rp (nR:Bool)(x y:kN):Cq R:=fun tm k=>match x tm with
 | .int a i=>match y tm with
  | .int _ j=>k (.int a (qG nR i j))
  |_=> .fail
 |_=> .fail
def A7 (f:Tm->Mem->Option (af×Mem)):Cq R:=fun tm k=> .mem (f tm) k
def SX (P:aE)(t:aW):Bool:=match P.underlying t with
 |some (.struct fields)=>fields.any fun f=>match P.underlying f.type with |some (.interface _)=>true|_=>false
 |_=>false
def Td (P:aE)(o:hZ):Option (Cq R):=
 match o.op with
 | .unOp op _ x=>some fun tm k=> .val (pu P [dH tm x] (Op.unary op (dH tm x))) k
 | .build t ps=>match SX P t with
  |true=>some fun tm k=> .val (fH P t (ps.map fun(i,x)=>(i,dH tm x)).toList) k
  |false=>some fun tm k=>JJ (fH P t (ps.map fun(i,x)=>(i,dH tm x)).toList) k
 | .buildSlice t n ps=>some (A7 fun tm=>ao P t n (ps.map fun(i,x)=>(i,dH tm x)).toList)
 | .convert s d x=>some fun tm k=>match P.underlying s,P.underlying d with
  |some (.int _),some (.int _)=> .val (pu P [dH tm x] (convert s d (dH tm x))) k
  |_,_=> .mem (ej P s d (dH tm x)) k
 | .makeInterface t x=>match P.underlying t with |some (.interface _)=>none|some _=>some fun tm k=>k (.iface t (dH tm x))|none=>none
 | .makeFunc fn f c=>some fun tm k=>k (.func fn (f.map (dH tm)) (c.map (dH tm)))
 | .makeMap _ none=>some (A7 fun _=>wJ)
 | .makeSlice t l c=>some (A7 fun tm=>gh P t (dH tm l) (dH tm c))
 | .slice t x lo hi none=>some fun tm k=>match dH tm x with
  | .string s=> .val (pu P (.string s::((lo.map (dH tm)).toList++(hi.map (dH tm)).toList)) (Instr.sliceAt t (.string s) (lo.map (dH tm)) (hi.map (dH tm)) none)) k
  |v=> .mem (sQ P t v (lo.map (dH tm)) (hi.map (dH tm))) k
 | .field s x f=>some fun tm k=>JJ (FB P s (dH tm x) f) k
 | .lookup t x i ok=>some (A7 fun tm=>L1 P t (dH tm x) (dH tm i) ok)
 | .mapUpdate t x i v=>some (A7 fun tm=>Rr P t (dH tm x) (dH tm i) (dH tm v))
 | .typeAssert x t a ok=>some fun tm k=>JJ (pO P (dH tm x) t a ok) k
 | .range t x=>some (A7 fun tm=>xP P t (dH tm x))
 | .next it s=>some (A7 fun tm=>Dl (dH tm it) s)
 | .call {callee:= .builtin b,args,argTypes}=>
  match b,args.toList with
  | .append,[s,x]=>some (A7 fun tm=>cV P argTypes (dH tm s) (dH tm x))
  | .copy,[d,s]=>some (A7 fun tm=>D1 P argTypes (dH tm d) (dH tm s))
  | .clear,[x]=>some (A7 fun tm=>nW P argTypes (dH tm x))
  |_,_=>none
 |_=>none
def xS (P:aE)(o:hZ):Option (Cq R):=
 match o.op with
 | .move x=>eQ x fun x=>some fun tm k=>k (x tm)
 | .assign x=>eQ x fun x=>some fun tm k=>k (x tm)
 | .pick c x y=>eQ c fun c=>eQ x fun x=>eQ y fun y=>some fun tm k=> .cond (c tm) fun b=>match b with |true=>k (x tm)|false=>k (y tm)
 | .binOp op t x y _=>let cx:=isConst x;let cy:=isConst y;eQ x fun x=>eQ y fun y=>some (acD P op t cx cy x y)
 | .load t x=>eQ x fun x=>loadT P t x
 | .store t p x=>eQ p fun p=>eQ x fun x=>storeT P t p x
 | .fieldAddr s p f=>eQ p fun p=>vm P s p f
 | .indexAddr t x i=>eQ x fun x=>eQ i fun i=>vg P t x i
 | .index t x i=>eQ x fun x=>eQ i fun i=>Ko P t x i
 | .extract x i=>eQ x fun x=>some fun tm k=>match x tm with | .tuple vs=>JJ vs.toList[i]? k|_=> .fail
 | .unOp .not _ x=>eQ x fun x=>some fun tm k=>match x tm with | .bool b=>k (.bool (!b))|_=> .fail
 | .nilCheck x=>eQ x fun x=>some fun tm k=>match x tm with
  | .pointer (some a)=>k (.pointer (some a))
  | .func (.method name) first cap=> .val (LL P first name (.func (.method name) first cap)) k
  |_=> .fail
 | .alloc e=>match jO P e with
  |some z=>some fun _ k=> .mem (rU (z.cells.toList.map some)) k
  |none=>none
 | .box _ x=>eQ x fun x=>some fun tm k=> .mem (rU ((x tm).cells.toList.map some)) k
 | .call {callee:= .builtin .min,args,.. }=>match args.toList with
  | [x,y]=>eQ x fun x=>eQ y fun y=>some (Rp false x y)
  |_=>none
 | .call {callee:= .builtin .max,args,.. }=>match args.toList with
  | [x,y]=>eQ x fun x=>eQ y fun y=>some (Rp true x y)
  |_=>none
 | .call {callee:= .value (.func f),args,.. }=>rZ args.toList fun xs=>some fun tm k=> .call f (IQ xs tm) k
 | .call {callee:= .value x,args,.. }=>eQ x fun x=>rZ args.toList fun xs=>some fun tm k=> .fT (x tm) (IQ xs tm) k
 | .call {callee:= .invoke r name,args,.. }=>eQ r fun r=>rZ args.toList fun xs=>some fun tm k=> .fw (eW P (r tm) name) (IQ xs tm) k
 | .call {callee:= .builtin .len,args,argTypes}=>match args.toList,argTypes.toList with
  | [x],t::_=>eQ x fun x=>abd P t x
  |_,_=>none
 |_=>Td P o
end
end Go.AM
namespace Go.AM
open Go
def vG {R:Type}(op:lS)(t:Cq R):Prop:=
 ∀(cl:cL) (tm:Tm) (m:Mem) (K:af->T R) (r:R×Mem),den cl (t tm K) m=some r->∃v m',(∀df k,op cl tm m df k=k v m' df)/\den cl (K v) m'=some r
section
variable {R:Type}{P:aE}{o:hZ}{cl:cL}{tm:Tm}{m:Mem}{r:R×Mem}
theorem km {f:Mem->Option (af×Mem)}{k:af->T R}(h:den cl (.mem f k) m=some r):∃v m',f m=some (v,m')/\den cl (k v) m'=some r:=by
 unfold den at h
 split at h
 ·exact⟨_,_,fP,h⟩
 ·cases h
theorem lu {x:Option af}{k:af->T R}(h:den cl (.val x k) m=some r):∃v,x=some v/\den cl (k v) m=some r:=by
 unfold den at h
 split at h
 ·exact⟨_,rfl,h⟩
 ·cases h
theorem BP {x:af}{k:Bool->T R}(h:den cl (.cond x k) m=some r):∃b,x= .bool b/\den cl (k b) m=some r:=by
 unfold den at h
 split at h
 ·exact⟨_,rfl,h⟩
 ·cases h
theorem FF {n:Int}{len:Nat}{k:Nat->T R}(h:den cl (.idx n len k) m=some r):∃i,n= .ofNat i/\Nat.blt i len=true/\den cl (k i) m=some r:=by
 unfold den at h
 split at h
 ·split at h
  ·exact⟨_,rfl,fP,h⟩
  ·cases h
 ·cases h
theorem xi {x:Option af}{k:af->T R}(h:den cl (JJ x k) m=some r):∃v,x=some v/\den cl (k v) m=some r:=by
 unfold JJ at h
 split at h
 ·exact⟨_,rfl,h⟩
 ·cases h
theorem tV {p:af}{k:Nat->Nat->T R}(h:den cl (GU p k) m=some r):∃b o,p= .pointer (some ⟨b,o,none⟩)/\den cl (k b o) m=some r:=by
 unfold GU at h
 split at h
 ·exact⟨_,_,rfl,h⟩
 ·cases h
theorem xj {x y:af}{k:cQ->Int->Int->T R}(h:den cl (nZ x y k) m=some r):∃a i j,x= .int a i/\y= .int a j/\den cl (k a i j) m=some r:=by
 unfold nZ at h
 split at h
 ·split at h
  ·split at h
   ·rename_i hb;obtain rfl:=sX hb;exact⟨_,_,_,rfl,rfl,h⟩
   ·cases h
  ·cases h
 ·cases h
theorem BO {x y:af}{k:ByteArray->ByteArray->T R}(h:den cl (Gk x y k) m=some r):∃a b,x= .string a/\y= .string b/\den cl (k a b) m=some r:=by
 unfold Gk at h
 split at h
 ·split at h
  ·exact⟨_,_,rfl,rfl,h⟩
  ·cases h
 ·cases h
theorem gY {v:af}{m':Mem}(h:dJ P (dH tm) o m=some (v,m')):∀df k,jK P o cl tm m df k=k v m' df:=by
 intro df k;unfold jK;rw[h]
theorem oL (a:cQ):Nat.beq (wy a) (wy a)=true:=by cases a<;>rfl
theorem ab4 {f:Int->Int->Bool}{x y:kN}{a:cQ}{i j:Int}(hx:x tm= .int a i)(hy:y tm= .int a j):∀df k,CQ f x y cl tm m df k=k (.bool (f i j)) m df:=by
 intro df k;unfold CQ;rw[hx,hy];simp only[oL,if_true]
theorem aiU {q:Int->Int->Option Nat}{f:Int->Int->Int}{x y:kN}{a:cQ}{i j:Int}(hx:x tm= .int a i)(hy:y tm= .int a j):∀df k,arF q f x y cl tm m df k=k (.int a (lH q f a i j)) m df:=by
 intro df k;unfold arF lH;rw[hx,hy];simp only[oL,if_true];cases q i j with
 |none=>rfl
 |some n=>cases hb:Nat.blt n (kT a)<;>simp only[hb,if_true,bu,if_false]
theorem MR (x:cq):ab9 (isConst x)=ab8 x:=by cases x<;>rfl
theorem HZ {op:BinOp}{t:aW}{x y:cq}{a b:af}:eqGuard op t (ab8 x) (ab8 y) a b=eqGuard op t x y a b:=by
 unfold eqGuard;cases x<;>cases y<;>rfl
theorem mY {s:Sem af}{v:af}(h:s.aP P=some v):Sem.aP P (s.bind fun v=>Sem.pure (Next.value v))=some (.value v):=by
 induction s with
 |pure a=>simp only[Sem.aP,ah]at h;subst h;rfl
 |program k ih=>exact ih P h
 |_=>simp[Sem.aP]at h
theorem Lv {lO:List af}{s:Sem af}{v:af}(h:pu P lO s=some v):lO.all plain=true/\s.aP P=some v/\plain v=true:=by
 unfold pu at h
 split at h
 ·split at h
  ·split at h
   ·cases h;exact⟨fP,fP,fP⟩
   ·cases h
  ·cases h
 ·cases h
theorem xQ {op:BinOp}{t u:aW}{x y:cq}{ev:cq->af}{v:af}(ho:o.op= .binOp op t x y u)(h:iP P op t (isConst x) (isConst y) (ev x) (ev y)=some v):dp P ev o=some v:=by
 unfold iP at h;obtain⟨h1,h2,h3⟩:=Lv h;refine iC ?_ ?_ h3
 ·rw[ho];simpa[Op.operands]using h1
 ·rw[MR,MR,HZ]at h2;unfold execOp;rw[ho];exact mY h2
theorem ug {op:BinOp}{t u:aW}{x y:cq}(ho:o.op= .binOp op t x y u){v:af}(h:dp P (dH tm) o=some v)
  (hn:op= .eql\/op= .neq->qZ P t (isConst x) (isConst y) (dH tm x) (dH tm y)=none):dJ P (dH tm) o m=some (v,m):=by
 unfold dJ;rw[ho];simp only[]
 split
 ·rw[hn (.inl rfl),h];rfl
 ·rw[hn (.inr rfl),h];rfl
 ·rw[h];rfl
theorem OU {op:BinOp}{t u:aW}{x y:cq}(ho:o.op= .binOp op t x y u){K:af->T R}(h:den cl (eq2 P op t (isConst x) (isConst y) (dH tm x) (dH tm y) K) m=some r):
  ∃v m',(∀df k,jK P o cl tm m df k=k v m' df)/\den cl (K v) m'=some r:=by
 unfold eq2 at h
 split at h
 ·split at h
  ·rename_i v hv;refine⟨_,_,gY ?_,h⟩;unfold dJ;rw[ho];simp only[hv]
  ·rename_i hv;obtain⟨v,h1,h2⟩:=lu h;exact⟨_,_,gY (ug ho (xQ ho h1) fun _=>hv),h2⟩
 ·split at h
  ·rename_i v hv;refine⟨_,_,gY ?_,h⟩;unfold dJ;rw[ho];simp only[hv]
  ·rename_i hv;obtain⟨v,h1,h2⟩:=lu h;exact⟨_,_,gY (ug ho (xQ ho h1) fun _=>hv),h2⟩
 ·rename_i n1 n2;obtain⟨v,h1,h2⟩:=lu h;exact⟨_,_,gY (ug ho (xQ ho h1) fun hc=>hc.elim (fun e=>absurd e n1) fun e=>absurd e n2),h2⟩
theorem Ly {op:BinOp}{t u:aW}{x y:cq}(ho:o.op= .binOp op t x y u)(h1:op≠ .eql)(h2:op≠ .neq){K:af->T R}(h:den cl (.val (iP P op t (isConst x) (isConst y) (dH tm x) (dH tm y)) K) m=some r):
  ∃v m',(∀df k,jK P o cl tm m df k=k v m' df)/\den cl (K v) m'=some r:=by
 obtain⟨v,e1,e2⟩:=lu h;exact⟨_,_,gY (ug ho (xQ ho e1) fun hc=>hc.elim (fun e=>absurd e h1) fun e=>absurd e h2),e2⟩
theorem OZ {op:BinOp}{t u:aW}{x y:cq}{q:Nat->Nat->Nat}(ho:o.op= .binOp op t x y u)(h1:op≠ .eql)(h2:op≠ .neq){K:af->T R}{a:cQ}{i j:Int}(hx:dH tm x= .int a i)(hy:dH tm y= .int a j)
  (h:den cl (.val (mM q a i j (iP P op t (isConst x) (isConst y) (dH tm x) (dH tm y))) K) m=some r):
  ∃v m',(∀df k,FE P o q (ex x) (ex y) cl tm m df k=k v m' df)/\den cl (K v) m'=some r:=by
 obtain⟨v,e1,e2⟩:=lu h;have gen:iP P op t (isConst x) (isConst y) (dH tm x) (dH tm y)=some v->∀df k,jK P o cl tm m df k=k v m df:=fun e=>gY (ug ho (xQ ho e) fun hc=>hc.elim (fun e=>absurd e h1) fun e=>absurd e h2)
 refine⟨v,m,fun df k=>?_,e2⟩;cases i with
 |negSucc i=>unfold FE;simp only[ex,hx];exact gen e1 df k
 |ofNat i=>
  cases j with
  |negSucc j=>unfold FE;simp only[ex,hx,hy];exact gen e1 df k
  |ofNat j=>
   cases j with
   |zero=>unfold FE;simp only[ex,hx,hy];exact gen e1 df k
   |succ j=>
    unfold mM at e1;unfold FE;simp only[ex,hx,hy];cases hb:Nat.blt i (kT a)with
    |true=>
     simp only[hb]at e1;cases e1;simp only[oL,hb,Bool.and_self,if_true]
    |false=>
     simp only[hb]at e1;simp only[oL,hb,Bool.true_and,bu,if_false];exact gen e1 df k
end
end Go.AM
namespace Go.AM
open Go
section
variable {R:Type}{P:aE}{o:hZ}
theorem K4 {op:BinOp}{t u:aW}{x y:cq}{q:Nat->Nat->Nat}{cl:cL}{tm:Tm}{m:Mem}{r:R×Mem}(ho:o.op= .binOp op t x y u)(h1:op≠ .eql)(h2:op≠ .neq){K:af->T R}{a:cQ}{i j:Int}(hx:dH tm x= .int a i)(hy:dH tm y= .int a j)
  (h:den cl (.val (pq q a i j (iP P op t (isConst x) (isConst y) (dH tm x) (dH tm y))) K) m=some r):
  ∃v m',(∀df k,zx P o q (ex x) (ex y) cl tm m df k=k v m' df)/\den cl (K v) m'=some r:=by
 obtain⟨v,e1,e2⟩:=lu h;have gen:iP P op t (isConst x) (isConst y) (dH tm x) (dH tm y)=some v->∀df k,jK P o cl tm m df k=k v m df:=fun e=>gY (ug ho (xQ ho e) fun hc=>hc.elim (fun e=>absurd e h1) fun e=>absurd e h2)
 refine⟨v,m,fun df k=>?_,e2⟩;cases i with
 |negSucc i=>unfold zx;simp only[ex,hx];exact gen e1 df k
 |ofNat i=>
  cases j with
  |negSucc j=>cases e1
  |ofNat j=>
   unfold pq at e1;unfold zx;simp only[ex,hx,hy];cases hb:Nat.blt i (kT a)&&Nat.blt j (kT a)with
   |true=>
    simp only[hb]at e1;cases e1;simp only[oL,Bool.true_and,hb,if_true]
   |false=>
    simp only[hb]at e1;simp only[oL,Bool.true_and,hb,bu,if_false];exact gen e1 df k
theorem K6 {op:BinOp}{t u:aW}{x y:cq}(ho:o.op= .binOp op t x y u){f:lS}(hf:TM P o op t (ex x) (ex y)=some f):vG f (acD (R:=R) P op t (isConst x) (isConst y) (ex x) (ex y)):=by
 intro cl tm m K r h;unfold TM at hf;unfold acD at h
 split at hf
 ·rename_i kk hu;simp only[hu]at h;cases op<;>simp only[ah]at hf<;>subst hf<;>simp only[ex]at h
  all_goals first
   |(obtain⟨a,i,j,hx,hy,h⟩:=xj h;exact⟨_,_,ab4 hx hy,h⟩)
   |(obtain⟨a,i,j,hx,hy,h⟩:=xj h;exact⟨_,_,aiU hx hy,h⟩)
   |(obtain⟨a,i,j,hx,hy,h⟩:=xj h;exact K4 ho dB dB hx hy h)
   |(obtain⟨a,i,j,hx,hy,h⟩:=xj h;exact OZ ho dB dB hx hy h)
   |exact Ly ho dB dB h
 ·rename_i hu;simp only[hu]at h
  split at hf<;>(try simp only[ex]at h)<;>simp only[ah]at hf<;>subst hf
  ·obtain⟨a,b,hx,hy,h⟩:=BO h;refine⟨_,_,fun df k=>?_,h⟩;unfold xI;simp only[ex,hx,hy]
  ·obtain⟨a,b,hx,hy,h⟩:=BO h;refine⟨_,_,fun df k=>?_,h⟩;unfold xI;simp only[ex,hx,hy]
  ·obtain⟨a,b,hx,hy,h⟩:=BO h;obtain⟨v,e,h⟩:=lu h;refine⟨_,_,fun df k=>?_,h⟩;unfold jM at e;unfold Xt;simp only[ex,hx,hy]
   split at e
   ·rename_i hb;cases e;simp only[hb,if_true]
   ·cases e
  ·rename_i n1 n2 n3;exact Ly ho n1 n2 h
 ·rename_i n1 n2;cases hf;have h:den cl (eq2 P op t (isConst x) (isConst y) (dH tm x) (dH tm y) K) m=some r:=by
   revert h
   cases hu:P.underlying t with
   |none=>exact id
   |some d=>cases d<;>first |exact id|exact absurd hu (n1 _)|exact absurd hu n2
  exact OU ho h
theorem Hm {t:aW}{x:cq}{f:lS}{g:Cq R}(hf:Hp P o t (ex x)=some f)(hg:loadT P t (ex x)=some g):vG f g:=by
 intro cl tm m K r h;unfold Hp at hf;unfold loadT at hg
 split at hf
 ·rename_i ha;simp only[ha]at hg
  split at hf
  ·rename_i n hn;simp only[hn]at hg;cases hf;cases hg;obtain⟨b,oo,hp,h⟩:=tV h;obtain⟨v,m',e,h⟩:=km h;refine⟨v,m',fun df k=>?_,h⟩;unfold eJ at e;unfold Kd zG acL;rw[hp];simp only[]
   split at e
   ·rename_i l hl;cases e;rw[hl]
   ·cases e
  ·rename_i hn;simp only[hn]at hg;cases hg
 ·rename_i ha;simp only[ha]at hg;cases hf;cases hg;obtain⟨b,oo,hp,h⟩:=tV h;obtain⟨v,m',e,h⟩:=km h;refine⟨v,m',fun df k=>?_,h⟩;unfold aI at e;unfold Ke zG zd;rw[hp];simp only[]
  split at e
  ·rename_i hb;simp only[hb]
   split at e
   ·rename_i hh;rw[bL hh]
    split at e
    ·rename_i hd;cases e;simp only[hd]
    ·cases e
   ·cases e
  ·cases e
 ·rename_i ha;simp only[ha]at hg;cases hg
theorem Es {t:aW}{p x:cq}{f:lS}{g:Cq R}(hf:Ax P o t (ex p) (ex x)=some f)(hg:storeT P t (ex p) (ex x)=some g):vG f g:=by
 intro cl tm m K r h;unfold Ax at hf;unfold storeT at hg
 split at hf
 ·rename_i n hn;simp only[hn]at hg;cases hf
  split at hg
  ·cases hg;obtain⟨b,oo,hp,h⟩:=tV h;unfold zZ;simp only[ex]at h
   split at h
   ·rename_i cs hx
    split at h
    ·rename_i hb;obtain⟨v,m',e,h⟩:=km h;refine⟨v,m',fun df k=>?_,h⟩;rw[hp];simp only[ex,hx,zG,hb,if_true];unfold sO at e
     split at e
     ·rename_i m₁ hm;cases e;rw[hm];rfl
     ·cases e
    ·cases h
   ·cases h
  ·split at hg
   ·rename_i hb;cases hg;obtain⟨b,oo,hp,h⟩:=tV h;obtain⟨v,m',e,h⟩:=km h;refine⟨v,m',fun df k=>?_,h⟩;unfold jo at e
    split at e
    ·cases e
    ·rename_i ho1;have hna:∀cs,dH tm x≠ .agg cs:=fun cs hx=>by
      simp only[ex,hx]at ho1;cases ho1
     unfold zZ;rw[hp];simp only[ex,zG,hb,ho1,if_true];have key:(Az m b oo (dH tm x) fun m'=>k undef m' df)=k v m' df:=by
      unfold Az
      split at e
      ·rename_i IN;simp only[IN]
       split at e
       ·rename_i hh;rw[bL hh]
        split at e
        ·rename_i hd;cases e;simp only[hd]
        ·cases e
       ·cases e
      ·cases e
     revert key
     cases hx:dH tm x<;>first |exact id|exact absurd hx (hna _)
   ·cases hg
  ·cases hg
 ·rename_i hn;simp only[hn]at hg;cases hg
theorem yt {s:aW}{p:cq}{i:Nat}{f:lS}{g:Cq R}(hf:ph P o s (ex p) i=some f)(hg:vm P s (ex p) i=some g):vG f g:=by
 intro cl tm m K r h;unfold ph at hf;unfold vm at hg
 split at hg
 ·rename_i fields hu;simp only[hu]at hf
  split at hg
  ·rename_i fd hfd;simp only[hfd]at hf
   split at hg
   ·rename_i n hs;simp only[hs]at hf;cases hf;cases hg;obtain⟨b,oo,hp,h⟩:=tV h;refine⟨_,_,fun df k=>?_,h⟩;unfold La;rw[hp];rfl
   ·cases hg
  ·cases hg
 ·cases hg
theorem yd {t:aW}{x i:cq}{f:lS}{g:Cq R}(hf:o0 P o t (ex x) (ex i)=some f)(hg:vg P t (ex x) (ex i)=some g):vG f g:=by
 intro cl tm m K r h;unfold o0 at hf;unfold vg at hg
 split at hg
 ·rename_i e hu;simp only[hu]at hf
  split at hg
  ·rename_i s hs;simp only[hs]at hf;cases hf;cases hg;simp only[ex]at h
   split at h
   ·rename_i b oo len c hx
    split at h
    ·rename_i kk n hi;obtain⟨j,rfl,hb,h⟩:=FF h;refine⟨_,_,fun df k=>?_,h⟩;unfold Ff N4;simp only[ex,hx,hi,hb,if_true]
    ·cases h
   ·cases h
  ·cases hg
 ·rename_i len e hu;simp only[hu]at hf
  split at hg
  ·rename_i s hs;simp only[hs]at hf;cases hf;cases hg;obtain⟨b,oo,hp,h⟩:=tV h;simp only[ex]at h
   split at h
   ·rename_i kk n hi;obtain⟨j,rfl,hb,h⟩:=FF h;refine⟨_,_,fun df k=>?_,h⟩;unfold Fh N4 zG;rw[hp];simp only[ex,hi,hb,if_true]
   ·cases h
  ·cases hg
 ·cases hg
theorem D7:∀{l:List UInt8}{i:Nat},i<l.length->∃b,qE l i=some b
 | [],i,h=>by simp at h
 |b::l,0,h=>⟨b,rfl⟩
 |b::l,i+1,h=>D7 (l:=l) (by simpa using h)
theorem Fe {t:aW}{x i:cq}{f:lS}{g:Cq R}(ho:o.op= .index t x i)(hf:Bi P o t (ex x) (ex i)=some f)(hg:Ko P t (ex x) (ex i)=some g):vG f g:=by
 intro cl tm m K r h;unfold Bi at hf;unfold Ko at hg
 split at hf
 ·rename_i hu;simp only[hu]at hg;cases hf;cases hg;simp only[ex]at h
  split at h
  ·rename_i s hx
   split at h
   ·rename_i kk n hi;obtain⟨j,rfl,hb,h⟩:=FF h;rw[jT,jE]at hb;obtain⟨bb,sF⟩:=D7 (l:=s.data.toList) (i:=j) (by simpa using hb);refine⟨_,_,fun df k=>?_,h⟩;unfold TG aF;simp only[ex,hx,hi,sF]
   ·cases h
  ·cases h
 ·rename_i hn
  split at hg
  ·rename_i hu;exact absurd hu hn
  ·cases hf;cases hg;obtain⟨v,e,h⟩:=xi h;refine⟨_,_,gY ?_,h⟩;unfold dJ;rw[ho];simp only[ex]at e;simp only[e]
theorem Ki {t:aW}{x:cq}{f:lS}{g:Cq R}(hf:RP P o t (ex x)=some f)(hg:abd P t (ex x)=some g):vG f g:=by
 intro cl tm m K r h;unfold RP at hf;unfold abd at hg
 split at hg
 ·rename_i hu;simp only[hu]at hf;cases hf;cases hg;simp only[ex]at h
  split at h
  ·rename_i s hx;refine⟨_,_,fun df k=>?_,h⟩;unfold Kj;simp only[ex,hx]
  ·cases h
 ·rename_i e hu;simp only[hu]at hf;cases hf;cases hg;simp only[ex]at h
  split at h
  ·rename_i s n c hx;refine⟨_,_,fun df k=>?_,h⟩;unfold RN;simp only[ex,hx]
  ·cases h
 ·cases hg
theorem Kb {nR:Bool}{x y:cq}:vG (Kc P o nR (ex x) (ex y)) (Rp (R:=R) nR (ex x) (ex y)):=by
 intro cl tm m K r h;unfold Rp at h;simp only[ex]at h
 split at h
 ·rename_i a i hx
  split at h
  ·rename_i b j hy;refine⟨_,_,fun df k=>?_,h⟩;unfold Kc qG;simp only[ex,hx,hy];cases br j i<;>cases nR<;>rfl
  ·cases h
 ·cases h
theorem iD {f:Tm->Mem->Option (af×Mem)}(hf:∀tm m,f tm m=dJ P (dH tm) o m):vG (jK P o) (A7 (R:=R) f):=by
 intro cl tm m K r h;obtain⟨v,m',e,h⟩:=km h;exact⟨v,m',gY (by rw[<-hf];exact e),h⟩
end
end Go.AM
namespace Go.AM
open Go
section
variable {R:Type}{P:aE}{o:hZ}
theorem JK {ev:cq->af}{m:Mem}{v:af}(h:dp P ev o=some v)(hk:(∃op t x,o.op= .unOp op t x)\/(∃s d x a b,o.op= .convert s d x/\P.underlying s=some (.int a)/\P.underlying d=some (.int b))\/(∃t x lo hi s,o.op= .slice t x lo hi none/\ev x= .string s)):dJ P ev o m=some (v,m):=by
 unfold dJ;rcases hk with⟨op,t,x,ho⟩|⟨s,d,x,a,b,ho,h1,h2⟩|⟨t,x,lo,hi,s,ho,hs⟩
 ·rw[ho];simp only[h,cR]
 ·rw[ho];simp only[];have e:ej P s d (ev x) m=none:=by
   unfold ej;rw[h1,h2]
  rw[e,h];rfl
 ·rw[ho];simp only[];have e:jH P t (ev x) (lo.map ev) (hi.map ev) m=none:=by
   unfold jH;rw[hs]
   split<;>first |rfl|(rename_i h;cases h)
  rw[e,h];rfl
theorem KM {g:Cq R}(hg:Td P o=some g):vG (jK P o) g:=by
 unfold Td at hg
 split at hg
 ·rename_i op t x ho;cases hg;intro cl tm m K r h;obtain⟨v,e,h⟩:=lu h;obtain⟨h1,h2,h3⟩:=Lv e;refine⟨_,_,gY (JK (iC (by rw[ho];simpa[Op.operands]using h1) ?_ h3) (.inl ⟨_,_,_,ho⟩)),h⟩;unfold execOp;rw[ho];exact mY h2
 ·rename_i t ps ho
  split at hg
  ·cases hg;intro cl tm m K r h;obtain⟨v,e,h⟩:=lu h;refine⟨_,_,gY ?_,h⟩;unfold dJ;rw[ho];simp only[e];rfl
  ·cases hg;intro cl tm m K r h;obtain⟨v,e,h⟩:=xi h;refine⟨_,_,gY ?_,h⟩;unfold dJ;rw[ho];simp only[e];rfl
 ·rename_i t n ps ho;cases hg;exact iD fun tm m=>by unfold dJ;rw[ho]
 ·rename_i s d x ho;cases hg;intro cl tm m K r h
  dsimp only at h
  split at h
  ·rename_i a b hs hd;obtain⟨v,e,h⟩:=lu h;obtain⟨h1,h2,h3⟩:=Lv e;refine⟨_,_,gY (JK (iC (by rw[ho];simpa[Op.operands]using h1) ?_ h3) (.inr (.inl ⟨_,_,_,_,_,ho,hs,hd⟩))),h⟩;unfold execOp;rw[ho];exact mY h2
  ·obtain⟨v,m',e,h⟩:=km h;refine⟨v,m',gY ?_,h⟩;unfold dJ;rw[ho];simp only[e]
 ·rename_i t x ho
  split at hg
  ·cases hg
  ·rename_i d hu hn;cases hg;intro cl tm m K r h;refine⟨_,_,gY ?_,h⟩;unfold dJ;rw[ho];simp only[]
   split
   ·rename_i ms Sk;rw[hn]at Sk;exact absurd Sk (by intro e;cases e;exact hu _ rfl)
   ·rfl
   ·rename_i Sk;rw[hn]at Sk;cases Sk
  ·cases hg
 ·rename_i fn f c ho;cases hg;intro cl tm m K r h;refine⟨_,_,gY ?_,h⟩;unfold dJ;rw[ho]
 ·rename_i t ho;cases hg;exact iD fun tm m=>by unfold dJ wJ;rw[ho]
 ·rename_i t l c ho;cases hg;exact iD fun tm m=>by unfold dJ;rw[ho]
 ·rename_i t x lo hi ho;cases hg;intro cl tm m K r h
  dsimp only at h
  split at h
  ·rename_i s hs;obtain⟨v,e,h⟩:=lu h;obtain⟨h1,h2,h3⟩:=Lv e;refine⟨_,_,gY (JK (iC ?_ ?_ h3) (.inr (.inr ⟨_,_,_,_,_,ho,hs⟩))),h⟩
   ·rw[ho];simp only[Op.operands];cases lo<;>cases hi<;>simpa[hs]using h1
   ·unfold execOp;rw[ho];simp only[hs];exact mY h2
  ·obtain⟨v,m',e,h⟩:=km h;refine⟨v,m',gY ?_,h⟩;unfold sQ at e
   split at e
   ·rename_i v' hv;cases e;unfold dJ;rw[ho];simp only[hv]
   ·cases e
 ·rename_i s x f ho;cases hg;intro cl tm m K r h;obtain⟨v,e,h⟩:=xi h;refine⟨_,_,gY ?_,h⟩;unfold dJ;rw[ho];simp only[e];rfl
 ·rename_i t x i ok ho;cases hg;exact iD fun tm m=>by
   unfold dJ L1;rw[ho];simp only[];cases jQ P t (dH tm x) (dH tm i) ok m<;>rfl
 ·rename_i t x i v ho;cases hg;exact iD fun tm m=>by
   unfold dJ Rr;rw[ho];simp only[];cases lC P t (dH tm x) (dH tm i) (dH tm v) m<;>rfl
 ·rename_i x t a ok ho;cases hg;intro cl tm m K r h;obtain⟨v,e,h⟩:=xi h;refine⟨_,_,gY ?_,h⟩;unfold dJ;rw[ho];simp only[e];rfl
 ·rename_i t x ho;cases hg;exact iD fun tm m=>by unfold dJ;rw[ho]
 ·rename_i it s ho;cases hg;exact iD fun tm m=>by unfold dJ;rw[ho]
 ·rename_i b args lG ho
  split at hg
  ·rename_i s x ha;cases hg;exact iD fun tm m=>by unfold dJ;rw[ho];simp only[ha]
  ·rename_i s x ha;cases hg;exact iD fun tm m=>by unfold dJ;rw[ho];simp only[ha]
  ·rename_i x ha;cases hg;exact iD fun tm m=>by unfold dJ;rw[ho];simp only[ha]
  ·cases hg
 ·cases hg
theorem NG {f:lS}{g:Cq R}(hf:ix P o=some f)(hg:xS P o=some g):vG f g:=by
 have last:ix P o=some (jK P o)->xS (R:=R) P o=Td P o->vG f g:=fun h1 h2=>by
  rw[h1]at hf;cases hf;rw[h2]at hg;exact KM hg
 cases ho:o.op with
 |move x=>
  unfold ix at hf;unfold xS at hg;simp only[ho]at hf hg;have hf:=aO hf;have hg:=aO hg;cases hf;cases hg;exact fun cl tm m K r h=>⟨_,_,fun _ _=>rfl,h⟩
 |assign x=>
  unfold ix at hf;unfold xS at hg;simp only[ho]at hf hg;have hf:=aO hf;have hg:=aO hg;cases hf;cases hg;exact fun cl tm m K r h=>⟨_,_,fun _ _=>rfl,h⟩
 |pick c x y=>
  unfold ix at hf;unfold xS at hg;simp only[ho]at hf hg;have hf:=aO (aO (aO hf));have hg:=aO (aO (aO hg));cases hf;cases hg;intro cl tm m K r h;obtain⟨b,hb,h⟩:=BP h;cases b with
  |true=>exact⟨_,_,fun _ _=>by unfold GX;simp only[hb],h⟩
  |false=>exact⟨_,_,fun _ _=>by unfold GX;simp only[hb],h⟩
 |binOp op t x y u=>
  unfold ix at hf;unfold xS at hg;simp only[ho]at hf hg;have hf:=aO (aO hf);have hg:=aO (aO hg);cases hg;exact K6 ho hf
 |load t x=>
  unfold ix at hf;unfold xS at hg;simp only[ho]at hf hg;exact Hm (aO hf) (aO hg)
 |store t p x=>
  unfold ix at hf;unfold xS at hg;simp only[ho]at hf hg;exact Es (aO (aO hf)) (aO (aO hg))
 |fieldAddr s p i=>
  unfold ix at hf;unfold xS at hg;simp only[ho]at hf hg;exact yt (aO hf) (aO hg)
 |indexAddr t x i=>
  unfold ix at hf;unfold xS at hg;simp only[ho]at hf hg;exact yd (aO (aO hf)) (aO (aO hg))
 |index t x i=>
  unfold ix at hf;unfold xS at hg;simp only[ho]at hf hg;exact Fe ho (aO (aO hf)) (aO (aO hg))
 |extract x i=>
  unfold ix at hf;unfold xS at hg;simp only[ho]at hf hg;have hf:=aO hf;have hg:=aO hg;cases hf;cases hg;intro cl tm m K r h
  dsimp only at h
  split at h
  ·rename_i vs hx;obtain⟨v,e,h⟩:=xi h;exact⟨_,_,fun _ _=>by unfold w8;simp only[hx,e],h⟩
  ·cases h
 |unOp op t x=>
  cases op with
  |not=>
   unfold ix at hf;unfold xS at hg;simp only[ho]at hf hg;have hf:=aO hf;have hg:=aO hg;cases hf;cases hg;intro cl tm m K r h
   dsimp only at h
   split at h
   ·rename_i b hx;exact⟨_,_,fun _ _=>by unfold Vn;simp only[hx],h⟩
   ·cases h
  |_=>exact last (by unfold ix;rw[ho]) (by unfold xS;rw[ho])
 |nilCheck x=>
  unfold ix at hf;unfold xS at hg;simp only[ho]at hf hg;have hf:=aO hf;have hg:=aO hg;cases hf;cases hg;intro cl tm m K r h
  dsimp only at h
  split at h
  ·rename_i a hx;exact⟨_,_,fun _ _=>by unfold QW;simp only[hx],h⟩
  ·rename_i name first cap hx
   obtain⟨v,e,h⟩:=lu h;refine⟨v,m,fun df k=>?_,h⟩;have dG:dJ P (dH tm) o m=some (v,m):=by
    unfold dJ;rw[ho];simp only[hx];unfold LL at e
    split at e
    ·rename_i r' hr;simp only[hr]
     split at e
     ·rename_i hs;cases e;rw[bL hs]
     ·cases e
    ·cases e
   unfold QW;simp only[hx];exact gY dG df k
  ·cases h
 |alloc e=>
  unfold ix at hf;unfold xS at hg;simp only[ho]at hf hg
  split at hf
  ·rename_i z hz;simp only[hz]at hg;cases hf;cases hg;intro cl tm m K r h;obtain⟨v,m',e,h⟩:=km h;cases e;exact⟨_,_,fun _ _=>rfl,h⟩
  ·cases hf
 |box e x=>
  unfold ix at hf;unfold xS at hg;simp only[ho]at hf hg;have hf:=aO hf;have hg:=aO hg;cases hf;cases hg;intro cl tm m K r h;obtain⟨v,m',e,h⟩:=km h;cases e;exact⟨_,_,fun _ _=>rfl,h⟩
 |call c=>
  obtain⟨callee,args,lG⟩:=c;cases callee with
  |value x=>
   have main:(∃f',x= .func f')\/(∀f',x≠ .func f'):=by
    cases x with
    |func f'=>exact .inl ⟨_,rfl⟩
    |_=>exact .inr fun _ h=>by cases h
   rcases main with⟨f',rfl⟩|hnf
   ·unfold ix at hf;unfold xS at hg;simp only[ho]at hf hg;obtain⟨os,hf,Bn⟩:=fF hf;obtain⟨os',hg,Kz⟩:=fF hg;cases hf;cases hg;intro cl tm m K r h;unfold den at h
    split at h
    ·rename_i v m' hc;refine⟨v,m',fun df k=>?_,h⟩;unfold TD;rw[Bn,<-Kz,hc];rfl
    ·cases h
   ·have Fs:(eQ x fun x=>rZ args.toList fun xs=>some (Ig x xs))=some f:=by
     unfold ix at hf;simp only[ho]at hf;cases x with
     |func f'=>exact absurd rfl (hnf f')
     |_=>exact hf
    have KD:(eQ x fun x=>rZ args.toList fun xs=>some fun tm k=>T.fT (x tm) (IQ xs tm) k)=some g:=by
     unfold xS at hg;simp only[ho]at hg;cases x with
     |func f'=>exact absurd rfl (hnf f')
     |_=>exact hg
    obtain⟨os,hf,Bn⟩:=fF (aO Fs);obtain⟨os',hg,Kz⟩:=fF (aO KD);cases hf;cases hg;intro cl tm m K r h;unfold den at h
    split at h
    ·rename_i ff first cap hx
     split at h
     ·rename_i v m' hc;refine⟨v,m',fun df k=>?_,h⟩;unfold Ig;simp only[hx];rw[Bn,<-Kz,hc];rfl
     ·cases h
    ·cases h
  |invoke rc name=>
   unfold ix at hf;unfold xS at hg;simp only[ho]at hf hg;obtain⟨os,hf,Bn⟩:=fF (aO hf);obtain⟨os',hg,Kz⟩:=fF (aO hg);cases hf;cases hg;intro cl tm m K r h;unfold den at h
   split at h
   ·rename_i ff recv hx
    split at h
    ·rename_i v m' hc;refine⟨v,m',fun df k=>?_,h⟩;unfold MS;simp only[hx];rw[Bn,<-Kz,hc];rfl
    ·cases h
   ·cases h
  |builtin b=>
   have ahG:∀nR,(match args.toList with | [x,y]=>eQ x fun x=>eQ y fun y=>some (Kc P o nR x y)|_=>some (jK P o))=some f->(match args.toList with | [x,y]=>eQ x fun x=>eQ y fun y=>some (Rp nR x y)|_=>none)=some g->vG f g:=by
    intro nR hf hg
    split at hg
    ·rename_i x y ha;simp only[ha]at hf;have hf:=aO (aO hf);have hg:=aO (aO hg);cases hf;cases hg;exact Kb
    ·cases hg
   cases b with
   |min=>unfold ix at hf;unfold xS at hg;simp only[ho]at hf hg;exact ahG false hf hg
   |max=>unfold ix at hf;unfold xS at hg;simp only[ho]at hf hg;exact ahG true hf hg
   |len=>
    unfold ix at hf;unfold xS at hg;simp only[ho]at hf hg
    split at hg
    ·rename_i x t l ha ht;simp only[ha,ht]at hf;exact Ki (aO hf) (aO hg)
    ·cases hg
   |_=>exact last (by unfold ix;rw[ho]) (by unfold xS;rw[ho])
 |defer c=>
  unfold xS Td at hg;simp only[ho]at hg;cases hg
 |_=>exact last (by unfold ix;rw[ho]) (by unfold xS;rw[ho])
end
end Go.AM
namespace Go.AM
open Go
section
variable {R:Type}
abbrev RC (R:Type):=(Tm->Df->T R)->Tm->Df->T R
def By (g:kN)(want:Bool)(yes no:RC R):RC R:=fun K tm df=>match g tm with
 | .bool b=> .cond (.bool b) fun b=>match b with
  |true=>match want with |true=>yes K tm df|false=>no K tm df
  |false=>match want with |true=>no K tm df|false=>yes K tm df
 |_=>no K tm df
def aaD (P:aE)(ops:Array hZ)(i:Nat)(rest:RC R):Option (RC R):=
 match ops[i]? with
 |none=>none
 |some o=>match o.op with
  | .defer {callee:= .value x,args,.. }=>match o.guard with
   |none=>match o.dst with
    |none=>eQ x fun x=>rZ args.toList fun xs=>some fun K tm df=>(match x tm with
     | .func (.func f) first cap=>rest K tm ((f,first.toList++IQ xs tm++cap.toList)::df)
     |_=> .fail)
    |some _=>none
   |some _=>none
  |_=>match xS P o with
   |none=>none
   |some op=>match o.guard with
    |none=>match o.dst with
     |some d=>Er d fun _ p=>some fun K tm df=>op tm fun v=>rest K (p v tm) df
     |none=>some fun K tm df=>op tm fun _=>rest K tm df
    |some (j,want)=>match(ops[j]?).bind (·.dst)with
     |some g=>Er g fun gx _=>match o.dst with
      |some d=>Er d fun _ p=>some (By gx want (fun K tm df=>op tm fun v=>rest K (p v tm) df) fun K tm df=>rest K (p undef tm) df)
      |none=>some (By gx want (fun K tm df=>op tm fun _=>rest K tm df) rest)
     |none=>none
def fe (v:af)(m:Mem):Option (af×Mem):=some (jG m v,m)
def di (m:Mem):Option (af×Mem):=match m.pend with | []=>some (undef,m)|_=>none
def bS (saved v:af)(look:Mem->Bool)(m:Mem):Option (af×Mem):=match we saved (jG m v)&&look m with |true=>some (undef,m)|false=>none
def fG (v:af)(m:Mem):Bool:=match mS v with |some b=>Nat.ble m.floor b|none=>true
def RA (P:aE)(o:hZ)(tm:Tm):Mem->Bool:=
 match o.op with
 | .load t a=>fun m=>(kx P t (dH tm a) m).isSome
 | .lookup t x i ok=>fun m=>(jQ P t (dH tm x) (dH tm i) ok m).isSome
 | .slice t x lo hi none=>fun m=>(jH P t (dH tm x) (lo.map (dH tm)) (hi.map (dH tm)) m).isSome
 | .slice _ _ _ _ (some _)=>fun _=>false
 |_=>fG (dH tm (match mz o with |some x=>x|none=> .const undef))
def Lh (ops:Array hZ)(o:hZ)(yes no:RC R):Option (RC R):=
 match o.guard with
 |none=>some yes
 |some (j,want)=>match(ops[j]?).bind (·.dst)with
  |some g=>some (By (de g) want yes no)
  |none=>some no
def PV (P:aE)(ops:Array hZ)(t:mU)(rest:RC R):Option (RC R):=
 match t with
 |(0,i,slot)=>match aaD P ops i rest with
  |some f=>some (match slot with |0=>f|_=>fun K tm df=> .mem di fun _=>f K tm df)
  |none=>none
 |(1,i,slot)=>match ops[i]? with
  |some o=>match mz o with
   |some x=>Lh ops o (fun K tm df=> .mem (fe (dH tm x)) fun v=>rest K (sK slot v tm) df) (fun K tm df=>rest K (sK slot undef tm) df)
   |none=>none
  |none=>none
 |(_,i,slot)=>match ops[i]? with
  |some o=>match mz o with
   |some x=>Lh ops o (fun K tm df=> .mem (bS (de slot tm) (dH tm x) (RA P o tm)) fun _=>rest K tm df) rest
   |none=>none
  |none=>none
def xG (P:aE)(ops:Array hZ):List mU->Option (RC R)
 | []=>some fun K=>K
 |t::l=>match xG P ops l with
  |some rest=>PV P ops t rest
  |none=>none
abbrev KT (R:Type):=Exit->Tm->Df->T R
abbrev CT (R:Type):=KT R->Tm->Df->T R
def adt (a b:CT R):CT R:=fun K=>a fun e tm df=>match e with
 | .normal=>b K tm df
 |e=>K e tm df
def aim (x:kN)(a b:CT R):CT R:=fun K tm df=> .cond (x tm) fun c=>match c with |true=>a K tm df|false=>b K tm df
def acy (id:Nat)(a:CT R):CT R:=fun K=>a fun e tm df=>match e with
 | .exit j=>match Nat.beq j id with |true=>K .normal tm df|false=>K (.exit j) tm df
 |e=>K e tm df
def Hj (a:CT R):Nat->CT R
 |0=>fun _ _ _=> .fail
 |n+1=>fun K=>a fun e tm df=>match e with
  | .normal=>Hj a n K tm df
  |e=>K e tm df
def oc (P:aE)(nt:Nat):Nat->Code->Option (CT R)
 |0,_=>none
 |n+1,c=>match c with
  | .skip=>some fun K=>K .normal
  | .label _=>some fun K=>K .normal
  | .seq a b=>match oc P nt n a with
   |some a=>match oc P nt n b with
    |some b=>some (adt a b)
    |none=>none
   |none=>none
  | .cond x a b=>match oc P nt n a with
   |some a=>match oc P nt n b with
    |some b=>eQ x fun x=>some (aim x a b)
    |none=>none
   |none=>none
  | .block id b=>match oc P nt n b with
   |some b=>some (acy id b)
   |none=>none
  | .loop b=>match oc P nt n b with
   |some b=>some (Hj b 100000)
   |none=>none
  | .exit id=>some fun K=>K (.exit id)
  | .ret=>some fun K=>K .ret
  | .goto l=>some fun K=>K (.goto l)
  | .region _ ops draw=>match draw with
   |true=>match Tq ops nt with
    |some l=>match xG (R:=R) P ops l with
     |some f=>some fun K=>f (K .normal)
     |none=>none
    |none=>none
   |false=>match xG (R:=R) P ops ((List.range ops.size).map fun i=>(0,i,0))with
    |some f=>some fun K=>f (K .normal)
    |none=>none
  | .scope b=>match oc P nt n b with
   |some g=>some fun K=>g fun e tm df=>match e with
    | .goto _=> .fail
    |e=>K e tm df
   |none=>none
  |_=>none
def fV (P:aE)(t:aW)(p:af)(m:Mem):Option (af×Mem):=match kx P t p m with |some v=>some (v,m)|none=>none
def GH (P:aE)(nt:Nat)(tm:Tm):List ResultVar->(List af->T R)->T R
 | [],k=>k []
 | .tmp t::l,k=>match Nat.blt t nt with |true=>GH P nt tm l fun vs=>k (de t tm::vs)|false=> .fail
 | .cell a t::l,k=>match Nat.blt a nt with |true=> .mem (fV P t (de a tm)) fun v=>GH P nt tm l fun vs=>k (v::vs)|false=> .fail
def tW (P:aE)(X:Ext):Df->T R->T R
 | [],k=>k
 |(f,args)::ds,k=>match fN P f&& !(Nat.beq f X.Aq||Nat.beq f X.oQ)with
  |true=> .call f args fun _=>tW P X ds k
  |false=> .fail
def Y5 (P:aE)(X:Ext)(nt:Nat)(rs:List ResultVar)(g:CT af)(args:List af):T af:=
 match Nat.ble args.length nt with
 |true=>match Cs args with
  |some tm=>g (fun e tm df=>match e with
   | .normal=>tW P X df (GH P nt tm rs fun vs=>match vs with | [v]=> .done v|vs=> .done (.tuple vs.toArray))
   | .ret=>tW P X df (GH P nt tm rs fun vs=>match vs with | [v]=> .done v|vs=> .done (.tuple vs.toArray))
   |_=> .fail) tm []
  |none=> .fail
 |false=> .fail
def OQ (P:aE)(X:Ext)(f:Nat)(args:List af):T af:=
 match P.funcs[f]? with
 |some fn=>match fn.body with
  |some c=>match oc P fn.ntmps 1000 c with
   |some g=>Y5 P X fn.ntmps fn.results.toList g args
   |none=> .fail
  |none=> .fail
 |none=> .fail
end
end Go.AM
namespace Go.AM
open Go
section
variable {R:Type}{P:aE}
def vF (f:iI)(g:RC R):Prop:=
 ∀(cl:cL) (K:Tm->Df->T R) (tm:Tm) (df:Df) (m:Mem) (r:R×Mem),den cl (g K tm df) m=some r->∃st,f cl tm m df=some st/\den cl (K st.tm st.df) st.mem=some r
theorem rK {g:kN}{want:Bool}{yes no:RC R}{f fy fn:iI}(hy:vF fy yes)(hn:vF fn no)
  (h1:∀cl tm m df,g tm= .bool want->f cl tm m df=fy cl tm m df)(h2:∀cl tm m df,g tm≠ .bool want->f cl tm m df=fn cl tm m df):vF f (By g want yes no):=by
 intro cl K tm df m r h;unfold By at h
 split at h
 ·rename_i b hb;obtain⟨b',e,h⟩:=BP h;cases e
  by_cases hw:b=want
  ·subst hw;rw[h1 _ _ _ _ hb];refine hy _ _ _ _ _ _ ?_
   revert h;cases b<;>exact id
  ·rw[h2 _ _ _ _ (by rw[hb];intro e;cases e;exact hw rfl)];refine hn _ _ _ _ _ _ ?_
   revert h
   cases b<;>cases want<;>first |exact absurd rfl hw|exact id
 ·rename_i hb;rw[h2 _ _ _ _ (hb _)];exact hn _ _ _ _ _ _ h
theorem AA {op:lS}{t:Cq R}{p:Put}{rest:iI}{rt:RC R}(ho:vG op t)(hr:vF rest rt):vF (Lm p op rest) fun K tm df=>t tm fun v=>rt K (p v tm) df:=by
 intro cl K tm df m r h;obtain⟨v,m',e,h⟩:=ho _ _ _ _ _ h;obtain⟨st,e2,h⟩:=hr _ _ _ _ _ _ h;exact⟨st,by unfold Lm;rw[e];exact e2,h⟩
theorem yQ {op:lS}{t:Cq R}{rest:iI}{rt:RC R}(ho:vG op t)(hr:vF rest rt):vF (Gn op rest) fun K tm df=>t tm fun _=>rt K tm df:=by
 intro cl K tm df m r h;obtain⟨v,m',e,h⟩:=ho _ _ _ _ _ h;obtain⟨st,e2,h⟩:=hr _ _ _ _ _ _ h;exact⟨st,by unfold Gn;rw[e];exact e2,h⟩
theorem JN {nt i:Nat}{ops:Array hZ}{rest f:iI}{rt g:RC R}(hf:QG P nt ops i rest=some f)(hg:aaD P ops i rt=some g)(hr:vF rest rt):vF f g:=by
 unfold QG at hf;unfold aaD at hg
 split at hg
 ·cases hg
 ·rename_i o ho;rw[ho]at hf;simp only[]at hf
  split at hf
  ·split at hf
   ·cases hf
   ·rename_i op dG
    split at hg
    ·rename_i x args lG hd
     split at hg
     ·rename_i SK
      split at hg
      ·rename_i abK;simp only[SK,abK]at hf;cases hf;obtain⟨os',hg,Kz⟩:=fF (aO hg);cases hg;unfold ix at dG;simp only[hd]at dG;obtain⟨os,dG,Bn⟩:=fF (aO dG);cases dG;intro cl K tm df m r h
       dsimp only at h
       split at h
       ·rename_i ff first cap hx
        obtain⟨st,e2,h⟩:=hr _ _ _ _ _ _ h;refine⟨st,?_,h⟩;unfold Gn FH noK;simp only[hx];rw[Bn,<-Kz];exact e2
       ·cases h
      ·cases hg
     ·cases hg
    ·split at hg
     ·cases hg
     ·rename_i t ht;have h1:=NG dG ht
      split at hg
      ·rename_i SK;simp only[SK]at hf
       split at hg
       ·rename_i d hd;simp only[hd]at hf;have hf:=(jx hf).2;have hg:=(jx hg).2;cases hf;cases hg;exact AA h1 hr
       ·rename_i hd;simp only[hd]at hf;cases hf;cases hg;exact yQ h1 hr
      ·rename_i j want SK;simp only[SK]at hf
       split at hg
       ·rename_i gg hgg;simp only[hgg]at hf
        split at hf
        ·have hf:=(jx hf).2;have hg:=(jx hg).2
         split at hg
         ·rename_i d hd;simp only[hd]at hf;have hf:=(jx hf).2;have hg:=(jx hg).2;cases hf;cases hg;refine rK (AA h1 hr) (fn:=fun cl tm m df=>rest cl (sK d undef tm) m df) (fun cl K tm df m r h=>hr _ _ _ _ _ _ h) ?_ ?_
          ·intro cl tm m df hb;unfold Fy Lm;cases want<;>simp only[hb]<;>rfl
          ·intro cl tm m df hb;unfold Fy
           split
           ·cases want with
            |true=>exact absurd ‹de gg tm=_› hb
            |false=>rfl
           ·cases want with
            |true=>rfl
            |false=>exact absurd ‹de gg tm=_› hb
           ·rfl
         ·rename_i hd;simp only[hd]at hf;cases hf;cases hg;refine rK (yQ h1 hr) hr ?_ ?_
          ·intro cl tm m df hb;unfold Fx Gn;cases want<;>simp only[hb]<;>rfl
          ·intro cl tm m df hb;unfold Fx
           split
           ·cases want with
            |true=>exact absurd ‹de gg tm=_› hb
            |false=>rfl
           ·cases want with
            |true=>rfl
            |false=>exact absurd ‹de gg tm=_› hb
           ·rfl
        ·cases hf
       ·cases hg
  ·cases hf
theorem yN {ops:Array hZ}{o:hZ}{yes no g:RC R}{f fy fn:iI}(hg:Lh ops o yes no=some g)(hy:vF fy yes)(hn:vF fn no)
  (h1:∀cl tm m df,cT ops o tm=true->f cl tm m df=fy cl tm m df)(h2:∀cl tm m df,cT ops o tm=false->f cl tm m df=fn cl tm m df):vF f g:=by
 unfold Lh at hg
 split at hg
 ·rename_i SK;cases hg;intro cl K tm df m r h;rw[h1 _ _ _ _ (by unfold cT;rw[SK])];exact hy _ _ _ _ _ _ h
 ·rename_i j want SK
  split at hg
  ·rename_i gg hgg;cases hg;refine rK hy hn (fun cl tm m df hb=>h1 _ _ _ _ ?_) fun cl tm m df hb=>h2 _ _ _ _ ?_
   ·unfold cT;simp only[SK,hgg,hb];simp
   ·unfold cT;simp only[SK,hgg]
    split
    ·rename_i b e;rw[e]at hb;cases b<;>cases want<;>first |rfl|exact absurd rfl hb
    ·rfl
  ·rename_i hgg;cases hg;intro cl K tm df m r h;rw[h2 _ _ _ _ (by unfold cT;simp only[SK,hgg])];exact hn _ _ _ _ _ _ h
theorem Hl {o:hZ}{x:cq}(hx:mz o=some x){tm:Tm}{m:Mem}(h:RA P o tm m=true):(if looks o then(dJ P (dH tm) o m).isSome else match mS (dH tm x)with |some b=>Nat.ble m.floor b|none=>true)=true:=by
 unfold RA at h;cases ho:o.op with
 |load t a=>
  simp only[ho]at h;have :looks o=true:=by unfold looks;rw[ho]
  rw[bL this];unfold dJ;rw[ho];simp only[Option.isSome_map];exact h
 |lookup t y i ok=>
  simp only[ho]at h;have :looks o=true:=by unfold looks;rw[ho]
  rw[bL this];unfold dJ;rw[ho];simp only[Option.isSome_map];exact h
 |slice t y lo hi mx=>
  cases mx with
  |some _=>simp only[ho]at h;cases h
  |none=>
   simp only[ho]at h;have :looks o=true:=by unfold looks;rw[ho]
   rw[bL this];unfold dJ;rw[ho];simp only[];cases hs:jH P t (dH tm y) (lo.map (dH tm)) (hi.map (dH tm)) m with
   |none=>rw[hs]at h;cases h
   |some v=>rfl
 |_=>
  have :looks o=false:=by unfold looks;rw[ho]
  rw[this,bT dB];simp only[ho,hx,fG]at h;exact h
theorem Gh {nt:Nat}{ops:Array hZ}{t:mU}{rest f:iI}{rt g:RC R}(hf:yP P nt ops t rest=some f)(hg:PV P ops t rt=some g)(hr:vF rest rt):vF f g:=by
 unfold yP at hf;unfold PV at hg
 split at hg
 ·rename_i i slot;simp only[]at hf
  split at hg
  ·rename_i g' KD
   split at hf
   ·rename_i f' Fs;have h1:=JN Fs KD hr;cases hf;cases hg;cases slot with
    |zero=>exact h1
    |succ slot=>
     intro cl K tm df m r h;obtain⟨v,m',e,h⟩:=km h;unfold di at e
     split at e
     ·rename_i hp;cases e;obtain⟨st,e2,h⟩:=h1 _ _ _ _ _ _ h;refine⟨st,?_,h⟩;simp only[Lz,hp];exact e2
     ·cases e
   ·cases hf
  ·cases hg
 ·rename_i i slot;simp only[]at hf
  split at hg
  ·rename_i o ho;simp only[ho]at hf
   split at hg
   ·rename_i x hx;simp only[hx]at hf
    split at hf
    ·cases hf;refine yN hg (fy:=fun cl tm m df=>rest cl (sK slot (jG m (dH tm x)) tm) m df) (fn:=fun cl tm m df=>rest cl (sK slot undef tm) m df) ?_ (fun cl K tm df m r h=>hr _ _ _ _ _ _ h) ?_ ?_
     ·intro cl K tm df m r h;obtain⟨v,m',e,h⟩:=km h;cases e;exact hr _ _ _ _ _ _ h
     ·intro cl tm m df hw;unfold Qa;rw[bL hw]
     ·intro cl tm m df hw;unfold Qa;rw[bT (by rw[hw];decide)]
    ·cases hf
   ·cases hg
  ·cases hg
 ·rename_i c i slot h0 h1;have hf:(match ops[i]? with |some o=>(match mz o with |some x=>some (rS P ops o x slot rest)|none=>none)|none=>none)=some f:=by
   revert hf
   cases c with
   |zero=>exact absurd rfl h0
   |succ c=>
    cases c with
    |zero=>exact absurd rfl h1
    |succ c=>exact id
  split at hg
  ·rename_i o ho;simp only[ho]at hf
   split at hg
   ·rename_i x hx;simp only[hx]at hf;cases hf;refine yN hg (fy:=fun cl tm m df=>rS P ops o x slot rest cl tm m df) (fn:=rest) ?_ hr (fun _ _ _ _ _=>rfl) ?_
    ·intro cl K tm df m r h;obtain⟨v,m',e,h⟩:=km h;unfold bS at e
     split at e
     ·rename_i hb;cases e;obtain⟨st,e2,h⟩:=hr _ _ _ _ _ _ h;refine⟨st,?_,h⟩;have hb:=(aj _ _).mp hb;have hl:=Hl hx hb.2
      show rS P ops o x slot rest cl tm m df=some st
      by_cases hw:cT ops o tm=true
      ·unfold rS;simp only[hw,hb.1,if_true,Bool.true_and];exact(bL hl).trans e2
      ·have HA:rS P ops o x slot rest cl tm m df=rest cl tm m df:=by unfold rS;rw[bT hw]
       rw[HA];exact e2
     ·cases e
    ·intro cl tm m df hw;unfold rS;rw[bT (by rw[hw];decide)]
   ·cases hg
  ·cases hg
theorem vV {nt:Nat}{ops:Array hZ}:∀{l:List mU}{f:iI}{g:RC R},iB P nt ops l=some f->xG P ops l=some g->vF f g
 | [],f,g,hf,hg=>by
  cases hf;cases hg;intro cl K tm df m r h;exact⟨⟨tm,m,df⟩,rfl,h⟩
 |t::l,f,g,hf,hg=>by
  unfold iB at hf;unfold xG at hg
  split at hf
  ·split at hg
   ·exact Gh hf hg (vV fP fP)
   ·cases hg
  ·cases hf
end
end Go.AM
namespace Go.AM
open Go
section
variable {R:Type}{P:aE}{X:Ext}
def T4 (f:F)(g:CT R):Prop:=
 ∀(cl:cL) (K:KT R) (tm:Tm) (df:Df) (m:Mem) (r:R×Mem),den cl (g K tm df) m=some r->∃e st,f cl ⟨tm,m,df⟩=some (e,st)/\den cl (K e st.tm st.df) st.mem=some r
theorem y9 {a:F}{b:CT R}(h:T4 a b):∀n,T4 (fun cl st=>wK a cl n st) (Hj b n)
 |0=>by intro cl K tm df m r hd;unfold Hj den at hd;cases hd
 |n+1=>by
  intro cl K tm df m r hd;unfold Hj at hd;obtain⟨e,st,e1,hd⟩:=h _ _ _ _ _ _ hd;unfold wK;simp only[e1];cases e with
  |normal=>exact y9 h n _ _ _ _ _ _ hd
  |_=>exact⟨_,_,rfl,hd⟩
theorem iw {nt:Nat}:∀{n:Nat}{c:Code}{f:F}{g:CT R},comp P nt n c=some f->oc P nt n c=some g->T4 f g
 |0,c,f,g,hf,hg=>by cases hf
 |n+1,c,f,g,hf,hg=>by
  cases c with
  |skip=>cases hf;cases hg;exact fun cl K tm df m r h=>⟨_,_,rfl,h⟩
  |label l=>cases hf;cases hg;exact fun cl K tm df m r h=>⟨_,_,rfl,h⟩
  |seq a b=>
   unfold comp at hf;unfold oc at hg;simp only[]at hf hg
   split at hf
   ·rename_i fa ha
    split at hf
    ·rename_i fb hb
     split at hg
     ·rename_i ga hga
      split at hg
      ·rename_i gb OL;cases hf;cases hg;intro cl K tm df m r h;obtain⟨e,st,e1,h⟩:=iw ha hga _ _ _ _ _ _ h;cases e with
       |normal=>
        obtain⟨e,j7,e2,h⟩:=iw hb OL _ _ _ _ _ _ h;exact⟨e,j7,by unfold nQ;rw[e1];exact e2,h⟩
       |_=>exact⟨_,_,by unfold nQ;rw[e1],h⟩
      ·cases hg
     ·cases hg
    ·cases hf
   ·cases hf
  |cond x a b=>
   unfold comp at hf;unfold oc at hg;simp only[]at hf hg
   split at hf
   ·split at hf
    ·rename_i fa ha
     split at hf
     ·rename_i fb hb
      split at hg
      ·rename_i ga hga
       split at hg
       ·rename_i gb OL;have hf:=aO hf;have hg:=aO hg;cases hf;cases hg;intro cl K tm df m r h;obtain⟨c,hc,h⟩:=BP h;unfold Tw;simp only[hc];cases c with
        |true=>exact iw ha hga _ _ _ _ _ _ h
        |false=>exact iw hb OL _ _ _ _ _ _ h
       ·cases hg
      ·cases hg
     ·cases hf
    ·cases hf
   ·cases hf
  |block id b=>
   unfold comp at hf;unfold oc at hg;simp only[]at hf hg
   split at hf
   ·split at hg
    ·rename_i fb hb _ gb OL;cases hf;cases hg;intro cl K tm df m r h;obtain⟨e,st,e1,h⟩:=iw hb OL _ _ _ _ _ _ h;unfold FP;simp only[e1];cases e with
     |exit j=>
      simp only[]at h;cases hj:Nat.beq j id with
      |true=>simp only[hj]at h;exact⟨_,_,by simp only[hj,if_true],h⟩
      |false=>simp only[hj]at h;exact⟨_,_,by simp only[hj,bu,if_false],h⟩
     |_=>exact⟨_,_,rfl,h⟩
    ·cases hg
   ·cases hf
  |loop b=>
   unfold comp at hf;unfold oc at hg;simp only[]at hf hg
   split at hf
   ·split at hg
    ·rename_i fb hb _ gb OL;cases hf;cases hg;exact y9 (iw hb OL) 100000
    ·cases hg
   ·cases hf
  |exit id=>cases hf;cases hg;exact fun cl K tm df m r h=>⟨_,_,rfl,h⟩
  |ret=>cases hf;cases hg;exact fun cl K tm df m r h=>⟨_,_,rfl,h⟩
  |goto l=>cases hf;cases hg;exact fun cl K tm df m r h=>⟨_,_,rfl,h⟩
  |region id ops draw=>
   unfold comp at hf;unfold oc at hg;simp only[]at hf hg;have key:∀{l:List mU}{o:iI}{q:RC R},iB P nt ops l=some o->xG P ops l=some q->T4 (Nr o) (fun K=>q (K .normal)):=by
    intro l o q ho hq cl K tm df m r h;obtain⟨st,e,h⟩:=vV ho hq _ _ _ _ _ _ h;exact⟨_,_,by unfold Nr;simp only[e],h⟩
   cases draw with
   |true=>
    rw[bL rfl]at hf;simp only[]at hg
    split at hf
    ·rename_i l hl;simp only[hl]at hg
     split at hf
     ·split at hg
      ·cases hf;cases hg;exact key fP fP
      ·cases hg
     ·cases hf
    ·cases hf
   |false=>
    rw[bT dB]at hf;simp only[]at hg
    split at hf
    ·split at hg
     ·cases hf;cases hg;exact key fP fP
     ·cases hg
    ·cases hf
  |scope b=>
   unfold comp at hf;unfold oc at hg;simp only[]at hf hg
   split at hf
   ·split at hg
    ·rename_i fb hb _ gb OL;cases hf;cases hg;intro cl K tm df m r h;obtain⟨e,st,e1,h⟩:=iw hb OL _ _ _ _ _ _ h;refine⟨e,st,?_,?_⟩
     ·show sR _ _ cl (999+1) fb _=_
      unfold sR;rw[e1];cases e with
      |goto l=>unfold den at h;cases h
      |_=>rfl
     ·cases e with
      |goto l=>unfold den at h;cases h
      |_=>exact h
    ·cases hg
   ·cases hf
  |_=>cases hg
theorem uO {cl:cL}{r:R×Mem}{k:T R}:∀{df:Df}{m:Mem},den cl (tW P X df k) m=some r->∃m',oD P X cl df m=some m'/\den cl k m'=some r
 | [],m,h=>⟨m,rfl,h⟩
 |(f,args)::ds,m,h=>by
  unfold tW at h;unfold oD
  split at h
  ·rename_i hb;rw[bL hb];unfold den at h
   split at h
   ·rename_i v m' hc;obtain⟨m2,e,h⟩:=uO h;exact⟨m2,by rw[hc];exact e,h⟩
   ·cases h
  ·cases h
theorem u3 {cl:cL}{r:R×Mem}{nt:Nat}{tm:Tm}{m:Mem}:∀{rs:List ResultVar}{k:List af->T R},den cl (GH P nt tm rs k) m=some r->∃vs,ss P nt m tm rs=some vs/\den cl (k vs) m=some r
 | [],k,h=>⟨[],rfl,h⟩
 | .tmp t::l,k,h=>by
  unfold GH at h
  split at h
  ·rename_i hb;obtain⟨vs,e,h⟩:=u3 h;exact⟨_,by unfold ss;rw[bL hb,e],h⟩
  ·cases h
 | .cell a t::l,k,h=>by
  unfold GH at h
  split at h
  ·rename_i hb;obtain⟨v,m',e,h⟩:=km h;unfold fV at e
   split at e
   ·rename_i v' hv;cases e;obtain⟨vs,e,h⟩:=u3 h;exact⟨_,by unfold ss;rw[bL hb,hv,e],h⟩
   ·cases e
  ·cases h
theorem BB {f:Nat}{args:List af}{cl:cL}{m:Mem}{v:af}{m':Mem}{fn:Func}{c:Code}(Ga:P.funcs[f]?=some fn)(hc:fn.body=some c)(qI:Nat.ble fn.ntmps 512=true)(hs:(comp P fn.ntmps 1000 c).isSome=true)
  (h:den cl (OQ P X f args) m=some (v,m')):(iX P X f).body cl args m=some (v,m'):=by
 unfold OQ at h;simp only[Ga,hc]at h
 split at h
 ·rename_i g hg;obtain⟨b,hb⟩:=qF.1 hs;have e0:(iX P X f).body cl args m=xp P X fn.ntmps fn.results.toList b cl args m:=by
   unfold iX;simp only[Ga,hc,qI,if_true,hb]
  rw[e0];unfold Y5 at h;unfold xp
  split at h
  ·rename_i hle;rw[bL hle]
   split at h
   ·rename_i tm WG;rw[WG];simp only[];obtain⟨e,st,e1,h⟩:=iw hb hg _ _ _ _ _ _ h;rw[e1];have fin:∀{st:Ss},den cl (tW P X st.df (GH P fn.ntmps st.tm fn.results.toList fun vs=>match vs with | [v]=> .done v|vs=> .done (.tuple vs.toArray))) st.mem=some (v,m')->
      (match oD P X cl st.df st.mem with |none=>none|some m'=>match j1 P fn.ntmps fn.results.toList st.tm m' with |some v=>some (v,m')|none=>none)=some (v,m'):=by
     intro st h;obtain⟨m2,e2,h⟩:=uO h;obtain⟨vs,e3,h⟩:=u3 h;rw[e2];simp only[j1,e3]
     split at h
     ·cases h;rfl
     ·rename_i hns;cases h
      split
      ·rename_i h1;split at h1
       ·rename_i h0;cases h0;exact(hns _ rfl).elim
       ·rename_i h2;cases h1;cases h2;rfl
       ·rename_i h2;cases h2
      ·rename_i h1;split at h1
       ·cases h1
       ·cases h1
       ·rename_i h2;cases h2
    cases e with
    |normal=>exact fin h
    |ret=>exact fin h
    |_=>unfold den at h;cases h
   ·cases h
  ·cases h
 ·cases h
end
inductive p9 where
 |mem(f:Mem->Option (af×Mem))(v:af)
 |call(f:Nat)(args:List af)(v:af)
 |fT(fv:af)(args:List af)(v:af)
 |fw(r:Option (Nat×af))(args:List af)(v:af)
 |val(r:Option af)(v:af)
 |cond(v:af)(b:Bool)
 |idx(n:Int)(len:Nat)(i:Nat)
def xk {R:Type}(e:p9)(r:Option (List p9×R)):Option (List p9×R):=match r with |some (l,a)=>some (e::l,a)|none=>none
def follow {R:Type}:T R->List p9->Option (List p9×R)
 | .done a,[]=>some ([],a)
 | .mem f k,.mem _ v::L=>xk (.mem f v) (follow (k v) L)
 | .call f args k,.call _ _ v::L=>xk (.call f args v) (follow (k v) L)
 | .fT fv args k,.fT _ _ v::L=>xk (.fT fv args v) (follow (k v) L)
 | .fw r args k,.fw _ _ v::L=>xk (.fw r args v) (follow (k v) L)
 | .val r k,.val _ v::L=>xk (.val r v) (follow (k v) L)
 | .cond v k,.cond _ b::L=>xk (.cond v b) (follow (k b) L)
 | .idx n len k,.idx _ _ i::L=>xk (.idx n len i) (follow (k i) L)
 |_,_=>none
theorem mP {R:Type}{e:p9}{r:Option (List p9×R)}{L:List p9}{a:R}(h:xk e r=some (L,a)):∃l,L=e::l/\r=some (l,a):=by
 unfold xk at h
 split at h
 ·cases h;exact⟨_,rfl,rfl⟩
 ·cases h
inductive Iy (cl:cL):Mem->List p9->Mem->Prop
 |nil {m:Mem}:Iy cl m [] m
 |mem {m m1 m':Mem}{f:Mem->Option (af×Mem)} {v:af}{L:List p9} (h:f m=some (v,m1)) (k:Iy cl m1 L m'):Iy cl m (.mem f v::L) m'
 |call {m m1 m':Mem}{f:Nat}{args:List af}{v:af}{L:List p9} (h:cl f args m=some (v,m1)) (k:Iy cl m1 L m'):Iy cl m (.call f args v::L) m'
 |fT {m m1 m':Mem}{f:Nat}{first cap:Array af}{args:List af}{v:af}{L:List p9} (h:cl f (first.toList++args++cap.toList) m=some (v,m1)) (k:Iy cl m1 L m'):Iy cl m (.fT (.func (.func f) first cap) args v::L) m'
 |fw {m m1 m':Mem}{f:Nat}{recv:af}{args:List af}{v:af}{L:List p9} (h:cl f (recv::args) m=some (v,m1)) (k:Iy cl m1 L m'):Iy cl m (.fw (some (f,recv)) args v::L) m'
 |val {m m':Mem}{r:Option af}{v:af}{L:List p9} (h:r=some v) (k:Iy cl m L m'):Iy cl m (.val r v::L) m'
 |cond {m m':Mem}{v:af}{b:Bool}{L:List p9} (h:v= .bool b) (k:Iy cl m L m'):Iy cl m (.cond v b::L) m'
 |idx {m m':Mem}{n:Int}{len i:Nat}{L:List p9} (h:n=(i:Int)) (hl:i<len) (k:Iy cl m L m'):Iy cl m (.idx n len i::L) m'
theorem BE {R:Type}{cl:cL}:∀{t:T R}{XB L:List p9}{a:R}{m m':Mem},follow t XB=some (L,a)->Iy cl m L m'->den cl t m=some (a,m'):=by
 intro t XB
 induction XB generalizing t with
 |nil=>
  intro L a m m' h hc;cases t with
  |done a=>cases h;cases hc;rfl
  |_=>unfold follow at h;cases h
 |cons e XB ih=>
  intro L a m m' h hc;cases t with
  |done a=>unfold follow at h;cases h
  |fail=>unfold follow at h;cases h
  |mem f k=>
   cases e with
   |mem f' v=>obtain⟨l,rfl,h'⟩:=mP h;cases hc with |mem h1 h2=>unfold den;rw[h1];exact ih h' h2
   |_=>cases h
  |call f args k=>
   cases e with
   |call f' bX v=>obtain⟨l,rfl,h'⟩:=mP h;cases hc with |call h1 h2=>unfold den;rw[h1];exact ih h' h2
   |_=>cases h
  |fT fv args k=>
   cases e with
   |fT f' bX v=>obtain⟨l,rfl,h'⟩:=mP h;cases hc with |fT h1 h2=>unfold den;simp only[h1];exact ih h' h2
   |_=>cases h
  |fw r args k=>
   cases e with
   |fw f' bX v=>obtain⟨l,rfl,h'⟩:=mP h;cases hc with |fw h1 h2=>unfold den;simp only[h1];exact ih h' h2
   |_=>cases h
  |val r k=>
   cases e with
   |val r' v=>obtain⟨l,rfl,h'⟩:=mP h;cases hc with |val h1 h2=>unfold den;simp only[h1];exact ih h' h2
   |_=>cases h
  |cond v k=>
   cases e with
   |cond v' b=>obtain⟨l,rfl,h'⟩:=mP h;cases hc with |cond h1 h2=>unfold den;simp only[h1];exact ih h' h2
   |_=>cases h
  |idx n len k=>
   cases e with
   |idx n' anz i=>
    obtain⟨l,rfl,h'⟩:=mP h;cases hc with
    |idx h1 h2 h3=>
     unfold den;subst h1
     show(match Nat.blt i len with |true=>den cl (k i) m|false=>none)=_
     rw[jT,dZ h2];exact ih h' h3
   |_=>cases h
end Go.AM
namespace Go.AM
set_option maxRecDepth 1000000
open Go Go.Conc Go.Proofs
def gQ:Code->Bool
 | .seq a b=>gQ a&&gQ b
 | .cond _ a b=>gQ a&&gQ b
 | .block _ a=>gQ a
 | .loop a=>gQ a
 | .scope _=>false
 |_=>true
theorem jk {P:aE}{nt:Nat}:∀{n:Nat}{c:Code}{f:F},gQ c=true->comp P nt n c=some f->comp P nt (n+1) c=some f
 |0,_,_,_,h=>by cases h
 |n+1,c,f,hp,h=>by
  cases c with
  |seq a b=>
   unfold gQ at hp;rw[aj]at hp;unfold comp at h⊢;simp only[]at h⊢
   split at h
   ·rename_i fa ha
    split at h
    ·rename_i fb hb;rw[jk hp.1 ha,jk hp.2 hb];exact h
    ·cases h
   ·cases h
  |cond x a b=>
   unfold gQ at hp;rw[aj]at hp;unfold comp at h⊢;simp only[]at h⊢
   split at h
   ·rename_i hg;rw[bL hg]
    split at h
    ·rename_i fa ha
     split at h
     ·rename_i fb hb;rw[jk hp.1 ha,jk hp.2 hb];exact h
     ·cases h
    ·cases h
   ·cases h
  |block i a=>
   unfold gQ at hp;unfold comp at h⊢;simp only[]at h⊢
   split at h
   ·rename_i fa ha;rw[jk hp ha];exact h
   ·cases h
  |loop a=>
   unfold gQ at hp;unfold comp at h⊢;simp only[]at h⊢
   split at h
   ·rename_i fa ha;rw[jk hp ha];exact h
   ·cases h
  |scope b=>cases hp
  |_=>exact h
def ig (f:Nat):Bool:=Nat.beq f 137||Nat.beq f 140||Nat.beq f 14
structure iK where
 C:Nat->Nat->cL
 step:∀M n f args m,ig f=false->C M (n+1) f args m=(iX ae X0 f).body (C M n) args m
def Ev (K:iK)(f:Nat)(args:List af)(m:Mem)(v:af)(m':Mem):Prop:=∃N,∀M n,N<=M->N<=n->K.C M n f args m=some (v,m')
inductive Ch (K:iK):Mem->List p9->Mem->Prop
 |nil {m:Mem}:Ch K m [] m
 |mem {m m1 m':Mem}{f:Mem->Option (af×Mem)} {v:af}{L:List p9} (h:f m=some (v,m1)) (k:Ch K m1 L m'):Ch K m (.mem f v::L) m'
 |call {m m1 m':Mem}{f:Nat}{args:List af}{v:af}{L:List p9} (h:Ev K f args m v m1) (k:Ch K m1 L m'):Ch K m (.call f args v::L) m'
 |fT {m m1 m':Mem}{f:Nat}{first cap:Array af}{args:List af}{v:af}{L:List p9} (h:Ev K f (first.toList++args++cap.toList) m v m1) (k:Ch K m1 L m'):Ch K m (.fT (.func (.func f) first cap) args v::L) m'
 |fw {m m1 m':Mem}{r:Option (Nat×af)} {f:Nat}{recv:af}{args:List af}{v:af}{L:List p9} (hr:r=some (f,recv)) (h:Ev K f (recv::args) m v m1) (k:Ch K m1 L m'):Ch K m (.fw r args v::L) m'
 |val {m m':Mem}{r:Option af}{v:af}{L:List p9} (h:r=some v) (k:Ch K m L m'):Ch K m (.val r v::L) m'
 |cond {m m':Mem}{v:af}{b:Bool}{L:List p9} (h:v= .bool b) (k:Ch K m L m'):Ch K m (.cond v b::L) m'
 |idx {m m':Mem}{n:Int}{len i:Nat}{L:List p9} (h:n=(i:Int)) (hl:i<len) (k:Ch K m L m'):Ch K m (.idx n len i::L) m'
theorem Ch.chN{K:iK}{m m':Mem}{L:List p9}(h:Ch K m L m'):∃N,∀M n,N<=M->N<=n->Iy (K.C M n) m L m':=by
 induction h with
 |nil=>exact⟨0,fun _ _ _ _=> .nil⟩
 |mem h _ ih=>obtain⟨N,ih⟩:=ih;exact⟨N,fun M n a b=> .mem h (ih M n a b)⟩
 |call h _ ih=>
  obtain⟨N,ih⟩:=ih;obtain⟨N',h⟩:=h;exact⟨N+N',fun M n a b=> .call (h M n av av) (ih M n av av)⟩
 |fT h _ ih=>
  obtain⟨N,ih⟩:=ih;obtain⟨N',h⟩:=h;exact⟨N+N',fun M n a b=> .fT (h M n av av) (ih M n av av)⟩
 |fw hr h _ ih=>
  subst hr;obtain⟨N,ih⟩:=ih;obtain⟨N',h⟩:=h;exact⟨N+N',fun M n a b=> .fw (h M n av av) (ih M n av av)⟩
 |val h _ ih=>obtain⟨N,ih⟩:=ih;exact⟨N,fun M n a b=> .val h (ih M n a b)⟩
 |cond h _ ih=>obtain⟨N,ih⟩:=ih;exact⟨N,fun M n a b=> .cond h (ih M n a b)⟩
 |idx h hl _ ih=>obtain⟨N,ih⟩:=ih;exact⟨N,fun M n a b=> .idx h hl (ih M n a b)⟩
noncomputable def mQ(f:Nat):Bool:=match ae.funcs[f]? with
 |some fn=>match fn.body with
  |some c=>Nat.ble fn.ntmps 512&&(comp ae fn.ntmps 1000 c).isSome
  |none=>false
 |none=>false
def Path (f:Nat)(args:List af)(L:List p9)(v:af):Prop:=mQ f=true/\follow (OQ ae X0 f args) L=some (L,v)
theorem ak {K:iK}{f:Nat}{args:List af}{L:List p9}{v:af}{m m':Mem}(p:Path f args L v)(h:Ch K m L m')(hs:ig f=false:=by rfl):Ev K f args m v m':=by
 obtain⟨p1,p2⟩:=p;obtain⟨N,h⟩:=h.chN;refine⟨N+1,fun M n a b=>?_⟩;obtain⟨n,rfl⟩:∃k,n=k+1:=⟨n-1,av⟩;rw[K.step M n f args m hs];unfold mQ at p1
 split at p1
 ·rename_i fn Ga
  split at p1
  ·rename_i c hc;rw[aj]at p1;exact BB Ga hc p1.1 p1.2 (BE p2 (h M n av av))
  ·cases p1
 ·cases p1
def uR (K:iK)(nt:Nat)(c:Code)(st:Ss)(e:Exit)(j7:Ss):Prop:=∃N,∀M n,N<=M->N<=n->∃f,comp ae nt 1000 c=some f/\f (K.C M n) st=some (e,j7)
def cH (is:List Nat)(tm:Tm):List af:=is.map fun i=>de i tm
theorem uR.block{K:iK}{nt id:Nat}{a:Code}{st lL:Ss}{e e':Exit}(h1:uR K nt a st e lL)(he:(match e with | .exit j=>if Nat.beq j id then Exit.normal else .exit j|e=>e)=e')(hp:gQ a=true)(hs:(comp ae nt 1000 (.block id a)).isSome=true):uR K nt (.block id a) st e' lL:=by
 obtain⟨N,h1⟩:=h1;refine⟨N,fun M n x y=>?_⟩;obtain⟨fa,ha,ea⟩:=h1 M n av av;obtain⟨f,hf⟩:=qF.1 hs;refine⟨f,hf,?_⟩;unfold comp at hf;simp only[]at hf
 split at hf
 ·rename_i fa' ni;cases hf;have :=(jk hp ni).symm.trans ha;cases this;subst he;unfold FP;rw[ea];cases e with
  |exit j=>simp only[];split<;>rfl
  |_=>rfl
 ·cases hf
def Le (K:iK)(nt:Nat)(a:Code)(k:Nat)(st:Ss)(e:Exit)(j7:Ss):Prop:=∃N,∀M n,N<=M->N<=n->∃f,comp ae nt 1000 a=some f/\wK f (K.C M n) k st=some (e,j7)
theorem Le.next{K:iK}{nt k:Nat}{a:Code}{st lL Ln:Ss}{e:Exit}(h1:uR K nt a st .normal lL)(h2:Le K nt a k lL e Ln):Le K nt a (k+1) st e Ln:=by
 obtain⟨N,h1⟩:=h1;obtain⟨N',h2⟩:=h2;refine⟨N+N',fun M n x y=>?_⟩;obtain⟨fa,ha,ea⟩:=h1 M n av av;obtain⟨fb,hb,eb⟩:=h2 M n av av;have :=ha.symm.trans hb;cases this;exact⟨fa,ha,by unfold wK;rw[ea];exact eb⟩
theorem Le.out{K:iK}{nt k:Nat}{a:Code}{st lL:Ss}{e:Exit}(h1:uR K nt a st e lL)(he:e≠ .normal):Le K nt a (k+1) st e lL:=by
 obtain⟨N,h1⟩:=h1;refine⟨N,fun M n x y=>?_⟩;obtain⟨fa,ha,ea⟩:=h1 M n av av;refine⟨fa,ha,?_⟩;unfold wK;rw[ea];cases e<;>first |rfl|exact absurd rfl he
theorem uR.loop{K:iK}{nt:Nat}{a:Code}{st lL:Ss}{e:Exit}(h1:Le K nt a 100000 st e lL)(hp:gQ a=true)(hs:(comp ae nt 1000 (.loop a)).isSome=true):uR K nt (.loop a) st e lL:=by
 obtain⟨N,h1⟩:=h1;refine⟨N,fun M n x y=>?_⟩;obtain⟨fa,ha,ea⟩:=h1 M n av av;obtain⟨f,hf⟩:=qF.1 hs;refine⟨f,hf,?_⟩;unfold comp at hf;simp only[]at hf
 split at hf
 ·rename_i fa' ni;cases hf;have :=(jk hp ni).symm.trans ha;cases this;exact ea
 ·cases hf
noncomputable def bN(f:Nat):Nat:=match ae.funcs[f]? with |some fn=>fn.ntmps|none=>0
theorem Ah {K:iK}{f:Nat}{args:List af}{m m':Mem}{tm eG:Tm}{e:Exit}{v:af}(hc:mQ f=true)(ht:(if Nat.ble args.length (bN f)then Cs args else none)=some tm)(h:uR K (bN f) (ax f) ⟨tm,m,[]⟩ e ⟨eG,m',[]⟩)(he:e= .normal\/e= .ret)
  (hr:j1 ae (bN f) (XT f) eG m'=some v)(hs:ig f=false:=by rfl):Ev K f args m v m':=by
 obtain⟨N,h⟩:=h;refine⟨N+1,fun M n a b=>?_⟩;obtain⟨n,rfl⟩:∃k,n=k+1:=⟨n-1,av⟩;rw[K.step M n f args m hs];obtain⟨g,hg,eg⟩:=h M n av av;unfold mQ at hc
 split at hc
 ·rename_i fn Ga
  split at hc
  ·rename_i c uw;rw[aj]at hc;have e1:bN f=fn.ntmps:=by unfold bN;rw[Ga]
   have e2:ax f=c:=by unfold ax;rw[Ga];simp only[cz,uw]
   have e3:XT f=fn.results.toList:=by unfold XT;rw[Ga]
   rw[e1,e2]at hg;rw[e1]at ht;rw[e1,e3]at hr;unfold iX;simp only[Ga,uw,hc.1,if_true,hg];unfold xp;rw[ht];simp only[eg];rcases he with rfl|rfl<;>simp only[MI,oD,hr]
  ·cases hc
 ·cases hc
theorem N8.EK{α:Type}(n:N8 α)(i:Nat):n.put i (n.get i)=n:=by
 obtain⟨a,b,c,d,e,f,g,h⟩:=n
 match i with
 |0|1|2|3|4|5|6|_+7=>rfl
theorem Nh {i:Nat}{v:af}{tm:Tm}(h:de i tm=v):sK i v tm=tm:=by
 subst h;unfold sK de;rw[N8.EK,N8.EK,N8.EK]
end Go.AM
namespace Go.AM
set_option maxRecDepth 1000000
open Go Go.Conc Go.Proofs
abbrev vI (n:Int):af:= .int .i64 n
abbrev vP (b o:Nat):af:= .pointer (some ⟨b,o,none⟩)
abbrev vL (b o l c:Nat):af:= .slice (some ⟨b,o,none⟩) l c
abbrev bB (i j:Int):Int:=lH ml Int.add .i64 i j
abbrev cO (i j:Int):Int:=lH oe Int.sub .i64 i j
abbrev jr (i j:Int):Int:=lH E0 Int.mul .i64 i j
abbrev sN (P:aE)(t:aW)(s:ByteArray)(lo hi:Option af):Option af:=pu P (.string s::(lo.toList++hi.toList)) (Instr.sliceAt t (.string s) lo hi none)
abbrev dw (P:aE)(t:aW)(a:af)(m:Mem):Bool:=(kx P t a m).isSome
end Go.AM
namespace Go.AM
set_option maxRecDepth 1000000
open Go Go.Conc Go.Proofs
structure Kp (m m':Mem)(S:Nat->Prop):Prop where
 next:m.next<=m'.next
 bO:m'.bO=m.bO
 opn:m'.opn=m.opn
 base:m'.base=m.base
 home:m'.home=m.home
 floor:m'.floor=m.floor
 wg:m'.wg=m.wg
 pend:m'.pend=m.pend
 deaf:m'.deaf=m.deaf
 blk:∀b,b<m.next->¬S b->m'.blk b=m.blk b
def eU:Nat->Prop:=fun _=>False
section
variable {m m1 m':Mem}{S S':Nat->Prop}
theorem Kp.refl(m:Mem)(S:Nat->Prop):Kp m m S:=⟨ai _,rfl,rfl,rfl,rfl,rfl,rfl,rfl,rfl,fun _ _ _=>rfl⟩
theorem Kp.mono(h:Kp m m' S)(k:∀b,b<m.next->S b->S' b):Kp m m' S':={h with blk:=fun b hb hs=>h.blk b hb fun x=>hs (k b hb x)}
theorem Kp.trans(h:Kp m m1 S)(k:Kp m1 m' S')(hk:∀b,b<m.next->S' b->S b):Kp m m' S:=
 ⟨cM h.next k.next,k.bO.trans h.bO,k.opn.trans h.opn,k.base.trans h.base,k.home.trans h.home,k.floor.trans h.floor,k.wg.trans h.wg,k.pend.trans h.pend,k.deaf.trans h.deaf,
  fun b hb hs=>(k.blk b (bq hb h.next) fun x=>hs (hk b hb x)).trans (h.blk b hb hs)⟩
theorem Kp.aN(h:Kp m m1 S)(k:Kp m1 m' eU):Kp m m' S:=h.trans k fun _ _ h=>h.elim
theorem Kp.mo(h:Kp m m' eU):Kp m m' S:=h.mono fun _ _ h=>h.elim
theorem Kp.new{N:Nat}(h:Kp m m1 S)(k:Kp m1 m' S')(hn:m.next<=N)(hk:∀b,S' b->N<=b):Kp m m' S:=h.trans k fun b hb hs=>absurd (hk b hs) av
structure Gd (m:Mem):Prop where
 pend:m.pend=[]
 deaf:m.deaf=0
 bf:m.base<=m.floor
 fn:m.floor<=m.next
 hn:m.home<=m.next
 bO:∀s∈m.bO,s.2.1<=m.next
theorem Gd.ext(h:Gd m)(k:Kp m m' S):Gd m':=
 ⟨k.pend.trans h.pend,k.deaf.trans h.deaf,by rw[k.base,k.floor];exact h.bf,by rw[k.floor];exact cM h.fn k.next,by rw[k.home];exact cM h.hn k.next,fun s hs=>by rw[k.bO]at hs;exact cM (h.bO s hs) k.next⟩
theorem Gd.fresh(h:Gd m){b:Nat}(hb:m.next<=b):aS m.bO b=false:=im fun x hx _ h2=>by have :=h.bO x hx;omega
abbrev Own (m:Mem)(b:Nat):Prop:=m.gv b=true
theorem Own.ext{b:Nat}(h:Own m b)(k:Kp m m' S):Own m' b:=by unfold Own Mem.gv at h⊢;rw[k.bO,k.base,k.floor,k.opn];exact h
theorem Gd.own(h:Gd m)(k:Kp m m' S){b:Nat}(hb:m.next<=b):Own m' b:=by
 have h1:=h.fresh hb;unfold Own Mem.gv;rw[k.bO,k.base,k.floor,h1];have :=h.bf;have :=h.fn;simp only[Bool.not_false,Bool.true_and,aj,Bool.or_eq_true,jE];exact⟨av,.inl av⟩
theorem Own.may{b:Nat}(h:Own m b)(o n:Nat):m.cY b o n=true:=by
 unfold Own Mem.gv at h;unfold Mem.cY;simp only[aj,Bool.or_eq_true,jE,Bool.not_eq_true']at h⊢;exact⟨⟨gK h.1.1 o n,h.1.2⟩,h.2.elim (fun x=> .inl (.inl x)) fun x=> .inl (.inr x)⟩
structure Obj (m:Mem)(b sz:Nat)(cs:List af):Prop where
 lt:b<m.next
 kind:(m.blk b).kind=1
 sz:(m.blk b).sz=sz
 cs:(m.blk b).cs=cs.map some
 F5:aS m.bO b=false
theorem Obj.ext{b sz:Nat}{cs:List af}(h:Obj m b sz cs)(k:Kp m m' S)(hs:¬S b):Obj m' b sz cs:=by
 have e:=k.blk b h.lt hs;exact⟨bq h.lt k.next,by rw[e];exact h.kind,by rw[e];exact h.sz,by rw[e];exact h.cs,by rw[k.bO];exact h.F5⟩
theorem Obj.aM{b sz:Nat}{cs:List af}(h:Obj m b sz cs)(k:Kp m m' eU):Obj m' b sz cs:=h.ext k id
theorem Obj.same{b sz sz':Nat}{cs kW:List af}(h:Obj m b sz cs)(k:Obj m b sz' kW):cs=kW:=by
 have :=h.cs.symm.trans k.cs;exact List.map_inj_right (fun _ _=>Option.some.inj)|>.1 this
theorem mW:∀{cs:List af}{n:Nat},n<=cs.length->gO (cs.map some) n=some (cs.take n)
 |_,0,_=>by simp[gO]
 | [],n+1,h=>by simp at h
 |v::cs,n+1,h=>by simp only[List.map_cons,gO,mW (cs:=cs) (n:=n) (by simpa using h),cR,List.take_succ_cons]
theorem kg {b sz o n:Nat}{cs vs:List af}(h:Obj m b sz cs)(hv:(cs.drop o).take n=vs)(hn:o+n<=cs.length):m.dQ b o n=some vs:=by
 unfold Mem.dQ;simp only[h.kind,gK h.F5 o n,h.cs,beq_self_eq_true,Bool.not_false,Bool.and_self,if_true];rw[<-List.map_drop,mW (by simp;omega),hv]
theorem bY {b sz o n:Nat}{cs vs:List af}(h:Obj m b sz cs)(hv:(cs.drop o).take n=vs)(hn:o+n<=cs.length):eJ n b o m=some (.agg vs.toArray,m):=by
 unfold eJ;rw[kg h hv hn]
theorem aJ {b sz o:Nat}{cs:List af}{v:af}(h:Obj m b sz cs)(hv:cs[o]?=some v):aI b o m=some (v,m):=by
 unfold aI;have hk:=h.kind;have hc:=h.cs;cases hb:m.blk b with
 |mk kind z c es clock str pos bw=>
  rw[hb]at hk hc;simp only at hk hc;subst hk hc;simp only[Br,gK h.F5 o 1,Bool.not_false,xh];have :(cs.map some).drop o=some v::(cs.drop (o+1)).map some:=by
   rw[<-List.map_drop];have hd:cs.drop o=v::cs.drop (o+1):=by
    obtain⟨cN,he⟩:=List.getElem?_eq_some_iff.1 hv;rw[<-he];exact List.drop_eq_getElem_cons cN
   rw[hd];rfl
  rw[this]
def qO (cs:List af)(o:Nat):List af->List af
 | []=>cs
 |v::vs=>qO (cs.set o v) (o+1) vs
theorem j0:∀(vs:List af) (x:af) (cs:List af) (o:Nat),qO (x::cs) (o+1) vs=x::qO cs o vs
 | [],_,_,_=>rfl
 |v::vs,x,cs,o=>by unfold qO;simp only[List.set_cons_succ];exact j0 vs x (cs.set o v) (o+1)
theorem lV:∀{cs:List af}{o:Nat}{vs:List af},o+vs.length<=cs.length->eM (cs.map some) o vs=some ((qO cs o vs).map some)
 |cs,o,[],_=>by cases cs<;>cases o<;>rfl
 | [],o,v::vs,h=>by simp at h
 |c::cs,0,v::vs,h=>by
  simp only[List.map_cons,eM];rw[lV (cs:=cs) (o:=0) (vs:=vs) (by simp at h;omega)]
  show some (some v::(qO cs 0 vs).map some)=some ((qO (v::cs) 1 vs).map some)
  rw[j0];rfl
 |c::cs,o+1,v::vs,h=>by
  simp only[List.map_cons,eM];rw[lV (cs:=cs) (o:=o) (vs:=v::vs) (by simp at h⊢;omega),j0];rfl
theorem vo {b:Nat}{k:mn}:Kp m (m.bE b k) (fun x=>x=b):=⟨ai _,rfl,rfl,rfl,rfl,rfl,rfl,rfl,rfl,fun x _ hx=>by rw[Mem.eK,bT (fun e=>hx e.symm)]⟩
theorem dO {b sz o:Nat}{cs:List af}(vs:List af)(h:Obj m b sz cs)(hw:m.cY b o vs.length=true)(hn:o+vs.length<=cs.length)(hv:vs.all (·.oneCell')=true):
  ∃m',sO b o vs m=some (undef,m')/\Obj m' b sz (qO cs o vs)/\Kp m m' (fun x=>x=b):=by
 have e:m.dS b o vs=some (m.bE b {m.blk b with cs:=(qO cs o vs).map some}):=by
  unfold Mem.dS;simp only[h.kind,hw,hv,h.cs,beq_self_eq_true,Bool.and_self,if_true,lV hn,cR]
 refine⟨m.bE b {m.blk b with cs:=(qO cs o vs).map some},by unfold sO;rw[e],⟨h.lt,?_,?_,?_,h.F5⟩,vo⟩
 ·rw[Mem.eK,bL rfl];exact h.kind
 ·rw[Mem.eK,bL rfl];exact h.sz
 ·rw[Mem.eK,bL rfl]
theorem C9:∀{o:Nat}{cs:List af}{v:af},o<cs.length->∃l,uY o (cs.map some) v=some l:=by
 intro o
 induction o using Nat.strongRecOn with
 |ind o ih=>
  intro cs v h;rcases o with _|_|_|_|_|_|_|_|o<;>rcases cs with _|⟨c0,_|⟨c1,_|⟨c2,_|⟨c3,_|⟨c4,_|⟨c5,_|⟨c6,_|⟨c7,t⟩⟩⟩⟩⟩⟩⟩⟩<;>
   first
   |exact⟨_,rfl⟩
   |(exfalso;simp only[List.length_cons,List.length_nil]at h;omega)
   |(obtain⟨l,hl⟩:=ih o av (cs:=t) (v:=v) (by simp only[List.length_cons]at h;omega)
     exact⟨_,by simp only[List.map_cons,uY,hl];rfl⟩)
theorem LO {b o:Nat}(h:m.cY b o 1=true):Ou m b o=true:=by
 unfold Ou
 split
 ·exact Nat.ble_eq_true_of_le (Mem.kS h)
 ·exact h
theorem gu {b sz o:Nat}{cs:List af}(v:af)(h:Obj m b sz cs)(hw:m.cY b o 1=true)(hn:o<cs.length)(h1:gy v=true:=by rfl):
  ∃m',jo b o v m=some (undef,m')/\Obj m' b sz (cs.set o v)/\Kp m m' (fun x=>x=b):=by
 obtain⟨l,hl⟩:=C9 (v:=v) hn;have hp:=z3 _ _ _ _ hl;rw[lV (cs:=cs) (o:=o) (vs:=[v]) (by simp;omega)]at hp;obtain rfl:=Option.some.inj hp;have hk:=h.kind;have hc:=h.cs;have hz:=h.sz;unfold jo;cases hb:m.blk b with
 |mk kind z c es clock str pos bw=>
  rw[hb]at hk hc hz;simp only at hk hc hz;subst hk hc hz;simp only[h1,LO hw,hl];refine⟨_,rfl,⟨h.lt,?_,?_,?_,h.F5⟩,⟨ai _,rfl,rfl,rfl,rfl,rfl,rfl,rfl,rfl,fun x _ hx=>?_⟩⟩
  ·show((m.heap.put b _).get b).kind=1
   rw[kZ.get_put,bL rfl]
  ·show((m.heap.put b _).get b).sz=_
   rw[kZ.get_put,bL rfl]
  ·show((m.heap.put b _).get b).cs=_
   rw[kZ.get_put,bL rfl];rfl
  ·show(m.heap.put b _).get x=m.blk x
   rw[kZ.get_put,bT (fun e=>hx e.symm)];rfl
theorem dC (h:Gd m){k:mn}{cs:List af}{sz:Nat}(hk:k.kind=1)(hs:k.sz=sz)(hc:k.cs=cs.map some):Obj (m.alloc k) m.next sz cs/\Kp m (m.alloc k) eU/\(m.alloc k).next=m.next+1:=by
 refine⟨⟨Nat.lt_succ_self _,?_,?_,?_,h.fresh (ai _)⟩,⟨Nat.le_succ _,rfl,rfl,rfl,rfl,rfl,rfl,rfl,rfl,fun x hx _=>?_⟩,rfl⟩
 ·rw[Mem.cD,bL rfl];exact hk
 ·rw[Mem.cD,bL rfl];exact hs
 ·rw[Mem.cD,bL rfl];exact hc
 ·rw[Mem.cD,bT av]
theorem aQ (h:Gd m)(cs:List af):∃m',rU (cs.map some) m=some (vP m.next 0,m')/\Obj m' m.next 0 cs/\Kp m m' eU/\m'.next=m.next+1/\(m'.blk m.next).pos=1:=by
 obtain⟨h1,h2,h3⟩:=dC (m:=m) h (k:=⟨1,0,cs.map some,#[],0,.empty,1,0⟩) rfl rfl rfl;exact⟨m.alloc ⟨1,0,cs.map some,#[],0,.empty,1,0⟩,rfl,h1,h2,h3,by rw[Mem.cD,bL rfl]⟩
theorem bW (h:Gd m):di m=some (undef,m):=by unfold di;rw[h.pend]
theorem dh (b o:Nat):fe (vP b o) m=some (vI ((m.blk b).bw:Int),m):=rfl
theorem Nl (b o l c:Nat):fe (vL b o l c) m=some (vI ((m.blk b).bw:Int),m):=rfl
theorem BW {v:af}{b s:Nat}{lk:Mem->Bool}(hv:mS v=some b)(hs:(m.blk b).bw=s)(hl:lk m=true):bS (vI (s:Int)) v lk m=some (undef,m):=by
 unfold bS jG;rw[hv,hl];subst hs
 show(match Nat.beq (m.blk b).bw (m.blk b).bw&&true with |true=>_|false=>_)=_
 rw[show Nat.beq (m.blk b).bw (m.blk b).bw=true from Nat.beq_refl _];rfl
end
end Go.AM
namespace Go.AM
set_option maxRecDepth 1000000
open Go Go.Conc Go.Proofs
theorem bp.{u}{α:Sort u}{a b:α}(h:a=b:=by kernel_rfl):a=b:=h
def Tg:List Nat:=[1,2,3,4,5,9,10,21,22,25,28,29,47,54,55,66,67,72,74,84,89,93,97,98,99,100,101,104,120,131,147,150,155,156,157,158,159,162,173,174,223,258,259,301,302,322,346,347,371,376,395,396,439,440]
theorem Tf:(Tg.all fun t=>mT ae t==some false)=true:=bp
theorem ah8 {t:Nat}(h:Tg.contains t=true):mT ae t=some false:=by
 have :=aV.1 Tf t (by simpa using h);simpa using this
theorem vw {m:Mem}{b o sz s t:Nat}{cs:List af}{v:af}(h:Obj m b sz cs)(hv:cs[o]?=some v)(hs:(m.blk b).bw=s)(ht:Tg.contains t=true:=by rfl):bS (vI (s:Int)) (vP b o) (dw ae t (vP b o)) m=some (undef,m):=by
 refine BW rfl hs ?_;unfold dw kx;simp only[ah8 ht];obtain⟨cN,he⟩:=List.getElem?_eq_some_iff.1 hv;have :m.dQ b o 1=some [v]:=kg h (by rw[List.drop_eq_getElem_cons cN];simp[he]) av;rw[this];rfl
theorem aip {m:Mem}{b o sz s t n:Nat}{cs vs:List af}(h:Obj m b sz cs)(hv:(cs.drop o).take n=vs)(hn:o+n<=cs.length)(ht:mT ae t=some true)(hz:dq ae t=some n)(hs:(m.blk b).bw=s):bS (vI (s:Int)) (vP b o) (dw ae t (vP b o)) m=some (undef,m):=by
 refine BW rfl hs ?_;unfold dw kx;simp only[ht,hz,cz,kg h hv hn];rfl
theorem Xr {m:Mem}{v:af}{b s:Nat}(hv:mS v=some b)(hf:m.floor<=b)(hs:(m.blk b).bw=s):bS (vI (s:Int)) v (fG v) m=some (undef,m):=by
 refine BW hv hs ?_;unfold fG;rw[hv];exact Nat.ble_eq_true_of_le hf
section
variable {P:aE}
theorem gU {α β:Type}{x:Sem α}{f:α->Sem β}:(x>>=f).aP P=(x.aP P).bind fun a=>(f a).aP P:=by
 show(x.bind f).aP P=_
 induction x with
 |pure a=>rfl
 |program k ih=>exact ih P
 |_=>rfl
theorem mZ {α:Type}(a:α):(pure a:Sem α).aP P=some a:=rfl
theorem AT:(program:Sem aE).aP P=some P:=rfl
theorem AU (d:Nat)(t:aW)(k k':cQ)(a b:Int)(h:P.underlying t=some (.int k')):(Op.equalIn (d+1) t (.int k a) (.int k b)).aP P=some (a==b):=by
 simp only[Op.equalIn,gU,dD h,cz,if_true,mZ]
theorem zH (d:Nat)(t:aW)(a b:Bool)(h:P.underlying t=some .bool):(Op.equalIn (d+1) t (.bool a) (.bool b)).aP P=some (a==b):=by
 simp only[Op.equalIn,gU,dD h,cz,mZ]
theorem wu (d:Nat)(t:aW)(a b:ByteArray)(h:P.underlying t=some .string):(Op.equalIn (d+1) t (.string a) (.string b)).aP P=some (a==b):=by
 simp only[Op.equalIn,gU,dD h,cz,mZ]
theorem Qm {α:Type}{c:Prop}[Decidable c]{x y:Sem α}:(if c then x else y).aP P=if c then x.aP P else y.aP P:=by split<;>rfl
theorem wq (d:Nat)(t:aW)(xs ys:Array af)(ht:P.underlying t=some (.struct (P.fieldsOf t)))(hp:P.stoodInHeld t=false):
  (Op.equalIn (d+1) t (.agg xs) (.agg ys)).aP P=(Op.eqFields d xs ys (P.fieldsOf t).toList).aP P:=by
 simp only[Op.equalIn,gU,dD ht,cz,AT,hp,bu,if_false];rw[<-Array.forIn_toList];generalize(P.fieldsOf t).toList=fs;clear ht
 induction fs with
 |nil=>simp[Op.eqFields,mZ]
 |cons f fs ih=>
  simp only[List.forIn_cons,Op.eqFields,gU,Qm]
  split
  ·cases(part f.type xs f.offset).aP P with
   |none=>rfl
   |some a=>
    simp only[cz];cases(part f.type ys f.offset).aP P with
    |none=>rfl
    |some b=>
     simp only[cz];cases(Op.equalIn d f.type a b).aP P with
     |none=>rfl
     |some r=>
      cases r
      ·simp only[cz,Bool.not_false,if_true,mZ]
      ·simp only[cz,Bool.not_true,bu,if_false,mZ];exact ih
  ·simp only[mZ,cz];exact ih
theorem sV (op:BinOp)(t:aW)(x y:cq)(xs ys:Array af)(hm:P.eqGuardType P.depth t=false):(eqGuard op t x y (.agg xs) (.agg ys)).aP P=some ():=by
 cases op<;>simp[eqGuard,gU,AT,hm,mZ]
end
structure V where
 k:Int
 n:Int
 s:ByteArray
 b:Bool
def V.beq(x y:V):Bool:=x.k==y.k&&(x.n==y.n&&(x.s==y.s&&x.b==y.b))
def V.cells(v:V):List af:=[vI v.k,vI v.n,.string v.s,.bool v.b]
abbrev V.val(v:V):af:= .agg #[vI v.k,vI v.n,.string v.s,.bool v.b]
theorem adg:ae.underlying 49=some (.struct (ae.fieldsOf 49)):=bp
theorem UL:ae.stoodInHeld 49=false:=bp
theorem PQ:ae.underlying 3=some (.int .i64):=bp
theorem ajb:ae.underlying 4=some .bool:=bp
theorem UE:ae.underlying 9=some .string:=bp
theorem Ti (k1 n1:Int)(s1:ByteArray)(b1:Bool)(k2 n2:Int)(s2:ByteArray)(b2:Bool):
  (ae.fieldsOf 49).toList.map (fun f=>((f.name != "_":Bool),f.type,(part f.type #[vI k1,vI n1,.string s1,.bool b1] f.offset).aP ae,(part f.type #[vI k2,vI n2,.string s2,.bool b2] f.offset).aP ae))=
  [(true,3,some (vI k1),some (vI k2)),(true,3,some (vI n1),some (vI n2)),(true,9,some (.string s1),some (.string s2)),(true,4,some (.bool b1),some (.bool b2))]:=bp
theorem yV {d:Nat}{xs ys:Array af}:∀{fs:List Field}{l:List (Bool×Nat×Option af×Option af)},
  fs.map (fun f=>((f.name != "_":Bool),f.type,(part f.type xs f.offset).aP ae,(part f.type ys f.offset).aP ae))=l->
  (Op.eqFields d xs ys fs).aP ae=l.foldr (fun x r=>if x.1 then x.2.2.1.bind fun a=>x.2.2.2.bind fun b=>((Op.equalIn d x.2.1 a b).aP ae).bind fun c=>if c then r else some false else r) (some true)
 | [],l,h=>by subst h;rfl
 |f::fs,l,h=>by
  subst h;simp only[List.map_cons,List.foldr_cons];rw[<-yV (fs:=fs) rfl]
  conv=>lhs;unfold Op.eqFields
  by_cases hn:f.name= "_"
  ·simp only[hn,bne_self_eq_false,ne_eq,not_true_eq_false,if_false,bu]
  ·have :(f.name != "_")=true:=by simpa using hn
   simp only[hn,this,ne_eq,not_false_eq_true,if_true,gU,Qm,mZ];cases(part f.type xs f.offset).aP ae with
   |none=>rfl
   |some a=>
    cases(part f.type ys f.offset).aP ae with
    |none=>rfl
    |some b=>
     simp only[cz];cases(Op.equalIn d f.type a b).aP ae with
     |none=>rfl
     |some c=>cases c<;>rfl
theorem ah9 (x y:V):(Op.equalIn 10000 49 x.val y.val).aP ae=some (x.beq y):=by
 rw[show(10000:Nat)=9999+1 from rfl,wq 9999 49 _ _ adg UL,yV (Ti x.k x.n x.s x.b y.k y.n y.s y.b)];simp only[List.foldr_cons,List.foldr_nil,if_true,cz,show(9999:Nat)=9998+1 from rfl,AU 9998 3 _ _ _ _ PQ,wu 9998 9 _ _ UE,zH 9998 4 _ _ ajb];unfold V.beq;cases x.k==y.k<;>cases x.n==y.n<;>cases x.s==y.s<;>cases x.b==y.b<;>rfl
theorem MC:ae.eqGuardType ae.depth 49=false:=bp
theorem wo {P:aE}{l:List af}{s:Sem af}{v:af}(h1:l.all plain=true)(h2:s.aP P=some v)(h3:plain v=true):pu P l s=some v:=by
 unfold pu;simp only[h1,h2,h3]
theorem Tk (cx cy:Bool)(x y:V):iP ae .eql 49 cx cy x.val y.val=some (.bool (x.beq y)):=by
 refine wo rfl ?_ rfl;rw[gU,sV _ _ _ _ _ _ MC]
 show(Sem.aP ae (Op.equal 49 x.val y.val>>=fun b=>(pure (af.bool b):Sem af)))=_
 rw[gU]
 show Option.bind ((Op.equalIn 10000 49 x.val y.val).aP ae) _=_
 rw[ah9];rfl
theorem agW (cx cy:Bool)(x y:V):iP ae .neq 49 cx cy x.val y.val=some (.bool (!x.beq y)):=by
 refine wo rfl ?_ rfl;rw[gU,sV _ _ _ _ _ _ MC]
 show(Sem.aP ae (Op.equal 49 x.val y.val>>=fun b=>(pure (af.bool (!b)):Sem af)))=_
 rw[gU]
 show Option.bind ((Op.equalIn 10000 49 x.val y.val).aP ae) _=_
 rw[ah9];rfl
theorem aa0 (cx cy:Bool)(a b:ByteArray):iP ae .lss 9 cx cy (.string a) (.string b)=some (.bool (Op.bytesLess a.toList b.toList)):=by
 refine wo rfl ?_ rfl;rw[gU];rfl
theorem ah4 (cx cy:Bool)(a b:ByteArray):iP ae .gtr 9 cx cy (.string a) (.string b)=some (.bool (!(Op.bytesLess a.toList b.toList||a.toList==b.toList))):=by
 refine wo rfl ?_ rfl;rw[gU];rfl
theorem vD {q:Int->Int->Option Nat}{f:Int->Int->Int}{a:cQ}{i j:Int}(hq:∀n,q i j=some n->f i j=n):lH q f a i j=a.wrap (f i j):=by
 unfold lH
 split
 ·rename_i n hn
  split
  ·rename_i hb;rw[hq n hn,mr hb];rfl
  ·rfl
 ·rfl
theorem Ed (i j:Int):bB i j=cQ.i64.wrap (i+j):=vD fun n h=>by
 unfold ml at h
 split at h
 ·cases h;rfl
 ·cases h
theorem C5 (i j:Int):cO i j=cQ.i64.wrap (i-j):=vD fun n h=>by
 unfold oe at h
 split at h
 ·split at h
  ·rename_i a b hb;cases h;have :=ag hb
   show((a:Int)-(b:Int))=((a-b:Nat):Int)
   omega
  ·cases h
 ·cases h
theorem tP (i j:Int):jr i j=cQ.i64.wrap (i*j):=vD fun n h=>by cases h
theorem gH {i j:Int}(h:cC (i+j)):bB i j=i+j:=(Ed i j).trans (lh h)
theorem zY {i j:Int}(h:cC (i-j)):cO i j=i-j:=(C5 i j).trans (lh h)
theorem VF {i j:Int}(h:cC (i*j)):jr i j=i*j:=(tP i j).trans (lh h)
theorem RR (i j:Int):fW i j=decide (i<=j):=by unfold fW;rw[bZ,Bool.eq_iff_iff];simp
theorem gX (i j:Int):fD i j=decide (j<i):=bZ j i
theorem qz (i j:Int):iE i j=decide (j<=i):=by unfold iE;rw[bZ,Bool.eq_iff_iff];simp
theorem jg (i j:Int):hY i j=decide (i≠j):=by unfold hY;rw[cu,Bool.eq_iff_iff];simp
@[reducible]def ck (v:V):af:=.agg #[vI v.k,vI v.n,.string v.s,.bool v.b]
@[reducible]def pN (v:V):List (Option af):=[some (vI v.k),some (vI v.n),some (.string v.s),some (.bool v.b)]
@[reducible]def uS (v:V):List af:=[vI v.k,vI v.n,.string v.s,.bool v.b]
@[reducible]def nO:List (Option af):=[some (vI 0),some (vI 0),some (.string .empty),some (.bool false)]
end Go.AM
namespace Go.AM
set_option maxRecDepth 1000000
open Go Go.Conc Go.Proofs
def oE (m:Mem)(v:af)(sz n:Nat)(cs:List af):Prop:=
 cs.length=n*sz/\((v= .slice none 0 0/\n=0)\/∃b c,v=vL b 0 n c/\Obj m b sz cs/\(c=eP\/c=n))
def aiZ (S:Nat->Prop)(v:af):Prop:=∀b o n c,v=vL b o n c->¬S b
theorem oE.ext{m m':Mem}{S:Nat->Prop}{v:af}{sz n:Nat}{cs:List af}(h:oE m v sz n cs)(k:Kp m m' S)(hs:aiZ S v):oE m' v sz n cs:=by
 refine⟨h.1,h.2.imp id fun⟨b,c,e,o,x⟩=>⟨b,c,e,o.ext k (hs b 0 n c e),x⟩⟩
theorem oE.nil{m:Mem}{sz:Nat}:oE m (.slice none 0 0) sz 0 []:=⟨cK,.inl ⟨rfl,rfl⟩⟩
def yH:List (Nat×Nat):=[(104,4),(131,1),(150,1),(155,6),(156,2),(159,1),(162,4),(22,1),(223,6),(28,1),(29,1),(302,2),(395,1),(72,1),(89,2),(93,1),(97,6),(98,2),(99,3),(47,4),(120,1),(301,1)]
noncomputable def acE(p:Nat×Nat):Bool:=match ae.underlying p.1 with
 |some (.slice e)=>(dq ae e==some p.2)&&Nat.blt 0 p.2&&(match ae.info? e with |some i=>decide (0<i.bytes)&&decide (i.bytes<=1024)&&(jO ae e).isSome|none=>false)
 |_=>false
theorem MV:(yH.all acE)=true:=bp
theorem tE {t sz:Nat}(h:yH.contains (t,sz)=true):∃e,ae.underlying t=some (.slice e)/\dq ae e=some sz/\0<sz/\∀need,need<=2^30->yo ae e need=true:=by
 have :=aV.1 MV (t,sz) (by simpa using h);unfold acE at this
 split at this
 ·rename_i e he;rw[aj,aj]at this;obtain⟨⟨h1,h0⟩,h2⟩:=this;refine⟨e,he,by simpa using h1,by simpa[Nat.blt_eq]using h0,fun need hn=>?_⟩
  split at h2
  ·rename_i i hi;simp only[aj,jE]at h2;unfold yo;rw[hi];simp only[aj,jE];refine⟨⟨⟨h2.1.1,?_⟩,av⟩,h2.2⟩
   calc need*i.bytes<=2^30*1024:=Nat.mul_le_mul hn h2.1.2
    _<=2^46:=dB
  ·cases h2
 ·cases this
theorem qW {m:Mem}{v:af}{sz n:Nat}{cs:List af}(h:oE m v sz n cs):rL m sz n v=some cs:=by
 rcases h with⟨hl,⟨rfl,rfl⟩|⟨b,c,rfl,ho,_⟩⟩
 ·have :cs=[]:=by rw[Nat.zero_mul]at hl;exact List.length_eq_zero_iff.1 hl
  subst this;rfl
 ·show m.dQ b 0 (n*sz)=some cs
  exact kg ho (by simp[<-hl]) av
theorem oE.Wy{m:Mem}{v:af}{sz n:Nat}{cs:List af}(h:oE m v sz n cs):RQ v=some n:=by
 rcases h with⟨hl,⟨rfl,rfl⟩|⟨b,c,rfl,ho,_⟩⟩<;>rfl
theorem Ak {m:Mem}(g:Gd m){t sz n:Nat}{x:af}{new:List af}(ht:yH.contains (t,sz)=true)(hx:oE m x sz n new)(h1:∀y∈new,y.oneCell'=true)(hn:n≠0)(hb:n<=2^30):
  ∃m',cV ae #[t,t] (.slice none 0 0) x m=some (vL m.next 0 n eP,m')/\Obj m' m.next sz new/\Kp m m' eU/\m'.next=m.next+1:=by
 obtain⟨e,h3,h4,h0,h5⟩:=tE ht;have hf:=qW hx;have hl:=hx.Wy;have hlen:new.length=n*sz:=hx.1;have qt:(new.all (·.oneCell'))=true:=aV.2 h1;have e0:rL m sz 0 (.slice none 0 0)=some []:=rfl;obtain⟨k1,k2,k3⟩:=dC g (k:={kind:=1,sz:=sz,cs:=new.map some}) (cs:=new) rfl rfl rfl;refine⟨_,?_,k1,k2,k3⟩;unfold cV;simp only[show(#[t,t]:Array aW)[0]?=some t from rfl,show(#[t,t]:Array aW)[1]?=some t from rfl,cz,h3,h4,hl,hf];rw[bT (by rw[h5 _ av,hlen,qt];simp),bT dB,bT av];simp only[e0,List.length_nil,Nat.zero_mul,if_true,List.nil_append,Nat.zero_add]
theorem Al {m:Mem}(g:Gd m){t sz n b len:Nat}{x:af}{old new rest:List af}(ht:yH.contains (t,sz)=true)(ho:Obj m b sz (old++rest))(hol:old.length=len*sz)(hw:Own m b)(hx:oE m x sz n new)
  (h1:∀y∈new,y.oneCell'=true)(hb:len+n<=2^30):
  ∃m',cV ae #[t,t] (vL b 0 len eP) x m=some (vL m.next 0 (len+n) eP,m')/\Obj m' m.next sz (old++new)/\Kp m m' (fun y=>y=b)/\m'.next=m.next+1:=by
 obtain⟨e,h3,h4,h0,h5⟩:=tE ht;have hf:=qW hx;have hl:=hx.Wy;have hlen:new.length=n*sz:=hx.1;have qt:(new.all (·.oneCell'))=true:=aV.2 h1;have htk:gO (((old++rest).map some).drop 0) (len*sz)=some old:=by
  rw[List.drop_zero,mW (by simp;omega),<-hol];simp
 have g2:Gd (m.bE b {}):=g.ext vo;obtain⟨k1,k2,k3⟩:=dC g2 (k:={kind:=1,sz:=sz,cs:=(old++new).map some}) (cs:=old++new) rfl rfl rfl;refine⟨_,?_,k1,Kp.aN vo k2,k3⟩;unfold cV;simp only[show(#[t,t]:Array aW)[0]?=some t from rfl,show(#[t,t]:Array aW)[1]?=some t from rfl,cz,h3,h4,hl,hf];rw[bT (by rw[h5 _ av,hlen,qt];simp),bL trivial];have r9:(((m.blk b).cs.drop 0).all (·.isSome))=true:=by rw[ho.cs];simp
 simp only[ho.kind,ho.sz,ho.cs]at r9⊢;rw[bL (by rw[r9,show m.gv b=true from hw];simp)];simp only[htk]
theorem XA {m:Mem}{t sz:Nat}{x:af}(ht:yH.contains (t,sz)=true)(hx:oE m x sz 0 []):cV ae #[t,t] (.slice none 0 0) x m=some (.slice none 0 0,m):=by
 obtain⟨e,h3,h4,h0,h5⟩:=tE ht;have hf:=qW hx;have hl:=hx.Wy;unfold cV;simp only[show(#[t,t]:Array aW)[0]?=some t from rfl,show(#[t,t]:Array aW)[1]?=some t from rfl,cz,h3,h4,hl,hf];rw[bT (by rw[h5 _ av];simp),bT dB,bL (ai _)]
theorem Obj.sl{m:Mem}{b sz n:Nat}{cs:List af}(h:Obj m b sz cs)(hl:cs.length=n*sz){c:Nat}(hc:c=eP\/c=n):oE m (vL b 0 n c) sz n cs:=⟨hl,.inr ⟨b,c,rfl,h,hc⟩⟩
theorem eH {m:Mem}(g:Gd m)(z vs:List af)(hl:z.length=vs.length)(h1:vs.all (·.oneCell')=true):
  ∃m1 m2,rU (z.map some) m=some (vP m.next 0,m1)/\sO m.next 0 vs m1=some (undef,m2)/\Obj m2 m.next 0 vs/\Kp m m2 eU/\m2.next=m.next+1:=by
 obtain⟨m1,e1,o1,k1,n1,_⟩:=aQ g z;have hw:=g.own k1 (ai _);obtain⟨m2,e2,o2,k2⟩:=dO (o:=0) vs o1 (hw.may _ _) av h1;have :qO z 0 vs=vs:=by
  have key:∀(vs z:List af),z.length=vs.length->qO z 0 vs=vs:=by
   intro vs
   induction vs with
   |nil=>intro z hz;exact List.length_eq_zero_iff.1 hz
   |cons v vs ih=>
    intro z hz;cases z with
    |nil=>simp at hz
    |cons a z=>
     show qO ((a::z).set 0 v) 1 vs=_
     rw[List.set_cons_zero,j0,ih z (by simpa using hz)]
  exact key vs z hl
 rw[this]at o2;refine⟨m1,m2,e1,e2,o2,k1.new k2 (ai _) fun b hb=>by rw[hb];exact ai _,?_⟩;have :=k2.next;have e:m2.next=m1.next:=by
  unfold sO at e2
  split at e2
  ·rename_i m' hm;cases e2;unfold Mem.dS at hm;simp only[]at hm
   split at hm
   ·obtain⟨cs,_,rfl⟩:=ar.1 hm;rfl
   ·cases hm
  ·cases e2
 omega
end Go.AM
