/-
  What the claim stands on, part 11.
-/
import Derived.Test.YtgfppohfgconeaaGreatDoorH10
set_option linter.unusedVariables false
set_option linter.unusedSimpArgs false
open Go.Proofs.Tryz renaming prog → ab
open Go renaming Value → ae, World → ao, TypeId → aO
open Nat renaming le_of_ble_eq_true → af, le_refl → aj, lt_of_lt_of_le → aW, le_trans → bV
open Option renaming map_eq_some_iff → az
open List renaming all_eq_true → aB
namespace Go.AM
set_option maxRecDepth 1000000
open Go Go.Conc Go.Proofs
theorem ajx (db cn cc b4 b6:Nat)(ca:Option Addr)(nm:ByteArray)(e:Int):Path 26 [vP db 0,.iface 91 (.agg #[jX nm,.slice ca cn cc])]
 [mB [some fq,some fq,some fq,some (vI 0)] b4,
  zF,
  mB [some zvE,some fq] b6,
  uE b6 0 [jX nm,.slice ca cn cc],
  uF 2 b6 (.agg #[jX nm,.slice ca cn cc]),
  .call 38 [vP db 0,.agg #[jX nm,.slice ca cn cc]] (vI e),
  uE b4 0 [fq,fq,fq,vI 0],
  Yx 31 b4 (.agg #[fq,fq,fq,vI 0])]
 (.tuple #[.agg #[fq,fq,fq,vI 0],vI e]):=lV
theorem ajw (db cn cc b4 b6:Nat)(ca:Option Addr)(nm:ByteArray)(y1 y2 y3 y4:ae)(e:Int):Path 26 [vP db 0,.iface 95 (.agg #[jX nm,.slice ca cn cc])]
 [mB [some fq,some fq,some fq,some (vI 0)] b4,
  dx,
  zF,
  mB [some zvE,some fq] b6,
  uE b6 0 [jX nm,.slice ca cn cc],
  uF 2 b6 (.agg #[jX nm,.slice ca cn cc]),
  .call 39 [vP db 0,.agg #[jX nm,.slice ca cn cc]] (.tuple #[.agg #[y1,y2,y3,y4],vI e]),
  uE b4 0 [y1,y2,y3,y4],
  Yx 31 b4 (.agg #[y1,y2,y3,y4])]
 (.tuple #[.agg #[y1,y2,y3,y4],vI e]):=lV
def Rh (K:fZ)(T:ByteArray)(L:List (Nat×dZ))(sv:ae):Prop:=∀m,Calm m->Gl m->∃m2,Ev K 22 [.string T] m (.tuple #[bO (sh m.next) 20 sv,vI 0,vI 0]) m2/\Kp m m2 fu/\uD m.next L m2
structure QV (m:Mem)(mp pe:Nat):Prop where
 lt:mp<m.next
 kind:(m.blk mp).kind=2
 es:(m.blk mp).es.toList=[⟨sB [101],vP pe 0,0⟩]
 clock:(m.blk mp).clock=1
 Bu:aJ m.bh mp=false
 home:m.home<=mp
 base:m.base<=mp
 pe:pe<m.next
theorem QV.ext{m m':Mem}{mp pe:Nat}{S:Nat->Prop}(h:QV m mp pe)(k:Kp m m' S)(hs:¬S mp):QV m' mp pe:=by
 have e:=k.blk mp h.lt hs;exact⟨aW h.lt k.next,by rw[e];exact h.kind,by rw[e];exact h.es,by rw[e];exact h.clock,by rw[k.bh];exact h.Bu,by rw[k.home];exact h.home,by rw[k.base];exact h.base,aW h.pe k.next⟩
def Cr (K:fZ):Prop:=∀m lo db mp pe,Calm m->Gl m->QV m mp pe->Obj m db 0 [.int .i32 1,.int .u32 0,.map (some mp)]->m.base<=db->m.home<=db->HQ m lo mp db pe->uD lo PD.L m->∃m' pg,Ev K 38 [vP db 0,.agg #[.string bG,vL (sh lo 93) 0 2 cH]] m (vI 0) m'/\Kp m m' (fun y=>y=mp)/\GX m' mp pe pg (sh lo 93) (.slice none 0 0)/\m.next<=pg
section
variable {K:fZ}{m:Mem}{W:Nat->Prop}{db mp pe pg cg:Nat}{rows:List (List V)}
theorem acY {T:ByteArray}{L:List (Nat×dZ)}{s:ae}{Q:Mem->Mem->ae->ae->ae->ae->Int->Prop}{S:Nat->Prop}(cm:Calm m)(hG:Gl m)(rN:sK m db mp)(hh:m.home<=db)(hT:Rh K T L s)(hS:∀b,S b->b<m.next/\b≠db)
  (Ms:∀m3 lo,Calm m3->Gl m3->Kp m m3 (fun y=>y=db)->Obj m3 db 0 [.int .i32 1,.int .u32 0,.map (some mp)]->uD lo L m3->m.next<lo->lo<=m3.next->∃y1 y2 y3 y4 e m8,Ev K 26 [vP db 0,bO (sh lo) 20 s] m3 (.tuple #[.agg #[y1,y2,y3,y4],vI e]) m8/\Kp m3 m8 S/\([y1,y2,y3,y4].all (·.oneCell'))=true/\Q m3 m8 y1 y2 y3 y4 e):
  ∃m3 m8 m' y1 y2 y3 y4 e,Ev K 12 [vP db 0,.string T] m (.tuple #[.agg #[y1,y2,y3,y4],vI e,vI 0]) m'/\Kp m m3 (fun y=>y=db)/\Kp m3 m8 S/\m.next<m3.next/\Q m3 m8 y1 y2 y3 y4 e/\Kp m8 m' (fun y=>y=db\/y=m.next)/\sK m' db mp:=by
 have g:=cm.gd;obtain⟨rN,tj⟩:=rN;have VD:=rN.lt;obtain⟨b1,nN⟩:∃b,b=m.next:=⟨_,rfl⟩;obtain⟨m1,e1,o1,k1,n1,_⟩:=cA g [.slice none 0 0,.slice none 0 0,.slice none 0 0,vI 0];rw[<-nN]at e1 o1;have g1:=g.ext k1;obtain⟨m2,e2,k2,q2⟩:=hT m1 (cm.ext k1) (hG.cf k1);have pS:=k1.aZ k2;have OW:=cm.ext pS;have n2:=k2.next;obtain⟨m3,e3,o3,k3⟩:=c24 (K:=K) OW.gd.deaf (rN.cf pS) ((OW.own (by rw[pS.base];exact tj)).may _ _);have w8:=OW.ext k3;have n3:=k3.next;have hk:Kp m m3 (fun y=>y=db):=pS.vl.trans k3 fun _ _ h=>h
 obtain⟨y1,y2,y3,y4,e,m8,e26,k8,hy,hq⟩:=Ms m3 m1.next w8 (hG.ext hk fun b e=>e▸hh) hk o3 (q2.ext k3 fun y e=>by omega) ai ai;have n8:=k8.next;have k08:Kp m m8 (fun y=>y=db\/S y):=(hk.mono fun _ _ h=> .inl h).trans (k8.mono fun _ _ h=> .inr h) fun _ _ h=>h
 have cm8:=cm.ext k08;obtain⟨m9,LP,e9,VK,o10,Jk,n10⟩:=ly cm8.gd [.slice none 0 0,.slice none 0 0,.slice none 0 0,vI 0] [y1,y2,y3,y4] rfl hy;have vo:eU 4 m8.next 0 LP=some (.agg #[y1,y2,y3,y4],LP):=dX (vs:=[y1,y2,y3,y4]) o10 rfl (af rfl);have agK:=k08.aZ Jk;have amq:=Jk.next;have b1S:¬S b1:=fun h=>by have :=(hS _ h).1;omega
 have ob1:=(((o1.cf k2).ext k3 (show¬b1=db by omega)).ext k8 b1S).cf Jk;obtain⟨m11,e11,o11,k11⟩:=mF (o:=0) [y1,y2,y3,y4] ob1 ((g.own agK ai).may _ _) (af rfl) hy;have n11:=k11.next;have abN:Kp m m11 (fun y=>y=db\/S y):=agK.new k11 (N:=m.next) (aj _) fun b hb=>by omega
 have ahT:=cm.ext abN;have ajV:=((o3.ext k8 fun h=>(hS _ h).2 rfl).cf Jk).ext k11 (show¬db=b1 by omega);obtain⟨m12,X7,o12,tV⟩:=c25 (K:=K) ahT.gd.deaf ajV ((ahT.own (by rw[abN.base];exact tj)).may _ _);have eR:oh ab 31 (vP b1 0) m12=some (.agg #[y1,y2,y3,y4],m12):=lO (o11.ext tV (show¬b1=db by omega)) rfl qD.1 qD.2;refine⟨m3,m8,m12,y1,y2,y3,y4,e,aY (p12 db T _ y1 y2 y3 y4 e b1 m8.next) (.mem e1<| .call e2<| .cond rfl<| .call e3<| .call e26<| .mem e9<| .mem VK<| .mem vo<| .mem e11<| .call X7<| .mem eR .nil),hk,k8,ai,hq,?_,o12,by rw[tV.base,abN.base];exact tj⟩;exact(Jk.vl.trans (k11.mono fun _ _ h=> .inr (h.trans nN)) fun _ _ h=>h).trans (tV.mono fun _ _ h=> .inl h) fun _ _ h=>h
theorem al0 (Ra:Cr K)(cm:Calm m)(hG:Gl m)(rN:sK m db mp)(hh:m.home<=db)(hT:Rh K txG PD.L (.iface 91 (.agg #[.string bG,vL 93 0 2 cH])))(M:QV m mp pe)(Em:mp≠db):
  ∃m' pg cg,Ev K 12 [vP db 0,.string txG] m (.tuple #[aik,vI 0,vI 0]) m'/\Kp m m' (fun y=>y=db\/y=mp)/\sK m' db mp/\FM (fun b=>b=mp\/b=pg\/b=cg) m' mp pe pg cg []/\m.next<pg/\m.next<cg:=by
 have hmp:=M.lt;obtain⟨m3,m8,m',y1,y2,y3,y4,e,X7,k3,k8,cB,⟨h1,h2,h3,h4,h5,pg,cg,X,hpg,hcg⟩,k',SV⟩:=acY (K:=K) (S:=fun y=>y=mp)
  (Q:=fun m3 m8 y1 y2 y3 y4 e=>y1= .slice none 0 0/\y2= .slice none 0 0/\y3= .slice none 0 0/\y4=vI 0/\e=0/\∃pg cg,GX m8 mp pe pg cg (.slice none 0 0)/\m.next<pg/\m.next<cg) cm hG rN hh hT (fun b e=>⟨e▸hmp,fun h=>Em (e▸h)⟩) (by
  intro m3 lo w8 ZP k3 o3 hA cB hle;obtain⟨m4,e4,o4,k4,n4,_⟩:=cA w8.gd [.slice none 0 0,.slice none 0 0,.slice none 0 0,vI 0];have HZ:=w8.ext k4;obtain⟨m5,m6,e5,e6,o6,k6,n6⟩:=ly HZ.gd [.string .empty,.slice none 0 0] [.string bG,vL (sh lo 93) 0 2 cH] rfl rfl;have AP:=HZ.ext k6;have Cy:=k4.aZ k6;have Ab:=k3.aZ Cy;have n3:=k3.next;have ob:=rN.1.lt;have hpe:=M.pe;have hh0:=hG.hn;have VG:m.base<=m.next:=by have :=cm.gd.bf;have :=cm.gd.fn;omega
  obtain⟨m7,pg,e7,k7,X,hpg⟩:=Ra m6 lo db mp pe AP (ZP.cf Cy) (M.ext Ab Em) (o3.cf Cy) (by rw[Ab.base];exact rN.2) (by rw[Ab.home];exact hh) ⟨ai,by rw[Ab.base,Ab.home];omega⟩ (hA.ext Cy fun _ h=>h.elim);have n7:=k7.next;have n6':=Cy.next;have hm4:¬m3.next=mp:=ai;obtain⟨m8,e8,o8,k8⟩:=mF (o:=0) [.slice none 0 0,.slice none 0 0,.slice none 0 0,vI 0] ((o4.cf k6).ext k7 hm4) ((w8.gd.own (Cy.vl.trans k7 fun _ _ h=>h) (aj _)).may _ _) (af rfl) rfl;have eR:oh ab 31 (vP m3.next 0) m8=some (aik,m8):=lO o8 rfl qD.1 qD.2;have l6:eU 2 m4.next 0 m6=some (.agg #[.string bG,vL (sh lo 93) 0 2 cH],m6):=dX (vs:=[.string bG,vL (sh lo 93) 0 2 cH]) o6 rfl (af rfl);have hc:sh lo 93<m3.next:=(hA 93 2 qA rfl).2.lt;have hs:sh lo 93=lo+81:=EM eS;exact⟨_,_,_,_,0,m8,aY (ajx db 2 cH m3.next m4.next _ bG 0) (.mem e4<| .cond rfl<| .mem e5<| .mem e6<| .mem l6<| .call e7<| .mem e8<| .mem eR .nil),(Cy.vl.trans k7 fun _ _ h=>h).new k8 (N:=m3.next) (aj _) fun b hb=>by omega,rfl,rfl,rfl,rfl,rfl,rfl,pg,sh lo 93,X.ext k8 ⟨fun e=>hm4 e.symm,fun e=>by omega,fun e=>by omega⟩,ai,ai⟩)
 subst h1 h2 h3 h4 h5;have ob:=rN.1.lt;have X':=X.ext k' ⟨fun e=>e.elim Em fun e=>by omega,fun e=>e.elim (fun e=>by omega) fun e=>by omega,fun e=>e.elim (fun e=>by omega) fun e=>by omega⟩;refine⟨m',pg,cg,X7,?_,SV,⟨⟨_,X',fu,fu,.inl ⟨rfl,rfl⟩,aX.nil,fun b hb=>hb.elim (fun h=>h.elim) fun h=>h.elim⟩,⟨.inl rfl,.inr (.inl rfl),.inr (.inr rfl)⟩,fun b hb=>?_⟩,hpg,hcg⟩
 ·exact((k3.mono (S':=fun y=>y=db\/y=mp) fun _ _ h=> .inl h).trans (k8.mono fun _ _ h=> .inr h) fun _ _ h=>h).trans k' fun b hb h=>h.elim .inl fun h=>by omega
 ·rcases hb with rfl|rfl|rfl
  ·exact X'.map.lt
  ·exact X'.g.lt
  ·exact X'.c.lt
theorem alZ (hK:FL K){T:ByteArray}{a b:Nat}(OI:Ck K (iD a b))(cm:Calm m)(hG:Gl m)(rN:sK m db mp)(hh:m.home<=db)(hT:Rh K T (Gk a b).L (.iface 95 (iD a b).sv))(D:FM W m mp pe pg cg rows)(Em:¬W db)(XB:rows.length<1000):
  ∃m' W',Ev K 12 [vP db 0,.string T] m (.tuple #[.agg #[.slice none 0 0,.slice none 0 0,.slice none 0 0,vI 1],vI 0,vI 0]) m'/\Kp m m' (fun y=>y=db\/W y)/\sK m' db mp/\FM W' m' mp pe pg cg (rows++[eA (a,b)])/\∀b,W' b->W b\/m.next<b:=by
 obtain⟨m3,m8,m',y1,y2,y3,y4,e,X7,k3,k8,cB,⟨h1,h2,h3,h4,h5,W',hW,hW2⟩,k',SV⟩:=acY (K:=K) (S:=W)
  (Q:=fun m3 m8 y1 y2 y3 y4 e=>y1= .slice none 0 0/\y2= .slice none 0 0/\y3= .slice none 0 0/\y4=vI 1/\e=0/\∃W',FM W' m8 mp pe pg cg (rows++[eA (a,b)])/\∀b,W' b->W b\/m.next<b) cm hG rN hh hT (fun b hb=>⟨D.lt b hb,fun e=>Em (e▸hb)⟩) (by
  intro m3 lo w8 ZP k3 o3 hA cB hle;obtain⟨m4,e4,o4,k4,n4,_⟩:=cA w8.gd [.slice none 0 0,.slice none 0 0,.slice none 0 0,vI 0];have HZ:=w8.ext k4;obtain⟨m5,m6,e5,e6,o6,k6,n6⟩:=ly HZ.gd [.string .empty,.slice none 0 0] [.string bG,vL (sh lo 137) 0 1 1] rfl rfl;have AP:=HZ.ext k6;have Cy:=k4.aZ k6;have Ab:=k3.aZ Cy;have n3:=k3.next;have D6:=D.ext Ab fun b hb e=>Em (e▸hb)
  have hh0:=hG.hn;have VG:m.base<=m.next:=by have :=cm.gd.bf;have :=cm.gd.fn;omega
  have w1:=D.lt _ D.w.1;have w2:=D.lt _ D.w.2.1;have w3:=D.lt _ D.w.2.2;obtain⟨m7,W',e7,k7,hW,hW2⟩:=alC (K:=K) hK OI AP (ZP.cf Cy) (o3.cf Cy) D6 Em ⟨ai,by rw[Ab.base,Ab.home];omega⟩ (hA.ext Cy fun _ h=>h.elim) XB;have n7:=k7.next;have n36:=Cy.next;have hW4:¬W m3.next:=fun h=>by have :=D.lt _ h;omega
  obtain⟨m8,e8,o8,k8⟩:=mF (o:=0) [.slice none 0 0,.slice none 0 0,.slice none 0 0,vI 1] ((o4.cf k6).ext k7 hW4) ((w8.gd.own (Cy.vl.trans k7 fun _ _ h=>h) (aj _)).may _ _) (af rfl) rfl;have eR:oh ab 31 (vP m3.next 0) m8=some (.agg #[.slice none 0 0,.slice none 0 0,.slice none 0 0,vI 1],m8):=lO o8 rfl qD.1 qD.2;have l6:eU 2 m4.next 0 m6=some (.agg #[.string bG,vL (sh lo 137) 0 1 1],m6):=dX (vs:=[.string bG,vL (sh lo 137) 0 1 1]) o6 rfl (af rfl);refine⟨_,_,_,_,0,m8,aY (ajw db 1 1 m3.next m4.next (some ⟨sh lo 137,0,none⟩) bG _ _ _ _ 0) (.mem e4<| .cond rfl<| .cond rfl<| .mem e5<| .mem e6<| .mem l6<| .call e7<| .mem e8<| .mem eR .nil),(Cy.vl.trans k7 fun _ _ h=>h).new k8 (N:=m3.next) (aj _) fun b hb=>by omega,rfl,rfl,rfl,rfl,rfl,rfl,W',hW.ext k8 fun b hb e=>?_,fun b hb=>?_⟩
  ·rcases hW2 b hb with h|h
   ·have :=D.lt b h;omega
   ·have :=h.1;omega
  ·rcases hW2 b hb with h|h
   ·exact .inl h
   ·exact .inr (by have :=h.1;omega))
 subst h1 h2 h3 h4 h5;refine⟨m',W',X7,?_,SV,hW.ext k' fun b hb e=>?_,hW2⟩
 ·exact((k3.mono (S':=fun y=>y=db\/W y) fun _ _ h=> .inl h).trans (k8.mono fun _ _ h=> .inr h) fun _ _ h=>h).trans k' fun b hb h=>h.elim .inl fun h=>by omega
 ·rcases hW2 b hb with h|h
  ·exact e.elim (fun e=>Em (e▸h)) fun e=>by have :=D.lt b h;omega
  ·rcases e with e|e
   ·have :=rN.1.lt;omega
   ·omega
theorem alY (hK:FL K){T:ByteArray}{d:CD}{q:Nat->pR}(OI:Ck K d)(hd:QD d q)(cm:Calm m)(hG:Gl m)(rN:sK m db mp)(hh:m.home<=db)(hT:Rh K T d.A (.iface 108 d.sv))(D:FM W m mp pe pg cg rows)(Em:¬W db)(hq:QOk (EJ pg rows) (q pg))
  (xT:∀lo,∃rc xi xs xw xu,bO (sh lo) 20 d.sv= .agg #[.bool rc,.slice none 0 0,xi,xs,xw,xu]/\bO (sh lo) 20 (.iface 108 d.sv)= .iface 108 (.agg #[.bool rc,.slice none 0 0,xi,xs,xw,xu])/\([.bool rc,.slice none 0 0,xi,xs,xw,xu].all (·.oneCell'))=true):
  ∃v m',Ev K 12 [vP db 0,.string T] m (.tuple #[v,vI 0,vI 0]) m'/\Kp m m' (fun y=>y=db)/\sK m' db mp/\qe (jD m m') sA (py (oC (EJ pg rows) (sL (q pg)))) 0 m' v:=by
 obtain⟨m3,m8,m',y1,y2,y3,y4,e,X7,k3,k8,cB,⟨h5,hQ⟩,k',SV⟩:=acY (K:=K) (S:=fu)
  (Q:=fun m3 m8 y1 y2 y3 y4 e=>e=0/\qe (jD m3 m8) sA (py (oC (EJ pg rows) (sL (q pg)))) 0 m8 (.agg #[y1,y2,y3,y4])) cm hG rN hh hT (fun b e=>e.elim) (by
  intro m3 lo w8 ZP k3 o3 hA cB hle;obtain⟨rc,xi,xs,xw,xu,s1,s2,s3⟩:=xT lo;rw[s2];obtain⟨m4,e4,o4,k4,n4,_⟩:=cA w8.gd [.slice none 0 0,.slice none 0 0,.slice none 0 0,vI 0];have HZ:=w8.ext k4;obtain⟨m5,m6,e5,e6,o6,k6,n6⟩:=ly HZ.gd [.bool false,.slice none 0 0,.slice none 0 0,.slice none 0 0,.nilIface,.slice none 0 0] [.bool rc,.slice none 0 0,xi,xs,xw,xu] rfl s3;have AP:=HZ.ext k6;have Cy:=k4.aZ k6;have Ab:=k3.aZ Cy;have n3:=k3.next;have n36:=Cy.next;have D6:=D.ext Ab fun b hb e=>Em (e▸hb)
  have hh0:=hG.hn;have VG:m.base<=m.next:=by have :=cm.gd.bf;have :=cm.gd.fn;omega
  have w1:=D.lt _ D.w.1;have w2:=D.lt _ D.w.2.1;have w3:=D.lt _ D.w.2.2;obtain⟨v,m7,e7,k7,q7⟩:=alB (K:=K) hK OI hd AP (ZP.cf Cy) (o3.cf Cy) D6 ⟨ai,by rw[Ab.base,Ab.home];omega⟩ (hA.ext Cy fun _ h=>h.elim) ai s1 hq;obtain⟨nv,kv,rv,rfl,q1,q2,BO,BE,q3,q4⟩:=q7;have hy:([nv,kv,rv,vI 0].all (·.oneCell'))=true:=by
   obtain⟨_,_,e⟩:=q3.form;subst e;simp[(aX.lj q1).2,(aX.lj q2).2];exact⟨rfl,rfl⟩
  have n7:=k7.next;obtain⟨m8,e8,o8,k8⟩:=mF (o:=0) [nv,kv,rv,vI 0] ((o4.cf k6).cf k7) ((w8.gd.own (Cy.aZ k7) (aj _)).may _ _) (af rfl) hy;have n8:=k8.next;have eR:oh ab 31 (vP m3.next 0) m8=some (.agg #[nv,kv,rv,vI 0],m8):=lO o8 rfl qD.1 qD.2;have l6:eU 6 m4.next 0 m6=some (.agg #[.bool rc,.slice none 0 0,xi,xs,xw,xu],m6):=dX (vs:=[.bool rc,.slice none 0 0,xi,xs,xw,xu]) o6 rfl (af rfl);exact⟨nv,kv,rv,vI 0,0,m8,aY (ajv db rc 0 0 none xi xs xw xu nv kv rv (vI 0) 0 m3.next m4.next) (.mem e4<| .cond rfl<| .cond rfl<| .cond rfl<| .mem e5<| .mem e6<| .mem l6<| .call e7<| .mem e8<| .mem eR .nil),(Cy.aZ k7).new k8 (N:=m3.next) (aj _) fun b hb=>by omega,hy,rfl,
   qe.mono (qe.ext ⟨nv,kv,rv,rfl,q1,q2,BO,BE,q3,q4⟩ k8 fun b hb h=>by have :=hb.1;omega) fun b hb=>⟨by have :=hb.1;omega,by have :=hb.2;omega⟩⟩)
 subst h5;have n8:=k8.next;have n':=k'.next;exact⟨_,m',X7,(k3.aZ k8).trans k' fun b hb h=>h.elim id fun h=>by omega,SV,qe.mono (qe.ext hQ k' fun b hb h=>by have :=hb.1;have :=rN.1.lt;rcases h with h|h<;>omega) fun b hb=>⟨by have :=hb.1;omega,by have :=hb.2;omega⟩⟩
end
end Go.AM
namespace Go.AM
set_option maxRecDepth 1000000
open Go Go.Conc Go.Proofs
def Vk (K:fZ):Prop:=∀m,Calm m->Gl m->∃m' db mp pe,Ev K 14 [] m (vP db 0) m'/\Kp m m' fu/\sK m' db mp/\QV m' mp pe/\m.next<=db/\m.next<=mp/\mp≠db
def qb1 (p:Nat):pR:=⟨UY p,[]⟩
def qb2 (p:Nat):pR:=⟨UY p,[⟨true,ah7 p⟩]⟩
def qb3 (p:Nat):pR:=⟨ah7 p,[⟨true,UY p⟩]⟩
def qb4 (p:Nat):pR:=⟨UY p,[⟨false,UY p⟩]⟩
theorem qd1:QD Wx qb1:=⟨rfl,aU,fun _=>rfl⟩
theorem qd2:QD Sp qb2:=⟨rfl,aU,fun _=>rfl⟩
theorem qd3:QD Ww qb3:=⟨rfl,aU,fun _=>rfl⟩
theorem qd4:QD Sm qb4:=⟨rfl,aU,fun _=>rfl⟩
section
variable {pg:Nat}{ps:List (Nat×Nat)}
theorem ji {rows:List (List V)}:EJ pg rows pg=some rows:=bj rfl
theorem O2:oC (EJ pg (ps.map eA)) (sL (qb1 pg))=ps.map eA:=qK ji
theorem Z9:oC (EJ pg (ps.map eA)) (sL (qb2 pg))=ps.map eA++ps.map fun x=>eA (RL x):=by
 show xk _ (iL _ (vg pg)) (true,FU pg)=_
 unfold xk;rw[bj rfl,qK ji,yL ji]
theorem Z8:oC (EJ pg (ps.map eA)) (sL (qb3 pg))=(ps.map fun x=>eA (RL x))++ps.map eA:=by
 show xk _ (iL _ (FU pg)) (true,vg pg)=_
 unfold xk;rw[bj rfl,qK ji,yL ji]
theorem Z7:oC (EJ pg (ps.map eA)) (sL (qb4 pg))=rj (ps.map eA++ps.map eA):=by
 show xk _ (iL _ (vg pg)) (false,vg pg)=_
 unfold xk;rw[bW (show¬((false,vg pg).1=true)from Bool.false_ne_true),qK ji]
theorem I1 (hn:ps.length<=60):Aw (EJ pg (ps.map eA)) (vg pg):=ok2 (.inl rfl) (.inr rfl) ji ai
theorem YW (hn:ps.length<=60):Aw (EJ pg (ps.map eA)) (FU pg):=ok2 (.inr rfl) (.inl rfl) ji ai
theorem pC {x:List V}(h:x∈ps.map eA\/x∈ps.map fun x=>eA (RL x)):x.length<99999:=by
 rcases h with h|h<;>obtain⟨y,_,rfl⟩:=List.mem_map.1 h<;>exact af rfl
theorem PL (l:List (List V)):(rj l).length<=l.length:=Bi _
theorem af2 (hn:ps.length<=60):QOk (EJ pg (ps.map eA)) (qb1 pg):=
 ⟨I1 hn,trivial,af rfl,by rw[O2,List.length_map];omega,by rw[O2];exact fun x hx=>pC (.inl hx)⟩
theorem ajq (hn:ps.length<=60):QOk (EJ pg (ps.map eA)) (qb2 pg):=by
 have hb:=Z9 (pg:=pg) (ps:=ps);refine⟨I1 hn,⟨YW hn,?_,?_,?_,trivial⟩,af rfl,by rw[hb];simp;omega,by rw[hb];exact fun x hx=>pC (List.mem_append.1 hx)⟩
 ·show(iL _ (vg pg)).length+(iL _ (FU pg)).length<9000
  rw[qK ji,yL ji];simp;omega
 ·show∀x∈iL _ (vg pg)++iL _ (FU pg),_
  rw[qK ji,yL ji];exact fun x hx=>pC (List.mem_append.1 hx)
 ·exact bV (Nat.le_of_eq (congrArg List.length hb)) (by simp;omega)
theorem ajp (hn:ps.length<=60):QOk (EJ pg (ps.map eA)) (qb3 pg):=by
 have hb:=Z8 (pg:=pg) (ps:=ps);refine⟨YW hn,⟨I1 hn,?_,?_,?_,trivial⟩,af rfl,by rw[hb];simp;omega,by rw[hb];exact fun x hx=>pC (List.mem_append.1 hx).symm⟩
 ·show(iL _ (FU pg)).length+(iL _ (vg pg)).length<9000
  rw[qK ji,yL ji];simp;omega
 ·show∀x∈iL _ (FU pg)++iL _ (vg pg),_
  rw[qK ji,yL ji];exact fun x hx=>pC (List.mem_append.1 hx).symm
 ·exact bV (Nat.le_of_eq (congrArg List.length hb)) (by simp;omega)
theorem ajo (hn:ps.length<=60):QOk (EJ pg (ps.map eA)) (qb4 pg):=by
 have hb:=Z7 (pg:=pg) (ps:=ps);have hl:(rj (ps.map eA++ps.map eA)).length<=120:=bV (PL _) (by simp;omega);refine⟨I1 hn,⟨I1 hn,?_,?_,?_,trivial⟩,af rfl,by rw[hb];omega,by rw[hb];exact fun x hx=>pC (.inl ((List.mem_append.1 (((xG _).2 x).1 hx)).elim id id))⟩
 ·show(iL _ (vg pg)).length+(iL _ (vg pg)).length<9000
  rw[qK ji];simp;omega
 ·show∀x∈iL _ (vg pg)++iL _ (vg pg),_
  rw[qK ji];exact fun x hx=>pC (.inl ((List.mem_append.1 hx).elim id id))
 ·exact bV (Nat.le_of_eq (congrArg List.length hb)) ai
theorem qsv {d:CD}(hd:d=Wx\/d=Sp\/d=Ww\/d=Sm)(lo:Nat):∃rc xi xs xw xu,bO (sh lo) 20 d.sv= .agg #[.bool rc,.slice none 0 0,xi,xs,xw,xu]/\bO (sh lo) 20 (.iface 108 d.sv)= .iface 108 (.agg #[.bool rc,.slice none 0 0,xi,xs,xw,xu])/\([.bool rc,.slice none 0 0,xi,xs,xw,xu].all (·.oneCell'))=true:=by
 rcases hd with rfl|rfl|rfl|rfl<;>exact⟨_,_,_,_,_,rfl,rfl,rfl⟩
end
end Go.AM
namespace Go.AM
set_option maxRecDepth 1000000
open Go Go.Conc Go.Proofs
theorem p18 (x:Int)(k:Nat)(x1 x2:Int):Path 18 [vI x]
 [.call 15 [vI x,vI 144] (vI k),
  .val (ik Nat.div .i64 k 12 (gE ab .quo 3 false true (vI k) (vI 12))) (vI x1),
  .val (ik Nat.mod .i64 k 12 (gE ab .rem 3 false true (vI k) (vI 12))) (vI x2)]
 (.tuple #[vI x1,vI x2]):=lV
theorem ajJ (x:Int)(n:Nat)(x1:Int):Path 15 [vI x,vI n]
 [aP (cO x 0) false,
  .val (ik Nat.mod .i64 x n (gE ab .rem 3 false false (vI x) (vI n))) (vI x1)]
 (vI x1):=lV
theorem ajI (x:Int)(n:Nat)(x1 x2:Int):Path 15 [vI x,vI n]
 [aP (cO x 0) true,
  .val (pu ab [vI (bL x 1)] (Op.unary .neg (vI (bL x 1)))) (vI x1),
  .val (ik Nat.mod .i64 x1 n (gE ab .rem 3 false false (vI x1) (vI n))) (vI x2)]
 (vI x2):=lV
theorem ajl (ln lc db b4:Nat)(la:Option Addr):dJ 10 0 8 [0] [.slice la ln lc]
 [.call 14 [] (vP db 0),
  dx,
  .call 12 [vP db 0,jX (⟨#[67,82,69,65,84,69,32,84,65,66,76,69,32,103,40,97,32,73,78,84,44,32,98,32,73,78,84,41]⟩)] (.tuple #[.agg #[fq,fq,fq,vI 0],vI 0,vI 0]),
  mB [some fq,some fq,some fq,some (vI 0)] b4,
  uE b4 0 [fq,fq,fq,vI 0],
  dx]
 .normal [0,3,7] [.slice la ln lc,vP db 0,vI 0]:=dc
theorem ajm (pl ln lc db i eG a b:Nat)(x:Int)(s1 s2 c1 c2 c3 c4:ByteArray):aT 10 [8] 0 99 [0,3,7] [vL pl 0 ln lc,vP db 0,vI i]
 ((rp 3 (.bool (cO i ln)) true (aP (cO i 60) true:: .idx i ln i:: .mem (aD pl (0+i*1)) (vI x):: .call 18 [vI x] (.tuple #[vI a,vI b]):: .call 16 [vI a] (jX s1):: .val (Hy (⟨#[73,78,83,69,82,84,32,73,78,84,79,32,103,32,86,65,76,85,69,83,32,40]⟩) s1) (jX c1):: .val (Hy c1 (⟨#[44,32]⟩)) (jX c2):: .call 16 [vI b] (jX s2):: .val (Hy c2 s2) (jX c3):: .val (Hy c3 (⟨#[41]⟩)) (jX c4):: .call 12 [vP db 0,jX c4] (.tuple #[.agg #[fq,fq,fq,vI 1],vI 0,vI 0])::mB [some fq,some fq,some fq,some (vI 0)] eG::uE eG 0 [fq,fq,fq,vI 1]::dx::dx:: .mem (aD eG 3) (vI 1)::(rp 3 (.bool false) false ([])))))
 .normal [0,3,7] [vL pl 0 ln lc,vP db 0,vI (bL i 1)]:=dc
theorem ajk (ln lc db i:Nat)(la:Option Addr):aT 10 [8] 0 99 [0,3,7] [.slice la ln lc,vP db 0,vI i]
 ((rp 3 (.bool (cO i ln)) false ([dx])))
 (.exit 0) [3] [vP db 0]:=dc
theorem ajj (ln lc db i:Nat)(la:Option Addr):aT 10 [8] 0 99 [0,3,7] [.slice la ln lc,vP db 0,vI i]
 ((rp 3 (.bool (cO i ln)) true ([aP (cO i 60) false])))
 (.exit 0) [3] [vP db 0]:=dc
theorem ajn (db:Nat):dJ 10 9 99 [3] [vP db 0]
 []
 .ret [2] [vP db 0]:=dc
theorem ajT:jy 10 1 [2]=true:=aU
theorem SR:(di (bN 10)).length<=99:=af aU
theorem LJ:iP 10 [8]:=aU
def rh (x:Int)(n:Nat):Nat:=(if x<0 then(-(x+1)).toNat else x.toNat)%n
section
variable {K:fZ}{m:Mem}
theorem c15 {x:Int}(hx:KD x){n:Nat}(h0:0<n):Ev K 15 [vI x,vI n] m (vI (rh x n:Int)) m:=by
 unfold rh
 by_cases h:x<0
 ·obtain⟨y,hy⟩:∃y:Nat,(y:Int)= -(x+1):=⟨(-(x+1)).toNat,ai⟩;have e1:bL x 1=x+1:=vd ⟨by have :=hx.1;omega,ai⟩;have hn:=ajX (bL x 1);rw[e1,<-hy,qf ⟨ai,by have :=hx.1;omega⟩]at hn;rw[bj h,<-hy,Int.toNat_natCast];exact aY (ajI x n _ _) (.cond (by rw[fG,AA h])<| .val (by rw[e1];exact hn)<| .val (UO y n ai) .nil)
 ·obtain⟨y,hy⟩:∃y:Nat,(y:Int)=x:=⟨x.toNat,ai⟩;subst hy;rw[bW h,Int.toNat_natCast];exact aY (ajJ _ n _) (.cond (by rw[fG,yA h])<| .val (UO y n ai) .nil)
def oA (x:Int):Nat×Nat:=(rh x 144 / 12,rh x 144%12)
theorem UM (x:Int):(oA x).1<12/\(oA x).2<12:=by
 have :rh x 144<144:=Nat.mod_lt _ eS;unfold oA;exact⟨by show rh x 144 / 12<12;omega,Nat.mod_lt _ eS⟩
theorem c18 {x:Int}(hx:KD x):Ev K 18 [vI x] m (.tuple #[vI ((oA x).1:Int),vI ((oA x).2:Int)]) m:=by
 have hk:rh x 144<144:=Nat.mod_lt _ eS;have e1:=ZX true (rh x 144:Int) 12 eS;have e2:=ZW true (rh x 144:Int) 12 eS;rw[show(12:Int)=((12:Nat):Int)from rfl,IJ 12 ai]at e1;rw[show(12:Int)=((12:Nat):Int)from rfl,Sc]at e2;exact aY (p18 x (rh x 144) _ _) (.call (c15 (n:=144) hx eS)<| .val e1<| .val e2 .nil)
end
end Go.AM
namespace Go.AM
set_option maxRecDepth 1000000
open Go Go.Conc Go.Proofs
theorem X8:((List.range 12).all fun a=>decide ((nZ a).length<=2))=true:=aU
theorem OT {a:Nat}(h:a<12):(nZ a).length<=2:=of_decide_eq_true (aB.1 X8 a (List.mem_range.2 h))
theorem yf {α:Type}{val:α->ae}{B:Nat->Prop}{m:Mem}{l:List α}{v:ae}(h:(aX (iX val) 1).R B l m v)(h1:∀x,(val x).cells.toList=[val x]){j:Nat}(hj:j<l.length):∃b c,v=vL b 0 l.length c/\aD b (0+j*1) m=some (val l[j],m):=by
 obtain⟨b,c,u,cu,e,_,ou,h2,h3,hu,eZ⟩:=aX.get h hj;have hu:u=val l[j]:=hu;subst hu;refine⟨b,c,e,?_⟩;rw[Nat.zero_add,Nat.mul_one];rw[Nat.mul_one,h1]at h2;refine aS ou ?_;have :=congrArg (·[0]?) h2;simpa using this
def AU (B:Nat->Prop)(xs:List Int)(m:Mem)(v:ae):Prop:=(xs=[]/\∃la lc,v= .slice la 0 lc)\/(aX (iX vI) 1).R B xs m v
theorem AU.form{B:Nat->Prop}{xs:List Int}{m:Mem}{v:ae}(h:AU B xs m v):∃la lc,v= .slice la xs.length lc:=by
 rcases h with⟨rfl,la,lc,rfl⟩|h
 ·exact⟨la,lc,rfl⟩
 ·exact aX.form h
theorem AU.cf{B:Nat->Prop}{xs:List Int}{m m':Mem}{v:ae}(h:AU B xs m v)(k:Kp m m' fu):AU B xs m' v:=h.imp id fun h=>(aX (iX vI) 1).ext h k fun _ _ h=>h
theorem AU.ld{B:Nat->Prop}{xs:List Int}{m:Mem}{v:ae}(h:AU B xs m v){j:Nat}(hj:j<xs.length):∃b c,v=vL b 0 xs.length c/\aD b (0+j*1) m=some (vI xs[j],m):=by
 rcases h with⟨rfl,_⟩|h
 ·exact absurd hj (Nat.not_lt_zero _)
 ·exact yf h (fun _=>rfl) hj
structure BK (K:fZ):Prop where
 fD:FL K
 known:Vk K
 cr:Cr K
 rdG:Rh K txG PD.L (.iface 91 (.agg #[.string bG,vL 93 0 2 cH]))
 rdN:∀a b,a<12->b<12->Rh K ⟨(agN a b).toArray⟩ (Gk a b).L (.iface 95 (iD a b).sv)
 ck:∀d,VO d->Ck K d
 rd1:Rh K tx1 Wx.A (.iface 108 Wx.sv)
 rd2:Rh K tx2 Sp.A (.iface 108 Sp.sv)
 rd3:Rh K tx3 Ww.A (.iface 108 Ww.sv)
 rd4:Rh K tx4 Sm.A (.iface 108 Sm.sv)
section
variable {K:fZ}{m:Mem}{BX:Nat->Prop}
theorem c10 (hB:BK K)(cm:Calm m)(hG:Gl m){xs:List Int}{xv:ae}(hx:AU BX xs m xv)(ml:∀x∈xs,KD x):
  ∃m' db mp pe pg cg W,Ev K 10 [xv] m (vP db 0) m'/\Kp m m' fu/\sK m' db mp/\FM W m' mp pe pg cg (((xs.take 60).map oA).map eA)/\¬W db/\m.next<=db/\∀b,W b->m.next<=b:=by
 obtain⟨la,lc,hxv⟩:=hx.form;have hh:=hG.hn;obtain⟨m1,db,mp,pe,e1,k1,GB,M1,Em,hmp,dQ⟩:=hB.known m cm hG;have n1:=k1.next;obtain⟨m2,pg,cg,e2,k2,WJ,D2,hpg,hcg⟩:=al0 (K:=K) hB.cr (cm.ext k1) (hG.cf k1) GB (by rw[k1.home];omega) hB.rdG M1 dQ;obtain⟨W1,hW1⟩:∃W1:Nat->Prop,W1=fun b=>b=mp\/b=pg\/b=cg:=⟨_,rfl⟩
 rw[<-hW1]at D2;have VD:=GB.1.lt;have hml:=M1.lt;have K2:Kp m m2 fu:=k1.new k2 (N:=m.next) (aj _) fun b hb=>by rcases hb with h|h<;>omega
 have n2:=k2.next;obtain⟨x3,m3,e3,f3,o3,k3,n3⟩:=ly (cm.ext K2).gd [.slice none 0 0,.slice none 0 0,.slice none 0 0,vI 0] [.slice none 0 0,.slice none 0 0,.slice none 0 0,vI 0] rfl rfl;have K3:=K2.aZ k3;have n3':=k3.next;have SU:sK m3 db mp:=⟨WJ.1.cf k3,by rw[k3.base];exact WJ.2⟩;have D3:=D2.ext k3 fun _ _ h=>h
 have alb:¬W1 db:=fun h=>by rw[hW1]at h;rcases h with h|h|h<;>omega
 have ala:∀b,W1 b->m.next<=b:=fun b h=>by rw[hW1]at h;rcases h with h|h|h<;>omega
 obtain⟨t0,w0,e0⟩:=aR (K:=K) (m:=m) (m':=m3) (tm:=entry [xv]) (ajl xs.length lc db m2.next la) (by rw[hxv];rfl) (.call e1<| .cond rfl<| .call e2<| .mem e3<| .mem f3<| .cond rfl .nil);obtain⟨e,t1,m5,he,DK,rfl,hg,W5,K5,agx,D5,ak9,ak8⟩:=eI (K:=K) (nt:=eY 10) (a:=bX 10 [8]) (min xs.length 60)
  (Inv:=fun j tm M=>bu [0,3,7] tm=[.slice la xs.length lc,vP db 0,vI j]/\∃W,Kp m M fu/\sK M db mp/\FM W M mp pe pg cg (((xs.take j).map oA).map eA)/\¬W db/\(∀b,W b->m.next<=b))
  (dm:=fun e tm M=>e= .exit 0/\bu [3] tm=[vP db 0]/\∃W,Kp m M fu/\sK M db mp/\FM W M mp pe pg cg (((xs.take 60).map oA).map eA)/\¬W db/\(∀b,W b->m.next<=b))
  (by
   rintro j tm M hj ⟨hg,W,KM,rN,D,hWd,hWn⟩
   left
   have Qf:j<xs.length:=ai;have nM:=KM.next;obtain⟨pl,c',e,lx⟩:=(hx.cf KM).ld Qf;rw[hxv]at e;cases e;obtain⟨a,b,w7⟩:∃a b,oA xs[j]=(a,b):=⟨_,_,rfl⟩;have cB:=UM xs[j];have e18:=c18 (K:=K) (m:=M) (ml _ (List.getElem_mem Qf));rw[w7]at cB e18;have ha:a<12:=cB.1;have hb:b<12:=cB.2;obtain⟨M1,e4,k4⟩:=c16 (K:=K) a (cm.ext KM).gd ai;have KM1:=KM.aZ k4;obtain⟨M2,e5,k5⟩:=c16 (K:=K) b (cm.ext KM1).gd ai;have KM2:=KM1.aZ k5;have n4:=k4.next;have n5:=k5.next;have da:=OT ha;have dbl:=OT hb;have v1:=Dg (l:=[73,78,83,69,82,84,32,73,78,84,79,32,103,32,86,65,76,85,69,83,32,40]) (r:=nZ a) (by simp;omega);have v2:=Dg (l:=[73,78,83,69,82,84,32,73,78,84,79,32,103,32,86,65,76,85,69,83,32,40]++nZ a) (r:=[44,32]) (by simp;omega);have v3:=Dg (l:=[73,78,83,69,82,84,32,73,78,84,79,32,103,32,86,65,76,85,69,83,32,40]++nZ a++[44,32]) (r:=nZ b) (by simp;omega);have v4:=Dg (l:=[73,78,83,69,82,84,32,73,78,84,79,32,103,32,86,65,76,85,69,83,32,40]++nZ a++[44,32]++nZ b) (r:=[41]) (by simp;omega);have WJ:sK M2 db mp:=⟨(rN.1.cf k4).cf k5,by rw[k5.base,k4.base];exact rN.2⟩;have DD:=(D.ext k4 fun _ _ h=>h).ext k5 fun _ _ h=>h
   obtain⟨M3,W',e6,k6,WI,D6,hW'⟩:=alZ (K:=K) hB.fD (hB.ck _ (.inl ⟨a,b,rfl⟩)) (cm.ext KM2) (hG.cf KM2) WJ (by rw[KM2.home];omega) (hB.rdN a b ha hb) DD hWd (by simp;omega);have KM3:Kp m M3 fu:=KM2.new k6 (N:=m.next) (aj _) fun b hb=>hb.elim (fun h=>by omega) (hWn b)
   have n6:=k6.next;obtain⟨x7,M4,e7,f7,o7,k7,n7⟩:=ly (cm.ext KM3).gd [.slice none 0 0,.slice none 0 0,.slice none 0 0,vI 0] [.slice none 0 0,.slice none 0 0,.slice none 0 0,vI 1] rfl rfl;obtain⟨t2,cN,cz⟩:=aI (K:=K) LJ (ajm pl xs.length lc db j M3.next a b xs[j] _ _ _ _ _ _) hg (.rp (GK Qf)<| .cond (dT (gF (j:=60)))<| .idx rfl Qf<| .mem lx<| .call e18<| .call e4<| .val v1<| .val v2<| .call e5<| .val v3<| .val v4<| .call e6<| .mem e7<| .mem f7<| .cond rfl<| .cond rfl<| .mem (aS o7 rfl)<| .rp rfl .nil);rw[add1 ai]at cz;refine⟨t2,M4,cN,cz,W',KM3.aZ k7,⟨WI.1.cf k7,by rw[k7.base];exact WI.2⟩,?_,fun h=>(hW' _ h).elim hWd fun h=>by have :=rN.1.lt;omega,fun b hb=>(hW' b hb).elim (hWn b) fun h=>by omega⟩;have :=D6.ext k7 fun _ _ h=>h
   rwa[show((xs.take (j+1)).map oA).map eA=((xs.take j).map oA).map eA++[eA (a,b)] by
    rw[List.take_add_one,List.getElem?_eq_getElem Qf,List.map_append,List.map_append];show _++[eA (oA xs[j])]=_;rw[w7]])
  (by
   rintro tm M ⟨hg,W,KM,rN,D,hWd,hWn⟩
   by_cases h:xs.length<=60
   ·rw[Nat.min_eq_left h]at hg D;obtain⟨t2,cN,cz⟩:=aI (K:=K) (m:=M) (m':=M) LJ (ajk xs.length lc db xs.length la) hg (.rp (Ed _)<| .cond rfl .nil);refine⟨_,t2,M,g8,cN,rfl,cz,W,KM,rN,?_,hWd,hWn⟩;rw[List.take_length]at D;rw[List.take_of_length_le h];exact D
   ·rw[Nat.min_eq_right ai]at hg D;obtain⟨t2,cN,cz⟩:=aI (K:=K) (m:=M) (m':=M) LJ (ajj xs.length lc db 60 la) hg (.rp (GK ai)<| .cond (dF (gF (j:=60))) .nil);exact⟨_,t2,M,g8,cN,rfl,cz,W,KM,rN,D,hWd,hWn⟩)
  (tm:=t0) (m:=m3) ⟨e0,W1,K3,SU,D3,alb,ala⟩ ai
 obtain⟨t2,h2,e2'⟩:=aR (K:=K) (m:=m5) (m':=m5) (ajn db) hg .nil;exact⟨m5,db,mp,pe,pg,cg,W5,eB ajT (aA.cut w0 (aA.fw DK (aA.last h2 SR))) (.inr rfl) e2',K5,agx,D5,ak9,Em,ak8⟩
end
end Go.AM
namespace Go.AM
set_option maxRecDepth 1000000
open Go Go.Conc Go.ConcM Go.Proofs Go.Proofs.YtgfppohfgconeaaGreatDoor Go.ChangeShapes
def Cl (k:dZ):Mem:={heap:=iU.put (iU.put [] 0 {kind:=1,cs:=cM}) 12 k,next:=13,tick:=1,base:=13,home:=13,floor:=13,opn:=[],bh:=[],wg:=none,pend:=[],deaf:=0}
theorem nu (k:dZ)(b:Nat):(Cl k).blk b=if 12=b then k else if 0=b then{kind:=1,cs:=cM}else{}:=by
 show(iU.put (iU.put [] 0 {kind:=1,cs:=cM}) 12 k).get b=_
 rw[iU.get_put]
 split
 ·rfl
 ·exact ir b
def ρx (p:Pl):dw:=fun b=>if b=12 then some p else ρ0 b
theorem Ij {o:Nat}{v:ae}(h:cM[o]?=some (some v)):de v=true:=by
 have lQ:(cM.all fun x=>match x with |some y=>de y|none=>false)=true:=aU;exact aB.1 lQ _ (List.mem_of_getElem? h)
theorem Px {o:Nat}(h:o<cM.length):∃s,cM[o]?=some (some (.string s)):=by
 have lQ:(cM.all fun x=>match x with |some (.string _)=>true|_=>false)=true:=aU;have :=aB.1 lQ _ (List.getElem_mem h)
 split at this
 ·rename_i s hs;exact⟨s,by rw[List.getElem?_eq_getElem h,hs]⟩
 ·cases this
structure amd (W:ao)(k:dZ)(p:Pl):Prop where
 bK:k.bK=0
 live:k.live
 pos:k.pos=0
 kind:k.kind=0\/k.kind=1
 sz:p.sz=k.sz
 len:k.cs.length<=p.room
 shape:k.kind=1->∃e n,W.shape? p.c=some (e,n)/\p.d+p.room<=n
 kN:k.kind=1->∀o v,k.cs[o]?=some (some v)->de v=true/\W.cell? ⟨p.c,p.d+o,none⟩=some v
 sep:k.kind=1->p.c=0->cM.length<=p.d
theorem tF {W:ao}(ig:12<=W.heap.size){C:Array ae}{ty:aO}{fr:Nat×Nat}(h0:W.heap[0]?=some (.cells C ty fr))(hC:cM.length<=C.size)(hv:∀(o:Nat) v,cM[o]?=some (some v)->C[o]?=some v){k:dZ}{p:Pl}(hp:p.c<W.heap.size)(hk:amd W k p):
  dk ab (WE W) W .idle (ρx p) (Cl k) W/\Wf (Cl k):=by
 have mo:∀b q,ρx p b=some q->b=12/\q=p\/b<12/\q=⟨b,0,if b=0 then cM.length else 0,0⟩:=fun b q h=>by
  unfold ρx at h
  split at h
  ·rename_i hb;cases h;exact .inl ⟨hb,rfl⟩
  ·unfold ρ0 at h
   split at h
   ·rename_i hb;cases h;exact .inr ⟨hb,rfl⟩
   ·cases h
 have kx:(Cl k).blk 12=k:=by rw[nu,bj rfl]
 have k0:(Cl k).blk 0={kind:=1,cs:=cM}:=by rw[nu,bW eS,bj rfl]
 have kind:∀b,((Cl k).blk b).kind≠0->b=0\/b=12:=fun b hb=>by
  rw[nu]at hb
  split at hb
  ·rename_i h;exact .inr h.symm
  ·split at hb
   ·rename_i h;exact .inl h.symm
   ·exact absurd rfl hb
 have L9:∀b,((Cl k).blk b).kind=0\/((Cl k).blk b).kind=1:=fun b=>by
  rw[nu]
  split
  ·exact hk.kind
  ·split
   ·exact .inr rfl
   ·exact .inl rfl
 have at0:∀q,ρx p 0=some q->q=⟨0,0,cM.length,0⟩:=fun q h=>by
  rcases mo _ _ h with⟨h,_⟩|⟨_,h⟩
  ·cases h
  ·rw[h,bj rfl]
 have Yp:∀q,ρx p 12=some q->q=p:=fun q h=>by
  rcases mo _ _ h with⟨_,h⟩|⟨h,_⟩
  ·exact h
  ·omega
 have DL:Wf (Cl k):=by
  refine⟨fun b=>?_,fun b hb=>?_,fun s hs=>(by cases hs),aj _,fun b=>?_⟩
  ·rw[nu]
   split
   ·rw[hk.bK];exact Nat.one_pos
   ·split<;>exact Nat.one_pos
  ·have hb:13<=b:=hb;rw[nu,bW ai,bW ai]
  ·rw[nu]
   split
   ·exact hk.live
   ·have :=FT.live b;rw[ir]at this;exact this
 have adR:k.kind=1->p.c=0->(cM.length=0\/p.room=0\/0+cM.length<=p.d\/p.d+p.room<=0):=fun h1 h2=> .inr (.inr (.inl (by have :=hk.sep h1 h2;omega)))
 refine⟨⟨⟨fun b q hq=>?_,fun b q hq vM=>?_,fun b q o v hq hc=>?_,fun b q o hq _ _ hb=>?_,fun b q hq Jy _=>?_,fun b q hq Jy _=>?_,fun b b' q q' dQ hq xU vM aci th=>?_,
  fun b q hq=>?_,fun b q hq vM iC=>?_⟩,bg.refl _ _,⟨fun b o he=>⟨he,?_⟩,fun b he=>⟨he.1,?_,he.2⟩,fun _ _ h=>h.elim⟩,fun g hg=>?_,⟨rfl,rfl,aj _⟩,DL,fun b q x hq hb=>?_,fun _ _ h=>h.elim⟩,DL⟩
 ·show b<13
  rcases mo b q hq with⟨h,_⟩|⟨h,_⟩<;>omega
 ·rcases kind b (by rw[vM];decide)with rfl|rfl
  ·rw[at0 q hq,k0];refine⟨rfl,aj _,ty,C.size,?_,by show 0+cM.length<=C.size;omega⟩;unfold ao.shape?;rw[h0]
  ·rw[Yp q hq];rw[kx]at vM⊢;exact⟨hk.sz,hk.len,hk.shape vM⟩
 ·obtain⟨c1,c2,c3⟩:=rI hc;rcases kind b (by rw[c1];decide)with rfl|rfl
  ·rw[at0 q hq];rw[k0]at c3;refine⟨v,?_,(aF (Ij c3)).2 rfl⟩;have e:W.cell? ⟨0,0+o,none⟩=C[0+o]?:=by unfold ao.cell?;simp[h0]
   show W.cell? ⟨0,0+o,none⟩=some v
   rw[e,Nat.zero_add];exact hv o v c3
  ·rw[Yp q hq];rw[kx]at c1 c3;obtain⟨h1,h2⟩:=hk.kN c1 o v c3;exact⟨v,h2,(aF h1).2 rfl⟩
 ·have hb:13<=b:=hb;rcases mo b q hq with⟨h,_⟩|⟨h,_⟩<;>omega
 ·rcases L9 b with h|h<;>rw[h]at Jy<;>cases Jy
 ·rcases L9 b with h|h<;>rw[h]at Jy<;>cases Jy
 ·rcases kind b vM with rfl|rfl<;>rcases kind b' aci with rfl|rfl
  ·exact absurd rfl dQ
  ·rw[at0 q hq]at th⊢;rw[Yp q' xU]at th⊢;rw[kx]at aci⊢;have h1:=hk.kind.resolve_left aci;refine⟨by rw[k0],h1,adR h1 th.symm⟩
  ·rw[Yp q hq]at th⊢;rw[at0 q' xU]at th⊢;rw[kx]at vM⊢;have h1:=hk.kind.resolve_left vM;refine⟨h1,by rw[k0],?_⟩;rcases adR h1 th with h|h|h|h
   ·exact .inr (.inl h)
   ·exact .inl h
   ·exact .inr (.inr (.inr h))
   ·exact .inr (.inr (.inl h))
  ·exact absurd rfl dQ
 ·rcases mo b q hq with⟨_,rfl⟩|⟨h,rfl⟩
  ·exact hp
  ·show b<W.heap.size
   omega
 ·rcases kind b (by rw[vM];decide)with rfl|rfl
  ·rw[at0 q hq]
  ·rw[kx,hk.pos]at iC;cases iC
 ·rintro⟨b',q,h1,_,_,_,_,h5⟩;rcases h5 with h5|h5
  ·have h5:13<=b':=h5;rcases mo b' q h1 with⟨h,_⟩|⟨h,_⟩<;>omega
  ·cases h5
 ·rintro⟨b',q,h1,_,h3,_⟩;rcases L9 b' with h|h<;>rw[h]at h3<;>rcases h3 with h3|h3<;>cases h3
 ·rw[globals_size]at hg;refine⟨⟨g,0,if g=0 then cM.length else 0,0⟩,?_,rfl,rfl⟩;unfold ρx;rw[bW ai];unfold ρ0;rw[bj hg]
 ·have hb:13<=b:=hb;rcases mo b q hq with⟨h,_⟩|⟨h,_⟩<;>omega
theorem Tj (k:dZ):Calm (Cl k):=⟨⟨rfl,rfl,aj _,aj _,aj _,fun s h=>by cases h⟩,rfl,rfl,rfl,rfl⟩
theorem Ti (k:dZ):Vm (Cl k):=by
 have k0:(Cl k).blk 0={kind:=1,cs:=cM}:=by rw[nu,bW eS,bj rfl]
 exact⟨by show 0<13;decide,by rw[k0],by rw[k0],by rw[k0];kernel_rfl,rfl⟩
def adt (W:ao)(xs:List Int)(v:ae):Prop:=(∀x∈xs,KD x)/\(v= .slice none 0 0/\xs=[]\/∃c o cap,v= .slice (some ⟨c,o,none⟩) xs.length cap/\xs.length<=cap/\cap<cH/\c<W.heap.size/\(∀i,i<cap->∃z:Int,W.cell? ⟨c,o+i,none⟩=some (vI z))/\∀i (h:i<xs.length),W.cell? ⟨c,o+i,none⟩=some (vI xs[i]))
theorem Pw {W:ao}(ig:12<=W.heap.size){C:Array ae}{ty:aO}{fr:Nat×Nat}(h0:W.heap[0]?=some (.cells C ty fr))(hC:cM.length<=C.size)(hv:∀(o:Nat) v,cM[o]?=some (some v)->C[o]?=some v){xs:List Int}{v:ae}(ha:adt W xs v):
  ∃(k:dZ) (ρ:dw) (xv:ae),k.kind<=1/\dk ab (WE W) W .idle ρ (Cl k) W/\Wf (Cl k)/\aQ ρ xv v/\AU (fun b=>b=12) xs (Cl k) xv:=by
 obtain⟨ml,⟨rfl,rfl⟩|⟨c,o,cap,rfl,hl,mN,hc,hz,hx⟩⟩:=ha
 ·obtain⟨H,w⟩:=tF ig h0 hC hv (k:={}) (p:=⟨0,0,0,0⟩) (by show 0<W.heap.size;omega) ⟨rfl,⟨fun x hx=>(by cases hx),eS⟩,rfl,.inl rfl,rfl,aj _,g8,g8,g8⟩;exact⟨_,_,_,Nat.zero_le _,H,w,(aF (v:= .slice none 0 0) rfl).2 rfl,.inl ⟨rfl,_,_,rfl⟩⟩
 ·rcases Nat.eq_zero_or_pos xs.length with hn|hn
  ·obtain⟨H,w⟩:=tF ig h0 hC hv (k:={}) (p:=⟨c,o,0,0⟩) hc ⟨rfl,⟨fun x hx=>(by cases hx),eS⟩,rfl,.inl rfl,rfl,aj _,g8,g8,g8⟩;refine⟨_,_,.slice (some ⟨12,0,none⟩) 0 cap,Nat.zero_le _,H,w,⟨1,⟨c,o,0,0⟩,cap,rfl,rfl,by rw[hn];rfl,?_⟩,.inl ⟨List.length_eq_zero_iff.1 hn,_,_,rfl⟩⟩;rw[bW ai]
  ·have fI:∃e n,W.shape? c=some (e,n)/\o+cap<=n:=by
    obtain⟨z,h⟩:=hz (cap-1) ai;unfold ao.cell? at h;unfold ao.shape?;cases hh:W.heap[c]? with
    |none=>simp[hh]at h
    |some ob=>
     cases ob with
     |cells A t f=>
      simp only[hh]at h;refine⟨t,A.size,rfl,?_⟩;have :o+(cap-1)<A.size:=by
       rcases Nat.lt_or_ge (o+(cap-1)) A.size with h'|h'
       ·exact h'
       ·simp[h']at h
      omega
     |_=>simp[hh]at h
   obtain⟨H,w⟩:=tF ig h0 hC hv (k:={kind:=1,sz:=1,cs:=xs.map fun x=>some (vI x)}) (p:=⟨c,o,cap,1⟩) hc ⟨rfl,⟨fun x hx=>by
     obtain⟨y,_,rfl⟩:=List.mem_map.1 hx;exact fun h=>(by cases h),af rfl⟩,rfl,.inr rfl,rfl,by simpa using hl,fun _=>fI,fun _ i u hu=>by
     rw[List.getElem?_map]at hu;obtain⟨y,hy,e⟩:=az.1 hu;cases e;obtain⟨hi,rfl⟩:=List.getElem?_eq_some_iff.1 hy;exact⟨rfl,hx i hi⟩,fun _ hc0=>by
     have hc0:c=0:=hc0;subst hc0;rcases Nat.lt_or_ge o cM.length with h|h
     ·exfalso
      obtain⟨s,hs⟩:=Px h;have e1:=hv _ _ hs;have e2:=hx 0 hn;have e:W.cell? ⟨0,o+0,none⟩=C[o+0]?:=by unfold ao.cell?;simp[h0]
      rw[e,Nat.add_zero,e1]at e2;cases e2
     ·exact h⟩
   have Bf:Obj (Cl {kind:=1,sz:=1,cs:=xs.map fun x=>some (vI x)}) 12 1 (xs.map vI):=by
    have kx:∀k,(Cl k).blk 12=k:=fun k=>by rw[nu,bj rfl]
    exact⟨by show 12<13;decide,by rw[kx],by rw[kx],by rw[kx,List.map_map];rfl,rfl⟩
   refine⟨_,_,.slice (some ⟨12,0,none⟩) xs.length cH,aj _,H,w,⟨1,⟨c,o,cap,1⟩,cap,rfl,rfl,rfl,?_⟩,.inr ⟨xs.map vI,⟨du,.inr ⟨12,cH,rfl,Bf,.inl rfl⟩⟩,fun b o n c e=>by cases e;rfl,?_⟩⟩
   ·rw[bj rfl];exact⟨hl,by show 0+cap*1<=cap;omega⟩
   ·have key:∀l:List Int,cJ (fun x u=>(iX vI).R (fun b=>b=12) x (Cl {kind:=1,sz:=1,cs:=xs.map fun x=>some (vI x)}) u/\okV 1 u) l (l.map vI):=by
     intro l
     induction l with
     |nil=>exact rfl
     |cons x l ih=>exact⟨vI x,l.map vI,rfl,⟨rfl,⟨rfl,by simp[ae.cells,ae.oneCell']⟩⟩,ih⟩
    exact key xs
end Go.AM
namespace Go.AM
set_option maxRecDepth 1000000
open Go Go.Conc Go.Proofs
theorem ajd (b2 b3 nl kl rl LM Q4 ES S3 TD Q2:Nat)(na ka ra nb kb rb:Option Addr):dJ 13 0 4 [0,1] [.agg #[.slice na nl LM,.slice ka kl Q4,.slice ra rl ES,vI 0],.agg #[.slice nb nl S3,.slice kb kl TD,.slice rb rl Q2,vI 0]]
 (mB [some (.slice na nl LM),some (.slice ka kl Q4),some (.slice ra rl ES),some (vI 0)] b2::mB [some (.slice nb nl S3),some (.slice kb kl TD),some (.slice rb rl Q2),some (vI 0)] b3:: .mem (aD b2 0) (.slice na nl LM):: .mem (aD b3 0) (.slice nb nl S3)::aP (nK nl nl) false::aP (nK nl nl) false:: .mem (aD b2 1) (.slice ka kl Q4)::(rp 3 (.bool (nK nl nl)) false (.mem (aD b3 1) (.slice kb kl TD)::(rp 3 (.bool (nK nl nl)) false (aP (nK kl kl) false::aP (nK kl kl) false:: .mem (aD b2 2) (.slice ra rl ES)::(rp 3 (.bool (nK kl kl)) false (.mem (aD b3 2) (.slice rb rl Q2)::(rp 3 (.bool (nK kl kl)) false ([aP (nK rl rl) false,
  aP (nK rl rl) false,
  .mem (aD b2 3) (vI 0),
  aP (nK rl rl) false,
  aP (nK rl rl) false,
  .mem (aD b3 3) (vI 0),
  aP (nK rl rl) false,
  aP (nK rl rl) false,
  dx])))))))))
 .normal [2,3,5] [vP b2 0,vP b3 0,vI 0]:=dc
theorem aje (b2 b3 i nl kl na ka nb kb LM Q4 S3 TD:Nat)(s:ByteArray)(k:Int):aT 13 [4] 0 99 [2,3,5] [vP b2 0,vP b3 0,vI i]
 (.mem (aD b2 0) (vL na 0 nl LM)::(rp 3 (.bool (cO i nl)) true (.mem (aD b2 1) (vL ka 0 kl Q4)::(rp 3 (.bool (cO i nl)) true ([aP (cO i kl) true,
  .mem (aD b2 0) (vL na 0 nl LM),
  .idx i nl i,
  .mem (aD na (0+i*1)) (jX s),
  .mem (aD b3 0) (vL nb 0 nl S3),
  .idx i nl i,
  .mem (aD nb (0+i*1)) (jX s),
  aP ((s.toList==s.toList)==false) false,
  aP ((s.toList==s.toList)==false) false,
  .mem (aD b2 1) (vL ka 0 kl Q4),
  aP ((s.toList==s.toList)==false) false,
  aP ((s.toList==s.toList)==false) false,
  .idx i kl i,
  aP ((s.toList==s.toList)==false) false,
  .mem (aD ka (0+i*1)) (vI k),
  aP ((s.toList==s.toList)==false) false,
  aP ((s.toList==s.toList)==false) false,
  .mem (aD b3 1) (vL kb 0 kl TD),
  aP ((s.toList==s.toList)==false) false,
  aP ((s.toList==s.toList)==false) false,
  .idx i kl i,
  aP ((s.toList==s.toList)==false) false,
  .mem (aD kb (0+i*1)) (vI k),
  aP ((s.toList==s.toList)==false) false,
  aP ((s.toList==s.toList)==false) false,
  aP (nK k k) false])))))
 .normal [2,3,5] [vP b2 0,vP b3 0,vI (bL i 1)]:=dc
theorem ai8 (b2 b3 i nl LM:Nat)(na:Option Addr):aT 13 [4] 0 99 [2,3,5] [vP b2 0,vP b3 0,vI i]
 (.mem (aD b2 0) (.slice na nl LM)::(rp 6 (.bool (cO i nl)) false ([dx])))
 (.exit 0) [2,3] [vP b2 0,vP b3 0]:=dc
theorem ajb (b2 b3 j rl ES:Nat)(ra:Option Addr):aT 13 [6] 0 2 [2,3,6] [vP b2 0,vP b3 0,vI j]
 [.mem (aD b2 2) (.slice ra rl ES),
  aP (cO j rl) true]
 .normal [2,3,6] [vP b2 0,vP b3 0,vI j]:=dc
theorem aja (b2 b3 j rl ES:Nat)(ra:Option Addr):aT 13 [6] 0 99 [2,3,6] [vP b2 0,vP b3 0,vI j]
 [.mem (aD b2 2) (.slice ra rl ES),
  aP (cO j rl) false]
 (.exit 2) [2] [vP b2 0]:=dc
theorem ai9 (b2 b3 j rl ES Q2 ra rb xa xb n ca cb:Nat):aT 13 [6,2] 0 3 [2,3,6] [vP b2 0,vP b3 0,vI j]
 [.mem (aD b2 2) (vL ra 0 rl ES),
  .idx j rl j,
  .mem (aD ra (0+j*1)) (vL xa 0 n ca),
  .mem (aD b3 2) (vL rb 0 rl Q2),
  .idx j rl j,
  .mem (aD rb (0+j*1)) (vL xb 0 n cb),
  aP (nK n n) false]
 .normal [2,3,6,7] [vP b2 0,vP b3 0,vI j,vI 0]:=dc
theorem ajh (b2 b3 j rl ES Q2 ra rb xa xb n ca cb t:Nat)(x y:V)(z:Bool):aT 13 [6,2,3] 0 99 [2,3,6,7] [vP b2 0,vP b3 0,vI j,vI t]
 [.mem (aD b2 2) (vL ra 0 rl ES),
  .idx j rl j,
  .mem (aD ra (0+j*1)) (vL xa 0 n ca),
  aP (cO t n) true,
  .mem (aD b2 2) (vL ra 0 rl ES),
  .idx j rl j,
  .mem (aD ra (0+j*1)) (vL xa 0 n ca),
  .idx t n t,
  .mem (eU 4 xa (0+t*4)) (gZ x),
  .mem (aD b3 2) (vL rb 0 rl Q2),
  .idx j rl j,
  .mem (aD rb (0+j*1)) (vL xb 0 n cb),
  .idx t n t,
  .mem (eU 4 xb (0+t*4)) (gZ y),
  .val (gE ab .neq 49 false false (gZ x) (gZ y)) (.bool z),
  aP z false]
 .normal [2,3,6,7] [vP b2 0,vP b3 0,vI j,vI (bL t 1)]:=dc
theorem ajg (b2 b3 j rl ES ra xa n ca t:Nat):aT 13 [6,2,3] 0 99 [2,3,6,7] [vP b2 0,vP b3 0,vI j,vI t]
 [.mem (aD b2 2) (vL ra 0 rl ES),
  .idx j rl j,
  .mem (aD ra (0+j*1)) (vL xa 0 n ca),
  aP (cO t n) false]
 (.exit 4) [2,3,6] [vP b2 0,vP b3 0,vI j]:=dc
theorem ajf (b2 b3 j:Nat):aT 13 [6] 3 99 [2,3,6] [vP b2 0,vP b3 0,vI j]
 []
 .normal [2,3,6] [vP b2 0,vP b3 0,vI (bL j 1)]:=dc
theorem aji:dJ 13 7 99 [] []
 []
 .ret [4] [.bool true]:=dc
theorem ajS:jy 13 2 [4]=true:=aU
theorem SO:(di (bN 13)).length<=99:=af aU
theorem SQ:iP 13 [4]:=aU
theorem SP:iP 13 [6]:=aU
theorem B9:iP 13 [6,2,3]:=aU
theorem U3:iu (bX 13 [6]) 2=some (3,(bX 13 [6,2])):=aU
theorem U1:jA (eY 13) (bX 13 [6]) (bX 13 [6,2]) 2 3=true:=aU
theorem ajc (b2 b3:Nat):dJ 13 5 6 [2,3] [vP b2 0,vP b3 0]
 []
 .normal [2,3,6] [vP b2 0,vP b3 0,vI 0]:=dc
section
variable {K:fZ}{m:Mem}{Ba Bb:Nat->Prop}
theorem c13 (g:Gd m){dN:List FN}{rows:List (List V)}{va vb:ae}(ha:qe Ba dN rows 0 m va)(hb:qe Bb dN rows 0 m vb)(Qi:dN.length<9000)(Xv:rows.length<9000)(Q5:∀x∈rows,x.length<9000):
  ∃m',Ev K 13 [va,vb] m (.bool true) m'/\Kp m m' fu:=by
 obtain⟨nva,kva,rva,rfl,a1,a2,BOa,BEa,La,_⟩:=ha;obtain⟨nvb,kvb,rvb,rfl,b1,b2,BOb,BEb,Lb,_⟩:=hb;obtain⟨na,LM,rfl⟩:=aX.form a1;obtain⟨ka,Q4,rfl⟩:=aX.form a2;obtain⟨nb,S3,rfl⟩:=aX.form b1;obtain⟨kb,TD,rfl⟩:=aX.form b2;obtain⟨ra,ES,rfl⟩:=La.form;obtain⟨rb,Q2,rfl⟩:=Lb.form;obtain⟨m1,e1,o1,k1,n1,_⟩:=cA g [.slice na (dN.map (·.n)).length LM,.slice ka (dN.map (·.k)).length Q4,.slice ra rows.length ES,vI 0];obtain⟨m2,e2,o2,k2,n2,_⟩:=cA (g.ext k1) [.slice nb (dN.map (·.n)).length S3,.slice kb (dN.map (·.k)).length TD,.slice rb rows.length Q2,vI 0];have pS:=k1.aZ k2;have o12:=o1.cf k2;obtain⟨q1,hq1⟩:∃b,b=m.next:=⟨_,rfl⟩;obtain⟨q2,hq2⟩:∃b,b=m1.next:=⟨_,rfl⟩;rw[<-hq1]at e1 o12;rw[<-hq2]at e2 o2;have f0:∀n:Nat,(.bool (nK n n):ae)= .bool false:=fun n=>by rw[jk,yA du]
 have la0:aD q1 0 m2=some (.slice na (dN.map (·.n)).length LM,m2):=aS o12 rfl;have la1:aD q1 1 m2=some (.slice ka (dN.map (·.k)).length Q4,m2):=aS o12 rfl;have la2:aD q1 2 m2=some (.slice ra rows.length ES,m2):=aS o12 rfl;have la3:aD q1 3 m2=some (vI 0,m2):=aS o12 rfl;have lb0:aD q2 0 m2=some (.slice nb (dN.map (·.n)).length S3,m2):=aS o2 rfl;have lb1:aD q2 1 m2=some (.slice kb (dN.map (·.k)).length TD,m2):=aS o2 rfl;have lb2:aD q2 2 m2=some (.slice rb rows.length Q2,m2):=aS o2 rfl;have lb3:aD q2 3 m2=some (vI 0,m2):=aS o2 rfl;have Xz:(dN.map (·.n)).length=dN.length:=List.length_map _;have XE:(dN.map (·.k)).length=dN.length:=List.length_map _;have La2:=La.ext pS fun _ _ h=>h
 have Lb2:=Lb.ext pS fun _ _ h=>h
 obtain⟨t0,w0,e0⟩:=aR (K:=K) (m:=m) (m':=m2) (tm:=entry [.agg #[.slice na (dN.map (·.n)).length LM,.slice ka (dN.map (·.k)).length Q4,.slice ra rows.length ES,vI 0],.agg #[.slice nb (dN.map (·.n)).length S3,.slice kb (dN.map (·.k)).length TD,.slice rb rows.length Q2,vI 0]])
  (ajd q1 q2 _ _ rows.length LM Q4 ES S3 TD Q2 na ka ra nb kb rb) rfl (.mem e1<| .mem e2<| .mem la0<| .mem lb0<| .cond (f0 _)<| .cond (f0 _)<| .mem la1<| .rp (f0 _)<| .mem lb1<| .rp (f0 _)<| .cond (f0 _)<| .cond (f0 _)<| .mem la2<| .rp (f0 _)<| .mem lb2<| .rp (f0 _)<| .cond (f0 _)<| .cond (f0 _)<| .mem la3<| .cond (f0 _)<| .cond (f0 _)<| .mem lb3<| .cond (f0 _)<| .cond (f0 _)<| .cond rfl .nil)
 have lY:∀s:ByteArray,(v7 s).cells.toList=[v7 s]:=fun _=>rfl
 have ahc:∀k:Int,(vI k).cells.toList=[vI k]:=fun _=>rfl
 obtain⟨_,t1,mm,he,DK,rfl,rfl,hg⟩:=eI (K:=K) (nt:=eY 13) (a:=bX 13 [4]) dN.length
  (Inv:=fun j tm M=>M=m2/\bu [2,3,5] tm=[vP q1 0,vP q2 0,vI j])
  (dm:=fun e tm M=>e= .exit 0/\M=m2/\bu [2,3] tm=[vP q1 0,vP q2 0])
  (by
   rintro j tm M hj ⟨rfl,hg⟩
   left
   have XG:j<(dN.map (·.n)).length:=ai;have G4:j<(dN.map (·.k)).length:=ai;obtain⟨pna,c1,x1,y1⟩:=yf ((aX (iX v7) 1).ext a1 pS fun _ _ h=>h) lY XG;obtain⟨pnb,c2,x2,y2⟩:=yf ((aX (iX v7) 1).ext b1 pS fun _ _ h=>h) lY XG;obtain⟨pka,c3,x3,y3⟩:=yf ((aX (iX vI) 1).ext a2 pS fun _ _ h=>h) ahc G4;obtain⟨pkb,c4,x4,y4⟩:=yf ((aX (iX vI) 1).ext b2 pS fun _ _ h=>h) ahc G4;cases x1;cases x2;cases x3;cases x4;have cS:∀s:ByteArray,(.bool ((s.toList==s.toList)==false):ae)= .bool false:=fun s=>by simp
   have cK:∀k:Int,(.bool (nK k k):ae)= .bool false:=fun k=>by rw[jk,yA du]
   obtain⟨t2,cN,cz⟩:=aI (K:=K) (m:=M) (m':=M) SQ (aje q1 q2 j (dN.map (·.n)).length (dN.map (·.k)).length pna pka pnb pkb LM Q4 S3 TD (dN.map (·.n))[j] (dN.map (·.k))[j]) hg
    (.mem la0<| .rp (GK XG)<| .mem la1<| .rp (GK XG)<| .cond (GK G4)<| .mem la0<| .idx rfl XG<| .mem y1<| .mem lb0<| .idx rfl XG<| .mem y2<| .cond (cS _)<| .cond (cS _)<| .mem la1<| .cond (cS _)<| .cond (cS _)<| .idx rfl G4<| .cond (cS _)<| .mem y3<| .cond (cS _)<| .cond (cS _)<| .mem lb1<| .cond (cS _)<| .cond (cS _)<| .idx rfl G4<| .cond (cS _)<| .mem y4<| .cond (cS _)<| .cond (cS _)<| .cond (cK _) .nil)
   rw[add1 ai]at cz;exact⟨t2,M,cN,rfl,cz⟩)
  (by
   rintro tm M ⟨rfl,hg⟩;obtain⟨t2,cN,cz⟩:=aI (K:=K) (m:=M) (m':=M) SQ (ai8 q1 q2 dN.length (dN.map (·.n)).length LM na) hg (.mem la0<| .rp (by rw[Xz];exact Ed _)<| .cond rfl .nil);exact⟨_,t2,M,g8,cN,rfl,rfl,cz⟩)
  (tm:=t0) (m:=m2) ⟨rfl,e0⟩ ai
 obtain⟨t3,w3,e3⟩:=aR (K:=K) (m:=mm) (m':=mm) (ajc q1 q2) hg .nil;obtain⟨_,t4,m4,he4,hx4,rfl,rfl⟩:=eI (K:=K) (nt:=eY 13) (a:=bX 13 [6]) rows.length
  (Inv:=fun j tm M=>M=mm/\bu [2,3,6] tm=[vP q1 0,vP q2 0,vI j])
  (dm:=fun e tm M=>e= .exit 2/\M=mm)
  (by
   rintro j tm M hj ⟨rfl,hg⟩
   left
   obtain⟨pa,xa,ca,x1,_,y1,oa⟩:=La2.row hj;obtain⟨pb,xb,cb,x2,_,y2,ob⟩:=Lb2.row hj;cases x1;cases x2;have EB:aD pa (0+j*1) M=some (vL xa 0 rows[j].length ca,M):=by rw[Nat.zero_add,Nat.mul_one];exact y1
   have Nh:aD pb (0+j*1) M=some (vL xb 0 rows[j].length cb,M):=by rw[Nat.zero_add,Nat.mul_one];exact y2
   have hlen:=Q5 _ (List.getElem_mem hj);obtain⟨ta,wa,ea⟩:=aR (K:=K) (m:=M) (m':=M) (ajb q1 q2 j rows.length cH _) hg (.mem la2<| .cond (GK hj) .nil);obtain⟨tb,wb,eb⟩:=aR (K:=K) (m:=M) (m':=M) (ai9 q1 q2 j rows.length cH cH pa pb xa xb rows[j].length ca cb) ea (.mem la2<| .idx rfl hj<| .mem EB<| .mem lb2<| .idx rfl hj<| .mem Nh<| .cond (f0 _) .nil);obtain⟨_,tc,mc,hec,hxc,rfl,rfl,hgc⟩:=eI (K:=K) (nt:=eY 13) (a:=bX 13 [6,2,3]) rows[j].length
    (Inv:=fun t tm M'=>M'=M/\bu [2,3,6,7] tm=[vP q1 0,vP q2 0,vI j,vI t])
    (dm:=fun e tm M'=>e= .exit 4/\M'=M/\bu [2,3,6] tm=[vP q1 0,vP q2 0,vI j])
    (by
     rintro t tm M' ht ⟨rfl,hg⟩
     left
     have hv:=List.getElem?_eq_getElem ht;have za:eU 4 xa (0+t*4) M'=some (rows[j][t].val,M'):=dX oa (by rw[Nat.zero_add];exact pj hv) (by rw[fc];omega);have zb:eU 4 xb (0+t*4) M'=some (rows[j][t].val,M'):=dX ob (by rw[Nat.zero_add];exact pj hv) (by rw[fc];omega);have vv:=Ce false false rows[j][t] rows[j][t];rw[V.beq_iff.2 rfl]at vv;obtain⟨t2,cN,cz⟩:=aI (K:=K) (m:=M') (m':=M') B9 (ajh q1 q2 j rows.length cH cH pa pb xa xb rows[j].length ca cb t rows[j][t] rows[j][t] false) hg (.mem la2<| .idx rfl hj<| .mem EB<| .cond (GK ht)<| .mem la2<| .idx rfl hj<| .mem EB<| .idx rfl ht<| .mem za<| .mem lb2<| .idx rfl hj<| .mem Nh<| .idx rfl ht<| .mem zb<| .val vv<| .cond rfl .nil);rw[add1 ai]at cz;exact⟨t2,M',cN,rfl,cz⟩)
    (by
     rintro tm M' ⟨rfl,hg⟩;obtain⟨t2,cN,cz⟩:=aI (K:=K) (m:=M') (m':=M') B9 (ajg q1 q2 j rows.length cH pa xa rows[j].length ca rows[j].length) hg (.mem la2<| .idx rfl hj<| .mem EB<| .cond (Ed _) .nil);exact⟨_,t2,M',g8,cN,rfl,rfl,cz⟩)
    (tm:=tb) (m:=M) ⟨rfl,eb⟩ ai
   obtain⟨td,wd,ed⟩:=aR (K:=K) (m:=mc) (m':=mc) (ajf q1 q2 j) hgc .nil;rw[add1 ai]at ed;exact⟨td,mc,(aA.cut wa (aA.sG U3 U1 (aA.cut wb (aA.fw hxc (aA.done (af aU)))) (.inl rfl) (aA.last wd (af aU)))).code SP,rfl,ed⟩)
  (by
   rintro tm M ⟨rfl,hg⟩;obtain⟨t2,cN,cz⟩:=aI (K:=K) (m:=M) (m':=M) SP (aja q1 q2 rows.length rows.length ES ra) hg (.mem la2<| .cond (Ed _) .nil);exact⟨_,t2,M,g8,cN,rfl,rfl⟩)
  (tm:=t3) (m:=mm) ⟨rfl,e3⟩ ai
 obtain⟨t5,w5,e5⟩:=aR (K:=K) (m:=m4) (m':=m4) (tm:=t4) aji rfl .nil;exact⟨m4,eB ajS (aA.cut w0 (aA.fw DK (aA.cut w3 (aA.fw hx4 (aA.last w5 SO))))) (.inr rfl) e5,pS⟩
end
end Go.AM
namespace Go.AM
set_option maxRecDepth 1000000
open Go Go.Conc Go.Proofs
theorem BL {l l':List (List V)}(h:l.Perm l'):py l=py l':=by
 obtain⟨a1,a2⟩:=lz l;obtain⟨b1,b2⟩:=lz l';exact rW (a1.trans (h.trans b1.symm)) a2 b2
theorem Lj (l:List (List V)):py (rj l)=rj l:=by
 obtain⟨a1,a2⟩:=lz (rj l);exact rW a1 a2 ((xG l).1.imp fun h=>Int.le_of_lt h)
theorem LF (l:List (List V)):rj (l++l)=sT id (py l) l.length:=by
 obtain⟨h1,h2⟩:=lz l;obtain⟨q1,q2,_⟩:=uY h2 l.length (by rw[h1.length_eq];exact aj _);obtain⟨r1,r2⟩:=xG (l++l);refine IX r1 q1 fun x=>?_
 rw[r2,q2,List.take_of_length_le (by rw[h1.length_eq];exact aj _),h1.mem_iff,List.mem_append,or_self]
theorem WR {n c i j:Nat}(hi:i<n)(hj:j<n)(h:(i+c)%n=(j+c)%n):i=j:=by
 have key:∀{a b:Nat},a<=b->b<n->(a+c)%n=(b+c)%n->a=b:=fun{a b} w7 hb h=>by
  have h1:=Nat.div_add_mod (a+c) n;have h2:=Nat.div_add_mod (b+c) n;have hd:n*((b+c) / n)=n*((a+c) / n)+(b-a):=ai;have hq:(b+c) / n=(a+c) / n:=by
   have hle:(a+c) / n<=(b+c) / n:=Nat.div_le_div_right ai;rcases Nat.eq_or_lt_of_le hle with e|e
   ·exact e.symm
   ·have :n*((a+c) / n+1)<=n*((b+c) / n):=Nat.mul_le_mul_left n e;rw[Nat.mul_add,Nat.mul_one]at this;omega
  rw[hq]at hd;omega
 rcases Nat.le_total i j with jq|jq
 ·exact key jq hj h
 ·exact(key jq hi h.symm).symm
theorem K6 (n c:Nat)(hn:0<n):((List.range n).map fun i=>(i+c)%n).Perm (List.range n):=by
 have nd:((List.range n).map fun i=>(i+c)%n).Nodup:=by
  rw[List.Nodup,List.pairwise_map];refine List.Pairwise.imp_of_mem ?_ (List.nodup_range (n:=n));intro a b ha hb w7 e;exact w7 (WR (List.mem_range.1 ha) (List.mem_range.1 hb) e)
 refine(List.perm_ext_iff_of_nodup nd List.nodup_range).2 fun x=>⟨fun hx=>?_,fun hx=>?_⟩
 ·obtain⟨i,_,rfl⟩:=List.mem_map.1 hx;exact List.mem_range.2 (Nat.mod_lt _ hn)
 ·have hx:=List.mem_range.1 hx;refine List.mem_map.2 ⟨(x+(n-c%n))%n,List.mem_range.2 (Nat.mod_lt _ hn),?_⟩;have h1:=Nat.div_add_mod c n;have h2:=Nat.mod_lt c hn;rw[Nat.mod_add_mod,show x+(n-c%n)+c=x+n*(c / n+1) by rw[Nat.mul_add,Nat.mul_one];omega,Nat.add_mul_mod_self_left,Nat.mod_eq_of_lt hx]
def FX (xs:List Int)(n c:Nat):List Int:=(List.range n).map fun i=>xs[(i+c)%n]!
theorem Pn {xs:List Int}{n c:Nat}(hn:n<=xs.length):(FX xs n c).Perm (xs.take n):=by
 rcases Nat.eq_zero_or_pos n with rfl|h0
 ·exact .refl _
 have e:FX xs n c=((List.range n).map fun i=>(i+c)%n).map fun i=>xs[i]!:=by
  unfold FX;rw[List.map_map];rfl
 rw[e];refine((K6 n c h0).map _).trans (List.Perm.of_eq ?_);refine List.ext_getElem (by simp;omega) fun k h1 h2=>?_
 have hk:k<n:=by simpa using h1
 simp only[List.getElem_map,List.getElem_range,List.getElem_take];exact getElem!_pos xs k ai
end Go.AM
namespace Go.AM
set_option maxRecDepth 1000000
open Go Go.Conc Go.Proofs
theorem r9a (ln lc db:Nat)(la:Option Addr)(x:Int):dJ 9 0 7 [0,1] [.slice la ln lc,vI x]
 [.call 10 [.slice la ln lc] (vP db 0),
  aP (nV ln 60) true]
 .normal [0,1,5,6,7,8] [.slice la ln lc,vI x,vP db 0,vI 60,fq,vI 0]:=dc
theorem r9b (ln lc db:Nat)(la:Option Addr)(x:Int):dJ 9 0 7 [0,1] [.slice la ln lc,vI x]
 [.call 10 [.slice la ln lc] (vP db 0),
  aP (nV ln 60) false]
 .normal [0,1,5,6,7,8] [.slice la ln lc,vI x,vP db 0,vI ln,fq,vI 0]:=dc
theorem r9n (pl ln lc db n i k r:Nat)(x y:Int)(sv RN u1:ae):aT 9 [7] 0 99 [0,1,5,6,7,8] [vL pl 0 ln lc,vI x,vP db 0,vI n,sv,vI i]
 [aP (cO i n) true,
  .call 15 [vI x,vI n] (vI k),
  .val (ik Nat.mod .i64 (bL i k) n (gE ab .rem 3 false false (vI (bL i k)) (vI n))) (vI r),
  .idx r ln r,
  .mem (aD pl (0+r*1)) (vI y),
  .mem (bY ab 22 1 [(0,(vI y))]) u1,
  .mem (cZ ab #[22,22] sv u1) RN]
 .normal [0,1,5,6,7,8] [vL pl 0 ln lc,vI x,vP db 0,vI n,RN,vI (bL i 1)]:=dc
theorem r9x (ln lc db n i:Nat)(la:Option Addr)(x:Int)(sv:ae):aT 9 [7] 0 99 [0,1,5,6,7,8] [.slice la ln lc,vI x,vP db 0,vI n,sv,vI i]
 [aP (cO i n) false]
 (.exit 0) [0,1,5,6,7] [.slice la ln lc,vI x,vP db 0,vI n,sv]:=dc
theorem ok9:jy 9 2 [4]=true:=aU
theorem WH:(di (bN 9)).length<=99:=af aU
theorem YX:iP 9 [7]:=aU
section
variable {K:fZ}{m:Mem}{BX:Nat->Prop}
theorem Po (g:Gd m){xs:List Int}{la:Option Addr}{lc db n:Nat}{x:Int}{t0:Tm}(hx:AU BX xs m (.slice la xs.length lc))(hi:KD x)(hn:n<=xs.length)(h60:n<=60)(h0:bu [0,1,5,6,7,8] t0=[.slice la xs.length lc,vI x,vP db 0,vI (n:Int),.slice none 0 0,vI 0]):
  ∃t1 m1 sv,vB K (eY 9) (bX 9 [7]) 100000 ⟨t0,m,[]⟩ (.exit 0) ⟨t1,m1,[]⟩/\bu [0,1,5,6,7] t1=[.slice la xs.length lc,vI x,vP db 0,vI n,sv]/\Kp m m1 fu/\(aX (iX vI) 1).R (jD m m1) (FX xs n (rh x n)) m1 sv:=by
 obtain⟨c,hc⟩:∃c,c=rh x n:=⟨_,rfl⟩;rw[<-hc];obtain⟨e,t1,m1,he,DK,rfl,sv,hg,k1,BA,HX,LA⟩:=eI (K:=K) (nt:=eY 9) (a:=bX 9 [7]) n
  (Inv:=fun j tm M=>∃sv,bu [0,1,5,6,7,8] tm=[.slice la xs.length lc,vI x,vP db 0,vI n,sv,vI j]/\Kp m M fu/\∃BA:Nat->Prop,(∀b,BA b->m.next<=b/\b<M.next)/\Bm (iX vI) 1 BA M ((List.range j).map fun i=>xs[(i+c)%n]!) sv)
  (dm:=fun e tm M=>e= .exit 0/\∃sv,bu [0,1,5,6,7] tm=[.slice la xs.length lc,vI x,vP db 0,vI n,sv]/\Kp m M fu/\∃BA:Nat->Prop,(∀b,BA b->m.next<=b/\b<M.next)/\Bm (iX vI) 1 BA M ((List.range n).map fun i=>xs[(i+c)%n]!) sv)
  (by
   rintro j tm M hj ⟨sv,hg,k0,BA,HX,LA⟩
   left
   have gM:=g.ext k0;have n0:=k0.next;have h0n:0<n:=ai;have hcn:c<n:=by rw[hc];exact Nat.mod_lt _ h0n
   have hr:(j+c)%n<n:=Nat.mod_lt _ h0n;obtain⟨pl,c',ex,lx⟩:=(hx.cf k0).ld (show(j+c)%n<xs.length by omega);cases ex;have e15:=c15 (K:=K) (m:=M) hi h0n;rw[<-hc]at e15;have ev:ik Nat.mod .i64 (bL j c) n (gE ab .rem 3 false false (vI (bL j c)) (vI n))=some (vI (((j+c)%n:Nat):Int)):=by
    rw[lZ ai];exact UO (j+c:Nat) n ai
   obtain⟨m2,m3,RN,e6,g6,k6,e7,k7,L7,xT,n7⟩:=LA.add (t:=22) (x:=xs[(j+c)%n]) (v:=vI xs[(j+c)%n]) (B':=fu) gM g k0 rfl eS HX rfl (fun _ _ h=>h) (fun _ h=>h.elim) ⟨rfl,by simp[ae.cells,ae.oneCell']⟩ (by simp;omega);obtain⟨t2,cN,cz⟩:=aI (K:=K) YX (r9n pl xs.length lc db n j c ((j+c)%n) x xs[(j+c)%n] sv RN _) hg (.cond (GK hj)<| .call e15<| .val ev<| .idx rfl ai<| .mem lx<| .mem e6<| .mem e7 .nil);rw[add1 ai]at cz;refine⟨t2,m3,cN,RN,cz,k0.new k7 (N:=m.next) (aj _) fun b hb=>(HX b hb).1,fun y=>BA y\/fu y\/y=M.next+1,fun b hb=>?_,?_⟩
   ·rcases hb with hb|hb|hb
    ·have :=HX b hb;omega
    ·exact hb.elim
    ·omega
   ·rw[List.range_succ,List.map_append,List.map_cons,List.map_nil,getElem!_pos xs ((j+c)%n) ai];exact L7)
  (by
   rintro tm M ⟨sv,hg,k0,BA,HX,LA⟩;obtain⟨t2,cN,cz⟩:=aI (K:=K) (m:=M) (m':=M) YX (r9x xs.length lc db n n la x sv) hg (.cond (Ed _) .nil);exact⟨_,t2,M,g8,cN,rfl,sv,cz,k0,BA,HX,LA⟩)
  (tm:=t0) (m:=m) ⟨_,h0,.refl _ _,fu,fun _ h=>h.elim,Bm.nil⟩ ai
 exact⟨t1,m1,sv,DK,hg,k1,(aX (iX vI) 1).mono LA.fin HX⟩
end
end Go.AM
namespace Go.AM
set_option maxRecDepth 1000000
open Go Go.Conc Go.Proofs
theorem r9m (db n e eG b13 b16 b19 my na nb nc nd ne ca cb cc cd ce:Nat)(ra rb rc rd re:Option Addr)(sv sa ta sb tb sc tc sd td se te:ae):dJ 9 8 22 [5,6,7] [vP db 0,vI n,sv]
 (.call 10 [sv] (vP e 0)::(rp 4 (.bool false) false (.call 12 [vP db 0,jX (⟨#[83,69,76,69,67,84,32,42,32,70,82,79,77,32,103]⟩)] (.tuple #[.agg #[sa,ta,.slice ra na ca,vI 0],vI 0,vI 0])::mB [some fq,some fq,some fq,some (vI 0)] eG::uE eG 0 [sa,ta,.slice ra na ca,vI 0]:: .call 12 [vP e 0,jX (⟨#[83,69,76,69,67,84,32,42,32,70,82,79,77,32,103]⟩)] (.tuple #[.agg #[sb,tb,.slice rb nb cb,vI 0],vI 0,vI 0])::mB [some fq,some fq,some fq,some (vI 0)] b13::uE b13 0 [sb,tb,.slice rb nb cb,vI 0]:: .call 12 [vP db 0,jX (⟨#[83,69,76,69,67,84,32,42,32,70,82,79,77,32,103,32,85,78,73,79,78,32,65,76,76,32,83,69,76,69,67,84,32,98,44,32,97,32,70,82,79,77,32,103]⟩)] (.tuple #[.agg #[sc,tc,.slice rc nc cc,vI 0],vI 0,vI 0])::mB [some fq,some fq,some fq,some (vI 0)] b16::uE b16 0 [sc,tc,.slice rc nc cc,vI 0]:: .call 12 [vP db 0,jX (⟨#[83,69,76,69,67,84,32,98,32,65,83,32,97,44,32,97,32,65,83,32,98,32,70,82,79,77,32,103,32,85,78,73,79,78,32,65,76,76,32,83,69,76,69,67,84,32,42,32,70,82,79,77,32,103]⟩)] (.tuple #[.agg #[sd,td,.slice rd nd cd,vI 0],vI 0,vI 0])::mB [some fq,some fq,some fq,some (vI 0)] b19::uE b19 0 [sd,td,.slice rd nd cd,vI 0]:: .call 12 [vP db 0,jX (⟨#[83,69,76,69,67,84,32,42,32,70,82,79,77,32,103,32,85,78,73,79,78,32,83,69,76,69,67,84,32,42,32,70,82,79,77,32,103]⟩)] (.tuple #[.agg #[se,te,.slice re ne ce,vI 0],vI 0,vI 0])::mB [some fq,some fq,some fq,some (vI 0)] my::uE my 0 [se,te,.slice re ne ce,vI 0]::uF 4 eG (.agg #[sa,ta,.slice ra na ca,vI 0])::uF 4 b13 (.agg #[sb,tb,.slice rb nb cb,vI 0]):: .call 13 [.agg #[sa,ta,.slice ra na ca,vI 0],.agg #[sb,tb,.slice rb nb cb,vI 0]] (.bool true)::uF 4 b16 (.agg #[sc,tc,.slice rc nc cc,vI 0])::uF 4 b19 (.agg #[sd,td,.slice rd nd cd,vI 0]):: .call 13 [.agg #[sc,tc,.slice rc nc cc,vI 0],.agg #[sd,td,.slice rd nd cd,vI 0]] (.bool true)::(rp 20 (.bool false) false (.mem (aD eG 2) (.slice ra na ca)::(rp 4 (.bool false) false (aP (nK na n) false::aP (nK na n) false:: .mem (aD b16 2) (.slice rc nc cc)::(rp 5 (.bool (nK na n)) false ([aP (nK nc (kQ 2 n)) false])))))))))
 .normal [10,22,27,28] [vP eG 0,vP my 0,vI 0,vI 0]:=dc
theorem aiW (eG my w i na ca:Nat)(ra:Option Addr):aT 9 [22] 0 99 [10,22,27,28] [vP eG 0,vP my 0,vI w,vI i]
 [.mem (aD eG 2) (.slice ra na ca),
  aP (cO i na) false]
 (.exit 2) [10,22,27] [vP eG 0,vP my 0,vI w]:=dc
theorem r9z (my w ne ce:Nat)(re:Option Addr):dJ 9 23 99 [22,27] [vP my 0,vI w]
 [.mem (aD my 2) (.slice re ne ce)]
 .ret [4] [.bool (ie w ne)]:=dc
theorem ai1 (eG my w i k na ne ra re ca ce xa ya za xc yc zc:Nat)(x y u v:V):aT 9 [22] 0 99 [10,22,27,28] [vP eG 0,vP my 0,vI w,vI 0]
 (.mem (aD eG 2) (vL ra 0 na ca)::aP (cO 0 na) true:: .mem (aD eG 2) (vL ra 0 na ca):: .idx 0 na 0:: .mem (aD ra 0) (vL xa 0 2 xc)::(rp 3 (.bool false) false (.mem (aD my 2) (vL re 0 ne ce)::(rp 3 (.bool false) false (aP (cO w ne) true::aP (cO w ne) true:: .mem (aD my 2) (vL re 0 ne ce)::aP (cO w ne) true::aP (cO w ne) true:: .idx w ne w::aP (cO w ne) true:: .mem (aD re (0+w*1)) (vL ya 0 2 yc)::aP (cO w ne) true::aP (cO w ne) true::dx::aP (cO w ne) true::dx::dx::(rp 35 (.bool true) true ([.mem (aD my 2) (vL re 0 ne ce),
  aP (gU w ne) false,
  aP (gU w ne) false,
  .mem (aD my 2) (vL re 0 ne ce),
  aP (gU w ne) false,
  aP (gU w ne) false,
  .idx w ne w,
  aP (gU w ne) false,
  .mem (aD re (0+w*1)) (vL ya 0 2 yc),
  aP (gU w ne) false,
  .idx 0 2 0,
  aP (gU w ne) false,
  uF 4 ya (gZ x),
  aP (gU w ne) false,
  aP (gU w ne) false,
  .mem (aD eG 2) (vL ra 0 na ca),
  aP (gU w ne) false,
  aP (gU w ne) false,
  .idx 0 na 0,
  aP (gU w ne) false,
  .mem (aD ra 0) (vL xa 0 2 xc),
  aP (gU w ne) false,
  .idx 0 2 0,
  aP (gU w ne) false,
  uF 4 xa (gZ x),
  aP (gU w ne) false,
  .val (gE ab .neq 49 false false (gZ x) (gZ x)) (.bool false),
  aP (gU w ne) false,
  dx,
  dx,
  .mem (aD my 2) (vL re 0 ne ce),
  dx,
  dx,
  .idx w ne w,
  dx,
  .mem (aD re (0+w*1)) (vL ya 0 2 yc),
  dx,
  .idx 1 2 1,
  dx,
  .mem (eU 4 ya 4) (gZ y),
  dx,
  dx,
  .mem (aD eG 2) (vL ra 0 na ca),
  dx,
  dx,
  .idx 0 na 0,
  dx,
  .mem (aD ra 0) (vL xa 0 2 xc),
  dx,
  .idx 1 2 1,
  dx,
  .mem (eU 4 xa 4) (gZ y),
  dx,
  .val (gE ab .neq 49 false false (gZ y) (gZ y)) (.bool false),
  dx,
  dx])))))))
 .normal [10,22,27,28] [vP eG 0,vP my 0,vI (bL w 1),vI 1]:=dc
theorem ai0 (eG my w i k na ne ra re ca ce xa ya za xc yc zc:Nat)(x y u v:V):aT 9 [22] 0 99 [10,22,27,28] [vP eG 0,vP my 0,vI w,vI i]
 (.mem (aD eG 2) (vL ra 0 na ca)::aP (cO i na) true:: .mem (aD eG 2) (vL ra 0 na ca):: .idx i na i:: .mem (aD ra (0+i*1)) (vL xa 0 2 xc)::(rp 3 (.bool false) false (.mem (aD my 2) (vL re 0 ne ce)::(rp 3 (.bool false) false (aP (cO w ne) true::aP (cO w ne) true:: .mem (aD my 2) (vL re 0 ne ce)::aP (cO w ne) true::aP (cO w ne) true:: .idx w ne w::aP (cO w ne) true:: .mem (aD re (0+w*1)) (vL ya 0 2 yc)::aP (cO w ne) true::aP (cO w ne) true::dx::aP (cO w ne) true::dx::dx::aP (ie i 0) false::aP (ie i 0) false:: .mem (aD eG 2) (vL ra 0 na ca)::aP (ie i 0) false::aP (ie i 0) false:: .idx i na i::aP (ie i 0) false:: .mem (aD ra (0+i*1)) (vL xa 0 2 xc)::aP (ie i 0) false:: .idx 0 2 0::aP (ie i 0) false::uF 4 xa (gZ x)::aP (ie i 0) false::aP (ie i 0) false:: .mem (aD eG 2) (vL ra 0 na ca)::(rp 3 (.bool (ie i 0)) false (.idx (bQ i 1) na k::aP (ie i 0) false:: .mem (aD ra (0+k*1)) (vL za 0 2 zc)::aP (ie i 0) false:: .idx 0 2 0::aP (ie i 0) false::uF 4 za (gZ u)::aP (ie i 0) false:: .val (gE ab .neq 49 false false (gZ x) (gZ u)) (.bool true)::aP (ie i 0) false::(rp 18 (.bool true) true ([.mem (aD my 2) (vL re 0 ne ce),
  aP (gU w ne) false,
  aP (gU w ne) false,
  .mem (aD my 2) (vL re 0 ne ce),
  aP (gU w ne) false,
  aP (gU w ne) false,
  .idx w ne w,
  aP (gU w ne) false,
  .mem (aD re (0+w*1)) (vL ya 0 2 yc),
  aP (gU w ne) false,
  .idx 0 2 0,
  aP (gU w ne) false,
  uF 4 ya (gZ x),
  aP (gU w ne) false,
  aP (gU w ne) false,
  .mem (aD eG 2) (vL ra 0 na ca),
  aP (gU w ne) false,
  aP (gU w ne) false,
  .idx i na i,
  aP (gU w ne) false,
  .mem (aD ra (0+i*1)) (vL xa 0 2 xc),
  aP (gU w ne) false,
  .idx 0 2 0,
  aP (gU w ne) false,
  uF 4 xa (gZ x),
  aP (gU w ne) false,
  .val (gE ab .neq 49 false false (gZ x) (gZ x)) (.bool false),
  aP (gU w ne) false,
  dx,
  dx,
  .mem (aD my 2) (vL re 0 ne ce),
  dx,
  dx,
  .idx w ne w,
  dx,
  .mem (aD re (0+w*1)) (vL ya 0 2 yc),
  dx,
  .idx 1 2 1,
  dx,
  .mem (eU 4 ya 4) (gZ y),
  dx,
  dx,
  .mem (aD eG 2) (vL ra 0 na ca),
  dx,
  dx,
  .idx i na i,
  dx,
  .mem (aD ra (0+i*1)) (vL xa 0 2 xc),
  dx,
  .idx 1 2 1,
  dx,
  .mem (eU 4 xa 4) (gZ y),
  dx,
  .val (gE ab .neq 49 false false (gZ y) (gZ y)) (.bool false),
  dx,
  dx])))))))))
 .normal [10,22,27,28] [vP eG 0,vP my 0,vI (bL w 1),vI (bL i 1)]:=dc
theorem aiZ (eG my w i k na ne ra re ca ce xa ya za xc yc zc:Nat)(x y u v:V):aT 9 [22] 0 99 [10,22,27,28] [vP eG 0,vP my 0,vI w,vI i]
 (.mem (aD eG 2) (vL ra 0 na ca)::aP (cO i na) true:: .mem (aD eG 2) (vL ra 0 na ca):: .idx i na i:: .mem (aD ra (0+i*1)) (vL xa 0 2 xc)::(rp 3 (.bool false) false (.mem (aD my 2) (vL re 0 ne ce)::(rp 3 (.bool false) false (aP (cO w ne) true::aP (cO w ne) true:: .mem (aD my 2) (vL re 0 ne ce)::aP (cO w ne) true::aP (cO w ne) true:: .idx w ne w::aP (cO w ne) true:: .mem (aD re (0+w*1)) (vL ya 0 2 yc)::aP (cO w ne) true::aP (cO w ne) true::dx::aP (cO w ne) true::dx::dx::aP (ie i 0) false::aP (ie i 0) false:: .mem (aD eG 2) (vL ra 0 na ca)::aP (ie i 0) false::aP (ie i 0) false:: .idx i na i::aP (ie i 0) false:: .mem (aD ra (0+i*1)) (vL xa 0 2 xc)::aP (ie i 0) false:: .idx 0 2 0::aP (ie i 0) false::uF 4 xa (gZ x)::aP (ie i 0) false::aP (ie i 0) false:: .mem (aD eG 2) (vL ra 0 na ca)::(rp 3 (.bool (ie i 0)) false (.idx (bQ i 1) na k::aP (ie i 0) false:: .mem (aD ra (0+k*1)) (vL za 0 2 zc)::aP (ie i 0) false:: .idx 0 2 0::aP (ie i 0) false::uF 4 za (gZ u)::aP (ie i 0) false:: .val (gE ab .neq 49 false false (gZ x) (gZ u)) (.bool false)::aP (ie i 0) false::dx::dx:: .mem (aD eG 2) (vL ra 0 na ca)::dx::dx:: .idx i na i::dx:: .mem (aD ra (0+i*1)) (vL xa 0 2 xc)::dx:: .idx 1 2 1::dx:: .mem (eU 4 xa 4) (gZ y)::dx::dx:: .mem (aD eG 2) (vL ra 0 na ca)::(rp 3 (.bool false) false ([.idx (bQ i 1) na k,
  dx,
  .mem (aD ra (0+k*1)) (vL za 0 2 zc),
  dx,
  .idx 1 2 1,
  dx,
  .mem (eU 4 za 4) (gZ v),
  dx,
  .val (gE ab .neq 49 false false (gZ y) (gZ v)) (.bool true),
  dx,
  zF,
  .mem (aD my 2) (vL re 0 ne ce),
  aP (gU w ne) false,
  aP (gU w ne) false,
  .mem (aD my 2) (vL re 0 ne ce),
  aP (gU w ne) false,
  aP (gU w ne) false,
  .idx w ne w,
  aP (gU w ne) false,
  .mem (aD re (0+w*1)) (vL ya 0 2 yc),
  aP (gU w ne) false,
  .idx 0 2 0,
  aP (gU w ne) false,
  uF 4 ya (gZ x),
  aP (gU w ne) false,
  aP (gU w ne) false,
  .mem (aD eG 2) (vL ra 0 na ca),
  aP (gU w ne) false,
  aP (gU w ne) false,
  .idx i na i,
  aP (gU w ne) false,
  .mem (aD ra (0+i*1)) (vL xa 0 2 xc),
  aP (gU w ne) false,
  .idx 0 2 0,
  aP (gU w ne) false,
  uF 4 xa (gZ x),
  aP (gU w ne) false,
  .val (gE ab .neq 49 false false (gZ x) (gZ x)) (.bool false),
  aP (gU w ne) false,
  dx,
  dx,
  .mem (aD my 2) (vL re 0 ne ce),
  dx,
  dx,
  .idx w ne w,
  dx,
  .mem (aD re (0+w*1)) (vL ya 0 2 yc),
  dx,
  .idx 1 2 1,
  dx,
  .mem (eU 4 ya 4) (gZ y),
  dx,
  dx,
  .mem (aD eG 2) (vL ra 0 na ca),
  dx,
  dx,
  .idx i na i,
  dx,
  .mem (aD ra (0+i*1)) (vL xa 0 2 xc),
  dx,
  .idx 1 2 1,
  dx,
  .mem (eU 4 xa 4) (gZ y),
  dx,
  .val (gE ab .neq 49 false false (gZ y) (gZ y)) (.bool false),
  dx,
  dx])))))))))
 .normal [10,22,27,28] [vP eG 0,vP my 0,vI (bL w 1),vI (bL i 1)]:=dc
theorem aiY (eG my w i k na ne ra re ca ce xa ya za xc yc zc:Nat)(x y u v:V):aT 9 [22] 0 99 [10,22,27,28] [vP eG 0,vP my 0,vI w,vI i]
 (.mem (aD eG 2) (vL ra 0 na ca)::aP (cO i na) true:: .mem (aD eG 2) (vL ra 0 na ca):: .idx i na i:: .mem (aD ra (0+i*1)) (vL xa 0 2 xc)::(rp 3 (.bool false) false (.mem (aD my 2) (vL re 0 ne ce)::(rp 3 (.bool false) false (aP (cO w ne) true::aP (cO w ne) true:: .mem (aD my 2) (vL re 0 ne ce)::aP (cO w ne) true::aP (cO w ne) true:: .idx w ne w::aP (cO w ne) true:: .mem (aD re (0+w*1)) (vL ya 0 2 yc)::aP (cO w ne) true::aP (cO w ne) true::dx::aP (cO w ne) true::dx::dx::aP (ie i 0) false::aP (ie i 0) false:: .mem (aD eG 2) (vL ra 0 na ca)::aP (ie i 0) false::aP (ie i 0) false:: .idx i na i::aP (ie i 0) false:: .mem (aD ra (0+i*1)) (vL xa 0 2 xc)::aP (ie i 0) false:: .idx 0 2 0::aP (ie i 0) false::uF 4 xa (gZ x)::aP (ie i 0) false::aP (ie i 0) false:: .mem (aD eG 2) (vL ra 0 na ca)::(rp 3 (.bool (ie i 0)) false (.idx (bQ i 1) na k::aP (ie i 0) false:: .mem (aD ra (0+k*1)) (vL za 0 2 zc)::aP (ie i 0) false:: .idx 0 2 0::aP (ie i 0) false::uF 4 za (gZ u)::aP (ie i 0) false:: .val (gE ab .neq 49 false false (gZ x) (gZ u)) (.bool false)::aP (ie i 0) false::dx::dx:: .mem (aD eG 2) (vL ra 0 na ca)::dx::dx:: .idx i na i::dx:: .mem (aD ra (0+i*1)) (vL xa 0 2 xc)::dx:: .idx 1 2 1::dx:: .mem (eU 4 xa 4) (gZ y)::dx::dx:: .mem (aD eG 2) (vL ra 0 na ca)::(rp 3 (.bool false) false ([.idx (bQ i 1) na k,
  dx,
  .mem (aD ra (0+k*1)) (vL za 0 2 zc),
  dx,
  .idx 1 2 1,
  dx,
  .mem (eU 4 za 4) (gZ v),
  dx,
  .val (gE ab .neq 49 false false (gZ y) (gZ v)) (.bool false),
  dx,
  dx])))))))))
 .normal [10,22,27,28] [vP eG 0,vP my 0,vI w,vI (bL i 1)]:=dc
theorem aiX (eG my w i k na ne ra re ca ce xa ya za xc yc zc:Nat)(x y u v:V)(rf:Option Addr):aT 9 [22] 0 99 [10,22,27,28] [vP eG 0,vP my 0,vI w,vI i]
 (.mem (aD eG 2) (vL ra 0 na ca)::aP (cO i na) true:: .mem (aD eG 2) (vL ra 0 na ca):: .idx i na i:: .mem (aD ra (0+i*1)) (vL xa 0 2 xc)::(rp 3 (.bool false) false (.mem (aD my 2) (.slice rf ne ce)::(rp 3 (.bool false) false ((rp 7 (.bool (cO w ne)) false (dx::aP (cO w ne) false::dx::dx::aP (ie i 0) false::aP (ie i 0) false:: .mem (aD eG 2) (vL ra 0 na ca)::aP (ie i 0) false::aP (ie i 0) false:: .idx i na i::aP (ie i 0) false:: .mem (aD ra (0+i*1)) (vL xa 0 2 xc)::aP (ie i 0) false:: .idx 0 2 0::aP (ie i 0) false::uF 4 xa (gZ x)::aP (ie i 0) false::aP (ie i 0) false:: .mem (aD eG 2) (vL ra 0 na ca)::(rp 3 (.bool (ie i 0)) false (.idx (bQ i 1) na k::aP (ie i 0) false:: .mem (aD ra (0+k*1)) (vL za 0 2 zc)::aP (ie i 0) false:: .idx 0 2 0::aP (ie i 0) false::uF 4 za (gZ u)::aP (ie i 0) false:: .val (gE ab .neq 49 false false (gZ x) (gZ u)) (.bool false)::aP (ie i 0) false::dx::dx:: .mem (aD eG 2) (vL ra 0 na ca)::dx::dx:: .idx i na i::dx:: .mem (aD ra (0+i*1)) (vL xa 0 2 xc)::dx:: .idx 1 2 1::dx:: .mem (eU 4 xa 4) (gZ y)::dx::dx:: .mem (aD eG 2) (vL ra 0 na ca)::(rp 3 (.bool false) false ([.idx (bQ i 1) na k,
  dx,
  .mem (aD ra (0+k*1)) (vL za 0 2 zc),
  dx,
  .idx 1 2 1,
  dx,
  .mem (eU 4 za 4) (gZ v),
  dx,
  .val (gE ab .neq 49 false false (gZ y) (gZ v)) (.bool false),
  dx,
  dx])))))))))))
 .normal [10,22,27,28] [vP eG 0,vP my 0,vI w,vI (bL i 1)]:=dc
theorem yT:iP 9 [22]:=aU
end Go.AM
namespace Go.AM
set_option maxRecDepth 1000000
open Go Go.Conc Go.Proofs
open Classical in
theorem Hp{α β:Type}[Inhabited α]{f:α→β}{l:List α}{j:Nat}:∀{n:Nat},j≤n→∃r,sT f l n=sT f l j++r
 |0,h=>by
  obtain rfl:j=0:=ai;exact⟨[],(List.append_nil _).symm⟩
 |n+1,h=>by
  rcases Nat.eq_or_lt_of_le h with rfl|h
  ·exact⟨[],(List.append_nil _).symm⟩
  ·obtain⟨r,e⟩:=Hp (f:=f) (l:=l) (show j≤n by omega);refine⟨r++if n=0∨f l[n]!≠f l[n-1]! then[l[n]!]else[],?_⟩
   conv=>lhs;unfold sT
   rw[e,List.append_assoc]
section
variable {K:fZ}{m:Mem}
theorem YQ {x:List V}(h:x.length=2):∃a b,x=[a,b]:=by
 match x,h with
 | [a,b],_=>exact⟨a,b,rfl⟩
theorem xP {b:Nat}{x y:V}(o:Obj m b 4 (fh [x,y])):eU 4 b 0 m=some (x.val,m):=dX o rfl (af rfl)
theorem AI {b:Nat}{x y:V}(o:Obj m b 4 (fh [x,y])):eU 4 b 4 m=some (y.val,m):=dX o rfl (af rfl)
theorem Pk {eG my:Nat}{sa ta se te rv ru:ae}{s:List (List V)}{BO BE QW Ky:Nat->Prop}{t0:Tm}(Ov:∀x∈s,x.length=2)(hl:s.length<9000)(o10:Obj m eG 0 [sa,ta,rv,vI 0])(o22:Obj m my 0 [se,te,ru,vI 0])(L:mz cR 1 BO BE m s rv)(U:mz cR 1 QW Ky m (sT id s s.length) ru)(h0:bu [10,22,27,28] t0=[vP eG 0,vP my 0,vI 0,vI 0]):
  ∃t1,vB K (eY 9) (bX 9 [22]) 100000 ⟨t0,m,[]⟩ (.exit 2) ⟨t1,m,[]⟩/\bu [10,22,27] t1=[vP eG 0,vP my 0,vI ((sT id s s.length).length:Int)]:=by
 obtain⟨D,hD⟩:∃D,D=sT id s s.length:=⟨_,rfl⟩;rw[<-hD]at U⊢;have hDl:D.length<=s.length:=by rw[hD];exact Bi _
 have hD2:∀x∈D,x.length=2:=fun x hx=>Ov x (by rw[hD]at hx;exact Hr (aj _) hx)
 have vo:aD eG 2 m=some (rv,m):=aS o10 rfl;have GV:aD my 2 m=some (ru,m):=aS o22 rfl;obtain⟨e,t1,m1,he,DK,rfl,rfl,hg⟩:=eI (K:=K) (nt:=eY 9) (a:=bX 9 [22]) s.length
  (Inv:=fun j tm M=>M=m/\bu [10,22,27,28] tm=[vP eG 0,vP my 0,vI ((sT id s j).length:Int),vI j])
  (dm:=fun e tm M=>e= .exit 2/\M=m/\bu [10,22,27] tm=[vP eG 0,vP my 0,vI (D.length:Int)])
  (by
   rintro j tm M hj ⟨rfl,hg⟩
   left
   obtain⟨ra,xa,xc,e1,_,y1,oa⟩:=L.row hj;subst e1;obtain⟨x,y,Eh⟩:=YQ (Ov _ (List.getElem_mem hj));rw[Eh]at y1 oa;have EB:aD ra (0+j*1) M=some (vL xa 0 2 xc,M):=by rw[Nat.zero_add,Nat.mul_one];exact y1
   have vx:=Ce false false x x;rw[V.beq_iff.2 rfl]at vx;have vy:=Ce false false y y;rw[V.beq_iff.2 rfl]at vy;obtain⟨w,hw⟩:∃w,w=(sT id s j).length:=⟨_,rfl⟩;have hwj:w<=j:=by rw[hw];exact Bi _
   rw[<-hw]at hg;have sj:s[j]! =s[j]:=getElem!_pos s j hj
   by_cases hn:j=0\/id s[j]!≠id s[j-1]!
   ·obtain⟨r,hr⟩:=Hp (f:=id) (l:=s) (show j+1<=s.length by omega);have hy:=sx hn;rw[hy,sj]at hr;have hwD:w<D.length:=by rw[hD,hr,hw];simp
    have hDw:D[w]=[x,y]:=by
     have :D[w]?=some [x,y]:=by rw[hD,hr,hw,List.append_assoc,List.getElem?_append_right (aj _),Nat.sub_self,Eh];rfl
     rw[List.getElem?_eq_getElem hwD]at this;exact Option.some.inj this
    obtain⟨re,ya,yc,e2,_,y2,oy⟩:=U.row hwD;subst e2;rw[hDw]at y2 oy;have Nh:aD re (0+w*1) M=some (vL ya 0 2 yc,M):=by rw[Nat.zero_add,Nat.mul_one];exact y2
    rw[hy,List.length_append,<-hw]
    show∃cV m',_/\_/\bu [10,22,27,28] cV=[vP eG 0,vP my 0,vI (w+1:Nat),vI (j+1:Nat)]
    rcases Nat.eq_zero_or_pos j with rfl|Jz
    ·have y0:aD ra 0 M=some (vL xa 0 2 xc,M):=y1;obtain⟨t2,cN,cz⟩:=aI (K:=K) (m:=M) (m':=M) yT (ai1 eG my w 0 0 s.length D.length ra re cH cH xa ya 0 xc yc 0 x y x y) hg
      (.mem vo<| .cond (dT (gF (i:=0)))<| .mem vo<| .idx rfl ai<| .mem y0<| .cond rfl<| .cond rfl<| .cond rfl<| .mem GV<| .cond rfl<| .cond rfl<| .cond rfl<| .cond (dT gF)<| .cond (dT gF)<| .mem GV<| .cond (dT gF)<| .cond (dT gF)<| .idx rfl ai<| .cond (dT gF)<| .mem Nh<| .cond (dT gF)<| .cond (dT gF)<| .cond rfl<| .cond (dT gF)<| .cond rfl<| .cond rfl<| .cond rfl<| .cond rfl<| .cond rfl<| .cond rfl<| .cond rfl<| .cond rfl<| .cond rfl<| .cond rfl<| .cond rfl<| .cond rfl<| .cond rfl<| .cond rfl<| .cond rfl<| .cond rfl<| .cond rfl<| .cond rfl<| .cond rfl<| .cond rfl<| .cond rfl<| .cond rfl<| .cond rfl<| .cond rfl<| .cond rfl<| .cond rfl<| .cond rfl<| .cond rfl<| .cond rfl<| .cond rfl<| .cond rfl<| .cond rfl<| .cond rfl<| .cond rfl<| .cond rfl<| .cond rfl<| .cond rfl<| .mem GV<| .cond (dF je)<| .cond (dF je)<| .mem GV<| .cond (dF je)<| .cond (dF je)<| .idx rfl ai<| .cond (dF je)<| .mem Nh<| .cond (dF je)<| .idx rfl ai<| .cond (dF je)<| .mem (xP oy)<| .cond (dF je)<| .cond (dF je)<| .mem vo<| .cond (dF je)<| .cond (dF je)<| .idx rfl ai<| .cond (dF je)<| .mem y0<| .cond (dF je)<| .idx rfl ai<| .cond (dF je)<| .mem (xP oa)<| .cond (dF je)<| .val vx<| .cond (dF je)<| .cond rfl<| .cond rfl<| .mem GV<| .cond rfl<| .cond rfl<| .idx rfl ai<| .cond rfl<| .mem Nh<| .cond rfl<| .idx rfl ai<| .cond rfl<| .mem (AI oy)<| .cond rfl<| .cond rfl<| .mem vo<| .cond rfl<| .cond rfl<| .idx rfl ai<| .cond rfl<| .mem y0<| .cond rfl<| .idx rfl ai<| .cond rfl<| .mem (AI oa)<| .cond rfl<| .val vy<| .cond rfl<| .cond rfl<| .nil)
     rw[add1 ai]at cz;exact⟨t2,M,cN,rfl,cz⟩
    ·obtain⟨k,rfl⟩:∃k,j=k+1:=⟨j-1,ai⟩;have hk:k<s.length:=ai;have dQ:s[k+1]!≠s[k]!:=hn.resolve_left ai;rw[sj,getElem!_pos s k hk,Eh]at dQ;obtain⟨ra',za,zc,e3,_,y3,oz⟩:=L.row hk;cases e3;obtain⟨u,v,huv⟩:=YQ (Ov _ (List.getElem_mem hk));rw[huv]at y3 oz dQ;have Yz:aD ra (0+k*1) M=some (vL za 0 2 zc,M):=by rw[Nat.zero_add,Nat.mul_one];exact y3
     have vM:bQ (k+1:Nat) 1=Int.ofNat k:=xr ⟨ai,ai⟩|>.trans (by show((k+1:Nat):Int)-1=(k:Int);omega)
     by_cases hxu:x=u
     ·subst hxu;have hyv:y≠v:=fun h=>dQ (by rw[h])
      have vv:=Ce false false y v;rw[show y.beq v=false from by cases hb:y.beq v with |false=>rfl|true=>exact absurd (V.beq_iff.1 hb) hyv]at vv;obtain⟨t2,cN,cz⟩:=aI (K:=K) (m:=M) (m':=M) yT (aiZ eG my w (k+1) k s.length D.length ra re cH cH xa ya za xc yc zc x y x v) hg
       (.mem vo<| .cond (GK hj)<| .mem vo<| .idx rfl ai<| .mem EB<| .cond rfl<| .cond rfl<| .cond rfl<| .mem GV<| .cond rfl<| .cond rfl<| .cond rfl<| .cond (dT gF)<| .cond (dT gF)<| .mem GV<| .cond (dT gF)<| .cond (dT gF)<| .idx rfl ai<| .cond (dT gF)<| .mem Nh<| .cond (dT gF)<| .cond (dT gF)<| .cond rfl<| .cond (dT gF)<| .cond rfl<| .cond rfl<| .cond (dF (a8 _ _))<| .cond (dF (a8 _ _))<| .mem vo<| .cond (dF (a8 _ _))<| .cond (dF (a8 _ _))<| .idx rfl ai<| .cond (dF (a8 _ _))<| .mem EB<| .cond (dF (a8 _ _))<| .idx rfl ai<| .cond (dF (a8 _ _))<| .mem (xP oa)<| .cond (dF (a8 _ _))<| .cond (dF (a8 _ _))<| .mem vo<| .cond (dF (a8 _ _))<| .cond (dF (a8 _ _))<| .cond (dF (a8 _ _))<| .idx vM hk<| .cond (dF (a8 _ _))<| .mem Yz<| .cond (dF (a8 _ _))<| .idx rfl ai<| .cond (dF (a8 _ _))<| .mem (xP oz)<| .cond (dF (a8 _ _))<| .val vx<| .cond (dF (a8 _ _))<| .cond rfl<| .cond rfl<| .mem vo<| .cond rfl<| .cond rfl<| .idx rfl ai<| .cond rfl<| .mem EB<| .cond rfl<| .idx rfl ai<| .cond rfl<| .mem (AI oa)<| .cond rfl<| .cond rfl<| .mem vo<| .cond rfl<| .cond rfl<| .cond rfl<| .idx vM hk<| .cond rfl<| .mem Yz<| .cond rfl<| .idx rfl ai<| .cond rfl<| .mem (AI oz)<| .cond rfl<| .val vv<| .cond rfl<| .cond rfl<| .mem GV<| .cond (dF je)<| .cond (dF je)<| .mem GV<| .cond (dF je)<| .cond (dF je)<| .idx rfl ai<| .cond (dF je)<| .mem Nh<| .cond (dF je)<| .idx rfl ai<| .cond (dF je)<| .mem (xP oy)<| .cond (dF je)<| .cond (dF je)<| .mem vo<| .cond (dF je)<| .cond (dF je)<| .idx rfl ai<| .cond (dF je)<| .mem EB<| .cond (dF je)<| .idx rfl ai<| .cond (dF je)<| .mem (xP oa)<| .cond (dF je)<| .val vx<| .cond (dF je)<| .cond rfl<| .cond rfl<| .mem GV<| .cond rfl<| .cond rfl<| .idx rfl ai<| .cond rfl<| .mem Nh<| .cond rfl<| .idx rfl ai<| .cond rfl<| .mem (AI oy)<| .cond rfl<| .cond rfl<| .mem vo<| .cond rfl<| .cond rfl<| .idx rfl ai<| .cond rfl<| .mem EB<| .cond rfl<| .idx rfl ai<| .cond rfl<| .mem (AI oa)<| .cond rfl<| .val vy<| .cond rfl<| .cond rfl<| .nil)
      rw[add1 ai,add1 ai]at cz;exact⟨t2,M,cN,rfl,cz⟩
     ·have vv:=Ce false false x u;rw[show x.beq u=false from by cases hb:x.beq u with |false=>rfl|true=>exact absurd (V.beq_iff.1 hb) hxu]at vv;obtain⟨t2,cN,cz⟩:=aI (K:=K) (m:=M) (m':=M) yT (ai0 eG my w (k+1) k s.length D.length ra re cH cH xa ya za xc yc zc x y u v) hg
       (.mem vo<| .cond (GK hj)<| .mem vo<| .idx rfl ai<| .mem EB<| .cond rfl<| .cond rfl<| .cond rfl<| .mem GV<| .cond rfl<| .cond rfl<| .cond rfl<| .cond (dT gF)<| .cond (dT gF)<| .mem GV<| .cond (dT gF)<| .cond (dT gF)<| .idx rfl ai<| .cond (dT gF)<| .mem Nh<| .cond (dT gF)<| .cond (dT gF)<| .cond rfl<| .cond (dT gF)<| .cond rfl<| .cond rfl<| .cond (dF (a8 _ _))<| .cond (dF (a8 _ _))<| .mem vo<| .cond (dF (a8 _ _))<| .cond (dF (a8 _ _))<| .idx rfl ai<| .cond (dF (a8 _ _))<| .mem EB<| .cond (dF (a8 _ _))<| .idx rfl ai<| .cond (dF (a8 _ _))<| .mem (xP oa)<| .cond (dF (a8 _ _))<| .cond (dF (a8 _ _))<| .mem vo<| .cond (dF (a8 _ _))<| .cond (dF (a8 _ _))<| .cond (dF (a8 _ _))<| .idx vM hk<| .cond (dF (a8 _ _))<| .mem Yz<| .cond (dF (a8 _ _))<| .idx rfl ai<| .cond (dF (a8 _ _))<| .mem (xP oz)<| .cond (dF (a8 _ _))<| .val vv<| .cond (dF (a8 _ _))<| .cond rfl<| .cond rfl<| .cond rfl<| .cond rfl<| .cond rfl<| .cond rfl<| .cond rfl<| .cond rfl<| .cond rfl<| .cond rfl<| .cond rfl<| .cond rfl<| .cond rfl<| .cond rfl<| .cond rfl<| .cond rfl<| .cond rfl<| .cond rfl<| .mem GV<| .cond (dF je)<| .cond (dF je)<| .mem GV<| .cond (dF je)<| .cond (dF je)<| .idx rfl ai<| .cond (dF je)<| .mem Nh<| .cond (dF je)<| .idx rfl ai<| .cond (dF je)<| .mem (xP oy)<| .cond (dF je)<| .cond (dF je)<| .mem vo<| .cond (dF je)<| .cond (dF je)<| .idx rfl ai<| .cond (dF je)<| .mem EB<| .cond (dF je)<| .idx rfl ai<| .cond (dF je)<| .mem (xP oa)<| .cond (dF je)<| .val vx<| .cond (dF je)<| .cond rfl<| .cond rfl<| .mem GV<| .cond rfl<| .cond rfl<| .idx rfl ai<| .cond rfl<| .mem Nh<| .cond rfl<| .idx rfl ai<| .cond rfl<| .mem (AI oy)<| .cond rfl<| .cond rfl<| .mem vo<| .cond rfl<| .cond rfl<| .idx rfl ai<| .cond rfl<| .mem EB<| .cond rfl<| .idx rfl ai<| .cond rfl<| .mem (AI oa)<| .cond rfl<| .val vy<| .cond rfl<| .cond rfl<| .nil)
      rw[add1 ai,add1 ai]at cz;exact⟨t2,M,cN,rfl,cz⟩
   ·have Jz:j≠0:=fun h=>hn (.inl h)
    have heq:id s[j]! =id s[j-1]!:=Classical.byContradiction fun h=>hn (.inr h)
    have hy:=zq Jz heq;obtain⟨k,rfl⟩:∃k,j=k+1:=⟨j-1,ai⟩;have hk:k<s.length:=ai;have heq:s[k+1]! =s[k]!:=heq;rw[sj,getElem!_pos s k hk,Eh]at heq;obtain⟨ra',za,zc,e3,_,y3,oz⟩:=L.row hk;cases e3;rw[<-heq]at y3 oz;have Yz:aD ra (0+k*1) M=some (vL za 0 2 zc,M):=by rw[Nat.zero_add,Nat.mul_one];exact y3
    have vM:bQ (k+1:Nat) 1=Int.ofNat k:=xr ⟨ai,ai⟩|>.trans (by show((k+1:Nat):Int)-1=(k:Int);omega);rw[hy,<-hw];have hwD:w<=D.length:=by
     obtain⟨r,hr⟩:=Hp (f:=id) (l:=s) (show k+1<=s.length by omega);rw[hD,hr,hw];simp
    rcases Nat.lt_or_eq_of_le hwD with cB|TR
    ·obtain⟨re,ya,yc,e2,_,y2,oy⟩:=U.row cB;subst e2;rw[hD2 _ (List.getElem_mem cB)]at y2;have Nh:aD re (0+w*1) M=some (vL ya 0 2 yc,M):=by rw[Nat.zero_add,Nat.mul_one];exact y2
     obtain⟨t2,cN,cz⟩:=aI (K:=K) (m:=M) (m':=M) yT (aiY eG my w (k+1) k s.length D.length ra re cH cH xa ya za xc yc zc x y x y) hg
      (.mem vo<| .cond (GK hj)<| .mem vo<| .idx rfl ai<| .mem EB<| .cond rfl<| .cond rfl<| .cond rfl<| .mem GV<| .cond rfl<| .cond rfl<| .cond rfl<| .cond (dT gF)<| .cond (dT gF)<| .mem GV<| .cond (dT gF)<| .cond (dT gF)<| .idx rfl ai<| .cond (dT gF)<| .mem Nh<| .cond (dT gF)<| .cond (dT gF)<| .cond rfl<| .cond (dT gF)<| .cond rfl<| .cond rfl<| .cond (dF (a8 _ _))<| .cond (dF (a8 _ _))<| .mem vo<| .cond (dF (a8 _ _))<| .cond (dF (a8 _ _))<| .idx rfl ai<| .cond (dF (a8 _ _))<| .mem EB<| .cond (dF (a8 _ _))<| .idx rfl ai<| .cond (dF (a8 _ _))<| .mem (xP oa)<| .cond (dF (a8 _ _))<| .cond (dF (a8 _ _))<| .mem vo<| .cond (dF (a8 _ _))<| .cond (dF (a8 _ _))<| .cond (dF (a8 _ _))<| .idx vM hk<| .cond (dF (a8 _ _))<| .mem Yz<| .cond (dF (a8 _ _))<| .idx rfl ai<| .cond (dF (a8 _ _))<| .mem (xP oz)<| .cond (dF (a8 _ _))<| .val vx<| .cond (dF (a8 _ _))<| .cond rfl<| .cond rfl<| .mem vo<| .cond rfl<| .cond rfl<| .idx rfl ai<| .cond rfl<| .mem EB<| .cond rfl<| .idx rfl ai<| .cond rfl<| .mem (AI oa)<| .cond rfl<| .cond rfl<| .mem vo<| .cond rfl<| .cond rfl<| .cond rfl<| .idx vM hk<| .cond rfl<| .mem Yz<| .cond rfl<| .idx rfl ai<| .cond rfl<| .mem (AI oz)<| .cond rfl<| .val vy<| .cond rfl<| .cond rfl<| .nil)
     rw[add1 ai]at cz;exact⟨t2,M,cN,rfl,cz⟩
    ·obtain⟨ua,uc,hu⟩:=U.form;subst hu;rw[<-TR]at GV;obtain⟨t2,cN,cz⟩:=aI (K:=K) (m:=M) (m':=M) yT (aiX eG my w (k+1) k s.length w ra 0 cH uc xa 0 za xc 0 zc x y x y ua) hg
      (.mem vo<| .cond (GK hj)<| .mem vo<| .idx rfl ai<| .mem EB<| .cond rfl<| .cond rfl<| .cond rfl<| .mem GV<| .cond rfl<| .cond rfl<| .cond rfl<| .cond (Ed _)<| .cond (Ed _)<| .cond (Ed _)<| .cond (Ed _)<| .cond (Ed _)<| .cond (Ed _)<| .cond (Ed _)<| .cond rfl<| .cond (Ed _)<| .cond rfl<| .cond rfl<| .cond (dF (a8 _ _))<| .cond (dF (a8 _ _))<| .mem vo<| .cond (dF (a8 _ _))<| .cond (dF (a8 _ _))<| .idx rfl ai<| .cond (dF (a8 _ _))<| .mem EB<| .cond (dF (a8 _ _))<| .idx rfl ai<| .cond (dF (a8 _ _))<| .mem (xP oa)<| .cond (dF (a8 _ _))<| .cond (dF (a8 _ _))<| .mem vo<| .cond (dF (a8 _ _))<| .cond (dF (a8 _ _))<| .cond (dF (a8 _ _))<| .idx vM hk<| .cond (dF (a8 _ _))<| .mem Yz<| .cond (dF (a8 _ _))<| .idx rfl ai<| .cond (dF (a8 _ _))<| .mem (xP oz)<| .cond (dF (a8 _ _))<| .val vx<| .cond (dF (a8 _ _))<| .cond rfl<| .cond rfl<| .mem vo<| .cond rfl<| .cond rfl<| .idx rfl ai<| .cond rfl<| .mem EB<| .cond rfl<| .idx rfl ai<| .cond rfl<| .mem (AI oa)<| .cond rfl<| .cond rfl<| .mem vo<| .cond rfl<| .cond rfl<| .cond rfl<| .idx vM hk<| .cond rfl<| .mem Yz<| .cond rfl<| .idx rfl ai<| .cond rfl<| .mem (AI oz)<| .cond rfl<| .val vy<| .cond rfl<| .cond rfl<| .nil)
     rw[add1 ai]at cz;exact⟨t2,M,cN,rfl,cz⟩)
  (by
   rintro tm M ⟨rfl,hg⟩;obtain⟨ua,uc,hu⟩:=L.form;subst hu;obtain⟨t2,cN,cz⟩:=aI (K:=K) (m:=M) (m':=M) yT (aiW eG my (sT id s s.length).length s.length s.length uc ua) hg (.mem vo<| .cond (Ed _) .nil);rw[<-hD]at cz;exact⟨_,t2,M,g8,cN,rfl,rfl,cz⟩)
  (tm:=t0) (m:=m) ⟨rfl,h0⟩ ai
 exact⟨t1,DK,hg⟩
end
end Go.AM
namespace Go.AM
set_option maxRecDepth 1000000
open Go Go.Conc Go.Proofs
section
variable {K:fZ}{m:Mem}{B BX:Nat->Prop}
structure QX (dN:List FN)(rows:List (List V))(lo b:Nat)(nv kv:ae)(ra:Option Addr)(rc:Nat)(m:Mem):Prop where
 obj:Obj m b 0 [nv,kv,.slice ra rows.length rc,vI 0]
 ans:qe (fun y=>lo<=y/\y<m.next) dN rows 0 m (.agg #[nv,kv,.slice ra rows.length rc,vI 0])
 lob:lo<=b
theorem QX.ext{lo b rc:Nat}{dN:List FN}{rows:List (List V)}{nv kv:ae}{ra:Option Addr}{m':Mem}{S:Nat->Prop}(h:QX dN rows lo b nv kv ra rc m)(k:Kp m m' S)(hS:∀y,S y->y<lo):QX dN rows lo b nv kv ra rc m':=by
 have n:=k.next;have hl:=h.lob;exact⟨h.obj.ext k fun hb=>by have :=hS _ hb;omega,qe.mono (h.ans.ext k fun b hb e=>by have :=hb.1;have :=hS _ e;omega) fun b hb=>⟨hb.1,by have :=hb.2;omega⟩,hl⟩
theorem QX.rows{lo b rc:Nat}{dN:List FN}{rows:List (List V)}{nv kv:ae}{ra:Option Addr}(h:QX dN rows lo b nv kv ra rc m):∃BO BE:Nat->Prop,mz cR 1 BO BE m rows (.slice ra rows.length rc):=by
 obtain⟨_,_,_,e,_,_,BO,BE,L,_⟩:=h.ans;cases e;exact⟨BO,BE,L⟩
theorem xC {W:Nat->Prop}{T:ByteArray}{db mp pe pg cg:Nat}{d:CD}{q:Nat->pR}{tr rows:List (List V)}(hK:FL K)(OI:Ck K d)(hd:QD d q)(hd4:d=Wx\/d=Sp\/d=Ww\/d=Sm)(cm:Calm m)(hG:Gl m)(rN:sK m db mp)(hh:m.home<=db)(hT:Rh K T d.A (.iface 108 d.sv))(D:FM W m mp pe pg cg tr)(Em:¬W db)(hq:QOk (EJ pg tr) (q pg))(hr:py (oC (EJ pg tr) (sL (q pg)))=rows):
  ∃nv kv ra c m1 m2 m3,Ev K 12 [vP db 0,.string T] m (.tuple #[.agg #[nv,kv,.slice ra rows.length c,vI 0],vI 0,vI 0]) m1/\lU [some (.slice none 0 0),some (.slice none 0 0),some (.slice none 0 0),some (vI 0)] m1=some (vP m1.next 0,m2)/\DT m1.next 0 [nv,kv,.slice ra rows.length c,vI 0] m2=some (undef,m3)/\Kp m m3 (fun y=>y=db)/\sK m3 db mp/\QX sA rows m.next m1.next nv kv ra c m3:=by
 obtain⟨v,m1,e1,k1,GB,A⟩:=alY (K:=K) hK OI hd cm hG rN hh hT D Em hq (qsv hd4);rw[hr]at A;obtain⟨nv,kv,rv,rfl,q1,q2,BO,BE,q3,q4⟩:=A;obtain⟨ra,c,rfl⟩:=q3.form;have hy:([nv,kv,.slice ra rows.length c,vI 0].all (·.oneCell'))=true:=by
  simp[(aX.lj q1).2,(aX.lj q2).2];exact⟨rfl,rfl⟩
 obtain⟨m2,m3,e2,e3,o3,k3,n3⟩:=ly (cm.ext k1).gd [.slice none 0 0,.slice none 0 0,.slice none 0 0,vI 0] [nv,kv,.slice ra rows.length c,vI 0] rfl hy;have n1:=k1.next;have n3':=k3.next;refine⟨nv,kv,ra,c,m1,m2,m3,e1,e2,e3,k1.aZ k3,⟨GB.1.cf k3,by rw[k3.base];exact GB.2⟩,o3,?_,ai⟩;exact qe.mono (qe.ext ⟨nv,kv,_,rfl,q1,q2,BO,BE,q3,q4⟩ k3 fun _ _ h=>h) fun b hb=>⟨hb.1,by have :=hb.2;omega⟩
theorem FM.ext'{W:Nat->Prop}{db mp pe pg cg:Nat}{tr:List (List V)}{m':Mem}(h:FM W m mp pe pg cg tr)(Em:¬W db)(k:Kp m m' (fun y=>y=db)):FM W m' mp pe pg cg tr:=h.ext k fun b hb e=>Em (e▸hb)
set_option maxHeartbeats 4000000 in
theorem c9(hB:BK K)(cm:Calm m)(hG:Gl m){xs:List Int}{xv:ae}{x:Int}(hx:AU BX xs m xv)(ml:∀x∈xs,KD x)(hi:KD x):
  ∃m',Ev K 9 [xv,vI x] m (.bool true) m'/\Calm m':=by
 obtain⟨la,lc,hxv⟩:=hx.form;subst hxv;obtain⟨n,hn⟩:∃n,n=min xs.length 60:=⟨_,rfl⟩;have Xz:n<=xs.length:=ai;have akE:n<=60:=ai;obtain⟨m1,db,mp,pe,pg,cg,W,VK,k1,GB,D1,Mt,uV,jd⟩:=c10 (K:=K) hB cm hG hx ml;have n1:=k1.next;have h0:∃t0,vC K (eY 9) (vu (bN 9) 0 7) ⟨entry [.slice la xs.length lc,vI x],m,[]⟩ .normal ⟨t0,m1,[]⟩/\bu [0,1,5,6,7,8] t0=[.slice la xs.length lc,vI x,vP db 0,vI (n:Int),.slice none 0 0,vI 0]:=by
  by_cases h:60<xs.length
  ·have :n=60:=ai;rw[this];exact aR (K:=K) (m:=m) (m':=m1) (tm:=entry [.slice la xs.length lc,vI x]) (r9a xs.length lc db la x) rfl (.call VK<| .cond (dT (qP (j:=60)) h) .nil)
  ·have :n=xs.length:=ai;rw[this];exact aR (K:=K) (m:=m) (m':=m1) (tm:=entry [.slice la xs.length lc,vI x]) (r9b xs.length lc db la x) rfl (.call VK<| .cond (dF (qP (j:=60)) h) .nil)
 obtain⟨t0,w0,e0⟩:=h0;have J4:=cm.ext k1;obtain⟨t1,m2,sv,DK,hg1,k2,xT⟩:=Po (K:=K) J4.gd (hx.cf k1) hi Xz akE e0;have pS:=k1.aZ k2;have OW:=cm.ext pS;have n2:=k2.next;obtain⟨ys,Zh⟩:∃ys,ys=FX xs n (rh x n):=⟨_,rfl⟩;rw[<-Zh]at xT;have mj:ys.Perm (xs.take n):=by rw[Zh];exact Pn Xz
 have Xn:ys.length=n:=by rw[mj.length_eq,List.length_take];omega
 have akj:∀y∈ys,KD y:=fun y hy=>ml y (List.mem_of_mem_take (mj.mem_iff.1 hy))
 obtain⟨m3,db2,mp2,pe2,pg2,cg2,W2,alr,k3,SU,D3,akU,amA,akH⟩:=c10 (K:=K) hB OW (hG.cf pS) (.inr xT) akj;have n3:=k3.next;have KC:=k2.aZ k3;have qN:=k1.aZ KC;have w8:=cm.ext qN;have ZP:=hG.cf qN;obtain⟨P,hP⟩:∃P,P=(xs.take n).map oA:=⟨_,rfl⟩;have hP1:(xs.take 60).map oA=P:=by
  rw[hP]
  by_cases h:xs.length<=60
  ·rw[List.take_of_length_le h,List.take_of_length_le ai]
  ·rw[show n=60 by omega]
 have hP2:((ys.take 60).map oA).Perm P:=by rw[List.take_of_length_le ai,hP];exact mj.map _
 obtain⟨Q,hQ⟩:∃Q,Q=(ys.take 60).map oA:=⟨_,rfl⟩;rw[hP1]at D1;rw[<-hQ]at D3 hP2;have hPl:P.length=n:=by rw[hP,List.length_map,List.length_take];omega
 have hQl:Q.length=n:=hP2.length_eq.trans hPl;have hS1:=D1.ext KC fun _ _ h=>h
 have agB:sK m3 db mp:=⟨GB.1.cf KC,by rw[KC.base];exact GB.2⟩;have amC:=GB.1.lt;have amj:=SU.1.lt;have akl:¬W db2:=fun h=>by have :=D1.lt _ h;omega
 have akk:¬W2 db:=fun h=>by have :=akH _ h;omega
 have hq:=hG.hn;have hh:=qN.home;obtain⟨s,hs⟩:∃s,s=py (P.map eA):=⟨_,rfl⟩;have Xs:=(lz (P.map eA)).1;rw[<-hs]at Xs;have wY:s.length=n:=by rw[Xs.length_eq,List.length_map,hPl]
 have Ov:∀x∈s,x.length=2:=fun x hx=>by
  obtain⟨y,_,rfl⟩:=List.mem_map.1 (Xs.mem_iff.1 hx);rfl
 obtain⟨na,ka,ra,ca,u1,u2,m4,ea1,ea2,ea3,k4,agy,A4⟩:=xC (K:=K) (T:=tx1) (rows:=s) hB.fD (hB.ck _ (.inr (.inl rfl))) qd1 (.inl rfl) w8 ZP agB ai hB.rd1 hS1 Mt (af2 ai) (by rw[O2,hs]);have n4:=k4.next;have agz:sK m4 db2 mp2:=⟨SU.1.ext k4 ai,by rw[k4.base];exact SU.2⟩;have HZ:=w8.ext k4;have hG4:Gl m4:=ZP.ext k4 fun y e=>by omega
 obtain⟨nb,kb,rb,cb,v1,v2,m5,eb1,eb2,eb3,k5,agx,A5⟩:=xC (K:=K) (T:=tx1) (rows:=s) hB.fD (hB.ck _ (.inr (.inl rfl))) qd1 (.inl rfl) HZ hG4 agz (by rw[k4.home];omega) hB.rd1 (D3.ext' akk k4) akU (af2 ai) (by rw[O2,hs];exact BL (hP2.map _));have n5:=k5.next;have agA:sK m5 db mp:=⟨agy.1.ext k5 ai,by rw[k5.base];exact agy.2⟩;have cm5:=HZ.ext k5;have hh4:=k4.home;have hG5:Gl m5:=hG4.ext k5 fun y e=>by omega
 have ahC:=(hS1.ext' Mt k4).ext' akl k5;obtain⟨w2,Jp⟩:∃w2,w2=py (P.map eA++P.map fun x=>eA (RL x)):=⟨_,rfl⟩;have hwl:w2.length=2*n:=by rw[Jp,(lz _).1.length_eq,List.length_append,List.length_map,List.length_map,hPl];omega
 obtain⟨nc,kc,rc,cc,x1,x2,m6,ec1,ec2,ec3,k6,WI,A6⟩:=xC (K:=K) (T:=tx2) (rows:=w2) hB.fD (hB.ck _ (.inr (.inr (.inl rfl)))) qd2 (.inr (.inl rfl)) cm5 hG5 agA (by rw[k5.home,k4.home];omega) hB.rd2 ahC Mt (ajq ai) (by rw[Z9,Jp]);have n6:=k6.next;have AP:=cm5.ext k6;have hh5:=k5.home;have hG6:Gl m6:=hG5.ext k6 fun y e=>by omega
 have ahB:=ahC.ext' Mt k6;obtain⟨nd,kd,rd,cd,y1,y2,m7,ed1,ed2,ed3,k7,ajU,A7⟩:=xC (K:=K) (T:=tx3) (rows:=w2) hB.fD (hB.ck _ (.inr (.inr (.inr (.inl rfl))))) qd3 (.inr (.inr (.inl rfl))) AP hG6 WI (by rw[k6.home,k5.home,k4.home];omega) hB.rd3 ahB Mt (ajp ai) (by rw[Z8,Jp];exact BL List.perm_append_comm);have n7:=k7.next;have cm7:=AP.ext k7;have hh6:=k6.home;have hG7:Gl m7:=hG6.ext k7 fun y e=>by omega
 have alc:=ahB.ext' Mt k7;obtain⟨ne,ke,re,ce,z1,z2,m8,ee1,ee2,ee3,k8,amn,A8⟩:=xC (K:=K) (T:=tx4) (rows:=sT id s s.length) hB.fD (hB.ck _ (.inr (.inr (.inr (.inr rfl))))) qd4 (.inr (.inr (.inr rfl))) cm7 hG7 ajU (by rw[k7.home,k6.home,k5.home,k4.home];omega) hB.rd4 alc Mt (ajo ai) (by rw[Z7,Lj,LF,<-hs,<-Xs.length_eq]);have n8:=k8.next;have cm8:=cm7.ext k8;have W7:∀y,y=db->y<m3.next:=fun y e=>by omega
 have lo2:∀y,y=db2->y<m3.next:=fun y e=>by omega
 have le:∀{S:Nat->Prop}{a b:Nat},(∀y,S y->y<a)->a<=b->∀y,S y->y<b:=fun h w7 y hy=>by have :=h y hy;omega
 have A48:=((((A4.ext k5 lo2).ext k6 W7).ext k7 W7).ext k8 W7);have A58:=(((A5.ext k6 (le W7 n4)).ext k7 (le W7 n4)).ext k8 (le W7 n4));have A68:=((A6.ext k7 (le W7 ai)).ext k8 (le W7 ai));have A78:=(A7.ext k8 (le W7 ai));obtain⟨m9,e13,k9⟩:=c13 (K:=K) cm8.gd A48.ans A58.ans (af rfl) ai (fun x hx=>by rw[Ov x hx];decide);have hw3:∀x∈w2,x.length<9000:=fun x hx=>by
  rw[Jp]at hx;have hx:=(lz _).1.mem_iff.1 hx;rcases List.mem_append.1 hx with h|h<;>obtain⟨y,_,rfl⟩:=List.mem_map.1 h<;>exact af rfl
 have no:∀{a:Nat} y,fu y->y<a:=fun y h=>h.elim
 obtain⟨LP,alq,Jk⟩:=c13 (K:=K) (cm8.ext k9).gd (A68.ext k9 no).ans (A78.ext k9 no).ans (af rfl) ai hw3;have adv:=(A48.ext k9 no).ext Jk no;have ame:=(A68.ext k9 no).ext Jk no;have adu:=(A8.ext k9 no).ext Jk no;have ld:∀{m:Mem}{b:Nat}{a c d e:ae},Obj m b 0 [a,c,d,e]->eU 4 b 0 m=some (.agg #[a,c,d,e],m):=fun o=>dX o rfl (af rfl)
 have l2:∀{m:Mem}{b:Nat}{a c d e:ae},Obj m b 0 [a,c,d,e]->aD b 2 m=some (d,m):=fun o=>aS o rfl
 have hmul:kQ 2 (n:Int)=((2*n:Nat):Int):=by rw[N5 ⟨ai,ai⟩];omega
 have akD:¬((w2.length:Int)≠kQ 2 (n:Int)):=by rw[hmul,hwl];simp
 have CL:¬((s.length:Int)≠(n:Int)):=by rw[wY];simp
 obtain⟨t3,w3,e3⟩:=aR (K:=K) (m:=m2) (m':=LP) (tm:=t1) (r9m db n db2 u1.next v1.next x1.next y1.next z1.next s.length s.length w2.length w2.length (sT id s s.length).length ca cb cc cd ce ra rb rc rd re sv na ka nb kb nc kc nd kd ne ke)
  (by
   have :=congrArg (fun l=>l.drop 2) hg1;exact this)
  (.call alr<| .cond rfl<| .cond rfl<| .cond rfl<| .cond rfl<| .call ea1<| .mem ea2<| .mem ea3<| .call eb1<| .mem eb2<| .mem eb3<| .call ec1<| .mem ec2<| .mem ec3<| .call ed1<| .mem ed2<| .mem ed3<| .call ee1<| .mem ee2<| .mem ee3<| .mem (ld A48.obj)<| .mem (ld A58.obj)<| .call e13<| .mem (ld (A68.ext k9 no).obj)<| .mem (ld (A78.ext k9 no).obj)<| .call alq<| .cond rfl<| .cond rfl<| .cond rfl<| .cond rfl<| .cond rfl<| .cond rfl<| .cond rfl<| .cond rfl<| .cond rfl<| .cond rfl<| .cond rfl<| .cond rfl<| .cond rfl<| .cond rfl<| .cond rfl<| .cond rfl<| .cond rfl<| .cond rfl<| .cond rfl<| .cond rfl<| .mem (l2 adv.obj)<| .cond rfl<| .cond rfl<| .cond rfl<| .cond rfl<| .cond (dF (jk _ _) CL)<| .cond (dF (jk _ _) CL)<| .mem (l2 ame.obj)<| .cond (dF (jk _ _) CL)<| .cond (dF (jk _ _) CL)<| .cond (dF (jk _ _) CL)<| .cond (dF (jk _ _) CL)<| .cond (dF (jk _ _) CL)<| .cond (dF (jk _ _) akD)<| .nil)
 obtain⟨BO4,BE4,L4⟩:=adv.rows;obtain⟨BO8,BE8,L8⟩:=adu.rows;obtain⟨t4,hx4,hg4⟩:=Pk (K:=K) Ov ai adv.obj adu.obj L4 L8 e3;obtain⟨t5,w5,e5⟩:=aR (K:=K) (m:=LP) (m':=LP) (tm:=t4) (r9z z1.next (sT id s s.length).length (sT id s s.length).length ce re) (by
   have :=congrArg (fun l=>l.drop 1) hg4;exact this) (.mem (l2 adu.obj) .nil)
 rw[a8,AA rfl]at e5;exact⟨LP,eB ok9 (aA.cut w0 (aA.fw DK (aA.cut w3 (aA.fw hx4 (aA.last w5 WH))))) (.inr rfl) e5,(cm8.ext k9).ext Jk⟩
end
end Go.AM
