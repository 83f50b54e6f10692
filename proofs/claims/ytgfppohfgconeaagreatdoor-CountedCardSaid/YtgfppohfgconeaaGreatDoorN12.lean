/-
  What the claim stands on, part 12.
-/
import Derived.Test.YtgfppohfgconeaaGreatDoorN11
set_option linter.unusedVariables false
set_option linter.unusedSimpArgs false
open Go.Proofs.Tryz renaming prog → ab
open Go renaming Value → ae, World → ay
open Nat renaming le_of_ble_eq_true → af, le_refl → ai, eq_of_beq_eq_true → az
open Bool renaming and_eq_true → ag
open Prod.mk renaming injEq → au
open Option renaming map_eq_some_iff → aB
open List renaming all_eq_true → aE, mem_cons → aR
namespace Go.AM
set_option maxRecDepth 1000000
open Go Go.Conc Go.Proofs
theorem afv (p d b2 b6 cb mb ub un uc:Nat)(a w b a2 w2 c2:ae)(gz:Bool)(e:Int):eS 148 0 5 [0,1] [.agg #[vP p 0,.bool true,a,w,b,vL ub 0 un uc],vP d 0]
 [dZ [some (vP p 0),some (.bool true),some a,some w,some b,some (vL ub 0 un uc)] b2,
  .mem (aT b2 5) (vL ub 0 un uc),
  .idx 0 un 0,
  iO 4 ub (.agg #[.bool gz,a2,w2,c2]),
  dZ [some (.bool false),some kB,some .nilIface,some kB] b6,
  jQ b6 0 [.bool gz,a2,w2,c2],
  .mem (aT b6 0) (.bool gz),
  .mem xm (.map (some mb)),
  dZ [some (.bool gz),some (.map (some mb)),some kB,some kB] cb,
  .mem (fg 3 b2 2) (.agg #[a,w,b]),
  .call 198 [vP cb 0,.agg #[a,w,b],vP d 0] (vI e)]
 .normal [1,2,6,7,8,9] [vP d 0,vP b2 0,vP b6 0,vP cb 0,vI e,vI 1]:=iD
theorem afu (d b2 b6 cb p k fn fc:Nat)(fa:Option Addr)(a w b:ae)(e:Int):eA 148 [5] 0 99 [1,2,6,7,8,9] [vP d 0,vP b2 0,vP b6 0,vP cb 0,vI 0,vI k]
 ((rp 4 (.bool true) true (.mem (aT cb 2) (.slice fa fn fc)::(rp 3 (.bool true) true ([bu (sV fn 0) true,
  bu (sV k 200) false,
  .mem (aT b2 0) (vP p 0),
  .mem (aT cb 2) (.slice fa fn fc),
  pT,
  .mem (jI p 1 (.slice fa fn fc)) undef,
  .mem (fg 3 b6 1) (.agg #[a,w,b]),
  .call 198 [vP cb 0,.agg #[a,w,b],vP d 0] (vI e)])))))
 .normal [1,2,6,7,8,9] [vP d 0,vP b2 0,vP b6 0,vP cb 0,vI e,vI (eh k 1)]:=iD
theorem aft (d b2 b6 cb k fn fc:Nat)(fa:Option Addr):eA 148 [5] 0 99 [1,2,6,7,8,9] [vP d 0,vP b2 0,vP b6 0,vP cb 0,vI 0,vI k]
 ((rp 4 (.bool true) true (.mem (aT cb 2) (.slice fa fn fc)::(rp 3 (.bool true) true ([bu (sV fn 0) true,
  bu (sV k 200) true])))))
 .ret [4,5] [kB,vI 10]:=iD
theorem afs (cb fn fc:Nat)(fa:Option Addr):eA 148 [5] 0 99 [7,8] [vP cb 0,vI 0]
 ((rp 4 (.bool true) true (.mem (aT cb 2) (.slice fa fn fc)::(rp 3 (.bool true) true ([bu (sV fn 0) false])))))
 (.exit 0) [7,8] [vP cb 0,vI 0]:=iD
theorem afr (cb:Nat)(v:ae):eS 148 6 99 [7,8] [vP cb 0,vI 0]
 [dH,
  .mem (aT cb 3) v]
 .ret [4,5] [v,vI 0]:=iD
theorem aaf:lF 148 2 [4,5]=true:=bG
theorem PQ:(dK (bV 148)).length<=99:=af bG
theorem Yk:iW (bV 148) 5=some (0,(fT 148 [5])):=bG
theorem Gk:tI 148 [5]:=bG
theorem Yn:kl (jx 148) (bV 148) (fT 148 [5]) 5 0=true:=bG
def uX (p:Nat)(rows:List (List V))(Tb:Nat->Option (List (List V)))(q:Nat):Option (List (List V)):=if q=p then some rows else Tb q
inductive Xp (T:List (List V)->Nat->Option (List (List V)))(gz:Bool)(s:sw):Nat->List (List V)->List (List V)->List (List V)->Nat->Prop
 |done {k:Nat}{all:List (List V)}:Xp T gz s k [] all all 0
 |over {k:Nat}{f all:List (List V)} (h0:f≠[]) (hk:200<k):Xp T gz s k f all [] 10
 |step {k e:Nat}{f all res:List (List V)} (h0:f≠[]) (hk:k<=200) (ok:pQ (T f) s) (h1:gz=false->∀x∈eW (T f) s,x.length=1) (hl:(all++lJ gz all (eW (T f) s)).length<=1000)
   (n:Xp T gz s (k+1) (lJ gz all (eW (T f) s)) (all++lJ gz all (eW (T f) s)) res e):Xp T gz s k f all res e
theorem Tw {m:Mem}(g:Gd m):∃m',xm m=some (.map (some m.next),m')/\oD m' m.next []/\Kp m m' eQ/\m'.next=m.next+1:=by
 refine⟨m.alloc {kind:=2},rfl,⟨Nat.lt_succ_self _,?_,?_,g.fresh (ai _),g.hn⟩,⟨Nat.le_succ _,rfl,rfl,rfl,rfl,rfl,rfl,rfl,rfl,fun x hx _=>by rw[Mem.cf,bZ aj]⟩,rfl⟩
 ·rw[Mem.cf,bK rfl]
 ·rw[Mem.cf,bK rfl];rfl
section
variable {K:gI}{m:Mem}{B BT SB:Nat->Prop}{p d:Nat}{gz:Bool}{Tb:Nat->Option (List (List V))}
theorem alP (hK:Ej K)(cm:Calm m){iP:List (List Nat)}{cs:List ae}{bo bm:Nat->Option Nat}{al am:Option Nat}{rl:ae}(D:dg m d SB iP cs bo al bm am rl)(uM:∀b,SB b->b<m.next){cl rl0 xa xw xb xu:ae}(op:Obj m p 0 [cl,rl0])(wp:Own m p)(YK:¬SB p)
  {first again:sw}{res:List (List V)}{er:Nat}(hb:pJ.R B (first,[(gz,again)]) m (.agg #[xa,xw,xb,xu]))(jL:fM BT Tb m)(mP:∀b,B b\/BT b->¬SB b/\b≠p/\b<m.next)(ep:pQ Tb first)(h1:gz=false->∀x∈eW Tb first,x.length=1)
  (hl:(lJ gz [] (eW Tb first)).length<=1000)(hr:Xp (fun f=>uX p f Tb) gz again 1 (lJ gz [] (eW Tb first)) (lJ gz [] (eW Tb first)) res er):
  ∃m' sv Eg tB gL uT pP Dr Ee Kk AE,Ev K 148 [.agg #[vP p 0,.bool true,xa,xw,xb,xu],vP d 0] m (.tuple #[sv,vI er]) m'/\Kp m m' (fun b=>SB b\/b=p)/\dg m' d Eg tB gL uT pP Dr Ee Kk/\
   (aW bS 1).R AE res m' sv/\(∀b,AE b->¬Eg b/\m.next<=b/\b<m'.next)/\(∀b,Eg b->(SB b\/m.next<=b)/\b<m'.next)/\∃r,Obj m' p 0 [cl,r]:=by
 obtain⟨_,_,_,xu',e,nX,mr⟩:=hb;cases e;obtain⟨ub,uc,u,ucs,e,hub,ou,hu1,hu2,hu,ov⟩:=aW.get (j:=0) mr (Nat.lt_succ_self 0);cases e;obtain⟨ya,yw,yb,rfl,hag⟩:=hu;have g:=cm.gd;obtain⟨b2,ado⟩:∃b,b=m.next:=⟨_,rfl⟩;obtain⟨m1,e1,o1,k1,n1,_⟩:=aY g [vP p 0,.bool true,xa,xw,xb,vL ub 0 1 uc];rw[<-ado]at e1 o1;obtain⟨m2,m3,e2,e3,o3,k3,n3⟩:=kY (g.ext k1) [.bool false,.slice none 0 0,.nilIface,.slice none 0 0] [.bool gz,ya,yw,yb] rfl (aE.2 fun y hy=>ov.2 y hy);obtain⟨b6,hb6⟩:∃b,b=m1.next:=⟨_,rfl⟩;rw[<-hb6]at e2 e3 o3;have jX:=k1.aS k3;have wF:=cm.ext jX;have n03:=jX.next;obtain⟨m4,e4,s4,k4,n4⟩:=Tw wF.gd;obtain⟨mb,Jf⟩:∃b,b=m3.next:=⟨_,rfl⟩;rw[<-Jf]at e4 s4;obtain⟨m5,e5,o5,k5,n5,_⟩:=aY (wF.gd.ext k4) [.bool gz,.map (some mb),.slice none 0 0,.slice none 0 0];obtain⟨cb,hcb⟩:∃b,b=m4.next:=⟨_,rfl⟩;rw[<-hcb]at e5 o5;have k35:=k4.aS k5;have sL:=jX.aS k35;have n05:=sL.next;have o15:=((o1.aU k3).aU k4).aU k5;have o35:=(o3.aU k4).aU k5;have C5:sA m3 m5 cb mb gz SB eQ eQ eQ [] [] [] (.slice none 0 0) (.slice none 0 0):=
  ⟨o5,.inl ⟨rfl,rfl⟩,.inl ⟨rfl,rfl⟩,fun h=>absurd rfl h,aW.nil,fun _=>s4.ext k5 id,fun _ x hx=>(by cases hx),aj,fun b hb=>by
   have hb:b=cb\/b=mb:=by rcases hb with h|h|h|h|h<;>first |exact .inl h|exact .inr h|exact h.elim
   exact⟨fun h=>by have :=uM b h;omega,aj,aj⟩,fun b h=>h.elim,fun b h=>h.elim,fun b h=>h.elim⟩
 have alb:∀b,B b\/BT b->¬SB b/\b<m5.next:=fun b hb=>⟨(mP b hb).1,by have :=(mP b hb).2.2;omega⟩
 obtain⟨m6,SB6,aeE,cs6,bo6,al6,bm6,am6,rl6,FO6,AO6,E6,fv6,av6,e6,k6,D6,C6,hS6⟩:=aiq (K:=K) hK wF k35 (D.aU sL) C5 (uf.ext nX sL fun _ _ h=>h) (jL.ext sL fun _ _ h=>h) alb ep h1 hl;rw[List.nil_append]at C6;have k6':Kp m5 m6 (fun b=>SB b\/m3.next<=b):=k6.mono fun b hb h=>by
  rcases h with h|h|h|h|h
  ·exact .inl h
  ·exact .inr aj
  ·exact .inr aj
  ·exact h.elim
  ·exact h.elim
 obtain⟨t0,w0,g0⟩:=cj (K:=K) (m:=m) (m':=m6) (tm:=entry [.agg #[vP p 0,.bool true,xa,xw,xb,vL ub 0 1 uc],vP d 0]) (afv p d b2 b6 cb mb ub 1 uc xa xw xb ya yw yb gz 0) rfl
  (.mem e1<| .mem (aO o1 rfl)<| .idx rfl (Nat.lt_succ_self 0)<| .mem (bY (vs:=[.bool gz,ya,yw,yb]) (ou.aU k1) hu1 aj)<| .mem e2<| .mem e3<| .mem (aO o3 rfl)<| .mem e4<| .mem e5<| .mem (bY (vs:=[xa,xw,xb]) o15 rfl (af rfl))<| .call e6 .nil)
 have K6:Kp m3 m6 (fun b=>SB b\/b=p):=(k35.vF (S:=fun b=>SB b\/b=p)).trans k6' fun b hb h=> .inl (h.resolve_right aj)
 have n6:=K6.next;have dd:=op.lt;obtain⟨e,t1,m7,he,hx,SB7,Z6,cs7,bo7,al7,bm7,am7,rl7,K7,D7,hS7,or7,Ja⟩:=qq (K:=K) (nt:=jx 148) (a:=fT 148 [5])
  (Inv:=fun n tm M=>∃k f all O3 No Hj bo1 al1 bm1 am1 rl1 HP AO1 E1 Qi av1,n=202-k/\k<=201/\dM [1,2,6,7,8,9] tm=[vP d 0,vP b2 0,vP b6 0,vP cb 0,vI 0,vI (k:Nat)]/\Kp m3 M (fun b=>SB b\/b=p)/\dg M d O3 No Hj bo1 al1 bm1 am1 rl1/\
   sA m3 M cb mb gz O3 HP AO1 E1 f all all Qi av1/\(∀b,O3 b->(SB b\/m3.next<=b)/\b<M.next)/\(∃r,Obj M p 0 [cl,r])/\Xp (fun f=>uX p f Tb) gz again k f all res er)
  (dG:=fun e tm M=>∃O3 No Hj bo1 al1 bm1 am1 rl1,Kp m3 M (fun b=>SB b\/b=p)/\dg M d O3 No Hj bo1 al1 bm1 am1 rl1/\(∀b,O3 b->(SB b\/m3.next<=b)/\b<M.next)/\(∃r,Obj M p 0 [cl,r])/\
   ((e= .exit 0/\er=0/\dM [7,8] tm=[vP cb 0,vI 0]/\∃HP AO1 E1 Qi av1 f,sA m3 M cb mb gz O3 HP AO1 E1 f res res Qi av1)\/(e= .ret/\res=[]/\dM [4,5] tm=[.slice none 0 0,vI er])))
  (by
   rintro n tm M ⟨k,f,all,O3,No,Hj,bo1,al1,bm1,am1,rl1,HP,AO1,E1,Qi,av1,rfl,On,hg,KM,DM,CM,hSM,⟨r,opM⟩,hr⟩;obtain⟨fa,fc,hfv⟩:=CM.f.form;subst hfv;have nM:=KM.next;have OQ:=wF.ext KM;have k0M:Kp m M (fun b=>SB b\/b=p):=(jX.vF (S:=fun b=>SB b\/b=p)).trans KM fun _ _ h=>h
   have lf:aT cb 2 M=some (.slice fa f.length fc,M):=aO CM.ob rfl;cases hr with
   |done=>
    right
    have GX:dM [7,8] tm=[vP cb 0,vI 0]:=by
     simp only[dM,List.map_cons,List.map_nil,List.cons.injEq,and_true]at hg⊢;exact⟨hg.2.2.2.1,hg.2.2.2.2.1⟩
    obtain⟨t2,gm,gA⟩:=bL (K:=K) (m:=M) (m':=M) Gk (afs cb 0 fc fa) GX (.rp rfl<| .mem lf<| .rp rfl<| .cond (dF (Ku (i:=0) (j:=0))) .nil);exact⟨_,t2,M,nU,gm,_,_,_,_,_,_,_,_,KM,DM,hSM,⟨r,opM⟩,.inl ⟨rfl,rfl,gA,_,_,_,_,_,_,CM⟩⟩
   |over h0 hk=>
    right
    have HF:0<f.length:=List.length_pos_iff.2 h0;obtain⟨t2,gm,gA⟩:=bL (K:=K) (m:=M) (m':=M) Gk (aft d b2 b6 cb k f.length fc fa) hg (.rp rfl<| .mem lf<| .rp rfl<| .cond (dT (Ku (i:=f.length) (j:=0)) HF)<| .cond (dT (Ku (i:=k) (j:=200)) hk) .nil);exact⟨_,t2,M,nU,gm,_,_,_,_,_,_,_,_,KM,DM,hSM,⟨r,opM⟩,.inr ⟨rfl,rfl,gA⟩⟩
   |step h0 hk YN hh1 Xg hn=>
    left
    have HF:0<f.length:=List.length_pos_iff.2 h0;have nSp:¬O3 p:=fun h=>by have :=(hSM p h).1;rcases this with h|h;exact YK h;omega
    have zM:=CM.z;have zp:∀b,b=cb\/b=mb\/HP b\/AO1 b\/E1 b->¬b=p:=fun b hb e=>by have :=(zM b hb).2.1;omega
    have Y1:∀b,b=b2\/b=b6->¬(SB b\/b=p)/\¬O3 b/\b<m3.next:=fun b hb=>by
     have h3:¬SB b:=fun h=>by have :=uM b h;omega
     exact⟨fun h=>h.elim h3 fun h=>by omega,fun h=>(hSM b h).1.elim h3 fun h=>by omega,aj⟩
    obtain⟨M1,e1',DJ,k1'⟩:=lQ (o:=1) (.slice fa f.length fc) opM (((wp.ext k0M)).may _ _) (af rfl) rfl;have n1':=k1'.next;have DJ:Obj M1 p 0 [cl,.slice fa f.length fc]:=DJ;have K1:Kp m3 M1 (fun b=>SB b\/b=p):=KM.trans k1' fun _ _ h=> .inr h
    have k01:Kp m M1 (fun b=>SB b\/b=p):=k0M.trans k1' fun _ _ h=> .inr h
    have D1:=DM.ext k1' fun b hb e=>nSp (e▸hb)
    have C1:=CM.ext k1' zp;have hS1:∀b,O3 b->(SB b\/m3.next<=b)/\b<M1.next:=fun b hb=>⟨(hSM b hb).1,by have :=(hSM b hb).2;omega⟩
    have ahX:∀b,B b\/BT b->¬(SB b\/b=p):=fun b hb h=>h.elim (mP b hb).1 (mP b hb).2.1
    have hT1:fM (fun b=>BT b\/b=p\/HP b\/E1 b) (uX p f Tb) M1:=by
     intro q rows hq;unfold uX at hq
     split at hq
     ·rename_i e;subst e;cases hq;exact⟨.inr (.inl rfl),cl,_,DJ,(aW bS 1).mono (C1.fx h0) fun b hb=> .inr (.inr hb)⟩
     ·obtain⟨h1,c1,r1,h2,h3⟩:=(jL.ext k01 fun b hb=>ahX b (.inr hb)) q rows hq;exact⟨.inl h1,c1,r1,h2,(aW bS 1).mono h3 fun b hb=> .inl hb⟩
    have alc:∀b,B b\/(BT b\/b=p\/HP b\/E1 b)->¬O3 b/\b<M1.next:=fun b hb=>by
     have h0:∀b,B b\/BT b->¬O3 b/\b<M1.next:=fun b hb=>by
      have h:=mP b hb;have :=k01.next;exact⟨fun h'=>(hS1 b h').1.elim h.1 fun h'=>by omega,aj⟩
     rcases hb with h|h|h|h|h
     ·exact h0 b (.inl h)
     ·exact h0 b (.inr h)
     ·exact⟨by rw[h];exact nSp,by have :=k01.next;omega⟩
     ·have :=C1.z b (.inr (.inr (.inl h)));exact⟨this.1,this.2.2⟩
     ·have :=C1.z b (.inr (.inr (.inr (.inr h))));exact⟨this.1,this.2.2⟩
    obtain⟨M2,SB2,aeF,Rl,bo2,al2,bm2,am2,rl2,FO2,AO2,E2,Mk,av2,Wh,k2',D2,C2,hS2⟩:=aiq (K:=K) hK wF K1 D1 C1 (uf.ext hag k01 fun b hb=>ahX b (.inl hb)) hT1 alc YN hh1 Xg;have zC:=C1.z;have Om:∀b,b<m3.next->(O3 b\/b=cb\/b=mb\/HP b\/AO1 b)->SB b:=fun b hb h=>by
     rcases h with h|h|h|h|h
     ·exact(hS1 b h).1.resolve_right aj
     ·omega
     ·omega
     ·have :=(zC b (.inr (.inr (.inl h)))).2.1;omega
     ·have :=(zC b (.inr (.inr (.inr (.inl h))))).2.1;omega
    have K2:Kp m3 M2 (fun b=>SB b\/b=p):=K1.trans k2' fun b hb h=> .inl (Om b hb h)
    have o2b:∀{b sz:Nat}{l:List ae},(b=b2\/b=b6)->Obj m3 b sz l->Obj M1 b sz l:=fun hb o=>o.ext K1 (Y1 _ hb).1
    have l2:aT b2 0 M=some (vP p 0,M):=aO (((o1.aU k3)).ext KM (Y1 _ (.inl rfl)).1) rfl;have l6:fg 3 b6 1 M1=some (.agg #[ya,yw,yb],M1):=bY (vs:=[ya,yw,yb]) (o2b (.inr rfl) o3) rfl (af rfl);have n2':=k2'.next;obtain⟨t2,gm,gA⟩:=bL (K:=K) (m:=M) (m':=M2) Gk (afu d b2 b6 cb p k f.length fc fa ya yw yb 0) hg
     (.rp rfl<| .mem lf<| .rp rfl<| .cond (dT (Ku (i:=f.length) (j:=0)) HF)<| .cond (dF (Ku (i:=k) (j:=200)))<| .mem l2<| .mem lf<| .mem (bP OQ.gd)<| .mem e1'<| .mem l6<| .call Wh .nil)
    rw[add1 aj]at gA;refine⟨202-(k+1),t2,M2,aj,gm,k+1,_,_,SB2,aeF,Rl,bo2,al2,bm2,am2,rl2,FO2,AO2,E2,Mk,av2,rfl,aj,gA,K2,D2,C2,fun b hb=>?_,⟨_,DJ.ext k2' fun h=>YK (Om p aj h)⟩,hn⟩;have :=hS2 b hb;exact⟨this.1.elim (fun h=>(hS1 b h).1) fun h=> .inr (by have :=K1.next;omega),this.2⟩)
  (n:=201) (k:=100000) (tm:=t0) (m:=m6) ⟨1,_,_,SB6,aeE,cs6,bo6,al6,bm6,am6,rl6,FO6,AO6,E6,fv6,av6,rfl,aj,g0,K6,D6,C6,fun b hb=>⟨(hS6 b hb).1.imp id fun h=>by omega,(hS6 b hb).2⟩,⟨rl0,((op.aU jX).aU k35).ext k6' fun h=>h.elim YK fun h=>by omega⟩,hr⟩ aj
 have n7:=K7.next;have Km:=(jX.vF (S:=fun b=>SB b\/b=p)).trans K7 fun _ _ h=>h
 have ahO:∀b,SB7 b->(SB b\/m.next<=b)/\b<m7.next:=fun b hb=>⟨(hS7 b hb).1.imp id fun h=>by omega,(hS7 b hb).2⟩
 rcases Ja with⟨rfl,rfl,hg7,FO7,AO7,E7,fv7,av7,fr7,C7⟩|⟨rfl,rfl,hg7⟩
 ·obtain⟨t2,h2,Wh⟩:=cj (K:=K) (m:=m7) (m':=m7) (afr cb av7) hg7 (.cond rfl<| .mem (aO C7.ob rfl) .nil);exact⟨m7,av7,SB7,Z6,cs7,bo7,al7,bm7,am7,rl7,fun b=>AO7 b\/E7 b,fW aaf (aQ.cut w0 (aQ.sK hx (aQ.last h2 PQ))) (.inr rfl) Wh,Km,D7,C7.ax,fun b hb=>by
   have :=C7.z b (.inr (.inr (.inr hb)));exact⟨this.1,aj,this.2.2⟩,ahO,or7⟩
 ·exact⟨m7,_,SB7,Z6,cs7,bo7,al7,bm7,am7,rl7,eQ,fW aaf (aQ.cut w0 (aQ.ES Yk Yn hx bG)) (.inr rfl) hg7,Km,D7,aW.nil,fun b hb=>hb.elim,ahO,or7⟩
end
end Go.AM
namespace Go.AM
set_option maxRecDepth 1000000
open Go Go.Conc Go.Proofs
theorem afA (p d b2 n c s1:Nat)(a w b us:ae)(ra:Option Addr):eS 114 0 99 [0,1] [.agg #[vP p 0,.bool false,a,w,b,us],vP d 0]
 [dZ [some (vP p 0),some (.bool false),some a,some w,some b,some us] b2,
  .mem (fg 4 b2 2) (.agg #[a,w,b,us]),
  .mem (aT b2 1) (.bool false),
  dH,
  .mem (aT b2 0) (vP p 0),
  .mem (gj (vP b2 0)) (vI s1),
  pT,
  .fw (.func (.func 115) #[.agg #[a,w,b,us]] #[]) [vP d 0] (.tuple #[.slice ra n c,vI 0]),
  .mem (cW (vI s1) (vP b2 0) (eI ab 147 (vP b2 0))) undef,
  pT,
  .mem (jI p 1 (.slice ra n c)) undef]
 .ret [4] [vI 0]:=iD
theorem afz (p d b2 n c s1 er:Nat)(a w b us:ae)(ra:Option Addr):eS 114 0 99 [0,1] [.agg #[vP p 0,.bool true,a,w,b,us],vP d 0]
 [dZ [some (vP p 0),some (.bool true),some a,some w,some b,some us] b2,
  .mem (fg 4 b2 2) (.agg #[a,w,b,us]),
  .mem (aT b2 1) (.bool true),
  lN,
  iO 6 b2 (.agg #[vP p 0,.bool true,a,w,b,us]),
  .mem (aT b2 0) (vP p 0),
  .mem (gj (vP b2 0)) (vI s1),
  pT,
  .fw (.func (.func 148) #[.agg #[vP p 0,.bool true,a,w,b,us]] #[]) [vP d 0] (.tuple #[.slice ra n c,vI er]),
  .mem (cW (vI s1) (vP b2 0) (eI ab 147 (vP b2 0))) undef,
  pT,
  .mem (jI p 1 (.slice ra n c)) undef]
 .ret [4] [vI er]:=iD
theorem aag:lF 114 2 [4]=true:=bG
theorem EL:(dK (bV 114)).length<=99:=af bG
def WT (m m':Mem)(d:Nat)(SB S:Nat->Prop)(res:List (List V))(sv:ae):Prop:=
 ∃Eg rows cs bo al bm am rl AE,Kp m m' S/\dg m' d Eg rows cs bo al bm am rl/\(aW bS 1).R AE res m' sv/\(∀b,AE b->¬Eg b/\m.next<=b/\b<m'.next)/\∀b,Eg b->(SB b\/m.next<=b)/\b<m'.next
section
variable {K:gI}{m0 m:Mem}{B BT S SB:Nat->Prop}{p d:Nat}{Tb:Nat->Option (List (List V))}{v:ae}
theorem aaM (hK:Ej K)(cm:Calm m){iP:List (List Nat)}{cs:List ae}{bo bm:Nat->Option Nat}{al am:Option Nat}{rl:ae}(D:dg m d SB iP cs bo al bm am rl){s:sw}(hb:pJ.R B (s,[]) m v)(jL:fM BT Tb m)(mP:∀b,B b\/BT b->¬SB b/\b<m.next)
  (ep:pQ Tb s)(h0:eW Tb s≠[]):
  ∃sv m',Ev K 115 [v,vP d 0] m (.tuple #[sv,vI 0]) m'/\WT m m' d SB SB (eW Tb s) sv/\∃BO BE:Nat->Prop,mz bS 1 BO BE m' (eW Tb s) sv/\∀b,BO b\/BE b->m.next<=b/\b<m'.next:=by
 obtain⟨xs,xw,xi,uv,rfl,nX,mr⟩:=hb;obtain⟨D0,OA⟩:=D.exact;have hf0:∀b,B b\/BT b->¬Am d bo bm al am b/\b<m.next:=fun b hb=>⟨fun h=>(mP b hb).1 (OA b h).1,(mP b hb).2⟩
 obtain⟨ua,uc,rfl⟩:=aW.form mr;obtain⟨b2,ado⟩:∃b,b=m.next:=⟨_,rfl⟩;obtain⟨m1,e1,o1,k1,n1,_⟩:=aY cm.gd [xs,xw,xi,.slice ua 0 uc];rw[<-ado]at e1 o1;have CL:=cm.ext k1;have l1:fg 3 b2 0 m1=some (.agg #[xs,xw,xi],m1):=bY (vs:=[xs,xw,xi]) o1 rfl (af rfl);obtain⟨_,_,_,e,q1,q2,q3⟩:=uf.ext nX k1 fun _ _ h=>h
 cases e;obtain⟨rv,m2,tB,gL,uT,pP,Dr,Ee,Kk,e2,k2,D2,qr,L9⟩:=aaL hK CL (D0.aU k1) q1 q2 q3 (jL.ext k1 fun _ _ h=>h) (fun b hb=>⟨(hf0 b hb).1,by have :=(hf0 b hb).2;omega⟩) ep.src ep.join ep.jl ep.wh ep.max ep.rM ep.il;have Ws:=CL.ext k2;have n2:=k2.next;obtain⟨D3,Y4⟩:=D2.exact;have ym:(eW Tb s).length<=1000:=by
  have :(eW Tb s).length<=0+(jj Tb s.2.1 (jy Tb s.1 0 [eO])).length:=xd (fun i=>ai _) _ _ [];have :=ep.max;omega
 rw[show xB Tb s.2.2 (jj Tb s.2.1 (jy Tb s.1 0 [eO]))=eW Tb s from rfl]at qr;obtain⟨sv,m3,e3,k3,L3,q3'⟩:=aiu (K:=K) Ws.gd qr (fun h=>absurd h h0) (fun b h=>h.2) aj;have n3:=k3.next;have akW:¬Am d bo bm al am b2:=fun h=>by have :=(OA _ h).2.1;omega
 have l2:aT b2 3 m3=some (.slice ua 0 uc,m3):=aO ((o1.ext k2 akW).aU k3) rfl;have mn:Kp m m2 SB:=k1.vF.trans (k2.mono (S':=SB) fun b hb h=>(OA b h).1) fun _ _ h=>h
 have D4:=D3.aU k3;obtain⟨_,hD4⟩:=D4.exact;obtain⟨t0,w0,e0⟩:=cj (K:=K) (m:=m) (m':=m3) (tm:=entry [.agg #[xs,xw,xi,.slice ua 0 uc],vP d 0]) (afy d 0 uc ua xs xw xi rv sv b2) rfl (.mem e1<| .mem l1<| .call e2<| .cond rfl<| .call e3<| .mem l2 .nil);obtain⟨e,t1,m5,he,EY,rfl,rfl,hg⟩:=gD (K:=K) (nt:=jx 115) (a:=fT 115 [6]) 0
  (Inv:=fun j tm m'=>m'=m3/\dM [1,8,26,27,28] tm=[vP d 0,sv,.slice ua 0 uc,vI (0:Nat),vI (0:Nat)])
  (dG:=fun e tm m'=>e= .exit 0/\m'=m3/\dM [8] tm=[sv])
  (fun j tm m' hj=>absurd hj aj)
  (by
   rintro tm m' ⟨rfl,hg⟩;obtain⟨t2,gm,gA⟩:=bL (K:=K) (m:=m') (m':=m') X5 (afx d 0 uc 0 ua sv) hg (.cond (dF Q8) .nil);exact⟨_,t2,m',nU,gm,rfl,rfl,gA⟩)
  (tm:=t0) (m:=m3) ⟨rfl,e0⟩ aj
 obtain⟨t2,h2,Wh⟩:=cj (K:=K) (m:=m5) (m':=m5) (afw sv) hg .nil;have hnD:∀b,jS m1 m2 b->(m5.blk b).sz=4->¬Am d uT Dr pP Ee b:=fun b h h4 h'=>by rcases(hD4 b h').2.2 with h|h|h<;>omega
 refine⟨sv,m5,fW agK (aQ.cut w0 (aQ.sK EY (aQ.last h2 PR))) (.inr rfl) Wh,⟨Am d uT Dr pP Ee,tB,gL,uT,pP,Dr,Ee,Kk,fun b=>jS m2 m5 b\/(jS m1 m2 b/\¬Am d uT Dr pP Ee b),mn.aS k3,D4,?_,fun b hb=>?_,fun b hb=>?_⟩,_,_,L3,fun b hb=>?_⟩
 ·obtain⟨c,h1,h2,h3⟩:=q3';have mo:∀b o n c,sv=vL b o n c->jS m2 m5 b:=fun b o n c e=>by
   rcases L3 with⟨h,_⟩|⟨b',_,_,e',h,_⟩
   ·exact absurd h h0
   ·rw[e']at e;cases e;exact h.1
  refine⟨c,h1,fun b o n c e=> .inl (mo b o n c e),h3.mono fun x u _ w=>⟨bS.mono (bS.sz4 w.1) fun b hb=>?_,w.2⟩⟩;rcases hb.1 with h|h
  ·exact .inl h
  ·exact .inr ⟨h,hnD b h hb.2⟩
 ·rcases hb with h|⟨h,hn⟩
  ·exact⟨fun h'=>by have :=(Y4 _ h').2.1;have :=h.1;omega,by have :=h.1;omega,h.2⟩
  ·exact⟨hn,by have :=h.1;omega,by have :=h.2;omega⟩
 ·obtain⟨h1,h2,_⟩:=Y4 b hb;exact⟨h1.elim (fun h=> .inl (OA b h).1) fun h=> .inr (by have :=h.1;omega),aj⟩
 ·rcases hb with h|h
  ·exact⟨by have :=h.1;omega,h.2⟩
  ·exact⟨by have :=h.1;omega,by have :=h.2;omega⟩
def Di (m0 m:Mem)(d:Nat)(S BT:Nat->Prop)(Tb:Nat->Option (List (List V))):Prop:=
 ∃SB rows cs bo al bm am rl,Kp m0 m S/\dg m d SB rows cs bo al bm am rl/\(∀b,SB b->(b=d\/m0.next<=b)/\b<m.next)/\fM BT Tb m/\∀b,BT b->¬SB b/\b<m.next
theorem HT (A4:Calm m0){m1 m2:Mem}(k0:Kp m0 m S)(uM:∀b,SB b->(b=d\/m0.next<=b)/\b<m.next)(jL:fM BT Tb m)(hBT:∀b,BT b->¬SB b/\b<m.next)(hd:S d)(k1:Kp m m1 eQ){res:List (List V)}{sv:ae}(hS1:∀b,SB b->b<m.next)(O:WT m1 m2 d SB (fun b=>SB b\/b=p) res sv){cl r:ae}(op:Obj m2 p 0 [cl,r])(hp:p<m0.next/\m0.base<=p/\p≠d/\S p)(Vv:¬BT p):
  ∃m' Ek,jI p 1 sv m2=some (undef,m')/\Kp m m' (fun b=>b=d\/b=p\/m0.next<=b)/\Di m0 m' d S Ek (uX p res Tb)/\∀b,Ek b->BT b\/b=p\/m.next<=b:=by
 obtain⟨Eg,rows,cs,bo,al,bm,am,rl,AE,k2,D2,q2,hAE,VZ⟩:=O;have n0:=k0.next;have n1:=k1.next;have n2:=k2.next;have I3:Kp m m2 (fun b=>SB b\/b=p):=k1.vF.trans k2 fun _ _ h=>h
 have mn:Kp m0 m2 S:=k0.trans I3 fun b hb h=>h.elim (fun h=>(uM b h).1.elim (fun h=>h▸hd) fun h=>by omega) fun h=>h▸hp.2.2.2
 have Ws:=A4.ext mn;have YK:¬SB p:=fun h=>(uM p h).1.elim hp.2.2.1 fun h=>by omega
 have ahh:¬Eg p:=fun h=>(VZ p h).1.elim YK fun h=>by omega
 have wp:Own m2 p:=Ws.own (by rw[mn.base];exact hp.2.1);obtain⟨m',e,o,k⟩:=lQ (o:=1) sv op (wp.may _ _) (af rfl) (aW.mH q2).1;have n3:=k.next;have hAp:∀b,AE b->¬b=p:=fun b hb e=>by have :=(hAE b hb).2.1;omega
 refine⟨m',fun b=>BT b\/b=p\/AE b,e,(I3.mono (S':=fun b=>b=d\/b=p\/m0.next<=b) fun b _ h=>h.elim (fun h=>(uM b h).1.imp id .inr) fun h=> .inr (.inl h)).trans k fun _ _ h=> .inr (.inl h),⟨Eg,rows,cs,bo,al,bm,am,rl,mn.trans k fun b _ h=>h▸hp.2.2.2,D2.ext k fun b hb h=>ahh (h▸hb),fun b hb=>?_,?_,fun b hb=>?_⟩,fun b hb=>hb.imp id fun h=>h.imp id fun h=>by have :=(hAE b h).2.1;omega⟩
 ·have :=VZ b hb;exact⟨this.1.elim (fun h=>(uM b h).1) fun h=> .inr aj,aj⟩
 ·intro q rows hq;unfold uX at hq
  split at hq
  ·rename_i e';subst e';cases hq;exact⟨.inr (.inl rfl),cl,sv,o,(aW bS 1).mono ((aW bS 1).ext q2 k hAp) fun b hb=> .inr (.inr hb)⟩
  ·obtain⟨h1,c1,r1,h2,h3⟩:=((jL.ext I3 fun b hb h=>h.elim (hBT b hb).1 fun h=>Vv (h▸hb)).ext k fun b hb h=>Vv (h▸hb)) q rows hq;exact⟨.inl h1,c1,r1,h2,(aW bS 1).mono h3 fun b hb=> .inl hb⟩
 ·rcases hb with h|h|h
  ·have :=hBT b h;exact⟨fun h'=>(VZ b h').1.elim this.1 fun h'=>by omega,aj⟩
  ·exact⟨fun h'=>ahh (h▸h'),aj⟩
  ·have :=hAE b h;exact⟨this.1,aj⟩
variable {cl r0 xa xw xb xu:ae}
theorem aiw (hK:Ej K)(A4:Calm m0)(W:Di m0 m d S BT Tb)(hd:S d)(op:Obj m p 0 [cl,r0])(hp:p<m0.next/\m0.base<=p/\p≠d/\S p)(Vv:¬BT p){s:sw}(hb:pJ.R B (s,[]) m (.agg #[xa,xw,xb,xu]))(hB:∀b,B b->b<m0.next/\b≠d/\b≠p)(ep:pQ Tb s)(h0:eW Tb s≠[]):
  ∃m' Ek,Ev K 114 [.agg #[vP p 0,.bool false,xa,xw,xb,xu],vP d 0] m (vI 0) m'/\Kp m m' (fun b=>b=d\/b=p\/m0.next<=b)/\Di m0 m' d S Ek (uX p (eW Tb s) Tb)/\∀b,Ek b->BT b\/b=p\/m.next<=b:=by
 obtain⟨SB,rows,cs,bo,al,bm,am,rl,k0,D,uM,jL,hBT⟩:=W;have n0:=k0.next;have cm:=A4.ext k0;obtain⟨b2,mr⟩:∃b,b=m.next:=⟨_,rfl⟩;obtain⟨m1,e1,o1,k1,n1,_⟩:=aY cm.gd [vP p 0,.bool false,xa,xw,xb,xu];rw[<-mr]at e1 o1;have hBS:∀b,B b\/BT b->¬SB b/\b<m1.next:=fun b hb=>by
  rcases hb with h|h
  ·have :=hB b h;exact⟨fun h'=>(uM b h').1.elim this.2.1 fun h'=>by omega,aj⟩
  ·have :=hBT b h;exact⟨this.1,aj⟩
 obtain⟨sv,m2,e2,O,_⟩:=aaM (K:=K) hK (cm.ext k1) (D.aU k1) (pJ.ext hb k1 fun _ _ h=>h) (jL.ext k1 fun _ _ h=>h) hBS ep h0;have YK:¬SB p:=fun h=>(uM p h).1.elim hp.2.2.1 fun h=>by omega
 have k2:Kp m1 m2 SB:=by obtain⟨_,_,_,_,_,_,_,_,_,h,_⟩:=O;exact h
 have O':WT m1 m2 d SB (fun b=>SB b\/b=p) (eW Tb s) sv:=by
  obtain⟨Eg,r,c,o,a,o',a',l,AE,h,hh⟩:=O;exact⟨Eg,r,c,o,a,o',a',l,AE,h.mono fun _ _ h=> .inl h,hh⟩
 obtain⟨m3,Ek,e3,k3,W3,hB3⟩:=HT A4 k0 uM jL hBT hd k1 (fun b hb=>(uM b hb).2) O' ((op.aU k1).ext k2 YK) hp Vv;have o12:=o1.ext k2 (show¬SB b2 from fun h=>by have :=(uM _ h).2;omega);obtain⟨ra,c,wB⟩:∃ra c,sv= .slice ra (eW Tb s).length c:=by obtain⟨_,_,_,_,_,_,_,_,_,_,_,q,_⟩:=O;exact aW.form q
 subst wB;have ei:(m2.blk b2).a9=(m1.blk b2).a9:=by rw[k2.blk b2 aj fun h=>by have :=(uM _ h).2;omega]
 obtain⟨t2,h2,Wh⟩:=cj (K:=K) (m:=m) (m':=m3) (tm:=entry [.agg #[vP p 0,.bool false,xa,xw,xb,xu],vP d 0]) (afA p d b2 (eW Tb s).length c (m1.blk b2).a9 xa xw xb xu ra) rfl
  (.mem e1<| .mem (bY (vs:=[xa,xw,xb,xu]) o1 rfl (af rfl))<| .mem (aO o1 rfl)<| .cond rfl<| .mem (aO o1 rfl)<| .mem (dS _ _)<| .mem (bP (cm.ext k1).gd)<| .fw e2<| .mem (vY o12 rfl ei)<| .mem (bP ((cm.ext k1).ext k2).gd)<| .mem e3 .nil)
 exact⟨m3,Ek,fW aag (aQ.last h2 EL) (.inr rfl) Wh,k3,W3,hB3⟩
theorem aaN (hK:Ej K)(A4:Calm m0)(W:Di m0 m d S BT Tb)(hd:S d)(op:Obj m p 0 [cl,r0])(hp:p<m0.next/\m0.base<=p/\p≠d/\S p)(Vv:¬BT p){first again:sw}{gz:Bool}{res:List (List V)}{er:Nat}(hb:pJ.R B (first,[(gz,again)]) m (.agg #[xa,xw,xb,xu]))(hB:∀b,B b->b<m0.next/\b≠d/\b≠p)
  (ep:pQ Tb first)(h1:gz=false->∀x∈eW Tb first,x.length=1)(hl:(lJ gz [] (eW Tb first)).length<=1000)(hr:Xp (fun f=>uX p f Tb) gz again 1 (lJ gz [] (eW Tb first)) (lJ gz [] (eW Tb first)) res er):
  ∃m' Ek,Ev K 114 [.agg #[vP p 0,.bool true,xa,xw,xb,xu],vP d 0] m (vI er) m'/\Kp m m' (fun b=>b=d\/b=p\/m0.next<=b)/\Di m0 m' d S Ek (uX p res Tb)/\∀b,Ek b->BT b\/b=p\/m.next<=b:=by
 obtain⟨SB,rows,cs,bo,al,bm,am,rl,k0,D,uM,jL,hBT⟩:=W;have n0:=k0.next;have cm:=A4.ext k0;obtain⟨b2,mr⟩:∃b,b=m.next:=⟨_,rfl⟩;obtain⟨m1,e1,o1,k1,n1,_⟩:=aY cm.gd [vP p 0,.bool true,xa,xw,xb,xu];rw[<-mr]at e1 o1;have CL:=cm.ext k1;have YK:¬SB p:=fun h=>(uM p h).1.elim hp.2.2.1 fun h=>by omega
 have hBS:∀b,B b\/BT b->¬SB b/\b≠p/\b<m1.next:=fun b hb=>by
  rcases hb with h|h
  ·have :=hB b h;exact⟨fun h'=>(uM b h').1.elim this.2.1 fun h'=>by omega,this.2.2,aj⟩
  ·have :=hBT b h;exact⟨this.1,fun e=>Vv (e▸h),aj⟩
 obtain⟨m2,sv,Eg,tB,gL,uT,pP,Dr,Ee,Kk,AE,e2,k2,D2,q2,hAE,VZ,r,op2⟩:=alP (K:=K) hK CL (D.aU k1) (fun b hb=>by have :=(uM b hb).2;omega) (op.aU k1) (CL.own (by rw[k1.base,k0.base];exact hp.2.1)) YK (pJ.ext hb k1 fun _ _ h=>h) (jL.ext k1 fun _ _ h=>h) hBS ep h1 hl hr;obtain⟨m3,Ek,e3,k3,W3,hB3⟩:=HT A4 k0 uM jL hBT hd k1 (fun b hb=>(uM b hb).2) ⟨Eg,tB,gL,uT,pP,Dr,Ee,Kk,AE,k2,D2,q2,hAE,VZ⟩ op2 hp Vv;have ahL:¬(SB b2\/b2=p):=fun h=>h.elim (fun h=>by have :=(uM _ h).2;omega) fun h=>by omega
 have o12:=o1.ext k2 ahL;obtain⟨ra,c,wB⟩:=aW.form q2;subst wB;have ei:(m2.blk b2).a9=(m1.blk b2).a9:=by rw[k2.blk b2 aj ahL]
 obtain⟨t2,h2,Wh⟩:=cj (K:=K) (m:=m) (m':=m3) (tm:=entry [.agg #[vP p 0,.bool true,xa,xw,xb,xu],vP d 0]) (afz p d b2 res.length c (m1.blk b2).a9 er xa xw xb xu ra) rfl
  (.mem e1<| .mem (bY (vs:=[xa,xw,xb,xu]) o1 rfl (af rfl))<| .mem (aO o1 rfl)<| .cond rfl<| .mem (bY (vs:=[vP p 0,.bool true,xa,xw,xb,xu]) o1 rfl (af rfl))<| .mem (aO o1 rfl)<| .mem (dS _ _)<| .mem (bP CL.gd)<| .fw e2<| .mem (vY o12 rfl ei)<| .mem (bP (CL.ext k2).gd)<| .mem e3 .nil)
 exact⟨m3,Ek,fW aag (aQ.last h2 EL) (.inr rfl) Wh,k3,W3,hB3⟩
end
end Go.AM
namespace Go.AM
set_option maxRecDepth 1000000
open Go Go.Conc Go.Proofs
theorem ajh (b1 b2 d pp n c i p b6:Nat)(of:Bool)(a w b us:ae):eA 76 [3] 0 99 [1,2,4,16,17,18] [vP b1 0,vP b2 0,vP d 0,vL pp 0 n c,vI n,vI i]
 [bu (eX i n) true,
  .idx i n i,
  .mem (fg 6 pp (0+i*6)) (.agg #[vP p 0,.bool of,a,w,b,us]),
  dZ [some (.pointer none),some (.bool false),some kB,some .nilIface,some kB,some kB] b6,
  jQ b6 0 [vP p 0,.bool of,a,w,b,us],
  iO 6 b6 (.agg #[vP p 0,.bool of,a,w,b,us]),
  .call 114 [.agg #[vP p 0,.bool of,a,w,b,us],vP d 0] (vI 0),
  dH]
 .normal [1,2,4,16,17,18] [vP b1 0,vP b2 0,vP d 0,vL pp 0 n c,vI n,vI (eh i 1)]:=iD
theorem aji (b1 b2 d pp n c i p b6:Nat)(of:Bool)(a w b us:ae)(er:Int):eA 76 [3] 0 99 [1,2,4,16,17,18] [vP b1 0,vP b2 0,vP d 0,vL pp 0 n c,vI n,vI i]
 [bu (eX i n) true,
  .idx i n i,
  .mem (fg 6 pp (0+i*6)) (.agg #[vP p 0,.bool of,a,w,b,us]),
  dZ [some (.pointer none),some (.bool false),some kB,some .nilIface,some kB,some kB] b6,
  jQ b6 0 [vP p 0,.bool of,a,w,b,us],
  iO 6 b6 (.agg #[vP p 0,.bool of,a,w,b,us]),
  .call 114 [.agg #[vP p 0,.bool of,a,w,b,us],vP d 0] (vI er),
  bu (sT er 0) true,
  jQ b2 0 [kB,kB,kB,vI 0]]
 .ret [2,3] [vP b2 0,vI er]:=iD
abbrev vq:=Nat×Bool×WN
def JC:nB vq where
 R B x m v:=∃sv wv iv uv,v= .agg #[vP x.1 0,.bool x.2.1,sv,wv,iv,uv]/\pJ.R B x.2.2 m (.agg #[sv,wv,iv,uv])
 mono:=by
  rintro B B' x m v ⟨sv,wv,iv,uv,e,h⟩ k;exact⟨sv,wv,iv,uv,e,pJ.mono h k⟩
 ext:=by
  rintro B S x m m' v ⟨sv,wv,iv,uv,e,h⟩ k hs;exact⟨sv,wv,iv,uv,e,pJ.ext h k hs⟩
inductive l9:(Nat->Option (List (List V)))->List vq->(Nat->Option (List (List V)))->Nat->Prop
 |nil {Tb:Nat->Option (List (List V))}:l9 Tb [] Tb 0
 |one {Tb T':Nat->Option (List (List V))} {p er:Nat}{s:sw}{l:List vq} (ep:pQ Tb s) (h0:eW Tb s≠[]) (h:l9 (uX p (eW Tb s) Tb) l T' er):l9 Tb ((p,false,(s,[]))::l) T' er
 |rnd {Tb T':Nat->Option (List (List V))} {p er:Nat}{first again:sw}{gz:Bool}{res:List (List V)} {l:List vq} (ep:pQ Tb first) (h1:gz=false->∀x∈eW Tb first,x.length=1) (hl:(lJ gz [] (eW Tb first)).length<=1000)
   (hr:Xp (fun f=>uX p f Tb) gz again 1 (lJ gz [] (eW Tb first)) (lJ gz [] (eW Tb first)) res 0) (h:l9 (uX p res Tb) l T' er):l9 Tb ((p,true,(first,[(gz,again)]))::l) T' er
 |err {Tb T':Nat->Option (List (List V))} {p er:Nat}{first again:sw}{gz:Bool}{res:List (List V)} {l:List vq} (ep:pQ Tb first) (h1:gz=false->∀x∈eW Tb first,x.length=1) (hl:(lJ gz [] (eW Tb first)).length<=1000)
   (hr:Xp (fun f=>uX p f Tb) gz again 1 (lJ gz [] (eW Tb first)) (lJ gz [] (eW Tb first)) res er) (h:er≠0):l9 Tb ((p,true,(first,[(gz,again)]))::l) T' er
structure aiJ (K:gI)(T':Nat->Option (List (List V)))(s:sw):Prop where
 ok:pQ T' s
 h0:eW T' s≠[]
 n:(eW T' s).length<65536
 st:WR K (eW T' s)
 x:∀x∈eW T' s,x.length<99999
def sC (er:Nat)(B:Nat->Prop)(fG:List AK)(rows:List (List V))(m:Mem)(v:ae):Prop:=(er=0->HB B fG rows 0 m v)/\(er≠0->v= .agg #[.slice none 0 0,.slice none 0 0,.slice none 0 0,vI 0])
theorem sC.form{er:Nat}{B:Nat->Prop}{fG:List AK}{rows:List (List V)}{m:Mem}{v:ae}(h:sC er B fG rows m v):∃nv kv rv,v= .agg #[nv,kv,rv,vI 0]/\([nv,kv,rv,vI 0].all (·.oneCell'))=true:=by
 by_cases he:er=0
 ·obtain⟨nv,kv,rv,rfl,q1,q2,BO,BE,q3,q4⟩:=h.1 he;refine⟨nv,kv,rv,rfl,?_⟩;obtain⟨_,_,e⟩:=q3.form;subst e;simp[(aW.mH q1).2,(aW.mH q2).2];exact⟨rfl,rfl⟩
 ·exact⟨_,_,_,h.2 he,rfl⟩
theorem sC.ext{S:Nat->Prop}{er:Nat}{B:Nat->Prop}{fG:List AK}{rows:List (List V)}{m m':Mem}{v:ae}(h:sC er B fG rows m v)(k:Kp m m' S)(hs:∀b,B b->¬S b):sC er B fG rows m' v:=⟨fun e=>(h.1 e).ext k hs,h.2⟩
theorem sC.mono{er:Nat}{B B':Nat->Prop}{fG:List AK}{rows:List (List V)}{m:Mem}{v:ae}(h:sC er B fG rows m v)(k:∀b,B b->B' b):sC er B' fG rows m v:=⟨fun e=>(h.1 e).mono k,h.2⟩
section
variable {K:gI}{m0 m:Mem}{B BT S:Nat->Prop}{d er:Nat}{Tb T':Nat->Option (List (List V))}
theorem alU (hK:Ej K)(A4:Calm m0)(W:Di m0 m d S BT Tb)(hd:S d){x:vq}{l:List vq}(hx:l9 Tb (x::l) T' er)(op:∃cl r,Obj m x.1 0 [cl,r])(hp:x.1<m0.next/\m0.base<=x.1/\x.1≠d/\S x.1)(Vv:¬BT x.1){xa xw xb xu:ae}(hb:pJ.R B x.2.2 m (.agg #[xa,xw,xb,xu]))(hB:∀b,B b->b<m0.next/\b≠d/\b≠x.1):
  ∃m' Ek T1 e,Ev K 114 [.agg #[vP x.1 0,.bool x.2.1,xa,xw,xb,xu],vP d 0] m (vI (e:Nat)) m'/\Kp m m' (fun b=>b=d\/b=x.1\/m0.next<=b)/\Di m0 m' d S Ek T1/\(if e=0 then l9 T1 l T' er else er=e)/\∀b,Ek b->BT b\/b=x.1\/m.next<=b:=by
 obtain⟨cl,r,op⟩:=op;cases hx with
 |one ep h0 h=>
  obtain⟨m',Ek,e,k,W',Js⟩:=aiw (K:=K) hK A4 W hd op hp Vv hb hB ep h0;exact⟨m',Ek,_,0,e,k,W',h,Js⟩
 |rnd ep h1 hl hr h=>
  obtain⟨m',Ek,e,k,W',Js⟩:=aaN (K:=K) hK A4 W hd op hp Vv hb hB ep h1 hl hr;exact⟨m',Ek,_,0,e,k,W',h,Js⟩
 |err ep h1 hl hr h=>
  obtain⟨m',Ek,e,k,W',Js⟩:=aaN (K:=K) hK A4 W hd op hp Vv hb hB ep h1 hl hr;exact⟨m',Ek,_,er,e,k,W',by rw[bZ h],Js⟩
theorem alp (hK:Ej K){fG:List AK}{parts:List vq}{s:sw}{pv JF xa xw xb xu:ae}(cm:Calm m)(hc:qA.R B fG m JF)(hpv:(aW JC 6).R B parts m pv)(hx:pJ.R B (s,[]) m (.agg #[xa,xw,xb,xu]))(jL:fM BT Tb m)(hBm:∀b,B b\/BT b->b<m.next)
  (VS:fG.length<9000)(dd:parts.length<9000)(wD:∀x∈parts,(∃cl r,Obj m x.1 0 [cl,r])/\m.base<=x.1/\¬BT x.1/\¬B x.1)(hnd:(parts.map (·.1)).Nodup)(hpt:l9 Tb parts T' er)(hf:er=0->aiJ K T' s):
  ∃v m',Ev K 76 [.agg #[pv,JF,xa,xw,xb,xu]] m (.tuple #[v,vI er]) m'/\Kp m m' (fun b=>∃x∈parts,b=x.1)/\sC er (jS m m') fG (Ia (eW T' s)) m' v:=by
 obtain⟨ca,cc,Jj⟩:=aW.form hc;obtain⟨pa,pc,rfl⟩:=aW.form hpv;have g:=cm.gd;obtain⟨ua,uc,rfl⟩:∃ua uc,xu= .slice ua 0 uc:=by
  obtain⟨_,_,_,_,e,_,q⟩:=hx;obtain⟨a,c,e'⟩:=aW.form q;cases e;exact⟨a,c,e'⟩
 obtain⟨b1,nX⟩:∃b,b=m.next:=⟨_,rfl⟩;obtain⟨m1,e1,o1,k1,n1,_⟩:=aY g [.slice pa parts.length pc,JF,xa,xw,xb,.slice ua 0 uc];obtain⟨b2,mr⟩:∃b,b=m1.next:=⟨_,rfl⟩;obtain⟨m2,e2,o2,k2,n2,_⟩:=aY (g.ext k1) [.slice none 0 0,.slice none 0 0,.slice none 0 0,vI 0];have mn:=k1.aS k2;obtain⟨d,hd⟩:∃b,b=m2.next:=⟨_,rfl⟩;obtain⟨m3,e3,o3,k3,n3,_⟩:=aY (g.ext mn) Wm;rw[<-nX]at e1 o1;rw[<-mr]at e2 o2;rw[<-hd]at e3 o3;have jX:=mn.aS k3;have wF:=cm.ext jX;have o13:=(o1.aU k2).aU k3;have l1:aT b1 0 m3=some (.slice pa parts.length pc,m3):=aO o13 rfl;obtain⟨A,hA⟩:∃A,A=ae.agg #[.slice pa parts.length pc,JF,xa,xw,xb,.slice ua 0 uc]:=⟨_,rfl⟩;rw[<-hA];obtain⟨t0,w0,e0⟩:=cj (K:=K) (m:=m) (m':=m3) (tm:=entry [A]) (ajg parts.length pc fG.length cc 0 uc pa ca ua xa xw xb b1 b2 d) (by rw[hA,Jj];rfl) (by rw[Jj]at e1;exact .mem e1<| .mem e2<| .mem e3<| .mem l1 .nil);have vl:m3.base<=d:=by
  have h1:=wF.gd.bf;have h2:=g.fn;have h3:=jX.floor;have h4:=jX.base;have :=g.bf;omega
 have n03:=jX.next;obtain⟨S,hS⟩:∃S:Nat->Prop,S=fun b=>b=d\/∃x∈parts,b=x.1:=⟨_,rfl⟩
 have hSd:S d:=by rw[hS];exact .inl rfl
 have hpn:∀x∈parts,x.1<m.next:=fun x hx=>by obtain⟨⟨_,_,o⟩,_⟩:=wD x hx;exact o.lt
 have hSn:∀b,S b->b<m.next\/b=d:=fun b h=>by
  rw[hS]at h;exact h.elim .inr fun⟨x,hx,e⟩=> .inl (e▸hpn x hx)
 have W3:Di m3 m3 d S BT Tb:=⟨_,_,_,_,_,_,_,_,.refl _ _,Mr o3 vl,fun b hb=>⟨.inl hb,aj⟩,jL.ext jX fun _ _ h=>h,fun b hb=>by have :=hBm b (.inr hb);exact⟨fun e=>by omega,aj⟩⟩;have hBS:∀b,B b->¬S b:=fun b hb h=>by
  rw[hS]at h;rcases h with h|⟨x,hx,h⟩
  ·have :=hBm b (.inl hb);omega
  ·exact(wD x hx).2.2.2 (h▸hb)
 have Y1:¬S b2:=fun h=>by have :=hSn b2 h;omega
 obtain⟨e,t1,m5,he,EY,Ja⟩:=gD (K:=K) (nt:=jx 76) (a:=fT 76 [3]) parts.length
  (Inv:=fun j tm M=>∃BT1 T1,dM [1,2,4,16,17,18] tm=[vP b1 0,vP b2 0,vP d 0,.slice pa parts.length pc,vI (parts.length:Int),vI j]/\Di m3 M d S BT1 T1/\l9 T1 (parts.drop j) T' er/\∀x∈parts.drop j,¬BT1 x.1/\∃cl r,Obj M x.1 0 [cl,r])
  (dG:=fun e tm M=>(e= .exit 0/\er=0/\dM [1,2,4] tm=[vP b1 0,vP b2 0,vP d 0]/\∃BT1,Di m3 M d S BT1 T')\/(e= .ret/\er≠0/\dM [2,3] tm=[vP b2 0,vI er]/\Kp m3 M (fun b=>S b\/b=b2)/\Obj M b2 0 [.slice none 0 0,.slice none 0 0,.slice none 0 0,vI 0]))
  (by
   rintro j tm M hj ⟨BT1,T1,hg,W,hP,hR⟩;rw[List.drop_eq_getElem_cons hj]at hP hR;obtain⟨h1,h2⟩:=hR _ (List.mem_cons_self ..);have Vk:parts[j]∈parts:=List.getElem_mem hj;have hx0:=wD _ Vk;have kM:Kp m3 M S:=by obtain⟨_,_,_,_,_,_,_,_,h,_⟩:=W;exact h
   have dO:∀y∈parts.drop (j+1),y.1≠parts[j].1:=fun y hy e=>by
    obtain⟨i,hi,rfl⟩:=List.getElem_of_mem hy;rw[List.getElem_drop]at e;have :=(List.getElem_inj (xs:=parts.map (·.1)) (i:=j+1+i) (j:=j) (h₀:=by simp at hi⊢;omega) (h₁:=by simpa using hj) hnd).1 (by simpa using e);omega
   obtain⟨pp,c',u,cu,e,_,ou,q1,q2,⟨ya,yw,yb,yu,rfl,ry⟩,ov⟩:=aW.get ((aW JC 6).ext ((aW JC 6).ext hpv jX fun _ _ h=>h) kM hBS) hj;cases e;generalize parts[j]=x at*;have gM:=(wF.ext kM).gd;obtain⟨m6,m7,e6,e7,o7,k7,n7⟩:=kY gM [.pointer none,.bool false,.slice none 0 0,.nilIface,.slice none 0 0,.slice none 0 0] [vP x.1 0,.bool x.2.1,ya,yw,yb,yu] rfl (aE.2 fun y hy=>ov.2 y hy);have W7:Di m3 m7 d S BT1 T1:=by
    obtain⟨SB,r,c,o,a,o',a',l,h1,h2,h3,h4,h5⟩:=W;have :=k7.next;exact⟨SB,r,c,o,a,o',a',l,h1.aS k7,h2.aU k7,fun b hb=>⟨(h3 b hb).1,by have :=(h3 b hb).2;omega⟩,h4.ext k7 fun _ _ h=>h,fun b hb=>⟨(h5 b hb).1,by have :=(h5 b hb).2;omega⟩⟩
   have hxn:=hpn x Vk;obtain⟨m8,BT8,T8,e1,e8,k8,W8,hP8,hB8⟩:=alU (K:=K) hK wF W7 hSd hP (by obtain⟨cl,r,o⟩:=h2;exact⟨cl,r,o.aU k7⟩) ⟨aj,by rw[jX.base];exact hx0.2.1,aj,by rw[hS];exact .inr ⟨x,Vk,rfl⟩⟩ h1 (pJ.ext ry k7 fun _ _ h=>h) fun b hb=>by
    have :=hBm b (.inl hb);exact⟨aj,aj,fun e=>hx0.2.2.2 (e▸hb)⟩
   by_cases hz:e1=0
   case neg=>
    right
    rw[bZ hz]at hP8;subst hP8;have k8':Kp m3 m8 S:=by obtain⟨_,_,_,_,_,_,_,_,h,_⟩:=W8;exact h
    obtain⟨m9,e9,o9,k9⟩:=lh (o:=0) [.slice none 0 0,.slice none 0 0,.slice none 0 0,vI 0] ((o2.aU k3).ext k8' Y1) ((g.own ((jX.vF (S:=S)).trans k8' fun _ _ h=>h) aj).may _ _) (af rfl) rfl;obtain⟨t2,gm,gA⟩:=bL (K:=K) Lq (aji b1 b2 d pp parts.length pc j x.1 M.next x.2.1 ya yw yb yu er) hg (.cond (P3 hj)<| .idx rfl hj<| .mem (bY (vs:=[vP x.1 0,.bool x.2.1,ya,yw,yb,yu]) ou (by rw[Nat.zero_add];exact q1) aj)<| .mem e6<| .mem e7<| .mem (bY (vs:=[vP x.1 0,.bool x.2.1,ya,yw,yb,yu]) o7 rfl (af rfl))<| .call e8<| .cond (neT aj)<| .mem e9 .nil);exact⟨_,t2,m9,nU,gm,.inr ⟨rfl,hz,gA,(k8'.mono fun _ _ h=> .inl h).trans k9 fun _ _ h=> .inr h,o9⟩⟩
   left
   subst hz;rw[bK rfl]at hP8;obtain⟨t2,gm,gA⟩:=bL (K:=K) Lq (ajh b1 b2 d pp parts.length pc j x.1 M.next x.2.1 ya yw yb yu) hg (.cond (P3 hj)<| .idx rfl hj<| .mem (bY (vs:=[vP x.1 0,.bool x.2.1,ya,yw,yb,yu]) ou (by rw[Nat.zero_add];exact q1) aj)<| .mem e6<| .mem e7<| .mem (bY (vs:=[vP x.1 0,.bool x.2.1,ya,yw,yb,yu]) o7 rfl (af rfl))<| .call e8<| .cond rfl .nil);rw[add1 aj]at gA;have n37:=kM.next;refine⟨t2,m8,gm,BT8,T8,gA,W8,hP8,fun y hy=>?_⟩;obtain⟨a1,cl,r,a2⟩:=hR y (List.mem_cons_of_mem _ hy);have hyn:=hpn y (List.mem_of_mem_drop hy);refine⟨fun h=>?_,cl,r,(a2.aU k7).ext k8 fun h=>?_⟩
   ·rcases hB8 _ h with h|h|h
    ·exact a1 h
    ·exact dO y hy h
    ·omega
   ·rcases h with h|h|h
    ·omega
    ·exact dO y hy h
    ·omega)
  (by
   rintro tm M ⟨BT1,T1,hg,W,hP,_⟩;rw[List.drop_length]at hP;cases hP;obtain⟨t2,gm,gA⟩:=bL (K:=K) (m:=M) (m':=M) Lq (aje b1 b2 d parts.length pc parts.length pa) hg (.cond (Yg _) .nil);exact⟨_,t2,M,nU,gm,.inl ⟨rfl,rfl,gA,BT1,W⟩⟩)
  (tm:=t0) (m:=m3) ⟨BT,Tb,e0,W3,hpt,fun x hx=>⟨(wD x hx).2.2.1,by obtain⟨⟨cl,r,o⟩,_⟩:=wD x hx;exact⟨cl,r,o.aU jX⟩⟩⟩ aj
 obtain⟨SP,hSP⟩:∃SP:Nat->Prop,SP=fun b=>∃x∈parts,b=x.1:=⟨_,rfl⟩
 rcases Ja with⟨rfl,rfl,hg,BT5,W5⟩|⟨rfl,hz,hg,k5,o5⟩
 case inr=>
  have eR:pz ab 31 (vP b2 0) m5=some (.agg #[.slice none 0 0,.slice none 0 0,.slice none 0 0,vI 0],m5):=nK o5 rfl vp.1 vp.2;refine⟨_,m5,OB agE (aQ.cut w0 (aQ.ES acv acA EY bG)) (.inr rfl) hg eR,(jX.vF (S:=fun b=>∃x∈parts,b=x.1)).trans k5 fun b hb h=>?_,fun h=>absurd h hz,fun _=>rfl⟩;rcases h with h|h
  ·rw[hS]at h;exact h.resolve_left aj
  ·omega
 obtain⟨SB,al8,cs5,bo5,al5,bm5,am5,rl5,k5,D5,uM,Vo,ak5⟩:=W5;obtain⟨ep,h0,hn,hs,hlen⟩:=hf rfl;have n5:=k5.next;have cm5:=wF.ext k5;have adp:¬S b1/\¬S b2:=⟨fun h=>by have :=hSn b1 h;omega,fun h=>by have :=hSn b2 h;omega⟩;have o15:=o13.ext k5 adp.1;have l2:fg 4 b1 2 m5=some (.agg #[xa,xw,xb,.slice ua 0 uc],m5):=bY (vs:=[xa,xw,xb,.slice ua 0 uc]) o15 rfl (af rfl);obtain⟨sv,m6,e6,O6,BO,BE,L6,hB6⟩:=aaM (K:=K) hK cm5 D5 (pJ.ext (pJ.ext hx jX fun _ _ h=>h) k5 hBS) Vo (fun b hb=>by
  rcases hb with h|h
  ·have :=hBm b (.inl h);exact⟨fun h'=>(uM b h').1.elim (fun h=>by omega) fun h=>by omega,aj⟩
  ·exact ak5 b h) ep h0
 have k6:Kp m5 m6 SB:=by obtain⟨_,_,_,_,_,_,_,_,_,h,_⟩:=O6;exact h
 obtain⟨qa,rc,wB⟩:=L6.form;have n6:=k6.next;have Hl:=cm5.ext k6;obtain⟨m7,e7,k7,L7⟩:=Sj (K:=K) Hl.gd L6 hn hs hlen fun b hb=>(hB6 b (.inr hb)).2
 have n7:=k7.next;have k37:Kp m3 m7 S:=(k5.trans k6 fun b hb h=>(uM b h).1.elim (fun h=>h▸hSd) fun h=>by omega).trans k7 fun b hb h=>by have :=(hB6 b (.inl h)).1;omega
 have cm7:=Hl.ext k7;have Km:Kp m m7 SP:=(jX.vF (S:=SP)).trans k37 fun b hb h=>by
  rw[hS]at h;rcases h with h|h
  ·omega
  ·rw[hSP];exact h
 obtain⟨oY,akX⟩:∃b,b=m7.next:=⟨_,rfl⟩;obtain⟨m8,m8',e8,e9,o8,k8,n8⟩:=kY cm7.gd [.slice none 0 0,.slice none 0 0,.slice none 0 0,vI 0] [.slice none 0 0,.slice none 0 0,sv,vI 0] rfl (by rw[wB];rfl);rw[<-akX]at e8 e9 o8;have o17:=o13.ext k37 adp.1;have l3:aT b1 1 m8'=some (JF,m8'):=aO (o17.aU k8) rfl;have Xa:=Km.aS k8;obtain⟨t2,w2,Wh⟩:=cj (K:=K) (m:=m5) (m':=m8') (ajj b1 b2 d (eW T' s).length rc fG.length cc ca qa xa xw xb (.slice ua 0 uc) oY) hg (by rw[Jj]at l3;rw[wB]at e6 e7 e9;exact .mem l2<| .call e6<| .cond rfl<| .call e7<| .mem e8<| .mem e9<| .mem l3 .nil);have ak2:∀b,B b->¬SP b:=fun b hb h=>hBS b hb (by rw[hSP]at h;rw[hS];exact .inr h)
 obtain⟨t3,m9,nv,kv,hx9,hg9,k9,o9,q1,q2⟩:=Qw (K:=K) (B:=B) (JF:=JF) (t0:=t2) (m0:=m7) cm7.gd k8 aj aj o8 (qA.ext hc Xa ak2) (fun b hb=>by have :=hBm b (.inl hb);exact⟨aj,by have :=Xa.next;omega⟩) VS (by rw[Wh,Jj]);have n9:=k9.next;have n8':=k8.next;have l4:fg 4 oY 0 m9=some (.agg #[nv,kv,sv,vI 0],m9):=bY (vs:=[nv,kv,sv,vI 0]) o9 rfl (af rfl);have k09:Kp m m9 SP:=Xa.trans k9 fun b hb h=>by omega
 have o29:=(((o2.aU k3).ext k37 adp.2).aU k8).ext k9 (show¬b2=oY by omega);obtain⟨m10,Qm,o10,Va⟩:=lh (o:=0) [nv,kv,sv,vI 0] o29 ((g.own k09 aj).may _ _) (af rfl) (by rw[wB];simp[(aW.mH q1).2,(aW.mH q2).2];exact⟨rfl,rfl⟩);have n10:=Va.next;obtain⟨t4,w4,e4'⟩:=cj (K:=K) (m:=m9) (m':=m10) (ajc b2 oY nv kv sv) hg9 (.mem l4<| .mem Qm .nil);have eR:pz ab 31 (vP b2 0) m10=some (.agg #[nv,kv,sv,vI 0],m10):=nK o10 rfl vp.1 vp.2;refine⟨_,m10,OB agE (aQ.cut w0 (aQ.sK EY (aQ.cut w2 (aQ.sK hx9 (aQ.last w4 S6))))) (.inr rfl) e4' eR,hSP▸k09.trans Va fun b hb h=>by omega,⟨fun _=>⟨nv,kv,sv,rfl,?_,?_,BO,BE,?_,?_⟩,fun h=>absurd rfl h⟩⟩
 ·exact(aW (ku Bo) 1).mono ((aW (ku Bo) 1).ext q1 Va fun b hb h=>by have :=hb.1;omega) fun b hb=>⟨by have :=hb.1;omega,by have :=hb.2;omega⟩
 ·exact(aW (ku vI) 1).mono ((aW (ku vI) 1).ext q2 Va fun b hb h=>by have :=hb.1;omega) fun b hb=>⟨by have :=hb.1;omega,by have :=hb.2;omega⟩
 ·have akb:Kp m7 m10 (fun y=>y=oY\/y=b2):=(k8.vF.trans (k9.mono fun _ _ h=> .inl h) fun _ _ h=>h).trans (Va.mono fun _ _ h=> .inr h) fun _ _ h=>h
  exact L7.ext akb fun b hb h=>by have h1:=(hB6 b hb);omega
 ·intro b hb;have h1:=(hB6 b hb);exact⟨aj,aj⟩
end
end Go.AM
namespace Go.AM
set_option maxRecDepth 1000000
open Go Go.Conc Go.Proofs
theorem aeK {K:gI}{r:mj}{T:ByteArray}{sv:ae}(e:∀m,Calm m->Gl m->Ev K 22 [.string T] m (bN (sH m) 20 r.v) (iM (sH m) kz m r.L r.nx))(hv:r.v= .tuple #[sv,vI 0,vI 0])(ep:mm 20 r.v=true)(cA:∀x∈r.L,12<=x.1/\x.1<r.nx)(hc:I5 12 r.L=true):RdK K T r.L sv:=by
 intro m cm hG;obtain⟨q1,q2⟩:=AZ hc;have e:=e m cm hG;rw[hv]at e ep;have hd:mm 19 sv=true:=by
  have h:(mm 19 sv&&(mm 19 (vI 0)&&(mm 19 (vI 0)&&true)))=true:=ep;rw[ag]at h;exact h.1
 have ev:bN (sH m) 20 (.tuple #[sv,vI 0,vI 0])= .tuple #[bN (sH m) 20 sv,vI 0,vI 0]:=by
  rw[uC hd];rfl
 rw[ev]at e;refine⟨_,e,U6 fun x hx=>(cA x hx).1,fun b sz cs hg=>?_⟩;obtain⟨k,hk,On,rfl,ik⟩:=xy hg;obtain⟨nX,mr⟩:=cA _ hk;exact⟨nX,NY cm q2 hk nX mr (fun x hx=>(cA x hx).1) On ik⟩
theorem U7 {K:gI}(e:∀m,Calm m->Gl m->Ev K 14 [] m (bN (sH m) 20 vd.v) (iM (sH m) kz m vd.L vd.nx)):MU K:=by
 intro m cm hG;have e:=e m cm hG;have hk:Kp m (iM (sH m) kz m vd.L vd.nx) eQ:=U6 fun x hx=>(AZ WV).1 x hx
 obtain⟨M,hM⟩:∃M,M=iM (sH m) kz m vd.L vd.nx:=⟨_,rfl⟩;obtain⟨q1,q2⟩:=AZ WV;have hn:M.next=m.next+1213:=by rw[hM];rfl
 have hb0:m.base<=m.next:=by have :=cm.gd.bf;have :=cm.gd.fn;omega
 rw[<-hM]at e hk;have e':Ev K 14 [] m (vP (m.next+1) 0) M:=e;have Q6:Obj M (m.next+1) 0 [.int .i32 0,.int .u32 0,.map (some m.next)]:=by
  rw[hM];exact NY (b:=13) (k:={kind:=1,pos:=1,cs:=[some (.int .i32 0),some (.int .u32 0),some (.map (some 12))]}) (cs:=[.int .i32 0,.int .u32 0,.map (some 12)]) cm q2 (.tail _ (.head _)) gC gC q1 rfl rfl
 have eb:M.blk m.next={qM (sH m) {kind:=2,clock:=1,es:=#[⟨.string ⟨#[101]⟩,.pointer (some ⟨129,0,none⟩),0⟩]}with a9:=m.tick}:=by
  have :=NZ (m:=m) (nx:=1225) q2 (b:=12) (.head _) q1;rw[hM];exact this
 exact⟨M,m.next+1,m.next,m.next+117,e',hk,⟨Q6,by rw[hk.base];omega⟩,⟨aj,by rw[eb];rfl,by rw[eb];rfl,by rw[eb];rfl,by rw[hk.bB,cm.bB];rfl,by rw[hk.home];exact hG.hn,by rw[hk.base];exact hb0,aj⟩,aj,aj,aj⟩
end Go.AM
namespace Go.AM
set_option maxRecDepth 1000000
open Go Go.Conc Go.Proofs
def noT (ps:List Nat)(L:List (Nat×dU)):List (Nat×dU):=L.filter fun x=>!ps.any (Nat.beq x.1)
theorem yU {ps:List Nat}{b sz:Nat}{cs:List ae}:∀{L:List (Nat×dU)},dI (noT ps L) b=some (sz,cs)->dI L b=some (sz,cs)/\b∉ps
 | [],h=>by cases h
 |x::L,h=>by
  unfold noT at h;rw[List.filter_cons]at h
  split at h
  ·rename_i hx;unfold dI at h⊢;cases hb:Nat.beq x.1 b with
   |true=>
    rw[hb]at h;refine⟨h,fun hm=>?_⟩;have e:=az hb;have :ps.any (Nat.beq x.1)=true:=List.any_eq_true.2 ⟨b,hm,by rw[e];exact Nat.beq_refl _⟩;rw[this]at hx;cases hx
   |false=>
    rw[hb]at h;exact yU (L:=L) h
  ·rename_i hx;obtain⟨h1,h2⟩:=yU (L:=L) h;refine⟨?_,h2⟩;unfold dI;cases hb:Nat.beq x.1 b with
   |true=>
    have e:=az hb;have hx:ps.any (Nat.beq x.1)=true:=by
     cases hh:ps.any (Nat.beq x.1)with
     |true=>rfl
     |false=>rw[hh]at hx;exact absurd rfl hx
    obtain⟨y,hy,ey⟩:=List.any_eq_true.1 hx;exact absurd (by rw[<-e,az ey];exact hy) h2
   |false=>exact h1
def Em (x:Pd):vq:=(x.p,x.self,Rw x.b)
theorem Ph {B:Nat->Prop}{m:Mem}{x:Pd}{v:ae}(h:pK.R B x m v):JC.R B (Em x) m v:=by
 obtain⟨a,w,b,u,e,h⟩:=h;exact⟨a,w,b,u,e,Eo h⟩
structure QP (d:CD)(cq:zx):Prop where
 f:d.f=75
 enc:∀{π:Nat->Nat}{m:Mem}{B:Nat->Prop},lz π (noT (cq.parts.map (·.p)) d.L) m B->zk.R B (tx.iA π cq) m (bN π 20 d.qv)
 tb:∀x∈cq.parts,1100<=x.p/\∃cl r,dI d.L x.p=some (0,[cl,r])
 ge:∀b sz cs,dI d.L b=some (sz,cs)->1100<=b
 nd:(cq.parts.map (·.p)).Nodup
 us:cq.b.us=[]
 cl:cq.fG.length<9000
 pl:cq.parts.length<9000
def aiH (res:List (List V)):Prop:=res≠[]/\res.length<65536/\∀x∈res,x.length<99999
def aec (K:gI)(Tb:Nat->Option (List (List V)))(n er:Nat)(G:(Nat->Nat)->Prop)(cq:zx)(res:List (List V)):Prop:=
 ∀π:Nat->Nat,G π->(∀b,1100<=b->n<=π b/\∀b',1100<=b'->π b=π b'->b=b')->∃T',l9 Tb ((tx.iA π cq).parts.map Em) T' er/\(er=0->pQ T' (Bf (wT.iA π cq.b.first))/\aiH (eW T' (Bf (wT.iA π cq.b.first)))/\Ia (eW T' (Bf (wT.iA π cq.b.first)))=res/\WR K (eW T' (Bf (wT.iA π cq.b.first))))
def ZM (K:gI)(d:CD)(mp lo:Nat)(G:(Nat->Nat)->Prop)(m:Mem):Prop:=∀m3,Kp m m3 eQ->∃π m',Ev K d.f [.map (some mp),bN (sh lo) 20 d.sv] m3 (.tuple #[bN π 20 d.qv,vI 0]) m'/\Kp m3 m' eQ/\lz π d.L m' (jS m3 m')/\G π/\∀b,1100<=b->π b=m3.next+(b-1100)
section
variable {K:gI}{m:Mem}{W:Nat->Prop}{db mp lo er n:Nat}{res:List (List V)}{Tb:Nat->Option (List (List V))}{G:(Nat->Nat)->Prop}
theorem alq (hK:Ej K){d:CD}{cq:zx}{rc:Bool}{x0 x1 xi xs xw xu:ae}{pa:Option Addr}{pn pc:Nat}{rest:List ae}(hck:ZM K d mp lo G m)(hd:QP d cq)(cm:Calm m)(Q6:Obj m db 0 (x0::x1:: .map (some mp)::rest))(jL:fM W Tb m)(hW:∀b,W b->b<m.next)(hl:n<=m.next)(wB:bN (sh lo) 20 d.sv= .agg #[.bool rc,.slice pa pn pc,xi,xs,xw,xu])(hq:aec K Tb n er G cq res):
  ∃v m',Ev K 40 [vP db 0,.agg #[.bool rc,.slice pa pn pc,xi,xs,xw,xu]] m (.tuple #[v,vI er]) m'/\Kp m m' eQ/\sC er (jS m m') cq.fG res m' v:=by
 have g:=cm.gd;have hdb:=Q6.lt;obtain⟨b1,nX⟩:∃b,b=m.next:=⟨_,rfl⟩;obtain⟨m1,e1,o1,k1,n1,_⟩:=aY g [.bool rc,.slice pa pn pc,xi,xs,xw,xu];obtain⟨b2,mr⟩:∃b,b=m1.next:=⟨_,rfl⟩;obtain⟨m2,e2,o2,k2,n2,_⟩:=aY (g.ext k1) [.slice none 0 0,.slice none 0 0,.slice none 0 0,vI 0];have mn:=k1.aS k2;have g2:=g.ext mn;rw[<-nX]at e1 o1;rw[<-mr]at e2 o2;have l1:aT db 2 m2=some (.map (some mp),m2):=aO (Q6.aU mn) rfl;have l2:fg 6 b1 0 m2=some (.agg #[.bool rc,.slice pa pn pc,xi,xs,xw,xu],m2):=bY (vs:=[.bool rc,.slice pa pn pc,xi,xs,xw,xu]) (o1.aU k2) rfl (af rfl);obtain⟨b3,hb3⟩:∃b,b=m2.next:=⟨_,rfl⟩;obtain⟨m3,e3,o3,k3,n3,_⟩:=aY g2 [.slice none 0 0,.slice none 0 0,.slice none 0 0,.nilIface,.slice none 0 0,.slice none 0 0];rw[<-hb3]at e3 o3;have jX:=mn.aS k3;have g3:=g.ext jX;obtain⟨π,m4,e4,k4,La,GQ,me⟩:=hck m3 jX;have n3':=jX.next;have n4':=k4.next;obtain⟨TP,hTP⟩:∃TP:Nat->Prop,TP=fun b=>∃x∈cq.parts,b=π x.p:=⟨_,rfl⟩
 have La':lz π (noT (cq.parts.map (·.p)) d.L) m4 (fun b=>jS m3 m4 b/\¬TP b):=by
  intro b sz cs hg;obtain⟨h1,h2⟩:=yU hg;obtain⟨h3,h4⟩:=La b sz cs h1;refine⟨⟨h3,fun h=>?_⟩,h4⟩;rw[hTP]at h;obtain⟨x,hx,e⟩:=h;have hb:=hd.ge b sz cs h1;have EY:=(hd.tb x hx).1;rw[me _ hb,me _ EY]at e;exact h2 (List.mem_map.2 ⟨x,hx,aj⟩)
 have q4:=hd.enc La';obtain⟨v,hv⟩:∃v,v=bN π 20 d.qv:=⟨_,rfl⟩;rw[<-hv]at e4 q4;rw[wB,hd.f]at e4;obtain⟨p,JF,a,w,y,u,rfl,qp,qc,qb⟩:=q4;obtain⟨pa',pc',hp⟩:=aW.form qp;have dd:(tx.iA π cq).parts.length=cq.parts.length:=List.length_map ..;rw[dd]at hp;subst hp;have qb4:=qb;obtain⟨_,_,_,_,he,z1,z2,z3,z4⟩:=iK.four qb4;cases he;have jW:=jX.aS k4;have cm4:=cm.ext jW;have n4:=k4.next;have hck:cW (vI ((m3.blk b3).a9:Int)) (vP b3 0) (pH (vP b3 0)) m4=some (undef,m4):=ah9 (b:=b3) g jW aj rfl (Sf k4 o3.lt);obtain⟨ca,cc,akR⟩:=aW.form qc;obtain⟨m5,e5,o5,k5⟩:=lh (o:=0) [.slice pa' cq.parts.length pc',JF,a,w,y,u] (o3.aU k4) ((g.own jW aj).may _ _) (af rfl) (by rw[akR];simp[z1,z2,z3,z4];exact⟨rfl,rfl⟩);have n5:=k5.next;have sL:Kp m m5 eQ:=jW.new k5 (N:=m.next) (ai _) fun b hb=>by omega
 have cm5:=cm.ext sL;have l3:fg 6 b3 0 m5=some (.agg #[.slice pa' cq.parts.length pc',JF,a,w,y,u],m5):=bY (vs:=[.slice pa' cq.parts.length pc',JF,a,w,y,u]) o5 rfl (af rfl);have nb3:∀y,jS m3 m4 y/\¬TP y->¬y=b3:=fun y hy e=>by have :=hy.1.1;omega
 have o25:=(((o2.aU k3).aU k4).ext k5 (show¬b2=b3 by omega));have Vo:=jL.ext sL fun _ _ h=>h
 obtain⟨T',hpt,nP⟩:=hq π GQ fun b hb=>by
  rw[me b hb];exact⟨aj,fun b' iL e=>by rw[me b' iL]at e;omega⟩
 obtain⟨qp',hpe⟩:∃l,l=(tx.iA π cq).parts.map Em:=⟨_,rfl⟩;have hqp:∀x∈qp',∃z∈cq.parts,x.1=π z.p:=fun x hx=>by
  rw[hpe]at hx;obtain⟨y,hy,rfl⟩:=List.mem_map.1 hx;obtain⟨z,hz,rfl⟩:=List.mem_map.1 (show y∈cq.parts.map (EA.iA π)from hy);exact⟨z,hz,rfl⟩
 obtain⟨v6,m6,e6,k6,q6⟩:=alp (K:=K) (B:=fun b=>jS m3 m4 b/\¬TP b) (parts:=qp') (s:=Bf (wT.iA π cq.b.first)) (T':=T') hK cm5 (qA.ext qc k5 nb3) (by
   rw[hpe];exact aW.map' (E':=JC) (fun x v h=>Ph h) ((aW pK 6).ext qp k5 nb3)) (by
   have :=Eo (iK.ext qb k5 nb3);have e:Rw (tx.iA π cq).b=(Bf (wT.iA π cq.b.first),[]):=by
    show(Bf (wT.iA π cq.b.first),(cq.b.us.map (tCU.iA π)).map _)=_
    rw[hd.us];rfl
   rw[e]at this;exact this) Vo (fun b hb=>hb.elim (fun hb=>by have :=hb.1.2;omega) fun hb=>by have :=hW b hb;omega) hd.cl (by rw[hpe,List.length_map,dd];exact hd.pl) (fun x hx=>by
   obtain⟨z,hz,ez⟩:=hqp x hx;obtain⟨hz1,cl,r,hz2⟩:=hd.tb z hz;obtain⟨b1',DJ⟩:=La z.p _ _ hz2;have Y0:=b1'.1;rw[ez];refine⟨⟨_,_,(show Obj m5 (π z.p) 0 [bN π 20 cl,bN π 20 r]from DJ.ext k5 (show¬π z.p=b3 by omega))⟩,by rw[sL.base];have :=g.bf;have :=g.fn;omega,fun h=>by have :=hW _ h;omega,fun h=>h.2 (by rw[hTP];exact⟨z,hz,rfl⟩)⟩) (by
   rw[hpe]
   show(((cq.parts.map (EA.iA π)).map Em).map (·.1)).Nodup
   rw[List.map_map,List.map_map];have :cq.parts.map (((fun x:vq=>x.1)∘Em)∘EA.iA π)=(cq.parts.map (·.p)).map π:=by rw[List.map_map];rfl
   rw[this,List.Nodup,List.pairwise_map];refine List.Pairwise.imp_of_mem ?_ hd.nd;intro a c ha hc dO e;obtain⟨x,hx,rfl⟩:=List.mem_map.1 ha;obtain⟨y,hy,rfl⟩:=List.mem_map.1 hc;have h3:=(hd.tb x hx).1;have h4:=(hd.tb y hy).1;rw[me _ h3,me _ h4]at e;omega) (by rw[hpe];exact hpt) fun he=>by
   obtain⟨f1,f2,f3,f4⟩:=nP he;exact⟨f1,f2.1,f2.2.1,f4,f2.2.2⟩
 have q6:sC er (jS m5 m6) cq.fG res m6 v6:=⟨fun he=>(nP he).2.2.1▸q6.1 he,q6.2⟩;obtain⟨nv,kv,rv,rfl,hy⟩:=q6.form;have ak1:∀b,b<m3.next->¬∃x∈qp',b=x.1:=fun b hb h=>by
  obtain⟨x,hx,rfl⟩:=h;obtain⟨z,hz,ez⟩:=hqp x hx;obtain⟨hz1,cl,r,hz2⟩:=hd.tb z hz;have :=(La z.p _ _ hz2).1.1;omega
 have n6:=k6.next;have AY:Kp m m6 eQ:=sL.new k6 (N:=m.next) (ai _) fun b hb=>by
  obtain⟨x,hx,rfl⟩:=hb;obtain⟨z,hz,ez⟩:=hqp x hx;obtain⟨hz1,cl,r,hz2⟩:=hd.tb z hz;have :=(La z.p _ _ hz2).1.1;omega
 obtain⟨m7,e7,o7,k7⟩:=lh (o:=0) [nv,kv,rv,vI 0] (o25.ext k6 (ak1 b2 aj)) ((g.own AY aj).may _ _) (af rfl) hy;have n7:=k7.next;have eR:pz ab 31 (vP b2 0) m7=some (.agg #[nv,kv,rv,vI 0],m7):=nK o7 rfl vp.1 vp.2;exact⟨_,m7,aJ (p40 db mp rc pn pc pa xi xs xw xu (.slice pa' cq.parts.length pc') JF a w y u nv kv rv (vI 0) er b1 b2 b3 _)
  (.mem e1<| .mem e2<| .mem l1<| .mem l2<| .mem e3<| .mem (dS _ _)<| .mem (bP g3)<| .call e4<| .mem hck<| .mem (bP cm4.gd)<| .mem e5<| .cond rfl<| .mem l3<| .call e6<| .mem e7<| .mem eR .nil),AY.new k7 (N:=m.next) (ai _) fun b hb=>by omega,
  sC.mono (sC.ext q6 k7 fun b hb h=>by have :=hb.1;omega) fun b hb=>⟨by have :=hb.1;omega,by have :=hb.2;omega⟩⟩
theorem alR (hK:Ej K){T:ByteArray}{d:CD}{cq:zx}(hck:∀m3 lo,Calm m3->Gl m3->Kp m m3 (fun y=>y=db)->vr lo d.A m3->m.next<lo->lo<=m3.next->ZM K d mp lo G m3)(hd:QP d cq)(cm:Calm m)(hG:Gl m)(Q6:QZ m db mp)(hh:m.home<=db)(hT:RdK K T d.A (.iface 108 d.sv))(jL:fM W Tb m)(hW:∀b,W b->b<m.next/\b≠db)(hq:aec K Tb m.next er G cq res)
  (wB:∀lo,∃rc pa pn pc xi xs xw xu,bN (sh lo) 20 d.sv= .agg #[.bool rc,.slice pa pn pc,xi,xs,xw,xu]/\bN (sh lo) 20 (.iface 108 d.sv)= .iface 108 (.agg #[.bool rc,.slice pa pn pc,xi,xs,xw,xu])/\([.bool rc,.slice pa pn pc,xi,xs,xw,xu].all (·.oneCell'))=true):
  ∃v m',Ev K 12 [vP db 0,.string T] m (.tuple #[v,vI er,vI 0]) m'/\Kp m m' (fun y=>y=db)/\QZ m' db mp/\sC er (jS m m') cq.fG res m' v:=by
 obtain⟨m3,m8,m',y1,y2,y3,y4,e,e12,k3,k8,cA,⟨h5,hQ⟩,k',aj2⟩:=alS (K:=K) (S:=eQ)
  (Q:=fun m3 m8 y1 y2 y3 y4 e=>e=er/\sC er (jS m3 m8) cq.fG res m8 (.agg #[y1,y2,y3,y4])) cm hG Q6 hh hT (fun b e=>e.elim) (by
  intro m3 lo wF hG3 k3 o3 hA cA hle;obtain⟨rc,pa,pn,pc,xi,xs,xw,xu,s1,s2,s3⟩:=wB lo;rw[s2];obtain⟨m4,e4,o4,k4,n4,_⟩:=aY wF.gd [.slice none 0 0,.slice none 0 0,.slice none 0 0,vI 0];have cm4:=wF.ext k4;obtain⟨m5,m6,e5,e6,o6,k6,n6⟩:=kY cm4.gd [.bool false,.slice none 0 0,.slice none 0 0,.slice none 0 0,.nilIface,.slice none 0 0] [.bool rc,.slice pa pn pc,xi,xs,xw,xu] rfl s3;have Hl:=cm4.ext k6;have k36:=k4.aS k6;have AY:=k3.aS k36;have n3:=k3.next;have n36:=k36.next;obtain⟨v,m7,e7,k7,q7⟩:=alq (K:=K) hK (hck m6 lo Hl (hG3.aU k36) AY (hA.ext k36 fun _ h=>h.elim) cA aj) hd Hl (o3.aU k36) (jL.ext AY fun b hb=>(hW b hb).2) (fun b hb=>by have :=(hW b hb).1;omega) aj s1 hq;obtain⟨nv,kv,rv,rfl,hy⟩:=q7.form;have n7:=k7.next;obtain⟨m8,e8,o8,k8⟩:=lh (o:=0) [nv,kv,rv,vI 0] ((o4.aU k6).aU k7) ((wF.gd.own (k36.aS k7) (ai _)).may _ _) (af rfl) hy;have n8:=k8.next;have eR:pz ab 31 (vP m3.next 0) m8=some (.agg #[nv,kv,rv,vI 0],m8):=nK o8 rfl vp.1 vp.2;have l6:fg 6 m4.next 0 m6=some (.agg #[.bool rc,.slice pa pn pc,xi,xs,xw,xu],m6):=bY (vs:=[.bool rc,.slice pa pn pc,xi,xs,xw,xu]) o6 rfl (af rfl);exact⟨nv,kv,rv,vI 0,(er:Int),m8,aJ (ajD db rc pn pc pa xi xs xw xu nv kv rv (vI 0) er m3.next m4.next) (.mem e4<| .cond rfl<| .cond rfl<| .cond rfl<| .mem e5<| .mem e6<| .mem l6<| .call e7<| .mem e8<| .mem eR .nil),(k36.aS k7).new k8 (N:=m3.next) (ai _) fun b hb=>by omega,hy,rfl,
   sC.mono (sC.ext q7 k8 fun b hb h=>by have :=hb.1;omega) fun b hb=>⟨by have :=hb.1;omega,by have :=hb.2;omega⟩⟩)
 subst h5;have n8:=k8.next;have n':=k'.next;exact⟨_,m',e12,(k3.aS k8).trans k' fun b hb h=>h.elim id fun h=>by omega,aj2,sC.mono (sC.ext hQ k' fun b hb h=>by have :=hb.1;have :=Q6.1.lt;rcases h with h|h<;>omega) fun b hb=>⟨by have :=hb.1;omega,by have :=hb.2;omega⟩⟩
end
end Go.AM
namespace Go.AM
set_option maxRecDepth 1000000
open Go Go.Conc Go.Proofs
def DF (d:CD):kK:={f:=d.f,args:=[.map (some 1000),d.sv],K:=d.A++[I2],N:=1100,c:=d.c++[(1000,[0,0]),(1001,[0,0,0])],v:= .tuple #[d.qv,vI 0],L:=d.L,nx:=d.nx}
def Xy (b:Nat)(x:Int):Nat×dU:=vk b [vI 1,vI x,.string .empty,.bool false]
def agO (z:Bool)(b:Nat)(x:Int):List (Nat×dU):=match z with
 |true=>[Xy (b+1) x,Xy (b+3) 0,vk (b+4) [vI 18,.iface 317 (vP (b+3) 0),.iface 317 (vP (b+1) 0)]]
 |false=>[Xy b x]
def PT (z:Bool)(b:Nat):ae:=match z with
 |true=> .iface 305 (vP (b+4) 0)
 |false=> .iface 317 (vP b 0)
def adD:List ae:=[sB [110],vI 1]
def cL (al sg tg:Bool)(x y w:Int)(s q:Nat):List (Nat×dU):=
 agO sg 1124 x++(bk (1126+s) 1 [PT sg 1124]::vk (1133+s) [vL (1136+s) 0 1 fp,.slice none 0 0]::bk (1136+s) 2 adD::bk (1149+s) 2 [vP (1133+s) 0,.nilIface]::vk (1156+s) [vP (1133+s) 0,vI 0,vI 0]::(agO tg (1160+s) w++
 [vk (1161+q) [vI 13,.iface 396 (vP (1156+s) 0),PT tg (1160+s)],vk (1170+q) [vP (1133+s) 0,vI 0,vI 0],Xy (1174+q) y,vk (1175+q) [vI 17,.iface 396 (vP (1170+q) 0),.iface 317 (vP (1174+q) 0)],bk (1178+q) 1 [.iface 305 (vP (1175+q) 0)],
 bk (1189+q) 4 [.bool al,vL (1149+s) 0 1 fp,.iface 305 (vP (1161+q) 0),vL (1178+q) 0 1 fp],bk (1191+q) 6 [vP (1133+s) 0,.bool true,.slice none 0 0,.nilIface,vL (1126+s) 0 1 fp,vL (1189+q) 0 1 fp],bk (1204+q) 2 [vP (1133+s) 0,.nilIface],vk (1211+q) [vP (1133+s) 0,vI 0,vI 0],bk (1215+q) 1 [.iface 396 (vP (1211+q) 0)],bk (1220+q) 2 adD]))
def cQV (q:Nat):ae:= .agg #[vL (1191+q) 0 1 fp,vL (1220+q) 0 1 fp,vL (1204+q) 0 1 fp,.nilIface,vL (1215+q) 0 1 fp,.slice none 0 0]
def cD (al sg tg:Bool)(x y w:Int):CD:={f:=75,A:=tL al sg tg x y w,sv:=tSV al sg tg,qv:=cQV (n4 sg+n4 tg),L:=cL al sg tg x y w (n4 sg) (n4 sg+n4 tg),nx:=1223+(n4 sg+n4 tg),c:=[(52,[1,1,1]),(112+n4 sg,[1,1,2]),(183+n4 sg+al.toNat,[1,1,5,1]),(202+n4 sg+al.toNat,[1,1,5,2]),(249+oN al sg tg,[1,1,5]),(260+oN al sg tg,[1,1]),(306+oN al sg tg,[1,2]),(325+oN al sg tg,[1,3])]}
theorem ZC (al sg tg:Bool)(x y w:Int):(DF (cD al sg tg x y w)).Fact (DF (cD al sg tg x y w)).J:=by
 cases al<;>cases sg<;>cases tg<;>exact⟨bG,bG,bG⟩
structure CdE (d:CD):Prop where
 f:d.f=75
 fact:(DF d).Fact (DF d).J
 a:aOk 12 d.A=true
 i:aIn d.A=true
 v:Vi (fun b=>Nat.blt b 12||d.A.any fun y=>Nat.beq y.1 b) 20 d.sv=true
 c:d.c.map (·.1)=d.A.map (·.1)
 l:(d.L.all fun x=>Nat.ble 1100 x.1&&Nat.blt x.1 d.nx)=true
theorem aaI (al sg tg:Bool)(x y w:Int):CdE (cD al sg tg x y w):=⟨rfl,ZC al sg tg x y w,by cases al<;>cases sg<;>cases tg<;>kernel_rfl,by cases al<;>cases sg<;>cases tg<;>kernel_rfl,by cases al<;>cases sg<;>cases tg<;>kernel_rfl,by cases al<;>cases sg<;>cases tg<;>rfl,by cases al<;>cases sg<;>cases tg<;>kernel_rfl⟩
section
variable {m:Mem}{lo mp pe:Nat}{A:List (Nat×dU)}
def lE (lo:Nat)(A:List (Nat×dU))(mp pe:Nat):List (Nat×Nat):=A.map (fun x=>(x.1,sh lo x.1))++[(1000,mp),(1001,pe)]
theorem Z8 (hA:aOk 12 A=true){x:Nat×dU}(hx:x∈A):HE 1100 m.next (lE lo A mp pe) x.1=sh lo x.1:=by
 obtain⟨q1,q2⟩:=Dh hA;obtain⟨h1,h2,_⟩:=q1 x hx;refine BI (l:=lE lo A mp pe) ?_ (fun y hy=>?_) (x.1,sh lo x.1) (List.mem_append_left _ (List.mem_map.2 ⟨x,hx,rfl⟩))
 ·unfold lE;rw[List.map_append,List.map_map];refine List.nodup_append.2 ⟨q2,(by decide:[1000,1001].Nodup),fun a ha b hb e=>?_⟩;obtain⟨z,hz,rfl⟩:=List.mem_map.1 ha;have :z.1<1000:=(q1 z hz).2.1;simp only[List.map_cons,List.map_nil,aR,List.not_mem_nil,or_false]at hb;have e:z.1=b:=e;omega
 ·rcases List.mem_append.1 hy with hy|hy
  ·obtain⟨z,hz,rfl⟩:=List.mem_map.1 hy;have :=q1 z hz;exact⟨this.1,aj⟩
  ·simp only[aR,List.not_mem_nil,or_false]at hy;rcases hy with rfl|rfl
   ·exact(by decide:12<=1000/\1000<1100)
   ·exact(by decide:12<=1001/\1001<1100)
theorem Z7 (hA:aOk 12 A=true):HE 1100 m.next (lE lo A mp pe) 1000=mp/\HE 1100 m.next (lE lo A mp pe) 1001=pe:=by
 obtain⟨q1,q2⟩:=Dh hA;have key:∀b,1000<=b->(A.map fun y=>(y.1,sh lo y.1)).find? (fun y=>Nat.beq y.1 b)=none:=fun b hb=>by
  rw[List.find?_eq_none];intro y hy h;obtain⟨x,hx,rfl⟩:=List.mem_map.1 hy;have :=az h;have :=(q1 x hx).2.1;simp only at*;omega
 unfold HE lE;rw[List.find?_append,List.find?_append,key _ gC,key _ gC];exact⟨rfl,rfl⟩
theorem ale (hA:aOk 12 A=true)(hI:aIn A=true)(M:Kf m mp pe)(lD:mp<lo/\m.base<=lo/\m.home<=lo)(hL:vr lo A m):Emb m (HE 1100 m.next (lE lo A mp pe)) (A++[I2]):=by
 obtain⟨q1,q2⟩:=Dh hA;obtain⟨π,GQ⟩:∃π,π=HE 1100 m.next (lE lo A mp pe):=⟨_,rfl⟩;rw[<-GQ];have pA:∀{x:Nat×dU},x∈A->π x.1=sh lo x.1:=fun hx=>by rw[GQ];exact Z8 hA hx
 obtain⟨p0,p1⟩:=Z7 (m:=m) (lo:=lo) (mp:=mp) (pe:=pe) hA;rw[<-GQ]at p0 p1;have mem:∀{x:Nat×dU},x∈A++[I2]->x∈A\/x=I2:=fun hx=>(List.mem_append.1 hx).imp id List.mem_singleton.1
 have ge:∀{x:Nat×dU},x∈A->lo<=π x.1:=fun hx=>by
  rw[pA hx,Ni (q1 _ hx).1];omega
 refine⟨fun x hx=>?_,fun x hx=>?_,fun x hx=>?_,fun x hx y hy e=>?_⟩
 ·rcases mem hx with h|rfl
  ·obtain⟨_,_,_,cs,_,h5⟩:=q1 x h;rw[pA h];exact(hL _ _ _ h5).2.lt
  ·show π 1000<_;rw[p0];exact M.lt
 ·rcases mem hx with h|rfl
  ·have :=ge h;omega
  ·show m.base<=π 1000/\_<=π 1000;rw[p0];exact⟨M.base,M.home⟩
 ·rcases mem hx with h|rfl
  ·obtain⟨_,_,h3,cs,h4,h5⟩:=q1 x h;have o:=(hL _ _ _ h5).2;rw[pA h];refine⟨o.kind.trans h3.symm,fun _=>⟨o.sz,?_⟩,fun hk=>(by rw[h3]at hk;cases hk),fun hk=>by rw[h3]at hk;cases hk⟩;rw[o.cs,wM h4,List.map_map,List.map_map];refine List.map_congr_left fun v hv=>?_
   show some (bN (sh lo) 20 v)=some (bN π 20 v)
   refine congrArg some (Nt (p:=fun b=>Nat.blt b 12||A.any fun y=>Nat.beq y.1 b) (fun b hb=>?_) ?_)
   ·rw[Bool.or_eq_true]at hb;rcases hb with hb|hb
    ·have hb:b<12:=af hb;rw[GQ];unfold sh HE;rw[bK hb,bK hb]
    ·obtain⟨y,hy,e⟩:=List.any_eq_true.1 hb;rw[<-az e,pA hy]
   ·exact aE.1 (aE.1 hI x h) (some v) (by rw[wM h4];exact List.mem_map.2 ⟨v,hv,rfl⟩)
  ·show Dj π I2.2 (m.blk (π 1000))
   rw[p0];refine⟨M.kind,fun h=>(by cases h),fun _=>⟨?_,M.clock⟩,fun h=>by cases h⟩;rw[M.es]
   show _=([⟨sB [101],vP (π 1001) 0,0⟩]:List MapEntry)
   rw[p1]
 ·rcases mem hx with h|rfl<;>rcases mem hy with h'|rfl
  ·rw[pA h,pA h',Ni (q1 _ h).1,Ni (q1 _ h').1]at e;have :=(q1 _ h).1;have :=(q1 _ h').1;omega
  ·have :=ge h;have e:π x.1=π 1000:=e;rw[p0]at e;omega
  ·have :=ge h';have e:π 1000=π y.1:=e;rw[p0]at e;omega
  ·rfl
theorem adG {d:CD}(h:CdE d)(cm:Calm m)(hG:Gl m)(M:Kf m mp pe)(lD:mp<lo/\m.base<=lo/\m.home<=lo)(hL:vr lo d.A m):
  ∃π m',ZU (fun r=>r=DF d) d.f [.map (some mp),bN (sh lo) 20 d.sv] m=some (.tuple #[bN π 20 d.qv,vI 0],m')/\Kp m m' eQ/\lz π d.L m' (jS m m')/\∀b,1100<=b->π b=m.next+(b-1100):=by
 obtain⟨q1,q2⟩:=Dh h.a;obtain⟨π,GQ⟩:∃π,π=HE 1100 m.next (lE lo d.A mp pe):=⟨_,rfl⟩;obtain⟨p0,_⟩:=Z7 (m:=m) (lo:=lo) (mp:=mp) (pe:=pe) h.a;rw[<-GQ]at p0;have hE:=ale h.a h.i M lD hL;have c:=h.fact.at;have nN:oz ab.globals.size (DF d).mi m π:=by
  rw[GQ];refine akc cm hG c.k (show 12<=1100 by decide) (fun x hx=>?_) hE;rcases List.mem_append.1 hx with hx|hx
  ·obtain⟨y,hy,rfl⟩:=List.mem_map.1 hx;obtain⟨_,_,_,cs,_,h5⟩:=q1 y hy;exact(hL _ _ _ h5).2.lt
  ·simp only[aR,List.not_mem_nil,or_false]at hx;rcases hx with rfl|rfl
   ·exact M.lt
   ·exact M.pe
 have Rh:(DF d).at d.f [.map (some mp),bN (sh lo) 20 d.sv] m π:=by
  refine⟨rfl,?_,⟨lE lo d.A mp pe,?_,GQ⟩,nN⟩
  ·show _=[ae.map (some (π 1000)),bN π 20 d.sv]
   rw[p0,Nt (p:=fun b=>Nat.blt b 12||d.A.any fun y=>Nat.beq y.1 b) (π:=π) (Au:=sh lo) (fun b hb=>?_) h.v];rw[Bool.or_eq_true]at hb;rcases hb with hb|hb
   ·have hb:b<12:=af hb;rw[GQ];unfold sh HE;rw[bK hb,bK hb]
   ·obtain⟨y,hy,e⟩:=List.any_eq_true.1 hb;rw[<-az e,GQ,Z8 h.a hy]
  ·show(d.A.map (fun x:Nat×dU=>(x.1,sh lo x.1))++[(1000,mp),(1001,pe)]).map (fun x:Nat×Nat=>x.1)=(d.c++[(1000,[0,0]),(1001,[0,0,0])]).map (fun x:Nat×List Nat=>x.1)
   simp only[List.map_append];rw[h.c,List.map_map];rfl
 have ht:=aba (RS:=fun r=>r=DF d) rfl Rh fun r' Au e h'=>by
  subst e;exact⟨rfl,rfl,rfl,rfl,PX Rh h' rfl rfl c.args c.args h.fact.cert h.fact.cert c.cn⟩
 have hdq:mm 19 d.qv=true:=by
  have h:(mm 19 d.qv&&(mm 19 (vI 0)&&true))=true:=c.val;rw[ag]at h;exact h.1
 rw[show bN π 20 (DF d).v= .tuple #[bN π 20 d.qv,vI 0] by
  show ae.tuple #[bN π 19 d.qv,vI 0]=_
  rw[uC hdq]]at ht
 have hg:∀b,1100<=b->π b=m.next+(b-1100):=fun b hb=>by
  rw[GQ];unfold HE;rw[bZ aj,bZ aj]
 have h3:∀x∈d.L,1100<=x.1/\x.1<d.nx:=fun x hx=>by
  have :=aE.1 h.l x hx;rw[ag]at this;exact⟨af this.1,af this.2⟩
 exact⟨π,_,ht,Yw hg fun x hx=>(h3 x hx).1,P5 cm rfl hg h3 c.ln,hg⟩
end
end Go.AM
namespace Go.AM
set_option maxRecDepth 1000000
open Go Go.Conc Go.Proofs
theorem afm (p n cc a b DQ q:Nat):eA 152 [2,0] 0 99 [0,1,2,3,4,10,11] [vL p 0 n cc,vI a,vI b,vI DQ,fR,.bool true,.bool true]
 (bu (GH (jH b a) 12) false::bu (cN DQ 0) false::dH:: .call 208 [vL p 0 n cc,vI a,vI b,fR] (.tuple #[vI q,vI 1])::dH::(rp 6 (.bool true) true ([.call 210 [vL p 0 n cc,vI a,vI b,fR] (.bool true),
  lN])))
 .ret [] []:=iD
section
variable {K:gI}{B:Nat->Prop}{p n cc:Nat}{rest:List ae}{m m':Mem}{d:Array El}
def Asc (d:Array El)(n:Nat):Prop:=∀i j,i<j->j<n->ltR d[j]! d[i]! =false
theorem ain (h:Sv B p n rest m d)(ha:Asc d n)(hn:n<90000):
  ∃m',Ev K 205 [vL p 0 n cc,vI (0:Nat),vI n,fR] m (.tuple #[]) m'/\Kp m m' eQ/\Sv B p n rest m' d:=by
 obtain⟨t0,w0,e0⟩:=cj (K:=K) (m:=m) (m':=m) (tm:=entry [vL p 0 n cc,vI (0:Nat),vI n,fR]) (aeX p n cc 0 n) rfl .nil;rw[H2]at e0;obtain⟨e,t1,m',he,hx,rfl,k1,s1⟩:=gD (K:=K) (nt:=jx 205) (a:=fT 205 [1]) (n-1)
  (Inv:=fun j tm m'=>dM [0,1,2,3,8] tm=[vL p 0 n cc,vI (0:Nat),vI n,fR,vI (0+1+j:Nat)]/\Kp m m' eQ/\Sv B p n rest m' d)
  (dG:=fun e tm m'=>e= .exit 0/\Kp m m' eQ/\Sv B p n rest m' d)
  (by
   rintro j tm m1 hj ⟨hg,k1,s1⟩
   left
   obtain⟨i,hi⟩:∃i,0+1+j=i+1:=⟨j,aj⟩;rw[hi]at hg;obtain⟨ta,wa,ea⟩:=cj (K:=K) (m:=m1) (m':=m1) (ae0 p n cc 0 n (i+1)) hg (.cond (dT Q8)<| .nil);obtain⟨tb,wb,eb⟩:=cj (K:=K) (m:=m1) (m':=m1) (aeZ p n cc 0 n (i+1)) ea .nil;obtain⟨c,m2,e2,k2,s2,hc⟩:=s1.cmp (K:=K) (i:=i+1) (j:=i);have g1:=s1.gd;obtain⟨e,tc,m3,he,hxc,rfl,rfl,ec⟩:=qq (K:=K) (nt:=jx 205) (a:=fT 205 [1,2,1])
    (Inv:=fun _ tm m'=>m'=m1/\dM [0,1,2,3,8,9] tm=[vL p 0 n cc,vI (0:Nat),vI n,fR,vI (i+1:Nat),vI (i+1:Nat)])
    (dG:=fun e tm m'=>e= .exit 2/\m'=m2/\dM [0,1,2,3,8] tm=[vL p 0 n cc,vI (0:Nat),vI n,fR,vI (i+1:Nat)])
    (by
     rintro k tm m0 ⟨rfl,hg⟩;obtain⟨t2,gm,gA⟩:=bL II (aeW p n cc 0 n (i+1) i d[i+1]!.1 d[i]!.1 c) hg (.rp (dT Ku)<| .idx rfl aj<| .cond (dT Ku)<| .mem s1.ld<| .rp (dT Ku)<| .idx XI aj<| .cond (dT Ku)<| .mem s1.ld<| .mem (bP nZ)<| .cond (dT Ku)<| .fw e2<| .cond (dT Ku)<| .cond (dT Ku)<| .cond (bF (hc.trans (ha i (i+1) aj aj)))<| .nil);exact .inr ⟨_,t2,m2,nU,gm,rfl,rfl,gA⟩)
    (n:=0) (k:=100000) (tm:=tb) (m:=m1) ⟨rfl,eb⟩ aj
   obtain⟨td,wd,ed⟩:=cj (K:=K) (m:=m3) (m':=m3) (aeY p n cc 0 n (i+1)) ec .nil;rw[H2,<-hi]at ed;exact⟨td,m3,(aQ.cut wa (aQ.adR QN QK (aQ.cut wb (aQ.sK hxc (aQ.done (af bG)))) (.inl rfl) (aQ.last wd (gy AU).2.2))).code AU,ed,k1.aS k2,s2⟩)
  (by
   rintro tm m1 ⟨hg,k1,s1⟩;obtain⟨t2,gm,gA⟩:=bL (K:=K) (m:=m1) (m':=m1) AU (ae1 p n cc 0 n (0+1+(n-1))) hg (.cond (dF Q8)<| .nil);exact⟨_,t2,m1,nU,gm,rfl,k1,s1⟩)
  (tm:=t0) (m:=m) ⟨e0,.refl _ _,h⟩ aj
 exact⟨m',fW (vs:=[]) aad (aQ.cut w0 (aQ.sK hx (aQ.done (af bG)))) (.inl rfl) rfl,k1,s1⟩
theorem Wy (h:Sv B p n rest m d)(ha:Asc d n){a b s:Nat}(Ox:a<b)(hb:b<n):∃m',Ev K 274 [vL p 0 n cc,vI a,vI b,vP s 0,fR] m (.tuple #[vI a,vI b]) m'/\Kp m m' eQ/\Sv B p n rest m' d:=by
 have g:=h.gd;obtain⟨c,m2,e2,k2,s2,hc⟩:=h.cmp (K:=K) (i:=b) (j:=a);exact⟨m2,aJ (agh p n cc a b s d[a]!.1 d[b]!.1 c) (.idx rfl aj<| .mem h.ld<| .idx rfl aj<| .mem h.ld<| .mem (bP nZ)<| .fw e2<| .cond (bF (hc.trans (ha a b Ox hb)))<| .nil),k2,s2⟩
theorem Wz (h:Sv B p n rest m d)(ha:Asc d n){a b c s:Nat}(Ox:a<b)(hbc:b<c)(hc:c<n):∃m',Ev K 258 [vL p 0 n cc,vI a,vI b,vI c,vP s 0,fR] m (vI b) m'/\Kp m m' eQ/\Sv B p n rest m' d:=by
 obtain⟨m1,e1,k1,s1⟩:=Wy (K:=K) (cc:=cc) (s:=s) h ha Ox aj;obtain⟨m2,e2,k2,s2⟩:=Wy (K:=K) (cc:=cc) (s:=s) s1 ha hbc hc;obtain⟨m3,e3,k3,s3⟩:=Wy (K:=K) (cc:=cc) (s:=s) s2 ha Ox aj;exact⟨m3,aJ (ajG p n cc a b c s a b b c a b) (.call e1<| .call e2<| .call e3 .nil),(k1.aS k2).aS k3,s3⟩
theorem WA (h:Sv B p n rest m d)(ha:Asc d n){a s:Nat}(h0:0<a)(hl:a+1<n)(hn:n<90000):∃m',Ev K 257 [vL p 0 n cc,vI a,vP s 0,fR] m (vI a) m'/\Kp m m' eQ/\Sv B p n rest m' d:=by
 obtain⟨m1,e1,r⟩:=Wz (K:=K) (cc:=cc) (s:=s) h ha (a:=a-1) (b:=a) (c:=a+1) aj aj hl;refine⟨m1,aJ (ajH p n cc a s a) (.call ?_ .nil),r⟩;have e:jH a 1=((a-1:Nat):Int):=XH (j:=1) aj;rw[e,H2];exact e1
theorem aim (h:Sv B p n rest m d)(ha:Asc d n)(h12:12<n)(hn:n<90000):∃q m',Ev K 208 [vL p 0 n cc,vI (0:Nat),vI n,fR] m (.tuple #[vI (q:Nat),vI 1]) m'/\Kp m m' eQ/\Sv B p n rest m' d:=by
 obtain⟨m1,ea,oa,ka,na,_⟩:=aY h.gd [vI 0];have s1:=h.ext ka;have e1:jH n (0:Nat)=((n:Nat):Int):=XH aj;obtain⟨q,hq⟩:∃q,q=n / 4:=⟨_,rfl⟩;have eq:∀x,j0 Nat.div .i64 n 4 x=some (vI q):=fun x=>by rw[hq];exact afG aj (j:=4) aj
 obtain⟨t0,w0,e0⟩:=cj (K:=K) (m:=m) (m':=m1) (tm:=entry [vL p 0 n cc,vI (0:Nat),vI n,fR]) (aeU p n cc 0 n q m.next) rfl (.mem ea<| .val (by rw[e1];exact eq _)<| .val (by rw[e1];exact eq _)<| .val (by rw[e1];exact eq _) .nil);have f1:eh (0:Nat) (jq q 1)=((q*1:Nat):Int):=by rw[show jq q 1=((q*1:Nat):Int)from Tu (j:=1) aj,MQ aj,Nat.zero_add]
 have f2:eh (0:Nat) (jq q 2)=((q*2:Nat):Int):=by rw[show jq q 2=((q*2:Nat):Int)from Tu (j:=2) aj,MQ aj,Nat.zero_add]
 have f3:eh (0:Nat) (jq q 3)=((q*3:Nat):Int):=by rw[show jq q 3=((q*3:Nat):Int)from Tu (j:=3) aj,MQ aj,Nat.zero_add]
 rw[e1,f1,f2,f3]at e0;have vg:∃(t1:Tm) (m2:Mem),Dn K (jx 208) (CI (bV 208) 6 8) ⟨t0,m1,[]⟩ .normal ⟨t1,m2,[]⟩/\dM [11,13] t1=[vP m.next 0,vI (q*2:Nat)]/\Kp m1 m2 eQ/\Sv B p n rest m2 d:=by
  by_cases h50:50<=n
  ·obtain⟨m2,c1,k1,s2⟩:=WA (K:=K) (cc:=cc) (s:=m.next) s1 ha (a:=q*1) aj aj hn;obtain⟨m3,c2,k2,s3⟩:=WA (K:=K) (cc:=cc) (s:=m.next) s2 ha (a:=q*2) aj aj hn;obtain⟨m4,c3,k3,s4⟩:=WA (K:=K) (cc:=cc) (s:=m.next) s3 ha (a:=q*3) aj aj hn;obtain⟨m5,c4,k4,s5⟩:=Wz (K:=K) (cc:=cc) (s:=m.next) s4 ha (a:=q*1) (b:=q*2) (c:=q*3) aj aj aj;obtain⟨t1,w1,g1⟩:=cj (K:=K) (aeS p n cc n m.next (q*1) (q*2) (q*3) _ _ _ _) e0 (.cond (dT (Rk (j:=8)))<| .cond (dT (Rk (j:=50)))<| .call c1<| .call c2<| .call c3<| .call c4<| .nil);exact⟨t1,m5,w1,g1,((k1.aS k2).aS k3).aS k4,s5⟩
  ·obtain⟨m5,c4,k4,s5⟩:=Wz (K:=K) (cc:=cc) (s:=m.next) s1 ha (a:=q*1) (b:=q*2) (c:=q*3) aj aj aj;obtain⟨t1,w1,g1⟩:=cj (K:=K) (aeT p n cc n m.next (q*1) (q*2) (q*3) _) e0 (.cond (dT (Rk (j:=8)))<| .cond (dF (Rk (j:=50)))<| .call c4<| .nil);exact⟨t1,m5,w1,g1,k4,s5⟩
 obtain⟨t1,m2,w1,g1,k1,s2⟩:=vg;have hld:aT m.next 0 m2=some (vI (0:Nat),m2):=aO (oa.aU k1) rfl;obtain⟨t2,w2,g2⟩:=cj (K:=K) (m:=m2) (m':=m2) (aeR m.next (q*2) 0) g1 (.mem hld<| .cond rfl .nil);exact⟨q*2,m2,fW (vs:=[vI (q*2:Nat),vI 1]) agG (aQ.cut w0 (aQ.cut w1 (aQ.last w2 PL))) (.inr rfl) g2,ka.aS k1,s2⟩
theorem ail (h:Sv B p n rest m d)(ha:Asc d n)(h0:1<n)(hn:n<90000):∃m',Ev K 210 [vL p 0 n cc,vI (0:Nat),vI n,fR] m (.bool true) m'/\Kp m m' eQ/\Sv B p n rest m' d:=by
 obtain⟨t0,w0,e0⟩:=cj (K:=K) (m:=m) (m':=m) (tm:=entry [vL p 0 n cc,vI (0:Nat),vI n,fR]) (aeQ p n cc 0 n) rfl .nil;rw[H2]at e0;obtain⟨e,t1,m1,he,hx,rfl,k1,s1,hq⟩:=qq (K:=K) (nt:=jx 210) (a:=fT 210 [3])
  (Inv:=fun _ tm m'=>m'=m/\dM [0,1,2,3,9,10] tm=[vL p 0 n cc,vI (0:Nat),vI n,fR,vI (0+1:Nat),vI (0:Nat)])
  (dG:=fun e tm m'=>e= .ret/\Kp m m' eQ/\Sv B p n rest m' d/\dM [8] tm=[.bool true])
  (by
   rintro k tm m0 ⟨rfl,hg⟩;obtain⟨ta,wa,ga⟩:=cj (K:=K) (m:=m0) (m':=m0) (aeP p n cc 0 n (0+1) 0) hg (.cond (dT (Q8 (i:=0) (j:=5)))<| .nil);obtain⟨e,tb,m2,he,hxb,rfl,gb,kb,sb⟩:=gD (K:=K) (nt:=jx 210) (a:=fT 210 [3,2,0]) (n-1)
    (Inv:=fun j tm m'=>dM [0,1,2,3,9,10] tm=[vL p 0 n cc,vI (0:Nat),vI n,fR,vI (j+1:Nat),vI (0:Nat)]/\Kp m0 m' eQ/\Sv B p n rest m' d)
    (dG:=fun e tm m'=>e= .exit 2/\dM [0,1,2,3,9,10] tm=[vL p 0 n cc,vI (0:Nat),vI n,fR,vI n,vI (0:Nat)]/\Kp m0 m' eQ/\Sv B p n rest m' d)
    (by
     rintro j tm m1 hj ⟨hg,k1,s1⟩
     left
     obtain⟨c,m2,e2,k2,s2,hc⟩:=s1.cmp (K:=K) (i:=j+1) (j:=j);have g:=s1.gd;obtain⟨t2,gm,gA⟩:=bL zT (aeO p n cc 0 n j 0 d[j+1]!.1 d[j]!.1 c) hg (.rp (dT Q8)<| .idx rfl aj<| .cond (dT Q8)<| .mem s1.ld<| .rp (dT Q8)<| .idx XI aj<| .cond (dT Q8)<| .mem s1.ld<| .mem (bP nZ)<| .cond (dT Q8)<| .fw e2<| .rp (dT Q8)<| .cond (bT (by rw[hc,ha j (j+1) aj aj];rfl))<| .nil);rw[H2]at gA;exact⟨t2,m2,gm,gA,k1.aS k2,s2⟩)
    (by
     rintro tm m1 ⟨hg,k1,s1⟩;have g:=s1.gd;obtain⟨t2,gm,gA⟩:=bL (K:=K) (m:=m1) (m':=m1) zT (aeN p n cc 0 n (n-1) 0) hg (.rp (dF Q8)<| .mem (bP nZ)<| .rp (dF Q8)<| .cond rfl<| .nil);rw[show n-1+1=n by omega]at gA;exact⟨_,t2,m1,nU,gm,rfl,gA,k1,s1⟩)
    (tm:=ta) (m:=m0) ⟨ga,.refl _ _,h⟩ aj
   obtain⟨t2,w2,g2⟩:=cj (K:=K) (m:=m2) (m':=m2) (aeM p n cc 0 n n 0) gb (.cond (by rw[se];simp)<| .nil);exact .inr ⟨.ret,t2,m2,nU,(aQ.cut wa (aQ.MF QM QJ (aQ.sK hxb (aQ.last w2 (af bG))) bG)).code X4,rfl,kb,sb,g2⟩)
  (n:=0) (k:=100000) (tm:=t0) (m:=m) ⟨rfl,e0⟩ aj
 exact⟨m1,fW (vs:=[.bool true]) agF (aQ.cut w0 (aQ.ES Yi Yl hx bG)) (.inr rfl) hq,k1,s1⟩
theorem Sp {l:List (List V)}(hl:l.Pairwise fun x y=>cC x y<=0)(hn:l.length<65536):WR K l:=by
 intro B p cc rest m d hd h hB;have hz:=h.sz;have ha:Asc d l.length:=fun i j sN hj=>by
  have hp:=List.pairwise_iff_getElem.1 hl i j aj hj sN;have e:∀k (hk:k<l.length),d[k]!.2=l[k]:=fun k hk=>by
   rw[getElem!_pos d k aj];have :(d.toList.map (·.2))[k]?=some l[k]:=by rw[hd];exact List.getElem?_eq_getElem hk
   simpa[hz,hk]using this
  have :¬cC d[j]!.2 d[i]!.2<0:=by
   rw[e i aj,e j hj];intro h;have :=uQ.QS h;omega
  show eX _ 0=false
  rw[eH,qV this]
 have he:(d.toList.map (·.2)).Perm l/\(d.toList.map (·.2)).Pairwise fun x y=>cC x y<=0:=by rw[hd];exact⟨.refl _,hl⟩
 obtain⟨DQ,ahq⟩:∃x,x=Sort.bitsLen l.length:=⟨_,rfl⟩;rw[<-ahq];obtain⟨t0,w0,e0⟩:=cj (K:=K) (m:=m) (m':=m) (tm:=entry [vL p 0 l.length cc,vI (0:Nat),vI l.length,vI DQ,fR]) (afk p l.length cc 0 l.length DQ) rfl .nil;have e1:jH (l.length:Int) ((0:Nat):Int)=((l.length-0:Nat):Int):=XH aj;obtain⟨e,t1,m3,E4,hx,rfl,k3,s3⟩:=qq (K:=K) (nt:=jx 152) (a:=fT 152 [2])
  (Inv:=fun _ tm m'=>m'=m/\dM [0,1,2,3,4,10,11] tm=[vL p 0 l.length cc,vI (0:Nat),vI l.length,vI DQ,fR,.bool true,.bool true])
  (dG:=fun e tm m'=>e= .ret/\Kp m m' eQ/\Sv B p l.length rest m' d)
  (by
   rintro k tm m1 ⟨rfl,hg⟩
   right
   by_cases h12:l.length<=12
   ·obtain⟨m2,e2,k2,s2⟩:=ain (K:=K) (cc:=cc) h ha aj;obtain⟨t,w,g⟩:=cj (afl p l.length cc 0 l.length DQ true true) hg (.cond (by rw[e1];exact dT (leN (j:=12)))<| .call e2<| .nil);exact⟨.ret,t,m2,nU,(aQ.MF FC FB (aQ.last w (af bG)) bG).code Gj,rfl,k2,s2⟩
   ·obtain⟨q,m2,e2,k2,s2⟩:=aim (K:=K) (cc:=cc) h ha aj aj;obtain⟨m3,e3,k3,s3⟩:=ail (K:=K) (cc:=cc) s2 ha aj aj;have hb:(.bool (cN DQ 0):ae)= .bool false:=by
     have :0<DQ:=by
      rw[ahq];rcases Nat.eq_zero_or_pos (Sort.bitsLen l.length)with e|e
      ·have :=(Sort.bitsLen_le_iff l.length 0).1 aj;omega
      ·exact e
     rw[se];exact bF (qV aj)
    obtain⟨t,w,g⟩:=cj (afm p l.length cc 0 l.length DQ q) hg (.cond (by rw[e1];exact dF (leN (j:=12)))<| .cond hb<| .cond rfl<| .call e2<| .cond rfl<| .rp rfl<| .call e3<| .cond rfl<| .nil);exact⟨.ret,t,m3,nU,(aQ.MF FC FB (aQ.last w (af bG)) bG).code Gj,rfl,k2.aS k3,s3⟩)
  (n:=0) (k:=100000) (tm:=t0) (m:=m) ⟨rfl,e0⟩ aj
 exact⟨m3,d,fW (vs:=[]) aae (aQ.cut w0 (aQ.ES NV NW hx bG)) (.inr rfl) rfl,k3.vF,s3,he.1,he.2⟩
end
end Go.AM
namespace Go.AM
set_option maxRecDepth 1000000
open Go Go.Conc Go.Proofs
theorem ajW (a:Int):PH [0,a,0,0]=a:=by
 unfold PH;simp only[ne_eq,not_true_eq_false,if_false];unfold PH
 split
 ·rfl
 ·rename_i h;have h:a=0:=by simpa using h
  rw[h];rfl
theorem RQ (p:Bool):(dk p).beq (dk true)=p:=by cases p<;>rfl
section
variable {cv:Nat->Int->Int->V}{x y:X}{u v:V}
theorem Lt {op:Int}(h1:ft cv x=(u,0))(h2:ft cv y=(v,0)):ft cv (.bin op x y)=wj op u v:=by
 show(if _ then _ else if _ then _ else _)=_
 rw[h1,h2];rfl
end
def rw2 (i j:Nat):List Nat:=(eO.set 0 i).set 1 j
section
variable {T:Nat->Option (List (List V))}{p0 p1 p:Nat}{R0 R1 R:List (List V)}{on wh:Option X}{it:X}
theorem Wo {i j c:Nat}{u:V}{row:List V}(h:T p=some R)(hi:R[i]?=some row)(hc:row[c]?=some u):rF T (rw2 i j) p 0 c=u:=by
 unfold rF;rw[h];simp only[];rw[bK ⟨aj,aj⟩]
 show(match some i with |none=>xA|some x=>_)=u
 simp only[hi]
 show(match row[c]? with |none=>xA|some u=>u)=u
 rw[hc]
theorem P6 {cv:Nat->Int->Int->V}(h:(ft cv it).2=0):sU cv [it] []=([(ft cv it).1],0):=by
 unfold sU;rw[bZ (by rw[h];simp)];rfl
end
end Go.AM
namespace Go.AM
set_option maxRecDepth 1000000
open Go Go.Conc Go.Proofs
def lI (z:Bool)(x:Int):X:=match z with
 |true=> .bin 18 (.lit (fU 0)) (.lit (fU x))
 |false=> .lit (fU x)
def cCq (al sg tg:Bool)(x y w:Int)(p:Nat):zx:=⟨[⟨p,true,⟨⟨[],none,[lI sg x]⟩,[⟨al,⟨[⟨p,none⟩],some (.bin 13 (.pU p 0 0) (lI tg w)),[.bin 17 (.pU p 0 0) (.lit (fU y))]⟩⟩]⟩⟩],[⟨⟨#[110]⟩,1⟩],⟨⟨[⟨p,none⟩],none,[.pU p 0 0]⟩,[]⟩⟩
section
variable {π:Nat->Nat}{L:List (Nat×dU)}{m:Mem}{B:Nat->Prop}
theorem LC (La:lz π L m B){α:Type}{E:nB α}{sz b c:Nat}{x:α}{u:ae}{cs:List ae}(h:dI L b=some (sz,cs))(hx:E.R B x m u)(ho:okV sz u)(hu:cs.map (bN π 20)=u.cells.toList)(hc:c=fp\/c=1):(aW E sz).R B [x] m (vL (π b) 0 1 c):=by
 obtain⟨h1,h2⟩:=La b sz cs h;rw[hu]at h2;refine⟨u.cells.toList,⟨?_,.inr ⟨π b,c,rfl,h2,hc⟩⟩,fun b' o n c' e=>by cases e;exact h1,⟨u,[],cY,⟨hx,ho⟩,rfl⟩⟩;rw[Array.length_toList,ho.1];simp
theorem Xq (La:lz π L m B){b:Nat}{x:Int}(h:dI L b=some (0,[vI 1,vI x,.string .empty,.bool false])):XR B (.lit (fU x)) m (.iface 317 (vP (π b) 0)):=by
 obtain⟨h1,h2⟩:=La b _ _ h;exact⟨π b,rfl,h1,h2⟩
theorem aaY (La:lz π L m B){b p:Nat}(h:dI L b=some (0,[vP p 0,vI 0,vI 0])):XR B (.pU (π p) 0 0) m (.iface 396 (vP (π b) 0)):=by
 obtain⟨h1,h2⟩:=La b _ _ h;exact⟨π b,rfl,h1,h2⟩
theorem aaZ (La:lz π L m B){b:Nat}{op:Int}{l r:X}{lv rv:ae}(h:dI L b=some (0,[vI op,lv,rv]))(hl:XR B l m (bN π 20 lv))(hr:XR B r m (bN π 20 rv)):XR B (.bin op l r) m (.iface 305 (vP (π b) 0)):=by
 obtain⟨h1,h2⟩:=La b _ _ h;exact⟨π b,_,_,rfl,h1,h2,hl,hr⟩
theorem aem (La:lz π L m B){z:Bool}{b:Nat}{x:Int}(h:match z with
  |true=>dI L (b+1)=some (0,[vI 1,vI x,.string .empty,.bool false])/\dI L (b+3)=some (0,[vI 1,vI 0,.string .empty,.bool false])/\dI L (b+4)=some (0,[vI 18,.iface 317 (vP (b+3) 0),.iface 317 (vP (b+1) 0)])
  |false=>dI L b=some (0,[vI 1,vI x,.string .empty,.bool false])):XR B (lI z x) m (bN π 20 (PT z b)):=by
 cases z with
 |false=>exact Xq La h
 |true=>exact aaZ La h.2.2 (Xq La h.2.1) (Xq La h.1)
theorem Tf {z:Bool}{x:Int}:AA π (lI z x)=lI z x:=by cases z<;>rfl
theorem ace {v:ae}(h:v.cells=#[v])(h1:v.oneCell'=true):okV 1 v:=⟨by rw[h];rfl,fun y hy=>by
 rw[h]at hy;have hy:y∈[v]:=hy;rw[List.mem_singleton.1 hy];exact h1⟩
end
structure aaU (al sg tg:Bool)(x y w:Int)(s q:Nat)(L:List (Nat×dU)):Prop where
 a0:match sg with
  |true=>dI L (1124+1)=some (0,[vI 1,vI x,.string .empty,.bool false])/\dI L (1124+3)=some (0,[vI 1,vI 0,.string .empty,.bool false])/\dI L (1124+4)=some (0,[vI 18,.iface 317 (vP (1124+3) 0),.iface 317 (vP (1124+1) 0)])
  |false=>dI L 1124=some (0,[vI 1,vI x,.string .empty,.bool false])
 w0:match tg with
  |true=>dI L (1160+s+1)=some (0,[vI 1,vI w,.string .empty,.bool false])/\dI L (1160+s+3)=some (0,[vI 1,vI 0,.string .empty,.bool false])/\dI L (1160+s+4)=some (0,[vI 18,.iface 317 (vP (1160+s+3) 0),.iface 317 (vP (1160+s+1) 0)])
  |false=>dI L (1160+s)=some (0,[vI 1,vI w,.string .empty,.bool false])
 i0:dI L (1126+s)=some (1,[PT sg 1124])
 s0:dI L (1149+s)=some (2,[vP (1133+s) 0,.nilIface])
 c0:dI L (1156+s)=some (0,[vP (1133+s) 0,vI 0,vI 0])
 b0:dI L (1161+q)=some (0,[vI 13,.iface 396 (vP (1156+s) 0),PT tg (1160+s)])
 c2:dI L (1170+q)=some (0,[vP (1133+s) 0,vI 0,vI 0])
 y0:dI L (1174+q)=some (0,[vI 1,vI y,.string .empty,.bool false])
 b2:dI L (1175+q)=some (0,[vI 17,.iface 396 (vP (1170+q) 0),.iface 317 (vP (1174+q) 0)])
 i2:dI L (1178+q)=some (1,[.iface 305 (vP (1175+q) 0)])
 u0:dI L (1189+q)=some (4,[.bool al,vL (1149+s) 0 1 fp,.iface 305 (vP (1161+q) 0),vL (1178+q) 0 1 fp])
 p0:dI L (1191+q)=some (6,[vP (1133+s) 0,.bool true,.slice none 0 0,.nilIface,vL (1126+s) 0 1 fp,vL (1189+q) 0 1 fp])
 s3:dI L (1204+q)=some (2,[vP (1133+s) 0,.nilIface])
 c3:dI L (1211+q)=some (0,[vP (1133+s) 0,vI 0,vI 0])
 i3:dI L (1215+q)=some (1,[.iface 396 (vP (1211+q) 0)])
 n0:dI L (1220+q)=some (2,adD)
theorem ZB (al sg tg:Bool)(x y w:Int):aaU al sg tg x y w (n4 sg) (n4 sg+n4 tg) (noT [1133+n4 sg] (cL al sg tg x y w (n4 sg) (n4 sg+n4 tg))):=by
 cases sg<;>cases tg<;>exact⟨(by first |exact rfl|exact⟨rfl,rfl,rfl⟩),(by first |exact rfl|exact⟨rfl,rfl,rfl⟩),rfl,rfl,rfl,rfl,rfl,rfl,rfl,rfl,rfl,rfl,rfl,rfl,rfl,rfl⟩
theorem ZD {al sg tg:Bool}{x y w:Int}{s q:Nat}{L:List (Nat×dU)}(h:aaU al sg tg x y w s q L){π:Nat->Nat}{m:Mem}{B:Nat->Prop}(La:lz π L m B):zk.R B (tx.iA π (cCq al sg tg x y w (1133+s))) m (bN π 20 (cQV q)):=by
 have e1:∀z n,AA π (lI z n)=lI z n:=fun z n=>Tf
 have hn:∀z b,okV 1 (bN π 20 (PT z b)):=fun z b=>by cases z<;>exact ace rfl rfl
 have src:∀{b},dI L b=some (2,[vP (1133+s) 0,.nilIface])->(aW Fl 2).R B [⟨π (1133+s),none⟩] m (vL (π b) 0 1 fp):=fun hb=>LC La hb (u:= .agg #[vP (π (1133+s)) 0,.nilIface]) ⟨_,rfl,rfl⟩ ⟨rfl,by simp[ae.cells,ae.oneCell']⟩ rfl (.inl rfl)
 have first :jZ.R B ⟨[],none,[lI sg x]⟩ m (.agg #[.slice none 0 0,.nilIface,vL (π (1126+s)) 0 1 fp]):=⟨_,_,_,rfl,aW.nil,rfl,LC La h.i0 (aem La h.a0) (hn _ _) (by cases sg<;>rfl) (.inl rfl)⟩
 have again:jZ.R B ⟨[⟨π (1133+s),none⟩],some (.bin 13 (.pU (π (1133+s)) 0 0) (lI tg w)),[.bin 17 (.pU (π (1133+s)) 0 0) (.lit (fU y))]⟩ m (.agg #[vL (π (1149+s)) 0 1 fp,.iface 305 (vP (π (1161+q)) 0),vL (π (1178+q)) 0 1 fp]):=
  ⟨_,_,_,rfl,src h.s0,aaZ La h.b0 (aaY La h.c0) (aem La h.w0),LC La h.i2 (aaZ La h.b2 (aaY La h.c2) (Xq La h.y0)) (ace rfl rfl) rfl (.inl rfl)⟩
 have us:(aW Fj 4).R B [⟨al,⟨[⟨π (1133+s),none⟩],some (.bin 13 (.pU (π (1133+s)) 0 0) (lI tg w)),[.bin 17 (.pU (π (1133+s)) 0 0) (.lit (fU y))]⟩⟩] m (vL (π (1189+q)) 0 1 fp):=
  LC La h.u0 (u:= .agg #[.bool al,vL (π (1149+s)) 0 1 fp,.iface 305 (vP (π (1161+q)) 0),vL (π (1178+q)) 0 1 fp]) ⟨_,_,_,rfl,again⟩ ⟨rfl,by simp[ae.cells,ae.oneCell']⟩ rfl (.inl rfl)
 have part:(aW pK 6).R B [⟨π (1133+s),true,⟨⟨[],none,[lI sg x]⟩,[⟨al,⟨[⟨π (1133+s),none⟩],some (.bin 13 (.pU (π (1133+s)) 0 0) (lI tg w)),[.bin 17 (.pU (π (1133+s)) 0 0) (.lit (fU y))]⟩⟩]⟩⟩] m (vL (π (1191+q)) 0 1 fp):=
  LC La h.p0 (u:= .agg #[vP (π (1133+s)) 0,.bool true,.slice none 0 0,.nilIface,vL (π (1126+s)) 0 1 fp,vL (π (1189+q)) 0 1 fp]) ⟨_,_,_,_,rfl,_,_,_,_,rfl,first,us⟩ ⟨rfl,by simp[ae.cells,ae.oneCell']⟩ rfl (.inl rfl)
 have body:iK.R B ⟨⟨[⟨π (1133+s),none⟩],none,[.pU (π (1133+s)) 0 0]⟩,[]⟩ m (.agg #[vL (π (1204+q)) 0 1 fp,.nilIface,vL (π (1215+q)) 0 1 fp,.slice none 0 0]):=
  ⟨_,_,_,_,rfl,⟨_,_,_,rfl,src h.s3,rfl,LC La h.i3 (aaY La h.c3) (ace rfl rfl) rfl (.inl rfl)⟩,aW.nil⟩
 have hq:tx.iA π (cCq al sg tg x y w (1133+s))=⟨[⟨π (1133+s),true,⟨⟨[],none,[lI sg x]⟩,[⟨al,⟨[⟨π (1133+s),none⟩],some (.bin 13 (.pU (π (1133+s)) 0 0) (lI tg w)),[.bin 17 (.pU (π (1133+s)) 0 0) (.lit (fU y))]⟩⟩]⟩⟩],[⟨⟨#[110]⟩,1⟩],⟨⟨[⟨π (1133+s),none⟩],none,[.pU (π (1133+s)) 0 0]⟩,[]⟩⟩:=by
  cases sg<;>cases tg<;>rfl
 rw[hq];exact⟨_,_,_,_,_,_,rfl,part,LC La h.n0 (u:=AK.val ⟨⟨#[110]⟩,1⟩) rfl (AK.ok (B:=B) (x:=⟨⟨#[110]⟩,1⟩) (m:=m) rfl) rfl (.inl rfl),body⟩
theorem adC (al sg tg:Bool)(x y w:Int):QP (cD al sg tg x y w) (cCq al sg tg x y w (1133+n4 sg)):=by
 refine⟨rfl,fun La=>ZD (ZB al sg tg x y w) La,fun z hz=>?_,fun b sz cs h=>?_,List.nodup_cons.2 ⟨fun h=>(by cases h),List.nodup_nil⟩,rfl,(show 1<9000 by decide),(show 1<9000 by decide)⟩
 ·rw[List.mem_singleton.1 hz];refine⟨show 1100<=1133+n4 sg by omega,?_⟩;cases sg<;>cases tg<;>exact⟨_,_,rfl⟩
 ·obtain⟨k,hk,_⟩:=xy h;have :=aE.1 (aaI al sg tg x y w).l _ hk;rw[ag]at this;exact af this.1
end Go.AM
namespace Go.AM
set_option maxRecDepth 1000000
open Go Go.Conc Go.Proofs
theorem ajQ (x:Int)(n:Nat)(x1:Int):Path 15 [vI x,vI n]
 [bu (eX x 0) false,
  .val (j0 Nat.mod .i64 x n (jC ab .rem 3 false false (vI x) (vI n))) (vI x1)]
 (vI x1):=fu
theorem ajP (x:Int)(n:Nat)(x1 x2:Int):Path 15 [vI x,vI n]
 [bu (eX x 0) true,
  .val (pu ab [vI (eh x 1)] (Op.unary .neg (vI (eh x 1)))) (vI x1),
  .val (j0 Nat.mod .i64 x1 n (jC ab .rem 3 false false (vI x1) (vI n))) (vI x2)]
 (vI x2):=fu
def oA (x:Int)(n:Nat):Nat:=(if x<0 then(-(x+1)).toNat else x.toNat)%n
section
variable {K:gI}{m:Mem}
theorem c15 {x:Int}(hx:LV x){n:Nat}(h0:0<n):Ev K 15 [vI x,vI n] m (vI (oA x n:Int)) m:=by
 unfold oA
 by_cases h:x<0
 ·obtain⟨y,hy⟩:∃y:Nat,(y:Int)= -(x+1):=⟨(-(x+1)).toNat,aj⟩;have e1:eh x 1=x+1:=j6 ⟨by have :=hx.1;omega,aj⟩;have hn:=agQ (eh x 1);rw[e1,<-hy,oE ⟨aj,by have :=hx.1;omega⟩]at hn;rw[bK h,<-hy,Int.toNat_natCast];exact aJ (ajP x n _ _) (.cond (by rw[eH,vc h])<| .val (by rw[e1];exact hn)<| .val (Wj y n aj) .nil)
 ·obtain⟨y,hy⟩:∃y:Nat,(y:Int)=x:=⟨x.toNat,aj⟩;subst hy;rw[bZ h,Int.toNat_natCast];exact aJ (ajQ _ n _) (.cond (by rw[eH,qV h])<| .val (Wj y n aj) .nil)
end
end Go.AM
namespace Go.AM
set_option maxRecDepth 1000000
open Go Go.Conc Go.Proofs
theorem OJ {α:Type}{val:α->ae}{B:Nat->Prop}{m:Mem}{l:List α}{v:ae}(h:(aW (ku val) 1).R B l m v)(h1:∀x,(val x).cells.toList=[val x]){j:Nat}(hj:j<l.length):∃b c,v=vL b 0 l.length c/\aT b (0+j*1) m=some (val l[j],m):=by
 obtain⟨b,c,u,cu,e,_,ou,h2,h3,hu,ep⟩:=aW.get h hj;have hu:u=val l[j]:=hu;subst hu;refine⟨b,c,e,?_⟩;rw[Nat.zero_add,Nat.mul_one];rw[Nat.mul_one,h1]at h2;refine aO ou ?_;have :=congrArg (·[0]?) h2;simpa using this
end Go.AM
namespace Go.AM
set_option maxRecDepth 1000000
open Go Go.Conc Go.Proofs
theorem ajq (b rl rc:Nat)(ra:Option Addr)(s t:ae):eS 17 0 3 [0,1] [.agg #[s,t,.slice ra rl rc,vI 0],vI 0]
 [dZ [some s,some t,some (.slice ra rl rc),some (vI 0)] b]
 .normal [1,2,6,7] [vI 0,vP b 0,kB,vI 0]:=iD
theorem ajr (b i rl rc ra xa xc:Nat)(z:Int)(sv Nb u1:ae):eA 17 [3] 0 99 [1,2,6,7] [vI 0,vP b 0,sv,vI i]
 (.mem (aT b 2) (vL ra 0 rl rc)::bu (eX i rl) true:: .mem (aT b 2) (vL ra 0 rl rc):: .idx i rl i:: .mem (aT ra (0+i*1)) (vL xa 0 1 xc)::dH::dH:: .mem (aT b 2) (vL ra 0 rl rc)::dH::dH:: .idx i rl i::dH:: .mem (aT ra (0+i*1)) (vL xa 0 1 xc)::dH:: .idx 0 1 0::dH::dH:: .mem (aT xa 0) (vI 1)::(rp 3 (.bool false) false ([.mem (aT b 2) (vL ra 0 rl rc),
  .idx i rl i,
  .mem (aT ra (0+i*1)) (vL xa 0 1 xc),
  .idx 0 1 0,
  .mem (aT xa 1) (vI z),
  .mem (bI ab 22 1 [(0,(vI z))]) u1,
  .mem (cJ ab #[22,22] sv u1) Nb])))
 .normal [1,2,6,7] [vI 0,vP b 0,Nb,vI (eh i 1)]:=iD
theorem ajp (b i rl rc:Nat)(ra:Option Addr)(sv:ae):eA 17 [3] 0 99 [1,2,6,7] [vI 0,vP b 0,sv,vI i]
 [.mem (aT b 2) (.slice ra rl rc),
  bu (eX i rl) false]
 (.exit 0) [1,6] [vI 0,sv]:=iD
theorem ajs (sv:ae):eS 17 4 99 [1,6] [vI 0,sv]
 []
 .ret [4,5] [sv,.bool true]:=iD
theorem aj0:lF 17 2 [4,5]=true:=bG
theorem S9:(dK (bV 17)).length<=99:=af bG
theorem Ta:tI 17 [3]:=bG
def iX (x:Int):List V:=[fU x]
section
variable {K:gI}{m:Mem}{Ba:Nat->Prop}
theorem c17 (g:Gd m){fG:List AK}{ns:List Int}{v:ae}(ha:HB Ba fG (ns.map iX) 0 m v)(hl:ns.length<9000):
  ∃m' sv,Ev K 17 [v,vI 0] m (.tuple #[sv,.bool true]) m'/\Kp m m' eQ/\(aW (ku vI) 1).R (jS m m') ns m' sv:=by
 obtain⟨s,t,rv,rfl,a1,a2,BO,BE,La,_⟩:=ha;obtain⟨ra,rc,rfl⟩:=La.form;have hnl:(ns.map iX).length=ns.length:=List.length_map _;obtain⟨m1,e1,o1,k1,n1,_⟩:=aY g [s,t,.slice ra (ns.map iX).length rc,vI 0];have n1':=k1.next;obtain⟨q,hq⟩:∃b,b=m.next:=⟨_,rfl⟩;rw[<-hq]at e1 o1;have La1:=La.ext k1 fun _ _ h=>h
 obtain⟨t0,w0,e0⟩:=cj (K:=K) (m:=m) (m':=m1) (tm:=entry [.agg #[s,t,.slice ra (ns.map iX).length rc,vI 0],vI 0])
  (ajq q (ns.map iX).length rc ra s t) rfl (.mem e1 .nil)
 obtain⟨e,t1,m2,he,EY,rfl,sv,hg,k2,BA,HK,LA⟩:=gD (K:=K) (nt:=jx 17) (a:=fT 17 [3]) ns.length
  (Inv:=fun j tm M=>∃sv,dM [1,2,6,7] tm=[vI 0,vP q 0,sv,vI j]/\Kp m1 M eQ/\∃BA:Nat->Prop,(∀b,BA b->m1.next<=b/\b<M.next)/\A9 (ku vI) 1 BA M (ns.take j) sv)
  (dG:=fun e tm M=>e= .exit 0/\∃sv,dM [1,6] tm=[vI 0,sv]/\Kp m1 M eQ/\∃BA:Nat->Prop,(∀b,BA b->m1.next<=b/\b<M.next)/\A9 (ku vI) 1 BA M ns sv)
  (by
   rintro j tm M hj ⟨sv,hg,k0,BA,HK,LA⟩
   left
   have gM:=(g.ext k1).ext k0;have n0:=k0.next;have qy:j<(ns.map iX).length:=aj;obtain⟨ra',xa,xc,e3,_,y1,oa⟩:=(La1.ext k0 fun _ _ h=>h).row qy;cases e3;rw[List.getElem_map]at y1 oa;have y1':aT ra' (0+j*1) M=some (vL xa 0 1 xc,M):=by rw[Nat.zero_add,Nat.mul_one];exact y1
   have l2:aT q 2 M=some (vL ra' 0 (ns.map iX).length fp,M):=aO (o1.aU k0) rfl;have x0:aT xa 0 M=some (vI 1,M):=aO oa rfl;have x1:aT xa 1 M=some (vI ns[j],M):=aO oa rfl;obtain⟨m3,m4,Nb,e6,g6,k6,e7,k7,L7,wB,n7⟩:=LA.add (t:=22) (x:=ns[j]) (v:=vI ns[j]) (B':=eQ) gM (g.ext k1) k0 rfl gC HK rfl (fun _ _ h=>h) (fun _ h=>h.elim) ⟨rfl,by simp[ae.cells,ae.oneCell']⟩ (by simp;omega);obtain⟨t2,gm,gA⟩:=bL (K:=K) Ta (ajr q j (ns.map iX).length fp ra' xa xc ns[j] sv Nb _) hg
    (.mem l2<| .cond (P3 qy)<| .mem l2<| .idx rfl qy<| .mem y1'<| .cond rfl<| .cond rfl<| .mem l2<| .cond rfl<| .cond rfl<| .idx rfl qy<| .cond rfl<| .mem y1'<| .cond rfl<| .idx rfl gC<| .cond rfl<| .cond rfl<| .mem x0<| .rp rfl<| .mem l2<| .idx rfl qy<| .mem y1'<| .idx rfl gC<| .mem x1<| .mem e6<| .mem e7<| .nil)
   rw[add1 aj]at gA;refine⟨t2,m4,gm,Nb,gA,k0.new k7 (N:=m1.next) (ai _) fun b hb=>(HK b hb).1,fun y=>BA y\/eQ y\/y=M.next+1,fun b hb=>?_,?_⟩
   ·rcases hb with hb|hb|hb
    ·have :=HK b hb;omega
    ·exact hb.elim
    ·omega
   ·rw[List.take_add_one,List.getElem?_eq_getElem hj];exact L7)
  (by
   rintro tm M ⟨sv,hg,k0,BA,HK,LA⟩;have l2:aT q 2 M=some (.slice ra (ns.map iX).length rc,M):=aO (o1.aU k0) rfl;obtain⟨t2,gm,gA⟩:=bL (K:=K) (m:=M) (m':=M) Ta (ajp q ns.length (ns.map iX).length rc ra sv) hg (.mem l2<| .cond (by rw[hnl];exact Yg _) .nil);rw[List.take_length]at LA;exact⟨_,t2,M,nU,gm,rfl,sv,gA,k0,BA,HK,LA⟩)
  (tm:=t0) (m:=m1) ⟨_,e0,.refl _ _,eQ,fun _ h=>h.elim,A9.nil⟩ aj
 obtain⟨t2,w2,e2⟩:=cj (K:=K) (m:=m2) (m':=m2) (ajs sv) hg .nil;exact⟨m2,sv,fW aj0 (aQ.cut w0 (aQ.sK EY (aQ.last w2 S9))) (.inr rfl) e2,k1.aS k2,(aW (ku vI) 1).mono LA.fin fun b hb=>by have :=HK b hb;exact⟨aj,this.2⟩⟩
end
end Go.AM
namespace Go.AM
set_option maxRecDepth 1000000
open Go Go.Conc Go.Proofs
theorem lj (x:Int):iw (fU x):=by show(ByteArray.empty).size<_;decide
theorem Ti {a b:Int}(h:fU a=fU b):a=b:=by
 unfold fU at h;simp only[V.mk.injEq,true_and,and_true]at h;exact h
theorem Vg {a b:Int}(h:iX a=iX b):a=b:=Ti (List.cons.inj h).1
theorem OO (a b:Int):mh (fU a) (fU b)=pM a b:=by
 have e:mh (fU a) (fU b)=PH [0,pM a b,0,0]:=bG;rw[e,ajW]
theorem OP (a b:Int):pM a b<0↔a<b:=by
 unfold pM
 split
 ·exact⟨fun h=>by omega,fun h=>by decide⟩
 ·split
  ·exact⟨fun h=>absurd h gC,fun h=>by omega⟩
  ·exact⟨fun h=>absurd h gC,fun h=>by omega⟩
theorem YB {a b:Int}(h:a<b):cC (iX a) (iX b)<=0:=by
 show(if mh (fU a) (fU b)≠0 then mh (fU a) (fU b)else _)<=0
 rw[OO];have :=(OP a b).2 h;rw[bK aj];omega
theorem acj (a b:Int):wj 13 (fU a) (fU b)=(dk (decide (a<b)),0):=by
 show(dk (eX (mh (fU a) (fU b)) 0),0)=_
 rw[OO,eH,decide_eq_decide.2 (OP a b)]
theorem num_add {a b:Int}(ha: -90000<=a/\a<=90000)(hb:0<=b/\b<=90000):wj 17 (fU a) (fU b)=(fU (a+b),0):=by
 have h1:eh a b=a+b:=j6 ⟨aj,aj⟩;have h2:Pp a b=(a+b,true):=by
  unfold Pp;rw[h1,r7,r7,decide_eq_decide.2 (show a+b>a↔b>0 by omega),beq_self_eq_true]
 show ky 17 a b=_
 unfold ky;rw[show Ao 17 a b=Pp a b from rfl,h2];rfl
theorem X6 {b:Int}(hb:0<=b/\b<=90000):wj 18 (fU 0) (fU b)=(fU (-b),0):=by
 have h1:jH 0 b= -b:=by rw[AN ⟨aj,aj⟩];omega
 have h2:Qp 0 b=(-b,true):=by
  unfold Qp;rw[h1,eH,r7,decide_eq_decide.2 (show -b<0↔b>0 by omega),beq_self_eq_true]
 show ky 18 0 b=_
 unfold ky;rw[show Ao 18 0 b=Qp 0 b from rfl,h2];rfl
def Nj (z:Bool)(x:Int):Int:=match z with
 |true=> -x
 |false=>x
theorem NM {cv:Nat->Int->Int->V}{z:Bool}{x:Int}(hx:0<=x/\x<=90000):ft cv (lI z x)=(fU (Nj z x),0)/\okX cv (lI z x):=by
 cases z with
 |false=>exact⟨rfl,lj _⟩
 |true=>exact⟨by rw[show lI true x= .bin 18 (.lit (fU 0)) (.lit (fU x))from rfl,Lt (u:=fU 0) (v:=fU x) rfl rfl];exact X6 hx,lj _,lj _⟩
section
variable {T:Nat->Option (List (List V))}{p:Nat}
theorem abj {z:Bool}{x:Int}(hx:0<=x/\x<=90000):pQ T ([],none,[lI z x])/\eW T ([],none,[lI z x])=[iX (Nj z x)]:=by
 have h:=fun cv=>NM (cv:=cv) (z:=z) hx
 refine⟨⟨af rfl,trivial,af rfl,fun h=>absurd rfl h,af rfl,fun r hr=>⟨fun x hx=>by rw[List.mem_singleton.1 hx];exact(h _).2,by rw[P6 (by rw[(h _).1])]⟩,af rfl⟩,?_⟩;unfold eW jj jy;rw[B7,List.map_cons,List.map_nil,P6 (by rw[(h _).1]),(h _).1];rfl
theorem XU {xs:List Int}(h:T p=some (xs.map iX))(hn:xs.length<=1000):pQ T ([(p,none)],none,[.pU p 0 0])/\eW T ([(p,none)],none,[.pU p 0 0])=xs.map iX:=by
 have hj:=EW (p:=p) h;rw[List.length_map]at hj;have hc:∀{k:Nat} (hk:k<xs.length),rF T (eO.set 0 k) p 0 0=fU xs[k]:=fun{k} hk=>by
  have e1:(xs.map iX)[k]?=some (iX xs[k]):=by rw[List.getElem?_map,List.getElem?_eq_getElem hk];rfl
  exact Wo (i:=k) (j:=0) (c:=0) h e1 rfl
 refine⟨⟨af rfl,⟨⟨_,h⟩,?_,fun _ _ _ _=>trivial,trivial⟩,?_,fun h=>absurd rfl h,?_,fun r hr=>?_,af rfl⟩,?_⟩
 ·rw[h];simp only[Option.getD_some,List.length_singleton,List.length_map];omega
 ·rw[hj];simp;omega
 ·unfold jj;rw[hj];simp;omega
 ·unfold jj at hr;simp only[]at hr;rw[hj]at hr;obtain⟨k,hk,rfl⟩:=List.mem_map.1 hr;exact⟨fun x hx=>by rw[List.mem_singleton.1 hx];show iw _;rw[hc (List.mem_range.1 hk)];exact lj _,by rw[P6 rfl]⟩
 ·unfold eW jj;rw[B7,hj,List.map_map];refine List.ext_getElem cY fun k h1 h2=>?_
  simp only[List.getElem_map,List.getElem_range,Function.comp];rw[P6 rfl]
  show[rF T (eO.set 0 k) p 0 0]=_
  rw[hc (by simpa using h2)];rfl
theorem XT {x y:Int}{z:Bool}{w:Int}(h:T p=some [iX x])(hx: -90000<=x/\x<=90000)(hy:0<=y/\y<=90000)(hw:0<=w/\w<=90000):pQ T ([(p,none)],some (.bin 13 (.pU p 0 0) (lI z w)),[.bin 17 (.pU p 0 0) (.lit (fU y))])/\eW T ([(p,none)],some (.bin 13 (.pU p 0 0) (lI z w)),[.bin 17 (.pU p 0 0) (.lit (fU y))])=if x<Nj z w then[iX (x+y)]else[]:=by
 have hj:=EW (p:=p) h;have hj:jy T [(p,none)] 0 [eO]=[eO]:=hj;have hc:rF T eO p 0 0=fU x:=Wo (i:=0) (j:=0) (c:=0) h rfl rfl;have hX:=NM (cv:=rF T eO) (z:=z) hw;have hon:ft (rF T eO) (.bin 13 (.pU p 0 0) (lI z w))=(dk (decide (x<Nj z w)),0):=by
  rw[Lt (u:=fU x) (v:=fU (Nj z w)) (by unfold ft;rw[hc]) hX.1];exact acj _ _
 have hit:ft (rF T eO) (.bin 17 (.pU p 0 0) (.lit (fU y)))=(fU (x+y),0):=by
  rw[Lt (u:=fU x) (v:=fU y) (by unfold ft;rw[hc]) rfl];exact num_add hx hy
 have hb:onB T (some (.bin 13 (.pU p 0 0) (lI z w))) eO=decide (x<Nj z w):=by
  show(ft (rF T eO) (.bin 13 (.pU p 0 0) (lI z w))).1.beq (dk true)=_
  rw[hon];exact RQ _
 have hW:jj T (some (.bin 13 (.pU p 0 0) (lI z w))) [eO]=if x<Nj z w then[eO]else[]:=by
  show([]:List (List Nat))++Xs T _ [eO] 0=_
  unfold Xs;rw[show[eO][0]! =eO from rfl,hb,List.nil_append]
  by_cases cA:x<Nj z w<;>simp[cA]
 refine⟨⟨af rfl,⟨⟨_,h⟩,?_,fun _ _ _ _=>trivial,trivial⟩,?_,fun _ r hr=>?_,?_,fun r hr=>?_,af rfl⟩,?_⟩
 ·rw[h];exact af rfl
 ·rw[hj];exact af rfl
 ·rw[hj]at hr;rw[List.mem_singleton.1 hr];exact⟨⟨by show iw _;rw[hc];exact lj _,hX.2⟩,by rw[hon]⟩
 ·rw[hj,hW];split<;>simp
 ·rw[hj,hW]at hr;have :r=eO:=by
   split at hr
   ·exact List.mem_singleton.1 hr
   ·cases hr
  subst this;exact⟨fun x hx=>by rw[List.mem_singleton.1 hx];exact⟨by show iw _;rw[hc];exact lj _,lj _⟩,by rw[P6 (by rw[hit])]⟩
 ·unfold eW;rw[B7,hj,hW]
  split
  ·rw[List.map_cons,List.map_nil,P6 (by rw[hit]),hit];rfl
  ·rfl
end
def wN (a d:Int)(n:Nat):List Int:=(List.range n).map fun i:Nat=>a+(i:Int)*d
theorem HW (a d:Int)(n:Nat):wN a d (n+1)=wN a d n++[a+(n:Int)*d]:=by
 unfold wN;rw[List.range_succ,List.map_append];rfl
theorem aa6 {a d:Int}(hd:0<d){n:Nat}{x:Int}(h:x∈wN a d n):x<a+(n:Int)*d:=by
 obtain⟨i,hi,rfl⟩:=List.mem_map.1 h;have hi:=List.mem_range.1 hi;have :=Int.mul_lt_mul_of_pos_right (show(i:Int)<n by omega) hd;omega
theorem Xz {a d:Int}(hd:0<d)(n:Nat):((wN a d n).map iX).Pairwise fun x y=>cC x y<=0:=by
 rw[List.pairwise_map];unfold wN;rw[List.pairwise_map];exact List.pairwise_lt_range.imp fun{i j} h=>YB (by
  have :=Int.mul_lt_mul_of_pos_right (show(i:Int)<j by omega) hd;omega)
theorem IL {gz:Bool}{all:List (List V)}{x:List V}(h:x∉all):lJ gz all [x]=[x]:=by
 show KQ gz all [] x=[x]
 unfold KQ;rw[bZ fun h'=>h (by simpa using h'.2)];rfl
section
variable {T:List (List V)->Nat->Option (List (List V))}{gz:Bool}{s:sw}{a d e:Int}{n:Nat}
theorem PD (hd:0<d)(he:e=a+(n:Int)*d)(hs:∀i:Nat,i<=n->i<=200->pQ (T [iX (a+(i:Int)*d)]) s/\eW (T [iX (a+(i:Int)*d)]) s=if a+(i:Int)*d<e then[iX (a+(i:Int)*d+d)]else[]):
  ∀k i:Nat,201-i<=k->i<=n->i<=200->Xp T gz s (i+1) [iX (a+(i:Int)*d)] ((wN a d (i+1)).map iX) (if n<200 then(wN a d (n+1)).map iX else[]) (if n<200 then 0 else 10):=by
 intro k
 induction k with
 |zero=>intro i h1 _ h2;omega
 |succ k ih=>
  intro i hk hi h2
  by_cases Cq:i=200
  ·subst Cq;rw[bZ aj,bZ aj];exact .over cY aj
  ·obtain⟨ep,hS⟩:=hs i hi h2;have hlen:(wN a d (i+1)).length=i+1:=by unfold wN;simp
   by_cases nN:i=n
   ·subst nN;rw[bZ aj]at hS;have Xf:lJ gz ((wN a d (i+1)).map iX) (eW (T [iX (a+(i:Int)*d)]) s)=[]:=by rw[hS];rfl
    rw[bK aj,bK aj];refine .step cY aj ep (fun _ x hx=>by rw[hS]at hx;cases hx) (by rw[Xf,List.append_nil,List.length_map,hlen];omega) ?_;rw[Xf,List.append_nil];exact .done
   ·have cA:a+(i:Int)*d<e:=by
     have :=Int.mul_lt_mul_of_pos_right (show(i:Int)<n by omega) hd;omega
    rw[bK cA]at hS;have e1:a+(i:Int)*d+d=a+((i+1:Nat):Int)*d:=by
     rw[Int.natCast_add,Int.add_mul];omega
    rw[e1]at hS;have Xf:lJ gz ((wN a d (i+1)).map iX) (eW (T [iX (a+(i:Int)*d)]) s)=[iX (a+((i+1:Nat):Int)*d)]:=by
     rw[hS];refine IL fun hm=>?_
     obtain⟨x,hx,ex⟩:=List.mem_map.1 hm;have :=aa6 hd hx;rw[Vg ex]at this;omega
    refine .step cY aj ep (fun _ x hx=>by rw[hS]at hx;rw[List.mem_singleton.1 hx];rfl) (by rw[Xf,List.length_append,List.length_map,hlen];simp;omega) ?_;rw[Xf];have :=ih (i+1) aj aj aj;rw[HW a d (i+1),List.map_append]at this;exact this
end
theorem adB {K:gI}{al sg tg:Bool}{x w:Int}{d n N:Nat}(hd:0<d/\d<=9)(hn:n<=250)(hx:0<=x/\x<=9000)(hw:0<=w/\w<=90000)(hxw:Nj tg w=Nj sg x+(n:Int)*(d:Int)):
  aec K (fun _=>none) N (if n<200 then 0 else 10) (fun _=>True) (cCq al sg tg x d w (1133+n4 sg)) ((wN (Nj sg x) d (n+1)).map iX):=by
 intro π _ Ad;obtain⟨p,hp⟩:∃p,p=π (1133+n4 sg):=⟨_,rfl⟩;have acZ:(tx.iA π (cCq al sg tg x d w (1133+n4 sg))).parts.map Em=[(p,true,(([],none,[lI sg x]),[(al,([(p,none)],some (.bin 13 (.pU p 0 0) (lI tg w)),[.bin 17 (.pU p 0 0) (.lit (fU d))]))]))]:=by
  rw[hp];cases sg<;>cases tg<;>rfl
 have Cp:Bf (wT.iA π (cCq al sg tg x d w (1133+n4 sg)).b.first)=([(p,none)],none,[.pU p 0 0]):=by rw[hp];rfl
 rw[acZ,Cp];obtain⟨a,ha⟩:∃a,a=Nj sg x:=⟨_,rfl⟩;have hra: -9000<=a/\a<=9000:=by
  rw[ha];cases sg with
  |true=>exact⟨by show _<= -x;omega,by show -x<= _;omega⟩
  |false=>exact⟨by show _<=x;omega,by show x<= _;omega⟩
 obtain⟨f1,f2⟩:=abj (T:=fun _=>none) (z:=sg) (show 0<=x/\x<=90000 by omega);rw[<-ha]at f2 hxw⊢;have Xf:lJ al [] (eW (fun _=>none) ([],none,[lI sg x]))=[iX a]:=by rw[f2];exact IL cY
 have hsm:∀i:Nat,i<=200-> -90000<=a+(i:Int)*(d:Int)/\a+(i:Int)*(d:Int)<=90000:=fun i hi=>by
  have h1:(i:Int)*(d:Int)<=200*9:=Int.mul_le_mul aj aj aj aj;have h2:0<=(i:Int)*(d:Int):=Int.mul_nonneg aj aj;omega
 have hr:=PD (T:=fun f=>uX p f fun _=>none) (gz:=al) (s:=([(p,none)],some (.bin 13 (.pU p 0 0) (lI tg w)),[.bin 17 (.pU p 0 0) (.lit (fU d))])) (a:=a) (d:=(d:Int)) (e:=Nj tg w) (n:=n) aj hxw (fun i hi h2=>by
  have :=XT (T:=uX p [iX (a+(i:Int)*(d:Int))] fun _=>none) (p:=p) (x:=a+(i:Int)*(d:Int)) (y:=(d:Int)) (z:=tg) (w:=w) (bK rfl) (hsm i h2) aj hw;exact this) 201 0 aj aj aj
 have e0:a+((0:Nat):Int)*(d:Int)=a:=by rw[Int.natCast_zero,Int.zero_mul,Int.add_zero]
 have e1:(wN a d (0+1)).map iX=[iX a]:=by rw[HW,e0];rfl
 rw[e0,e1]at hr;have km:al=false->∀y∈eW (fun _=>none) ([],none,[lI sg x]),y.length=1:=fun _ y hy=>by rw[f2]at hy;rw[List.mem_singleton.1 hy];rfl
 by_cases Cq:n<200
 ·rw[bK Cq,bK Cq]at hr;rw[bK Cq];obtain⟨d1,d2⟩:=XU (T:=uX p ((wN a d (n+1)).map iX) fun _=>none) (p:=p) (xs:=wN a d (n+1)) (bK rfl) (by unfold wN;simp;omega);have hl:(wN a d (n+1)).length=n+1:=by unfold wN;simp
  have ahM:=Xz (a:=a) (d:=(d:Int)) aj (n+1);refine⟨_,.rnd f1 km (by rw[Xf];simp) (by rw[Xf];exact hr) .nil,fun _=>⟨d1,?_,?_,?_⟩⟩
  ·rw[d2];exact⟨(fun e=>by have :=congrArg List.length e;rw[List.length_map,hl]at this;cases this),by rw[List.length_map,hl];omega,fun x hx=>by
    obtain⟨b,_,rfl⟩:=List.mem_map.1 hx;exact(by decide:1<99999)⟩
  ·rw[d2];exact Bx (By _).1 (By _).2 ahM
  ·rw[d2];exact Sp ahM (by rw[List.length_map,hl];omega)
 ·rw[bZ Cq,bZ Cq]at hr;rw[bZ Cq];exact⟨fun _=>none,.err f1 km (by rw[Xf];simp) (by rw[Xf];exact hr) gC,fun h=>by cases h⟩
end Go.AM
namespace Go.AM
set_option maxRecDepth 1000000
open Go Go.Conc Go.Proofs
structure MR (tw:bJ):Prop where
 no:∀{f:Nat}{args:List ae}{m:Mem},iE f=false\/f=137\/f=140->tw f args m=none
 ok:∀{Fin:ae->ay->Prop},fe ab X0 true (Jn Fin) Mv tw
noncomputable def WY(tw:bJ)(M n:Nat):bJ:=pO ab X0 (gJ ab X0 M) tw n
section
variable {tw:bJ}
theorem Hi (M n f:Nat)(args:List ae)(m:Mem):WY tw M (n+1) f args m=match tw f args m with |some r=>some r|none=>if Nat.beq f 137 then vA X0 (gJ ab X0 M) args m else if Nat.beq f 140 then EX args m else(kE ab X0 f).body (WY tw M n) args m:=rfl
theorem OL (h:MR tw)(M n f:Nat)(args:List ae)(m:Mem)(hs:iE f=false):WY tw M (n+1) f args m=(kE ab X0 f).body (WY tw M n) args m:=by
 rw[Hi,h.no (.inl hs)];unfold iE at hs;simp only[Bool.or_eq_false_iff]at hs
 show(if Nat.beq f 137 then _ else if Nat.beq f 140 then _ else _)=_
 rw[hs.1.1.1.1.1.1,hs.1.1.1.1.1.2];rfl
noncomputable def KZt(h:MR tw):gI:=⟨WY tw,OL h⟩
theorem acF (h:MR tw):Ej (KZt h):=⟨fun M n args m=>by
 show WY tw M (n+1) 137 args m=_
 rw[Hi,h.no (.inr (.inl rfl))];rfl,fun M n args m=>by
 show WY tw M (n+1) 140 args m=_
 rw[Hi,h.no (.inr (.inr rfl))];rfl⟩
theorem ah5 (h:MR tw){Fin:ae->ay->Prop}(M n:Nat):fe ab X0 true (Jn Fin) Mv (WY tw M n):=xZ jY (lO jY M) h.ok n
theorem U5 (h:MR tw){f:Nat}{args:List ae}{m m':Mem}{v:ae}(e:tw f args m=some (v,m')):Ev (KZt h) f args m v m':=by
 refine⟨1,fun M n _ hn=>?_⟩;obtain⟨n,rfl⟩:∃k,n=k+1:=⟨n-1,aj⟩
 show WY tw M (n+1) f args m=_
 rw[Hi,e]
end
def orC (a b:bJ):bJ:=fun f args m=>match a f args m with |some r=>some r|none=>b f args m
theorem SU {a b:bJ}{Fin:ae->ay->Prop}(ha:fe ab X0 true (Jn Fin) Mv a)(hb:fe ab X0 true (Jn Fin) Mv b):fe ab X0 true (Jn Fin) Mv (orC a b):=by
 intro f args m v m' hw ht;unfold orC at ht
 split at ht
 ·rename_i r hr;exact ha f args m v m' hw (hr.trans ht)
 ·exact hb f args m v m' hw ht
theorem aaa {a b:bJ}{f:Nat}{args:List ae}{m:Mem}{r:ae×Mem}(h:a f args m=some r):orC a b f args m=some r:=by unfold orC;rw[h]
theorem ID {a b:bJ}{f:Nat}{args:List ae}{m:Mem}(h:a f args m=none):orC a b f args m=b f args m:=by unfold orC;rw[h]
noncomputable abbrev tw1(r:mj):bJ:=twR fun x=>x=r
theorem RN {r:mj}{m:Mem}{args:List ae}(hmi:r.mi=kz)(cm:Calm m)(hG:Gl m)(ha:args=r.args.map (bN (sH m) 20)):tw1 r r.f args m=some (bN (sH m) 20 r.v,iM (sH m) kz m r.L r.nx):=by
 have Rh:r.at r.f args m (sH m):=⟨rfl,ha,by rw[hmi];exact agZ cm hG⟩;have ht:=aa8 (RS:=fun x=>x=r) rfl Rh fun r' Au e h2=>by
  subst e;have h3:=h2.2.2;rw[hmi]at h3;exact⟨rfl,Qa h3⟩
 unfold mj.out at ht;rw[hmi]at ht;exact ht
structure WX (C:bJ)(rt:mj)(d:CD):Prop where
 c:∀{Fin:ae->ay->Prop},fe ab X0 true (Jn Fin) Mv C
 t:O4 C rt
 tf:rt.f=22
 ti:rt.mi=kz
 d:CdE d
noncomputable def twC(rt:mj)(d:CD):bJ:=orC (tw1 vd) (orC (tw1 rt) (ZU fun r=>r=DF d))
section
variable {C:bJ}{rt:mj}{d:CD}
theorem yx (h:WX C rt d):MR (twC rt d):=by
 refine⟨fun{f args m} hs=>?_,fun{Fin}=>SU (RK aaT fun r e=>?_) (SU (RK h.c fun r e=>e▸h.t) (aa9 aaT fun r e=>?_))⟩
 ·have h1:f≠14/\f≠22/\f≠75:=by
   rcases hs with hs|rfl|rfl
   ·exact⟨fun e=>(by subst e;cases hs),fun e=>(by subst e;cases hs),fun e=>by subst e;cases hs⟩
   ·decide
   ·decide
  unfold twC;rw[ID (tk fun r e e2=>?_),ID (tk fun r e e2=>?_)]
  ·exact RL fun r e e2=>by
    subst e;exact h1.2.2 (e2.symm.trans h.d.f)
  ·subst e;exact h1.2.1 (e2.symm.trans h.tf)
  ·subst e;exact h1.1 e2.symm
 ·subst e;exact(mj.dA Lf rfl zr.2.2.1).1
 ·subst e;refine h.d.fact.ok (.head _) (fun x hx=>⟨x.2,.tail _ (List.mem_append_left _ hx),.inr jf.abm⟩) (fun x hx=> .tail _ (List.mem_append_right _ hx)) ?_
  show dE ab d.f=true
  rw[h.d.f];exact QI.2.2
theorem acG (h:WX C rt d):MU (KZt (yx h)):=U7 fun m cm hG=>U5 _ (aaa (RN (r:=vd) rfl cm hG rfl))
theorem rdc (h:WX C rt d){T:ByteArray}{sv:ae}(hT:rt.args=[.string T])(hv:rt.v= .tuple #[sv,vI 0,vI 0])(cA:∀x∈rt.L,12<=x.1/\x.1<rt.nx)(hc:I5 12 rt.L=true):RdK (KZt (yx h)) T rt.L sv:=
 aeK (fun m cm hG=>U5 _ (by
  unfold twC;rw[ID (tk fun r e e2=>by subst e;cases e2)];refine aaa ?_;rw[<-h.tf];exact RN h.ti cm hG (by rw[hT];rfl))) hv h.t.val cA hc
theorem ckc (h:WX C rt d){m:Mem}{db mp pe:Nat}(hG:Gl m)(cm:Calm m)(M:Kf m mp pe)(hdb:mp≠db):
  ∀m3 lo,Calm m3->Gl m3->Kp m m3 (fun y=>y=db)->vr lo d.A m3->m.next<lo->lo<=m3.next->ZM (KZt (yx h)) d mp lo (fun _=>True) m3:=by
 intro m3 lo wF hG3 k hA h1 h2 m4 k4;have jW:=k.aS k4;have hh0:=hG.hn;have hb0:m.base<=m.next:=by have :=cm.gd.bf;have :=cm.gd.fn;omega
 obtain⟨π,m',e,kk,La,hn⟩:=adG h.d (wF.ext k4) (hG3.aU k4) (M.ext jW hdb) ⟨by have :=M.lt;omega,by rw[jW.base,jW.home];omega⟩ (hA.ext k4 fun _ h=>h.elim);refine⟨π,m',U5 _ ?_,kk,La,trivial,hn⟩;unfold twC;rw[ID (tk fun r e e2=>?_),ID (tk fun r e e2=>?_)]
 ·exact e
 ·subst e;rw[h.tf,h.d.f]at e2;cases e2
 ·subst e;rw[h.d.f]at e2;cases e2
end
end Go.AM
namespace Go.AM
set_option maxRecDepth 1000000
open Go Go.Conc Go.Proofs
section
variable {K:gI}{m:Mem}
theorem alE (g:Gd m){T:ByteArray}{p i:Nat}{w:W}(hT:T.size<90000)(hi:i=kj B8 T (min p T.size))(hi2:i<T.size)(hl:isLt (cU T i)=false)(hd:pY (cU T i)=true)(hw:Tg T i=some w):∃m',Ev K 28 [.string T,vI p] m w.val m'/\Kp m m' eQ:=by
 obtain⟨m1,e1,o1,k1,n1,_⟩:=aY g w0.cells;have g1:=g.ext k1;have c1:=c41 (K:=K) (m:=m1) (f:=42) (p:=B8) (T:=T) (fun h=>c42 h) (i:=min p T.size) (Nat.min_le_right _ _) aj;have a1:Kl true 0 (Kl false p (T.size:Int))=((min p T.size:Nat):Int):=by rw[Lw];exact(Ty 0 _).trans (by rw[Nat.max_eq_right (Nat.zero_le _)])
 rw[<-hi,<-a1]at c1;have b1:(.bool (cN i (T.size:Int)):ae)= .bool false:=by
  have :¬i=T.size:=aj;rw[ZG];simpa using this
 have q1:=c43 (K:=K) (m:=m1) (CY T i);have q2:=c45 (K:=K) (m:=m1) (CY T i);rw[hl]at q1;rw[hd]at q2;obtain⟨m2,e2,k2⟩:=c46 (K:=K) g1 hi2 hT hd hw;obtain⟨m3,e3,o3,k3,eL⟩:=aeH w g (o1.aU k2) (ai _) (k1.aS k2);exact⟨m3,aJ (ajA T p i w _) (.mem e1<| .call c1<| .cond b1<| .idx rfl aj<| .call q1<| .cond rfl<| .idx rfl aj<| .call q2<| .cond rfl<| .call e2<| .mem e3<| .mem eL<| .nil),k3⟩
end
noncomputable def KWk:gI:=⟨fun _ n=>gJ ab X0 n,fun _ _ _ _ _ _=>rfl⟩
theorem Te (g:Gd kz){T:ByteArray}{p i:Nat}{w:W}(hT:T.size<90000)(hi:i=kj B8 T (min p T.size))(hi2:i<T.size)(hl:isLt (cU T i)=false)(hd:pY (cU T i)=true)(hw:Tg T i=some w):
  ∃N0,∀N,N0<=N->∃mg,gJ ab X0 N 28 [.string T,vI p] kz=some (w.val,mg)/\mg.deaf=0:=by
 obtain⟨m',⟨N0,e⟩,k⟩:=alE (K:=KWk) g hT hi hi2 hl hd hw;exact⟨N0,fun N hN=>⟨m',e N N hN hN,by rw[k.deaf];rfl⟩⟩
end Go.AM
namespace Go.AM
set_option maxRecDepth 1000000
open Go Go.Conc Go.Proofs
def wU:List UInt8:=[87,73,84,72,32,82,69,67,85,82,83,73,86,69,32,114,40,110,41,32,65,83,32,40,83,69,76,69,67,84,32]
def tu (al:Bool):List UInt8:=[85,78,73,79,78]++opt al [32,65,76,76]
def sG:List UInt8:=[32,83,69,76,69,67,84,32,110,32,43,32]
def tA:List UInt8:=[32,70,82,79,77,32,114,32,87,72,69,82,69,32,110,32,60,32]
def tz:List UInt8:=[41,32,83,69,76,69,67,84,32,110,32,70,82,79,77,32,114]
def Q1 (al sg tg:Bool)(d1 d2 d3:List UInt8):List UInt8:=wU++(opt sg [45]++(d1++(32::(tu al++(sG++(d2++(tA++(opt tg [45]++(d3++tz)))))))))
def gG (b:Bool):Nat:=match b with
 |true=>0
 |false=>1
def tGs (al sg tg:Bool)(k1 k3:Nat):List (Nat×Nat):=
 [(0,4),(1,9),(1,1),(0,1),(0,1),(0,1),(1,2),(1,1),(0,6)]++(opt sg [(1,1)]++((gG sg,k1)::(1,5)::(opt al [(1,3)]++([(1,6),(1,1),(1,1),(1,1),(1,4),(1,1),(1,5),(1,1),(1,1)]++(opt tg [(1,1)]++[(gG tg,k3),(0,1),(1,6),(1,1),(1,4),(1,1),(0,0),(0,0)])))))
def XZ:Nat->List (Nat×Nat)->List (Nat×Nat)
 |_,[]=>[]
 |p,(g,l)::r=>(p+g,p+g+l)::XZ (p+g+l) r
def X7:List (Nat×Nat)->Nat->Nat×Nat
 | [],_=>(0,0)
 |x::_,0=>x
 |_::l,i+1=>X7 l i
def Ve (v:ae):Bool:=match v with
 | .agg cs=>(match cs.toList with | .int _ (.ofNat k)::_=>Nat.beq k 3|_=>false)
 |_=>false
def QQ (al sg tg:Bool)(k1 k3:Nat)(T:ByteArray)(x y w:Int):List (List ae×ae):=
 KO T (fun i=>(X7 (XZ 0 (tGs al sg tg k1 k3)) i).2) 0 (tWs al sg tg (fun i=>(X7 (XZ 0 (tGs al sg tg k1 k3)) i).1) (fun i=>(X7 (XZ 0 (tGs al sg tg k1 k3)) i).2) x y w)
noncomputable def aiB(N:Nat)(q:List ae×ae):Option (ae×Nat):=match Ve q.2 with
 |true=>none
 |false=>(gJ ab X0 (N+40) 28 q.1 kz).map fun r=>(r.1,r.2.deaf)
def ahY (q:List ae×ae):Option (ae×Nat):=match Ve q.2 with
 |true=>none
 |false=>some (q.2,0)
def rgB (k:Nat)(f:Nat->UInt8):List UInt8:=(List.range k).map f
def nW (a z:Nat)(x:Int):ae:= .agg #[vI 3,vI a,vI z,.string .empty,vI x]
def Px (sg:Bool):Nat:=31+sg.toNat
def Nn (al sg:Bool)(k1:Nat):Nat:=Px sg+k1+18+n4 al
def s3C (al sg tg:Bool)(k1:Nat):Nat:=Nn al sg k1+19+tg.toNat
structure LF (al sg tg:Bool)(k1 k3:Nat):Prop where
 w:∀(N:Nat) (f g:Nat->UInt8) (h:UInt8) (x y w:Int),(QQ al sg tg k1 k3 ⟨(Q1 al sg tg (rgB k1 f) [h] (rgB k3 g)).toArray⟩ x y w).map (aiB N)=(QQ al sg tg k1 k3 ⟨(Q1 al sg tg (rgB k1 f) [h] (rgB k3 g)).toArray⟩ x y w).map ahY:=by
  intro N f g h x y w;kernel_rfl
 n:∀(T:ByteArray) (x y w:Int),(QQ al sg tg k1 k3 T x y w).filter (fun q=>Ve q.2)=[([.string T,vI ((Px sg-gG sg:Nat):Int)],nW (Px sg) (Px sg+k1) x),([.string T,vI ((Nn al sg k1-1:Nat):Int)],nW (Nn al sg k1) (Nn al sg k1+1) y),([.string T,vI ((s3C al sg tg k1-gG tg:Nat):Int)],nW (s3C al sg tg k1) (s3C al sg tg k1+k3) w)]:=by
  intro T x y w;kernel_rfl
 p:∀(T:ByteArray) (x y w:Int),((QQ al sg tg k1 k3 T x y w).all fun q=>plain q.2&&q.1.all cG)=true:=by
  intro T x y w;kernel_rfl
theorem Sw (l:List UInt8):rgB l.length (fun i=>l[i]!)=l:=by
 unfold rgB;refine List.ext_getElem cY fun i h1 h2=>?_
 simp[h2]
theorem BN (g:Gd kz){T:ByteArray}{p:Nat}{bs ds l:List UInt8}(h:Lx T p (bs++(ds++l)))(hT:T.size<90000)(hb:∀c∈bs,B8 c.toNat=true)(hd:∀c∈ds,pY c.toNat=true)(h0:ds≠[])(hl:∀c∈l.head?,pY c.toNat=false)(hv:lr ds 0<9223372036854775808):
  (∃N0,∀N,N0<=N->∃mg,gJ ab X0 N 28 [.string T,vI p] kz=some (nW (p+bs.length) (p+bs.length+ds.length) (lr ds 0:Nat),mg)/\mg.deaf=0)/\Lx T (p+bs.length+ds.length) l:=by
 obtain⟨c,r,rfl⟩:∃c r,ds=c::r:=by cases ds with |nil=>exact absurd rfl h0|cons c r=>exact⟨c,r,rfl⟩
 have hc:=tQ.1 (hd c (List.mem_cons_self ..));obtain⟨e1,h2⟩:=XL h hb (fun x hx=>by
  simp at hx;rw[<-hx];unfold B8;simp only[Bool.or_eq_false_iff,beq_eq_false_iff_ne,ne_eq];refine⟨⟨⟨?_,?_⟩,?_⟩,?_⟩<;>omega)
 obtain⟨i,hi⟩:∃i,i=p+bs.length:=⟨_,rfl⟩;rw[<-hi]at e1 h2⊢;have hs:=h2.size;have hby:cU T i=c.toNat:=Lx.byte (l:=r++l) h2;have cA:isLt c.toNat=false:=by
  unfold isLt;simp only[Bool.or_eq_false_iff,Bool.and_eq_false_iff,beq_eq_false_iff_ne,ne_eq];refine⟨⟨.inl ?_,.inl ?_⟩,aj⟩<;>(rw[Bool.eq_false_iff];intro h;have :=af h;omega)
 have hre:kj pY T i=i+(c::r).length:=Ii h2 hd hl;have hex:T.extract i (i+(c::r).length)=⟨(c::r).toArray⟩:=Lx.ext (w:=c::r) h2;have akQ:ju ⟨(c::r).toArray⟩ (c::r).length=lr (c::r) 0:=by rw[Ft _ _ (ai _),List.take_length]
 refine⟨Te g (w:=⟨3,i,i+(c::r).length,.empty,(lr (c::r) 0:Nat)⟩) hT e1.symm (by simp at hs;omega) (by rw[hby];exact cA) (by rw[hby];exact hd c (List.mem_cons_self ..)) ?_,h2.app⟩;unfold Tg;simp only[hre,hex,Nat.add_sub_cancel_left,akQ,hv,if_true]
theorem zd:Gd kz:=⟨rfl,rfl,ai _,ai _,ai _,fun s h=>by cases h⟩
theorem NU {l r:List UInt8}{p:Nat}(hp:p<=l.length)(h:l.drop p=r):Lx ⟨l.toArray⟩ p r:=⟨by show p<=l.toArray.size;simpa using hp,by show l.toArray.toList.drop p=r;simpa using h⟩
theorem Ru {al sg tg:Bool}{d1 d3:List UInt8}{c:UInt8}(L:LF al sg tg d1.length d3.length)(h1:∀c∈d1,pY c.toNat=true)(h2:pY c.toNat=true)(h3:∀c∈d3,pY c.toNat=true)(n1:d1≠[])(n3:d3≠[])(v1:lr d1 0<9223372036854775808)(v3:lr d3 0<9223372036854775808)(l1:d1.length<100)(l3:d3.length<100):
  ∃N,A8 N (QQ al sg tg d1.length d3.length ⟨(Q1 al sg tg d1 [c] d3).toArray⟩ (lr d1 0:Nat) (lr [c] 0:Nat) (lr d3 0:Nat)):=by
 obtain⟨T,hT⟩:∃T:ByteArray,T=⟨(Q1 al sg tg d1 [c] d3).toArray⟩:=⟨_,rfl⟩;rw[<-hT];have hlen:(Q1 al sg tg d1 [c] d3).length=80+(opt sg [(45:UInt8)]).length+d1.length+(tu al).length+(opt tg [(45:UInt8)]).length+d3.length:=by
  simp only[Q1,List.length_append,List.length_cons,show wU.length=31 from rfl,show sG.length=12 from rfl,show tA.length=18 from rfl,show tz.length=17 from rfl,List.length_nil];omega
 have hu:(tu al).length<=9:=by cases al<;>decide
 have ho:∀b,(opt b [(45:UInt8)]).length<=1:=fun b=>by cases b<;>decide
 have o1:=ho sg;have o2:=ho tg;have iB:T.size<90000:=by
  rw[hT]
  show(Q1 al sg tg d1 [c] d3).toArray.size<90000
  rw[List.size_toArray,hlen];omega
 have VP:lr [c] 0<9223372036854775808:=by
  have :=(tQ.1 h2).2
  show 0*10+(c.toNat-48)<_
  omega
 have b32:∀x∈([32]:List UInt8),B8 x.toNat=true:=fun x hx=>by rw[List.mem_singleton.1 hx];rfl
 have b0:∀x∈([]:List UInt8),B8 x.toNat=true:=fun x hx=>by cases hx
 obtain⟨r3,L1⟩:∃r,r=tA++(opt tg [45]++(d3++tz)):=⟨_,rfl⟩;obtain⟨r1,hr1⟩:∃r,r=32::(tu al++(sG++([c]++r3))):=⟨_,rfl⟩;have x1:(∃N0,∀N,N0<=N->∃mg,gJ ab X0 N 28 [.string T,vI (Px sg-gG sg:Nat)] kz=some (nW (Px sg) (Px sg+d1.length) (lr d1 0:Nat),mg)/\mg.deaf=0)/\Lx T (Px sg+d1.length) r1:=by
  have hh:∀x∈r1.head?,pY x.toNat=false:=fun x hx=>by
   rw[hr1]at hx;simp at hx;rw[<-hx];rfl
  cases sg with
  |true=>
   refine BN zd (p:=32) (bs:=[]) ?_ iB b0 h1 n1 hh v1;rw[hT];exact NU (by rw[hlen];omega) (by rw[hr1,L1];rfl)
  |false=>
   refine BN zd (p:=30) (bs:=[32]) ?_ iB b32 h1 n1 hh v1;rw[hT];exact NU (by rw[hlen];omega) (by rw[hr1,L1];rfl)
 obtain⟨⟨N1,w1⟩,x1⟩:=x1;have x2:(∃N0,∀N,N0<=N->∃mg,gJ ab X0 N 28 [.string T,vI (Nn al sg d1.length-1:Nat)] kz=some (nW (Nn al sg d1.length) (Nn al sg d1.length+1) (lr [c] 0:Nat),mg)/\mg.deaf=0)/\Lx T (Nn al sg d1.length+1) r3:=by
  have hh:∀x∈r3.head?,pY x.toNat=false:=fun x hx=>by
   rw[L1]at hx;have hx:some 32=some x:=hx;rw[<-Option.some.inj hx];rfl
  have hw:r1=(32::(tu al++[32,83,69,76,69,67,84,32,110,32,43]))++([32]++([c]++r3)):=by rw[hr1];cases al<;>rfl
  rw[hw]at x1;have e:Px sg+d1.length+(32::(tu al++[32,83,69,76,69,67,84,32,110,32,43]):List UInt8).length=Nn al sg d1.length-1:=by
   unfold Nn;cases al
   ·show Px sg+d1.length+17=Px sg+d1.length+18+0-1;omega
   ·show Px sg+d1.length+21=Px sg+d1.length+18+4-1;omega
  have a:=x1.app;rw[e]at a;have e2:Nn al sg d1.length-1+[(32:UInt8)].length=Nn al sg d1.length:=by
   show Nn al sg d1.length-1+1=_
   unfold Nn;omega
  have :=BN zd a iB b32 (ds:=[c]) (fun x hx=>by rw[List.mem_singleton.1 hx];exact h2) cY hh VP;rw[e2]at this;exact this
 obtain⟨⟨N2,w2⟩,x2⟩:=x2;have x3:∃N0,∀N,N0<=N->∃mg,gJ ab X0 N 28 [.string T,vI (s3C al sg tg d1.length-gG tg:Nat)] kz=some (nW (s3C al sg tg d1.length) (s3C al sg tg d1.length+d3.length) (lr d3 0:Nat),mg)/\mg.deaf=0:=by
  have hh:∀x∈tz.head?,pY x.toNat=false:=fun x hx=>by
   have hx:some 41=some x:=hx;rw[<-Option.some.inj hx];rfl
  cases tg with
  |true=>
   have hw:r3=(tA++[45])++([]++(d3++tz)):=by rw[L1];rfl
   rw[hw]at x2;have a:=x2.app;exact(BN zd a iB b0 h3 n3 hh v3).1
  |false=>
   have hw:r3=[32,70,82,79,77,32,114,32,87,72,69,82,69,32,110,32,60]++([32]++(d3++tz)):=by rw[L1];rfl
   rw[hw]at x2;have a:=x2.app;exact(BN zd a iB b32 h3 n3 hh v3).1
 obtain⟨N3,w3⟩:=x3;refine⟨N1+N2+N3+40,fun q hq=>?_⟩;have hp:=aE.1 (L.p T (lr d1 0:Nat) (lr [c] 0:Nat) (lr d3 0:Nat)) q hq;rw[ag]at hp;have key:∃mg,gJ ab X0 (N1+N2+N3+40) 28 q.1 kz=some (q.2,mg)/\mg.deaf=0:=by
  cases hn:Ve q.2 with
  |true=>
   have hm:q∈(QQ al sg tg d1.length d3.length T (lr d1 0:Nat) (lr [c] 0:Nat) (lr d3 0:Nat)).filter (fun q=>Ve q.2):=List.mem_filter.2 ⟨hq,hn⟩;rw[L.n]at hm;simp only[aR,List.not_mem_nil,or_false]at hm;rcases hm with rfl|rfl|rfl
   ·exact w1 _ aj
   ·exact w2 _ aj
   ·exact w3 _ aj
  |false=>
   have hw:=L.w (N1+N2+N3) (fun i=>d1[i]!) (fun i=>d3[i]!) c (lr d1 0:Nat) (lr [c] 0:Nat) (lr d3 0:Nat);rw[Sw,Sw,<-hT]at hw;have :=List.map_inj_left.1 hw q hq;unfold aiB ahY at this;rw[hn]at this;obtain⟨⟨v,mg⟩,e1,e2⟩:=aB.1 this;simp only[au]at e2;exact⟨mg,by rw[e1,e2.1],e2.2⟩
 obtain⟨mg,k1,k2⟩:=key;exact⟨mg,k1,k2,hp.1,hp.2⟩
end Go.AM
namespace Go.AM
set_option maxRecDepth 1000000
open Go Go.Conc Go.Proofs
theorem r4a (x y z:Int)(al:Bool)(db a0 d0 n0:Nat):eS 4 0 9 [0,1,2,3] [vI x,vI y,vI z,.bool al]
 [.call 14 [] (vP db 0),
  dH,
  .call 15 [vI x,vI 2000] (vI a0),
  .call 15 [vI y,vI 9] (vI d0),
  .call 15 [vI z,vI 250] (vI n0)]
 .normal [9,10,11,12,13,32] [vP db 0,vI (jH a0 1000),vI (eh 1 d0),vI n0,gq (⟨#[85,78,73,79,78]⟩),.bool al]:=iD
theorem r4t (db:Nat)(a d n:Int)(uv:ae)(al:Bool):eS 4 9 10 [9,10,11,12,13,32] [vP db 0,vI a,vI d,vI n,uv,.bool al]
 [bu al true]
 .normal [9,10,11,12,13] [vP db 0,vI a,vI d,vI n,gq (⟨#[85,78,73,79,78,32,65,76,76]⟩)]:=iD
theorem r4f (db:Nat)(a d n:Int)(uv:ae)(al:Bool):eS 4 9 10 [9,10,11,12,13,32] [vP db 0,vI a,vI d,vI n,uv,.bool al]
 [bu al false]
 .normal [9,10,11,12,13] [vP db 0,vI a,vI d,vI n,uv]:=iD
theorem r4b (db q:Nat)(a d n e:Int)(u s1 s2 s3 c1 c2 c3 c4 c5 c6 c7 c8:ByteArray)(nv kv rv:ae):eS 4 10 12 [9,10,11,12,13] [vP db 0,vI a,vI d,vI n,gq u]
 [.call 16 [vI a] (gq s1),
  .val (uj ⟨wU.toArray⟩ s1) (gq c1),
  .val (uj c1 (⟨#[32]⟩)) (gq c2),
  .val (uj c2 u) (gq c3),
  .val (uj c3 ⟨sG.toArray⟩) (gq c4),
  .call 16 [vI d] (gq s2),
  .val (uj c4 s2) (gq c5),
  .val (uj c5 ⟨tA.toArray⟩) (gq c6),
  .call 16 [vI (eh a (jq n d))] (gq s3),
  .val (uj c6 s3) (gq c7),
  .val (uj c7 ⟨tz.toArray⟩) (gq c8),
  .call 12 [vP db 0,gq c8] (.tuple #[.agg #[nv,kv,rv,vI 0],vI e,vI 0]),
  dZ [some kB,some kB,some kB,some (vI 0)] q,
  jQ q 0 [nv,kv,rv,vI 0]]
 .normal [10,11,12,15,16] [vI a,vI d,vI n,vP q 0,vI e]:=iD
theorem r4e (q n:Nat)(a d:Int):eS 4 12 99 [10,11,12,15,16] [vI a,vI d,vI n,vP q 0,vI 10]
 (bu (xJ n 200) true::lN::lN:: .mem (aT q 2) kB::(rp 3 (.bool true) true ([])))
 .ret [8] [.bool true]:=iD
theorem r4c (q n lp ll lc:Nat)(a d:Int)(nv kv rv:ae):eS 4 12 18 [10,11,12,15,16] [vI a,vI d,vI n,vP q 0,vI 0]
 (bu (xJ n 200) false::iO 4 q (.agg #[nv,kv,rv,vI 0]):: .call 17 [.agg #[nv,kv,rv,vI 0],vI 0] (.tuple #[vL lp 0 ll lc,.bool true])::(rp 6 (.bool false) false ([bu (sT ll (eh n 1)) false])))
 .normal [10,11,12,18,20] [vI a,vI d,vI n,vL lp 0 ll lc,vI 0]:=iD
theorem r4n (lp ll lc n i:Nat)(a d w:Int):eA 4 [18] 0 99 [10,11,12,18,20] [vI a,vI d,vI n,vL lp 0 ll lc,vI i]
 [bu (GH i n) true,
  .idx i ll i,
  .mem (aT lp (0+i*1)) (vI w),
  bu (sT w (eh a (jq i d))) false]
 .normal [10,11,12,18,20] [vI a,vI d,vI n,vL lp 0 ll lc,vI (eh i 1)]:=iD
theorem r4x (lp ll lc n i:Nat)(a d:Int):eA 4 [18] 0 99 [10,11,12,18,20] [vI a,vI d,vI n,vL lp 0 ll lc,vI i]
 [bu (GH i n) false]
 (.exit 0) [10] [vI a]:=iD
theorem r4z (a:Int):eS 4 19 99 [10] [vI a]
 []
 .ret [8] [.bool true]:=iD
theorem ok4:lF 4 4 [8]=true:=bG
theorem NK:(dK (bV 4)).length<=99:=af bG
theorem S7:tI 4 [18]:=bG
def rD (a:Int):List UInt8:=opt (decide (a<0)) [45]++g8 a.natAbs
section
variable {K:gI}{m:Mem}
theorem air {a:Int}(ha: -90000<=a/\a<=90000)(g:Gd m):∃m',Ev K 16 [vI a] m (.string ⟨(rD a).toArray⟩) m'/\Kp m m' eQ:=by
 obtain⟨n,hn⟩:∃n,n=a.natAbs:=⟨_,rfl⟩;unfold rD;rw[<-hn]
 by_cases h:a<0
 ·have e: -a=(n:Int):=aj;rw[vc h];have hng:=agQ a;rw[e,oE ⟨aj,aj⟩]at hng;obtain⟨m1,e1,k1⟩:=c16 (K:=K) n g aj;have r:=qS (l:=[45]) (r:=g8 n) (by have :=pL (n:=n) aj;simp;omega);have G3:(⟨#[45]⟩++⟨(g8 n).toArray⟩:ByteArray)=⟨(45::g8 n).toArray⟩:=MK [45] (g8 n);refine⟨m1,?_,k1⟩;have :=aJ (K:=K) (ajM a (s1:=⟨(g8 n).toArray⟩) ..) (.cond (by rw[eH,vc h])<| .val hng<| .call e1<| .val (by rw[G3];exact r) .nil);rwa[G3]at this
 ·have e:a=(n:Int):=aj;rw[qV h,e];exact c16 (K:=K) n g aj
theorem Wk {a:Int}(ha: -90000<=a/\a<=90000):(rD a).length<=20:=by
 have :=pL (n:=a.natAbs) aj;unfold rD;rw[List.length_append];have :(opt (decide (a<0)) [(45:UInt8)]).length<=1:=by cases decide (a<0)<;>decide
 omega
theorem alj {a d:Int}{n lp lc:Nat}{t0:Tm}(hn:n<=250)(ha: -9000<=a/\a<=9000)(hd:0<=d/\d<=9)(hl:∀i (h:i<(wN a d (n+1)).length),aT lp (0+i*1) m=some (vI (wN a d (n+1))[i],m))(h0:dM [10,11,12,18,20] t0=[vI a,vI d,vI (n:Int),vL lp 0 (n+1) lc,vI 0]):
  ∃t1,HQ K (jx 4) (fT 4 [18]) 100000 ⟨t0,m,[]⟩ (.exit 0) ⟨t1,m,[]⟩/\dM [10] t1=[vI a]:=by
 have hlen:(wN a d (n+1)).length=n+1:=by unfold wN;simp
 obtain⟨e,t1,m1,he,EY,rfl,rfl,hg⟩:=gD (K:=K) (nt:=jx 4) (a:=fT 4 [18]) (n+1)
  (Inv:=fun i tm M=>M=m/\dM [10,11,12,18,20] tm=[vI a,vI d,vI n,vL lp 0 (n+1) lc,vI i])
  (dG:=fun e tm M=>e= .exit 0/\M=m/\dM [10] tm=[vI a])
  (by
   rintro i tm M hi ⟨rfl,hg⟩
   left
   have li:=hl i aj;have h1:(i:Int)*d<=250*9:=Int.mul_le_mul aj hd.2 hd.1 aj;have h2:0<=(i:Int)*d:=Int.mul_nonneg aj hd.1;have e1:eh a (jq i d)=(wN a d (n+1))[i]'aj:=by
    rw[Gs ⟨aj,aj⟩,j6 ⟨aj,aj⟩];unfold wN;simp
   obtain⟨t2,gm,gA⟩:=bL (K:=K) (m:=M) (m':=M) S7 (r4n lp (n+1) lc n i a d ((wN a d (n+1))[i]'aj)) hg (.cond (dT leN aj)<| .idx rfl hi<| .mem li<| .cond (by rw[e1,tK,qV cY]) .nil);rw[add1 aj]at gA;exact⟨t2,M,gm,rfl,gA⟩)
  (by
   rintro tm M ⟨rfl,hg⟩;obtain⟨t2,gm,gA⟩:=bL (K:=K) (m:=M) (m':=M) S7 (r4x lp (n+1) lc n (n+1) a d) hg (.cond (dF leN aj) .nil);exact⟨_,t2,M,nU,gm,rfl,rfl,gA⟩)
  (tm:=t0) (m:=m) ⟨rfl,h0⟩ aj
 exact⟨t1,EY,hg⟩
def aC (x:Int):Int:=(oA x 2000:Int)-1000
def dC (y:Int):Nat:=1+oA y 9
def nC (z:Int):Nat:=oA z 250
def eC (x y z:Int):Int:=aC x+(nC z:Int)*(dC y:Int)
theorem aah (x y z:Int):(-1000<=aC x/\aC x<=999)/\(0<dC y/\dC y<=9)/\nC z<=249/\aC x<=eC x y z/\eC x y z<=3240:=by
 have h1:oA x 2000<2000:=Nat.mod_lt _ gC;have h2:oA y 9<9:=Nat.mod_lt _ gC;have h3:oA z 250<250:=Nat.mod_lt _ gC;have hn:nC z<=249:=by unfold nC;omega
 have hd:0<dC y/\dC y<=9:=by unfold dC;omega
 have ha: -1000<=aC x/\aC x<=999:=by unfold aC;omega
 have h4:(nC z:Int)*(dC y:Int)<=249*9:=Int.mul_le_mul aj aj aj aj;have h5:0<=(nC z:Int)*(dC y:Int):=Int.mul_nonneg aj aj;unfold eC;exact⟨ha,hd,hn,aj,aj⟩
def F8 (a:Int):Bool:=decide (a<0)
theorem F7 (a:Int):Nj (F8 a) (a.natAbs:Int)=a:=by
 unfold F8
 by_cases h:a<0
 ·rw[vc h];show -_=a;omega
 ·rw[qV h];show((a.natAbs:Nat):Int)=a;omega
def HZ (al:Bool)(x y z:Int):ByteArray:=⟨(Q1 al (F8 (aC x)) (F8 (eC x y z)) (g8 (aC x).natAbs) (g8 (dC y)) (g8 (eC x y z).natAbs)).toArray⟩
abbrev cDC (al:Bool)(x y z:Int):CD:=cD al (F8 (aC x)) (F8 (eC x y z)) ((aC x).natAbs:Int) (dC y:Int) ((eC x y z).natAbs:Int)
theorem c4 (hB:Ej K){al:Bool}{x y z:Int}(hkn:MU K)(Re:RdK K (HZ al x y z) (cDC al x y z).A (.iface 108 (cDC al x y z).sv))
  (hck:∀{m:Mem}{db mp pe:Nat},Gl m->Calm m->Kf m mp pe->mp≠db->∀m3 lo,Calm m3->Gl m3->Kp m m3 (fun y=>y=db)->vr lo (cDC al x y z).A m3->m.next<lo->lo<=m3.next->ZM K (cDC al x y z) mp lo (fun _=>True) m3)
  (cm:Calm m)(hG:Gl m)(hx:LV x)(hy:LV y)(hz:LV z):∃m',Ev K 4 [vI x,vI y,vI z,.bool al] m (.bool true) m'/\Calm m':=by
 obtain⟨ha,hd,hn,he,E4⟩:=aah x y z;obtain⟨m1,db,mp,pe,e14,k1,aci,M1,h1,h2,dO⟩:=hkn m cm hG;have hdb:=aci.1.lt;have n1:=k1.next;have hl:∀{b},(-90000:Int)<=b/\b<=90000->(rD b).length<=20:=fun h=>Wk h
 have la:=hl (b:=aC x) aj;have le:=hl (b:=eC x y z) aj;have ld:=pL (n:=dC y) aj;have lu:(tu al).length<=9:=by cases al<;>decide
 have q1:wU.length=31:=rfl;have q2:sG.length=12:=rfl;have q3:tA.length=18:=rfl;have q4:tz.length=17:=rfl;obtain⟨t0,w0,g0⟩:=cj (K:=K) (m:=m) (m':=m1) (tm:=entry [vI x,vI y,vI z,.bool al]) (r4a x y z al db (oA x 2000) (oA y 9) (oA z 250)) rfl (.call e14<| .cond rfl<| .call (c15 (n:=2000) hx gC)<| .call (c15 (n:=9) hy gC)<| .call (c15 (n:=250) hz gC) .nil);have ea:jH (oA x 2000:Int) 1000=aC x:=AN ⟨by have :oA x 2000<2000:=Nat.mod_lt _ gC;omega,by have :oA x 2000<2000:=Nat.mod_lt _ gC;omega⟩;have ed:eh 1 (oA y 9:Int)=(dC y:Int):=by
  have :oA y 9<9:=Nat.mod_lt _ gC;rw[j6 ⟨aj,aj⟩];rfl
 rw[ea,ed]at g0;obtain⟨t1,w1,g1⟩:∃t1,Dn K (jx 4) (CI (bV 4) 9 10) ⟨t0,m1,[]⟩ .normal ⟨t1,m1,[]⟩/\dM [9,10,11,12,13] t1=[vP db 0,vI (aC x),vI (dC y:Int),vI (nC z:Int),.string ⟨(tu al).toArray⟩]:=by
  cases al with
  |true=>exact cj (K:=K) (r4t db (aC x) (dC y:Int) (nC z:Int) _ true) g0 (.cond rfl .nil)
  |false=>exact cj (K:=K) (r4f db (aC x) (dC y:Int) (nC z:Int) _ false) g0 (.cond rfl .nil)
 obtain⟨m2,e2,k2⟩:=air (K:=K) (a:=aC x) aj (cm.ext k1).gd;have mn:=k1.aS k2;obtain⟨m3,e3,k3⟩:=c16 (K:=K) (dC y) (cm.ext mn).gd aj;have jX:=mn.aS k3;obtain⟨m4,e4,k4⟩:=air (K:=K) (a:=eC x y z) aj (cm.ext jX).gd;have jW:=jX.aS k4;have k14:=(k2.aS k3).aS k4;have n4:=k14.next;have h4:(nC z:Int)*(dC y:Int)<=249*9:=Int.mul_le_mul aj aj aj aj;have h5:0<=(nC z:Int)*(dC y:Int):=Int.mul_nonneg aj aj;have ee:eh (aC x) (jq (nC z:Int) (dC y:Int))=eC x y z:=by
  rw[Gs ⟨aj,aj⟩,j6 ⟨aj,aj⟩];rfl
 have v1:=qS (l:=wU) (r:=rD (aC x)) aj;have v2:=qS (l:=wU++rD (aC x)) (r:=[32]) (by simp only[List.length_append,List.length_singleton];omega);have v3:=qS (l:=wU++rD (aC x)++[32]) (r:=tu al) (by simp only[List.length_append,List.length_singleton];omega);have v4:=qS (l:=wU++rD (aC x)++[32]++tu al) (r:=sG) (by simp only[List.length_append,List.length_singleton];omega);have v5:=qS (l:=wU++rD (aC x)++[32]++tu al++sG) (r:=g8 (dC y)) (by simp only[List.length_append,List.length_singleton];omega);have v6:=qS (l:=wU++rD (aC x)++[32]++tu al++sG++g8 (dC y)) (r:=tA) (by simp only[List.length_append,List.length_singleton];omega);have v7:=qS (l:=wU++rD (aC x)++[32]++tu al++sG++g8 (dC y)++tA) (r:=rD (eC x y z)) (by simp only[List.length_append,List.length_singleton];omega);have v8:=qS (l:=wU++rD (aC x)++[32]++tu al++sG++g8 (dC y)++tA++rD (eC x y z)) (r:=tz) (by simp only[List.length_append,List.length_singleton];omega);have hT:wU++rD (aC x)++[32]++tu al++sG++g8 (dC y)++tA++rD (eC x y z)++tz=Q1 al (F8 (aC x)) (F8 (eC x y z)) (g8 (aC x).natAbs) (g8 (dC y)) (g8 (eC x y z).natAbs):=by
  simp only[Q1,rD,F8,List.append_assoc,List.cons_append,List.nil_append]
 rw[hT]at v8;obtain⟨er,her⟩:∃er:Nat,er=if nC z<200 then 0 else 10:=⟨_,rfl⟩;have aj1:QZ m4 db mp:=⟨aci.1.aU k14,by rw[k14.base];exact aci.2⟩;have hh0:=hG.hn;have hq:=adB (K:=K) (al:=al) (sg:=F8 (aC x)) (tg:=F8 (eC x y z)) (x:=((aC x).natAbs:Int)) (w:=((eC x y z).natAbs:Int)) (d:=dC y) (n:=nC z) (N:=m4.next) hd aj aj aj (by rw[F7,F7];rfl);rw[F7,<-her]at hq;obtain⟨v,m5,e5,k5,ame,A⟩:=alR (K:=K) (T:=HZ al x y z) (W:=eQ) (er:=er) hB (hck (hG.aU jW) (cm.ext jW) (M1.ext k14 (fun h=>h)) dO) (adC ..) (cm.ext jW) (hG.aU jW) aj1 (by rw[jW.home];omega) Re (fun p rows h=>by cases h) (fun b h=>h.elim) hq
  (fun lo=>⟨_,_,_,_,_,_,_,_,rfl,rfl,rfl⟩)
 obtain⟨nv,kv,rv,rfl,hy4⟩:=A.form;have sL:Kp m m5 eQ:=jW.new k5 (N:=m.next) (ai _) fun b hb=>by omega
 have cm5:=cm.ext sL;obtain⟨m6,m7,e6,e7,o7,k7,n7⟩:=kY cm5.gd [.slice none 0 0,.slice none 0 0,.slice none 0 0,vI 0] [nv,kv,rv,vI 0] rfl hy4;have cm7:=cm5.ext k7;obtain⟨t2,w2,g2⟩:=cj (K:=K) (m:=m1) (m':=m7) (r4b db m5.next (aC x) (dC y:Int) (nC z:Int) er ⟨(tu al).toArray⟩ ⟨(rD (aC x)).toArray⟩ ⟨(g8 (dC y)).toArray⟩ ⟨(rD (eC x y z)).toArray⟩ _ _ _ _ _ _ _ (HZ al x y z) nv kv rv) g1
  (.call e2<| .val v1<| .val v2<| .val v3<| .val v4<| .call e3<| .val v5<| .val v6<| .call (by rw[ee];exact e4)<| .val v7<| .val v8<| .call e5<| .mem e6<| .mem e7 .nil)
 by_cases Cq:nC z<200
 ·rw[bK Cq]at her;subst her;have l7:fg 4 m5.next 0 m7=some (.agg #[nv,kv,rv,vI 0],m7):=bY (vs:=[nv,kv,rv,vI 0]) o7 rfl (af rfl);have hlen:(wN (aC x) (dC y:Int) (nC z+1)).length=nC z+1:=by unfold wN;simp
  obtain⟨m8,sv,e8,k8,L8⟩:=c17 (K:=K) cm7.gd (HB.ext (A.1 rfl) k7 fun _ _ h=>h) aj;have km:∀k:Int,(vI k).cells.toList=[vI k]:=fun _=>rfl
  obtain⟨lp,c,rfl,_⟩:=OJ L8 km (j:=0) aj;obtain⟨t3,w3,g3⟩:=cj (K:=K) (m:=m7) (m':=m8) (r4c m5.next (nC z) lp (wN (aC x) (dC y:Int) (nC z+1)).length c (aC x) (dC y:Int) nv kv rv) g2 (.cond (dF (Rk (j:=200)) aj)<| .mem l7<| .call e8<| .rp rfl<| .cond (by rw[hlen,add1 aj,tK,qV cY]) .nil);rw[hlen]at g3;obtain⟨t4,hx4,g4⟩:=alj (K:=K) (m:=m8) (n:=nC z) (lp:=lp) (lc:=c) aj aj aj (fun i hi=>by
   obtain⟨lp',c',e,h⟩:=OJ L8 km (j:=i) hi;cases e;exact h) g3
  obtain⟨t5,w5,g5⟩:=cj (K:=K) (m:=m8) (m':=m8) (r4z (aC x)) g4 .nil;exact⟨m8,fW ok4 (aQ.cut w0 (aQ.cut w1 (aQ.cut w2 (aQ.cut w3 (aQ.sK hx4 (aQ.last w5 NK)))))) (.inr rfl) g5,cm7.ext k8⟩
 ·rw[bZ Cq]at her;subst her;have hv:=A.2 gC;simp only[ae.agg.injEq,Array.mk.injEq,List.cons.injEq,and_true]at hv;obtain⟨rfl,rfl,rfl⟩:=hv;have l7:aT m5.next 2 m7=some (.slice none 0 0,m7):=aO o7 rfl;obtain⟨t3,w3,g3⟩:=cj (K:=K) (m:=m7) (m':=m7) (r4e m5.next (nC z) (aC x) (dC y:Int)) g2 (.cond (dT (Rk (j:=200)) aj)<| .cond rfl<| .cond rfl<| .mem l7<| .rp rfl .nil);exact⟨m7,fW ok4 (aQ.cut w0 (aQ.cut w1 (aQ.cut w2 (aQ.last w3 NK)))) (.inr rfl) g3,cm7⟩
end
end Go.AM
