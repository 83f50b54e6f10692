/-
  What the claim stands on, part 10.
-/
import Derived.Test.YtgfppohfgconeaaGreatDoorK9
set_option linter.unusedVariables false
set_option linter.unusedSimpArgs false
open Go.Proofs.Tryz renaming prog → ab
open Go renaming Value → ae, World → au, Program → aD, TypeId → aM
open Nat renaming le_of_ble_eq_true → af, le_refl → ai, lt_of_lt_of_le → aW, le_trans → cp
open Prod.mk renaming injEq → ay
open List renaming all_eq_true → aB, mem_cons → aI
open Option renaming map_eq_some_iff → aC, bind_some → a9, map_some → cN
open Bool renaming false_eq_true → bU
namespace Go.AM
set_option maxRecDepth 1000000
open Go Go.Conc Go.Proofs
theorem aj0 (db cn cc b4 b6:Nat)(ca:Option Addr)(nm:ByteArray)(e:Int):Path 26 [vP db 0,.iface 91 (.agg #[iF nm,.slice ca cn cc])]
 [dN [some fE,some fE,some fE,some (vI 0)] b4,
  oZ,
  dN [some qZ,some fE] b6,
  jK b6 0 [iF nm,.slice ca cn cc],
  iR 2 b6 (.agg #[iF nm,.slice ca cn cc]),
  .call 38 [vP db 0,.agg #[iF nm,.slice ca cn cc]] (vI e),
  jK b4 0 [fE,fE,fE,vI 0],
  rY 31 b4 (.agg #[fE,fE,fE,vI 0])]
 (.tuple #[.agg #[fE,fE,fE,vI 0],vI e]):=fB
theorem ajZ (db cn cc b4 b6:Nat)(ca:Option Addr)(nm:ByteArray)(y1 y2 y3 y4:ae)(e:Int):Path 26 [vP db 0,.iface 95 (.agg #[iF nm,.slice ca cn cc])]
 [dN [some fE,some fE,some fE,some (vI 0)] b4,
  eE,
  oZ,
  dN [some qZ,some fE] b6,
  jK b6 0 [iF nm,.slice ca cn cc],
  iR 2 b6 (.agg #[iF nm,.slice ca cn cc]),
  .call 39 [vP db 0,.agg #[iF nm,.slice ca cn cc]] (.tuple #[.agg #[y1,y2,y3,y4],vI e]),
  jK b4 0 [y1,y2,y3,y4],
  rY 31 b4 (.agg #[y1,y2,y3,y4])]
 (.tuple #[.agg #[y1,y2,y3,y4],vI e]):=fB
def ZP (K:gS)(T:ByteArray)(L:List (Nat×dJ))(sv:ae):Prop:=∀m,Calm m->Gl m->∃m2,Ev K 22 [.string T] m (.tuple #[bL (sh m.next) 20 sv,vI 0,vI 0]) m2/\Kp m m2 fu/\tj m.next L m2
structure Rw (m:Mem)(mp pe:Nat):Prop where
 lt:mp<m.next
 kind:(m.blk mp).kind=2
 es:(m.blk mp).es.toList=[⟨sB [101],vP pe 0,0⟩]
 clock:(m.blk mp).clock=1
 yL:aL m.bl mp=false
 home:m.home<=mp
 base:m.base<=mp
 pe:pe<m.next
theorem Rw.ext{m m':Mem}{mp pe:Nat}{S:Nat->Prop}(h:Rw m mp pe)(k:Kp m m' S)(hs:¬S mp):Rw m' mp pe:=by
 have e:=k.blk mp h.lt hs;exact⟨aW h.lt k.next,by rw[e];exact h.kind,by rw[e];exact h.es,by rw[e];exact h.clock,by rw[k.bl];exact h.yL,by rw[k.home];exact h.home,by rw[k.base];exact h.base,aW h.pe k.next⟩
def Cr (K:gS):Prop:=∀m lo db mp pe,Calm m->Gl m->Rw m mp pe->Obj m db 0 [.int .i32 1,.int .u32 0,.map (some mp)]->m.base<=db->m.home<=db->ER m lo mp db pe->tj lo S5.L m->∃m' pg,Ev K 38 [vP db 0,.agg #[.string bG,vL (sh lo 93) 0 2 cD]] m (vI 0) m'/\Kp m m' (fun y=>y=mp)/\GX m' mp pe pg (sh lo 93) (.slice none 0 0)/\m.next<=pg
section
variable {K:gS}{m:Mem}{W:Nat->Prop}{db mp pe pg cg:Nat}{rows:List (List V)}
theorem ad1 {T:ByteArray}{L:List (Nat×dJ)}{s:ae}{Q:Mem->Mem->ae->ae->ae->ae->Int->Prop}{S:Nat->Prop}(cm:Calm m)(hG:Gl m)(rA:uN m db mp)(hh:m.home<=db)(hT:ZP K T L s)(hS:∀b,S b->b<m.next/\b≠db)
  (MF:∀m3 lo,Calm m3->Gl m3->Kp m m3 (fun y=>y=db)->Obj m3 db 0 [.int .i32 1,.int .u32 0,.map (some mp)]->tj lo L m3->m.next<lo->lo<=m3.next->∃y1 y2 y3 y4 e m8,Ev K 26 [vP db 0,bL (sh lo) 20 s] m3 (.tuple #[.agg #[y1,y2,y3,y4],vI e]) m8/\Kp m3 m8 S/\([y1,y2,y3,y4].all (·.oneCell'))=true/\Q m3 m8 y1 y2 y3 y4 e):
  ∃m3 m8 m' y1 y2 y3 y4 e,Ev K 12 [vP db 0,.string T] m (.tuple #[.agg #[y1,y2,y3,y4],vI e,vI 0]) m'/\Kp m m3 (fun y=>y=db)/\Kp m3 m8 S/\m.next<m3.next/\Q m3 m8 y1 y2 y3 y4 e/\Kp m8 m' (fun y=>y=db\/y=m.next)/\uN m' db mp:=by
 have g:=cm.gd;obtain⟨rA,sF⟩:=rA;have RJ:=rA.lt;obtain⟨b1,nD⟩:∃b,b=m.next:=⟨_,rfl⟩;obtain⟨m1,e1,o1,k1,n1,_⟩:=aV g [.slice none 0 0,.slice none 0 0,.slice none 0 0,vI 0];rw[<-nD]at e1 o1;have g1:=g.ext k1;obtain⟨m2,e2,k2,q2⟩:=hT m1 (cm.ext k1) (hG.aR k1);have kg:=k1.aS k2;have Pk:=cm.ext kg;have n2:=k2.next;obtain⟨m3,e3,o3,k3⟩:=c24 (K:=K) Pk.gd.deaf (rA.aR kg) ((Pk.own (by rw[kg.base];exact sF)).may _ _);have te:=Pk.ext k3;have n3:=k3.next;have hk:Kp m m3 (fun y=>y=db):=kg.tA.trans k3 fun _ _ h=>h
 obtain⟨y1,y2,y3,y4,e,m8,e26,k8,hy,hq⟩:=MF m3 m1.next te (hG.ext hk fun b e=>e▸hh) hk o3 (q2.ext k3 fun y e=>by omega) aj aj;have n8:=k8.next;have Wu:Kp m m8 (fun y=>y=db\/S y):=(hk.mono fun _ _ h=> .inl h).trans (k8.mono fun _ _ h=> .inr h) fun _ _ h=>h
 have cm8:=cm.ext Wu;obtain⟨m9,m10,e9,MT,o10,Uv,n10⟩:=iX cm8.gd [.slice none 0 0,.slice none 0 0,.slice none 0 0,vI 0] [y1,y2,y3,y4] rfl hy;have l10:eW 4 m8.next 0 m10=some (.agg #[y1,y2,y3,y4],m10):=bW (vs:=[y1,y2,y3,y4]) o10 rfl (af rfl);have ahb:=Wu.aS Uv;have amQ:=Uv.next;have b1S:¬S b1:=fun h=>by have :=(hS _ h).1;omega
 have ob1:=(((o1.aR k2).ext k3 (show¬b1=db by omega)).ext k8 b1S).aR Uv;obtain⟨m11,e11,o11,k11⟩:=kq (o:=0) [y1,y2,y3,y4] ob1 ((g.own ahb aj).may _ _) (af rfl) hy;have n11:=k11.next;have acU:Kp m m11 (fun y=>y=db\/S y):=ahb.new k11 (N:=m.next) (ai _) fun b hb=>by omega
 have aiq:=cm.ext acU;have akp:=((o3.ext k8 fun h=>(hS _ h).2 rfl).aR Uv).ext k11 (show¬db=b1 by omega);obtain⟨m12,VF,o12,Fz⟩:=c25 (K:=K) aiq.gd.deaf akp ((aiq.own (by rw[acU.base];exact sF)).may _ _);have eR:oA ab 31 (vP b1 0) m12=some (.agg #[y1,y2,y3,y4],m12):=ma (o11.ext Fz (show¬b1=db by omega)) rfl qJ.1 qJ.2;refine⟨m3,m8,m12,y1,y2,y3,y4,e,aJ (p12 db T _ y1 y2 y3 y4 e b1 m8.next) (.mem e1<| .call e2<| .cond rfl<| .call e3<| .call e26<| .mem e9<| .mem MT<| .mem l10<| .mem e11<| .call VF<| .mem eR .nil),hk,k8,aj,hq,?_,o12,by rw[Fz.base,acU.base];exact sF⟩;exact(Uv.tA.trans (k11.mono fun _ _ h=> .inr (h.trans nD)) fun _ _ h=>h).trans (Fz.mono fun _ _ h=> .inl h) fun _ _ h=>h
theorem amv (RL:Cr K)(cm:Calm m)(hG:Gl m)(rA:uN m db mp)(hh:m.home<=db)(hT:ZP K txG S5.L (.iface 91 (.agg #[.string bG,vL 93 0 2 cD])))(M:Rw m mp pe)(Hi:mp≠db):
  ∃m' pg cg,Ev K 12 [vP db 0,.string txG] m (.tuple #[aiP,vI 0,vI 0]) m'/\Kp m m' (fun y=>y=db\/y=mp)/\uN m' db mp/\Ie (fun b=>b=mp\/b=pg\/b=cg) m' mp pe pg cg []/\m.next<pg/\m.next<cg:=by
 have hmp:=M.lt;obtain⟨m3,m8,m',y1,y2,y3,y4,e,VF,k3,k8,cC,⟨h1,h2,h3,h4,h5,pg,cg,X,hpg,hcg⟩,k',TN⟩:=ad1 (K:=K) (S:=fun y=>y=mp)
  (Q:=fun m3 m8 y1 y2 y3 y4 e=>y1= .slice none 0 0/\y2= .slice none 0 0/\y3= .slice none 0 0/\y4=vI 0/\e=0/\∃pg cg,GX m8 mp pe pg cg (.slice none 0 0)/\m.next<pg/\m.next<cg) cm hG rA hh hT (fun b e=>⟨e▸hmp,fun h=>Hi (e▸h)⟩) (by
  intro m3 lo te hG3 k3 o3 hA cC hle;obtain⟨m4,e4,o4,k4,n4,_⟩:=aV te.gd [.slice none 0 0,.slice none 0 0,.slice none 0 0,vI 0];have KX:=te.ext k4;obtain⟨m5,m6,e5,e6,o6,k6,n6⟩:=iX KX.gd [.string .empty,.slice none 0 0] [.string bG,vL (sh lo 93) 0 2 cD] rfl rfl;have DW:=KX.ext k6;have Cw:=k4.aS k6;have sZ:=k3.aS Cw;have n3:=k3.next;have ob:=rA.1.lt;have hpe:=M.pe;have hh0:=hG.hn;have WG:m.base<=m.next:=by have :=cm.gd.bf;have :=cm.gd.fn;omega
  obtain⟨m7,pg,e7,k7,X,hpg⟩:=RL m6 lo db mp pe DW (hG3.aR Cw) (M.ext sZ Hi) (o3.aR Cw) (by rw[sZ.base];exact rA.2) (by rw[sZ.home];exact hh) ⟨aj,by rw[sZ.base,sZ.home];omega⟩ (hA.ext Cw fun _ h=>h.elim);have n7:=k7.next;have n6':=Cw.next;have hm4:¬m3.next=mp:=aj;obtain⟨m8,e8,o8,k8⟩:=kq (o:=0) [.slice none 0 0,.slice none 0 0,.slice none 0 0,vI 0] ((o4.aR k6).ext k7 hm4) ((te.gd.own (Cw.tA.trans k7 fun _ _ h=>h) (ai _)).may _ _) (af rfl) rfl;have eR:oA ab 31 (vP m3.next 0) m8=some (aiP,m8):=ma o8 rfl qJ.1 qJ.2;have l6:eW 2 m4.next 0 m6=some (.agg #[.string bG,vL (sh lo 93) 0 2 cD],m6):=bW (vs:=[.string bG,vL (sh lo 93) 0 2 cD]) o6 rfl (af rfl);have hc:sh lo 93<m3.next:=(hA 93 2 qG rfl).2.lt;have hs:sh lo 93=lo+81:=Fb eS;exact⟨_,_,_,_,0,m8,aJ (aj0 db 2 cD m3.next m4.next _ bG 0) (.mem e4<| .cond rfl<| .mem e5<| .mem e6<| .mem l6<| .call e7<| .mem e8<| .mem eR .nil),(Cw.tA.trans k7 fun _ _ h=>h).new k8 (N:=m3.next) (ai _) fun b hb=>by omega,rfl,rfl,rfl,rfl,rfl,rfl,pg,sh lo 93,X.ext k8 ⟨fun e=>hm4 e.symm,fun e=>by omega,fun e=>by omega⟩,aj,aj⟩)
 subst h1 h2 h3 h4 h5;have ob:=rA.1.lt;have X':=X.ext k' ⟨fun e=>e.elim Hi fun e=>by omega,fun e=>e.elim (fun e=>by omega) fun e=>by omega,fun e=>e.elim (fun e=>by omega) fun e=>by omega⟩;refine⟨m',pg,cg,VF,?_,TN,⟨⟨_,X',fu,fu,.inl ⟨rfl,rfl⟩,aT.nil,fun b hb=>hb.elim (fun h=>h.elim) fun h=>h.elim⟩,⟨.inl rfl,.inr (.inl rfl),.inr (.inr rfl)⟩,fun b hb=>?_⟩,hpg,hcg⟩
 ·exact((k3.mono (S':=fun y=>y=db\/y=mp) fun _ _ h=> .inl h).trans (k8.mono fun _ _ h=> .inr h) fun _ _ h=>h).trans k' fun b hb h=>h.elim .inl fun h=>by omega
 ·rcases hb with rfl|rfl|rfl
  ·exact X'.map.lt
  ·exact X'.g.lt
  ·exact X'.c.lt
theorem amu (hK:AY K){T:ByteArray}{a b:Nat}(KP:Ck K (iD a b))(cm:Calm m)(hG:Gl m)(rA:uN m db mp)(hh:m.home<=db)(hT:ZP K T (GD a b).L (.iface 95 (iD a b).sv))(D:Ie W m mp pe pg cg rows)(Hi:¬W db)(YW:rows.length<1000):
  ∃m' W',Ev K 12 [vP db 0,.string T] m (.tuple #[.agg #[.slice none 0 0,.slice none 0 0,.slice none 0 0,vI 1],vI 0,vI 0]) m'/\Kp m m' (fun y=>y=db\/W y)/\uN m' db mp/\Ie W' m' mp pe pg cg (rows++[jS (a,b)])/\∀b,W' b->W b\/m.next<b:=by
 obtain⟨m3,m8,m',y1,y2,y3,y4,e,VF,k3,k8,cC,⟨h1,h2,h3,h4,h5,W',hW,hW2⟩,k',TN⟩:=ad1 (K:=K) (S:=W)
  (Q:=fun m3 m8 y1 y2 y3 y4 e=>y1= .slice none 0 0/\y2= .slice none 0 0/\y3= .slice none 0 0/\y4=vI 1/\e=0/\∃W',Ie W' m8 mp pe pg cg (rows++[jS (a,b)])/\∀b,W' b->W b\/m.next<b) cm hG rA hh hT (fun b hb=>⟨D.lt b hb,fun e=>Hi (e▸hb)⟩) (by
  intro m3 lo te hG3 k3 o3 hA cC hle;obtain⟨m4,e4,o4,k4,n4,_⟩:=aV te.gd [.slice none 0 0,.slice none 0 0,.slice none 0 0,vI 0];have KX:=te.ext k4;obtain⟨m5,m6,e5,e6,o6,k6,n6⟩:=iX KX.gd [.string .empty,.slice none 0 0] [.string bG,vL (sh lo 137) 0 1 1] rfl rfl;have DW:=KX.ext k6;have Cw:=k4.aS k6;have sZ:=k3.aS Cw;have n3:=k3.next;have D6:=D.ext sZ fun b hb e=>Hi (e▸hb)
  have hh0:=hG.hn;have WG:m.base<=m.next:=by have :=cm.gd.bf;have :=cm.gd.fn;omega
  have w1:=D.lt _ D.w.1;have w2:=D.lt _ D.w.2.1;have w3:=D.lt _ D.w.2.2;obtain⟨m7,W',e7,k7,hW,hW2⟩:=alY (K:=K) hK KP DW (hG3.aR Cw) (o3.aR Cw) D6 Hi ⟨aj,by rw[sZ.base,sZ.home];omega⟩ (hA.ext Cw fun _ h=>h.elim) YW;have n7:=k7.next;have n36:=Cw.next;have hW4:¬W m3.next:=fun h=>by have :=D.lt _ h;omega
  obtain⟨m8,e8,o8,k8⟩:=kq (o:=0) [.slice none 0 0,.slice none 0 0,.slice none 0 0,vI 1] ((o4.aR k6).ext k7 hW4) ((te.gd.own (Cw.tA.trans k7 fun _ _ h=>h) (ai _)).may _ _) (af rfl) rfl;have eR:oA ab 31 (vP m3.next 0) m8=some (.agg #[.slice none 0 0,.slice none 0 0,.slice none 0 0,vI 1],m8):=ma o8 rfl qJ.1 qJ.2;have l6:eW 2 m4.next 0 m6=some (.agg #[.string bG,vL (sh lo 137) 0 1 1],m6):=bW (vs:=[.string bG,vL (sh lo 137) 0 1 1]) o6 rfl (af rfl);refine⟨_,_,_,_,0,m8,aJ (ajZ db 1 1 m3.next m4.next (some ⟨sh lo 137,0,none⟩) bG _ _ _ _ 0) (.mem e4<| .cond rfl<| .cond rfl<| .mem e5<| .mem e6<| .mem l6<| .call e7<| .mem e8<| .mem eR .nil),(Cw.tA.trans k7 fun _ _ h=>h).new k8 (N:=m3.next) (ai _) fun b hb=>by omega,rfl,rfl,rfl,rfl,rfl,rfl,W',hW.ext k8 fun b hb e=>?_,fun b hb=>?_⟩
  ·rcases hW2 b hb with h|h
   ·have :=D.lt b h;omega
   ·have :=h.1;omega
  ·rcases hW2 b hb with h|h
   ·exact .inl h
   ·exact .inr (by have :=h.1;omega))
 subst h1 h2 h3 h4 h5;refine⟨m',W',VF,?_,TN,hW.ext k' fun b hb e=>?_,hW2⟩
 ·exact((k3.mono (S':=fun y=>y=db\/W y) fun _ _ h=> .inl h).trans (k8.mono fun _ _ h=> .inr h) fun _ _ h=>h).trans k' fun b hb h=>h.elim .inl fun h=>by omega
 ·rcases hW2 b hb with h|h
  ·exact e.elim (fun e=>Hi (e▸h)) fun e=>by have :=D.lt b h;omega
  ·rcases e with e|e
   ·have :=rA.1.lt;omega
   ·omega
end
end Go.AM
namespace Go.AM
set_option maxRecDepth 1000000
open Go Go.Conc Go.Proofs
def Wj (K:gS):Prop:=∀m,Calm m->Gl m->∃m' db mp pe,Ev K 14 [] m (vP db 0) m'/\Kp m m' fu/\uN m' db mp/\Rw m' mp pe/\m.next<=db/\m.next<=mp/\mp≠db
end Go.AM
namespace Go.AM
set_option maxRecDepth 1000000
open Go Go.Conc Go.Proofs
theorem p18 (x:Int)(k:Nat)(x1 x2:Int):Path 18 [vI x]
 [.call 15 [vI x,vI 144] (vI k),
  .val (kK Nat.div .i64 k 12 (jZ ab .quo 3 false true (vI k) (vI 12))) (vI x1),
  .val (kK Nat.mod .i64 k 12 (jZ ab .rem 3 false true (vI k) (vI 12))) (vI x2)]
 (.tuple #[vI x1,vI x2]):=fB
theorem aka (x:Int)(n:Nat)(x1:Int):Path 15 [vI x,vI n]
 [bP (gB x 0) false,
  .val (kK Nat.mod .i64 x n (jZ ab .rem 3 false false (vI x) (vI n))) (vI x1)]
 (vI x1):=fB
theorem aj9 (x:Int)(n:Nat)(x1 x2:Int):Path 15 [vI x,vI n]
 [bP (gB x 0) true,
  .val (pu ab [vI (fg x 1)] (Op.unary .neg (vI (fg x 1)))) (vI x1),
  .val (kK Nat.mod .i64 x1 n (jZ ab .rem 3 false false (vI x1) (vI n))) (vI x2)]
 (vI x2):=fB
theorem ajK (ln lc db b4:Nat)(la:Option Addr):gN 10 0 8 [0] [.slice la ln lc]
 [.call 14 [] (vP db 0),
  eE,
  .call 12 [vP db 0,iF (⟨#[67,82,69,65,84,69,32,84,65,66,76,69,32,103,40,97,32,73,78,84,44,32,98,32,73,78,84,41]⟩)] (.tuple #[.agg #[fE,fE,fE,vI 0],vI 0,vI 0]),
  dN [some fE,some fE,some fE,some (vI 0)] b4,
  jK b4 0 [fE,fE,fE,vI 0],
  eE]
 .normal [0,3,7] [.slice la ln lc,vP db 0,vI 0]:=jz
theorem ajL (pl ln lc db i nX a b:Nat)(x:Int)(s1 s2 c1 c2 c3 c4:ByteArray):dX 10 [8] 0 99 [0,3,7] [vL pl 0 ln lc,vP db 0,vI i]
 ((rp 3 (.bool (gB i ln)) true (bP (gB i 60) true:: .idx i ln i:: .mem (aP pl (0+i*1)) (vI x):: .call 18 [vI x] (.tuple #[vI a,vI b]):: .call 16 [vI a] (iF s1):: .val (vw (⟨#[73,78,83,69,82,84,32,73,78,84,79,32,103,32,86,65,76,85,69,83,32,40]⟩) s1) (iF c1):: .val (vw c1 (⟨#[44,32]⟩)) (iF c2):: .call 16 [vI b] (iF s2):: .val (vw c2 s2) (iF c3):: .val (vw c3 (⟨#[41]⟩)) (iF c4):: .call 12 [vP db 0,iF c4] (.tuple #[.agg #[fE,fE,fE,vI 1],vI 0,vI 0])::dN [some fE,some fE,some fE,some (vI 0)] nX::jK nX 0 [fE,fE,fE,vI 1]::eE::eE:: .mem (aP nX 3) (vI 1)::(rp 3 (.bool false) false ([])))))
 .normal [0,3,7] [vL pl 0 ln lc,vP db 0,vI (fg i 1)]:=jz
theorem ajJ (ln lc db i:Nat)(la:Option Addr):dX 10 [8] 0 99 [0,3,7] [.slice la ln lc,vP db 0,vI i]
 ((rp 3 (.bool (gB i ln)) false ([eE])))
 (.exit 0) [3] [vP db 0]:=jz
theorem ajI (ln lc db i:Nat)(la:Option Addr):dX 10 [8] 0 99 [0,3,7] [.slice la ln lc,vP db 0,vI i]
 ((rp 3 (.bool (gB i ln)) true ([bP (gB i 60) false])))
 (.exit 0) [3] [vP db 0]:=jz
theorem ajM (db:Nat):gN 10 9 99 [3] [vP db 0]
 []
 .ret [2] [vP db 0]:=jz
theorem akm:nQ 10 1 [2]=true:=aY
theorem TM:(dZ (cI 10)).length<=99:=af aY
theorem LY:vl 10 [8]:=aY
def sW (x:Int)(n:Nat):Nat:=(if x<0 then(-(x+1)).toNat else x.toNat)%n
section
variable {K:gS}{m:Mem}
theorem c15 {x:Int}(hx:FC x){n:Nat}(h0:0<n):Ev K 15 [vI x,vI n] m (vI (sW x n:Int)) m:=by
 unfold sW
 by_cases h:x<0
 ·obtain⟨y,hy⟩:∃y:Nat,(y:Int)= -(x+1):=⟨(-(x+1)).toNat,aj⟩;have e1:fg x 1=x+1:=qK ⟨by have :=hx.1;omega,aj⟩;have hn:=aks (fg x 1);rw[e1,<-hy,r7 ⟨aj,by have :=hx.1;omega⟩]at hn;rw[bC h,<-hy,Int.toNat_natCast];exact aJ (aj9 x n _ _) (.cond (by rw[fp,vB h])<| .val (by rw[e1];exact hn)<| .val (VH y n aj) .nil)
 ·obtain⟨y,hy⟩:∃y:Nat,(y:Int)=x:=⟨x.toNat,aj⟩;subst hy;rw[bS h,Int.toNat_natCast];exact aJ (aka _ n _) (.cond (by rw[fp,w9 h])<| .val (VH y n aj) .nil)
def jI (x:Int):Nat×Nat:=(sW x 144 / 12,sW x 144%12)
theorem C' (x:Int):(jI x).1<12/\(jI x).2<12:=by
 have :sW x 144<144:=Nat.mod_lt _ eS;unfold jI;exact⟨by show sW x 144 / 12<12;omega,Nat.mod_lt _ eS⟩
theorem c18 {x:Int}(hx:FC x):Ev K 18 [vI x] m (.tuple #[vI ((jI x).1:Int),vI ((jI x).2:Int)]) m:=by
 have hk:sW x 144<144:=Nat.mod_lt _ eS;have e1:=aaR true (sW x 144:Int) 12 eS;have e2:=aaQ true (sW x 144:Int) 12 eS;rw[show(12:Int)=((12:Nat):Int)from rfl,IT 12 aj]at e1;rw[show(12:Int)=((12:Nat):Int)from rfl,Tc]at e2;exact aJ (p18 x (sW x 144) _ _) (.call (c15 (n:=144) hx eS)<| .val e1<| .val e2 .nil)
end
end Go.AM
namespace Go.AM
set_option maxRecDepth 1000000
open Go Go.Conc Go.Proofs
theorem Zs:((List.range 12).all fun a=>decide ((jN a).length<=2))=true:=aY
theorem Hx {a:Nat}(h:a<12):(jN a).length<=2:=of_decide_eq_true (aB.1 Zs a (List.mem_range.2 h))
theorem Hu {α:Type}{val:α->ae}{B:Nat->Prop}{m:Mem}{l:List α}{v:ae}(h:(aT (jq val) 1).R B l m v)(h1:∀x,(val x).cells.toList=[val x]){j:Nat}(hj:j<l.length):∃b c,v=vL b 0 l.length c/\aP b (0+j*1) m=some (val l[j],m):=by
 obtain⟨b,c,u,cu,e,_,ou,h2,h3,hu,er⟩:=aT.get h hj;have hu:u=val l[j]:=hu;subst hu;refine⟨b,c,e,?_⟩;rw[Nat.zero_add,Nat.mul_one];rw[Nat.mul_one,h1]at h2;refine aN ou ?_;have :=congrArg (·[0]?) h2;simpa using this
def vA (B:Nat->Prop)(xs:List Int)(m:Mem)(v:ae):Prop:=(xs=[]/\∃la lc,v= .slice la 0 lc)\/(aT (jq vI) 1).R B xs m v
theorem vA.form{B:Nat->Prop}{xs:List Int}{m:Mem}{v:ae}(h:vA B xs m v):∃la lc,v= .slice la xs.length lc:=by
 rcases h with⟨rfl,la,lc,rfl⟩|h
 ·exact⟨la,lc,rfl⟩
 ·exact aT.form h
theorem vA.aR{B:Nat->Prop}{xs:List Int}{m m':Mem}{v:ae}(h:vA B xs m v)(k:Kp m m' fu):vA B xs m' v:=h.imp id fun h=>(aT (jq vI) 1).ext h k fun _ _ h=>h
theorem vA.ld{B:Nat->Prop}{xs:List Int}{m:Mem}{v:ae}(h:vA B xs m v){j:Nat}(hj:j<xs.length):∃b c,v=vL b 0 xs.length c/\aP b (0+j*1) m=some (vI xs[j],m):=by
 rcases h with⟨rfl,_⟩|h
 ·exact absurd hj (Nat.not_lt_zero _)
 ·exact Hu h (fun _=>rfl) hj
structure GK (K:gS):Prop where
 fI:AY K
 known:Wj K
 cr:Cr K
 rdG:ZP K txG S5.L (.iface 91 (.agg #[.string bG,vL 93 0 2 cD]))
 rdN:∀a b,a<12->b<12->ZP K ⟨(ahe a b).toArray⟩ (GD a b).L (.iface 95 (iD a b).sv)
 ckI:∀a b,Ck K (iD a b)
section
variable {K:gS}{m:Mem}{BX:Nat->Prop}
theorem c10 (hB:GK K)(cm:Calm m)(hG:Gl m){xs:List Int}{xv:ae}(hx:vA BX xs m xv)(ky:∀x∈xs,FC x):
  ∃m' db mp pe pg cg W,Ev K 10 [xv] m (vP db 0) m'/\Kp m m' fu/\uN m' db mp/\Ie W m' mp pe pg cg (((xs.take 60).map jI).map jS)/\¬W db/\m.next<=db/\∀b,W b->m.next<=b:=by
 obtain⟨la,lc,hxv⟩:=hx.form;have hh:=hG.hn;obtain⟨m1,db,mp,pe,e1,k1,Qk,M1,Hi,hmp,dH⟩:=hB.known m cm hG;have n1:=k1.next;obtain⟨m2,pg,cg,e2,k2,Qj,D2,hpg,hcg⟩:=amv (K:=K) hB.cr (cm.ext k1) (hG.aR k1) Qk (by rw[k1.home];omega) hB.rdG M1 dH;obtain⟨W1,hW1⟩:∃W1:Nat->Prop,W1=fun b=>b=mp\/b=pg\/b=cg:=⟨_,rfl⟩
 rw[<-hW1]at D2;have RJ:=Qk.1.lt;have hml:=M1.lt;have K2:Kp m m2 fu:=k1.new k2 (N:=m.next) (ai _) fun b hb=>by rcases hb with h|h<;>omega
 have n2:=k2.next;obtain⟨x3,m3,e3,f3,o3,k3,n3⟩:=iX (cm.ext K2).gd [.slice none 0 0,.slice none 0 0,.slice none 0 0,vI 0] [.slice none 0 0,.slice none 0 0,.slice none 0 0,vI 0] rfl rfl;have K3:=K2.aS k3;have n3':=k3.next;have agZ:uN m3 db mp:=⟨Qj.1.aR k3,by rw[k3.base];exact Qj.2⟩;have D3:=D2.ext k3 fun _ _ h=>h
 have alu:¬W1 db:=fun h=>by rw[hW1]at h;rcases h with h|h|h<;>omega
 have als:∀b,W1 b->m.next<=b:=fun b h=>by rw[hW1]at h;rcases h with h|h|h<;>omega
 obtain⟨t0,w0,e0⟩:=cX (K:=K) (m:=m) (m':=m3) (tm:=entry [xv]) (ajK xs.length lc db m2.next la) (by rw[hxv];rfl) (.call e1<| .cond rfl<| .call e2<| .mem e3<| .mem f3<| .cond rfl .nil);obtain⟨e,t1,m5,he,zj,rfl,hg,W5,K5,akn,D5,alr,alq⟩:=fL (K:=K) (nt:=j0 10) (a:=iy 10 [8]) (min xs.length 60)
  (Inv:=fun j tm M=>dL [0,3,7] tm=[.slice la xs.length lc,vP db 0,vI j]/\∃W,Kp m M fu/\uN M db mp/\Ie W M mp pe pg cg (((xs.take j).map jI).map jS)/\¬W db/\(∀b,W b->m.next<=b))
  (dQ:=fun e tm M=>e= .exit 0/\dL [3] tm=[vP db 0]/\∃W,Kp m M fu/\uN M db mp/\Ie W M mp pe pg cg (((xs.take 60).map jI).map jS)/\¬W db/\(∀b,W b->m.next<=b))
  (by
   rintro j tm M hj ⟨hg,W,KM,rA,D,hWd,hWn⟩
   left
   have KN:j<xs.length:=aj;have nM:=KM.next;obtain⟨pl,c',e,lx⟩:=(hx.aR KM).ld KN;rw[hxv]at e;cases e;obtain⟨a,b,MJ⟩:∃a b,jI xs[j]=(a,b):=⟨_,_,rfl⟩;have cC:=C' xs[j];have e18:=c18 (K:=K) (m:=M) (ky _ (List.getElem_mem KN));rw[MJ]at cC e18;have ha:a<12:=cC.1;have hb:b<12:=cC.2;obtain⟨M1,e4,k4⟩:=c16 (K:=K) a (cm.ext KM).gd aj;have KM1:=KM.aS k4;obtain⟨M2,e5,k5⟩:=c16 (K:=K) b (cm.ext KM1).gd aj;have KM2:=KM1.aS k5;have n4:=k4.next;have n5:=k5.next;have da:=Hx ha;have dbl:=Hx hb;have v1:=sK (l:=[73,78,83,69,82,84,32,73,78,84,79,32,103,32,86,65,76,85,69,83,32,40]) (r:=jN a) (by simp;omega);have v2:=sK (l:=[73,78,83,69,82,84,32,73,78,84,79,32,103,32,86,65,76,85,69,83,32,40]++jN a) (r:=[44,32]) (by simp;omega);have v3:=sK (l:=[73,78,83,69,82,84,32,73,78,84,79,32,103,32,86,65,76,85,69,83,32,40]++jN a++[44,32]) (r:=jN b) (by simp;omega);have v4:=sK (l:=[73,78,83,69,82,84,32,73,78,84,79,32,103,32,86,65,76,85,69,83,32,40]++jN a++[44,32]++jN b) (r:=[41]) (by simp;omega);have Qj:uN M2 db mp:=⟨(rA.1.aR k4).aR k5,by rw[k5.base,k4.base];exact rA.2⟩;have DD:=(D.ext k4 fun _ _ h=>h).ext k5 fun _ _ h=>h
   obtain⟨M3,W',e6,k6,agY,D6,hW'⟩:=amu (K:=K) hB.fI (hB.ckI a b) (cm.ext KM2) (hG.aR KM2) Qj (by rw[KM2.home];omega) (hB.rdN a b ha hb) DD hWd (by simp;omega);have KM3:Kp m M3 fu:=KM2.new k6 (N:=m.next) (ai _) fun b hb=>hb.elim (fun h=>by omega) (hWn b)
   have n6:=k6.next;obtain⟨x7,M4,e7,f7,o7,k7,n7⟩:=iX (cm.ext KM3).gd [.slice none 0 0,.slice none 0 0,.slice none 0 0,vI 0] [.slice none 0 0,.slice none 0 0,.slice none 0 0,vI 1] rfl rfl;obtain⟨t2,fO,gp⟩:=bK (K:=K) LY (ajL pl xs.length lc db j M3.next a b xs[j] _ _ _ _ _ _) hg (.rp (Jf KN)<| .cond (dT (Qu (j:=60)))<| .idx rfl KN<| .mem lx<| .call e18<| .call e4<| .val v1<| .val v2<| .call e5<| .val v3<| .val v4<| .call e6<| .mem e7<| .mem f7<| .cond rfl<| .cond rfl<| .mem (aN o7 rfl)<| .rp rfl .nil);rw[add1 aj]at gp;refine⟨t2,M4,fO,gp,W',KM3.aS k7,⟨agY.1.aR k7,by rw[k7.base];exact agY.2⟩,?_,fun h=>(hW' _ h).elim hWd fun h=>by have :=rA.1.lt;omega,fun b hb=>(hW' b hb).elim (hWn b) fun h=>by omega⟩;have :=D6.ext k7 fun _ _ h=>h
   rwa[show((xs.take (j+1)).map jI).map jS=((xs.take j).map jI).map jS++[jS (a,b)] by
    rw[List.take_add_one,List.getElem?_eq_getElem KN,List.map_append,List.map_append];show _++[jS (jI xs[j])]=_;rw[MJ]])
  (by
   rintro tm M ⟨hg,W,KM,rA,D,hWd,hWn⟩
   by_cases h:xs.length<=60
   ·rw[Nat.min_eq_left h]at hg D;obtain⟨t2,fO,gp⟩:=bK (K:=K) (m:=M) (m':=M) LY (ajJ xs.length lc db xs.length la) hg (.rp (T9 _)<| .cond rfl .nil);refine⟨_,t2,M,lQ,fO,rfl,gp,W,KM,rA,?_,hWd,hWn⟩;rw[List.take_length]at D;rw[List.take_of_length_le h];exact D
   ·rw[Nat.min_eq_right aj]at hg D;obtain⟨t2,fO,gp⟩:=bK (K:=K) (m:=M) (m':=M) LY (ajI xs.length lc db 60 la) hg (.rp (Jf aj)<| .cond (dF (Qu (j:=60))) .nil);exact⟨_,t2,M,lQ,fO,rfl,gp,W,KM,rA,D,hWd,hWn⟩)
  (tm:=t0) (m:=m3) ⟨e0,W1,K3,agZ,D3,alu,als⟩ aj
 obtain⟨t2,h2,H8⟩:=cX (K:=K) (m:=m5) (m':=m5) (ajM db) hg .nil;exact⟨m5,db,mp,pe,pg,cg,W5,iO akm (aU.cut w0 (aU.qz zj (aU.last h2 TM))) (.inr rfl) H8,K5,akn,D5,alr,Hi,alq⟩
end
end Go.AM
namespace Go.AM
set_option maxRecDepth 1000000
open Go Go.Conc Go.ConcM Go.Proofs Go.Proofs.YtgfppohfgconeaaGreatDoor Go.ChangeShapes
def Cj (k:dJ):Mem:={heap:=ji.put (ji.put [] 0 {kind:=1,cs:=cJ}) 12 k,next:=13,tick:=1,base:=13,home:=13,floor:=13,opn:=[],bl:=[],wg:=none,pend:=[],deaf:=0}
theorem nB (k:dJ)(b:Nat):(Cj k).blk b=if 12=b then k else if 0=b then{kind:=1,cs:=cJ}else{}:=by
 show(ji.put (ji.put [] 0 {kind:=1,cs:=cJ}) 12 k).get b=_
 rw[ji.get_put]
 split
 ·rfl
 ·exact iG b
def ρx (p:Pl):dh:=fun b=>if b=12 then some p else ρ0 b
theorem Ix {o:Nat}{v:ae}(h:cJ[o]?=some (some v)):cR v=true:=by
 have oh:(cJ.all fun x=>match x with |some y=>cR y|none=>false)=true:=aY;exact aB.1 oh _ (List.mem_of_getElem? h)
theorem PW {o:Nat}(h:o<cJ.length):∃s,cJ[o]?=some (some (.string s)):=by
 have oh:(cJ.all fun x=>match x with |some (.string _)=>true|_=>false)=true:=aY;have :=aB.1 oh _ (List.getElem_mem h)
 split at this
 ·rename_i s hs;exact⟨s,by rw[List.getElem?_eq_getElem h,hs]⟩
 ·cases this
structure amE (W:au)(k:dJ)(p:Pl):Prop where
 aZ:k.aZ=0
 live:k.live
 pos:k.pos=0
 kind:k.kind=0\/k.kind=1
 sz:p.sz=k.sz
 len:k.cs.length<=p.room
 shape:k.kind=1->∃e n,W.shape? p.c=some (e,n)/\p.d+p.room<=n
 lj:k.kind=1->∀o v,k.cs[o]?=some (some v)->cR v=true/\W.cell? ⟨p.c,p.d+o,none⟩=some v
 sep:k.kind=1->p.c=0->cJ.length<=p.d
theorem tM {W:au}(iW:12<=W.heap.size){C:Array ae}{ty:aM}{fr:Nat×Nat}(h0:W.heap[0]?=some (.cells C ty fr))(hC:cJ.length<=C.size)(hv:∀(o:Nat) v,cJ[o]?=some (some v)->C[o]?=some v){k:dJ}{p:Pl}(hp:p.c<W.heap.size)(hk:amE W k p):
  cU ab (Ya W) W .idle (ρx p) (Cj k) W/\Wf (Cj k):=by
 have mz:∀b q,ρx p b=some q->b=12/\q=p\/b<12/\q=⟨b,0,if b=0 then cJ.length else 0,0⟩:=fun b q h=>by
  unfold ρx at h
  split at h
  ·rename_i hb;cases h;exact .inl ⟨hb,rfl⟩
  ·unfold ρ0 at h
   split at h
   ·rename_i hb;cases h;exact .inr ⟨hb,rfl⟩
   ·cases h
 have kx:(Cj k).blk 12=k:=by rw[nB,bC rfl]
 have k0:(Cj k).blk 0={kind:=1,cs:=cJ}:=by rw[nB,bS eS,bC rfl]
 have kind:∀b,((Cj k).blk b).kind≠0->b=0\/b=12:=fun b hb=>by
  rw[nB]at hb
  split at hb
  ·rename_i h;exact .inr h.symm
  ·split at hb
   ·rename_i h;exact .inl h.symm
   ·exact absurd rfl hb
 have Mj:∀b,((Cj k).blk b).kind=0\/((Cj k).blk b).kind=1:=fun b=>by
  rw[nB]
  split
  ·exact hk.kind
  ·split
   ·exact .inr rfl
   ·exact .inl rfl
 have at0:∀q,ρx p 0=some q->q=⟨0,0,cJ.length,0⟩:=fun q h=>by
  rcases mz _ _ h with⟨h,_⟩|⟨_,h⟩
  ·cases h
  ·rw[h,bC rfl]
 have ZL:∀q,ρx p 12=some q->q=p:=fun q h=>by
  rcases mz _ _ h with⟨_,h⟩|⟨h,_⟩
  ·exact h
  ·omega
 have DU:Wf (Cj k):=by
  refine⟨fun b=>?_,fun b hb=>?_,fun s hs=>(by cases hs),ai _,fun b=>?_⟩
  ·rw[nB]
   split
   ·rw[hk.aZ];exact Nat.one_pos
   ·split<;>exact Nat.one_pos
  ·have hb:13<=b:=hb;rw[nB,bS aj,bS aj]
  ·rw[nB]
   split
   ·exact hk.live
   ·have :=Gj.live b;rw[iG]at this;exact this
 have ae4:k.kind=1->p.c=0->(cJ.length=0\/p.room=0\/0+cJ.length<=p.d\/p.d+p.room<=0):=fun h1 h2=> .inr (.inr (.inl (by have :=hk.sep h1 h2;omega)))
 refine⟨⟨⟨fun b q hq=>?_,fun b q hq Bd=>?_,fun b q o v hq hc=>?_,fun b q o hq _ _ hb=>?_,fun b q hq FE _=>?_,fun b q hq FE _=>?_,fun b b' q q' dH hq xS Bd adt uo=>?_,
  fun b q hq=>?_,fun b q hq Bd iL=>?_⟩,bj.refl _ _,⟨fun b o he=>⟨he,?_⟩,fun b he=>⟨he.1,?_,he.2⟩,fun _ _ h=>h.elim⟩,fun g hg=>?_,⟨rfl,rfl,ai _⟩,DU,fun b q x hq hb=>?_,fun _ _ h=>h.elim⟩,DU⟩
 ·show b<13
  rcases mz b q hq with⟨h,_⟩|⟨h,_⟩<;>omega
 ·rcases kind b (by rw[Bd];decide)with rfl|rfl
  ·rw[at0 q hq,k0];refine⟨rfl,ai _,ty,C.size,?_,by show 0+cJ.length<=C.size;omega⟩;unfold au.shape?;rw[h0]
  ·rw[ZL q hq];rw[kx]at Bd⊢;exact⟨hk.sz,hk.len,hk.shape Bd⟩
 ·obtain⟨c1,c2,c3⟩:=rO hc;rcases kind b (by rw[c1];decide)with rfl|rfl
  ·rw[at0 q hq];rw[k0]at c3;refine⟨v,?_,(aF (Ix c3)).2 rfl⟩;have e:W.cell? ⟨0,0+o,none⟩=C[0+o]?:=by unfold au.cell?;simp[h0]
   show W.cell? ⟨0,0+o,none⟩=some v
   rw[e,Nat.zero_add];exact hv o v c3
  ·rw[ZL q hq];rw[kx]at c1 c3;obtain⟨h1,h2⟩:=hk.lj c1 o v c3;exact⟨v,h2,(aF h1).2 rfl⟩
 ·have hb:13<=b:=hb;rcases mz b q hq with⟨h,_⟩|⟨h,_⟩<;>omega
 ·rcases Mj b with h|h<;>rw[h]at FE<;>cases FE
 ·rcases Mj b with h|h<;>rw[h]at FE<;>cases FE
 ·rcases kind b Bd with rfl|rfl<;>rcases kind b' adt with rfl|rfl
  ·exact absurd rfl dH
  ·rw[at0 q hq]at uo⊢;rw[ZL q' xS]at uo⊢;rw[kx]at adt⊢;have h1:=hk.kind.resolve_left adt;refine⟨by rw[k0],h1,ae4 h1 uo.symm⟩
  ·rw[ZL q hq]at uo⊢;rw[at0 q' xS]at uo⊢;rw[kx]at Bd⊢;have h1:=hk.kind.resolve_left Bd;refine⟨h1,by rw[k0],?_⟩;rcases ae4 h1 uo with h|h|h|h
   ·exact .inr (.inl h)
   ·exact .inl h
   ·exact .inr (.inr (.inr h))
   ·exact .inr (.inr (.inl h))
  ·exact absurd rfl dH
 ·rcases mz b q hq with⟨_,rfl⟩|⟨h,rfl⟩
  ·exact hp
  ·show b<W.heap.size
   omega
 ·rcases kind b (by rw[Bd];decide)with rfl|rfl
  ·rw[at0 q hq]
  ·rw[kx,hk.pos]at iL;cases iL
 ·rintro⟨b',q,h1,_,_,_,_,h5⟩;rcases h5 with h5|h5
  ·have h5:13<=b':=h5;rcases mz b' q h1 with⟨h,_⟩|⟨h,_⟩<;>omega
  ·cases h5
 ·rintro⟨b',q,h1,_,h3,_⟩;rcases Mj b' with h|h<;>rw[h]at h3<;>rcases h3 with h3|h3<;>cases h3
 ·rw[globals_size]at hg;refine⟨⟨g,0,if g=0 then cJ.length else 0,0⟩,?_,rfl,rfl⟩;unfold ρx;rw[bS aj];unfold ρ0;rw[bC hg]
 ·have hb:13<=b:=hb;rcases mz b q hq with⟨h,_⟩|⟨h,_⟩<;>omega
theorem T7 (k:dJ):Calm (Cj k):=⟨⟨rfl,rfl,ai _,ai _,ai _,fun s h=>by cases h⟩,rfl,rfl,rfl,rfl⟩
theorem T6 (k:dJ):Wl (Cj k):=by
 have k0:(Cj k).blk 0={kind:=1,cs:=cJ}:=by rw[nB,bS eS,bC rfl]
 exact⟨by show 0<13;decide,by rw[k0],by rw[k0],by rw[k0];kernel_rfl,rfl⟩
def aeE (W:au)(xs:List Int)(v:ae):Prop:=(∀x∈xs,FC x)/\(v= .slice none 0 0/\xs=[]\/∃c o cap,v= .slice (some ⟨c,o,none⟩) xs.length cap/\xs.length<=cap/\cap<cD/\c<W.heap.size/\(∀i,i<cap->∃z:Int,W.cell? ⟨c,o+i,none⟩=some (vI z))/\∀i (h:i<xs.length),W.cell? ⟨c,o+i,none⟩=some (vI xs[i]))
theorem PV {W:au}(iW:12<=W.heap.size){C:Array ae}{ty:aM}{fr:Nat×Nat}(h0:W.heap[0]?=some (.cells C ty fr))(hC:cJ.length<=C.size)(hv:∀(o:Nat) v,cJ[o]?=some (some v)->C[o]?=some v){xs:List Int}{v:ae}(ha:aeE W xs v):
  ∃(k:dJ) (ρ:dh) (xv:ae),k.kind<=1/\cU ab (Ya W) W .idle ρ (Cj k) W/\Wf (Cj k)/\aQ ρ xv v/\vA (fun b=>b=12) xs (Cj k) xv:=by
 obtain⟨ky,⟨rfl,rfl⟩|⟨c,o,cap,rfl,hl,mM,hc,hz,hx⟩⟩:=ha
 ·obtain⟨H,w⟩:=tM iW h0 hC hv (k:={}) (p:=⟨0,0,0,0⟩) (by show 0<W.heap.size;omega) ⟨rfl,⟨fun x hx=>(by cases hx),eS⟩,rfl,.inl rfl,rfl,ai _,lQ,lQ,lQ⟩;exact⟨_,_,_,Nat.zero_le _,H,w,(aF (v:= .slice none 0 0) rfl).2 rfl,.inl ⟨rfl,_,_,rfl⟩⟩
 ·rcases Nat.eq_zero_or_pos xs.length with hn|hn
  ·obtain⟨H,w⟩:=tM iW h0 hC hv (k:={}) (p:=⟨c,o,0,0⟩) hc ⟨rfl,⟨fun x hx=>(by cases hx),eS⟩,rfl,.inl rfl,rfl,ai _,lQ,lQ,lQ⟩;refine⟨_,_,.slice (some ⟨12,0,none⟩) 0 cap,Nat.zero_le _,H,w,⟨1,⟨c,o,0,0⟩,cap,rfl,rfl,by rw[hn];rfl,?_⟩,.inl ⟨List.length_eq_zero_iff.1 hn,_,_,rfl⟩⟩;rw[bS aj]
  ·have fG:∃e n,W.shape? c=some (e,n)/\o+cap<=n:=by
    obtain⟨z,h⟩:=hz (cap-1) aj;unfold au.cell? at h;unfold au.shape?;cases hh:W.heap[c]? with
    |none=>simp[hh]at h
    |some ob=>
     cases ob with
     |cells A t f=>
      simp only[hh]at h;refine⟨t,A.size,rfl,?_⟩;have :o+(cap-1)<A.size:=by
       rcases Nat.lt_or_ge (o+(cap-1)) A.size with h'|h'
       ·exact h'
       ·simp[h']at h
      omega
     |_=>simp[hh]at h
   obtain⟨H,w⟩:=tM iW h0 hC hv (k:={kind:=1,sz:=1,cs:=xs.map fun x=>some (vI x)}) (p:=⟨c,o,cap,1⟩) hc ⟨rfl,⟨fun x hx=>by
     obtain⟨y,_,rfl⟩:=List.mem_map.1 hx;exact fun h=>(by cases h),af rfl⟩,rfl,.inr rfl,rfl,by simpa using hl,fun _=>fG,fun _ i u hu=>by
     rw[List.getElem?_map]at hu;obtain⟨y,hy,e⟩:=aC.1 hu;cases e;obtain⟨hi,rfl⟩:=List.getElem?_eq_some_iff.1 hy;exact⟨rfl,hx i hi⟩,fun _ hc0=>by
     have hc0:c=0:=hc0;subst hc0;rcases Nat.lt_or_ge o cJ.length with h|h
     ·exfalso
      obtain⟨s,hs⟩:=PW h;have e1:=hv _ _ hs;have e2:=hx 0 hn;have e:W.cell? ⟨0,o+0,none⟩=C[o+0]?:=by unfold au.cell?;simp[h0]
      rw[e,Nat.add_zero,e1]at e2;cases e2
     ·exact h⟩
   have yE:Obj (Cj {kind:=1,sz:=1,cs:=xs.map fun x=>some (vI x)}) 12 1 (xs.map vI):=by
    have kx:∀k,(Cj k).blk 12=k:=fun k=>by rw[nB,bC rfl]
    exact⟨by show 12<13;decide,by rw[kx],by rw[kx],by rw[kx,List.map_map];rfl,rfl⟩
   refine⟨_,_,.slice (some ⟨12,0,none⟩) xs.length cD,ai _,H,w,⟨1,⟨c,o,cap,1⟩,cap,rfl,rfl,rfl,?_⟩,.inr ⟨xs.map vI,⟨de,.inr ⟨12,cD,rfl,yE,.inl rfl⟩⟩,fun b o n c e=>by cases e;rfl,?_⟩⟩
   ·rw[bC rfl];exact⟨hl,by show 0+cap*1<=cap;omega⟩
   ·have key:∀l:List Int,cA (fun x u=>(jq vI).R (fun b=>b=12) x (Cj {kind:=1,sz:=1,cs:=xs.map fun x=>some (vI x)}) u/\okV 1 u) l (l.map vI):=by
     intro l
     induction l with
     |nil=>exact rfl
     |cons x l ih=>exact⟨vI x,l.map vI,rfl,⟨rfl,⟨rfl,by simp[ae.cells,ae.oneCell']⟩⟩,ih⟩
    exact key xs
end Go.AM
namespace Go.AM
set_option maxRecDepth 1000000
open Go Go.Conc Go.ConcM Go.Proofs Go.Proofs.YtgfppohfgconeaaGreatDoor Go.ChangeShapes
theorem Ys {a b:Nat}(ha:a<12)(hb:b<12):(GD a b).args=[.string ⟨(ahe a b).toArray⟩]:=by
 have h:((List.range 12).all fun a=>j3 (dg a) (jN a))=true:=aY;have ea:=ly (aB.1 h a (List.mem_range.2 ha));have eb:=ly (aB.1 h b (List.mem_range.2 hb))
 show[ae.string ⟨(_++dg a++[44,32]++dg b++[41]:List UInt8).toArray⟩]=_
 rw[ea,eb];rfl
theorem acI {k:dJ}(hk:k.kind<=1):Gl (Cj k):=by
 refine⟨T6 k,by show 0<13;decide,by show 0<13;decide,ai _,by show 12<=13;decide,fun b hb=>?_⟩;rw[nB]
 split
 ·exact hk
 ·split
  ·exact ai _
  ·exact Nat.zero_le _
section
variable {H:Type}{enc:aM×ae->H}
theorem V2 {W:au}{rr:Reach}{b0:Nat}{v:ae}{d:DataW H}{p:List MemPlace}(AN:ae.okWide ab W rr b0 22 v)(t:DataW.Trod enc ab W 0 (fun _=>true) true 22 v d p):
  ∃xs,aeE W xs v/\∀w':au,(∀i o,i<W.heap.size->w'.cell? ⟨i,o,none⟩=W.cell? ⟨i,o,none⟩)->∃p',DataW.Trod enc ab w' 0 (fun b=>decide (b<W.heap.size)) true 22 v d p':=by
 have u22:ab.underlying 22=some (.slice 3):=aY;have u3:ab.underlying 3=some (.int .i64):=Tryz.underlying3;have hc3:ab.cellsOf 3=1:=aY;obtain⟨a,len,cap,rfl⟩:=Go.WideShapes.okWide_slice u22 AN;obtain⟨fuel,ht⟩:=t;rcases open_ints u22 u3 hc3 ht with⟨e1,e2⟩|⟨a',ag7,gK,zs,e1,_,hl,hm,hz,e2,lF,hw⟩
 ·have e1:[ae.slice a len cap]=[.slice none 0 0]:=e1;cases e1;cases e2;exact⟨[],⟨fun x hx=>(by cases hx),.inl ⟨rfl,rfl⟩⟩,fun w' _=>⟨[],1,by
   show DataW.trod enc ab w' 0 _ true 1 22 [.slice none 0 0]=_
   rw[DataW.trod_step];unfold DataW.trodStep;simp only[u22]⟩⟩
 ·have e1:[ae.slice a len cap]=[.slice (some a') ag7 gK]:=e1;cases e1;have hz:zs.length=cap:=by simpa using hz
  have aay:Cell.ok ab W rr b0 22 (.slice (some a') len cap):=by
   simp only[ae.okWide,u22,Cell.okWide]at AN;exact AN
  obtain⟨c,o,sp⟩:=a';have fG:sp=none/\c<W.heap.size:=by
   simp only[Cell.ok,u22]at aay;obtain⟨_,_,_,h1,row,cells,h2,_⟩:=aay;refine⟨h1,?_⟩;unfold au.shape? at h2;rcases Nat.lt_or_ge c W.heap.size with h|h
   ·exact h
   ·simp[h]at h2
  obtain⟨rfl,gO⟩:=fG;have Vf:∀i (h:i<zs.length),W.cell? ⟨c,o+i,none⟩=some (vI zs[i]):=fun i h=>by
   have :=lF i h;rw[Go.WideShapes.add_plain]at this;rw[this,List.getD,List.getElem?_eq_getElem h];rfl
  have hlen:(zs.take len).length=len:=by rw[List.length_take];omega
  refine⟨zs.take len,⟨fun x hx=>Lb (hw x (List.mem_of_mem_take hx)),.inr ⟨c,o,cap,by rw[hlen],by rw[hlen];exact hl,?_,gO,fun i hi=>⟨_,Vf i aj⟩,fun i hi=>?_⟩⟩,fun w' hk=>?_⟩
  ·have :maxLen<cD:=eS;omega
  ·rw[List.getElem_take];exact Vf i (by rw[hlen]at hi;omega)
  ·cases e2;refine⟨_,2,shut_ints' 0 u22 u3 hc3 (Nat.zero_le _) hl hm (by simp[gO,hz]) (fun i hi=>?_) hw⟩;rw[hk _ _ gO];have :=lF i hi;rwa[Go.WideShapes.add_plain]at this
end
end Go.AM
namespace Go.AM
set_option maxRecDepth 1000000
open Go Go.Conc Go.Proofs
theorem akg (a:Int):Qa [0,a,0,0]=a:=by
 unfold Qa;simp only[ne_eq,not_true_eq_false,if_false];unfold Qa
 split
 ·rfl
 ·rename_i h;have h:a=0:=by simpa using h
  rw[h];rfl
theorem Bh (a b:Nat):kB (cT a) (cT b)=lL a b:=by
 have e:kB (cT a) (cT b)=Qa [0,lL a b,0,0]:=aY;rw[e,akg]
theorem aip (a b:Nat):lL a b=0↔a=b:=by
 unfold lL
 split
 ·exact⟨fun h=>(by cases h),fun h=>by omega⟩
 ·split
  ·exact⟨fun h=>(by cases h),fun h=>by omega⟩
  ·exact⟨fun _=>by omega,fun _=>rfl⟩
theorem alQ (a b:Nat):lL a b<0↔a<b:=by
 unfold lL
 split
 ·exact⟨fun h=>by omega,fun h=>by decide⟩
 ·split
  ·exact⟨fun h=>absurd h eS,fun h=>by omega⟩
  ·exact⟨fun h=>absurd h eS,fun h=>by omega⟩
theorem alP (a b:Nat):0<lL a b↔b<a:=by
 unfold lL
 split
 ·exact⟨fun h=>absurd h eS,fun h=>by omega⟩
 ·split
  ·exact⟨fun h=>by omega,fun h=>by decide⟩
  ·exact⟨fun h=>absurd h eS,fun h=>by omega⟩
theorem Ni (a b:Nat):sM 11 (cT a) (cT b)=(cd (decide (a=b)),0):=by
 show(cd (dd (kB (cT a) (cT b)) 0),0)=_
 rw[Bh,uA,decide_eq_decide.2 (aip a b)]
theorem ad9 (a b:Nat):sM 12 (cT a) (cT b)=(cd (decide (a≠b)),0):=by
 show(cd (tB (kB (cT a) (cT b)) 0),0)=_
 rw[Bh,tY,decide_eq_decide.2 (not_congr (aip a b))]
theorem aea (a b:Nat):sM 13 (cT a) (cT b)=(cd (decide (a<b)),0):=by
 show(cd (gB (kB (cT a) (cT b)) 0),0)=_
 rw[Bh,fp,decide_eq_decide.2 (alQ a b)]
theorem aeb (a b:Nat):sM 15 (cT a) (cT b)=(cd (decide (b<a)),0):=by
 show(cd (qE (kB (cT a) (cT b)) 0),0)=_
 rw[Bh,zr,decide_eq_decide.2 (alP a b)]
theorem ZK (p q:Bool):sM 23 (cd p) (cd q)=(cd (p&&q),0):=by cases p<;>cases q<;>rfl
theorem ad8 (p q:Bool):sM 37 (cd p) (cd q)=(cd (p||q),0):=by cases p<;>cases q<;>rfl
theorem VZ {a:Nat}(h:a<90000):sM 17 (cT a) (cT 0)=(cT a,0):=by
 have h1:fg a 0=a:=by rw[qK ⟨aj,aj⟩];omega
 have h2:PR a 0=((a:Int),true):=by
  unfold PR;rw[h1,zr,w9 aj];rfl
 show mj 17 a 0=_
 unfold mj;rw[show Ds 17 a 0=PR a 0 from rfl,h2];rfl
theorem Qm (p:Bool):vm (cd p)=cd (!p):=by cases p<;>rfl
theorem Sp (p:Bool):(cd p).beq (cd true)=p:=by cases p<;>rfl
section
variable {cv:Nat->Int->Int->V}{x y:X}{u v:V}
theorem su {op:Int}(h1:eC cv x=(u,0))(h2:eC cv y=(v,0)):eC cv (.bin op x y)=sM op u v:=by
 show(if _ then _ else if _ then _ else _)=_
 rw[h1,h2];rfl
theorem agX (h1:eC cv x=(u,0)):eC cv (.no x)=(vm u,0):=by
 show(if _ then _ else _)=_
 rw[h1];rfl
end
theorem Ce {α:Type}{st:Nat->List α}{x:α}:∀(n i:Nat) (acc:List α),x∈gA st n i acc↔x∈acc\/∃k,i<=k/\k<i+n/\x∈st k
 |0,i,acc=>⟨.inl,fun h=>h.elim id fun⟨k,h1,h2,_⟩=>by omega⟩
 |n+1,i,acc=>by
  unfold gA;rw[Ce n (i+1),List.mem_append]
  constructor
  ·rintro((h|h)|⟨k,h1,h2,h3⟩)
   ·exact .inl h
   ·exact .inr ⟨i,aj,aj,h⟩
   ·exact .inr ⟨k,aj,aj,h3⟩
  ·rintro(h|⟨k,h1,h2,h3⟩)
   ·exact .inl (.inl h)
   ·by_cases hk:k=i
    ·exact .inl (.inr (hk▸h3))
    ·exact .inr ⟨k,aj,aj,h3⟩
def sT (i j:Nat):List Nat:=(eU.set 0 i).set 1 j
section
variable {T:Nat->Option (List (List V))}{p0 p1 p:Nat}{R0 R1 R:List (List V)}{on wh:Option X}{it:X}
theorem HF {i j c:Nat}{u:V}{row:List V}(h:T p=some R)(hi:R[i]?=some row)(hc:row[c]?=some u):kj T (sT i j) p 0 c=u:=by
 unfold kj;rw[h];simp only[];rw[bC ⟨aj,aj⟩]
 show(match some i with |none=>ui|some x=>_)=u
 simp only[hi]
 show(match row[c]? with |none=>ui|some u=>u)=u
 rw[hc]
theorem MY {i j c:Nat}{u:V}{row:List V}(h:T p=some R)(hj:R[j]?=some row)(hc:row[c]?=some u):kj T (sT i j) p 1 c=u:=by
 unfold kj;rw[h];simp only[];rw[bC ⟨aj,aj⟩]
 show(match some j with |none=>ui|some x=>_)=u
 simp only[hj]
 show(match row[c]? with |none=>ui|some u=>u)=u
 rw[hc]
theorem Uz (h:T p0=some R0):gA (AW T none [eU] 0 R0.length) (1*R0.length) 0 []=(List.range R0.length).map fun k=>eU.set 0 k:=by
 have :=FA (p:=p0) h;unfold gf gf at this;rw[h]at this;exact this
theorem Uy (h0:T p0=some R0)(h1:T p1=some R1):gf T [(p0,none),(p1,on)] 0 [eU]=gA (AW T on ((List.range R0.length).map fun k=>eU.set 0 k) 1 R1.length) (R0.length*R1.length) 0 []:=by
 unfold gf gf gf;rw[h0,h1];simp only[Option.getD_some,List.length_singleton];rw[Uz h0];simp
theorem aiM {k:Nat}(hk:k<R0.length*R1.length):AW T on ((List.range R0.length).map fun k=>eU.set 0 k) 1 R1.length k=if RB T on (sT (k / R1.length) (k%R1.length))=true then[sT (k / R1.length) (k%R1.length)]else[]:=by
 have h:k / R1.length<R0.length:=Nat.div_lt_of_lt_mul (by rw[Nat.mul_comm];exact hk);unfold AW;rw[getElem!_pos _ _ (by simpa using h)];simp only[List.getElem_map,List.getElem_range];rfl
theorem uZ (h0:T p0=some R0)(h1:T p1=some R1){r:List Nat}:r∈gf T [(p0,none),(p1,on)] 0 [eU]↔∃i j,i<R0.length/\j<R1.length/\r=sT i j/\RB T on (sT i j)=true:=by
 rw[Uy h0 h1,Ce]
 constructor
 ·rintro(h|⟨k,_,hk,h⟩)
  ·cases h
  ·rw[Nat.zero_add]at hk;rw[aiM hk]at h;have hp:0<R1.length:=Nat.pos_of_ne_zero fun e=>by rw[e,Nat.mul_zero]at hk;omega
   split at h
   ·rename_i hb;exact⟨_,_,Nat.div_lt_of_lt_mul (by rw[Nat.mul_comm];exact hk),Nat.mod_lt _ hp,List.mem_singleton.1 h,hb⟩
   ·cases h
 ·rintro⟨i,j,hi,hj,rfl,hb⟩;have hk:i*R1.length+j<R0.length*R1.length:=by
   calc i*R1.length+j<i*R1.length+R1.length:=aj
    _=(i+1)*R1.length:=by rw[Nat.add_mul,Nat.one_mul]
    _<=R0.length*R1.length:=Nat.mul_le_mul_right _ hi
  refine .inr ⟨i*R1.length+j,Nat.zero_le _,aj,?_⟩;have hp:0<R1.length:=aj;have e1:(i*R1.length+j) / R1.length=i:=by rw[Nat.mul_comm,Nat.mul_add_div hp,Nat.div_eq_of_lt hj];rfl
  have e2:(i*R1.length+j)%R1.length=j:=by rw[Nat.mul_comm,Nat.mul_add_mod,Nat.mod_eq_of_lt hj]
  rw[aiM hk,e1,e2,bC hb];exact .head _
theorem Qx (h0:T p0=some R0)(h1:T p1=some R1):(gf T [(p0,none),(p1,on)] 0 [eU]).length<=R0.length*R1.length:=by
 rw[Uy h0 h1];have :=ry (st:=AW T on ((List.range R0.length).map fun k=>eU.set 0 k) 1 R1.length) (fun i=>by unfold AW;split<;>simp) (R0.length*R1.length) 0 [];simpa using this
theorem Qw {rows:List (List Nat)}:(iq T wh rows).length<=rows.length:=by
 unfold iq
 split
 ·exact ai _
 ·rename_i x;have :=ry (st:=PM T x rows) (fun i=>by unfold PM;split<;>simp) rows.length 0 [];simpa using this
theorem y0 {rows:List (List Nat)}{r:List Nat}:r∈iq T wh rows↔r∈rows/\RB T wh r=true:=by
 unfold iq
 split
 ·exact⟨fun h=>⟨h,rfl⟩,fun h=>h.1⟩
 ·rename_i x;rw[Ce]
  constructor
  ·rintro(h|⟨k,_,hk,h⟩)
   ·cases h
   ·rw[Nat.zero_add]at hk;unfold PM at h;rw[getElem!_pos rows k hk]at h
    split at h
    ·rename_i hb;rw[List.mem_singleton.1 h];exact⟨List.getElem_mem hk,hb⟩
    ·cases h
  ·rintro⟨h,hb⟩;obtain⟨k,hk,rfl⟩:=List.getElem_of_mem h;refine .inr ⟨k,Nat.zero_le _,aj,?_⟩;unfold PM;rw[getElem!_pos rows k hk,bC hb];exact .head _
theorem Mg {cv:Nat->Int->Int->V}(h:(eC cv it).2=0):oP cv [it] []=([(eC cv it).1],0):=by
 unfold oP;rw[bS (by rw[h];simp)];rfl
theorem GB (h0:T p0=some R0)(h1:T p1=some R1)(hn:R0.length*R1.length<=1000)(hn0:R0.length<=1000)(Jz:∀i j,i<R0.length->j<R1.length->Em T on (sT i j))(hwh:∀i j,i<R0.length->j<R1.length->Em T wh (sT i j))(Y0:∀i j,i<R0.length->j<R1.length->Tz (kj T (sT i j)) it/\(eC (kj T (sT i j)) it).2=0):oE T ([(p0,none),(p1,on)],wh,[it]):=by
 have hj:=Qx (on:=on) h0 h1;refine⟨af rfl,⟨⟨_,h0⟩,?_,fun _ _ _ _=>trivial,⟨_,h1⟩,?_,fun r hr k hk=>?_,trivial⟩,(show(gf T [(p0,none),(p1,on)] 0 [eU]).length<9000 by omega),fun _ r hr=>?_,cp Qw (show(gf T [(p0,none),(p1,on)] 0 [eU]).length<=1000 by omega),fun r hr=>?_,af rfl⟩
 ·rw[h0];simp only[Option.getD_some,List.length_singleton];omega
 ·rw[h0,h1];simp only[Option.getD_some,List.length_singleton];rw[Uz h0];simp;omega
 ·rw[h0]at hr;simp only[Option.getD_some,List.length_singleton]at hr;rw[Uz h0]at hr;obtain⟨i,hi,rfl⟩:=List.mem_map.1 hr;rw[h1]at hk;exact Jz i k (List.mem_range.1 hi) hk
 ·obtain⟨i,j,hi,hj,rfl,_⟩:=(uZ h0 h1).1 hr;exact hwh i j hi hj
 ·obtain⟨i,j,hi,hj,rfl,_⟩:=(uZ h0 h1).1 (y0.1 hr).1;obtain⟨h2,h3⟩:=Y0 i j hi hj;exact⟨fun x hx=>by rw[List.mem_singleton.1 hx];exact h2,by rw[Mg h3]⟩
theorem xE (h0:T p0=some R0)(h1:T p1=some R1)(Y0:∀i j,i<R0.length->j<R1.length->(eC (kj T (sT i j)) it).2=0){y:List V}:y∈eY T ([(p0,none),(p1,on)],wh,[it])↔∃i j,i<R0.length/\j<R1.length/\RB T on (sT i j)=true/\RB T wh (sT i j)=true/\y=[(eC (kj T (sT i j)) it).1]:=by
 unfold eY;rw[Cz,List.mem_map]
 constructor
 ·rintro⟨r,hr,rfl⟩;obtain⟨h2,h3⟩:=y0.1 hr;obtain⟨i,j,hi,hj,rfl,hb⟩:=(uZ h0 h1).1 h2;exact⟨i,j,hi,hj,hb,h3,by rw[Mg (Y0 i j hi hj)]⟩
 ·rintro⟨i,j,hi,hj,hb,hw,rfl⟩;exact⟨sT i j,y0.2 ⟨(uZ h0 h1).2 ⟨i,j,hi,hj,rfl,hb⟩,hw⟩,by rw[Mg (Y0 i j hi hj)]⟩
end
end Go.AM
namespace Go.AM
set_option maxRecDepth 1000000
open Go Go.Conc Go.Proofs
def vp (x:V):List ae:=x.cells++(List.replicate 15 cV.cells).flatten
def nN (x:V):ae:= .agg (vp x).toArray
instance:DecidableEq V:=fun x y=>decidable_of_iff _ V.beq_iff
def z64:List ae:=(List.replicate 16 cV.cells).flatten
theorem Si:ab.underlying 437=some (.array 16 49):=aY
theorem aaT (x:V)(e:Bool):(Instr.checkKey e 10000 437 (nN x)).aH ab=some ():=by cases e<;>kernel_rfl
def Rp (P:aD)(d e n:Nat)(xs ys:Array ae):List Nat->Option Bool
 | []=>some true
 |i::l=>((part e xs (i*n)).aH P).bind fun a=>((part e ys (i*n)).aH P).bind fun b=>((Op.equalIn d e a b).aH P).bind fun c=>if c then Rp P d e n xs ys l else some false
theorem yV {P:aD}(d t len e n:Nat)(xs ys:Array ae)(ht:P.underlying t=some (.array len e))(hz:(sizeOf e).aH P=some n):
  (Op.equalIn (d+1) t (.agg xs) (.agg ys)).aH P=Rp P d e n xs ys (List.range' 0 len):=by
 simp only[Op.equalIn,gY,eP ht,a9,hz,Std.Legacy.Range.forIn_eq_forIn_range',Std.Legacy.Range.size];simp only[Nat.sub_zero,Nat.add_sub_cancel,Nat.div_one];generalize List.range' 0 len=l
 induction l with
 |nil=>simp[Rp,kT]
 |cons i l ih=>
  simp only[List.forIn_cons,Rp,gY,LN];cases(part e xs (i*n)).aH P with
  |none=>rfl
  |some a=>
   simp only[a9];cases(part e ys (i*n)).aH P with
   |none=>rfl
   |some b=>
    simp only[a9];cases(Op.equalIn d e a b).aH P with
    |none=>rfl
    |some r=>
     cases r
     ·simp only[a9,Bool.not_false,if_true,kT];rfl
     ·simp only[a9,Bool.not_true,bU,if_false,kT];exact ih
theorem aih (x y:V):(Op.equalIn 9999 49 x.val y.val).aH ab=some (x.beq y):=by
 rw[show(9999:Nat)=9998+1 from rfl,qw 9998 49 _ _ Z1 NL,tS (J1 x.k x.n x.s x.b y.k y.n y.s y.b)];simp only[List.foldr_cons,List.foldr_nil,if_true,a9,show(9998:Nat)=9997+1 from rfl,tR 9997 3 _ _ _ _ ae0,qx 9997 9 _ _ Sg,sV 9997 4 _ _ aeZ];unfold V.beq;cases x.k==y.k<;>cases x.n==y.n<;>cases x.s==y.s<;>cases x.b==y.b<;>rfl
theorem aha (x:V):(part 49 (vp x).toArray (0*4)).aH ab=some x.val:=aY
theorem aky (x y:V):Rp ab 9999 49 4 (vp x).toArray (vp y).toArray [1,2,3,4,5,6,7,8,9,10,11,12,13,14,15]=some true:=aY
theorem aif (x y:V):(Op.equal 437 (nN x) (nN y)).aH ab=some (x.beq y):=by
 show((Op.equalIn (9999+1) 437 (.agg (vp x).toArray) (.agg (vp y).toArray)).aH ab)=_
 rw[yV 9999 437 16 49 4 _ _ Si aY]
 show(((part 49 (vp x).toArray (0*4)).aH ab).bind fun a=>((part 49 (vp y).toArray (0*4)).aH ab).bind fun b=>((Op.equalIn 9999 49 a b).aH ab).bind fun c=>if c then Rp ab 9999 49 4 (vp x).toArray (vp y).toArray [1,2,3,4,5,6,7,8,9,10,11,12,13,14,15]else some false)=_
 rw[aha,aha,a9,a9,aih,a9,aky];cases x.beq y<;>rfl
theorem LO (x:V):plain (nN x)=true:=aY
theorem sbK (x:V):Instr.sameBits 10000 (nN x) (nN x)=true:=by
 unfold nN Instr.sameBits;simp only[beq_self_eq_true,Bool.true_and];have :∀l:List ae,(∀v∈l,Instr.sameBits 9999 v v=true)->((l.zip l).all fun(x,y)=>Instr.sameBits 9999 x y)=true:=by
  intro l h
  induction l with
  |nil=>rfl
  |cons a l ih=>simp only[List.zip_cons_cons,List.all_cons,h a (.head _),Bool.true_and];exact ih fun v hv=>h v (.tail _ hv)
 refine this _ fun v hv=>?_
 have hv:v∈vp x:=hv;simp only[vp,V.cells,cV,List.mem_append,aI,List.not_mem_nil,or_false,List.mem_flatten,List.mem_replicate,ne_eq]at hv;rcases hv with(rfl|rfl|rfl|rfl)|⟨l,⟨_,rfl⟩,hv⟩
 ·simp[Instr.sameBits]
 ·simp[Instr.sameBits]
 ·simp[Instr.sameBits,bytes_beq]
 ·simp[Instr.sameBits]
 ·simp only[aI,List.not_mem_nil,or_false]at hv;rcases hv with rfl|rfl|rfl|rfl<;>simp[Instr.sameBits,bytes_beq]
theorem Sj:ab.underlying 347=some (.map 437 59):=aY
theorem aa8:gL ab 59=some (.agg #[]):=aY
theorem abq:ep ab 49=some 4:=aY
def yW (x:V):List V->Nat->Option Nat
 | [],_=>none
 |y::l,i=>if x.beq y=true then some i else yW x l (i+1)
theorem xA {x:V}:∀{l:List V}{i:Nat},(yW x l i).isSome=true↔x∈l
 | [],i=>by simp[yW]
 |y::l,i=>by
  unfold yW
  by_cases h:x.beq y=true
  ·rw[bC h,V.beq_iff.1 h];simp
  ·rw[bS h,xA (l:=l)];have :x≠y:=fun e=>h (V.beq_iff.2 e)
   simp[this]
theorem N3 {x:V}:∀{l:List V}{i j:Nat},yW x l i=some j->i<=j/\l[j-i]?=some x
 | [],i,j,h=>by cases h
 |y::l,i,j,h=>by
  unfold yW at h
  split at h
  ·rename_i hb;cases h;rw[Nat.sub_self,V.beq_iff.1 hb];exact⟨ai _,rfl⟩
  ·obtain⟨h1,h2⟩:=N3 h;refine⟨aj,?_⟩;rw[show j-i=(j-(i+1))+1 by omega];exact h2
structure oD (m:Mem)(b:Nat)(l:List V):Prop where
 lt:b<m.next
 kind:(m.blk b).kind=2
 es:(m.blk b).es.toList.map (fun e=>(e.key,e.val))=l.map fun x=>(nN x,.agg #[])
 yL:aL m.bl b=false
 home:m.home<=b
theorem oD.ext{m m':Mem}{b:Nat}{l:List V}{S:Nat->Prop}(h:oD m b l)(k:Kp m m' S)(hs:¬S b):oD m' b l:=by
 have e:=k.blk b h.lt hs;exact⟨aW h.lt k.next,by rw[e];exact h.kind,by rw[e];exact h.es,by rw[k.bl];exact h.yL,by rw[k.home];exact h.home⟩
theorem JZ (x:V):∀{es:List MapEntry}{l:List V} (i:Nat),es.map (fun e=>(e.key,e.val))=l.map (fun x=>(nN x,.agg #[]))->Ap ab 437 (nN x) es i=some ((yW x l i).map fun j=>(j,.agg #[]))
 | [],[],i,_=>rfl
 | [],y::l,_,h=>by simp at h
 |e::es,[],_,h=>by simp at h
 |e::es,y::l,i,h=>by
  simp only[List.map_cons,List.cons.injEq,ay]at h;unfold Ap yW;rw[h.1.1,LO,aif];cases hb:x.beq y with
  |true=>simp[h.1.2]
  |false=>simp only[if_true,bU,if_false];exact JZ x (i+1) h.2
section
variable {K:gS}{m:Mem}
theorem oD.find{b:Nat}{l:List V}(h:oD m b l)(x:V):y8 ab 437 b (nN x) m=some ((yW x l 0).map fun j=>(j,.agg #[])):=by
 unfold y8;have h1:m.bg b=true:=by
  unfold Mem.bg;rw[h.yL];simp[h.home]
 rw[bC (by rw[h.kind,h1,LO,Si,aaT,aaT];rfl)];exact JZ x 0 h.es
theorem oD.look{b:Nat}{l:List V}(h:oD m b l)(x:V):oL ab 347 (.map (some b)) (nN x) true m=some (.tuple #[.agg #[],.bool (yW x l 0).isSome],m):=by
 unfold oL gH;have hf:=h.find x;unfold nN at hf⊢;simp only[Sj];unfold sA;rw[hf,aa8];cases yW x l 0<;>rfl
theorem oD.put{b:Nat}{l:List V}(h:oD m b l)(x:V):∃m',y7 ab 347 (.map (some b)) (nN x) (.agg #[]) m=some (undef,m')/\Kp m m' (fun y=>y=b)/\oD m' b (if x∈l then l else l++[x]):=by
 have hf:=h.find x;have hu:jf ab 347 (.map (some b)) (nN x) (.agg #[]) m=tZ ab 437 b (nN x) (.agg #[]) m:=by
  unfold jf nN;simp only[Sj]
 have key:∀k:dJ,k.kind=2->k.es.toList.map (fun e=>(e.key,e.val))=(if x∈l then l else l++[x]).map (fun x=>(nN x,.agg #[]))->tZ ab 437 b (nN x) (.agg #[]) m=some (m.a8 b k)->∃m',y7 ab 347 (.map (some b)) (nN x) (.agg #[]) m=some (undef,m')/\Kp m m' (fun y=>y=b)/\oD m' b (if x∈l then l else l++[x]):=by
  intro k hk he hm;refine⟨m.a8 b k,by unfold y7;rw[hu,hm],mQ,h.lt,?_,?_,h.yL,h.home⟩
  ·rw[Mem.dE,bC rfl];exact hk
  ·rw[Mem.dE,bC rfl];exact he
 cases hp:yW x l 0 with
 |none=>
  have hx:¬x∈l:=fun hx=>by have :=(xA (i:=0)).2 hx;rw[hp]at this;cases this
  rw[hp]at hf;refine key {m.blk b with es:=(m.blk b).es.push {key:=nN x,val:= .agg #[],born:=(m.blk b).clock},clock:=(m.blk b).clock+1} h.kind ?_ ?_
  ·rw[bS hx];simp[h.es]
  ·unfold tZ;simp only[hf,Option.map_none]
 |some j=>
  have hx:x∈l:=xA.1 (by rw[hp];rfl);obtain⟨_,hj⟩:=N3 hp;rw[Nat.sub_zero]at hj;rw[hp]at hf;have he:=congrArg (·[j]?) h.es;simp only[List.getElem?_map,hj,cN]at he;obtain⟨e,Y7,he2⟩:=aC.1 he;simp only[ay]at he2;refine key {m.blk b with es:=(m.blk b).es.modify j fun e=>{e with key:=nN x,val:= .agg #[]}} h.kind ?_ ?_
  ·rw[bC hx,Array.toList_modify,<-h.es];refine List.ext_getElem? fun i=>?_
   simp only[List.getElem?_map,List.getElem?_modify]
   by_cases hi:j=i
   ·subst hi;rw[Y7];simp[he2.1,he2.2]
   ·simp[hi]
  ·unfold tZ;simp only[hf,cN,Y7,he2.1,LO,sbK,Bool.and_self,if_true]
theorem aj6 (mb rb c bZ dG:Nat)(x:V)(b:Bool):Path 248 [.map (some mb),vL rb 0 1 c]
 [dN (z64.map some) bZ,
  .mem (nZ ab 437 (vP bZ 0) none none) (vL bZ 0 16 16),
  .mem (yi ab #[47,47] (vL bZ 0 16 16) (vL rb 0 1 c)) (vI 1),
  iR 64 bZ (nN x),
  .mem (oL ab 347 (.map (some mb)) (nN x) true) (.tuple #[.agg #[],.bool b]),
  dN [] dG,
  jK dG 0 [],
  iR 64 bZ (nN x),
  .mem (y7 ab 347 (.map (some mb)) (nN x) (.agg #[])) undef]
 (.bool (!b)):=fB
theorem amj (g:Gd m){mb rb c:Nat}{l:List V}{x:V}(h:oD m mb l)(hr:rQ m (vL rb 0 1 c) [x]):
  ∃m',Ev K 248 [.map (some mb),vL rb 0 1 c] m (.bool (!decide (x∈l))) m'/\Kp m m' (fun y=>y=mb)/\oD m' mb (if x∈l then l else l++[x]):=by
 have hml:=h.lt;obtain⟨β,jj⟩:∃b,b=m.next:=⟨_,rfl⟩;obtain⟨m1,e1,o1,k1,n1,_⟩:=aV g z64;rw[<-jj]at e1 o1;have g1:=g.ext k1;have e2:nZ ab 437 (vP β 0) none none m1=some (vL β 0 16 16,m1):=aY;have hf:=mP (hr.aR k1);obtain⟨m2,e3,o2,k2⟩:=kq (o:=0) x.cells o1 ((g.own k1 aj).may _ _) (af rfl) rfl;have e4:yi ab #[47,47] (vL β 0 16 16) (vL rb 0 1 c) m1=some (vI 1,m2):=by
  unfold Eb at e3
  split at e3
  ·rename_i m3 hm3;cases e3;unfold yi;simp only[show(#[47,47]:Array aM)[0]?=some 47 from rfl,a9,Z2,abq,Cv,show Nat.min 1 16=1 from rfl];rw[show kA m1 4 1 (vL rb 0 1 c)=some x.cells from hf.trans (by rfl),a9,hm3];rfl
  ·cases e3
 have n2:=k2.next;have kg:Kp m m2 fu:=k1.new k2 (N:=m.next) (ai _) fun b hb=>by omega
 have ok2:Obj m2 β 0 (vp x):=o2;have h2:=h.ext kg id;obtain⟨dG,akH⟩:∃b,b=m2.next:=⟨_,rfl⟩;obtain⟨m3,e5,o3,k3,n3,_⟩:=aV (g.ext kg) [];rw[<-akH]at e5 o3;have jG:=kg.aS k3;obtain⟨m4,e6,o4,k4⟩:=kq (o:=0) [] o3 ((g.own jG aj).may _ _) (ai _) rfl;have n4:=k4.next;have kr:Kp m m4 fu:=jG.new k4 (N:=m.next) (ai _) fun b hb=>by omega
 have ok4:Obj m4 β 0 (vp x):=(ok2.aR k3).ext k4 aj;obtain⟨m5,e7,k5,h5⟩:=(h.ext kr id).put x;have hb:(yW x l 0).isSome=decide (x∈l):=by rw[Bool.eq_iff_iff,xA,jQ]
 have e8:=h2.look x;rw[hb]at e8;exact⟨m5,aJ (aj6 mb rb c β dG x (decide (x∈l))) (.mem e1<| .mem e2<| .mem e4<| .mem (bW (vs:=vp x) ok2 rfl (af rfl))<| .mem e8<| .mem e5<| .mem e6<| .mem (bW (vs:=vp x) ok4 rfl (af rfl))<| .mem e7 .nil),kr.tA.trans k5 fun _ _ h=>h,h5⟩
end
end Go.AM
namespace Go.AM
set_option maxRecDepth 1000000
open Go Go.Conc Go.Proofs
theorem aft (cb d b4 n rc:Nat)(ra:Option Addr)(a w b fv ML:ae):gN 198 0 6 [0,1,2] [vP cb 0,.agg #[a,w,b],vP d 0]
 [dN [some a,some w,some b] b4,
  iR 3 b4 (.agg #[a,w,b]),
  .call 149 [.agg #[a,w,b],vP d 0] (.tuple #[.slice ra n rc,vI 0]),
  eE,
  .mem (aP cb 2) fv,
  .call 180 [fv] ML,
  .mem (gJ cb 2 ML) undef]
 .normal [0,28,29,30] [vP cb 0,.slice ra n rc,vI n,vI 0]:=jz
theorem afs (cb pr n rc i rb k c:Nat)(fv ML u1:ae):dX 198 [6] 0 99 [0,28,29,30] [vP cb 0,vL pr 0 n rc,vI n,vI i]
 (bP (gB i n) true:: .idx i n i:: .mem (aP pr (0+i*1)) (vL rb 0 k c):: .mem (aP cb 0) (.bool true)::(rp 8 (.bool true) true ([.mem (aP cb 2) fv,
  .mem (bh ab 29 1 [(0,(vL rb 0 k c))]) u1,
  .mem (cK ab #[29,29] fv u1) ML,
  .mem (gJ cb 2 ML) undef])))
 .normal [0,28,29,30] [vP cb 0,vL pr 0 n rc,vI n,vI (fg i 1)]:=jz
theorem afp (cb mb pr n rc i rb k c:Nat)(fv ML u1:ae):dX 198 [6] 0 99 [0,28,29,30] [vP cb 0,vL pr 0 n rc,vI n,vI i]
 (bP (gB i n) true:: .idx i n i:: .mem (aP pr (0+i*1)) (vL rb 0 k c):: .mem (aP cb 0) (.bool false)::(rp 4 (.bool false) false ([.mem (aP cb 1) (.map (some mb)),
  eE,
  eE,
  .call 248 [.map (some mb),vL rb 0 k c] (.bool true),
  eE,
  oZ,
  .mem (aP cb 2) fv,
  .mem (bh ab 29 1 [(0,(vL rb 0 k c))]) u1,
  .mem (cK ab #[29,29] fv u1) ML,
  .mem (gJ cb 2 ML) undef])))
 .normal [0,28,29,30] [vP cb 0,vL pr 0 n rc,vI n,vI (fg i 1)]:=jz
theorem afo (cb mb pr n rc i rb k c:Nat):dX 198 [6] 0 99 [0,28,29,30] [vP cb 0,vL pr 0 n rc,vI n,vI i]
 (bP (gB i n) true:: .idx i n i:: .mem (aP pr (0+i*1)) (vL rb 0 k c):: .mem (aP cb 0) (.bool false)::(rp 4 (.bool false) false ([.mem (aP cb 1) (.map (some mb)),
  eE,
  eE,
  .call 248 [.map (some mb),vL rb 0 k c] (.bool false),
  eE,
  eE])))
 .normal [0,28,29,30] [vP cb 0,vL pr 0 n rc,vI n,vI (fg i 1)]:=jz
theorem afq (cb n i:Nat):dX 198 [6] 0 99 [0,29,30] [vP cb 0,vI n,vI i]
 [bP (gB i n) false]
 (.exit 0) [0] [vP cb 0]:=jz
theorem afr (cb an ac fn fc gn gc:Nat)(aa fa ga:Option Addr):gN 198 7 99 [0] [vP cb 0]
 [.mem (aP cb 3) (.slice aa an ac),
  .mem (aP cb 2) (.slice fa fn fc),
  oY,
  .mem (cK ab #[29,29] (.slice aa an ac) (.slice fa fn fc)) (.slice ga gn gc),
  oY,
  .mem (gJ cb 3 (.slice ga gn gc)) undef,
  .mem (aP cb 3) (.slice ga gn gc),
  bP (qE gn 1000) false]
 .ret [6] [vI 0]:=jz
theorem agS:nQ 198 3 [6]=true:=aY
theorem Qe:(dZ (cI 198)).length<=99:=af aY
theorem A8:vl 198 [6]:=aY
def hdR (x:List V):V:=x.headD cV
def Lk (iT:Bool)(all acc:List (List V))(x:List V):List (List V):=if iT=false/\x∈all++acc then acc else acc++[x]
def od (iT:Bool)(all made:List (List V)):List (List V):=made.foldl (Lk iT all) []
structure sP (m0 m:Mem)(cb mb:Nat)(iT:Bool)(SB FO AO E:Nat->Prop)(fresh all sn:List (List V))(fv av:ae):Prop where
 ob:Obj m cb 0 [.bool iT,.map (some mb),fv,av]
 f:lP bH 1 FO E m fresh fv
 a:lP bH 1 AO E m all av
 fx:fresh≠[]->(aT bH 1).R (fun y=>FO y\/E y) fresh m fv
 ax:(aT bH 1).R (fun y=>AO y\/E y) all m av
 s:iT=false->oD m mb (sn.map hdR)
 one:iT=false->∀x∈sn,x.length=1
 cm:cb≠mb
 z:∀b,(b=cb\/b=mb\/FO b\/AO b\/E b)->¬SB b/\m0.next<=b/\b<m.next
 fo:∀b,FO b->b≠cb/\b≠mb/\¬AO b/\¬E b
 ao:∀b,AO b->b≠cb/\b≠mb/\¬E b
 e:∀b,E b->b≠cb/\b≠mb
section
variable {K:gS}{m0 m:Mem}{S SB FO AO E:Nat->Prop}{cb mb:Nat}{iT:Bool}{fresh all sn:List (List V)}{fv av:ae}
theorem sP.ext{m':Mem}(C:sP m0 m cb mb iT SB FO AO E fresh all sn fv av)(k:Kp m m' S)(hS:∀b,b=cb\/b=mb\/FO b\/AO b\/E b->¬S b):sP m0 m' cb mb iT SB FO AO E fresh all sn fv av:=
 ⟨C.ob.ext k (hS _ (.inl rfl)),C.f.ext k fun b hb=>hS b (.inr (.inr (hb.elim .inl fun h=> .inr (.inr h)))),C.a.ext k fun b hb=>hS b (.inr (.inr (.inr hb))),fun h=>(aT bH 1).ext (C.fx h) k fun b hb=>hS b (.inr (.inr (hb.elim .inl fun h=> .inr (.inr h)))),(aT bH 1).ext C.ax k fun b hb=>hS b (.inr (.inr (.inr hb))),fun h=>(C.s h).ext k (hS _ (.inr (.inl rfl))),C.one,C.cm,fun b hb=>by have h:=C.z b hb;have n:=k.next;exact⟨h.1,h.2.1,aj⟩,C.fo,C.ao,C.e⟩
theorem Ph (Di:Calm m0)(k0:Kp m0 m S)(C:sP m0 m cb mb iT SB FO AO E fresh all sn fv av)(u6:∀b,SB b->b<m.next){x:List V}{u:ae}(hu:bH.R E x m u)(ov:okV 1 u)(hl:fresh.length<2^29):
  ∃m2 m3 m4 QU,bh ab 29 1 [(0,u)] m=some (vL m.next 0 1 1,m2)/\aP cb 2 m=some (fv,m)/\cK ab #[29,29] fv (vL m.next 0 1 1) m2=some (QU,m3)/\gJ cb 2 QU m3=some (undef,m4)/\Kp m m4 (fun y=>y=cb\/FO y)/\sP m0 m4 cb mb iT SB (fun y=>y=m.next+1) AO E (fresh++[x]) all sn QU av:=by
 have g:=Di.gd.ext k0;have hE:∀b,E b->b<m.next:=fun b hb=>(C.z b (.inr (.inr (.inr (.inr hb))))).2.2
 obtain⟨m2,m3,s',e2,g2,k2,e3,k3,L3,⟨h1,HK,sE,o3,hc3⟩,n3⟩:=C.f.add (t:=29) g rfl eS hu (fun b hb=>(C.fo b hb).2.2.2) hE hE ov aj;have zc:=C.z cb (.inl rfl);have ocb:=C.ob.ext k3 fun h=>(C.fo cb h).1 rfl
 obtain⟨m4,e4,o4,k4⟩:=iZ (o:=2) s' ocb ((Di.gd.own ((k0.mono (S':=fun y=>S y\/FO y) fun _ _ h=> .inl h).trans k3 fun _ _ h=> .inr h) zc.2.1).may _ _) (af rfl) h1;have n4:=k4.next;have hcE:∀b,E b->¬b=cb:=fun b hb=>(C.e b hb).1
 have YH:Kp m m4 (fun y=>y=cb\/FO y):=(k3.mono (S':=fun y=>y=cb\/FO y) fun _ _ h=> .inr h).trans k4 fun _ _ h=> .inl h
 have L4:=(L3.Oq (H0:=E) (fun b hb _=>hb.elim id id) fun b hb h=>by have :=hE b h;omega).ext k4 fun b hb=>hb.elim (fun h=>by omega) (hcE b)
 have hA:∀b,AO b\/E b->¬(b=cb\/FO b):=fun b hb=>by
  rintro(h|h)
  ·exact hb.elim (fun hb=>(C.ao b hb).1 h) fun hb=>hcE b hb h
  ·exact hb.elim (fun hb=>(C.fo b h).2.2.1 hb) fun hb=>(C.fo b h).2.2.2 hb
 refine⟨m2,m3,m4,s',e2,aN C.ob rfl,e3,e4,YH,o4,L4,C.a.ext YH hA,fun _=>?_,(aT bH 1).ext C.ax YH hA,fun h=>(C.s h).ext YH fun h=>h.elim (fun e=>C.cm e.symm) fun h=>(C.fo mb h).2.1 rfl,C.one,C.cm,fun b hb=>?_,fun b hb=>?_,C.ao,C.e⟩
 ·subst sE;have o34:=o3.ext k4 (show¬m.next+1=cb by omega);refine⟨HK,by rw[List.length_append];exact o34.sl (by have :=hc3.one.1;simpa using this) (.inl rfl),fun b o n c e=>(by cases e;exact .inl rfl),hc3.mono fun y v _ w=>⟨bH.mono (bH.ext w.1 k4 fun b hb=>hb.elim (hcE b) (hcE b)) fun b hb=> .inr (hb.elim id id),w.2⟩⟩
 ·have hold:∀b,b=cb\/b=mb\/FO b\/AO b\/E b->¬SB b/\m0.next<=b/\b<m4.next:=fun b hb=>by have :=C.z b hb;exact⟨this.1,this.2.1,aj⟩
  rcases hb with h|h|h|h|h
  ·exact hold b (.inl h)
  ·exact hold b (.inr (.inl h))
  ·exact⟨fun h'=>by have :=u6 b h';omega,by have :=k0.next;omega,aj⟩
  ·exact hold b (.inr (.inr (.inr (.inl h))))
  ·exact hold b (.inr (.inr (.inr (.inr h))))
 ·have zm:=C.z mb (.inr (.inl rfl));exact⟨aj,aj,fun h=>by have :=C.z b (.inr (.inr (.inr (.inl h))));omega,fun h=>by have :=hE b h;omega⟩
end
end Go.AM
namespace Go.AM
set_option maxRecDepth 1000000
open Go Go.Conc Go.Proofs
section
variable {K:gS}{m0 m:Mem}{S SB FO AO E:Nat->Prop}{cb mb:Nat}{iT:Bool}{fresh all sn sn':List (List V)}{fv av:ae}
theorem sP.set{m':Mem}(C:sP m0 m cb mb iT SB FO AO E fresh all sn fv av)(k:Kp m m' (fun y=>y=mb))(hs:oD m' mb (sn'.map hdR))(h1:∀x∈sn',x.length=1):sP m0 m' cb mb iT SB FO AO E fresh all sn' fv av:=
 have hF:∀b,FO b\/E b->¬b=mb:=fun b hb=>hb.elim (fun h=>(C.fo b h).2.1) fun h=>(C.e b h).2
 have hA:∀b,AO b\/E b->¬b=mb:=fun b hb=>hb.elim (fun h=>(C.ao b h).2.1) fun h=>(C.e b h).2
 ⟨C.ob.ext k C.cm,C.f.ext k hF,C.a.ext k hA,fun h=>(aT bH 1).ext (C.fx h) k hF,(aT bH 1).ext C.ax k hA,fun _=>hs,fun _=>h1,C.cm,fun b hb=>by have h:=C.z b hb;have n:=k.next;exact⟨h.1,h.2.1,aj⟩,C.fo,C.ao,C.e⟩
theorem acF {x:V}{l:List (List V)}(h:∀x∈l,x.length=1):x∈l.map hdR↔[x]∈l:=by
 rw[List.mem_map];refine⟨fun⟨y,hy,e⟩=>?_,fun hx=>⟨_,hx,rfl⟩⟩;obtain⟨z,rfl⟩:=List.length_eq_one_iff.1 (h y hy);have e:z=x:=e;exact e▸hy
theorem VL (Di:Calm m0)(k0:Kp m0 m S)(C:sP m0 m cb mb iT SB FO AO E [] all all fv av)(u6:∀b,SB b->b<m.next){made:List (List V)}{Q:Nat->Prop}{ra:Option Addr}{rc:Nat}(q:(aT bH 1).R Q made m (.slice ra made.length rc))(hQ:∀b,Q b->b<m.next/\b≠cb/\b≠mb/\¬FO b)(hQE:∀b,Q b->(m.blk b).sz=4->E b)
  (h1:iT=false->∀x∈made,x.length=1)(hn:made.length<9000){t0:Tm}(hg0:dL [0,28,29,30] t0=[vP cb 0,.slice ra made.length rc,vI (made.length:Int),vI 0]):
  ∃t1 m1 QU FO',ET K (j0 198) (iy 198 [6]) 100000 ⟨t0,m,[]⟩ (.exit 0) ⟨t1,m1,[]⟩/\dL [0] t1=[vP cb 0]/\Kp m m1 (fun y=>y=cb\/y=mb\/FO y)/\sP m0 m1 cb mb iT SB FO' AO E (od iT all made) all (all++od iT all made) QU av:=by
 obtain⟨R,hR⟩:∃R,R=od iT all made:=⟨_,rfl⟩;rw[<-hR];have xT:=fun b hb=>(C.z b hb).2.2
 obtain⟨e,t1,m1,he,hx,rfl,QU,FO',hg,k1,C1⟩:=fL (K:=K) (nt:=j0 198) (a:=iy 198 [6]) made.length
  (Inv:=fun j tm M=>∃acc QT Ic,dL [0,28,29,30] tm=[vP cb 0,.slice ra made.length rc,vI (made.length:Int),vI j]/\Kp m M (fun y=>y=cb\/y=mb\/FO y)/\sP m0 M cb mb iT SB Ic AO E acc all (all++acc) QT av/\(made.drop j).foldl (Lk iT all) acc=R/\acc.length<=j/\∀b,Ic b->FO b\/m.next<=b)
  (dQ:=fun e tm M=>e= .exit 0/\∃QT Ic,dL [0] tm=[vP cb 0]/\Kp m M (fun y=>y=cb\/y=mb\/FO y)/\sP m0 M cb mb iT SB Ic AO E R all (all++R) QT av)
  (by
   rintro j tm M hj ⟨acc,QT,Ic,hg,kM,CM,hr,Mz,KU⟩
   left
   have nM:=kM.next;have k0M:Kp m0 M (fun y=>S y\/y=cb\/y=mb\/FO y):=(k0.mono (S':=fun y=>S y\/y=cb\/y=mb\/FO y) fun _ _ h=> .inl h).trans kM fun _ _ h=> .inr h
   have gM:=Di.gd.ext k0M;rw[List.drop_eq_getElem_cons hj,List.foldl_cons]at hr;have hQS:∀b,Q b->¬(b=cb\/b=mb\/FO b):=fun b hb h=>by have :=hQ b hb;rcases h with h|h|h<;>simp_all
   obtain⟨pb,pc,u,cs,e,hQb,ou,hu1,hu2,hu,ov⟩:=aT.get ((aT bH 1).ext q kM hQS) hj;cases e;have zj:iT=false->made[j].length=1:=fun h=>h1 h _ (List.getElem_mem hj)
   generalize made[j]=x at hr hu zj;obtain⟨rb,c,rfl,_,orw,hc⟩:=id hu;have huE:bH.R E x M (vL rb 0 x.length c):=bH.mono (bH.sz4 hu) fun b hb=>hQE b hb.1 (by rw[<-kM.blk b (hQ b hb.1).1 (hQS b hb.1)];exact hb.2)
   have l1:aP pb (0+j*1) M=some (vL rb 0 x.length c,M):=by
    rw[Nat.zero_add,Nat.mul_one];rw[Nat.mul_one]at hu1;refine aN ou ?_;have :=congrArg (·[0]?) hu1;simpa[ae.cells]using this
   have l0:aP cb 0 M=some (.bool iT,M):=aN CM.ob rfl;have ah5:∀b,SB b->b<M.next:=fun b hb=>by have :=u6 b hb;omega
   have hmv:∀{M':Mem},Kp M M' (fun y=>y=cb\/y=mb\/Ic y)->Kp m M' (fun y=>y=cb\/y=mb\/FO y):=fun k=>kM.trans k fun b hb h=>h.imp id fun h=>h.imp id fun h=>(KU b h).resolve_right aj
   cases iT with
   |true=>
    have eD:Lk true all acc x=acc++[x]:=bS de;rw[eD]at hr;obtain⟨m2,m3,m4,QU,e2,l2,e3,e4,k4,C4⟩:=Ph Di k0M CM ah5 huE ov aj;obtain⟨t2,fO,gp⟩:=bK (K:=K) A8 (afs cb pb made.length rc j rb x.length c QT QU _) hg (.cond (Jf hj)<| .idx rfl hj<| .mem l1<| .mem l0<| .rp rfl<| .mem l2<| .mem e2<| .mem e3<| .mem e4 .nil);rw[add1 aj]at gp;exact⟨t2,m4,fO,_,_,_,gp,hmv (k4.mono fun _ _ h=>h.imp id .inr),{C4 with s:=fun h=>(by cases h),one:=fun h=>by cases h},hr,by simp;omega,fun b hb=> .inr aj⟩
   |false=>
    obtain⟨y,rfl⟩:=List.length_eq_one_iff.1 (zj rfl);have akQ:rQ M (vL rb 0 1 c) [y]:=orw.sl (by rw[ir];rfl) hc;obtain⟨M1,e1,k1,s1⟩:=amj (K:=K) gM (CM.s rfl) akQ;have hm:y∈(all++acc).map hdR↔[y]∈all++acc:=acF (CM.one rfl);have lm:aP cb 1 M=some (.map (some mb),M):=aN CM.ob rfl;have n1:=k1.next
    by_cases ky:[y]∈all++acc
    ·have eD:Lk false all acc [y]=acc:=bC ⟨rfl,ky⟩;rw[eD]at hr;rw[bC (hm.2 ky)]at s1;rw[vB (hm.2 ky)]at e1;obtain⟨t2,fO,gp⟩:=bK (K:=K) A8 (afo cb mb pb made.length rc j rb 1 c) hg (.cond (Jf hj)<| .idx rfl hj<| .mem l1<| .mem l0<| .rp rfl<| .mem lm<| .cond rfl<| .cond rfl<| .call e1<| .cond rfl<| .cond rfl .nil);rw[add1 aj]at gp;exact⟨t2,M1,fO,_,_,_,gp,hmv (k1.mono fun _ _ h=> .inr (.inl h)),CM.set k1 s1 (CM.one rfl),hr,aj,KU⟩
    ·have eD:Lk false all acc [y]=acc++[[y]]:=bS fun h=>ky h.2
     rw[eD]at hr;rw[bS fun h=>ky (hm.1 h)]at s1;rw[w9 fun h=>ky (hm.1 h)]at e1;have C1:sP m0 M1 cb mb false SB Ic AO E acc all (all++(acc++[[y]])) QT av:=CM.set k1 (by rw[<-List.append_assoc,List.map_append];exact s1) fun z hz=>by
      rw[<-List.append_assoc]at hz;rcases List.mem_append.1 hz with h|h
      ·exact CM.one rfl z h
      ·rw[List.mem_singleton.1 h];rfl
     have JF:∀b,E b->¬b=mb:=fun b hb=>(CM.e b hb).2
     obtain⟨m2,m3,m4,QU,e2,l2,e3,e4,k4,C4⟩:=Ph Di ((k0M.mono (S':=fun y=>S y\/y=cb\/y=mb\/FO y) fun _ _ h=>h).trans k1 fun _ _ h=> .inr (.inr (.inl h))) C1 (fun b hb=>by have :=ah5 b hb;omega) (bH.ext huE k1 JF) ov aj;obtain⟨t2,fO,gp⟩:=bK (K:=K) A8 (afp cb mb pb made.length rc j rb 1 c QT QU _) hg (.cond (Jf hj)<| .idx rfl hj<| .mem l1<| .mem l0<| .rp rfl<| .mem lm<| .cond rfl<| .cond rfl<| .call e1<| .cond rfl<| .cond rfl<| .mem l2<| .mem e2<| .mem e3<| .mem e4 .nil);rw[add1 aj]at gp;exact⟨t2,m4,fO,_,_,_,gp,hmv ((k1.mono (S':=fun y=>y=cb\/y=mb\/Ic y) fun _ _ h=> .inr (.inl h)).trans k4 fun _ _ h=>h.imp id .inr),C4,hr,by simp;omega,fun b hb=> .inr aj⟩)
  (by
   rintro tm M ⟨acc,QT,Ic,hg,kM,CM,hr,Mz,KU⟩;rw[List.drop_length]at hr;have hr:acc=R:=hr;subst hr;have Hg:dL [0,29,30] tm=[vP cb 0,vI (made.length:Int),vI (made.length:Int)]:=by
    simp only[dL,List.map_cons,List.map_nil,List.cons.injEq,and_true]at hg⊢;exact⟨hg.1,hg.2.2.1,hg.2.2.2⟩
   obtain⟨t2,fO,gp⟩:=bK (K:=K) (m:=M) (m':=M) A8 (afq cb made.length made.length) Hg (.cond (T9 _) .nil);exact⟨_,t2,M,lQ,fO,rfl,_,_,gp,kM,CM⟩)
  (tm:=t0) (m:=m) ⟨[],fv,FO,hg0,.refl _ _,by rw[List.append_nil];exact C,hR.symm,ai _,fun b hb=> .inl hb⟩ aj
 exact⟨t1,m1,QU,FO',hx,hg,k1,C1⟩
end
end Go.AM
namespace Go.AM
set_option maxRecDepth 1000000
open Go Go.Conc Go.Proofs
theorem lP.room{α:Type}{E:nU α}{sz:Nat}{BO BE:Nat->Prop}{m:Mem}{acc:List α}{sv:ae}(h:lP E sz BO BE m acc sv):∃o,Room sz m sv o/\∀b,o=some b->BO b/\Own m b:=by
 rcases h with⟨_,rfl⟩|⟨b,cs,rest,rfl,hb,hw,ob,gO⟩
 ·exact⟨none,.inl ⟨rfl,rfl⟩,fun b e=>by cases e⟩
 ·have :=gO.one.1;exact⟨some b,.inr ⟨b,_,_,rfl,rfl,ob.ro,by simp;omega⟩,fun b e=>by cases e;exact⟨hb.1,hw⟩⟩
theorem Zq {B:Nat->Prop}{l:List (List V)}{m:Mem}{v:ae}(h:(aT bH 1).R B l m v):(aT bH 1).R (fun b=>B b/\b<m.next) l m v:=by
 obtain⟨cs,h1,h2,h3⟩:=h;refine⟨cs,h1,fun b o n c e=>⟨h2 b o n c e,?_⟩,h3.mono fun x u _ w=>⟨?_,w.2⟩⟩
 ·rcases h1.2 with⟨e',_⟩|⟨b',c',e',ob,_⟩
  ·rw[e']at e;cases e
  ·rw[e']at e;cases e;exact ob.lt
 ·obtain⟨b,c,e,hb,o,hc⟩:=w.1;exact⟨b,c,e,⟨hb,o.lt⟩,o,hc⟩
section
variable {K:gS}{m0 m:Mem}{B BT S SB FO AO E:Nat->Prop}{cb mb d:Nat}{iT:Bool}{fresh all:List (List V)}{fv av v:ae}{Tb:Nat->Option (List (List V))}
theorem aiE (hK:AY K)(Di:Calm m0)(k0:Kp m0 m S){iU:List (List Nat)}{cs:List ae}{bo bm:Nat->Option Nat}{al am:Option Nat}{rl:ae}(D:dp m d SB iU cs bo al bm am rl)(C:sP m0 m cb mb iT SB FO AO E fresh all all fv av){s:tu}(hs:uB.R B s m v)(lr:fV BT Tb m)(mL:∀b,B b\/BT b->¬SB b/\b<m.next)
  (er:oE Tb s)(h1:iT=false->∀x∈eY Tb s,x.length=1)(hl:(all++od iT all (eY Tb s)).length<=1000):
  ∃m' EO sU gQ uH pj DX EM KH FO' AO' E' QU av',Ev K 198 [vP cb 0,v,vP d 0] m (vI 0) m'/\Kp m m' (fun b=>SB b\/b=cb\/b=mb\/FO b\/AO b)/\dp m' d EO sU gQ uH pj DX EM KH/\
   sP m0 m' cb mb iT EO FO' AO' E' (od iT all (eY Tb s)) (all++od iT all (eY Tb s)) (all++od iT all (eY Tb s)) QU av'/\(∀b,EO b->(SB b\/m.next<=b)/\b<m'.next):=by
 obtain⟨xs,xw,xi,rfl,q1,q2,q3⟩:=hs;have cm:=Di.ext k0;obtain⟨D0,O3⟩:=D.exact;obtain⟨b4,hb4⟩:∃b,b=m.next:=⟨_,rfl⟩;obtain⟨m1,e1,o1,k1,n1,_⟩:=aV cm.gd [xs,xw,xi];rw[<-hb4]at e1 o1;have AU:=cm.ext k1;have l1:eW 3 b4 0 m1=some (.agg #[xs,xw,xi],m1):=bW (vs:=[xs,xw,xi]) o1 rfl (af rfl);have f1:∀{b},b<m.next->b<m1.next:=fun h=>by omega
 have old:=fun{α:Type}{E:nU α}{x:α}{u:ae} (h:E.R B x m u)=>E.ext h k1 fun _ _ h=>h
 obtain⟨rv,m2,sU,gQ,uH,pj,DX,EM,KH,e2,k2,D2,qr,_⟩:=aaY hK AU (D0.aR k1) (old q1) (old q2) (old q3) (lr.ext k1 fun _ _ h=>h) (fun b hb=>⟨fun h=>(mL b hb).1 (O3 b h).1,f1 (mL b hb).2⟩) er.src er.join er.jl er.wh er.max er.rU er.il;have Pk:=AU.ext k2;have n2:=k2.next;obtain⟨D3,Zc⟩:=D2.exact;obtain⟨SX,hSX⟩:∃SX,SX=As d uH DX pj EM:=⟨_,rfl⟩;rw[<-hSX]at D3 Zc;obtain⟨made,vJ⟩:∃l,l=eY Tb s:=⟨_,rfl⟩;rw[show xO Tb s.2.2 (iq Tb s.2.1 (gf Tb s.1 0 [eU]))=eY Tb s from rfl,<-vJ]at qr;rw[<-vJ]at h1 hl⊢;have hml:made.length<=1000:=by
  have :(eY Tb s).length<=0+(iq Tb s.2.1 (gf Tb s.1 0 [eU])).length:=ry (fun i=>ai _) _ _ [];have :=er.max;rw[vJ];omega
 have O1:∀b,b<m.next->SX b->SB b:=fun b hb h=>(Zc b h).1.elim (fun h=>(O3 b h).1) fun h=>by have :=h.1;omega
 have z:=C.z;have zE:∀b,E b->¬SB b/\m0.next<=b/\b<m.next:=fun b h=>z b (.inr (.inr (.inr (.inr h))))
 have zA:∀b,AO b->¬SB b/\m0.next<=b/\b<m.next:=fun b h=>z b (.inr (.inr (.inr (.inl h))))
 have zF:∀b,FO b->¬SB b/\m0.next<=b/\b<m.next:=fun b h=>z b (.inr (.inr (.inl h)))
 have zc:=z cb (.inl rfl);have zm:=z mb (.inr (.inl rfl));have C2:=(C.ext k1 fun _ _ h=>h).ext k2 fun b hb h=>(z b hb).1 (O3 b h).1
 have kg:Kp m m2 SB:=k1.tA.trans (k2.mono (S':=SB) fun b hb h=>(O3 b h).1) fun _ _ h=>h
 have N0:=k0.next;obtain⟨E',hE'⟩:∃E':Nat->Prop,E'=fun b=>E b\/(iS m1 m2 b/\¬SX b):=⟨_,rfl⟩
 have toE:∀b,E b->E' b:=fun b h=>by rw[hE'];exact .inl h
 have ofE:∀b,E' b->(E b\/m.next<b)/\b<m2.next/\¬SX b:=fun b h=>by
  rw[hE']at h;rcases h with h|h
  ·exact⟨.inl h,by have :=(zE b h).2.2;omega,fun h'=>(zE b h).1 (O1 b (zE b h).2.2 h')⟩
  ·exact⟨.inr (by have :=h.1.1;omega),h.1.2,h.2⟩
 obtain⟨o,rH,hoF⟩:=C2.f.room;obtain⟨ML,m3,e3,k3,L3⟩:=ZG (K:=K) acT (t:=29) (sz:=1) rfl (E:=bH) rH fun b h=>(hoF b h).2
 have n3:=k3.next;have te:=Pk.ext k3;have OP:∀b,o=some b->b≠cb/\b≠mb/\¬AO b/\¬E b/\b<m.next/\m0.next<=b/\¬SB b:=fun b h=>by
  have h:=(hoF b h).1;have h1:=C.fo b h;have h2:=zF b h;exact⟨h1.1,h1.2.1,h1.2.2.1,h1.2.2.2,h2.2.2,h2.2.1,h2.1⟩
 have akr:=C2.ob.ext k3 fun h=>(OP cb h).1 rfl
 have kb3:Kp m0 m3 (fun b=>S b\/SB b\/o=some b):=(((k0.mono (S':=fun b=>S b\/SB b\/o=some b) fun _ _ h=> .inl h).trans kg fun _ _ h=> .inr (.inl h))).trans k3 fun _ _ h=> .inr (.inr h)
 have lK:kI ML=true:=L3.one;obtain⟨m4,e4,o4,k4⟩:=iZ (o:=2) ML akr ((Di.gd.own kb3 zc.2.1).may _ _) (af rfl) lK;have n4:=k4.next;have RG:Kp m2 m4 (fun b=>b=cb\/o=some b):=(k3.mono (S':=fun b=>b=cb\/o=some b) fun _ _ h=> .inr h).trans k4 fun _ _ h=> .inl h
 have JA:∀b,m1.next<=b->¬(b=cb\/o=some b):=fun b hb h=>by
  rcases h with h|h
  ·omega
  ·have :=(OP b h).2.2.2.2.1;omega
 have kb4:Kp m0 m4 (fun b=>S b\/SB b\/b=cb\/o=some b):=((k0.mono (S':=fun b=>S b\/SB b\/b=cb\/o=some b) fun _ _ h=> .inl h).trans kg fun _ _ h=> .inr (.inl h)).trans RG fun _ _ h=> .inr (.inr h)
 have hA4:∀b,AO b\/E' b->¬(b=cb\/o=some b):=fun b hb=>by
  rcases hb with h|h
  ·exact fun h'=>h'.elim (C.ao b h).1 fun h'=>(OP b h').2.2.1 h
  ·rcases(ofE b h).1 with h2|h2
   ·exact fun h'=>h'.elim (C.e b h2).1 fun h'=>(OP b h').2.2.2.1 h2
   ·exact JA b aj
 have C4:sP m0 m4 cb mb iT SX (fun b=>o=some b) AO E' [] all all ML av:=by
  refine⟨o4,(L3.Oq (H0:=E') (fun b h=>h.elim) fun b h h'=>?_).ext k4 fun b hb=>?_,((C2.a.Oq (H0:=E') (fun b h _=>toE b h) fun b h h'=>?_).ext RG hA4),fun h=>absurd rfl h,(aT bH 1).ext ((aT bH 1).mono C2.ax fun b h=>h.imp id (toE b)) RG hA4,fun h=>(C2.s h).ext RG fun h=>?_,C.one,C.cm,fun b hb=>?_,fun b h=>?_,fun b h=>⟨(C.ao b h).1,(C.ao b h).2.1,fun h'=>?_⟩,fun b h=>?_⟩
  ·rcases(ofE b h').1 with h2|h2
   ·exact(OP b h).2.2.2.1 h2
   ·have :=(OP b h).2.2.2.2.1;omega
  ·rcases hb with h|h
   ·exact(OP b h).1
   ·rcases(ofE b h).1 with h2|h2
    ·exact(C.e b h2).1
    ·omega
  ·rcases(ofE b h').1 with h2|h2
   ·exact(C.ao b h).2.2 h2
   ·have :=(zA b h).2.2;omega
  ·exact h.elim (fun e=>C.cm e.symm) fun h=>(OP mb h).2.1 rfl
  ·have hold:∀b,(¬SB b/\m0.next<=b/\b<m.next)->¬SX b/\m0.next<=b/\b<m4.next:=fun b h=>⟨fun h'=>h.1 (O1 b h.2.2 h'),h.2.1,aj⟩
   rcases hb with h|h|h|h|h
   ·exact hold b (z b (.inl h))
   ·exact hold b (z b (.inr (.inl h)))
   ·exact hold b ⟨(OP b h).2.2.2.2.2.2,(OP b h).2.2.2.2.2.1,(OP b h).2.2.2.2.1⟩
   ·exact hold b (zA b h)
   ·have :=ofE b h;exact⟨this.2.2,this.1.elim (fun h=>(zE b h).2.1) fun h=>by omega,aj⟩
  ·have :=OP b h;exact⟨this.1,this.2.1,this.2.2.1,fun h'=>(ofE b h').1.elim this.2.2.2.1 fun h'=>by omega⟩
  ·exact(ofE b h').1.elim (C.ao b h).2.2 fun h'=>by have :=(zA b h).2.2;omega
  ·rcases(ofE b h).1 with h2|h2
   ·exact C.e b h2
   ·exact⟨aj,aj⟩
 obtain⟨ra,rc,rfl⟩:=aT.form qr;have hQn:∀b,iS m1 m2 b->m1.next<=b/\b<m2.next:=fun b h=>h
 have iW:∀b,iS m1 m2 b->(m4.blk b).sz=(m2.blk b).sz:=fun b h=>by rw[RG.blk b (hQn b h).2 (JA b (hQn b h).1)]
 obtain⟨t0,w0,g0⟩:=cX (K:=K) (m:=m) (m':=m4) (tm:=entry [vP cb 0,.agg #[xs,xw,xi],vP d 0]) (aft cb d b4 made.length rc ra xs xw xi fv ML) rfl (.mem e1<| .mem l1<| .call e2<| .cond rfl<| .mem (aN C2.ob rfl)<| .call e3<| .mem e4 .nil);obtain⟨t1,m5,fv5,FO5,hx,hg,k5,C5⟩:=VL (K:=K) Di kb4 C4 (fun b h=>by have :=(Zc b h).2.1;omega) (made:=made) (Q:=iS m1 m2) ((aT bH 1).ext qr RG fun b h=>JA b (hQn b h).1) (fun b h=>⟨by have :=(hQn b h).2;omega,by have :=(hQn b h).1;omega,by have :=(hQn b h).1;omega,fun h'=>JA b (hQn b h).1 (.inr h')⟩)
  (fun b h h4=>by rw[hE'];exact .inr ⟨h,fun h'=>by rw[iW b h]at h4;rcases(Zc b h').2.2 with h|h|h<;>omega⟩) h1 aj g0
 have n5:=k5.next;have kb5:Kp m0 m5 (fun b=>S b\/SB b\/b=cb\/b=mb\/o=some b):=(kb4.mono (S':=fun b=>S b\/SB b\/b=cb\/b=mb\/o=some b) fun b _ h=>h.imp id fun h=>h.imp id fun h=>h.imp id .inr).trans k5 fun b _ h=> .inr (.inr h)
 have g5:=Di.gd.ext kb5;have z5:=C5.z;have e5E:∀b,E' b->b<m5.next:=fun b h=>(z5 b (.inr (.inr (.inr (.inr h))))).2.2
 obtain⟨av6,m6,e6,k6,L6,A6⟩:=C5.a.Nc (t:=29) g5 rfl C5.f.first (fun b h=>(C5.ao b h).2.2) e5E e5E (by simp at hl;omega);have n6:=k6.next;have akq:=C5.ob.ext k6 fun h=>(C5.ao cb h).1 rfl
 obtain⟨m7,e7,o7,k7⟩:=iZ (o:=3) av6 akq ((Di.gd.own ((kb5.mono (S':=fun b=>(S b\/SB b\/b=cb\/b=mb\/o=some b)\/AO b) fun _ _ h=> .inl h).trans k6 fun _ _ h=> .inr h) zc.2.1).may _ _) (af rfl) L6.one;have n7:=k7.next;have YG:Kp m5 m7 (fun b=>b=cb\/AO b):=(k6.mono (S':=fun b=>b=cb\/AO b) fun _ _ h=> .inr h).trans k7 fun _ _ h=> .inl h
 obtain⟨aa,ac,rfl⟩:=C5.a.form;obtain⟨fa,fc,rfl⟩:=C5.f.form;obtain⟨ga,gc,rfl⟩:=L6.form;obtain⟨t2,w2,g2⟩:=cX (K:=K) (m:=m5) (m':=m7) (afr cb all.length ac (od iT all made).length fc (all++od iT all made).length gc aa fa ga) hg (.mem (aN C5.ob rfl)<| .mem (aN C5.ob rfl)<| .mem (bM g5)<| .mem e6<| .mem (bM (g5.ext k6))<| .mem e7<| .mem (aN o7 rfl)<| .cond (dF (Be (j:=1000))) .nil);have hF5:∀b,FO5 b->¬(b=cb\/AO b):=fun b h h'=>h'.elim (C5.fo b h).1 (C5.fo b h).2.2.1
 have hE5:∀b,E' b->¬(b=cb\/AO b):=fun b h h'=>h'.elim (C5.e b h).1 fun h'=>(C5.ao b h').2.2 h
 have hA7:∀b,(b=m5.next/\b<m6.next)\/E' b->¬b=cb:=fun b hb=>by
  rcases hb with h|h
  ·have :=(z5 cb (.inl rfl)).2.2;omega
  ·exact(C5.e b h).1
 refine⟨m7,SX,sU,gQ,uH,pj,DX,EM,KH,FO5,fun b=>b=m5.next/\b<m6.next,E',.slice fa (od iT all made).length fc,.slice ga (all++od iT all made).length gc,iO agS (aU.cut w0 (aU.qz hx (aU.last w2 Qe))) (.inr rfl) g2,?_,?_,?_,fun b h=>?_⟩
 ·refine((((kg.mono (S':=fun b=>SB b\/b=cb\/b=mb\/FO b\/AO b) fun _ _ h=> .inl h).trans RG ?_).trans k5 ?_).trans YG ?_)
  ·exact fun b _ h=> .inr (h.elim .inl fun h=> .inr (.inr (.inl (hoF b h).1)))
  ·exact fun b _ h=> .inr (h.imp id fun h=>h.imp id fun h=> .inl (hoF b h).1)
  ·exact fun b _ h=> .inr (h.imp id fun h=> .inr (.inr h))
 ·refine((D3.ext RG fun b h h'=>?_).ext k5 fun b h h'=>?_).ext YG fun b h h'=>?_
  ·rcases h' with h'|h'
   ·exact(z5 b (.inl h')).1 h
   ·have :=OP b h';exact this.2.2.2.2.2.2 (O1 b this.2.2.2.2.1 h)
  ·rcases h' with h'|h'|h'
   ·exact(z5 b (.inl h')).1 h
   ·exact(z5 b (.inr (.inl h'))).1 h
   ·have :=OP b h';exact this.2.2.2.2.2.2 (O1 b this.2.2.2.2.1 h)
  ·rcases h' with h'|h'
   ·exact(z5 b (.inl h')).1 h
   ·exact(z5 b (.inr (.inr (.inr (.inl h'))))).1 h
 ·refine⟨o7,C5.f.ext YG fun b hb=>hb.elim (hF5 b) (hE5 b),(L6.lt.Oq (H0:=E') (fun b h _=>h.elim id id) fun b h h'=>?_).ext k7 hA7,fun h=>(aT bH 1).ext (C5.fx h) YG fun b hb=>hb.elim (hF5 b) (hE5 b),(aT bH 1).ext ((aT bH 1).mono (Zq A6) fun b h=>h.1.imp (fun e=>⟨e,h.2⟩) fun h=>h.elim id id) k7 hA7,fun h=>(C5.s h).ext YG fun h=>h.elim (fun e=>C.cm e.symm) fun h=>(C5.ao mb h).2.1 rfl,C5.one,C.cm,fun b hb=>?_,fun b h=>⟨(C5.fo b h).1,(C5.fo b h).2.1,fun e=>?_,(C5.fo b h).2.2.2⟩,fun b h=>⟨?_,?_,fun h'=>?_⟩,C5.e⟩
  ·have :=e5E b h';omega
  ·have hold:∀b,(¬SX b/\m0.next<=b/\b<m5.next)->¬SX b/\m0.next<=b/\b<m7.next:=fun b h=>⟨h.1,h.2.1,aj⟩
   rcases hb with h|h|h|h|h
   ·exact hold b (z5 b (.inl h))
   ·exact hold b (z5 b (.inr (.inl h)))
   ·exact hold b (z5 b (.inr (.inr (.inl h))))
   ·exact⟨fun h'=>by have :=(Zc b h').2.1;omega,by have :=kb5.next;omega,aj⟩
   ·exact hold b (z5 b (.inr (.inr (.inr (.inr h)))))
  ·have :=(z5 b (.inr (.inr (.inl h)))).2.2;omega
  ·have :=(z5 cb (.inl rfl)).2.2;omega
  ·have :=(z5 mb (.inr (.inl rfl))).2.2;omega
  ·have :=e5E b h';omega
 ·have :=Zc b h;refine⟨this.1.elim (fun h=> .inl (O3 b h).1) fun h=> .inr (by have :=h.1;omega),aj⟩
end
end Go.AM
namespace Go.AM
set_option maxRecDepth 1000000
open Go Go.Conc Go.Proofs
theorem afL (p d b2 b6 cb mb ub un uc:Nat)(a w b a2 w2 c2:ae)(iT:Bool)(e:Int):gN 148 0 5 [0,1] [.agg #[vP p 0,.bool true,a,w,b,vL ub 0 un uc],vP d 0]
 [dN [some (vP p 0),some (.bool true),some a,some w,some b,some (vL ub 0 un uc)] b2,
  .mem (aP b2 5) (vL ub 0 un uc),
  .idx 0 un 0,
  iR 4 ub (.agg #[.bool iT,a2,w2,c2]),
  dN [some (.bool false),some fE,some .nilIface,some fE] b6,
  jK b6 0 [.bool iT,a2,w2,c2],
  .mem (aP b6 0) (.bool iT),
  .mem xH (.map (some mb)),
  dN [some (.bool iT),some (.map (some mb)),some fE,some fE] cb,
  .mem (eW 3 b2 2) (.agg #[a,w,b]),
  .call 198 [vP cb 0,.agg #[a,w,b],vP d 0] (vI e)]
 .normal [1,2,6,7,8,9] [vP d 0,vP b2 0,vP b6 0,vP cb 0,vI e,vI 1]:=jz
theorem afK (d b2 b6 cb p k fn fc:Nat)(fa:Option Addr)(a w b:ae)(e:Int):dX 148 [5] 0 99 [1,2,6,7,8,9] [vP d 0,vP b2 0,vP b6 0,vP cb 0,vI 0,vI k]
 ((rp 4 (.bool true) true (.mem (aP cb 2) (.slice fa fn fc)::(rp 3 (.bool true) true ([bP (qE fn 0) true,
  bP (qE k 200) false,
  .mem (aP b2 0) (vP p 0),
  .mem (aP cb 2) (.slice fa fn fc),
  oY,
  .mem (gJ p 1 (.slice fa fn fc)) undef,
  .mem (eW 3 b6 1) (.agg #[a,w,b]),
  .call 198 [vP cb 0,.agg #[a,w,b],vP d 0] (vI e)])))))
 .normal [1,2,6,7,8,9] [vP d 0,vP b2 0,vP b6 0,vP cb 0,vI e,vI (fg k 1)]:=jz
theorem afJ (cb fn fc:Nat)(fa:Option Addr):dX 148 [5] 0 99 [7,8] [vP cb 0,vI 0]
 ((rp 4 (.bool true) true (.mem (aP cb 2) (.slice fa fn fc)::(rp 3 (.bool true) true ([bP (qE fn 0) false])))))
 (.exit 0) [7,8] [vP cb 0,vI 0]:=jz
theorem afI (cb:Nat)(v:ae):gN 148 6 99 [7,8] [vP cb 0,vI 0]
 [eE,
  .mem (aP cb 3) v]
 .ret [4,5] [v,vI 0]:=jz
theorem agU:nQ 148 2 [4,5]=true:=aY
theorem Qg:(dZ (cI 148)).length<=99:=af aY
theorem Oj:vl 148 [5]:=aY
def re (p:Nat)(rows:List (List V))(Tb:Nat->Option (List (List V)))(q:Nat):Option (List (List V)):=if q=p then some rows else Tb q
inductive Rds (T:List (List V)->Nat->Option (List (List V)))(iT:Bool)(s:tu):Nat->List (List V)->List (List V)->List (List V)->Prop
 |done {k:Nat}{all:List (List V)}:Rds T iT s k [] all all
 |step {k:Nat}{f all res:List (List V)} (h0:f≠[]) (hk:k<=200) (ok:oE (T f) s) (h1:iT=false->∀x∈eY (T f) s,x.length=1) (hl:(all++od iT all (eY (T f) s)).length<=1000)
   (n:Rds T iT s (k+1) (od iT all (eY (T f) s)) (all++od iT all (eY (T f) s)) res):Rds T iT s k f all res
theorem T2 {m:Mem}(g:Gd m):∃m',xH m=some (.map (some m.next),m')/\oD m' m.next []/\Kp m m' fu/\m'.next=m.next+1:=by
 refine⟨m.alloc {kind:=2},rfl,⟨Nat.lt_succ_self _,?_,?_,g.fresh (ai _),g.hn⟩,⟨Nat.le_succ _,rfl,rfl,rfl,rfl,rfl,rfl,rfl,rfl,fun x hx _=>by rw[Mem.bY,bS aj]⟩,rfl⟩
 ·rw[Mem.bY,bC rfl]
 ·rw[Mem.bY,bC rfl];rfl
section
variable {K:gS}{m:Mem}{B BT SB:Nat->Prop}{p d:Nat}{iT:Bool}{Tb:Nat->Option (List (List V))}
theorem amr (hK:AY K)(cm:Calm m){iU:List (List Nat)}{cs:List ae}{bo bm:Nat->Option Nat}{al am:Option Nat}{rl:ae}(D:dp m d SB iU cs bo al bm am rl)(u6:∀b,SB b->b<m.next){cl rl0 xa xw xb xu:ae}(op:Obj m p 0 [cl,rl0])(wp:Own m p)(YR:¬SB p)
  {first again:tu}{res:List (List V)}(hb:pU.R B (first,[(iT,again)]) m (.agg #[xa,xw,xb,xu]))(lr:fV BT Tb m)(mL:∀b,B b\/BT b->¬SB b/\b≠p/\b<m.next)(er:oE Tb first)(h1:iT=false->∀x∈eY Tb first,x.length=1)
  (hl:(od iT [] (eY Tb first)).length<=1000)(hr:Rds (fun f=>re p f Tb) iT again 1 (od iT [] (eY Tb first)) (od iT [] (eY Tb first)) res):
  ∃m' sv EO sU gQ uH pj DX EM KH AE,Ev K 148 [.agg #[vP p 0,.bool true,xa,xw,xb,xu],vP d 0] m (.tuple #[sv,vI 0]) m'/\Kp m m' (fun b=>SB b\/b=p)/\dp m' d EO sU gQ uH pj DX EM KH/\
   (aT bH 1).R AE res m' sv/\(∀b,AE b->¬EO b/\m.next<=b/\b<m'.next)/\(∀b,EO b->(SB b\/m.next<=b)/\b<m'.next)/\∃r,Obj m' p 0 [cl,r]:=by
 obtain⟨_,_,_,xu',e,nD,my⟩:=hb;cases e;obtain⟨ub,uc,u,ucs,e,hub,ou,hu1,hu2,hu,ov⟩:=aT.get (j:=0) my (Nat.lt_succ_self 0);cases e;obtain⟨ya,yw,yb,rfl,hag⟩:=hu;have g:=cm.gd;obtain⟨b2,adE⟩:∃b,b=m.next:=⟨_,rfl⟩;obtain⟨m1,e1,o1,k1,n1,_⟩:=aV g [vP p 0,.bool true,xa,xw,xb,vL ub 0 1 uc];rw[<-adE]at e1 o1;obtain⟨m2,m3,e2,e3,o3,k3,n3⟩:=iX (g.ext k1) [.bool false,.slice none 0 0,.nilIface,.slice none 0 0] [.bool iT,ya,yw,yb] rfl (aB.2 fun y hy=>ov.2 y hy);obtain⟨b6,hb6⟩:∃b,b=m1.next:=⟨_,rfl⟩;rw[<-hb6]at e2 e3 o3;have jG:=k1.aS k3;have te:=cm.ext jG;have n03:=jG.next;obtain⟨m4,e4,s4,k4,n4⟩:=T2 te.gd;obtain⟨mb,JF⟩:∃b,b=m3.next:=⟨_,rfl⟩;rw[<-JF]at e4 s4;obtain⟨m5,e5,o5,k5,n5,_⟩:=aV (te.gd.ext k4) [.bool iT,.map (some mb),.slice none 0 0,.slice none 0 0];obtain⟨cb,hcb⟩:∃b,b=m4.next:=⟨_,rfl⟩;rw[<-hcb]at e5 o5;have k35:=k4.aS k5;have tC:=jG.aS k35;have n05:=tC.next;have o15:=((o1.aR k3).aR k4).aR k5;have o35:=(o3.aR k4).aR k5;have C5:sP m3 m5 cb mb iT SB fu fu fu [] [] [] (.slice none 0 0) (.slice none 0 0):=
  ⟨o5,.inl ⟨rfl,rfl⟩,.inl ⟨rfl,rfl⟩,fun h=>absurd rfl h,aT.nil,fun _=>s4.ext k5 id,fun _ x hx=>(by cases hx),aj,fun b hb=>by
   have hb:b=cb\/b=mb:=by rcases hb with h|h|h|h|h<;>first |exact .inl h|exact .inr h|exact h.elim
   exact⟨fun h=>by have :=u6 b h;omega,aj,aj⟩,fun b h=>h.elim,fun b h=>h.elim,fun b h=>h.elim⟩
 have alG:∀b,B b\/BT b->¬SB b/\b<m5.next:=fun b hb=>⟨(mL b hb).1,by have :=(mL b hb).2.2;omega⟩
 obtain⟨m6,SB6,afa,cs6,bo6,al6,bm6,am6,rl6,FO6,AO6,E6,fv6,av6,e6,k6,D6,C6,hS6⟩:=aiE (K:=K) hK te k35 (D.aR tC) C5 (uB.ext nD tC fun _ _ h=>h) (lr.ext tC fun _ _ h=>h) alG er h1 hl;rw[List.nil_append]at C6;have k6':Kp m5 m6 (fun b=>SB b\/m3.next<=b):=k6.mono fun b hb h=>by
  rcases h with h|h|h|h|h
  ·exact .inl h
  ·exact .inr aj
  ·exact .inr aj
  ·exact h.elim
  ·exact h.elim
 obtain⟨t0,w0,g0⟩:=cX (K:=K) (m:=m) (m':=m6) (tm:=entry [.agg #[vP p 0,.bool true,xa,xw,xb,vL ub 0 1 uc],vP d 0]) (afL p d b2 b6 cb mb ub 1 uc xa xw xb ya yw yb iT 0) rfl
  (.mem e1<| .mem (aN o1 rfl)<| .idx rfl (Nat.lt_succ_self 0)<| .mem (bW (vs:=[.bool iT,ya,yw,yb]) (ou.aR k1) hu1 aj)<| .mem e2<| .mem e3<| .mem (aN o3 rfl)<| .mem e4<| .mem e5<| .mem (bW (vs:=[xa,xw,xb]) o15 rfl (af rfl))<| .call e6 .nil)
 have K6:Kp m3 m6 (fun b=>SB b\/b=p):=(k35.tA (S:=fun b=>SB b\/b=p)).trans k6' fun b hb h=> .inl (h.resolve_right aj)
 have n6:=K6.next;have dm:=op.lt;obtain⟨e,t1,m7,he,hx,rfl,SB7,ae9,cs7,bo7,al7,bm7,am7,rl7,FO7,AO7,E7,fv7,av7,fr7,hg7,K7,D7,C7,hS7,or7⟩:=xJ (K:=K) (nt:=j0 148) (a:=iy 148 [5])
  (Inv:=fun n tm M=>∃k f all PA NT HK bo1 al1 bm1 am1 rl1 Ic AO1 E1 QT av1,n=202-k/\k<=201/\dL [1,2,6,7,8,9] tm=[vP d 0,vP b2 0,vP b6 0,vP cb 0,vI 0,vI (k:Nat)]/\Kp m3 M (fun b=>SB b\/b=p)/\dp M d PA NT HK bo1 al1 bm1 am1 rl1/\
   sP m3 M cb mb iT PA Ic AO1 E1 f all all QT av1/\(∀b,PA b->(SB b\/m3.next<=b)/\b<M.next)/\(∃r,Obj M p 0 [cl,r])/\Rds (fun f=>re p f Tb) iT again k f all res)
  (dQ:=fun e tm M=>e= .exit 0/\∃PA NT HK bo1 al1 bm1 am1 rl1 Ic AO1 E1 QT av1 f,dL [7,8] tm=[vP cb 0,vI 0]/\Kp m3 M (fun b=>SB b\/b=p)/\dp M d PA NT HK bo1 al1 bm1 am1 rl1/\
   sP m3 M cb mb iT PA Ic AO1 E1 f res res QT av1/\(∀b,PA b->(SB b\/m3.next<=b)/\b<M.next)/\∃r,Obj M p 0 [cl,r])
  (by
   rintro n tm M ⟨k,f,all,PA,NT,HK,bo1,al1,bm1,am1,rl1,Ic,AO1,E1,QT,av1,rfl,Bd,hg,KM,DM,CM,hSM,⟨r,opM⟩,hr⟩;obtain⟨fa,fc,hfv⟩:=CM.f.form;subst hfv;have nM:=KM.next;have Pj:=te.ext KM;have k0M:Kp m M (fun b=>SB b\/b=p):=(jG.tA (S:=fun b=>SB b\/b=p)).trans KM fun _ _ h=>h
   have lf:aP cb 2 M=some (.slice fa f.length fc,M):=aN CM.ob rfl;cases hr with
   |done=>
    right
    have Hg:dL [7,8] tm=[vP cb 0,vI 0]:=by
     simp only[dL,List.map_cons,List.map_nil,List.cons.injEq,and_true]at hg⊢;exact⟨hg.2.2.2.1,hg.2.2.2.2.1⟩
    obtain⟨t2,fO,gp⟩:=bK (K:=K) (m:=M) (m':=M) Oj (afJ cb 0 fc fa) Hg (.rp rfl<| .mem lf<| .rp rfl<| .cond (dF (Be (i:=0) (j:=0))) .nil);exact⟨_,t2,M,lQ,fO,rfl,_,_,_,_,_,_,_,_,_,_,_,_,_,_,gp,KM,DM,CM,hSM,r,opM⟩
   |step h0 hk YT hh1 WB hn=>
    left
    have H4:0<f.length:=List.length_pos_iff.2 h0;have nSp:¬PA p:=fun h=>by have :=(hSM p h).1;rcases this with h|h;exact YR h;omega
    have zM:=CM.z;have zp:∀b,b=cb\/b=mb\/Ic b\/AO1 b\/E1 b->¬b=p:=fun b hb e=>by have :=(zM b hb).2.1;omega
    have ah4:∀b,b=b2\/b=b6->¬(SB b\/b=p)/\¬PA b/\b<m3.next:=fun b hb=>by
     have h3:¬SB b:=fun h=>by have :=u6 b h;omega
     exact⟨fun h=>h.elim h3 fun h=>by omega,fun h=>(hSM b h).1.elim h3 fun h=>by omega,aj⟩
    obtain⟨M1,e1',En,k1'⟩:=iZ (o:=1) (.slice fa f.length fc) opM (((wp.ext k0M)).may _ _) (af rfl) rfl;have n1':=k1'.next;have En:Obj M1 p 0 [cl,.slice fa f.length fc]:=En;have K1:Kp m3 M1 (fun b=>SB b\/b=p):=KM.trans k1' fun _ _ h=> .inr h
    have k01:Kp m M1 (fun b=>SB b\/b=p):=k0M.trans k1' fun _ _ h=> .inr h
    have D1:=DM.ext k1' fun b hb e=>nSp (e▸hb)
    have C1:=CM.ext k1' zp;have hS1:∀b,PA b->(SB b\/m3.next<=b)/\b<M1.next:=fun b hb=>⟨(hSM b hb).1,by have :=(hSM b hb).2;omega⟩
    have aie:∀b,B b\/BT b->¬(SB b\/b=p):=fun b hb h=>h.elim (mL b hb).1 (mL b hb).2.1
    have hT1:fV (fun b=>BT b\/b=p\/Ic b\/E1 b) (re p f Tb) M1:=by
     intro q rows hq;unfold re at hq
     split at hq
     ·rename_i e;subst e;cases hq;exact⟨.inr (.inl rfl),cl,_,En,(aT bH 1).mono (C1.fx h0) fun b hb=> .inr (.inr hb)⟩
     ·obtain⟨h1,c1,r1,h2,h3⟩:=(lr.ext k01 fun b hb=>aie b (.inr hb)) q rows hq;exact⟨.inl h1,c1,r1,h2,(aT bH 1).mono h3 fun b hb=> .inl hb⟩
    have alH:∀b,B b\/(BT b\/b=p\/Ic b\/E1 b)->¬PA b/\b<M1.next:=fun b hb=>by
     have h0:∀b,B b\/BT b->¬PA b/\b<M1.next:=fun b hb=>by
      have h:=mL b hb;have :=k01.next;exact⟨fun h'=>(hS1 b h').1.elim h.1 fun h'=>by omega,aj⟩
     rcases hb with h|h|h|h|h
     ·exact h0 b (.inl h)
     ·exact h0 b (.inr h)
     ·exact⟨by rw[h];exact nSp,by have :=k01.next;omega⟩
     ·have :=C1.z b (.inr (.inr (.inl h)));exact⟨this.1,this.2.2⟩
     ·have :=C1.z b (.inr (.inr (.inr (.inr h))));exact⟨this.1,this.2.2⟩
    obtain⟨M2,SB2,afb,Pe,bo2,al2,bm2,am2,rl2,FO2,AO2,E2,ML,av2,H8,k2',D2,C2,hS2⟩:=aiE (K:=K) hK te K1 D1 C1 (uB.ext hag k01 fun b hb=>aie b (.inl hb)) hT1 alH YT hh1 WB;have zC:=C1.z;have FE:∀b,b<m3.next->(PA b\/b=cb\/b=mb\/Ic b\/AO1 b)->SB b:=fun b hb h=>by
     rcases h with h|h|h|h|h
     ·exact(hS1 b h).1.resolve_right aj
     ·omega
     ·omega
     ·have :=(zC b (.inr (.inr (.inl h)))).2.1;omega
     ·have :=(zC b (.inr (.inr (.inr (.inl h))))).2.1;omega
    have K2:Kp m3 M2 (fun b=>SB b\/b=p):=K1.trans k2' fun b hb h=> .inl (FE b hb h)
    have o2b:∀{b sz:Nat}{l:List ae},(b=b2\/b=b6)->Obj m3 b sz l->Obj M1 b sz l:=fun hb o=>o.ext K1 (ah4 _ hb).1
    have l2:aP b2 0 M=some (vP p 0,M):=aN (((o1.aR k3)).ext KM (ah4 _ (.inl rfl)).1) rfl;have l6:eW 3 b6 1 M1=some (.agg #[ya,yw,yb],M1):=bW (vs:=[ya,yw,yb]) (o2b (.inr rfl) o3) rfl (af rfl);have n2':=k2'.next;obtain⟨t2,fO,gp⟩:=bK (K:=K) (m:=M) (m':=M2) Oj (afK d b2 b6 cb p k f.length fc fa ya yw yb 0) hg
     (.rp rfl<| .mem lf<| .rp rfl<| .cond (dT (Be (i:=f.length) (j:=0)) H4)<| .cond (dF (Be (i:=k) (j:=200)))<| .mem l2<| .mem lf<| .mem (bM Pj.gd)<| .mem e1'<| .mem l6<| .call H8 .nil)
    rw[add1 aj]at gp;refine⟨202-(k+1),t2,M2,aj,fO,k+1,_,_,SB2,afb,Pe,bo2,al2,bm2,am2,rl2,FO2,AO2,E2,ML,av2,rfl,aj,gp,K2,D2,C2,fun b hb=>?_,⟨_,En.ext k2' fun h=>YR (FE p aj h)⟩,hn⟩;have :=hS2 b hb;exact⟨this.1.elim (fun h=>(hS1 b h).1) fun h=> .inr (by have :=K1.next;omega),this.2⟩)
  (n:=201) (k:=100000) (tm:=t0) (m:=m6) ⟨1,_,_,SB6,afa,cs6,bo6,al6,bm6,am6,rl6,FO6,AO6,E6,fv6,av6,rfl,aj,g0,K6,D6,C6,fun b hb=>⟨(hS6 b hb).1.imp id fun h=>by omega,(hS6 b hb).2⟩,⟨rl0,((op.aR jG).aR k35).ext k6' fun h=>h.elim YR fun h=>by omega⟩,hr⟩ aj
 obtain⟨t2,h2,H8⟩:=cX (K:=K) (m:=m7) (m':=m7) (afI cb av7) hg7 (.cond rfl<| .mem (aN C7.ob rfl) .nil);have n7:=K7.next;exact⟨m7,av7,SB7,ae9,cs7,bo7,al7,bm7,am7,rl7,fun b=>AO7 b\/E7 b,iO agU (aU.cut w0 (aU.qz hx (aU.last h2 Qg))) (.inr rfl) H8,(jG.tA (S:=fun b=>SB b\/b=p)).trans K7 fun _ _ h=>h,D7,C7.ax,fun b hb=>by
  have :=C7.z b (.inr (.inr (.inr hb)));exact⟨this.1,aj,this.2.2⟩,fun b hb=>⟨(hS7 b hb).1.imp id fun h=>by omega,(hS7 b hb).2⟩,or7⟩
end
end Go.AM
namespace Go.AM
set_option maxRecDepth 1000000
open Go Go.Conc Go.Proofs
theorem afQ (p d b2 n c s1:Nat)(a w b us:ae)(ra:Option Addr):gN 114 0 99 [0,1] [.agg #[vP p 0,.bool false,a,w,b,us],vP d 0]
 [dN [some (vP p 0),some (.bool false),some a,some w,some b,some us] b2,
  .mem (eW 4 b2 2) (.agg #[a,w,b,us]),
  .mem (aP b2 1) (.bool false),
  eE,
  .mem (aP b2 0) (vP p 0),
  .mem (gk (vP b2 0)) (vI s1),
  oY,
  .gD (.func (.func 115) #[.agg #[a,w,b,us]] #[]) [vP d 0] (.tuple #[.slice ra n c,vI 0]),
  .mem (cZ (vI s1) (vP b2 0) (eI ab 147 (vP b2 0))) undef,
  oY,
  .mem (gJ p 1 (.slice ra n c)) undef]
 .ret [4] [vI 0]:=jz
theorem afP (p d b2 n c s1:Nat)(a w b us:ae)(ra:Option Addr):gN 114 0 99 [0,1] [.agg #[vP p 0,.bool true,a,w,b,us],vP d 0]
 [dN [some (vP p 0),some (.bool true),some a,some w,some b,some us] b2,
  .mem (eW 4 b2 2) (.agg #[a,w,b,us]),
  .mem (aP b2 1) (.bool true),
  oZ,
  iR 6 b2 (.agg #[vP p 0,.bool true,a,w,b,us]),
  .mem (aP b2 0) (vP p 0),
  .mem (gk (vP b2 0)) (vI s1),
  oY,
  .gD (.func (.func 148) #[.agg #[vP p 0,.bool true,a,w,b,us]] #[]) [vP d 0] (.tuple #[.slice ra n c,vI 0]),
  .mem (cZ (vI s1) (vP b2 0) (eI ab 147 (vP b2 0))) undef,
  oY,
  .mem (gJ p 1 (.slice ra n c)) undef]
 .ret [4] [vI 0]:=jz
theorem aan:nQ 114 2 [4]=true:=aY
theorem Fl:(dZ (cI 114)).length<=99:=af aY
def Wh (m m':Mem)(d:Nat)(SB S:Nat->Prop)(res:List (List V))(sv:ae):Prop:=
 ∃EO rows cs bo al bm am rl AE,Kp m m' S/\dp m' d EO rows cs bo al bm am rl/\(aT bH 1).R AE res m' sv/\(∀b,AE b->¬EO b/\m.next<=b/\b<m'.next)/\∀b,EO b->(SB b\/m.next<=b)/\b<m'.next
section
variable {K:gS}{m0 m:Mem}{B BT S SB:Nat->Prop}{p d:Nat}{Tb:Nat->Option (List (List V))}{v:ae}
theorem aaZ (hK:AY K)(cm:Calm m){iU:List (List Nat)}{cs:List ae}{bo bm:Nat->Option Nat}{al am:Option Nat}{rl:ae}(D:dp m d SB iU cs bo al bm am rl){s:tu}(hb:pU.R B (s,[]) m v)(lr:fV BT Tb m)(mL:∀b,B b\/BT b->¬SB b/\b<m.next)
  (er:oE Tb s)(h0:eY Tb s≠[]):
  ∃sv m',Ev K 115 [v,vP d 0] m (.tuple #[sv,vI 0]) m'/\Wh m m' d SB SB (eY Tb s) sv/\∃BO BE:Nat->Prop,lP bH 1 BO BE m' (eY Tb s) sv/\∀b,BO b\/BE b->m.next<=b/\b<m'.next:=by
 obtain⟨xs,xw,xi,uv,rfl,nD,my⟩:=hb;obtain⟨D0,O3⟩:=D.exact;have hf0:∀b,B b\/BT b->¬As d bo bm al am b/\b<m.next:=fun b hb=>⟨fun h=>(mL b hb).1 (O3 b h).1,(mL b hb).2⟩
 obtain⟨ua,uc,rfl⟩:=aT.form my;obtain⟨b2,adE⟩:∃b,b=m.next:=⟨_,rfl⟩;obtain⟨m1,e1,o1,k1,n1,_⟩:=aV cm.gd [xs,xw,xi,.slice ua 0 uc];rw[<-adE]at e1 o1;have AU:=cm.ext k1;have l1:eW 3 b2 0 m1=some (.agg #[xs,xw,xi],m1):=bW (vs:=[xs,xw,xi]) o1 rfl (af rfl);obtain⟨_,_,_,e,q1,q2,q3⟩:=uB.ext nD k1 fun _ _ h=>h
 cases e;obtain⟨rv,m2,sU,gQ,uH,pj,DX,EM,KH,e2,k2,D2,qr,Mx⟩:=aaY hK AU (D0.aR k1) q1 q2 q3 (lr.ext k1 fun _ _ h=>h) (fun b hb=>⟨(hf0 b hb).1,by have :=(hf0 b hb).2;omega⟩) er.src er.join er.jl er.wh er.max er.rU er.il;have Pk:=AU.ext k2;have n2:=k2.next;obtain⟨D3,Zc⟩:=D2.exact;have yD:(eY Tb s).length<=1000:=by
  have :(eY Tb s).length<=0+(iq Tb s.2.1 (gf Tb s.1 0 [eU])).length:=ry (fun i=>ai _) _ _ [];have :=er.max;omega
 rw[show xO Tb s.2.2 (iq Tb s.2.1 (gf Tb s.1 0 [eU]))=eY Tb s from rfl]at qr;obtain⟨sv,m3,e3,k3,L3,q3'⟩:=aiH (K:=K) Pk.gd qr (fun h=>absurd h h0) (fun b h=>h.2) aj;have n3:=k3.next;have alj:¬As d bo bm al am b2:=fun h=>by have :=(O3 _ h).2.1;omega
 have l2:aP b2 3 m3=some (.slice ua 0 uc,m3):=aN ((o1.ext k2 alj).aR k3) rfl;have kg:Kp m m2 SB:=k1.tA.trans (k2.mono (S':=SB) fun b hb h=>(O3 b h).1) fun _ _ h=>h
 have D4:=D3.aR k3;obtain⟨_,hD4⟩:=D4.exact;obtain⟨t0,w0,e0⟩:=cX (K:=K) (m:=m) (m':=m3) (tm:=entry [.agg #[xs,xw,xi,.slice ua 0 uc],vP d 0]) (afO d 0 uc ua xs xw xi rv sv b2) rfl (.mem e1<| .mem l1<| .call e2<| .cond rfl<| .call e3<| .mem l2 .nil);obtain⟨e,t1,m5,he,zj,rfl,rfl,hg⟩:=fL (K:=K) (nt:=j0 115) (a:=iy 115 [6]) 0
  (Inv:=fun j tm m'=>m'=m3/\dL [1,8,26,27,28] tm=[vP d 0,sv,.slice ua 0 uc,vI (0:Nat),vI (0:Nat)])
  (dQ:=fun e tm m'=>e= .exit 0/\m'=m3/\dL [8] tm=[sv])
  (fun j tm m' hj=>absurd hj aj)
  (by
   rintro tm m' ⟨rfl,hg⟩;obtain⟨t2,fO,gp⟩:=bK (K:=K) (m:=m') (m':=m') Yd (afN d 0 uc 0 ua sv) hg (.cond (dF Qu) .nil);exact⟨_,t2,m',lQ,fO,rfl,rfl,gp⟩)
  (tm:=t0) (m:=m3) ⟨rfl,e0⟩ aj
 obtain⟨t2,h2,H8⟩:=cX (K:=K) (m:=m5) (m':=m5) (afM sv) hg .nil;have hnD:∀b,iS m1 m2 b->(m5.blk b).sz=4->¬As d uH DX pj EM b:=fun b h h4 h'=>by rcases(hD4 b h').2.2 with h|h|h<;>omega
 refine⟨sv,m5,iO agV (aU.cut w0 (aU.qz zj (aU.last h2 Qh))) (.inr rfl) H8,⟨As d uH DX pj EM,sU,gQ,uH,pj,DX,EM,KH,fun b=>iS m2 m5 b\/(iS m1 m2 b/\¬As d uH DX pj EM b),kg.aS k3,D4,?_,fun b hb=>?_,fun b hb=>?_⟩,_,_,L3,fun b hb=>?_⟩
 ·obtain⟨c,h1,h2,h3⟩:=q3';have mr:∀b o n c,sv=vL b o n c->iS m2 m5 b:=fun b o n c e=>by
   rcases L3 with⟨h,_⟩|⟨b',_,_,e',h,_⟩
   ·exact absurd h h0
   ·rw[e']at e;cases e;exact h.1
  refine⟨c,h1,fun b o n c e=> .inl (mr b o n c e),h3.mono fun x u _ w=>⟨bH.mono (bH.sz4 w.1) fun b hb=>?_,w.2⟩⟩;rcases hb.1 with h|h
  ·exact .inl h
  ·exact .inr ⟨h,hnD b h hb.2⟩
 ·rcases hb with h|⟨h,hn⟩
  ·exact⟨fun h'=>by have :=(Zc _ h').2.1;have :=h.1;omega,by have :=h.1;omega,h.2⟩
  ·exact⟨hn,by have :=h.1;omega,by have :=h.2;omega⟩
 ·obtain⟨h1,h2,_⟩:=Zc b hb;exact⟨h1.elim (fun h=> .inl (O3 b h).1) fun h=> .inr (by have :=h.1;omega),aj⟩
 ·rcases hb with h|h
  ·exact⟨by have :=h.1;omega,h.2⟩
  ·exact⟨by have :=h.1;omega,by have :=h.2;omega⟩
def DL (m0 m:Mem)(d:Nat)(S BT:Nat->Prop)(Tb:Nat->Option (List (List V))):Prop:=
 ∃SB rows cs bo al bm am rl,Kp m0 m S/\dp m d SB rows cs bo al bm am rl/\(∀b,SB b->(b=d\/m0.next<=b)/\b<m.next)/\fV BT Tb m/\∀b,BT b->¬SB b/\b<m.next
theorem Ii (Di:Calm m0){m1 m2:Mem}(k0:Kp m0 m S)(u6:∀b,SB b->(b=d\/m0.next<=b)/\b<m.next)(lr:fV BT Tb m)(hBT:∀b,BT b->¬SB b/\b<m.next)(hd:S d)(k1:Kp m m1 fu){res:List (List V)}{sv:ae}(hS1:∀b,SB b->b<m.next)(O:Wh m1 m2 d SB (fun b=>SB b\/b=p) res sv){cl r:ae}(op:Obj m2 p 0 [cl,r])(hp:p<m0.next/\m0.base<=p/\p≠d/\S p)(WA:¬BT p):
  ∃m' HZ,gJ p 1 sv m2=some (undef,m')/\Kp m m' (fun b=>b=d\/b=p\/m0.next<=b)/\DL m0 m' d S HZ (re p res Tb)/\∀b,HZ b->BT b\/b=p\/m.next<=b:=by
 obtain⟨EO,rows,cs,bo,al,bm,am,rl,AE,k2,D2,q2,hAE,Vn⟩:=O;have n0:=k0.next;have n1:=k1.next;have n2:=k2.next;have Fz:Kp m m2 (fun b=>SB b\/b=p):=k1.tA.trans k2 fun _ _ h=>h
 have kg:Kp m0 m2 S:=k0.trans Fz fun b hb h=>h.elim (fun h=>(u6 b h).1.elim (fun h=>h▸hd) fun h=>by omega) fun h=>h▸hp.2.2.2
 have Pk:=Di.ext kg;have YR:¬SB p:=fun h=>(u6 p h).1.elim hp.2.2.1 fun h=>by omega
 have ahA:¬EO p:=fun h=>(Vn p h).1.elim YR fun h=>by omega
 have wp:Own m2 p:=Pk.own (by rw[kg.base];exact hp.2.1);obtain⟨m',e,o,k⟩:=iZ (o:=1) sv op (wp.may _ _) (af rfl) (aT.kI q2).1;have n3:=k.next;have hAp:∀b,AE b->¬b=p:=fun b hb e=>by have :=(hAE b hb).2.1;omega
 refine⟨m',fun b=>BT b\/b=p\/AE b,e,(Fz.mono (S':=fun b=>b=d\/b=p\/m0.next<=b) fun b _ h=>h.elim (fun h=>(u6 b h).1.imp id .inr) fun h=> .inr (.inl h)).trans k fun _ _ h=> .inr (.inl h),⟨EO,rows,cs,bo,al,bm,am,rl,kg.trans k fun b _ h=>h▸hp.2.2.2,D2.ext k fun b hb h=>ahA (h▸hb),fun b hb=>?_,?_,fun b hb=>?_⟩,fun b hb=>hb.imp id fun h=>h.imp id fun h=>by have :=(hAE b h).2.1;omega⟩
 ·have :=Vn b hb;exact⟨this.1.elim (fun h=>(u6 b h).1) fun h=> .inr aj,aj⟩
 ·intro q rows hq;unfold re at hq
  split at hq
  ·rename_i e';subst e';cases hq;exact⟨.inr (.inl rfl),cl,sv,o,(aT bH 1).mono ((aT bH 1).ext q2 k hAp) fun b hb=> .inr (.inr hb)⟩
  ·obtain⟨h1,c1,r1,h2,h3⟩:=((lr.ext Fz fun b hb h=>h.elim (hBT b hb).1 fun h=>WA (h▸hb)).ext k fun b hb h=>WA (h▸hb)) q rows hq;exact⟨.inl h1,c1,r1,h2,(aT bH 1).mono h3 fun b hb=> .inl hb⟩
 ·rcases hb with h|h|h
  ·have :=hBT b h;exact⟨fun h'=>(Vn b h').1.elim this.1 fun h'=>by omega,aj⟩
  ·exact⟨fun h'=>ahA (h▸h'),aj⟩
  ·have :=hAE b h;exact⟨this.1,aj⟩
variable {cl r0 xa xw xb xu:ae}
theorem aiK (hK:AY K)(Di:Calm m0)(W:DL m0 m d S BT Tb)(hd:S d)(op:Obj m p 0 [cl,r0])(hp:p<m0.next/\m0.base<=p/\p≠d/\S p)(WA:¬BT p){s:tu}(hb:pU.R B (s,[]) m (.agg #[xa,xw,xb,xu]))(hB:∀b,B b->b<m0.next/\b≠d/\b≠p)(er:oE Tb s)(h0:eY Tb s≠[]):
  ∃m' HZ,Ev K 114 [.agg #[vP p 0,.bool false,xa,xw,xb,xu],vP d 0] m (vI 0) m'/\Kp m m' (fun b=>b=d\/b=p\/m0.next<=b)/\DL m0 m' d S HZ (re p (eY Tb s) Tb)/\∀b,HZ b->BT b\/b=p\/m.next<=b:=by
 obtain⟨SB,rows,cs,bo,al,bm,am,rl,k0,D,u6,lr,hBT⟩:=W;have n0:=k0.next;have cm:=Di.ext k0;obtain⟨b2,my⟩:∃b,b=m.next:=⟨_,rfl⟩;obtain⟨m1,e1,o1,k1,n1,_⟩:=aV cm.gd [vP p 0,.bool false,xa,xw,xb,xu];rw[<-my]at e1 o1;have hBS:∀b,B b\/BT b->¬SB b/\b<m1.next:=fun b hb=>by
  rcases hb with h|h
  ·have :=hB b h;exact⟨fun h'=>(u6 b h').1.elim this.2.1 fun h'=>by omega,aj⟩
  ·have :=hBT b h;exact⟨this.1,aj⟩
 obtain⟨sv,m2,e2,O,_⟩:=aaZ (K:=K) hK (cm.ext k1) (D.aR k1) (pU.ext hb k1 fun _ _ h=>h) (lr.ext k1 fun _ _ h=>h) hBS er h0;have YR:¬SB p:=fun h=>(u6 p h).1.elim hp.2.2.1 fun h=>by omega
 have k2:Kp m1 m2 SB:=by obtain⟨_,_,_,_,_,_,_,_,_,h,_⟩:=O;exact h
 have O':Wh m1 m2 d SB (fun b=>SB b\/b=p) (eY Tb s) sv:=by
  obtain⟨EO,r,c,o,a,o',a',l,AE,h,hh⟩:=O;exact⟨EO,r,c,o,a,o',a',l,AE,h.mono fun _ _ h=> .inl h,hh⟩
 obtain⟨m3,HZ,e3,k3,W3,hB3⟩:=Ii Di k0 u6 lr hBT hd k1 (fun b hb=>(u6 b hb).2) O' ((op.aR k1).ext k2 YR) hp WA;have o12:=o1.ext k2 (show¬SB b2 from fun h=>by have :=(u6 _ h).2;omega);obtain⟨ra,c,wW⟩:∃ra c,sv= .slice ra (eY Tb s).length c:=by obtain⟨_,_,_,_,_,_,_,_,_,_,_,q,_⟩:=O;exact aT.form q
 subst wW;have eD:(m2.blk b2).aZ=(m1.blk b2).aZ:=by rw[k2.blk b2 aj fun h=>by have :=(u6 _ h).2;omega]
 obtain⟨t2,h2,H8⟩:=cX (K:=K) (m:=m) (m':=m3) (tm:=entry [.agg #[vP p 0,.bool false,xa,xw,xb,xu],vP d 0]) (afQ p d b2 (eY Tb s).length c (m1.blk b2).aZ xa xw xb xu ra) rfl
  (.mem e1<| .mem (bW (vs:=[xa,xw,xb,xu]) o1 rfl (af rfl))<| .mem (aN o1 rfl)<| .cond rfl<| .mem (aN o1 rfl)<| .mem (dW _ _)<| .mem (bM (cm.ext k1).gd)<| .gD e2<| .mem (wE o12 rfl eD)<| .mem (bM ((cm.ext k1).ext k2).gd)<| .mem e3 .nil)
 exact⟨m3,HZ,iO aan (aU.last h2 Fl) (.inr rfl) H8,k3,W3,hB3⟩
theorem aiJ (hK:AY K)(Di:Calm m0)(W:DL m0 m d S BT Tb)(hd:S d)(op:Obj m p 0 [cl,r0])(hp:p<m0.next/\m0.base<=p/\p≠d/\S p)(WA:¬BT p){first again:tu}{iT:Bool}{res:List (List V)}(hb:pU.R B (first,[(iT,again)]) m (.agg #[xa,xw,xb,xu]))(hB:∀b,B b->b<m0.next/\b≠d/\b≠p)
  (er:oE Tb first)(h1:iT=false->∀x∈eY Tb first,x.length=1)(hl:(od iT [] (eY Tb first)).length<=1000)(hr:Rds (fun f=>re p f Tb) iT again 1 (od iT [] (eY Tb first)) (od iT [] (eY Tb first)) res):
  ∃m' HZ,Ev K 114 [.agg #[vP p 0,.bool true,xa,xw,xb,xu],vP d 0] m (vI 0) m'/\Kp m m' (fun b=>b=d\/b=p\/m0.next<=b)/\DL m0 m' d S HZ (re p res Tb)/\∀b,HZ b->BT b\/b=p\/m.next<=b:=by
 obtain⟨SB,rows,cs,bo,al,bm,am,rl,k0,D,u6,lr,hBT⟩:=W;have n0:=k0.next;have cm:=Di.ext k0;obtain⟨b2,my⟩:∃b,b=m.next:=⟨_,rfl⟩;obtain⟨m1,e1,o1,k1,n1,_⟩:=aV cm.gd [vP p 0,.bool true,xa,xw,xb,xu];rw[<-my]at e1 o1;have AU:=cm.ext k1;have YR:¬SB p:=fun h=>(u6 p h).1.elim hp.2.2.1 fun h=>by omega
 have hBS:∀b,B b\/BT b->¬SB b/\b≠p/\b<m1.next:=fun b hb=>by
  rcases hb with h|h
  ·have :=hB b h;exact⟨fun h'=>(u6 b h').1.elim this.2.1 fun h'=>by omega,this.2.2,aj⟩
  ·have :=hBT b h;exact⟨this.1,fun e=>WA (e▸h),aj⟩
 obtain⟨m2,sv,EO,sU,gQ,uH,pj,DX,EM,KH,AE,e2,k2,D2,q2,hAE,Vn,r,op2⟩:=amr (K:=K) hK AU (D.aR k1) (fun b hb=>by have :=(u6 b hb).2;omega) (op.aR k1) (AU.own (by rw[k1.base,k0.base];exact hp.2.1)) YR (pU.ext hb k1 fun _ _ h=>h) (lr.ext k1 fun _ _ h=>h) hBS er h1 hl hr;obtain⟨m3,HZ,e3,k3,W3,hB3⟩:=Ii Di k0 u6 lr hBT hd k1 (fun b hb=>(u6 b hb).2) ⟨EO,sU,gQ,uH,pj,DX,EM,KH,AE,k2,D2,q2,hAE,Vn⟩ op2 hp WA;have ah3:¬(SB b2\/b2=p):=fun h=>h.elim (fun h=>by have :=(u6 _ h).2;omega) fun h=>by omega
 have o12:=o1.ext k2 ah3;obtain⟨ra,c,wW⟩:=aT.form q2;subst wW;have eD:(m2.blk b2).aZ=(m1.blk b2).aZ:=by rw[k2.blk b2 aj ah3]
 obtain⟨t2,h2,H8⟩:=cX (K:=K) (m:=m) (m':=m3) (tm:=entry [.agg #[vP p 0,.bool true,xa,xw,xb,xu],vP d 0]) (afP p d b2 res.length c (m1.blk b2).aZ xa xw xb xu ra) rfl
  (.mem e1<| .mem (bW (vs:=[xa,xw,xb,xu]) o1 rfl (af rfl))<| .mem (aN o1 rfl)<| .cond rfl<| .mem (bW (vs:=[vP p 0,.bool true,xa,xw,xb,xu]) o1 rfl (af rfl))<| .mem (aN o1 rfl)<| .mem (dW _ _)<| .mem (bM AU.gd)<| .gD e2<| .mem (wE o12 rfl eD)<| .mem (bM (AU.ext k2).gd)<| .mem e3 .nil)
 exact⟨m3,HZ,iO aan (aU.last h2 Fl) (.inr rfl) H8,k3,W3,hB3⟩
end
end Go.AM
namespace Go.AM
set_option maxRecDepth 1000000
open Go Go.Conc Go.Proofs
theorem ajB (b1 b2 d pp n c i p b6:Nat)(of:Bool)(a w b us:ae):dX 76 [3] 0 99 [1,2,4,16,17,18] [vP b1 0,vP b2 0,vP d 0,vL pp 0 n c,vI n,vI i]
 [bP (gB i n) true,
  .idx i n i,
  .mem (eW 6 pp (0+i*6)) (.agg #[vP p 0,.bool of,a,w,b,us]),
  dN [some (.pointer none),some (.bool false),some fE,some .nilIface,some fE,some fE] b6,
  jK b6 0 [vP p 0,.bool of,a,w,b,us],
  iR 6 b6 (.agg #[vP p 0,.bool of,a,w,b,us]),
  .call 114 [.agg #[vP p 0,.bool of,a,w,b,us],vP d 0] (vI 0),
  eE]
 .normal [1,2,4,16,17,18] [vP b1 0,vP b2 0,vP d 0,vL pp 0 n c,vI n,vI (fg i 1)]:=jz
abbrev yx:=Nat×Bool×Wa
def J5:nU yx where
 R B x m v:=∃sv wv iv uv,v= .agg #[vP x.1 0,.bool x.2.1,sv,wv,iv,uv]/\pU.R B x.2.2 m (.agg #[sv,wv,iv,uv])
 mono:=by
  rintro B B' x m v ⟨sv,wv,iv,uv,e,h⟩ k;exact⟨sv,wv,iv,uv,e,pU.mono h k⟩
 ext:=by
  rintro B S x m m' v ⟨sv,wv,iv,uv,e,h⟩ k hs;exact⟨sv,wv,iv,uv,e,pU.ext h k hs⟩
inductive nE:(Nat->Option (List (List V)))->List yx->(Nat->Option (List (List V)))->Prop
 |nil {Tb:Nat->Option (List (List V))}:nE Tb [] Tb
 |one {Tb T':Nat->Option (List (List V))} {p:Nat}{s:tu}{l:List yx} (er:oE Tb s) (h0:eY Tb s≠[]) (h:nE (re p (eY Tb s) Tb) l T'):nE Tb ((p,false,(s,[]))::l) T'
 |rnd {Tb T':Nat->Option (List (List V))} {p:Nat}{first again:tu}{iT:Bool}{res:List (List V)} {l:List yx} (er:oE Tb first) (h1:iT=false->∀x∈eY Tb first,x.length=1) (hl:(od iT [] (eY Tb first)).length<=1000)
   (hr:Rds (fun f=>re p f Tb) iT again 1 (od iT [] (eY Tb first)) (od iT [] (eY Tb first)) res) (h:nE (re p res Tb) l T'):nE Tb ((p,true,(first,[(iT,again)]))::l) T'
section
variable {K:gS}{m0 m:Mem}{B BT S:Nat->Prop}{d:Nat}{Tb T':Nat->Option (List (List V))}
theorem amx (hK:AY K)(Di:Calm m0)(W:DL m0 m d S BT Tb)(hd:S d){x:yx}{l:List yx}(hx:nE Tb (x::l) T')(op:∃cl r,Obj m x.1 0 [cl,r])(hp:x.1<m0.next/\m0.base<=x.1/\x.1≠d/\S x.1)(WA:¬BT x.1){xa xw xb xu:ae}(hb:pU.R B x.2.2 m (.agg #[xa,xw,xb,xu]))(hB:∀b,B b->b<m0.next/\b≠d/\b≠x.1):
  ∃m' HZ T1,Ev K 114 [.agg #[vP x.1 0,.bool x.2.1,xa,xw,xb,xu],vP d 0] m (vI 0) m'/\Kp m m' (fun b=>b=d\/b=x.1\/m0.next<=b)/\DL m0 m' d S HZ T1/\nE T1 l T'/\∀b,HZ b->BT b\/b=x.1\/m.next<=b:=by
 obtain⟨cl,r,op⟩:=op;cases hx with
 |one er h0 h=>
  obtain⟨m',HZ,e,k,W',H7⟩:=aiK (K:=K) hK Di W hd op hp WA hb hB er h0;exact⟨m',HZ,_,e,k,W',h,H7⟩
 |rnd er h1 hl hr h=>
  obtain⟨m',HZ,e,k,W',H7⟩:=aiJ (K:=K) hK Di W hd op hp WA hb hB er h1 hl hr;exact⟨m',HZ,_,e,k,W',h,H7⟩
theorem alW (hK:AY K){gR:List KY}{parts:List yx}{s:tu}{pv J' xa xw xb xu:ae}(cm:Calm m)(hc:qF.R B gR m J')(hpv:(aT J5 6).R B parts m pv)(hx:pU.R B (s,[]) m (.agg #[xa,xw,xb,xu]))(lr:fV BT Tb m)(hBm:∀b,B b\/BT b->b<m.next)
  (MG:gR.length<9000)(dm:parts.length<9000)(wY:∀x∈parts,(∃cl r,Obj m x.1 0 [cl,r])/\m.base<=x.1/\¬BT x.1/\¬B x.1)(JB:(parts.map (·.1)).Nodup)(hpt:nE Tb parts T')(er:oE T' s)(h0:eY T' s≠[])(hn:(eY T' s).length<65536)(hs:Ru K (eY T' s).length)(hlen:∀x∈eY T' s,x.length<99999):
  ∃v m',Ev K 76 [.agg #[pv,J',xa,xw,xb,xu]] m (.tuple #[v,vI 0]) m'/\Kp m m' (fun b=>∃x∈parts,b=x.1)/\sQ (iS m m') gR (Iz (eY T' s)) 0 m' v:=by
 obtain⟨ca,cc,JL⟩:=aT.form hc;obtain⟨pa,pc,rfl⟩:=aT.form hpv;have g:=cm.gd;obtain⟨ua,uc,rfl⟩:∃ua uc,xu= .slice ua 0 uc:=by
  obtain⟨_,_,_,_,e,_,q⟩:=hx;obtain⟨a,c,e'⟩:=aT.form q;cases e;exact⟨a,c,e'⟩
 obtain⟨b1,nD⟩:∃b,b=m.next:=⟨_,rfl⟩;obtain⟨m1,e1,o1,k1,n1,_⟩:=aV g [.slice pa parts.length pc,J',xa,xw,xb,.slice ua 0 uc];obtain⟨b2,my⟩:∃b,b=m1.next:=⟨_,rfl⟩;obtain⟨m2,e2,o2,k2,n2,_⟩:=aV (g.ext k1) [.slice none 0 0,.slice none 0 0,.slice none 0 0,vI 0];have kg:=k1.aS k2;obtain⟨d,hd⟩:∃b,b=m2.next:=⟨_,rfl⟩;obtain⟨m3,e3,o3,k3,n3,_⟩:=aV (g.ext kg) VI;rw[<-nD]at e1 o1;rw[<-my]at e2 o2;rw[<-hd]at e3 o3;have jG:=kg.aS k3;have te:=cm.ext jG;have o13:=(o1.aR k2).aR k3;have l1:aP b1 0 m3=some (.slice pa parts.length pc,m3):=aN o13 rfl;obtain⟨A,hA⟩:∃A,A=ae.agg #[.slice pa parts.length pc,J',xa,xw,xb,.slice ua 0 uc]:=⟨_,rfl⟩;rw[<-hA];obtain⟨t0,w0,e0⟩:=cX (K:=K) (m:=m) (m':=m3) (tm:=entry [A]) (ajA parts.length pc gR.length cc 0 uc pa ca ua xa xw xb b1 b2 d) (by rw[hA,JL];rfl) (by rw[JL]at e1;exact .mem e1<| .mem e2<| .mem e3<| .mem l1 .nil);have s9:m3.base<=d:=by
  have h1:=te.gd.bf;have h2:=g.fn;have h3:=jG.floor;have h4:=jG.base;have :=g.bf;omega
 have n03:=jG.next;obtain⟨S,hS⟩:∃S:Nat->Prop,S=fun b=>b=d\/∃x∈parts,b=x.1:=⟨_,rfl⟩
 have hSd:S d:=by rw[hS];exact .inl rfl
 have hpn:∀x∈parts,x.1<m.next:=fun x hx=>by obtain⟨⟨_,_,o⟩,_⟩:=wY x hx;exact o.lt
 have hSn:∀b,S b->b<m.next\/b=d:=fun b h=>by
  rw[hS]at h;exact h.elim .inr fun⟨x,hx,e⟩=> .inl (e▸hpn x hx)
 have W3:DL m3 m3 d S BT Tb:=⟨_,_,_,_,_,_,_,_,.refl _ _,MW o3 s9,fun b hb=>⟨.inl hb,aj⟩,lr.ext jG fun _ _ h=>h,fun b hb=>by have :=hBm b (.inr hb);exact⟨fun e=>by omega,aj⟩⟩;have hBS:∀b,B b->¬S b:=fun b hb h=>by
  rw[hS]at h;rcases h with h|⟨x,hx,h⟩
  ·have :=hBm b (.inl hb);omega
  ·exact(wY x hx).2.2.2 (h▸hb)
 obtain⟨e,t1,m5,he,zj,rfl,BT5,hg,W5⟩:=fL (K:=K) (nt:=j0 76) (a:=iy 76 [3]) parts.length
  (Inv:=fun j tm M=>∃BT1 T1,dL [1,2,4,16,17,18] tm=[vP b1 0,vP b2 0,vP d 0,.slice pa parts.length pc,vI (parts.length:Int),vI j]/\DL m3 M d S BT1 T1/\nE T1 (parts.drop j) T'/\∀x∈parts.drop j,¬BT1 x.1/\∃cl r,Obj M x.1 0 [cl,r])
  (dQ:=fun e tm M=>e= .exit 0/\∃BT1,dL [1,2,4] tm=[vP b1 0,vP b2 0,vP d 0]/\DL m3 M d S BT1 T')
  (by
   rintro j tm M hj ⟨BT1,T1,hg,W,hP,hR⟩
   left
   rw[List.drop_eq_getElem_cons hj]at hP hR;obtain⟨h1,h2⟩:=hR _ (List.mem_cons_self ..);have UH:parts[j]∈parts:=List.getElem_mem hj;have hx0:=wY _ UH;have kM:Kp m3 M S:=by obtain⟨_,_,_,_,_,_,_,_,h,_⟩:=W;exact h
   have dH:∀y∈parts.drop (j+1),y.1≠parts[j].1:=fun y hy e=>by
    obtain⟨i,hi,rfl⟩:=List.getElem_of_mem hy;rw[List.getElem_drop]at e;have :=(List.getElem_inj (xs:=parts.map (·.1)) (i:=j+1+i) (j:=j) (h₀:=by simp at hi⊢;omega) (h₁:=by simpa using hj) JB).1 (by simpa using e);omega
   obtain⟨pp,c',u,cu,e,_,ou,q1,q2,⟨ya,yw,yb,yu,rfl,sF⟩,ov⟩:=aT.get ((aT J5 6).ext ((aT J5 6).ext hpv jG fun _ _ h=>h) kM hBS) hj;cases e;generalize parts[j]=x at*;have gM:=(te.ext kM).gd;obtain⟨m6,m7,e6,e7,o7,k7,n7⟩:=iX gM [.pointer none,.bool false,.slice none 0 0,.nilIface,.slice none 0 0,.slice none 0 0] [vP x.1 0,.bool x.2.1,ya,yw,yb,yu] rfl (aB.2 fun y hy=>ov.2 y hy);have W7:DL m3 m7 d S BT1 T1:=by
    obtain⟨SB,r,c,o,a,o',a',l,h1,h2,h3,h4,h5⟩:=W;have :=k7.next;exact⟨SB,r,c,o,a,o',a',l,h1.aS k7,h2.aR k7,fun b hb=>⟨(h3 b hb).1,by have :=(h3 b hb).2;omega⟩,h4.ext k7 fun _ _ h=>h,fun b hb=>⟨(h5 b hb).1,by have :=(h5 b hb).2;omega⟩⟩
   have hxn:=hpn x UH;obtain⟨m8,BT8,T8,e8,k8,W8,hP8,hB8⟩:=amx (K:=K) hK te W7 hSd hP (by obtain⟨cl,r,o⟩:=h2;exact⟨cl,r,o.aR k7⟩) ⟨aj,by rw[jG.base];exact hx0.2.1,aj,by rw[hS];exact .inr ⟨x,UH,rfl⟩⟩ h1 (pU.ext sF k7 fun _ _ h=>h) fun b hb=>by
    have :=hBm b (.inl hb);exact⟨aj,aj,fun e=>hx0.2.2.2 (e▸hb)⟩
   obtain⟨t2,fO,gp⟩:=bK (K:=K) TH (ajB b1 b2 d pp parts.length pc j x.1 M.next x.2.1 ya yw yb yu) hg (.cond (Jf hj)<| .idx rfl hj<| .mem (bW (vs:=[vP x.1 0,.bool x.2.1,ya,yw,yb,yu]) ou (by rw[Nat.zero_add];exact q1) aj)<| .mem e6<| .mem e7<| .mem (bW (vs:=[vP x.1 0,.bool x.2.1,ya,yw,yb,yu]) o7 rfl (af rfl))<| .call e8<| .cond rfl .nil);rw[add1 aj]at gp;have n37:=kM.next;refine⟨t2,m8,fO,BT8,T8,gp,W8,hP8,fun y hy=>?_⟩;obtain⟨a1,cl,r,a2⟩:=hR y (List.mem_cons_of_mem _ hy);have hyn:=hpn y (List.mem_of_mem_drop hy);refine⟨fun h=>?_,cl,r,(a2.aR k7).ext k8 fun h=>?_⟩
   ·rcases hB8 _ h with h|h|h
    ·exact a1 h
    ·exact dH y hy h
    ·omega
   ·rcases h with h|h|h
    ·omega
    ·exact dH y hy h
    ·omega)
  (by
   rintro tm M ⟨BT1,T1,hg,W,hP,_⟩;rw[List.drop_length]at hP;cases hP;obtain⟨t2,fO,gp⟩:=bK (K:=K) (m:=M) (m':=M) TH (ajy b1 b2 d parts.length pc parts.length pa) hg (.cond (T9 _) .nil);exact⟨_,t2,M,lQ,fO,rfl,BT1,gp,W⟩)
  (tm:=t0) (m:=m3) ⟨BT,Tb,e0,W3,hpt,fun x hx=>⟨(wY x hx).2.2.1,by obtain⟨⟨cl,r,o⟩,_⟩:=wY x hx;exact⟨cl,r,o.aR jG⟩⟩⟩ aj
 obtain⟨SB,amF,cs5,bo5,al5,bm5,am5,rl5,k5,D5,u6,ahn,alA⟩:=W5;have n5:=k5.next;have cm5:=te.ext k5;have adF:¬S b1/\¬S b2:=⟨fun h=>by have :=hSn b1 h;omega,fun h=>by have :=hSn b2 h;omega⟩;have o15:=o13.ext k5 adF.1;have l2:eW 4 b1 2 m5=some (.agg #[xa,xw,xb,.slice ua 0 uc],m5):=bW (vs:=[xa,xw,xb,.slice ua 0 uc]) o15 rfl (af rfl);obtain⟨sv,m6,e6,O6,BO,BE,L6,hB6⟩:=aaZ (K:=K) hK cm5 D5 (pU.ext (pU.ext hx jG fun _ _ h=>h) k5 hBS) ahn (fun b hb=>by
  rcases hb with h|h
  ·have :=hBm b (.inl h);exact⟨fun h'=>(u6 b h').1.elim (fun h=>by omega) fun h=>by omega,aj⟩
  ·exact alA b h) er h0
 have k6:Kp m5 m6 SB:=by obtain⟨_,_,_,_,_,_,_,_,_,h,_⟩:=O6;exact h
 obtain⟨qa,rc,wW⟩:=L6.form;have n6:=k6.next;have DW:=cm5.ext k6;obtain⟨m7,e7,k7,L7⟩:=SH (K:=K) DW.gd L6 hn hs hlen fun b hb=>(hB6 b (.inr hb)).2
 have n7:=k7.next;have k37:Kp m3 m7 S:=(k5.trans k6 fun b hb h=>(u6 b h).1.elim (fun h=>h▸hSd) fun h=>by omega).trans k7 fun b hb h=>by have :=(hB6 b (.inl h)).1;omega
 have cm7:=DW.ext k7;obtain⟨SP,hSP⟩:∃SP:Nat->Prop,SP=fun b=>∃x∈parts,b=x.1:=⟨_,rfl⟩
 have Ml:Kp m m7 SP:=(jG.tA (S:=SP)).trans k37 fun b hb h=>by
  rw[hS]at h;rcases h with h|h
  ·omega
  ·rw[hSP];exact h
 obtain⟨nX,alk⟩:∃b,b=m7.next:=⟨_,rfl⟩;obtain⟨m8,m8',e8,e9,o8,k8,n8⟩:=iX cm7.gd [.slice none 0 0,.slice none 0 0,.slice none 0 0,vI 0] [.slice none 0 0,.slice none 0 0,sv,vI 0] rfl (by rw[wW];rfl);rw[<-alk]at e8 e9 o8;have o17:=o13.ext k37 adF.1;have l3:aP b1 1 m8'=some (J',m8'):=aN (o17.aR k8) rfl;have Wu:=Ml.aS k8;obtain⟨t2,w2,H8⟩:=cX (K:=K) (m:=m5) (m':=m8') (ajC b1 b2 d (eY T' s).length rc gR.length cc ca qa xa xw xb (.slice ua 0 uc) nX) hg (by rw[JL]at l3;rw[wW]at e6 e7 e9;exact .mem l2<| .call e6<| .cond rfl<| .call e7<| .mem e8<| .mem e9<| .mem l3 .nil);have alw:∀b,B b->¬SP b:=fun b hb h=>hBS b hb (by rw[hSP]at h;rw[hS];exact .inr h)
 obtain⟨t3,m9,nv,kv,hx9,hg9,k9,o9,q1,q2⟩:=Q6 (K:=K) (B:=B) (J':=J') (t0:=t2) (m0:=m7) cm7.gd k8 aj aj o8 (qF.ext hc Wu alw) (fun b hb=>by have :=hBm b (.inl hb);exact⟨aj,by have :=Wu.next;omega⟩) MG (by rw[H8,JL]);have n9:=k9.next;have n8':=k8.next;have l4:eW 4 nX 0 m9=some (.agg #[nv,kv,sv,vI 0],m9):=bW (vs:=[nv,kv,sv,vI 0]) o9 rfl (af rfl);have k09:Kp m m9 SP:=Wu.trans k9 fun b hb h=>by omega
 have o29:=(((o2.aR k3).ext k37 adF.2).aR k8).ext k9 (show¬b2=nX by omega);obtain⟨m10,MT,o10,Uv⟩:=kq (o:=0) [nv,kv,sv,vI 0] o29 ((g.own k09 aj).may _ _) (af rfl) (by rw[wW];simp[(aT.kI q1).2,(aT.kI q2).2];exact⟨rfl,rfl⟩);have n10:=Uv.next;obtain⟨t4,w4,e4'⟩:=cX (K:=K) (m:=m9) (m':=m10) (ajw b2 nX nv kv sv) hg9 (.mem l4<| .mem MT .nil);have eR:oA ab 31 (vP b2 0) m10=some (.agg #[nv,kv,sv,vI 0],m10):=ma o10 rfl qJ.1 qJ.2;refine⟨_,m10,Zg akk (aU.cut w0 (aU.qz zj (aU.cut w2 (aU.qz hx9 (aU.last w4 TG))))) (.inr rfl) e4' eR,hSP▸k09.trans Uv fun b hb h=>by omega,⟨nv,kv,sv,rfl,?_,?_,BO,BE,?_,?_⟩⟩
 ·exact(aT (jq Bz) 1).mono ((aT (jq Bz) 1).ext q1 Uv fun b hb h=>by have :=hb.1;omega) fun b hb=>⟨by have :=hb.1;omega,by have :=hb.2;omega⟩
 ·exact(aT (jq vI) 1).mono ((aT (jq vI) 1).ext q2 Uv fun b hb h=>by have :=hb.1;omega) fun b hb=>⟨by have :=hb.1;omega,by have :=hb.2;omega⟩
 ·have akz:Kp m7 m10 (fun y=>y=nX\/y=b2):=(k8.tA.trans (k9.mono fun _ _ h=> .inl h) fun _ _ h=>h).trans (Uv.mono fun _ _ h=> .inr h) fun _ _ h=>h
  exact L7.ext akz fun b hb h=>by have h1:=(hB6 b hb);omega
 ·intro b hb;have h1:=(hB6 b hb);exact⟨aj,aj⟩
end
end Go.AM
namespace Go.AM
set_option maxRecDepth 1000000
open Go Go.Conc Go.Proofs
def eQ (n:Nat):List V:=[cT n]
def wS (pr pg:Nat):Nat->tu
 |0=>([(pr,none),(pg,some (.bin 11 (.jO pr 0 0) (.jO pg 1 0)))],none,[.jO pg 1 1])
 |1=>([(pg,none),(pr,none)],some (.bin 11 (.jO pg 0 0) (.jO pr 1 0)),[.jO pg 0 1])
 |2=>([(pg,none),(pr,some (.bin 23 (.bin 11 (.jO pr 1 0) (.jO pg 0 0)) (.bin 12 (.jO pg 0 1) (.lit (cT 99)))))],none,[.jO pg 0 1])
 |_=>([(pr,none),(pg,none)],some (.no (.bin 37 (.bin 13 (.jO pg 1 0) (.jO pr 0 0)) (.bin 15 (.jO pg 1 0) (.jO pr 0 0)))),[.bin 17 (.jO pg 1 1) (.lit (cT 0))])
section
variable {T:Nat->Option (List (List V))}{pr pg:Nat}{fs:List Nat}{es:List (Nat×Nat)}
theorem HH (hr:T pr=some (fs.map eQ))(hg:T pg=some (es.map jS)){i j:Nat}(hi:i<fs.length)(hj:j<es.length):
  (kj T (sT i j) pr 0 0=cT fs[i]/\kj T (sT i j) pg 1 0=cT es[j].1/\kj T (sT i j) pg 1 1=cT es[j].2)/\
  kj T (sT j i) pr 1 0=cT fs[i]/\kj T (sT j i) pg 0 0=cT es[j].1/\kj T (sT j i) pg 0 1=cT es[j].2:=by
 have e1:(fs.map eQ)[i]?=some (eQ fs[i]):=by rw[List.getElem?_map,List.getElem?_eq_getElem hi];rfl
 have e2:(es.map jS)[j]?=some (jS es[j]):=by rw[List.getElem?_map,List.getElem?_eq_getElem hj];rfl
 exact⟨⟨HF (c:=0) hr e1 rfl,MY (c:=0) hg e2 rfl,MY (c:=1) hg e2 rfl⟩,MY (c:=0) hr e1 rfl,HF (c:=0) hg e2 rfl,HF (c:=1) hg e2 rfl⟩
theorem tT {on:X}{r:List Nat}{b:Bool}(h:eC (kj T r) on=(cd b,0)):RB T (some on) r=b:=by
 show(eC (kj T r) on).1.beq (cd true)=b
 rw[h];exact Sp b
theorem aeV {w:Nat}(hw:w<4)(hr:T pr=some (fs.map eQ))(hg:T pg=some (es.map jS))(hn:fs.length*es.length<=1000)(h1:fs.length<=1000)(h2:es.length<=1000)(hb:∀e∈es,e.2<99):
  oE T (wS pr pg w)/\∀y,y∈eY T (wS pr pg w)↔∃n∈fs,∃b,(n,b)∈es/\y=eQ b:=by
 have JE:es.length*fs.length<=1000:=by rw[Nat.mul_comm];exact hn
 have l1:(fs.map eQ).length=fs.length:=List.length_map ..;have l2:(es.map jS).length=es.length:=List.length_map ..;have sm:=pH;have MS:∀{i j:Nat} (hi:i<fs.length) (hj:j<es.length),fs[i]=es[j].1->∃n∈fs,∃b,(n,b)∈es/\eQ es[j].2=eQ b:=fun hi hj e=>⟨_,List.getElem_mem hi,_,by rw[e];exact List.getElem_mem hj,rfl⟩
 have back:∀{y:List V},(∃n∈fs,∃b,(n,b)∈es/\y=eQ b)->∃i j,∃(hi:i<fs.length) (hj:j<es.length),fs[i]=es[j].1/\y=eQ es[j].2:=fun⟨n,hn,b,hb,e⟩=>by
  obtain⟨i,hi,rfl⟩:=List.getElem_of_mem hn;obtain⟨j,hj,ej⟩:=List.getElem_of_mem hb;exact⟨i,j,hi,hj,by rw[ej],by rw[ej];exact e⟩
 have cC:∀{j:Nat} (hj:j<es.length),es[j].2<99:=fun hj=>hb _ (List.getElem_mem hj)
 obtain rfl|rfl|rfl|rfl:w=0\/w=1\/w=2\/w=3:=aj
 ·have Jz:∀{i j:Nat} (hi:i<fs.length) (hj:j<es.length),eC (kj T (sT i j)) (.bin 11 (.jO pr 0 0) (.jO pg 1 0))=(cd (decide (fs[i]=es[j].1)),0):=fun{i j} hi hj=>by
   obtain⟨⟨c0,c1,c2⟩,_⟩:=HH hr hg hi hj;rw[su (u:=cT fs[i]) (v:=cT es[j].1) (by unfold eC;rw[c0]) (by unfold eC;rw[c1]),Ni]
  refine⟨GB hr hg (by rw[l1,l2];exact hn) (by rw[l1];exact h1) (fun i j hi hj=>?_) (fun _ _ _ _=>trivial) (fun i j hi hj=>?_),fun y=>?_⟩
  ·rw[l1]at hi;rw[l2]at hj;obtain⟨⟨c0,c1,c2⟩,_⟩:=HH hr hg hi hj;exact⟨⟨by show eF _;rw[c0];exact sm _,by show eF _;rw[c1];exact sm _⟩,by rw[Jz hi hj]⟩
  ·rw[l1]at hi;rw[l2]at hj;obtain⟨⟨c0,c1,c2⟩,_⟩:=HH hr hg hi hj;exact⟨by show eF _;rw[c2];exact sm _,rfl⟩
  ·refine(xE hr hg (fun _ _ _ _=>rfl)).trans ⟨fun⟨i,j,hi,hj,h3,_,e⟩=>?_,fun h=>?_⟩
   ·rw[l1]at hi;rw[l2]at hj;rw[tT (Jz hi hj)]at h3;obtain⟨⟨c0,c1,c2⟩,_⟩:=HH hr hg hi hj;have e:y=[kj T (sT i j) pg 1 1]:=e;rw[e,c2];exact MS hi hj (of_decide_eq_true h3)
   ·obtain⟨i,j,hi,hj,e1,e2⟩:=back h;obtain⟨⟨c0,c1,c2⟩,_⟩:=HH hr hg hi hj;exact⟨i,j,by rw[l1];exact hi,by rw[l2];exact hj,(tT (Jz hi hj)).trans (vB e1),rfl,by rw[e2];show _=[kj T (sT i j) pg 1 1];rw[c2];rfl⟩
 ·have Jz:∀{i j:Nat} (hi:i<fs.length) (hj:j<es.length),eC (kj T (sT j i)) (.bin 11 (.jO pg 0 0) (.jO pr 1 0))=(cd (decide (es[j].1=fs[i])),0):=fun{i j} hi hj=>by
   obtain⟨_,c0,c1,c2⟩:=HH hr hg hi hj;rw[su (u:=cT es[j].1) (v:=cT fs[i]) (by unfold eC;rw[c1]) (by unfold eC;rw[c0]),Ni]
  refine⟨GB hg hr (by rw[l1,l2];exact JE) (by rw[l2];exact h2) (fun _ _ _ _=>trivial) (fun j i hj hi=>?_) (fun j i hj hi=>?_),fun y=>?_⟩
  ·rw[l1]at hi;rw[l2]at hj;obtain⟨_,c0,c1,c2⟩:=HH hr hg hi hj;exact⟨⟨by show eF _;rw[c1];exact sm _,by show eF _;rw[c0];exact sm _⟩,by rw[Jz hi hj]⟩
  ·rw[l1]at hi;rw[l2]at hj;obtain⟨_,c0,c1,c2⟩:=HH hr hg hi hj;exact⟨by show eF _;rw[c2];exact sm _,rfl⟩
  ·refine(xE hg hr (fun _ _ _ _=>rfl)).trans ⟨fun⟨j,i,hj,hi,_,h3,e⟩=>?_,fun h=>?_⟩
   ·rw[l1]at hi;rw[l2]at hj;rw[tT (Jz hi hj)]at h3;obtain⟨_,c0,c1,c2⟩:=HH hr hg hi hj;have e:y=[kj T (sT j i) pg 0 1]:=e;rw[e,c2];exact MS hi hj (of_decide_eq_true h3).symm
   ·obtain⟨i,j,hi,hj,e1,e2⟩:=back h;obtain⟨_,c0,c1,c2⟩:=HH hr hg hi hj;exact⟨j,i,by rw[l2];exact hj,by rw[l1];exact hi,rfl,(tT (Jz hi hj)).trans (vB e1.symm),by rw[e2];show _=[kj T (sT j i) pg 0 1];rw[c2];rfl⟩
 ·have Jz:∀{i j:Nat} (hi:i<fs.length) (hj:j<es.length),eC (kj T (sT j i)) (.bin 23 (.bin 11 (.jO pr 1 0) (.jO pg 0 0)) (.bin 12 (.jO pg 0 1) (.lit (cT 99))))=(cd (decide (fs[i]=es[j].1)),0):=fun{i j} hi hj=>by
   obtain⟨_,c0,c1,c2⟩:=HH hr hg hi hj;have a1:=su (op:=11) (cv:=kj T (sT j i)) (x:= .jO pr 1 0) (y:= .jO pg 0 0) (u:=cT fs[i]) (v:=cT es[j].1) (by unfold eC;rw[c0]) (by unfold eC;rw[c1]);have a2:=su (op:=12) (cv:=kj T (sT j i)) (x:= .jO pg 0 1) (y:= .lit (cT 99)) (u:=cT es[j].2) (v:=cT 99) (by unfold eC;rw[c2]) rfl;rw[Ni]at a1;rw[ad9,vB (show es[j].2≠99 by have :=cC hj;omega)]at a2;rw[su a1 a2,ZK,Bool.and_true]
  refine⟨GB hg hr (by rw[l1,l2];exact JE) (by rw[l2];exact h2) (fun j i hj hi=>?_) (fun _ _ _ _=>trivial) (fun j i hj hi=>?_),fun y=>?_⟩
  ·rw[l1]at hi;rw[l2]at hj;obtain⟨_,c0,c1,c2⟩:=HH hr hg hi hj;exact⟨⟨⟨by show eF _;rw[c0];exact sm _,by show eF _;rw[c1];exact sm _⟩,by show eF _;rw[c2];exact sm _,sm 99⟩,by rw[Jz hi hj]⟩
  ·rw[l1]at hi;rw[l2]at hj;obtain⟨_,c0,c1,c2⟩:=HH hr hg hi hj;exact⟨by show eF _;rw[c2];exact sm _,rfl⟩
  ·refine(xE hg hr (fun _ _ _ _=>rfl)).trans ⟨fun⟨j,i,hj,hi,h3,_,e⟩=>?_,fun h=>?_⟩
   ·rw[l1]at hi;rw[l2]at hj;rw[tT (Jz hi hj)]at h3;obtain⟨_,c0,c1,c2⟩:=HH hr hg hi hj;have e:y=[kj T (sT j i) pg 0 1]:=e;rw[e,c2];exact MS hi hj (of_decide_eq_true h3)
   ·obtain⟨i,j,hi,hj,e1,e2⟩:=back h;obtain⟨_,c0,c1,c2⟩:=HH hr hg hi hj;exact⟨j,i,by rw[l2];exact hj,by rw[l1];exact hi,(tT (Jz hi hj)).trans (vB e1),rfl,by rw[e2];show _=[kj T (sT j i) pg 0 1];rw[c2];rfl⟩
 ·have Jz:∀{i j:Nat} (hi:i<fs.length) (hj:j<es.length),eC (kj T (sT i j)) (.no (.bin 37 (.bin 13 (.jO pg 1 0) (.jO pr 0 0)) (.bin 15 (.jO pg 1 0) (.jO pr 0 0))))=(cd (decide (fs[i]=es[j].1)),0):=fun{i j} hi hj=>by
   obtain⟨⟨c0,c1,c2⟩,_⟩:=HH hr hg hi hj;have a1:=su (op:=13) (cv:=kj T (sT i j)) (x:= .jO pg 1 0) (y:= .jO pr 0 0) (u:=cT es[j].1) (v:=cT fs[i]) (by unfold eC;rw[c1]) (by unfold eC;rw[c0]);have a2:=su (op:=15) (cv:=kj T (sT i j)) (x:= .jO pg 1 0) (y:= .jO pr 0 0) (u:=cT es[j].1) (v:=cT fs[i]) (by unfold eC;rw[c1]) (by unfold eC;rw[c0]);rw[aea]at a1;rw[aeb]at a2;have a3:=su (op:=37) a1 a2;rw[ad8]at a3;rw[agX a3,Qm]
   congr 2
   rw[Bool.eq_iff_iff];simp only[Bool.not_eq_true',Bool.or_eq_false_iff,decide_eq_false_iff_not,jQ];omega
  have Y0:∀{i j:Nat} (hi:i<fs.length) (hj:j<es.length),eC (kj T (sT i j)) (.bin 17 (.jO pg 1 1) (.lit (cT 0)))=(cT es[j].2,0):=fun{i j} hi hj=>by
   obtain⟨⟨c0,c1,c2⟩,_⟩:=HH hr hg hi hj;rw[su (u:=cT es[j].2) (v:=cT 0) (by unfold eC;rw[c2]) rfl,VZ (by have :=cC hj;omega)]
  refine⟨GB hr hg (by rw[l1,l2];exact hn) (by rw[l1];exact h1) (fun _ _ _ _=>trivial) (fun i j hi hj=>?_) (fun i j hi hj=>?_),fun y=>?_⟩
  ·rw[l1]at hi;rw[l2]at hj;obtain⟨⟨c0,c1,c2⟩,_⟩:=HH hr hg hi hj;have s0:eF (kj T (sT i j) pr 0 0):=by rw[c0];exact sm _
   have s1:eF (kj T (sT i j) pg 1 0):=by rw[c1];exact sm _
   exact⟨⟨⟨s1,s0⟩,s1,s0⟩,by rw[Jz hi hj]⟩
  ·rw[l1]at hi;rw[l2]at hj;obtain⟨⟨c0,c1,c2⟩,_⟩:=HH hr hg hi hj;exact⟨⟨by show eF _;rw[c2];exact sm _,sm 0⟩,by rw[Y0 hi hj]⟩
  ·refine(xE hr hg (fun i j hi hj=>by rw[l1]at hi;rw[l2]at hj;rw[Y0 hi hj])).trans ⟨fun⟨i,j,hi,hj,_,h3,e⟩=>?_,fun h=>?_⟩
   ·rw[l1]at hi;rw[l2]at hj;rw[tT (Jz hi hj)]at h3;rw[Y0 hi hj]at e;rw[e];exact MS hi hj (of_decide_eq_true h3)
   ·obtain⟨i,j,hi,hj,e1,e2⟩:=back h;exact⟨i,j,by rw[l1];exact hi,by rw[l2];exact hj,rfl,(tT (Jz hi hj)).trans (vB e1),by rw[e2,Y0 hi hj];rfl⟩
end
end Go.AM
namespace Go.AM
set_option maxRecDepth 1000000
open Go Go.Conc Go.Proofs
def rf (a b:List UInt8):ae:= .iface 320 (.agg #[sB a,sB b])
def vT:List UInt8:=[87,73,84,72,32,82,69,67,85,82,83,73,86,69,32,115,40,122,41,32,65,83,32,40,83,69,76,69,67,84,32]
def AG:List UInt8:=[41,44,32,114,40,110,41,32,65,83,32,40,83,69,76,69,67,84,32,122,32,70,82,79,77,32,115,32,85,78,73,79,78,32]
def EZ:List UInt8:=[41,32,83,69,76,69,67,84,32,110,32,70,82,79,77,32,114]
def nG:Nat->List UInt8
 |0=>[83,69,76,69,67,84,32,103,46,98,32,70,82,79,77,32,114,32,74,79,73,78,32,103,32,79,78,32,114,46,110,32,61,32,103,46,97]
 |1=>[83,69,76,69,67,84,32,98,32,70,82,79,77,32,103,44,32,114,32,87,72,69,82,69,32,97,32,61,32,110]
 |2=>[83,69,76,69,67,84,32,121,46,98,32,65,83,32,111,116,104,101,114,32,70,82,79,77,32,103,32,65,83,32,121,32,74,79,73,78,32,114,32,65,83,32,120,32,79,78,32,120,46,110,32,61,32,121,46,97,32,65,78,68,32,121,46,98,32,60,62,32,57,57]
 |_=>[83,69,76,69,67,84,32,103,46,98,32,43,32,48,32,70,82,79,77,32,114,44,32,103,32,87,72,69,82,69,32,78,79,84,32,40,103,46,97,32,60,32,110,32,79,82,32,103,46,97,32,62,32,110,41]
def wTx (w s:Nat):List UInt8:=vT++dg s++AG++nG w++EZ
def wA:Nat->Nat->List (Nat×dJ)
 |0,s=>[bk 66 1 [sB [122]],bk 137 2 [vN s,.string .empty],bk 198 1 [sB [110]],bk 270 2 [rf [] [122],.string .empty],bk 294 3 [sB [115],.string .empty,.nilIface],bk 370 2 [rf [103] [98],.string .empty],bk 499 3 [sB [114],.string .empty,.nilIface,sB [103],.string .empty,.iface 304 (.agg #[vI 11,rf [114] [110],rf [103] [97]])],bk 507 4 [.bool false,vL 370 0 1 1,vL 499 0 2 cD,.nilIface],bk 521 6 [sB [115],vL 66 0 1 1,vL 137 0 1 1,.slice none 0 0,.nilIface,.slice none 0 0,sB [114],vL 198 0 1 1,vL 270 0 1 1,vL 294 0 1 1,.nilIface,vL 507 0 1 cD],bk 572 2 [rf [] [110],.string .empty],bk 595 3 [sB [114],.string .empty,.nilIface]]
 |1,s=>[bk 66 1 [sB [122]],bk 137 2 [vN s,.string .empty],bk 198 1 [sB [110]],bk 270 2 [rf [] [122],.string .empty],bk 294 3 [sB [115],.string .empty,.nilIface],bk 357 2 [rf [] [98],.string .empty],bk 404 3 [sB [103],.string .empty,.nilIface,sB [114],.string .empty,.nilIface],bk 462 4 [.bool false,vL 357 0 1 1,vL 404 0 2 cD,.iface 304 (.agg #[vI 11,rf [] [97],rf [] [110]])],bk 476 6 [sB [115],vL 66 0 1 1,vL 137 0 1 1,.slice none 0 0,.nilIface,.slice none 0 0,sB [114],vL 198 0 1 1,vL 270 0 1 1,vL 294 0 1 1,.nilIface,vL 462 0 1 cD],bk 527 2 [rf [] [110],.string .empty],bk 550 3 [sB [114],.string .empty,.nilIface]]
 |2,s=>[bk 66 1 [sB [122]],bk 137 2 [vN s,.string .empty],bk 198 1 [sB [110]],bk 270 2 [rf [] [122],.string .empty],bk 294 3 [sB [115],.string .empty,.nilIface],bk 383 2 [rf [121] [98],sB [111,116,104,101,114]],bk 596 3 [sB [103],sB [121],.nilIface,sB [114],sB [120],.iface 304 (.agg #[vI 23,.iface 304 (.agg #[vI 11,rf [120] [110],rf [121] [97]]),.iface 304 (.agg #[vI 12,rf [121] [98],vN 99])])],bk 604 4 [.bool false,vL 383 0 1 1,vL 596 0 2 cD,.nilIface],bk 618 6 [sB [115],vL 66 0 1 1,vL 137 0 1 1,.slice none 0 0,.nilIface,.slice none 0 0,sB [114],vL 198 0 1 1,vL 270 0 1 1,vL 294 0 1 1,.nilIface,vL 604 0 1 cD],bk 669 2 [rf [] [110],.string .empty],bk 692 3 [sB [114],.string .empty,.nilIface]]
 |_,s=>[bk 66 1 [sB [122]],bk 137 2 [vN s,.string .empty],bk 198 1 [sB [110]],bk 270 2 [rf [] [122],.string .empty],bk 294 3 [sB [115],.string .empty,.nilIface],bk 387 2 [.iface 304 (.agg #[vI 17,rf [103] [98],vN 0]),.string .empty],bk 434 3 [sB [114],.string .empty,.nilIface,sB [103],.string .empty,.nilIface],bk 606 4 [.bool false,vL 387 0 1 1,vL 434 0 2 cD,.iface 310 (.agg #[vI 34,.iface 304 (.agg #[vI 37,.iface 304 (.agg #[vI 13,rf [103] [97],rf [] [110]]),.iface 304 (.agg #[vI 15,rf [103] [97],rf [] [110]])])])],bk 620 6 [sB [115],vL 66 0 1 1,vL 137 0 1 1,.slice none 0 0,.nilIface,.slice none 0 0,sB [114],vL 198 0 1 1,vL 270 0 1 1,vL 294 0 1 1,.nilIface,vL 606 0 1 cD],bk 671 2 [rf [] [110],.string .empty],bk 694 3 [sB [114],.string .empty,.nilIface]]
def wSV:Nat->ae
 |0=> .agg #[.bool true,vL 521 0 2 cD,vL 572 0 1 1,vL 595 0 1 1,.nilIface,.slice none 0 0]
 |1=> .agg #[.bool true,vL 476 0 2 cD,vL 527 0 1 1,vL 550 0 1 1,.nilIface,.slice none 0 0]
 |2=> .agg #[.bool true,vL 618 0 2 cD,vL 669 0 1 1,vL 692 0 1 1,.nilIface,.slice none 0 0]
 |_=> .agg #[.bool true,vL 620 0 2 cD,vL 671 0 1 1,vL 694 0 1 1,.nilIface,.slice none 0 0]
def wRn:Nat->Nat
 |0=>617
 |1=>572
 |2=>714
 |_=>716
def wC:Nat->List (Nat×List Nat)
 |0=>[(66,[1,1,1]),(137,[1,1,2]),(198,[1,1,7]),(270,[1,1,8]),(294,[1,1,9]),(370,[1,1,11,1]),(499,[1,1,11,2]),(507,[1,1,11]),(521,[1,1]),(572,[1,2]),(595,[1,3])]
 |1=>[(66,[1,1,1]),(137,[1,1,2]),(198,[1,1,7]),(270,[1,1,8]),(294,[1,1,9]),(357,[1,1,11,1]),(404,[1,1,11,2]),(462,[1,1,11]),(476,[1,1]),(527,[1,2]),(550,[1,3])]
 |2=>[(66,[1,1,1]),(137,[1,1,2]),(198,[1,1,7]),(270,[1,1,8]),(294,[1,1,9]),(383,[1,1,11,1]),(596,[1,1,11,2]),(604,[1,1,11]),(618,[1,1]),(669,[1,2]),(692,[1,3])]
 |_=>[(66,[1,1,1]),(137,[1,1,2]),(198,[1,1,7]),(270,[1,1,8]),(294,[1,1,9]),(387,[1,1,11,1]),(434,[1,1,11,2]),(606,[1,1,11]),(620,[1,1]),(671,[1,2]),(694,[1,3])]
def wQV:Nat->ae
 |0=> .agg #[vL 1253 0 2 cD,vL 1282 0 1 cD,vL 1266 0 1 cD,.nilIface,vL 1277 0 1 cD,.slice none 0 0]
 |1=> .agg #[vL 1260 0 2 cD,vL 1289 0 1 cD,vL 1273 0 1 cD,.nilIface,vL 1284 0 1 cD,.slice none 0 0]
 |2=> .agg #[vL 1271 0 2 cD,vL 1300 0 1 cD,vL 1284 0 1 cD,.nilIface,vL 1295 0 1 cD,.slice none 0 0]
 |_=> .agg #[vL 1290 0 2 cD,vL 1319 0 1 cD,vL 1303 0 1 cD,.nilIface,vL 1314 0 1 cD,.slice none 0 0]
def wL:Nat->Nat->List (Nat×dJ)
 |0,s=>[vk 1116 [vI 1,vI s,.string .empty,.bool false],bk 1118 1 [.iface 317 (vP 1116 0)],vk 1126 [vL 1129 0 1 cD,.slice none 0 0],bk 1129 2 [sB [122],vI 1],bk 1161 2 [vP 1126 0,.nilIface],vk 1168 [vP 1126 0,vI 0,vI 0],bk 1172 1 [.iface 396 (vP 1168 0)],vk 1180 [vL 1183 0 1 cD,.slice none 0 0],bk 1183 2 [sB [110],vI 1],vk 1210 [vP 1180 0,vI 0,vI 0],vk 1220 [vP 1002 0,vI 1,vI 0],vk 1223 [vI 11,.iface 396 (vP 1210 0),.iface 396 (vP 1220 0)],bk 1226 2 [vP 1180 0,.nilIface,vP 1002 0,.iface 305 (vP 1223 0)],vk 1235 [vP 1002 0,vI 1,vI 1],bk 1239 1 [.iface 396 (vP 1235 0)],bk 1251 4 [.bool false,vL 1226 0 2 cD,.nilIface,vL 1239 0 1 cD],bk 1253 6 [vP 1126 0,.bool false,.slice none 0 0,.nilIface,vL 1118 0 1 cD,.slice none 0 0,vP 1180 0,.bool true,vL 1161 0 1 cD,.nilIface,vL 1172 0 1 cD,vL 1251 0 1 cD],bk 1266 2 [vP 1180 0,.nilIface],vk 1273 [vP 1180 0,vI 0,vI 0],bk 1277 1 [.iface 396 (vP 1273 0)],bk 1282 2 [sB [110],vI 1]]
 |1,s=>[vk 1116 [vI 1,vI s,.string .empty,.bool false],bk 1118 1 [.iface 317 (vP 1116 0)],vk 1126 [vL 1129 0 1 cD,.slice none 0 0],bk 1129 2 [sB [122],vI 1],bk 1161 2 [vP 1126 0,.nilIface],vk 1168 [vP 1126 0,vI 0,vI 0],bk 1172 1 [.iface 396 (vP 1168 0)],vk 1180 [vL 1183 0 1 cD,.slice none 0 0],bk 1183 2 [sB [110],vI 1],bk 1205 2 [vP 1002 0,.nilIface,vP 1180 0,.nilIface],vk 1212 [vP 1002 0,vI 0,vI 0],vk 1227 [vP 1180 0,vI 1,vI 0],vk 1230 [vI 11,.iface 396 (vP 1212 0),.iface 396 (vP 1227 0)],vk 1239 [vP 1002 0,vI 0,vI 1],bk 1246 1 [.iface 396 (vP 1239 0)],bk 1258 4 [.bool false,vL 1205 0 2 cD,.iface 305 (vP 1230 0),vL 1246 0 1 cD],bk 1260 6 [vP 1126 0,.bool false,.slice none 0 0,.nilIface,vL 1118 0 1 cD,.slice none 0 0,vP 1180 0,.bool true,vL 1161 0 1 cD,.nilIface,vL 1172 0 1 cD,vL 1258 0 1 cD],bk 1273 2 [vP 1180 0,.nilIface],vk 1280 [vP 1180 0,vI 0,vI 0],bk 1284 1 [.iface 396 (vP 1280 0)],bk 1289 2 [sB [110],vI 1]]
 |2,s=>[vk 1116 [vI 1,vI s,.string .empty,.bool false],bk 1118 1 [.iface 317 (vP 1116 0)],vk 1126 [vL 1129 0 1 cD,.slice none 0 0],bk 1129 2 [sB [122],vI 1],bk 1161 2 [vP 1126 0,.nilIface],vk 1168 [vP 1126 0,vI 0,vI 0],bk 1172 1 [.iface 396 (vP 1168 0)],vk 1180 [vL 1183 0 1 cD,.slice none 0 0],bk 1183 2 [sB [110],vI 1],vk 1212 [vP 1180 0,vI 1,vI 0],vk 1220 [vP 1002 0,vI 0,vI 0],vk 1224 [vI 11,.iface 396 (vP 1212 0),.iface 396 (vP 1220 0)],vk 1233 [vP 1002 0,vI 0,vI 1],vk 1238 [vI 1,vI 99,.string .empty,.bool false],vk 1239 [vI 12,.iface 396 (vP 1233 0),.iface 317 (vP 1238 0)],vk 1241 [vI 23,.iface 305 (vP 1224 0),.iface 305 (vP 1239 0)],bk 1244 2 [vP 1002 0,.nilIface,vP 1180 0,.iface 305 (vP 1241 0)],vk 1252 [vP 1002 0,vI 0,vI 1],bk 1257 1 [.iface 396 (vP 1252 0)],bk 1269 4 [.bool false,vL 1244 0 2 cD,.nilIface,vL 1257 0 1 cD],bk 1271 6 [vP 1126 0,.bool false,.slice none 0 0,.nilIface,vL 1118 0 1 cD,.slice none 0 0,vP 1180 0,.bool true,vL 1161 0 1 cD,.nilIface,vL 1172 0 1 cD,vL 1269 0 1 cD],bk 1284 2 [vP 1180 0,.nilIface],vk 1291 [vP 1180 0,vI 0,vI 0],bk 1295 1 [.iface 396 (vP 1291 0)],bk 1300 2 [sB [110],vI 1]]
 |_,s=>[vk 1116 [vI 1,vI s,.string .empty,.bool false],bk 1118 1 [.iface 317 (vP 1116 0)],vk 1126 [vL 1129 0 1 cD,.slice none 0 0],bk 1129 2 [sB [122],vI 1],bk 1161 2 [vP 1126 0,.nilIface],vk 1168 [vP 1126 0,vI 0,vI 0],bk 1172 1 [.iface 396 (vP 1168 0)],vk 1180 [vL 1183 0 1 cD,.slice none 0 0],bk 1183 2 [sB [110],vI 1],bk 1205 2 [vP 1180 0,.nilIface,vP 1002 0,.nilIface],vk 1215 [vP 1002 0,vI 1,vI 0],vk 1223 [vP 1180 0,vI 0,vI 0],vk 1230 [vI 13,.iface 396 (vP 1215 0),.iface 396 (vP 1223 0)],vk 1239 [vP 1002 0,vI 1,vI 0],vk 1247 [vP 1180 0,vI 0,vI 0],vk 1254 [vI 15,.iface 396 (vP 1239 0),.iface 396 (vP 1247 0)],vk 1256 [vI 37,.iface 305 (vP 1230 0),.iface 305 (vP 1254 0)],vk 1259 [.iface 305 (vP 1256 0)],vk 1269 [vP 1002 0,vI 1,vI 1],vk 1273 [vI 1,vI 0,.string .empty,.bool false],vk 1274 [vI 17,.iface 396 (vP 1269 0),.iface 317 (vP 1273 0)],bk 1277 1 [.iface 305 (vP 1274 0)],bk 1288 4 [.bool false,vL 1205 0 2 cD,.iface 390 (vP 1259 0),vL 1277 0 1 cD],bk 1290 6 [vP 1126 0,.bool false,.slice none 0 0,.nilIface,vL 1118 0 1 cD,.slice none 0 0,vP 1180 0,.bool true,vL 1161 0 1 cD,.nilIface,vL 1172 0 1 cD,vL 1288 0 1 cD],bk 1303 2 [vP 1180 0,.nilIface],vk 1310 [vP 1180 0,vI 0,vI 0],bk 1314 1 [.iface 396 (vP 1310 0)],bk 1319 2 [sB [110],vI 1]]
def wNx:Nat->Nat
 |0=>1285
 |1=>1292
 |2=>1303
 |_=>1322
def fJ (w s:Nat):gi:=BR (wTx w s) (.tuple #[.iface 108 (wSV w),vI 0,vI 0]) (wA w s) (wRn w)
def wD (w s:Nat):CD:={f:=75,A:=wA w s,c:=wC w,sv:=wSV w,qv:=wQV w,L:=wL w s,nx:=wNx w}
end Go.AM
