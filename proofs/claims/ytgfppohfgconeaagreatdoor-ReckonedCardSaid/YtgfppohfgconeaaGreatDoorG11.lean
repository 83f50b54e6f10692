/-
  What the claim stands on, part 11.
-/
import Derived.Test.YtgfppohfgconeaaGreatDoorG10
import Derived.ChangeFn
import Derived.ProofKit
import Derived.SizedLaws
import Derived.Handed
import Derived.RowKit
set_option linter.unusedVariables false
set_option linter.unusedSimpArgs false
open Go.Proofs.Tryz renaming prog → ae
open Go renaming Value → af, World → aA, Program → aE, TypeId → aW, IntKind → cQ
open Nat renaming le_of_ble_eq_true → ag, le_refl → ai, eq_of_beq_eq_true → aT, lt_of_lt_of_le → bq
open Option.some renaming injEq → ah
open Bool renaming and_eq_true → aj, false_eq_true → bu
open Option renaming map_eq_some_iff → ar, bind_some → cz, map_some → cR, isSome_iff_exists → qF
open Prod.mk renaming injEq → aC
open List renaming mem_cons → bC
namespace Go.AM
set_option maxRecDepth 1000000
open Go Go.Conc Go.Proofs
def qy0 (rc:Bool)(dj:List It):Sen:= .query ⟨rc,[],⟨⟨dj,[],.nil⟩,[]⟩⟩
def nX (dj:List It):List X×List pM×Int:=lD [] dj [] [] (nE 0 (decide ((dj.length:Int)<=16)) 6)
theorem Gw (dj:List It):nY .nil dj 0=(none,nX dj):=rfl
section
variable {K:iK}{m:Mem}
theorem aiy (hK:Ld K){R0:Mem->Prop}{B:Nat->Prop}{dj:List It}{iv:af}{sa ua pa:Option Addr}{sc uc pc db mp:Nat}{rc:Bool}{rest:List af}{x0 x1:af}{cv:Nat->Nat->Int->Int->V}(cm:Calm m)(He:Obj m db 0 (x0::x1:: .map (some mp)::rest))(hi:iF.R B dj m iv)(wW:∀b,B b->b<m.next)(hl:dj.length<9000)(h0:dj≠[])
  (hz:(nX dj).2.2=0)(OE:(nX dj).1.length<9000)(Bv:(nX dj).2.1.length<9000)(keep:∀m m',R0 m->Kp m m' eU->R0 m')(S2:∀mw,R0 mw)(WL:∀pr,Scope KW R0 (cv 0) (vP pr 0))(jA:∀x∈(nX dj).1,T9 (cv 0) x):
  (∃v m',Ev K 40 [vP db 0,.agg #[.bool rc,.slice pa 0 pc,iv,.slice sa 0 sc,.nilIface,.slice ua 0 uc]] m (.tuple #[v,vI 0]) m'/\Kp m m' eU/\tG (fY m m') (nX dj).2.1 (jI (cv 0) (nX dj).1 []).1 m' v/\(jI (cv 0) (nX dj).1 []).2=0)\/
  (∃m',Ev K 40 [vP db 0,.agg #[.bool rc,.slice pa 0 pc,iv,.slice sa 0 sc,.nilIface,.slice ua 0 uc]] m (.tuple #[TN,vI (jI (cv 0) (nX dj).1 []).2]) m'/\Kp m m' eU/\(jI (cv 0) (nX dj).1 []).2≠0):=by
 have g:=cm.gd;have hdb:=He.lt;obtain⟨A,hA⟩:∃A,A=af.agg #[.bool rc,.slice pa 0 pc,iv,.slice sa 0 sc,.nilIface,.slice ua 0 uc]:=⟨_,rfl⟩;obtain⟨b1,j8⟩:∃b,b=m.next:=⟨_,rfl⟩;obtain⟨m1,e1,o1,k1,n1,_⟩:=aQ g [.bool rc,.slice pa 0 pc,iv,.slice sa 0 sc,.nilIface,.slice ua 0 uc];obtain⟨b2,iW⟩:∃b,b=m1.next:=⟨_,rfl⟩;obtain⟨m2,e2,o2,k2,n2,_⟩:=aQ (g.ext k1) [.slice none 0 0,.slice none 0 0,.slice none 0 0,vI 0];have lM:=k1.aN k2;have g2:=g.ext lM;rw[<-j8]at e1 o1;rw[<-iW]at e2 o2;have l1:aI db 2 m2=some (.map (some mp),m2):=aJ (He.aM lM) rfl;have l2:eJ 6 b1 0 m2=some (.agg #[.bool rc,.slice pa 0 pc,iv,.slice sa 0 sc,.nilIface,.slice ua 0 uc],m2):=bY (vs:=[.bool rc,.slice pa 0 pc,iv,.slice sa 0 sc,.nilIface,.slice ua 0 uc]) (o1.aM k2) rfl (ag rfl);obtain⟨b3,SV⟩:∃b,b=m2.next:=⟨_,rfl⟩;obtain⟨m3,e3,o3,k3,n3,_⟩:=aQ g2 [.slice none 0 0,.slice none 0 0,.slice none 0 0,.nilIface,.slice none 0 0,.slice none 0 0];rw[<-SV]at e3 o3;have sx:=lM.aN k3;have g3:=g.ext sx;have hi3:=iF.ext hi sx fun _ _ h=>h
 obtain⟨v,m4,e4,k4,q4⟩:=aix (K:=K) (mp:=mp) (pa:=pa) (pc:=pc) (sa:=sa) (sc:=sc) (ua:=ua) (uc:=uc) (rc:=rc) (dj:=dj) (iv:=iv) (B:=B) .nil g3 hi3 (fun b hb=>by have :=wW b hb;omega) av h0 (by rw[Gw];exact hz);have e4:Ev K 75 [.map (some mp),.agg #[.bool rc,.slice pa 0 pc,iv,.slice sa 0 sc,.nilIface,.slice ua 0 uc]] m3 (.tuple #[v,vI 0]) m4:=e4;rw[Gw]at q4;obtain⟨p,FI,a,w,b,u,rfl,qp,qc,qb⟩:=q4;obtain⟨a',w',b',u',he,qs,qu⟩:=qb;cases he;obtain⟨a'',w'',b'',he,qa,qw,qi⟩:=qs;cases he;have qw:w= .nilIface:=qw;subst qw;obtain⟨Z2,Z1,hp⟩:=bj.form qp;obtain⟨Zz,Zy,hs⟩:=bj.form qa;obtain⟨Zl,Zk,hu⟩:=bj.form qu;have hp:p= .slice Z2 0 Z1:=hp;have hs:a= .slice Zz 0 Zy:=hs;have hu:u= .slice Zl 0 Zk:=hu;subst hp;subst hs;subst hu;have jV:=sx.aN k4;have MO:=cm.ext jV;have n4:=k4.next;have hck:bS (vI ((m3.blk b3).bw:Int)) (vP b3 0) (fG (vP b3 0)) m4=some (undef,m4):=D4 (b:=b3) g jV av rfl (oU k4 o3.lt);obtain⟨ca,cc,al8⟩:=bj.form qc;obtain⟨ia,ic,hiv⟩:=bj.form qi;obtain⟨m5,e5,o5,k5⟩:=dO (o:=0) [.slice Z2 0 Z1,FI,.slice Zz 0 Zy,.nilIface,b,.slice Zl 0 Zk] (o3.aM k4) ((g.own jV av).may _ _) (ag rfl) (by rw[al8,hiv];rfl);have n5:=k5.next;have pD:Kp m m5 eU:=jV.new k5 (N:=m.next) (ai _) fun b hb=>by omega
 have cm5:=cm.ext pD;have l3:eJ 6 b3 0 m5=some (.agg #[.slice Z2 0 Z1,FI,.slice Zz 0 Zy,.nilIface,b,.slice Zl 0 Zk],m5):=bY (vs:=[.slice Z2 0 Z1,FI,.slice Zz 0 Zy,.nilIface,b,.slice Zl 0 Zk]) o5 rfl (ag rfl);have nb3:∀y,fY m3 m4 y->¬y=b3:=fun y hy e=>by have :=hy.1;omega
 have o25:=(((o2.aM k3).aM k4).ext k5 (show¬b2=b3 by omega));have fin:∀{y1 y2 y3 y4:af}{e:Int}{m6:Mem},Ev K 76 [.agg #[.slice Z2 0 Z1,FI,.slice Zz 0 Zy,.nilIface,b,.slice Zl 0 Zk]] m5 (.tuple #[.agg #[y1,y2,y3,y4],vI e]) m6->Kp m5 m6 eU->([y1,y2,y3,y4].all (·.oneCell'))=true->
   ∃m7,Ev K 40 [vP db 0,.agg #[.bool rc,.slice pa 0 pc,iv,.slice sa 0 sc,.nilIface,.slice ua 0 uc]] m (.tuple #[.agg #[y1,y2,y3,y4],vI e]) m7/\Kp m m7 eU/\Kp m6 m7 (fun y=>y=b2):=by
  intro y1 y2 y3 y4 e m6 e6 k6 hy;have qH:=pD.aN k6;obtain⟨m7,e7,o7,k7⟩:=dO (o:=0) [y1,y2,y3,y4] (o25.aM k6) ((g.own qH av).may _ _) (ag rfl) hy;have eR:fV ae 31 (vP b2 0) m7=some (.agg #[y1,y2,y3,y4],m7):=dK o7 rfl uQ.1 uQ.2;exact⟨m7,ak (p40 db mp rc 0 pc pa iv (.slice sa 0 sc) .nilIface (.slice ua 0 uc) (.slice Z2 0 Z1) FI (.slice Zz 0 Zy) .nilIface b (.slice Zl 0 Zk) y1 y2 y3 y4 e b1 b2 b3 _)
   (.mem e1<| .mem e2<| .mem l1<| .mem l2<| .mem e3<| .mem (dh _ _)<| .mem (bW g3)<| .call e4<| .mem hck<| .mem (bW MO.gd)<| .mem e5<| .cond rfl<| .mem l3<| .call e6<| .mem e7<| .mem eR .nil),qH.new k7 (N:=m.next) (ai _) fun b hb=>by omega,k7⟩
 rcases aiw (K:=K) (cF:=(nX dj).2.1) (dj:=(nX dj).1) (cv:=cv) (pa:=Z2) (pc:=Z1) (sa:=Zz) (sc:=Zy) (ua:=Zl) (uc:=Zk) hK cm5 (cU.ext qc k5 nb3) ((bj mL 1).ext qi k5 nb3) (fun b hb=>by have :=hb.2;omega) OE Bv keep S2 WL jA with⟨v,m6,e6,k6,q6,hz6⟩|⟨m6,e6,k6,hz6⟩
 ·left
  obtain⟨nv,kv,p,rfl,q1,q2,q3⟩:=q6;obtain⟨m7,e7,k7,k67⟩:=fin e6 k6 (by simp[(bj.gy q1).2,(bj.gy q2).2];exact⟨rfl,rfl⟩);have n6:=k6.next;have n7:=k67.next;exact⟨_,m7,e7,k7,tG.mono (tG.ext ⟨nv,kv,p,rfl,q1,q2,q3⟩ k67 fun b hb h=>by have :=hb.1;omega) fun b hb=>⟨by have :=hb.1;omega,by have :=hb.2;omega⟩,hz6⟩
 ·right
  obtain⟨m7,e7,k7,_⟩:=fin e6 k6 rfl;exact⟨m7,e7,k7,hz6⟩
def vK (m:Mem)(db mp:Nat):Prop:=Obj m db 0 [.int .i32 0,.int .u32 0,.map (some mp)]/\m.base<=db
theorem Y4 (hK:Ld K){R0:Mem->Prop}{T:ByteArray}{n db mp:Nat}{dj:List It}{rc:Bool}{cv:Nat->Nat->Int->Int->V}(cm:Calm m)(hG:iU m)(hm:0<m.next)(He:vK m db mp)(hn:n<90000)(hT:AQ T n=some (some (qy0 rc dj),0,0))(hl:dj.length<9000)(h0:dj≠[])
  (hz:(nX dj).2.2=0)(OE:(nX dj).1.length<9000)(Bv:(nX dj).2.1.length<9000)(keep:∀m m',R0 m->Kp m m' eU->R0 m')(S2:∀mw,R0 mw)(WL:∀pr,Scope KW R0 (cv 0) (vP pr 0))(jA:∀x∈(nX dj).1,T9 (cv 0) x):
  (∃v m',Ev K 12 [vP db 0,.string T] m (.tuple #[v,vI 0,vI 0]) m'/\Kp m m' (fun y=>y=db)/\vK m' db mp/\tG (fY m m') (nX dj).2.1 (jI (cv 0) (nX dj).1 []).1 m' v/\(jI (cv 0) (nX dj).1 []).2=0)\/
  (∃m',Ev K 12 [vP db 0,.string T] m (.tuple #[TN,vI (jI (cv 0) (nX dj).1 []).2,vI 0]) m'/\Kp m m' (fun y=>y=db)/\vK m' db mp/\(jI (cv 0) (nX dj).1 []).2≠0):=by
 have g:=cm.gd;obtain⟨He,uy⟩:=He;have hdl:=He.lt;obtain⟨b1,j8⟩:∃b,b=m.next:=⟨_,rfl⟩;obtain⟨m1,e1,o1,k1,n1,_⟩:=aQ g [.slice none 0 0,.slice none 0 0,.slice none 0 0,vI 0];rw[<-j8]at e1 o1;have g1:=g.ext k1;obtain⟨rv,m2,e2,k2,q2⟩:=c22 (K:=K) hn g1 (hG.aM k1) av hT;have lM:=k1.aN k2;have Py:=cm.ext lM;have n2:=k2.next;obtain⟨sv,rfl,q2⟩:=q2;obtain⟨qv,rfl,q2⟩:∃a,sv= .iface 108 a/\q0.R (fY m1 m2) ⟨rc,[],⟨⟨dj,[],.nil⟩,[]⟩⟩ m2 a:=q2;obtain⟨pv,a,b,w,u,rfl,qp,qb⟩:=q2;obtain⟨a',b',w',u',he,qs,qu⟩:=qb;cases he;obtain⟨a'',b'',he,qi,qso⟩:=qs;cases he;obtain⟨pa,pc,hp⟩:=bj.form qp;obtain⟨sa,sc,hs⟩:=bj.form qso;obtain⟨ua,uc,hu⟩:=bj.form qu;have hp:pv= .slice pa 0 pc:=hp;have hs:b= .slice sa 0 sc:=hs;have hu:u= .slice ua 0 uc:=hu;subst hp;subst hs;subst hu;obtain⟨m3,e3,o3,k3⟩:=c24 (K:=K) Py.gd.deaf (He.aM lM) ((Py.own (by rw[lM.base];exact uy)).may _ _);have D3:=Py.ext k3;have n3:=k3.next;have nbd:∀y,fY m1 m2 y->¬y=db:=fun y hy e=>by have :=hy.1;omega
 have qi3:=iF.ext qi k3 nbd;obtain⟨ia,ic,hiv⟩:=bj.form qi;have hk:Kp m m3 (fun y=>y=db):=lM.mo.trans k3 fun _ _ h=>h
 have Vl:=(o1.aM k2).ext k3 (show¬b1=db by omega);obtain⟨b4,hb4⟩:∃b,b=m3.next:=⟨_,rfl⟩;obtain⟨m4,e4,o4,k4,n4,_⟩:=aQ D3.gd [.slice none 0 0,.slice none 0 0,.slice none 0 0,vI 0];rw[<-hb4]at e4 o4;have MO:=D3.ext k4;obtain⟨m5,m6,e5,e6,o6,k6,n6⟩:=eH MO.gd [.bool false,.slice none 0 0,.slice none 0 0,.slice none 0 0,.nilIface,.slice none 0 0] [.bool rc,.slice pa 0 pc,a,.slice sa 0 sc,.nilIface,.slice ua 0 uc] rfl (by rw[hiv];rfl);have Cp:=MO.ext k6;have l6:eJ 6 m4.next 0 m6=some (.agg #[.bool rc,.slice pa 0 pc,a,.slice sa 0 sc,.nilIface,.slice ua 0 uc],m6):=bY (vs:=[.bool rc,.slice pa 0 pc,a,.slice sa 0 sc,.nilIface,.slice ua 0 uc]) o6 rfl (ag rfl);have k36:=k4.aN k6;have n6':=k6.next;have o36:=o3.aM k36;have qH:Kp m m6 (fun y=>y=db):=hk.aN k36;have rest:∀{y1 y2 y3 y4:af}{e:Int}{m7:Mem},Ev K 40 [vP db 0,.agg #[.bool rc,.slice pa 0 pc,a,.slice sa 0 sc,.nilIface,.slice ua 0 uc]] m6 (.tuple #[.agg #[y1,y2,y3,y4],vI e]) m7->Kp m6 m7 eU->([y1,y2,y3,y4].all (·.oneCell'))=true->
   ∃m',Ev K 12 [vP db 0,.string T] m (.tuple #[.agg #[y1,y2,y3,y4],vI e,vI 0]) m'/\Kp m m' (fun y=>y=db)/\vK m' db mp/\Kp m7 m' (fun y=>y=db\/y=b4\/y=b1)/\m7.next<=m'.next:=by
  intro y1 y2 y3 y4 e m7 e7 k7 hy;have yb:=qH.aN k7;have cm7:=cm.ext yb;have n7:=k7.next;obtain⟨m8,e8,o8,k8⟩:=dO (o:=0) [y1,y2,y3,y4] ((o4.aM k6).aM k7) ((g.own yb av).may _ _) (ag rfl) hy;have eR8:fV ae 31 (vP b4 0) m8=some (.agg #[y1,y2,y3,y4],m8):=dK o8 rfl uQ.1 uQ.2;have e26:=ak (K:=K) (aku db rc 0 pc pa a (.slice sa 0 sc) .nilIface (.slice ua 0 uc) y1 y2 y3 y4 e b4 m4.next) (.mem e4<| .cond rfl<| .cond rfl<| .cond rfl<| .mem e5<| .mem e6<| .mem l6<| .call e7<| .mem e8<| .mem eR8 .nil);have n8:=k8.next;have zg:Kp m m8 (fun y=>y=db):=yb.new k8 (N:=m.next) (ai _) fun b hb=>by omega
  have cm8:=cm.ext zg;obtain⟨m9,fM,e9,pY,IB,kh,n10⟩:=eH cm8.gd [.slice none 0 0,.slice none 0 0,.slice none 0 0,vI 0] [y1,y2,y3,y4] rfl hy;have l10:eJ 4 m8.next 0 fM=some (.agg #[y1,y2,y3,y4],fM):=bY (vs:=[y1,y2,y3,y4]) IB rfl (ag rfl);have wN:=zg.aN kh;have anx:=kh.next;have Vk:=((((Vl.aM k36).aM k7).ext k8 (show¬b1=b4 by omega)).aM kh);obtain⟨LR,xg,o11,Hw⟩:=dO (o:=0) [y1,y2,y3,y4] Vk ((g.own wN av).may _ _) (ag rfl) hy;have n11:=Hw.next;have Fc:Kp m LR (fun y=>y=db):=wN.new Hw (N:=m.next) (ai _) fun b hb=>by omega
  have aio:=cm.ext Fc;have ak1:=(((o36.aM k7).ext k8 (show¬db=b4 by omega)).aM kh).ext Hw (show¬db=b1 by omega);obtain⟨y8,zv,Yd,vM⟩:=c25 (K:=K) aio.gd.deaf ak1 ((aio.own (by rw[Fc.base];exact uy)).may _ _);have n12:=vM.next;have eR:fV ae 31 (vP b1 0) y8=some (.agg #[y1,y2,y3,y4],y8):=dK (o11.ext vM (show¬b1=db by omega)) rfl uQ.1 uQ.2;have Kn:Kp m y8 (fun y=>y=db):=Fc.trans vM fun _ _ h=>h
  refine⟨y8,ak (p12 db T _ y1 y2 y3 y4 e b1 m8.next) (.mem e1<| .call e2<| .cond rfl<| .call e3<| .call e26<| .mem e9<| .mem pY<| .mem l10<| .mem xg<| .call zv<| .mem eR .nil),Kn,⟨Yd,by rw[Kn.base];exact uy⟩,?_,av⟩;exact(((k8.mono fun _ _ h=> .inr (.inl h)).aN kh).trans (Hw.mono fun _ _ h=> .inr (.inr h)) fun _ _ h=>h).trans (vM.mono fun _ _ h=> .inl h) fun _ _ h=>h
 have nb6:∀y,fY m1 m2 y->y<m6.next:=fun y hy=>by have :=hy.2;omega
 rcases aiy (K:=K) (cv:=cv) (B:=fY m1 m2) (rc:=rc) (pa:=pa) (pc:=pc) (sa:=sa) (sc:=sc) (ua:=ua) (uc:=uc) hK Cp o36 (iF.ext qi3 k36 fun _ _ h=>h) nb6 hl h0 hz OE Bv keep S2 WL jA with⟨v,m7,e7,k7,q7,hz7⟩|⟨m7,e7,k7,hz7⟩
 ·left
  obtain⟨nv,kv,p,rfl,x1,x2,x3⟩:=q7;obtain⟨m',e',k',d',k78,KC⟩:=rest e7 k7 (by simp[(bj.gy x1).2,(bj.gy x2).2];exact⟨rfl,rfl⟩);exact⟨_,m',e',k',d',tG.mono (tG.ext ⟨nv,kv,p,rfl,x1,x2,x3⟩ k78 fun b hb h=>by have :=hb.1;omega) fun b hb=>⟨by have :=hb.1;omega,by have :=hb.2;omega⟩,hz7⟩
 ·right
  obtain⟨m',e',k',d',_⟩:=rest e7 k7 rfl;exact⟨m',e',k',d',hz7⟩
end
end Go.AM
namespace Go.AM
set_option maxRecDepth 1000000
open Go Go.Conc Go.Proofs
def kl (n:Nat):List UInt8:=if h:n<10 then[UInt8.ofNat (48+n)]else kl (n / 10)++[UInt8.ofNat (48+n%10)]
 termination_by n
 decreasing_by omega
theorem rP {n:Nat}(h:n<10):kl n=[UInt8.ofNat (48+n)]:=by rw[kl,dif_pos h]
theorem rR {n:Nat}(h:¬n<10):kl n=kl (n / 10)++[UInt8.ofNat (48+n%10)]:=by rw[kl,dif_neg h]
theorem Xg {k:Nat}(h:k<10):(UInt8.ofNat (48+k)).toNat=48+k:=by
 rw[UInt8.toNat_ofNat'];omega
theorem YX {k:Nat}(h:k<10):ou (UInt8.ofNat (48+k)).toNat=true:=by rw[Xg h];exact s8.2 av
theorem MK (n:Nat):∀c∈kl n,ou c.toNat=true:=by
 induction n using Nat.strongRecOn with
 |ind n ih=>
  intro c hc
  by_cases h:n<10
  ·rw[rP h]at hc;have :c=UInt8.ofNat (48+n):=by simpa using hc
   rw[this];exact YX h
  ·rw[rR h]at hc;rcases List.mem_append.1 hc with hc|hc
   ·exact ih (n / 10) av c hc
   ·have :c=UInt8.ofNat (48+n%10):=by simpa using hc
    rw[this];exact YX av
theorem MJ (n:Nat):kl n≠[]:=by
 by_cases h:n<10
 ·rw[rP h];simp
 ·rw[rR h];simp
theorem Tt (l:List UInt8)(c:UInt8):∀a,yz (l++[c]) a=yz l a*10+(c.toNat-48):=by
 induction l with
 |nil=>intro a;rfl
 |cons b l ih=>intro a;exact ih _
theorem DY (n:Nat):yz (kl n) 0=n:=by
 induction n using Nat.strongRecOn with
 |ind n ih=>
  by_cases h:n<10
  ·rw[rP h]
   show 0*10+((UInt8.ofNat (48+n)).toNat-48)=n
   rw[Xg h];omega
  ·rw[rR h,Tt,ih (n / 10) av,Xg av];omega
def Fa:List UInt8:=[45,57,50,50,51,51,55,50,48,51,54,56,53,52,55,55,53,56,48,55,32,45,32,49]
def fZ (a:Int):List UInt8:=if a= -9223372036854775808 then Fa else if a<0 then 45::kl (-a).toNat else kl a.toNat
def Wk (n:Int):E:= .lit ⟨1,n,.empty,false⟩
def kr (a:Int):E:=if a= -9223372036854775808 then .bin 18 (.pre 18 (Wk 9223372036854775807)) (Wk 1)else if a<0 then .pre 18 (Wk (-a))else Wk a
section
variable {T:ByteArray}{n:Nat}{k3 v3:Int}{l post:List UInt8}
theorem Bh {c:UInt8}(h:ou c.toNat=true):c.toNat<128:=by have :=s8.1 h;omega
theorem JV {m:Nat}(hm:m<9223372036854775808)(hl:∀c∈l.head?,ou c.toNat=false):Nx T (kl m++l) 3 (m:Nat) l:=by
 have :=QS (T:=T) (bs:=[]) (ds:=kl m) (l:=l) (fun _ h=>by cases h) (MK m) (MJ m) hl (by rw[DY];exact hm);rw[DY]at this;exact this
theorem aaN {c:UInt8}{k:Nat}(hc:(c,k)∈xK)(hk:k≠0)(ha:∀c∈l.head?,c.toNat<128):Nx T (c::l) (k:Int) 0 l:=LJ (bs:=[]) hc hk (fun _ h=>by cases h) ha
theorem Hf {c:UInt8}{k:Nat}(hc:(c,k)∈xK)(hk:k≠0)(ha:∀c∈l.head?,c.toNat<128):Nx T (32::c::l) (k:Int) 0 l:=LJ (bs:=[32]) hc hk (fun c h=>by simp at h;rw[h];rfl) ha
theorem Bu (m:Nat):∀c∈(kl m++l).head?,ou c.toNat=true:=by
 intro c hc;have h:=MJ m;cases hd:kl m with
 |nil=>exact absurd hd h
 |cons b r=>
  rw[hd]at hc;have :b=c:=by simpa using hc
  rw[<-this];exact MK m b (by rw[hd];exact List.mem_cons_self ..)
theorem abM:∀c∈((41:UInt8)::post).head?,ou c.toNat=false:=fun c h=>by simp at h;rw[<-h];rfl
theorem Pz.told{a:Int}(ha:cC a)(hp:∀c∈post.head?,c.toNat<128)(hn:Nx T post k3 v3 l):Pz T (iJ T (n+4)) 5 0 0 (fZ a++41::post) (kr a) k3 v3 l:=by
 have n41:Nx T ((41:UInt8)::post) 6 0 post:=aaN (c:=41) (k:=6) dB dB hp;unfold fZ kr
 by_cases h1:a= -9223372036854775808
 ·rw[bL h1,bL h1];have e1:Fa++41::post=45::(kl 9223372036854775807++(32::45::(32::49::41::post))):=by
   have :kl 9223372036854775807=[57,50,50,51,51,55,50,48,51,54,56,53,52,55,55,53,56,48,55]:=by
    repeat rw[rR dB]
    rw[rP dB];rfl
   rw[this];rfl
  rw[e1];have a1:=aaN (T:=T) (c:=45) (k:=18) (l:=kl 9223372036854775807++(32::45::(32::49::41::post))) dB dB fun c hc=>Bh (Bu _ c hc)
  have a2:=JV (T:=T) (m:=9223372036854775807) (l:=32::45::(32::49::41::post)) dB (fun c h=>by simp at h;rw[<-h];rfl);have a3:=Hf (T:=T) (c:=45) (k:=18) (l:=32::49::41::post) dB dB (fun c h=>by simp at h;rw[<-h];decide);have a4:Nx T (32::49::41::post) 3 1 (41::post):=QS (T:=T) (bs:=[32]) (ds:=[49]) (l:=41::post) (fun c h=>by simp at h;rw[h];rfl) (fun c h=>by simp at h;rw[h];rfl) cK abM dB;refine Pz.par (d:=0) (v2:=0) av a1 (Pz.expr (n:=n+2) ?_ dB dB) hn;exact(Pz.abb (n:=n+1) (k1:=18) (Pz.zK (n:=n+2) (Pz.neg (n:=n+2) (d:=0+1) av a2 (Pz.lit (n:=n+1) a3)) dB) dB a4 (Pz.zK (n:=n+2) (Pz.lit (n:=n+2) n41) dB) dB)
 ·rw[bT h1,bT h1]
  by_cases h2:a<0
  ·rw[bL h2,bL h2];obtain⟨m,hm⟩:∃m:Nat,m=(-a).toNat:=⟨_,rfl⟩;have hma: -a=(m:Int):=av;rw[<-hm,hma];have a1:=aaN (T:=T) (c:=45) (k:=18) (l:=kl m++41::post) dB dB fun c hc=>Bh (Bu _ c hc)
   have a2:=JV (T:=T) (m:=m) (l:=41::post) (by have :=ha.1;omega) abM;exact Pz.par (d:=0) av a1 (Pz.expr (n:=n+2) (Pz.adl (n:=n+2) (Pz.neg (n:=n+2) (d:=0+1) av a2 (Pz.lit (n:=n+1) n41)) dB dB) dB dB) hn
  ·rw[bT h2,bT h2];obtain⟨m,hm⟩:∃m:Nat,m=a.toNat:=⟨_,rfl⟩;have hma:a=(m:Int):=av;rw[<-hm,hma];have a2:=JV (T:=T) (m:=m) (l:=41::post) (by have :=ha.2;omega) abM;exact Pz.par (d:=0) av a2 (Pz.expr (n:=n+2) (Pz.adl (n:=n+2) (Pz.lit (n:=n+2) n41) dB dB) dB dB) hn
end
end Go.AM
namespace Go.AM
set_option maxRecDepth 1000000
open Go Go.Conc Go.Proofs
theorem kH {K:iK}{m m':Mem}{L:List p9}(h:Ch K m L m':=by repeat first |exact .nil|refine .cond (by first |rfl|assumption) ?_|refine .val (by first |exact aaQ _|exact KS _ _ fP|exact O0 _ _ fP) ?_):Ch K m L m':=h
def mE:Nat->Nat
 |0=>17
 |1=>18
 |2=>10
 |3=>19
 |_=>20
theorem Dk (x:Int):(!(iE x 0))=decide (x<0):=by
 rw[qz]
 by_cases h:0<=x
 ·rw[dZ h,eO av];rfl
 ·rw[eO h,dZ av];rfl
theorem aaQ (a:Int):pu ae [vI a] (Op.unary .neg (vI a))=some (vI (cQ.i64.wrap (-a))):=by
 have h:(Op.unary .neg (vI a)).aP ae=some (vI (cQ.i64.wrap (0-a))):=rfl;rw[Int.zero_sub]at h;exact wo rfl h rfl
section
variable {K:iK}{m:Mem}
theorem Qv (a b:Int):Path 21 [(vI a),(vI b),(vI 0)]
 [bV,
  aD (fD a 0) false,
  aD (fD a 0) false,
  aD (fD a 0) false,
  bm,
  bm,
  bm,
  bV,
  bV,
  bV,
  aD (br a 0) false,
  aD (br a 0) false,
  bV,
  aD (br a 0) false,
  bV,
  bm,
  bm,
  bV,
  bm,
  bV,
  bV]
 (.tuple #[(vI (bB a b)),(.bool true)]):=cg
theorem ND (a b:Int):Path 21 [(vI a),(vI b),(vI 0)]
 [bV,
  aD (fD a 0) false,
  aD (fD a 0) false,
  aD (fD a 0) false,
  bm,
  bm,
  bm,
  bV,
  bV,
  bV,
  aD (br a 0) true,
  aD (br a 0) true,
  bV,
  aD (br a 0) true,
  bV,
  aD (br b 0) false,
  aD (br b 0) false,
  bV,
  aD (br b 0) false,
  bV,
  bV]
 (.tuple #[(vI (bB a b)),(.bool true)]):=cg
theorem NC (a b:Int):Path 21 [(vI a),(vI b),(vI 0)]
 [bV,
  aD (fD a 0) false,
  aD (fD a 0) false,
  aD (fD a 0) false,
  bm,
  bm,
  bm,
  bV,
  bV,
  bV,
  aD (br a 0) true,
  aD (br a 0) true,
  bV,
  aD (br a 0) true,
  bV,
  aD (br b 0) true,
  aD (br b 0) true,
  bV,
  aD (br b 0) true,
  bV,
  bV]
 (.tuple #[(vI (bB a b)),(.bool (!(iE (bB a b) 0)))]):=cg
theorem NB (a b:Int):Path 21 [(vI a),(vI b),(vI 0)]
 [bV,
  aD (fD a 0) true,
  aD (fD a 0) true,
  aD (fD a 0) true,
  aD (fD b 0) false,
  aD (fD b 0) false,
  aD (fD b 0) false,
  bV,
  bV,
  bV,
  aD (br a 0) false,
  aD (br a 0) false,
  bV,
  aD (br a 0) false,
  bV,
  bm,
  bm,
  bV,
  bm,
  bV,
  bV]
 (.tuple #[(vI (bB a b)),(.bool true)]):=cg
theorem JF (a b:Int):Path 21 [(vI a),(vI b),(vI 0)]
 [bV,
  aD (fD a 0) true,
  aD (fD a 0) true,
  aD (fD a 0) true,
  aD (fD b 0) false,
  aD (fD b 0) false,
  aD (fD b 0) false,
  bV,
  bV,
  bV,
  aD (br a 0) true,
  aD (br a 0) true,
  bV,
  aD (br a 0) true,
  bV,
  aD (br b 0) false,
  aD (br b 0) false,
  bV,
  aD (br b 0) false,
  bV,
  bV]
 (.tuple #[(vI (bB a b)),(.bool true)]):=cg
theorem JE (a b:Int):Path 21 [(vI a),(vI b),(vI 0)]
 [bV,
  aD (fD a 0) true,
  aD (fD a 0) true,
  aD (fD a 0) true,
  aD (fD b 0) false,
  aD (fD b 0) false,
  aD (fD b 0) false,
  bV,
  bV,
  bV,
  aD (br a 0) true,
  aD (br a 0) true,
  bV,
  aD (br a 0) true,
  bV,
  aD (br b 0) true,
  aD (br b 0) true,
  bV,
  aD (br b 0) true,
  bV,
  bV]
 (.tuple #[(vI (bB a b)),(.bool (!(iE (bB a b) 0)))]):=cg
theorem NA (a b:Int):Path 21 [(vI a),(vI b),(vI 0)]
 [bV,
  aD (fD a 0) true,
  aD (fD a 0) true,
  aD (fD a 0) true,
  aD (fD b 0) true,
  aD (fD b 0) true,
  aD (fD b 0) true,
  aD (!(br (bB a b) 0)) false,
  aD (!(br (bB a b) 0)) false,
  aD (!(br (bB a b) 0)) false,
  aD (!(br (bB a b) 0)) false,
  aD (!(br (bB a b) 0)) false,
  aD (!(br (bB a b) 0)) false,
  aD (!(br (bB a b) 0)) false,
  aD (!(br (bB a b) 0)) false]
 (.tuple #[(vI (bB a b)),(.bool false)]):=cg
theorem JC (a b:Int):Path 21 [(vI a),(vI b),(vI 0)]
 [bV,
  aD (fD a 0) true,
  aD (fD a 0) true,
  aD (fD a 0) true,
  aD (fD b 0) true,
  aD (fD b 0) true,
  aD (fD b 0) true,
  aD (!(br (bB a b) 0)) true,
  aD (!(br (bB a b) 0)) true,
  aD (!(br (bB a b) 0)) true,
  aD (br a 0) false,
  aD (br a 0) false,
  aD (!(br (bB a b) 0)) true,
  aD (br a 0) false,
  aD (!(br (bB a b) 0)) true,
  bm,
  bm,
  aD (!(br (bB a b) 0)) true,
  bm,
  aD (!(br (bB a b) 0)) true,
  aD (!(br (bB a b) 0)) true]
 (.tuple #[(vI (bB a b)),(.bool true)]):=cg
theorem G4 (a b:Int):Path 21 [(vI a),(vI b),(vI 0)]
 [bV,
  aD (fD a 0) true,
  aD (fD a 0) true,
  aD (fD a 0) true,
  aD (fD b 0) true,
  aD (fD b 0) true,
  aD (fD b 0) true,
  aD (!(br (bB a b) 0)) true,
  aD (!(br (bB a b) 0)) true,
  aD (!(br (bB a b) 0)) true,
  aD (br a 0) true,
  aD (br a 0) true,
  aD (!(br (bB a b) 0)) true,
  aD (br a 0) true,
  aD (!(br (bB a b) 0)) true,
  aD (br b 0) false,
  aD (br b 0) false,
  aD (!(br (bB a b) 0)) true,
  aD (br b 0) false,
  aD (!(br (bB a b) 0)) true,
  aD (!(br (bB a b) 0)) true]
 (.tuple #[(vI (bB a b)),(.bool true)]):=cg
theorem G3 (a b:Int):Path 21 [(vI a),(vI b),(vI 0)]
 [bV,
  aD (fD a 0) true,
  aD (fD a 0) true,
  aD (fD a 0) true,
  aD (fD b 0) true,
  aD (fD b 0) true,
  aD (fD b 0) true,
  aD (!(br (bB a b) 0)) true,
  aD (!(br (bB a b) 0)) true,
  aD (!(br (bB a b) 0)) true,
  aD (br a 0) true,
  aD (br a 0) true,
  aD (!(br (bB a b) 0)) true,
  aD (br a 0) true,
  aD (!(br (bB a b) 0)) true,
  aD (br b 0) true,
  aD (br b 0) true,
  aD (!(br (bB a b) 0)) true,
  aD (br b 0) true,
  aD (!(br (bB a b) 0)) true,
  aD (!(br (bB a b) 0)) true]
 (.tuple #[(vI (bB a b)),(.bool (!(iE (bB a b) 0)))]):=cg
theorem Vv {a b:Int}(ha:cC a)(hb:cC b)(h1:¬(0<a))(h2:¬(a<0)):true=(bz 17 a b).2:=by
 have jB:=iT ha hb
 show true=(vY a b).2
 rw[uG ha hb];refine(dZ ?_).symm;obtain⟨a1,a2⟩:=ha;obtain⟨b1,b2⟩:=hb;rcases jB with⟨⟨_,_⟩,e⟩|⟨h,e⟩|⟨h,e⟩<;>omega
theorem VC {a b:Int}(ha:cC a)(hb:cC b)(h1:¬(0<a))(h2:¬(a<0)):true=true->bB a b=(bz 17 a b).1:=by
 intro _;rfl
theorem Rb {a b:Int}(ha:cC a)(hb:cC b)(h1:¬(0<a))(h2:a<0)(h3:¬(b<0)):true=(bz 17 a b).2:=by
 have jB:=iT ha hb
 show true=(vY a b).2
 rw[uG ha hb];refine(dZ ?_).symm;obtain⟨a1,a2⟩:=ha;obtain⟨b1,b2⟩:=hb;rcases jB with⟨⟨_,_⟩,e⟩|⟨h,e⟩|⟨h,e⟩<;>omega
theorem Rl {a b:Int}(ha:cC a)(hb:cC b)(h1:¬(0<a))(h2:a<0)(h3:¬(b<0)):true=true->bB a b=(bz 17 a b).1:=by
 intro _;rfl
theorem Ra {a b:Int}(ha:cC a)(hb:cC b)(h1:¬(0<a))(h2:a<0)(h3:b<0):(!(iE (bB a b) 0))=(bz 17 a b).2:=by
 have jB:=iT ha hb
 show(!(iE (bB a b) 0))=(vY a b).2
 rw[uG ha hb];rw[Dk];refine decide_eq_decide.2 ?_;obtain⟨a1,a2⟩:=ha;obtain⟨b1,b2⟩:=hb;rcases jB with⟨⟨_,_⟩,e⟩|⟨h,e⟩|⟨h,e⟩<;>omega
theorem Rk {a b:Int}(ha:cC a)(hb:cC b)(h1:¬(0<a))(h2:a<0)(h3:b<0):(!(iE (bB a b) 0))=true->bB a b=(bz 17 a b).1:=by
 intro _;rfl
theorem Q9 {a b:Int}(ha:cC a)(hb:cC b)(h1:0<a)(h2:¬(0<b))(h3:¬(a<0)):true=(bz 17 a b).2:=by
 have jB:=iT ha hb
 show true=(vY a b).2
 rw[uG ha hb];refine(dZ ?_).symm;obtain⟨a1,a2⟩:=ha;obtain⟨b1,b2⟩:=hb;rcases jB with⟨⟨_,_⟩,e⟩|⟨h,e⟩|⟨h,e⟩<;>omega
theorem Rj {a b:Int}(ha:cC a)(hb:cC b)(h1:0<a)(h2:¬(0<b))(h3:¬(a<0)):true=true->bB a b=(bz 17 a b).1:=by
 intro _;rfl
theorem Oe {a b:Int}(ha:cC a)(hb:cC b)(h1:0<a)(h2:¬(0<b))(h3:a<0)(h4:¬(b<0)):true=(bz 17 a b).2:=by
 have jB:=iT ha hb
 show true=(vY a b).2
 rw[uG ha hb];refine(dZ ?_).symm;obtain⟨a1,a2⟩:=ha;obtain⟨b1,b2⟩:=hb;rcases jB with⟨⟨_,_⟩,e⟩|⟨h,e⟩|⟨h,e⟩<;>omega
theorem Oo {a b:Int}(ha:cC a)(hb:cC b)(h1:0<a)(h2:¬(0<b))(h3:a<0)(h4:¬(b<0)):true=true->bB a b=(bz 17 a b).1:=by
 intro _;rfl
theorem Od {a b:Int}(ha:cC a)(hb:cC b)(h1:0<a)(h2:¬(0<b))(h3:a<0)(h4:b<0):(!(iE (bB a b) 0))=(bz 17 a b).2:=by
 have jB:=iT ha hb
 show(!(iE (bB a b) 0))=(vY a b).2
 rw[uG ha hb];rw[Dk];refine decide_eq_decide.2 ?_;obtain⟨a1,a2⟩:=ha;obtain⟨b1,b2⟩:=hb;rcases jB with⟨⟨_,_⟩,e⟩|⟨h,e⟩|⟨h,e⟩<;>omega
theorem On {a b:Int}(ha:cC a)(hb:cC b)(h1:0<a)(h2:¬(0<b))(h3:a<0)(h4:b<0):(!(iE (bB a b) 0))=true->bB a b=(bz 17 a b).1:=by
 intro _;rfl
theorem Q8 {a b:Int}(ha:cC a)(hb:cC b)(h1:0<a)(h2:0<b)(h3:¬(¬((bB a b)<0))):false=(bz 17 a b).2:=by
 have jB:=iT ha hb
 show false=(vY a b).2
 rw[uG ha hb];refine(eO ?_).symm;obtain⟨a1,a2⟩:=ha;obtain⟨b1,b2⟩:=hb;rcases jB with⟨⟨_,_⟩,e⟩|⟨h,e⟩|⟨h,e⟩<;>omega
theorem Ri {a b:Int}(ha:cC a)(hb:cC b)(h1:0<a)(h2:0<b)(h3:¬(¬((bB a b)<0))):false=true->bB a b=(bz 17 a b).1:=by
 intro _;rfl
theorem Oc {a b:Int}(ha:cC a)(hb:cC b)(h1:0<a)(h2:0<b)(h3:¬((bB a b)<0))(h4:¬(a<0)):true=(bz 17 a b).2:=by
 have jB:=iT ha hb
 show true=(vY a b).2
 rw[uG ha hb];refine(dZ ?_).symm;obtain⟨a1,a2⟩:=ha;obtain⟨b1,b2⟩:=hb;rcases jB with⟨⟨_,_⟩,e⟩|⟨h,e⟩|⟨h,e⟩<;>omega
theorem Om {a b:Int}(ha:cC a)(hb:cC b)(h1:0<a)(h2:0<b)(h3:¬((bB a b)<0))(h4:¬(a<0)):true=true->bB a b=(bz 17 a b).1:=by
 intro _;rfl
theorem J5 {a b:Int}(ha:cC a)(hb:cC b)(h1:0<a)(h2:0<b)(h3:¬((bB a b)<0))(h4:a<0)(h5:¬(b<0)):true=(bz 17 a b).2:=by
 have jB:=iT ha hb
 show true=(vY a b).2
 rw[uG ha hb];refine(dZ ?_).symm;obtain⟨a1,a2⟩:=ha;obtain⟨b1,b2⟩:=hb;rcases jB with⟨⟨_,_⟩,e⟩|⟨h,e⟩|⟨h,e⟩<;>omega
theorem Ka {a b:Int}(ha:cC a)(hb:cC b)(h1:0<a)(h2:0<b)(h3:¬((bB a b)<0))(h4:a<0)(h5:¬(b<0)):true=true->bB a b=(bz 17 a b).1:=by
 intro _;rfl
theorem J4 {a b:Int}(ha:cC a)(hb:cC b)(h1:0<a)(h2:0<b)(h3:¬((bB a b)<0))(h4:a<0)(h5:b<0):(!(iE (bB a b) 0))=(bz 17 a b).2:=by
 have jB:=iT ha hb
 show(!(iE (bB a b) 0))=(vY a b).2
 rw[uG ha hb];rw[Dk];refine decide_eq_decide.2 ?_;obtain⟨a1,a2⟩:=ha;obtain⟨b1,b2⟩:=hb;rcases jB with⟨⟨_,_⟩,e⟩|⟨h,e⟩|⟨h,e⟩<;>omega
theorem J' {a b:Int}(ha:cC a)(hb:cC b)(h1:0<a)(h2:0<b)(h3:¬((bB a b)<0))(h4:a<0)(h5:b<0):(!(iE (bB a b) 0))=true->bB a b=(bz 17 a b).1:=by
 intro _;rfl
theorem aiI {a b:Int}(ha:cC a)(hb:cC b):∃x y,Ev K 21 [vI a,vI b,vI 0] m (.tuple #[vI x,.bool y]) m/\y=(bz 17 a b).2/\(y=true->x=(bz 17 a b).1):=by
 by_cases h1:0<a
 ·have c1:(.bool (fD a 0):af)= .bool true:=by rw[gX,dZ h1]
  by_cases h2:0<b
  ·have c2:(.bool (fD b 0):af)= .bool true:=by rw[gX,dZ h2]
   by_cases h3:¬((bB a b)<0)
   ·have c3:(.bool (!(br (bB a b) 0)):af)= .bool true:=by rw[bZ,eO h3];rfl
    by_cases h4:a<0
    ·have c4:(.bool (br a 0):af)= .bool true:=by rw[bZ,dZ h4]
     by_cases h5:b<0
     ·have c5:(.bool (br b 0):af)= .bool true:=by rw[bZ,dZ h5]
      refine⟨_,_,ak (G3 a b) kH,?_,?_⟩
      ·exact J4 ha hb h1 h2 h3 h4 h5
      ·exact J' ha hb h1 h2 h3 h4 h5
     ·have c5:(.bool (br b 0):af)= .bool false:=by rw[bZ,eO h5]
      refine⟨_,_,ak (G4 a b) kH,?_,?_⟩
      ·exact J5 ha hb h1 h2 h3 h4 h5
      ·exact Ka ha hb h1 h2 h3 h4 h5
    ·have c4:(.bool (br a 0):af)= .bool false:=by rw[bZ,eO h4]
     refine⟨_,_,ak (JC a b) kH,?_,?_⟩
     ·exact Oc ha hb h1 h2 h3 h4
     ·exact Om ha hb h1 h2 h3 h4
   ·have c3:(.bool (!(br (bB a b) 0)):af)= .bool false:=by rw[bZ,dZ (Classical.not_not.1 h3)];rfl
    refine⟨_,_,ak (NA a b) kH,?_,?_⟩
    ·exact Q8 ha hb h1 h2 h3
    ·exact Ri ha hb h1 h2 h3
  ·have c2:(.bool (fD b 0):af)= .bool false:=by rw[gX,eO h2]
   by_cases h3:a<0
   ·have c3:(.bool (br a 0):af)= .bool true:=by rw[bZ,dZ h3]
    by_cases h4:b<0
    ·have c4:(.bool (br b 0):af)= .bool true:=by rw[bZ,dZ h4]
     refine⟨_,_,ak (JE a b) kH,?_,?_⟩
     ·exact Od ha hb h1 h2 h3 h4
     ·exact On ha hb h1 h2 h3 h4
    ·have c4:(.bool (br b 0):af)= .bool false:=by rw[bZ,eO h4]
     refine⟨_,_,ak (JF a b) kH,?_,?_⟩
     ·exact Oe ha hb h1 h2 h3 h4
     ·exact Oo ha hb h1 h2 h3 h4
   ·have c3:(.bool (br a 0):af)= .bool false:=by rw[bZ,eO h3]
    refine⟨_,_,ak (NB a b) kH,?_,?_⟩
    ·exact Q9 ha hb h1 h2 h3
    ·exact Rj ha hb h1 h2 h3
 ·have c1:(.bool (fD a 0):af)= .bool false:=by rw[gX,eO h1]
  by_cases h2:a<0
  ·have c2:(.bool (br a 0):af)= .bool true:=by rw[bZ,dZ h2]
   by_cases h3:b<0
   ·have c3:(.bool (br b 0):af)= .bool true:=by rw[bZ,dZ h3]
    refine⟨_,_,ak (NC a b) kH,?_,?_⟩
    ·exact Ra ha hb h1 h2 h3
    ·exact Rk ha hb h1 h2 h3
   ·have c3:(.bool (br b 0):af)= .bool false:=by rw[bZ,eO h3]
    refine⟨_,_,ak (ND a b) kH,?_,?_⟩
    ·exact Rb ha hb h1 h2 h3
    ·exact Rl ha hb h1 h2 h3
  ·have c2:(.bool (br a 0):af)= .bool false:=by rw[bZ,eO h2]
   refine⟨_,_,ak (Qv a b) kH,?_,?_⟩
   ·exact Vv ha hb h1 h2
   ·exact VC ha hb h1 h2
theorem Qu (a b:Int):Path 21 [(vI a),(vI b),(vI 1)]
 [bm,
  bV,
  aD (iE a 0) false,
  aD (iE a 0) false,
  aD (iE a 0) false,
  bm,
  bm,
  bm,
  bV,
  bV,
  bV,
  aD (br a 0) false,
  aD (br a 0) false,
  bV,
  aD (br a 0) false,
  bV,
  bm,
  bm,
  bV,
  bm,
  bV,
  bV]
 (.tuple #[(vI (cO a b)),(.bool true)]):=cg
theorem Nz (a b:Int):Path 21 [(vI a),(vI b),(vI 1)]
 [bm,
  bV,
  aD (iE a 0) false,
  aD (iE a 0) false,
  aD (iE a 0) false,
  bm,
  bm,
  bm,
  bV,
  bV,
  bV,
  aD (br a 0) true,
  aD (br a 0) true,
  bV,
  aD (br a 0) true,
  bV,
  aD (fD b 0) false,
  aD (fD b 0) false,
  bV,
  aD (fD b 0) false,
  bV,
  bV]
 (.tuple #[(vI (cO a b)),(.bool true)]):=cg
theorem Ny (a b:Int):Path 21 [(vI a),(vI b),(vI 1)]
 [bm,
  bV,
  aD (iE a 0) false,
  aD (iE a 0) false,
  aD (iE a 0) false,
  bm,
  bm,
  bm,
  bV,
  bV,
  bV,
  aD (br a 0) true,
  aD (br a 0) true,
  bV,
  aD (br a 0) true,
  bV,
  aD (fD b 0) true,
  aD (fD b 0) true,
  bV,
  aD (fD b 0) true,
  bV,
  bV]
 (.tuple #[(vI (cO a b)),(.bool (!(iE (cO a b) 0)))]):=cg
theorem Nw (a b:Int):Path 21 [(vI a),(vI b),(vI 1)]
 [bm,
  bV,
  aD (iE a 0) true,
  aD (iE a 0) true,
  aD (iE a 0) true,
  aD (br b 0) false,
  aD (br b 0) false,
  aD (br b 0) false,
  bV,
  bV,
  bV,
  aD (br a 0) false,
  aD (br a 0) false,
  bV,
  aD (br a 0) false,
  bV,
  bm,
  bm,
  bV,
  bm,
  bV,
  bV]
 (.tuple #[(vI (cO a b)),(.bool true)]):=cg
theorem JB (a b:Int):Path 21 [(vI a),(vI b),(vI 1)]
 [bm,
  bV,
  aD (iE a 0) true,
  aD (iE a 0) true,
  aD (iE a 0) true,
  aD (br b 0) false,
  aD (br b 0) false,
  aD (br b 0) false,
  bV,
  bV,
  bV,
  aD (br a 0) true,
  aD (br a 0) true,
  bV,
  aD (br a 0) true,
  bV,
  aD (fD b 0) false,
  aD (fD b 0) false,
  bV,
  aD (fD b 0) false,
  bV,
  bV]
 (.tuple #[(vI (cO a b)),(.bool true)]):=cg
theorem JA (a b:Int):Path 21 [(vI a),(vI b),(vI 1)]
 [bm,
  bV,
  aD (iE a 0) true,
  aD (iE a 0) true,
  aD (iE a 0) true,
  aD (br b 0) false,
  aD (br b 0) false,
  aD (br b 0) false,
  bV,
  bV,
  bV,
  aD (br a 0) true,
  aD (br a 0) true,
  bV,
  aD (br a 0) true,
  bV,
  aD (fD b 0) true,
  aD (fD b 0) true,
  bV,
  aD (fD b 0) true,
  bV,
  bV]
 (.tuple #[(vI (cO a b)),(.bool (!(iE (cO a b) 0)))]):=cg
theorem Nv (a b:Int):Path 21 [(vI a),(vI b),(vI 1)]
 [bm,
  bV,
  aD (iE a 0) true,
  aD (iE a 0) true,
  aD (iE a 0) true,
  aD (br b 0) true,
  aD (br b 0) true,
  aD (br b 0) true,
  aD (!(br (cO a b) 0)) false,
  aD (!(br (cO a b) 0)) false,
  aD (!(br (cO a b) 0)) false,
  aD (!(br (cO a b) 0)) false,
  aD (!(br (cO a b) 0)) false,
  aD (!(br (cO a b) 0)) false,
  aD (!(br (cO a b) 0)) false,
  aD (!(br (cO a b) 0)) false]
 (.tuple #[(vI (cO a b)),(.bool false)]):=cg
theorem Jz (a b:Int):Path 21 [(vI a),(vI b),(vI 1)]
 [bm,
  bV,
  aD (iE a 0) true,
  aD (iE a 0) true,
  aD (iE a 0) true,
  aD (br b 0) true,
  aD (br b 0) true,
  aD (br b 0) true,
  aD (!(br (cO a b) 0)) true,
  aD (!(br (cO a b) 0)) true,
  aD (!(br (cO a b) 0)) true,
  aD (br a 0) false,
  aD (br a 0) false,
  aD (!(br (cO a b) 0)) true,
  aD (br a 0) false,
  aD (!(br (cO a b) 0)) true,
  bm,
  bm,
  aD (!(br (cO a b) 0)) true,
  bm,
  aD (!(br (cO a b) 0)) true,
  aD (!(br (cO a b) 0)) true]
 (.tuple #[(vI (cO a b)),(.bool true)]):=cg
theorem G2 (a b:Int):Path 21 [(vI a),(vI b),(vI 1)]
 [bm,
  bV,
  aD (iE a 0) true,
  aD (iE a 0) true,
  aD (iE a 0) true,
  aD (br b 0) true,
  aD (br b 0) true,
  aD (br b 0) true,
  aD (!(br (cO a b) 0)) true,
  aD (!(br (cO a b) 0)) true,
  aD (!(br (cO a b) 0)) true,
  aD (br a 0) true,
  aD (br a 0) true,
  aD (!(br (cO a b) 0)) true,
  aD (br a 0) true,
  aD (!(br (cO a b) 0)) true,
  aD (fD b 0) false,
  aD (fD b 0) false,
  aD (!(br (cO a b) 0)) true,
  aD (fD b 0) false,
  aD (!(br (cO a b) 0)) true,
  aD (!(br (cO a b) 0)) true]
 (.tuple #[(vI (cO a b)),(.bool true)]):=cg
theorem G1 (a b:Int):Path 21 [(vI a),(vI b),(vI 1)]
 [bm,
  bV,
  aD (iE a 0) true,
  aD (iE a 0) true,
  aD (iE a 0) true,
  aD (br b 0) true,
  aD (br b 0) true,
  aD (br b 0) true,
  aD (!(br (cO a b) 0)) true,
  aD (!(br (cO a b) 0)) true,
  aD (!(br (cO a b) 0)) true,
  aD (br a 0) true,
  aD (br a 0) true,
  aD (!(br (cO a b) 0)) true,
  aD (br a 0) true,
  aD (!(br (cO a b) 0)) true,
  aD (fD b 0) true,
  aD (fD b 0) true,
  aD (!(br (cO a b) 0)) true,
  aD (fD b 0) true,
  aD (!(br (cO a b) 0)) true,
  aD (!(br (cO a b) 0)) true]
 (.tuple #[(vI (cO a b)),(.bool (!(iE (cO a b) 0)))]):=cg
theorem Vu {a b:Int}(ha:cC a)(hb:cC b)(h1:¬(0<=a))(h2:¬(a<0)):true=(bz 18 a b).2:=by
 have jB:=iN ha hb
 show true=(vr a b).2
 rw[tr ha hb];refine(dZ ?_).symm;obtain⟨a1,a2⟩:=ha;obtain⟨b1,b2⟩:=hb;rcases jB with⟨⟨_,_⟩,e⟩|⟨h,e⟩|⟨h,e⟩<;>omega
theorem VB {a b:Int}(ha:cC a)(hb:cC b)(h1:¬(0<=a))(h2:¬(a<0)):true=true->cO a b=(bz 18 a b).1:=by
 intro _;rfl
theorem Q7 {a b:Int}(ha:cC a)(hb:cC b)(h1:¬(0<=a))(h2:a<0)(h3:¬(0<b)):true=(bz 18 a b).2:=by
 have jB:=iN ha hb
 show true=(vr a b).2
 rw[tr ha hb];refine(dZ ?_).symm;obtain⟨a1,a2⟩:=ha;obtain⟨b1,b2⟩:=hb;rcases jB with⟨⟨_,_⟩,e⟩|⟨h,e⟩|⟨h,e⟩<;>omega
theorem Rh {a b:Int}(ha:cC a)(hb:cC b)(h1:¬(0<=a))(h2:a<0)(h3:¬(0<b)):true=true->cO a b=(bz 18 a b).1:=by
 intro _;rfl
theorem Q6 {a b:Int}(ha:cC a)(hb:cC b)(h1:¬(0<=a))(h2:a<0)(h3:0<b):(!(iE (cO a b) 0))=(bz 18 a b).2:=by
 have jB:=iN ha hb
 show(!(iE (cO a b) 0))=(vr a b).2
 rw[tr ha hb];rw[Dk];refine decide_eq_decide.2 ?_;obtain⟨a1,a2⟩:=ha;obtain⟨b1,b2⟩:=hb;rcases jB with⟨⟨_,_⟩,e⟩|⟨h,e⟩|⟨h,e⟩<;>omega
theorem Rg {a b:Int}(ha:cC a)(hb:cC b)(h1:¬(0<=a))(h2:a<0)(h3:0<b):(!(iE (cO a b) 0))=true->cO a b=(bz 18 a b).1:=by
 intro _;rfl
theorem Q5 {a b:Int}(ha:cC a)(hb:cC b)(h1:0<=a)(h2:¬(b<0))(h3:¬(a<0)):true=(bz 18 a b).2:=by
 have jB:=iN ha hb
 show true=(vr a b).2
 rw[tr ha hb];refine(dZ ?_).symm;obtain⟨a1,a2⟩:=ha;obtain⟨b1,b2⟩:=hb;rcases jB with⟨⟨_,_⟩,e⟩|⟨h,e⟩|⟨h,e⟩<;>omega
theorem Rf {a b:Int}(ha:cC a)(hb:cC b)(h1:0<=a)(h2:¬(b<0))(h3:¬(a<0)):true=true->cO a b=(bz 18 a b).1:=by
 intro _;rfl
theorem Ob {a b:Int}(ha:cC a)(hb:cC b)(h1:0<=a)(h2:¬(b<0))(h3:a<0)(h4:¬(0<b)):true=(bz 18 a b).2:=by
 have jB:=iN ha hb
 show true=(vr a b).2
 rw[tr ha hb];refine(dZ ?_).symm;obtain⟨a1,a2⟩:=ha;obtain⟨b1,b2⟩:=hb;rcases jB with⟨⟨_,_⟩,e⟩|⟨h,e⟩|⟨h,e⟩<;>omega
theorem Ol {a b:Int}(ha:cC a)(hb:cC b)(h1:0<=a)(h2:¬(b<0))(h3:a<0)(h4:¬(0<b)):true=true->cO a b=(bz 18 a b).1:=by
 intro _;rfl
theorem Oa {a b:Int}(ha:cC a)(hb:cC b)(h1:0<=a)(h2:¬(b<0))(h3:a<0)(h4:0<b):(!(iE (cO a b) 0))=(bz 18 a b).2:=by
 have jB:=iN ha hb
 show(!(iE (cO a b) 0))=(vr a b).2
 rw[tr ha hb];rw[Dk];refine decide_eq_decide.2 ?_;obtain⟨a1,a2⟩:=ha;obtain⟨b1,b2⟩:=hb;rcases jB with⟨⟨_,_⟩,e⟩|⟨h,e⟩|⟨h,e⟩<;>omega
theorem Ok {a b:Int}(ha:cC a)(hb:cC b)(h1:0<=a)(h2:¬(b<0))(h3:a<0)(h4:0<b):(!(iE (cO a b) 0))=true->cO a b=(bz 18 a b).1:=by
 intro _;rfl
theorem Q0 {a b:Int}(ha:cC a)(hb:cC b)(h1:0<=a)(h2:b<0)(h3:¬(¬((cO a b)<0))):false=(bz 18 a b).2:=by
 have jB:=iN ha hb
 show false=(vr a b).2
 rw[tr ha hb];refine(eO ?_).symm;obtain⟨a1,a2⟩:=ha;obtain⟨b1,b2⟩:=hb;rcases jB with⟨⟨_,_⟩,e⟩|⟨h,e⟩|⟨h,e⟩<;>omega
theorem Re {a b:Int}(ha:cC a)(hb:cC b)(h1:0<=a)(h2:b<0)(h3:¬(¬((cO a b)<0))):false=true->cO a b=(bz 18 a b).1:=by
 intro _;rfl
theorem N9 {a b:Int}(ha:cC a)(hb:cC b)(h1:0<=a)(h2:b<0)(h3:¬((cO a b)<0))(h4:¬(a<0)):true=(bz 18 a b).2:=by
 have jB:=iN ha hb
 show true=(vr a b).2
 rw[tr ha hb];refine(dZ ?_).symm;obtain⟨a1,a2⟩:=ha;obtain⟨b1,b2⟩:=hb;rcases jB with⟨⟨_,_⟩,e⟩|⟨h,e⟩|⟨h,e⟩<;>omega
theorem Oj {a b:Int}(ha:cC a)(hb:cC b)(h1:0<=a)(h2:b<0)(h3:¬((cO a b)<0))(h4:¬(a<0)):true=true->cO a b=(bz 18 a b).1:=by
 intro _;rfl
theorem J3 {a b:Int}(ha:cC a)(hb:cC b)(h1:0<=a)(h2:b<0)(h3:¬((cO a b)<0))(h4:a<0)(h5:¬(0<b)):true=(bz 18 a b).2:=by
 have jB:=iN ha hb
 show true=(vr a b).2
 rw[tr ha hb];refine(dZ ?_).symm;obtain⟨a1,a2⟩:=ha;obtain⟨b1,b2⟩:=hb;rcases jB with⟨⟨_,_⟩,e⟩|⟨h,e⟩|⟨h,e⟩<;>omega
theorem J9 {a b:Int}(ha:cC a)(hb:cC b)(h1:0<=a)(h2:b<0)(h3:¬((cO a b)<0))(h4:a<0)(h5:¬(0<b)):true=true->cO a b=(bz 18 a b).1:=by
 intro _;rfl
theorem J2 {a b:Int}(ha:cC a)(hb:cC b)(h1:0<=a)(h2:b<0)(h3:¬((cO a b)<0))(h4:a<0)(h5:0<b):(!(iE (cO a b) 0))=(bz 18 a b).2:=by
 have jB:=iN ha hb
 show(!(iE (cO a b) 0))=(vr a b).2
 rw[tr ha hb];rw[Dk];refine decide_eq_decide.2 ?_;obtain⟨a1,a2⟩:=ha;obtain⟨b1,b2⟩:=hb;rcases jB with⟨⟨_,_⟩,e⟩|⟨h,e⟩|⟨h,e⟩<;>omega
theorem J8 {a b:Int}(ha:cC a)(hb:cC b)(h1:0<=a)(h2:b<0)(h3:¬((cO a b)<0))(h4:a<0)(h5:0<b):(!(iE (cO a b) 0))=true->cO a b=(bz 18 a b).1:=by
 intro _;rfl
theorem aiH {a b:Int}(ha:cC a)(hb:cC b):∃x y,Ev K 21 [vI a,vI b,vI 1] m (.tuple #[vI x,.bool y]) m/\y=(bz 18 a b).2/\(y=true->x=(bz 18 a b).1):=by
 by_cases h1:0<=a
 ·have c1:(.bool (iE a 0):af)= .bool true:=by rw[qz,dZ h1]
  by_cases h2:b<0
  ·have c2:(.bool (br b 0):af)= .bool true:=by rw[bZ,dZ h2]
   by_cases h3:¬((cO a b)<0)
   ·have c3:(.bool (!(br (cO a b) 0)):af)= .bool true:=by rw[bZ,eO h3];rfl
    by_cases h4:a<0
    ·have c4:(.bool (br a 0):af)= .bool true:=by rw[bZ,dZ h4]
     by_cases h5:0<b
     ·have c5:(.bool (fD b 0):af)= .bool true:=by rw[gX,dZ h5]
      refine⟨_,_,ak (G1 a b) kH,?_,?_⟩
      ·exact J2 ha hb h1 h2 h3 h4 h5
      ·exact J8 ha hb h1 h2 h3 h4 h5
     ·have c5:(.bool (fD b 0):af)= .bool false:=by rw[gX,eO h5]
      refine⟨_,_,ak (G2 a b) kH,?_,?_⟩
      ·exact J3 ha hb h1 h2 h3 h4 h5
      ·exact J9 ha hb h1 h2 h3 h4 h5
    ·have c4:(.bool (br a 0):af)= .bool false:=by rw[bZ,eO h4]
     refine⟨_,_,ak (Jz a b) kH,?_,?_⟩
     ·exact N9 ha hb h1 h2 h3 h4
     ·exact Oj ha hb h1 h2 h3 h4
   ·have c3:(.bool (!(br (cO a b) 0)):af)= .bool false:=by rw[bZ,dZ (Classical.not_not.1 h3)];rfl
    refine⟨_,_,ak (Nv a b) kH,?_,?_⟩
    ·exact Q0 ha hb h1 h2 h3
    ·exact Re ha hb h1 h2 h3
  ·have c2:(.bool (br b 0):af)= .bool false:=by rw[bZ,eO h2]
   by_cases h3:a<0
   ·have c3:(.bool (br a 0):af)= .bool true:=by rw[bZ,dZ h3]
    by_cases h4:0<b
    ·have c4:(.bool (fD b 0):af)= .bool true:=by rw[gX,dZ h4]
     refine⟨_,_,ak (JA a b) kH,?_,?_⟩
     ·exact Oa ha hb h1 h2 h3 h4
     ·exact Ok ha hb h1 h2 h3 h4
    ·have c4:(.bool (fD b 0):af)= .bool false:=by rw[gX,eO h4]
     refine⟨_,_,ak (JB a b) kH,?_,?_⟩
     ·exact Ob ha hb h1 h2 h3 h4
     ·exact Ol ha hb h1 h2 h3 h4
   ·have c3:(.bool (br a 0):af)= .bool false:=by rw[bZ,eO h3]
    refine⟨_,_,ak (Nw a b) kH,?_,?_⟩
    ·exact Q5 ha hb h1 h2 h3
    ·exact Rf ha hb h1 h2 h3
 ·have c1:(.bool (iE a 0):af)= .bool false:=by rw[qz,eO h1]
  by_cases h2:a<0
  ·have c2:(.bool (br a 0):af)= .bool true:=by rw[bZ,dZ h2]
   by_cases h3:0<b
   ·have c3:(.bool (fD b 0):af)= .bool true:=by rw[gX,dZ h3]
    refine⟨_,_,ak (Ny a b) kH,?_,?_⟩
    ·exact Q6 ha hb h1 h2 h3
    ·exact Rg ha hb h1 h2 h3
   ·have c3:(.bool (fD b 0):af)= .bool false:=by rw[gX,eO h3]
    refine⟨_,_,ak (Nz a b) kH,?_,?_⟩
    ·exact Q7 ha hb h1 h2 h3
    ·exact Rh ha hb h1 h2 h3
  ·have c2:(.bool (br a 0):af)= .bool false:=by rw[bZ,eO h2]
   refine⟨_,_,ak (Qu a b) kH,?_,?_⟩
   ·exact Vu ha hb h1 h2
   ·exact VB ha hb h1 h2
theorem Jy (a b:Int)(x1:Int):Path 21 [(vI a),(vI b),(vI 2)]
 [bm,
  bm,
  bV,
  aD (aZ a 0) false,
  aD (aZ a 0) false,
  aD (aZ a 0) false,
  aD (aZ b 0) false,
  aD (aZ a (-1)) false,
  aD (aZ a (-1)) false,
  aD (aZ a (-1)) false,
  aD (aZ b (-1)) false,
  .val (mM Nat.div .i64 (jr a b) b (iP ae .quo 3 false false (vI (jr a b)) (vI b))) (vI x1)]
 (.tuple #[(vI (jr a b)),(.bool (aZ x1 a))]):=cg
theorem G0 (a b:Int):Path 21 [(vI a),(vI b),(vI 2)]
 [bm,
  bm,
  bV,
  aD (aZ a 0) false,
  aD (aZ a 0) false,
  aD (aZ a 0) false,
  aD (aZ b 0) false,
  aD (aZ a (-1)) false,
  aD (aZ a (-1)) false,
  aD (aZ a (-1)) false,
  aD (aZ b (-1)) true,
  aD (hY a (-9223372036854775808)) false,
  aD (hY a (-9223372036854775808)) false,
  aD (hY a (-9223372036854775808)) false]
 (.tuple #[(vI (jr a b)),(.bool false)]):=cg
theorem GZ (a b:Int):Path 21 [(vI a),(vI b),(vI 2)]
 [bm,
  bm,
  bV,
  aD (aZ a 0) false,
  aD (aZ a 0) false,
  aD (aZ a 0) false,
  aD (aZ b 0) false,
  aD (aZ a (-1)) false,
  aD (aZ a (-1)) false,
  aD (aZ a (-1)) false,
  aD (aZ b (-1)) true,
  aD (hY a (-9223372036854775808)) true,
  aD (hY a (-9223372036854775808)) true,
  aD (hY a (-9223372036854775808)) true]
 (.tuple #[(vI (jr a b)),(.bool (hY b (-9223372036854775808)))]):=cg
theorem Jx (a b:Int):Path 21 [(vI a),(vI b),(vI 2)]
 [bm,
  bm,
  bV,
  aD (aZ a 0) false,
  aD (aZ a 0) false,
  aD (aZ a 0) false,
  aD (aZ b 0) false,
  aD (aZ a (-1)) true,
  aD (aZ a (-1)) true,
  aD (aZ a (-1)) true,
  bV,
  aD (hY a (-9223372036854775808)) false,
  aD (hY a (-9223372036854775808)) false,
  aD (hY a (-9223372036854775808)) false]
 (.tuple #[(vI (jr a b)),(.bool false)]):=cg
theorem Jw (a b:Int):Path 21 [(vI a),(vI b),(vI 2)]
 [bm,
  bm,
  bV,
  aD (aZ a 0) false,
  aD (aZ a 0) false,
  aD (aZ a 0) false,
  aD (aZ b 0) false,
  aD (aZ a (-1)) true,
  aD (aZ a (-1)) true,
  aD (aZ a (-1)) true,
  bV,
  aD (hY a (-9223372036854775808)) true,
  aD (hY a (-9223372036854775808)) true,
  aD (hY a (-9223372036854775808)) true]
 (.tuple #[(vI (jr a b)),(.bool (hY b (-9223372036854775808)))]):=cg
theorem Qt (a b:Int):Path 21 [(vI a),(vI b),(vI 2)]
 [bm,
  bm,
  bV,
  aD (aZ a 0) false,
  aD (aZ a 0) false,
  aD (aZ a 0) false,
  aD (aZ b 0) true]
 (.tuple #[(vI 0),(.bool true)]):=cg
theorem U3 (a b:Int):Path 21 [(vI a),(vI b),(vI 2)]
 [bm,
  bm,
  bV,
  aD (aZ a 0) true,
  aD (aZ a 0) true,
  aD (aZ a 0) true,
  bV]
 (.tuple #[(vI 0),(.bool true)]):=cg
theorem N7 {a b:Int}(ha:cC a)(hb:cC b)(h1:¬(a=0))(h2:¬(b=0))(h3:¬(a=(-1)))(h4:¬(b=(-1))):(aZ (nz (jr a b) b) a)=(bz 10 a b).2:=by
 show(aZ (nz (jr a b) b) a)=(fU a b).2
 rw[Ql ha hb h1 h2 h4,cu]
theorem Oi {a b:Int}(ha:cC a)(hb:cC b)(h1:¬(a=0))(h2:¬(b=0))(h3:¬(a=(-1)))(h4:¬(b=(-1))):(aZ (nz (jr a b) b) a)=true->jr a b=(bz 10 a b).1:=by
 intro _;show _=(fU a b).1;unfold fU;rw[bT (by rintro(h|h);exact h1 h;exact h2 h)]
theorem J1 {a b:Int}(ha:cC a)(hb:cC b)(h1:¬(a=0))(h2:¬(b=0))(h3:¬(a=(-1)))(h4:b=(-1))(h5:¬(a≠(-9223372036854775808))):false=(bz 10 a b).2:=by
 show false=(fU a b).2
 subst h4;rw[Lw ha h1,eO (by simpa using h5)]
theorem J7 {a b:Int}(ha:cC a)(hb:cC b)(h1:¬(a=0))(h2:¬(b=0))(h3:¬(a=(-1)))(h4:b=(-1))(h5:¬(a≠(-9223372036854775808))):false=true->jr a b=(bz 10 a b).1:=by
 intro _;show _=(fU a b).1;unfold fU;rw[bT (by rintro(h|h);exact h1 h;exact h2 h)]
theorem J0 {a b:Int}(ha:cC a)(hb:cC b)(h1:¬(a=0))(h2:¬(b=0))(h3:¬(a=(-1)))(h4:b=(-1))(h5:a≠(-9223372036854775808)):(hY b (-9223372036854775808))=(bz 10 a b).2:=by
 show(hY b (-9223372036854775808))=(fU a b).2
 subst h4;rw[Lw ha h1,dZ h5,jg];rfl
theorem J6 {a b:Int}(ha:cC a)(hb:cC b)(h1:¬(a=0))(h2:¬(b=0))(h3:¬(a=(-1)))(h4:b=(-1))(h5:a≠(-9223372036854775808)):(hY b (-9223372036854775808))=true->jr a b=(bz 10 a b).1:=by
 intro _;show _=(fU a b).1;unfold fU;rw[bT (by rintro(h|h);exact h1 h;exact h2 h)]
theorem N6 {a b:Int}(ha:cC a)(hb:cC b)(h1:¬(a=0))(h2:¬(b=0))(h3:a=(-1))(h4:¬(a≠(-9223372036854775808))):false=(bz 10 a b).2:=by
 show false=(fU a b).2
 exact absurd h3 av
theorem Oh {a b:Int}(ha:cC a)(hb:cC b)(h1:¬(a=0))(h2:¬(b=0))(h3:a=(-1))(h4:¬(a≠(-9223372036854775808))):false=true->jr a b=(bz 10 a b).1:=by
 intro _;show _=(fU a b).1;unfold fU;rw[bT (by rintro(h|h);exact h1 h;exact h2 h)]
theorem N5 {a b:Int}(ha:cC a)(hb:cC b)(h1:¬(a=0))(h2:¬(b=0))(h3:a=(-1))(h4:a≠(-9223372036854775808)):(hY b (-9223372036854775808))=(bz 10 a b).2:=by
 show(hY b (-9223372036854775808))=(fU a b).2
 subst h3;rw[U0 hb h2,jg]
theorem Og {a b:Int}(ha:cC a)(hb:cC b)(h1:¬(a=0))(h2:¬(b=0))(h3:a=(-1))(h4:a≠(-9223372036854775808)):(hY b (-9223372036854775808))=true->jr a b=(bz 10 a b).1:=by
 intro _;show _=(fU a b).1;unfold fU;rw[bT (by rintro(h|h);exact h1 h;exact h2 h)]
theorem Vt {a b:Int}(ha:cC a)(hb:cC b)(h1:¬(a=0))(h2:b=0):true=(bz 10 a b).2:=by
 show true=(fU a b).2
 unfold fU;rw[bL (.inr h2)]
theorem VA {a b:Int}(ha:cC a)(hb:cC b)(h1:¬(a=0))(h2:b=0):true=true->0=(bz 10 a b).1:=by
 intro _;show _=(fU a b).1;unfold fU;rw[bL (.inr h2)]
theorem aaU {a b:Int}(ha:cC a)(hb:cC b)(h1:a=0):true=(bz 10 a b).2:=by
 show true=(fU a b).2
 unfold fU;rw[bL (.inl h1)]
theorem aaX {a b:Int}(ha:cC a)(hb:cC b)(h1:a=0):true=true->0=(bz 10 a b).1:=by
 intro _;show _=(fU a b).1;unfold fU;rw[bL (.inl h1)]
theorem aiG {a b:Int}(ha:cC a)(hb:cC b):∃x y,Ev K 21 [vI a,vI b,vI 2] m (.tuple #[vI x,.bool y]) m/\y=(bz 10 a b).2/\(y=true->x=(bz 10 a b).1):=by
 by_cases h1:a=0
 ·have c1:(.bool (aZ a 0):af)= .bool true:=by rw[cu,dZ h1]
  refine⟨_,_,ak (U3 a b) kH,?_,?_⟩
  ·exact aaU ha hb h1
  ·exact aaX ha hb h1
 ·have c1:(.bool (aZ a 0):af)= .bool false:=by rw[cu,eO h1]
  by_cases h2:b=0
  ·have c2:(.bool (aZ b 0):af)= .bool true:=by rw[cu,dZ h2]
   refine⟨_,_,ak (Qt a b) kH,?_,?_⟩
   ·exact Vt ha hb h1 h2
   ·exact VA ha hb h1 h2
  ·have c2:(.bool (aZ b 0):af)= .bool false:=by rw[cu,eO h2]
   by_cases h3:a=(-1)
   ·have c3:(.bool (aZ a (-1)):af)= .bool true:=by rw[cu,dZ h3]
    by_cases h4:a≠(-9223372036854775808)
    ·have c4:(.bool (hY a (-9223372036854775808)):af)= .bool true:=by rw[jg,dZ h4]
     refine⟨_,_,ak (Jw a b) kH,?_,?_⟩
     ·exact N5 ha hb h1 h2 h3 h4
     ·exact Og ha hb h1 h2 h3 h4
    ·have c4:(.bool (hY a (-9223372036854775808)):af)= .bool false:=by rw[jg,eO h4]
     refine⟨_,_,ak (Jx a b) kH,?_,?_⟩
     ·exact N6 ha hb h1 h2 h3 h4
     ·exact Oh ha hb h1 h2 h3 h4
   ·have c3:(.bool (aZ a (-1)):af)= .bool false:=by rw[cu,eO h3]
    by_cases h4:b=(-1)
    ·have c4:(.bool (aZ b (-1)):af)= .bool true:=by rw[cu,dZ h4]
     by_cases h5:a≠(-9223372036854775808)
     ·have c5:(.bool (hY a (-9223372036854775808)):af)= .bool true:=by rw[jg,dZ h5]
      refine⟨_,_,ak (GZ a b) kH,?_,?_⟩
      ·exact J0 ha hb h1 h2 h3 h4 h5
      ·exact J6 ha hb h1 h2 h3 h4 h5
     ·have c5:(.bool (hY a (-9223372036854775808)):af)= .bool false:=by rw[jg,eO h5]
      refine⟨_,_,ak (G0 a b) kH,?_,?_⟩
      ·exact J1 ha hb h1 h2 h3 h4 h5
      ·exact J7 ha hb h1 h2 h3 h4 h5
    ·have c4:(.bool (aZ b (-1)):af)= .bool false:=by rw[cu,eO h4]
     refine⟨_,_,ak (Jy a b _) kH,?_,?_⟩
     ·exact N7 ha hb h1 h2 h3 h4
     ·exact Oi ha hb h1 h2 h3 h4
theorem Qs (a b:Int)(x1:Int):Path 21 [(vI a),(vI b),(vI 3)]
 [bm,
  bm,
  bm,
  aD (aZ b 0) false,
  aD (aZ b (-1)) false,
  bV,
  .val (mM Nat.div .i64 a b (iP ae .quo 3 false false (vI a) (vI b))) (vI x1)]
 (.tuple #[(vI x1),(.bool true)]):=cg
theorem Qr (a b:Int)(x1:Int):Path 21 [(vI a),(vI b),(vI 3)]
 [bm,
  bm,
  bm,
  aD (aZ b 0) false,
  aD (aZ b (-1)) true,
  bm,
  .val (pu ae [(vI a)] (Op.unary .neg (vI a))) (vI x1)]
 (.tuple #[(vI x1),(.bool (hY a (-9223372036854775808)))]):=cg
theorem U2 (a b:Int):Path 21 [(vI a),(vI b),(vI 3)]
 [bm,
  bm,
  bm,
  aD (aZ b 0) true]
 (.tuple #[(vI 0),(.bool false)]):=cg
theorem Vs {a b:Int}(ha:cC a)(hb:cC b)(h1:¬(b=0))(h2:¬(b=(-1))):true=(bz 19 a b).2:=by
 show true=(su a b).2
 unfold su;rw[bT (by rintro(h|h);exact h1 h;exact h2 h.2)]
theorem Vz {a b:Int}(ha:cC a)(hb:cC b)(h1:¬(b=0))(h2:¬(b=(-1))):true=true->nz a b=(bz 19 a b).1:=by
 intro hy;show _=(su a b).1;unfold su;rw[bT (by rintro(h|h);exact h1 h;exact h2 h.2)]
theorem Vr {a b:Int}(ha:cC a)(hb:cC b)(h1:¬(b=0))(h2:b=(-1)):(hY a (-9223372036854775808))=(bz 19 a b).2:=by
 show(hY a (-9223372036854775808))=(su a b).2
 unfold su;rw[jg]
 by_cases h:a= -9223372036854775808
 ·rw[bL (.inr ⟨h,h2⟩),eO (by simpa using h)]
 ·rw[bT (by rintro(h3|h3);exact h1 h3;exact h h3.1),dZ h]
theorem Vy {a b:Int}(ha:cC a)(hb:cC b)(h1:¬(b=0))(h2:b=(-1)):(hY a (-9223372036854775808))=true->cQ.i64.wrap (-a)=(bz 19 a b).1:=by
 intro hy;show _=(su a b).1;rw[jg,jE]at hy;unfold su;rw[bT (by rintro(h3|h3);exact h1 h3;exact hy h3.1),h2];exact(GR a).symm
theorem aaT {a b:Int}(ha:cC a)(hb:cC b)(h1:b=0):false=(bz 19 a b).2:=by
 show false=(su a b).2
 unfold su;rw[bL (.inl h1)]
theorem aaW {a b:Int}(ha:cC a)(hb:cC b)(h1:b=0):false=true->0=(bz 19 a b).1:=by
 intro hy;show _=(su a b).1;cases hy
theorem aiF {a b:Int}(ha:cC a)(hb:cC b):∃x y,Ev K 21 [vI a,vI b,vI 3] m (.tuple #[vI x,.bool y]) m/\y=(bz 19 a b).2/\(y=true->x=(bz 19 a b).1):=by
 by_cases h1:b=0
 ·have c1:(.bool (aZ b 0):af)= .bool true:=by rw[cu,dZ h1]
  refine⟨_,_,ak (U2 a b) kH,?_,?_⟩
  ·exact aaT ha hb h1
  ·exact aaW ha hb h1
 ·have c1:(.bool (aZ b 0):af)= .bool false:=by rw[cu,eO h1]
  by_cases h2:b=(-1)
  ·have c2:(.bool (aZ b (-1)):af)= .bool true:=by rw[cu,dZ h2]
   refine⟨_,_,ak (Qr a b _) kH,?_,?_⟩
   ·exact Vr ha hb h1 h2
   ·exact Vy ha hb h1 h2
  ·have c2:(.bool (aZ b (-1)):af)= .bool false:=by rw[cu,eO h2]
   refine⟨_,_,ak (Qs a b _) kH,?_,?_⟩
   ·exact Vs ha hb h1 h2
   ·exact Vz ha hb h1 h2
theorem Qq (a b:Int)(x1:Int):Path 21 [(vI a),(vI b),(vI 4)]
 [bm,
  bm,
  bm,
  aD (aZ b 0) false,
  aD (aZ b (-1)) false,
  bm,
  .val (mM Nat.mod .i64 a b (iP ae .rem 3 false false (vI a) (vI b))) (vI x1)]
 (.tuple #[(vI x1),(.bool true)]):=cg
theorem Qp (a b:Int):Path 21 [(vI a),(vI b),(vI 4)]
 [bm,
  bm,
  bm,
  aD (aZ b 0) false,
  aD (aZ b (-1)) true,
  bV]
 (.tuple #[(vI 0),(.bool true)]):=cg
theorem U1 (a b:Int):Path 21 [(vI a),(vI b),(vI 4)]
 [bm,
  bm,
  bm,
  aD (aZ b 0) true]
 (.tuple #[(vI 0),(.bool false)]):=cg
theorem Vq {a b:Int}(ha:cC a)(hb:cC b)(h1:¬(b=0))(h2:¬(b=(-1))):true=(bz 20 a b).2:=by
 show true=(uk a b).2
 unfold uk;rw[bT h1]
theorem Vx {a b:Int}(ha:cC a)(hb:cC b)(h1:¬(b=0))(h2:¬(b=(-1))):true=true->Jo a b=(bz 20 a b).1:=by
 intro hy;show _=(uk a b).1;unfold uk;rw[bT h1]
theorem Vp {a b:Int}(ha:cC a)(hb:cC b)(h1:¬(b=0))(h2:b=(-1)):true=(bz 20 a b).2:=by
 show true=(uk a b).2
 unfold uk;rw[bT h1]
theorem Vw {a b:Int}(ha:cC a)(hb:cC b)(h1:¬(b=0))(h2:b=(-1)):true=true->0=(bz 20 a b).1:=by
 intro hy;show _=(uk a b).1;unfold uk;rw[bT h1,h2]
 show 0=a.tmod (-1)
 rw[Int.tmod_neg,Int.tmod_one]
theorem aaS {a b:Int}(ha:cC a)(hb:cC b)(h1:b=0):false=(bz 20 a b).2:=by
 show false=(uk a b).2
 unfold uk;rw[bL h1]
theorem aaV {a b:Int}(ha:cC a)(hb:cC b)(h1:b=0):false=true->0=(bz 20 a b).1:=by
 intro hy;show _=(uk a b).1;cases hy
theorem aiE {a b:Int}(ha:cC a)(hb:cC b):∃x y,Ev K 21 [vI a,vI b,vI 4] m (.tuple #[vI x,.bool y]) m/\y=(bz 20 a b).2/\(y=true->x=(bz 20 a b).1):=by
 by_cases h1:b=0
 ·have c1:(.bool (aZ b 0):af)= .bool true:=by rw[cu,dZ h1]
  refine⟨_,_,ak (U1 a b) kH,?_,?_⟩
  ·exact aaS ha hb h1
  ·exact aaV ha hb h1
 ·have c1:(.bool (aZ b 0):af)= .bool false:=by rw[cu,eO h1]
  by_cases h2:b=(-1)
  ·have c2:(.bool (aZ b (-1)):af)= .bool true:=by rw[cu,dZ h2]
   refine⟨_,_,ak (Qp a b) kH,?_,?_⟩
   ·exact Vp ha hb h1 h2
   ·exact Vw ha hb h1 h2
  ·have c2:(.bool (aZ b (-1)):af)= .bool false:=by rw[cu,eO h2]
   refine⟨_,_,ak (Qq a b _) kH,?_,?_⟩
   ·exact Vq ha hb h1 h2
   ·exact Vx ha hb h1 h2
theorem c21 {a b:Int}(ha:cC a)(hb:cC b){k:Nat}(hk:k<5):∃x y,Ev K 21 [vI a,vI b,vI (k:Int)] m (.tuple #[vI x,.bool y]) m/\y=(bz (mE k:Int) a b).2/\(y=true->x=(bz (mE k:Int) a b).1):=by
 match k,hk with
 |0,_=>exact aiI ha hb
 |1,_=>exact aiH ha hb
 |2,_=>exact aiG ha hb
 |3,_=>exact aiF ha hb
 |4,_=>exact aiE ha hb
end
end Go.AM
namespace Go.AM
set_option maxRecDepth 1000000
open Go Go.Conc Go.Proofs
theorem Xq:pu ae [vI 48] (convert 3 5 (vI 48))=some (.int .u8 48):=bp
theorem Xp:pu ae [vI 49] (convert 3 5 (vI 49))=some (.int .u8 49):=bp
theorem Xo:pu ae [vI 50] (convert 3 5 (vI 50))=some (.int .u8 50):=bp
theorem Xn:pu ae [vI 51] (convert 3 5 (vI 51))=some (.int .u8 51):=bp
theorem Xm:pu ae [vI 52] (convert 3 5 (vI 52))=some (.int .u8 52):=bp
theorem Xl:pu ae [vI 53] (convert 3 5 (vI 53))=some (.int .u8 53):=bp
theorem Xk:pu ae [vI 54] (convert 3 5 (vI 54))=some (.int .u8 54):=bp
theorem Xj:pu ae [vI 55] (convert 3 5 (vI 55))=some (.int .u8 55):=bp
theorem Xi:pu ae [vI 56] (convert 3 5 (vI 56))=some (.int .u8 56):=bp
theorem Xh:pu ae [vI 57] (convert 3 5 (vI 57))=some (.int .u8 57):=bp
theorem aik {k:Nat}(hk:k<10):pu ae [vI ((48+k:Nat):Int)] (convert 3 5 (vI ((48+k:Nat):Int)))=some (.int .u8 ((48+k:Nat):Int)):=by
 have h:k=0\/k=1\/k=2\/k=3\/k=4\/k=5\/k=6\/k=7\/k=8\/k=9:=av;rcases h with rfl|rfl|rfl|rfl|rfl|rfl|rfl|rfl|rfl|rfl
 ·exact Xq
 ·exact Xp
 ·exact Xo
 ·exact Xn
 ·exact Xm
 ·exact Xl
 ·exact Xk
 ·exact Xj
 ·exact Xi
 ·exact Xh
theorem anc {m:Mem}(x:Int):ao ae 72 1 [(0,.int .u8 x)] m=some (vL m.next 0 1 1,m.alloc {kind:=1,sz:=1,cs:=[some (.int .u8 x)]}):=bp
theorem mc (l r:List UInt8):(⟨l.toArray⟩++⟨r.toArray⟩:ByteArray)=⟨(l++r).toArray⟩:=by
 apply ByteArray.ext;rw[ByteArray.data_append];simp
theorem FN {l r:List UInt8}(h:l.length+r.length<9223372036854775808):jM ⟨l.toArray⟩ ⟨r.toArray⟩=some (.string ⟨(l++r).toArray⟩):=by
 unfold jM;have e1:(⟨l.toArray⟩:ByteArray).size=l.length:=by show l.toArray.size=_;simp
 have e2:(⟨r.toArray⟩:ByteArray).size=r.length:=by show r.toArray.size=_;simp
 rw[e1,e2];have :Nat.blt (l.length+r.length) 9223372036854775808=true:=Nat.ble_eq_true_of_le av;rw[this,mc]
theorem H3:∀(k n:Nat),n<10^(k+1)->(kl n).length<=k+1
 |0,n,h=>by rw[rP (by simpa using h)];simp
 |k+1,n,h=>by
  by_cases h1:n<10
  ·rw[rP h1];simp
  ·rw[rR h1];have h2:n<10^(k+1)*10:=by rw[<-Nat.pow_succ];exact h
   have :=H3 k (n / 10) av;simp;omega
theorem rQ {n:Nat}(h:n<9223372036854775808):(kl n).length<=19:=H3 18 n (Nat.lt_trans h dB)
section
variable {K:iK}{m:Mem}
theorem akK (x:Int)(x1:Int):Path 15 [(vI x),(vI 5)]
 [aD (br x 0) false,
  .val (mM Nat.mod .i64 x 5 (iP ae .rem 3 false false (vI x) (vI 5))) (vI x1)]
 (vI x1):=cg
theorem akJ (x:Int)(x1 x2:Int):Path 15 [(vI x),(vI 5)]
 [aD (br x 0) true,
  .val (pu ae [(vI (bB x 1))] (Op.unary .neg (vI (bB x 1)))) (vI x1),
  .val (mM Nat.mod .i64 x1 5 (iP ae .rem 3 false false (vI x1) (vI 5))) (vI x2)]
 (vI x2):=cg
theorem akE (n:Int)(x1:Int)(s1:ByteArray):Path 16 [(vI n)]
 [aD (br n 0) true,
  .val (pu ae [(vI n)] (Op.unary .neg (vI n))) (vI x1),
  .call 16 [(vI x1)] (aY s1),
  .val (jM (⟨#[45]⟩) s1) (aY ((⟨#[45]⟩)++s1))]
 (aY ((⟨#[45]⟩)++s1)):=cg
theorem akG (n:Int)(x1 x2:Int)(aH:Nat)(s1:ByteArray):Path 16 [(vI n)]
 [aD (br n 0) false,
  .val (mM Nat.mod .i64 n 10 (iP ae .rem 3 false true (vI n) (vI 10))) (vI x1),
  .val (pu ae [(vI (bB 48 x1))] (convert 3 5 (vI (bB 48 x1)))) (.int .u8 x2),
  .mem (ao ae 72 1 [(0,(.int .u8 x2))]) (vL aH 0 1 1),
  .mem (ej ae 72 9 (vL aH 0 1 1)) (aY s1),
  aD (br n 10) true]
 (aY s1):=cg
theorem akF (n:Int)(x1 x2 x3:Int)(aH:Nat)(s1 s2:ByteArray):Path 16 [(vI n)]
 [aD (br n 0) false,
  .val (mM Nat.mod .i64 n 10 (iP ae .rem 3 false true (vI n) (vI 10))) (vI x1),
  .val (pu ae [(vI (bB 48 x1))] (convert 3 5 (vI (bB 48 x1)))) (.int .u8 x2),
  .mem (ao ae 72 1 [(0,(.int .u8 x2))]) (vL aH 0 1 1),
  .mem (ej ae 72 9 (vL aH 0 1 1)) (aY s1),
  aD (br n 10) false,
  .val (mM Nat.div .i64 n 10 (iP ae .quo 3 false true (vI n) (vI 10))) (vI x3),
  .call 16 [(vI x3)] (aY s2),
  .val (jM s2 s1) (aY (s2++s1))]
 (aY (s2++s1)):=cg
theorem akB (n:Int):Path 20 [(vI n)]
 [aD (aZ n (-9223372036854775808)) true]
 (aY (⟨#[40,45,57,50,50,51,51,55,50,48,51,54,56,53,52,55,55,53,56,48,55,32,45,32,49,41]⟩)):=cg
theorem akC (n:Int)(s1:ByteArray):Path 20 [(vI n)]
 [aD (aZ n (-9223372036854775808)) false,
  .call 16 [(vI n)] (aY s1),
  .val (jM (⟨#[40]⟩) s1) (aY ((⟨#[40]⟩)++s1)),
  .val (jM ((⟨#[40]⟩)++s1) (⟨#[41]⟩)) (aY (((⟨#[40]⟩)++s1)++(⟨#[41]⟩)))]
 (aY (((⟨#[40]⟩)++s1)++(⟨#[41]⟩))):=cg
theorem aie (cy:Bool)(a b:Int)(hb:b≠0):mM Nat.mod .i64 a b (iP ae .rem 3 false cy (vI a) (vI b))=some (vI (Jo a b)):=by
 cases cy with
 |false=>exact O0 a b hb
 |true=>rw[(ZD false true a b hb).trans (ZD false false a b hb).symm];exact O0 a b hb
theorem aif (cy:Bool)(a b:Int)(hb:b≠0):mM Nat.div .i64 a b (iP ae .quo 3 false cy (vI a) (vI b))=some (vI (nz a b)):=by
 cases cy with
 |false=>exact KS a b hb
 |true=>rw[(ZY false true a b hb).trans (ZY false false a b hb).symm];exact KS a b hb
theorem Qj {a:Nat}(b:Nat)(ha:a<9223372036854775808):nz (a:Int) (b:Int)=((a / b:Nat):Int):=by
 unfold nz;rw[show Int.tdiv (a:Int) (b:Int)=((a / b:Nat):Int)from rfl];have :=Nat.div_le_self a b;generalize a / b=q at this;exact lh ⟨av,av⟩
theorem aiO {x:Int}(hx:cC x):∃k:Nat,k<5/\Ev K 15 [vI x,vI 5] m (vI (k:Int)) m:=by
 by_cases h:x<0
 ·obtain⟨y,hy⟩:∃y:Nat,(y:Int)= -(x+1):=⟨(-(x+1)).toNat,av⟩;have e1:bB x 1=x+1:=gH ⟨by have :=hx.1;omega,av⟩;have hn:=aaQ (bB x 1);rw[e1,<-hy,lh ⟨av,by have :=hx.1;omega⟩]at hn;refine⟨y%5,Nat.mod_lt _ dB,ak (akJ x _ _) (.cond (by rw[bZ,dZ h])<| .val (by rw[e1];exact hn)<| .val ?_ .nil)⟩;exact O0 (y:Int) 5 dB
 ·obtain⟨y,hy⟩:∃y:Nat,(y:Int)=x:=⟨x.toNat,av⟩;subst hy;exact⟨y%5,Nat.mod_lt _ dB,ak (akK _ _) (.cond (by rw[bZ,eO h])<| .val (O0 (y:Int) 5 dB) .nil)⟩
theorem c16 (n:Nat):∀{m:Mem},Gd m->n<9223372036854775808->∃m',Ev K 16 [vI (n:Int)] m (.string ⟨(kl n).toArray⟩) m'/\Kp m m' eU:=by
 induction n using Nat.strongRecOn with
 |ind n ih=>
  intro m g hn;have b0:(.bool (br (n:Int) 0):af)= .bool false:=by rw[bZ,eO av]
  have r1:mM Nat.mod .i64 (n:Int) 10 (iP ae .rem 3 false true (vI (n:Int)) (vI 10))=some (vI ((n%10:Nat):Int)):=aie true (n:Int) 10 dB;have hk:n%10<10:=Nat.mod_lt _ dB;have a1:bB 48 ((n%10:Nat):Int)=((48+n%10:Nat):Int):=by rw[gH ⟨av,av⟩];omega
  have r2:pu ae [vI (bB 48 ((n%10:Nat):Int))] (convert 3 5 (vI (bB 48 ((n%10:Nat):Int))))=some (.int .u8 ((48+n%10:Nat):Int)):=by rw[a1];exact aik hk
  obtain⟨o1,k1,n1⟩:=dC g (k:={kind:=1,sz:=1,cs:=[some (.int .u8 ((48+n%10:Nat):Int))]}) (cs:=[.int .u8 ((48+n%10:Nat):Int)]) (sz:=1) rfl rfl rfl;have e1:=anc (m:=m) ((48+n%10:Nat):Int);generalize m.alloc {kind:=1,sz:=1,cs:=[some (.int .u8 ((48+n%10:Nat):Int))]}=m1 at o1 k1 n1 e1;have hb:([.int .u8 ((48+n%10:Nat):Int)]:List af)=gS [UInt8.ofNat (48+n%10)]:=by
   show _=[af.int .u8 ((UInt8.ofNat (48+n%10)).toNat:Int)]
   rw[Xg hk]
  rw[hb]at o1;have e2:ej ae 72 9 (vL m.next 0 1 1) m1=some (.string ⟨#[UInt8.ofNat (48+n%10)]⟩,m1):=Gi (l:=[UInt8.ofNat (48+n%10)]) o1
  by_cases h:n<10
  ·have b1:(.bool (br (n:Int) 10):af)= .bool true:=by rw[bZ,dZ av]
   have hd:kl n=[UInt8.ofNat (48+n%10)]:=by rw[rP h,Nat.mod_eq_of_lt h]
   rw[hd];exact⟨m1,ak (akG (n:Int) ..) (.cond b0<| .val r1<| .val r2<| .mem e1<| .mem e2<| .cond b1 .nil),k1⟩
  ·have b1:(.bool (br (n:Int) 10):af)= .bool false:=by rw[bZ,eO av]
   obtain⟨m2,e3,k2⟩:=ih (n / 10) av (g.ext k1) av;have r3:mM Nat.div .i64 (n:Int) 10 (iP ae .quo 3 false true (vI (n:Int)) (vI 10))=some (vI ((n / 10:Nat):Int)):=by
    rw[aif true (n:Int) 10 dB];have :=Qj 10 hn;exact congrArg (fun x=>some (vI x)) this
   have r4:=FN (l:=kl (n / 10)) (r:=[UInt8.ofNat (48+n%10)]) (by have :=rQ (n:=n / 10) av;simp;omega);rw[<-rR h]at r4;have Bx:(⟨(kl (n / 10)).toArray⟩++⟨#[UInt8.ofNat (48+n%10)]⟩:ByteArray)=⟨(kl n).toArray⟩:=by
    rw[rR h];exact mc _ [UInt8.ofNat (48+n%10)]
   refine⟨m2,?_,k1.aN k2⟩;have :=ak (K:=K) (akF (n:Int) (aH:=m.next) (s1:=⟨#[UInt8.ofNat (48+n%10)]⟩) (s2:=⟨(kl (n / 10)).toArray⟩) ..) (.cond b0<| .val r1<| .val r2<| .mem e1<| .mem e2<| .cond b1<| .val r3<| .call e3<| .val (by rw[Bx];exact r4) .nil);rwa[Bx]at this
theorem oK {a:Int}(ha:cC a):(fZ a).length<=24:=by
 unfold fZ
 split
 ·decide
 ·split
  ·have :=rQ (n:=(-a).toNat) (by have :=ha.1;omega);simp;omega
  ·have :=rQ (n:=a.toNat) (by have :=ha.2;omega);omega
theorem c20 {a:Int}(ha:cC a)(g:Gd m):∃m',Ev K 20 [vI a] m (.string ⟨(40::(fZ a++[41])).toArray⟩) m'/\Kp m m' eU:=by
 by_cases h:a= -9223372036854775808
 ·have hb:fZ a=Fa:=bL h;rw[hb];exact⟨m,ak (akB a) (.cond (qY h) .nil),Kp.refl _ _⟩
 ·have pI:∃m',Ev K 16 [vI a] m (.string ⟨(fZ a).toArray⟩) m'/\Kp m m' eU:=by
   by_cases h2:a<0
   ·obtain⟨n,hn⟩:∃n:Nat,(n:Int)= -a:=⟨(-a).toNat,av⟩;have hb:fZ a=45::kl n:=by unfold fZ;rw[bT h,bL h2,<-hn];rfl
    have h3:=ha.1;have hng:=aaQ a;rw[<-hn,lh ⟨av,av⟩]at hng;obtain⟨m1,e1,k1⟩:=c16 (K:=K) n g av;have r:=FN (l:=[45]) (r:=kl n) (by have :=rQ (n:=n) av;simp;omega);have Bx:(⟨#[45]⟩++⟨(kl n).toArray⟩:ByteArray)=⟨(45::kl n).toArray⟩:=mc [45] (kl n);refine⟨m1,?_,k1⟩;have :=ak (K:=K) (akE a (s1:=⟨(kl n).toArray⟩) ..) (.cond (by rw[bZ,dZ h2])<| .val hng<| .call e1<| .val (by rw[Bx];exact r) .nil);rw[hb];rwa[Bx]at this
   ·obtain⟨n,hn⟩:∃n:Nat,(n:Int)=a:=⟨a.toNat,av⟩;have hb:fZ a=kl n:=by unfold fZ;rw[bT h,bT h2,<-hn];rfl
    have h3:=ha.2;obtain⟨m1,e1,k1⟩:=c16 (K:=K) n g av;rw[hb,<-hn];exact⟨m1,e1,k1⟩
  obtain⟨m1,e1,k1⟩:=pI;have hl:=oK ha;have r1:=FN (l:=[40]) (r:=fZ a) (by simp;omega);have r2:=FN (l:=40::fZ a) (r:=[41]) (by simp;omega);have h1:(⟨#[40]⟩++⟨(fZ a).toArray⟩:ByteArray)=⟨(40::fZ a).toArray⟩:=mc [40] (fZ a);have h2:(⟨(40::fZ a).toArray⟩++⟨#[41]⟩:ByteArray)=⟨(40::(fZ a++[41])).toArray⟩:=mc (40::fZ a) [41];refine⟨m1,?_,k1⟩;have :=ak (K:=K) (akC a ⟨(fZ a).toArray⟩) (.cond (gj h)<| .call e1<| .val (by rw[h1];exact r1)<| .val (by rw[h1,h2];exact r2) .nil);rwa[h1,h2]at this
end
end Go.AM
namespace Go.AM
set_option maxRecDepth 1000000
open Go Go.Conc Go.Proofs
def AH:List UInt8:=[83,69,76,69,67,84]
def yY:List UInt8:=[78,85,76,76]
theorem No:spell ⟨AH.toArray⟩ 22 46=39:=bp
theorem JX:spell ⟨yY.toArray⟩ 22 46=35:=bp
theorem ON {c0:UInt8}{l:List UInt8}{P:UInt8->Prop}(h:P c0):∀c∈(c0::l).head?,P c:=fun c hc=>by
 simp at hc;rw[<-hc];exact h
theorem yD {a:Int}{l:List UInt8}:∀c∈(fZ a++l).head?,c.toNat<128:=by
 intro c hc;unfold fZ at hc
 split at hc
 ·have :(45:UInt8)=c:=by simpa[Fa]using hc
  rw[<-this];decide
 ·split at hc
  ·have :(45:UInt8)=c:=by simpa using hc
   rw[<-this];decide
  ·exact Bh (Bu _ c hc)
section
variable {T:ByteArray}
theorem Dc {n:Nat}{k v:Int}{l l0:List UInt8}{x:E}(hz:T.size<=4000)(h0:Lx T 0 (AH++l0))(hl0:∀c∈l0.head?,zM c.toNat=false)(hn:Nx T l0 k v l)(hk:k≠10)(hp:Pz T (BH T (n+1)) k v 0 l x 1 0 []):
  AQ T (n+1)=some (some (qy0 false [⟨x,.empty⟩]),0,0):=by
 have nk:Nx T (AH++l0) 39 0 l0:=QT (T:=T) (bs:=[]) (w:=AH) (l:=l0) (k:=39) (fun _ h=>by cases h) (ON (c0:=83) ⟨rfl,rfl⟩) (fun c h=>by simp[AH]at h;rcases h with rfl|rfl|rfl|rfl|rfl|rfl<;>rfl) dB hl0 No dB;obtain⟨w,hw,k1,v1,hlx⟩:=nk 0 h0;have s0:Sat T ⟨w,0,0,0⟩ 39 0 0 l0:=⟨k1,v1,rfl,rfl,hlx⟩;obtain⟨s1,w1,e1,h1⟩:=s0.wH (q:=39) rfl hn w0;obtain⟨s2,e2,h2⟩:=hp s1 h1;have ak9:Nx T [] 1 0 []:=JU;obtain⟨s3,w3,e3,h3⟩:=h2.wH (q:=1) rfl ak9 w0;have aib:Ds T (n+1) s1=some (⟨x,.empty⟩,s2):=by
  unfold Ds asP;simp only[e2,cz,h2.sP (ks:=[24]) dB,bu,if_false,cR]
 have aia:r7 (Ds T (n+1)) T (n+1) s1=some ([⟨x,.empty⟩],s2):=by
  unfold r7;rw[aib]
  show A4 _ T (n+1) ([⟨x,.empty⟩]:List It) s2=_
  unfold A4;rw[h2.sP (ks:=[7]) dB]
 have amq:P9 T (n+1) ⟨w,0,0,0⟩=some (⟨[⟨x,.empty⟩],[],.nil⟩,s2):=by
  unfold P9;simp only[e1,cz,h1.sP (ks:=[10]) (by simp[hk]),bu,if_false,aia,h2.sP (ks:=[28]) dB,h2.sP (ks:=[45]) dB,cR]
 have aid:D9 T (n+1) ⟨w,0,0,0⟩=some (⟨⟨[⟨x,.empty⟩],[],.nil⟩,[]⟩,s2):=by
  unfold D9 xT;simp only[amq,cz,h2.sP (ks:=[43]) dB,bu,if_false,cR]
 unfold AQ;rw[bT av,hw];unfold Zw Jt;simp only[cz,s0.sP (ks:=[26]) dB,s0.sP (ks:=[29]) dB,s0.sP (ks:=[46]) dB,bu,if_false,aid,cR,h2.sP (ks:=[9]) dB,e3,h3.e,if_true];rfl
theorem XX {n:Nat}{a:Int}{c:UInt8}{k:Nat}{tl ly:List UInt8}{ky vy:Int}{y:E}(ha:cC a)(hc:(c,k)∈[((43:UInt8),17),(45,18),(42,10),(47,19),(37,20)])(htl:∀c∈tl.head?,c.toNat<128)(hn:Nx T tl ky vy ly)(hy:Pz T (iJ T (n+4)) ky vy 0 ly y 1 0 []):
  Pz T (BH T (n+4)) 5 0 0 (fZ a++41::32::c::tl) (.bin (k:Int) (kr a) y) 1 0 []:=by
 have hs:(c,k)∈xK:=by
  simp at hc;rcases hc with⟨rfl,rfl⟩|⟨rfl,rfl⟩|⟨rfl,rfl⟩|⟨rfl,rfl⟩|⟨rfl,rfl⟩<;>decide
 have Mt:k≠0:=by
  simp at hc;omega
 have nop:=Hf (T:=T) (l:=tl) hs Mt htl;have ta:Pz T (iJ T (n+4)) 5 0 0 (fZ a++41::32::c::tl) (kr a) (k:Int) 0 tl:=Pz.told (n:=n) ha (ON (c0:=32) dB) nop;refine Pz.expr (n:=n+3) ?_ dB dB
 by_cases h:k=17\/k=18
 ·refine Pz.abb (n:=n+2) (Pz.zK (n:=n+3) ta ?_) ?_ hn (Pz.zK (n:=n+3) hy dB) dB
  ·rcases h with rfl|rfl<;>decide
  ·rcases h with rfl|rfl<;>decide
 ·refine Pz.zK (n:=n+3) (Pz.abb (n:=n+2) ta ?_ hn hy dB) dB;simp at hc;have :k=10\/k=19\/k=20:=av;rcases this with rfl|rfl|rfl<;>decide
def rW (a b:Int)(c:UInt8):List UInt8:=AH++32::40::(fZ a++41::32::c::32::40::(fZ b++[41]))
def uF (a:Int)(c:UInt8):List UInt8:=AH++32::40::(fZ a++41::32::c::32::yY)
theorem szT {l:List UInt8}:(⟨l.toArray⟩:ByteArray).size=l.length:=by
 show l.toArray.size=_
 simp
theorem lx0 {l:List UInt8}:Lx ⟨l.toArray⟩ 0 l:=⟨Nat.zero_le _,cK⟩
theorem ZH {a b:Int}{c:UInt8}{k:Nat}(ha:cC a)(hb:cC b)(hc:(c,k)∈[((43:UInt8),17),(45,18),(42,10),(47,19),(37,20)])(hz:(rW a b c).length<=4000):
  AQ ⟨(rW a b c).toArray⟩ 5=some (some (qy0 false [⟨.bin (k:Int) (kr a) (kr b),.empty⟩]),0,0):=by
 have n1:=Hf (T:=⟨(rW a b c).toArray⟩) (c:=40) (k:=5) (l:=fZ a++41::32::c::32::40::(fZ b++[41])) dB dB yD;have n2:=Hf (T:=⟨(rW a b c).toArray⟩) (c:=40) (k:=5) (l:=fZ b++[41]) dB dB yD;have tb:Pz ⟨(rW a b c).toArray⟩ (iJ ⟨(rW a b c).toArray⟩ 5) 5 0 0 (fZ b++[41]) (kr b) 1 0 []:=Pz.told (n:=1) (post:=[]) hb (fun _ h=>by cases h) JU;exact Dc (n:=4) (by rw[szT];exact hz) lx0 (ON (c0:=32) rfl) n1 dB (XX (n:=1) ha hc (ON (c0:=32) dB) n2 tb)
theorem ZI {a:Int}{c:UInt8}{k:Nat}(ha:cC a)(hc:(c,k)∈[((43:UInt8),17),(45,18),(42,10),(47,19),(37,20)])(hz:(uF a c).length<=4000):
  AQ ⟨(uF a c).toArray⟩ 5=some (some (qy0 false [⟨.bin (k:Int) (kr a) (.lit ⟨0,0,.empty,false⟩),.empty⟩]),0,0):=by
 have n1:=Hf (T:=⟨(uF a c).toArray⟩) (c:=40) (k:=5) (l:=fZ a++41::32::c::32::yY) dB dB yD;have n2:Nx ⟨(uF a c).toArray⟩ (32::yY) 35 0 []:=by
  have :=QT (T:=⟨(uF a c).toArray⟩) (bs:=[32]) (w:=yY) (l:=[]) (k:=35) (fun c h=>by simp at h;rw[h];rfl) (ON (c0:=78) ⟨rfl,rfl⟩) (fun c h=>by simp[yY]at h;rcases h with rfl|rfl|rfl<;>rfl) dB (fun _ h=>by cases h) JX dB;simpa using this
 exact Dc (n:=4) (by rw[szT];exact hz) lx0 (ON (c0:=32) rfl) n1 dB (XX (n:=1) ha hc (ON (c0:=32) dB) n2 (Pz.null (n:=4) JU))
end
end Go.AM
namespace Go.AM
set_option maxRecDepth 1000000
open Go Go.Conc Go.Proofs
def Kg (n:Int):X:= .lit ⟨1,n,.empty,false⟩
def iM (a:Int):X:=if a= -9223372036854775808 then .bin 18 (.bin 18 (Kg 0) (Kg 9223372036854775807)) (Kg 1)else if a<0 then .bin 18 (Kg 0) (Kg (-a))else Kg a
theorem vp (a:Int):cZ [] (kr a) 0=(iM a,1,0):=by
 unfold kr iM
 split
 ·rfl
 ·split
  ·rfl
  ·rfl
theorem W9 {a b:Int}{k:Nat}(hk:k<5):cZ [] (.bin (mE k:Int) (kr a) (kr b)) 0=(.bin (mE k:Int) (iM a) (iM b),1,0):=by
 have h1:=vp a;have h2:=vp b;unfold cZ
 match k,hk with
 |0,_|1,_|2,_|3,_|4,_=>simp only[h1,h2];rfl
theorem Xa {a:Int}{k:Nat}(hk:k<5):cZ [] (.bin (mE k:Int) (kr a) (.lit bJ)) 0=(.bin (mE k:Int) (iM a) (.lit bJ),1,0):=by
 have h1:=vp a;unfold cZ
 match k,hk with
 |0,_|1,_|2,_|3,_|4,_=>simp only[h1];rfl
def KY:List pM:=[⟨.empty,1⟩]
theorem ab6 {a b:Int}{k:Nat}(hk:k<5):nX [⟨.bin (mE k:Int) (kr a) (kr b),.empty⟩]=([.bin (mE k:Int) (iM a) (iM b)],KY,0):=by
 unfold nX;have hm:nE 0 (decide ((([⟨.bin (mE k:Int) (kr a) (kr b),.empty⟩]:List It).length:Int)<=16)) 6=0:=rfl;rw[hm];unfold lD lD;rw[W9 hk];rfl
theorem ab7 {a:Int}{k:Nat}(hk:k<5):nX [⟨.bin (mE k:Int) (kr a) (.lit bJ),.empty⟩]=([.bin (mE k:Int) (iM a) (.lit bJ)],KY,0):=by
 unfold nX;have hm:nE 0 (decide ((([⟨.bin (mE k:Int) (kr a) (.lit bJ),.empty⟩]:List It).length:Int)<=16)) 6=0:=rfl;rw[hm];unfold lD lD;rw[Xa hk];rfl
section
variable {cv:Nat->Int->Int->V}{a b:Int}{k:Nat}
theorem QB (hk:k<5):¬((mE k:Int)=23\/(mE k:Int)=37)/\((mE k:Int)=17\/(mE k:Int)=18\/(mE k:Int)=10\/(mE k:Int)=19\/(mE k:Int)=20):=by
 match k,hk with
 |0,_|1,_|2,_|3,_|4,_=>decide
theorem adn {a b:Int}(hz:cC (a-b))(ha:cC a)(hb:cC b):uB 18 (mh a) (mh b)=(mh (a-b),0):=by
 have h:uB 18 (mh a) (mh b)=j5 18 a b:=rfl;rw[h];unfold j5;have h2:(bz 18 a b).2=true:=by
  show(vr a b).2=true
  rw[tr ha hb];exact dZ hz
 rw[bL h2];have :(bz 18 a b).1=a-b:=zY hz;rw[this]
theorem A0 (ha:cC a):fA cv (iM a)=(mh a,0):=by
 have lit:∀n,fA cv (Kg n)=(mh n,0):=fun n=>rfl
 have bin:∀(x y:X) (p q:Int),fA cv x=(mh p,0)->fA cv y=(mh q,0)->cC p->cC q->cC (p-q)->fA cv (.bin 18 x y)=(mh (p-q),0):=by
  intro x y p q hx hy h1 h2 h3
  show(if(fA cv x).2≠0 then _ else if(fA cv y).2≠0 then _ else uB 18 (fA cv x).1 (fA cv y).1)=_
  rw[hx,hy,bT cK,bT cK];exact adn h3 h1 h2
 unfold cC at ha;unfold iM
 split
 ·rename_i h;have h1:=bin _ _ 0 9223372036854775807 (lit 0) (lit _) (by unfold cC;omega) (by unfold cC;omega) (by unfold cC;omega);have h2:=bin _ _ _ 1 h1 (lit 1) (by unfold cC;omega) (by unfold cC;omega) (by unfold cC;omega);rw[h2,h];rfl
 ·split
  ·have h1:=bin _ _ 0 (-a) (lit 0) (lit _) (by unfold cC;omega) (by unfold cC;omega) (by unfold cC;omega);rw[h1,show(0:Int)- -a=a by omega]
  ·exact lit a
theorem agR (ha:cC a)(hb:cC b)(hk:k<5):fA cv (.bin (mE k:Int) (iM a) (iM b))=j5 (mE k:Int) a b:=by
 show(if(fA cv (iM a)).2≠0 then _ else if(fA cv (iM b)).2≠0 then _ else uB (mE k:Int) (fA cv (iM a)).1 (fA cv (iM b)).1)=_
 rw[A0 ha,A0 hb,bT cK,bT cK];obtain⟨h1,h2⟩:=QB hk
 show(if(mE k:Int)=23\/(mE k:Int)=37 then _ else if(1:Int)=0\/(1:Int)=0 then _ else if _ then j5 (mE k:Int) a b else _)=_
 rw[bT h1,bT dB,bL h2]
theorem agS (ha:cC a)(hk:k<5):fA cv (.bin (mE k:Int) (iM a) (.lit bJ))=(bJ,0):=by
 show(if(fA cv (iM a)).2≠0 then _ else if(fA cv (.lit bJ)).2≠0 then _ else uB (mE k:Int) (fA cv (iM a)).1 (fA cv (.lit bJ)).1)=_
 rw[A0 ha,show fA cv (.lit bJ)=(bJ,0)from rfl,bT cK,bT cK];obtain⟨h1,h2⟩:=QB hk
 show(if(mE k:Int)=23\/(mE k:Int)=37 then _ else if(1:Int)=0\/(0:Int)=0 then(bJ,0)else _)=_
 rw[bT h1,bL (.inr rfl)]
theorem uX {n:Int}{c:Bool}{k:Int}:kJ ⟨k,n,.empty,c⟩:=by show(ByteArray.empty).size<_;decide
theorem AX (a:Int):T9 cv (iM a):=by
 unfold T9 iM
 split
 ·exact⟨⟨uX,uX⟩,uX⟩
 ·split
  ·exact⟨uX,uX⟩
  ·exact uX
theorem Hs {x:X}:jI cv [x] []=if(fA cv x).2≠0 then([],(fA cv x).2)else([(fA cv x).1],0):=rfl
end
def N2:Nat->Nat->Int->Int->V:=fun _ _ _ _=>⟨0,0,⟨Array.replicate (2^60) 0⟩,false⟩
theorem QV {i p:Nat}{x y:Int}:¬kJ (N2 i p x y):=by
 show¬(⟨Array.replicate (2^60) 0⟩:ByteArray).size<2^60
 show¬(Array.replicate (2^60) (0:UInt8)).size<2^60
 rw[Array.size_replicate];exact Nat.lt_irrefl _
theorem LK {rv:af}:Scope KW (fun _=>True) (N2 0) rv:=⟨fun _ _ _ _=>trivial,fun p i j m b h=>absurd h QV⟩
def Ji:Nat->UInt8
 |0=>43
 |1=>45
 |2=>42
 |3=>47
 |_=>37
theorem P6 {k:Nat}(hk:k<5):(Ji k,mE k)∈[((43:UInt8),17),(45,18),(42,10),(47,19),(37,20)]:=by
 match k,hk with
 |0,_|1,_|2,_|3,_|4,_=>decide
section
variable {K:iK}{m:Mem}{a b:Int}{k db mp:Nat}
theorem adw (hK:Ld K)(cm:Calm m)(hG:iU m)(hm:0<m.next)(He:vK m db mp)(ha:cC a)(hb:cC b)(hk:k<5):
  (∃v m',Ev K 12 [vP db 0,.string ⟨(rW a b (Ji k)).toArray⟩] m (.tuple #[v,vI 0,vI 0]) m'/\Kp m m' (fun y=>y=db)/\vK m' db mp/\tG (fY m m') KY [mh (bz (mE k:Int) a b).1] m' v/\(bz (mE k:Int) a b).2=true)\/
  (∃m',Ev K 12 [vP db 0,.string ⟨(rW a b (Ji k)).toArray⟩] m (.tuple #[TN,vI 8,vI 0]) m'/\Kp m m' (fun y=>y=db)/\vK m' db mp/\(bz (mE k:Int) a b).2=false):=by
 have hl:(rW a b (Ji k)).length<=4000:=by
  have h1:=oK ha;have h2:=oK hb;simp[rW,AH];omega
 have hT:=ZH ha hb (P6 hk) hl;have hc:=ab6 (a:=a) (b:=b) hk;have h:=Y4 (K:=K) (R0:=fun _=>True) (cv:=N2) (dj:=[⟨.bin (mE k:Int) (kr a) (kr b),.empty⟩]) (rc:=false) hK cm hG hm He av hT cK cK (by rw[hc]) (by rw[hc];simp) (by rw[hc];simp[KY]) (fun _ _ _ _=>trivial) (fun _=>trivial) (fun _=>LK)
  (by rw[hc];intro x hx;have :x= .bin (mE k:Int) (iM a) (iM b):=(by simpa using hx);rw[this];exact⟨AX a,AX b⟩)
 rw[hc]at h;have Fo:jI (N2 0) [.bin (mE k:Int) (iM a) (iM b)] []=if(bz (mE k:Int) a b).2=true then([mh (bz (mE k:Int) a b).1],0)else([],8):=by
  rw[Hs,agR ha hb hk];unfold j5
  by_cases h:(bz (mE k:Int) a b).2=true
  ·rw[bL h,bL h];rfl
  ·rw[bT h,bT h];rfl
 rw[Fo]at h
 by_cases hz:(bz (mE k:Int) a b).2=true
 ·rw[bL hz]at h;rcases h with⟨v,m',e,k1,d,q,_⟩|⟨_,_,_,_,h⟩
  ·exact .inl ⟨v,m',e,k1,d,q,hz⟩
  ·exact absurd rfl h
 ·rw[bT hz]at h;rcases h with⟨_,_,_,_,_,_,h⟩|⟨m',e,k1,d,_⟩
  ·exact absurd h dB
  ·exact .inr ⟨m',e,k1,d,by simpa using hz⟩
theorem adx (hK:Ld K)(cm:Calm m)(hG:iU m)(hm:0<m.next)(He:vK m db mp)(ha:cC a)(hk:k<5):
  ∃v m',Ev K 12 [vP db 0,.string ⟨(uF a (Ji k)).toArray⟩] m (.tuple #[v,vI 0,vI 0]) m'/\Kp m m' (fun y=>y=db)/\vK m' db mp/\tG (fY m m') KY [bJ] m' v:=by
 have hl:(uF a (Ji k)).length<=4000:=by
  have h1:=oK ha;simp[uF,AH,yY];omega
 have hT:=ZI ha (P6 hk) hl;have hc:=ab7 (a:=a) hk;have h:=Y4 (K:=K) (R0:=fun _=>True) (cv:=N2) (dj:=[⟨.bin (mE k:Int) (kr a) (.lit bJ),.empty⟩]) (rc:=false) hK cm hG hm He av hT cK cK (by rw[hc]) (by rw[hc];simp) (by rw[hc];simp[KY]) (fun _ _ _ _=>trivial) (fun _=>trivial) (fun _=>LK)
  (by rw[hc];intro x hx;have :x= .bin (mE k:Int) (iM a) (.lit bJ):=(by simpa using hx);rw[this];exact⟨AX a,uX⟩)
 rw[hc]at h;have Fo:jI (N2 0) [.bin (mE k:Int) (iM a) (.lit bJ)] []=([bJ],0):=by
  rw[Hs,agS ha hk];rfl
 rw[Fo]at h;rcases h with⟨v,m',e,k1,d,q,_⟩|⟨_,_,_,_,h⟩
 ·exact⟨v,m',e,k1,d,q⟩
 ·exact absurd rfl h
end
end Go.AM
namespace Go.AM
set_option maxRecDepth 1000000
open Go Go.Conc Go.Proofs
theorem yA {a b:ByteArray}(h:a.size+b.size<9223372036854775808):jM a b=some (.string (a++b)):=by
 unfold jM;have :Nat.blt (a.size+b.size) 9223372036854775808=true:=Nat.ble_eq_true_of_le av;rw[this]
theorem tG.open{B:Nat->Prop}{u:V}{m:Mem}{v:af}(h:tG B KY [u] m v):∃na nn nc kb kc rb q w,v= .agg #[.slice na nn nc,vL kb 0 1 kc,vL rb 0 1 eP,vI 0]/\Obj m kb 1 [vI 1]/\Obj m rb 1 [vL q 0 1 w]/\Obj m q 4 u.cells/\B kb/\B rb/\B q:=by
 obtain⟨nv,kv,p,rfl,h1,h2,h3⟩:=h;obtain⟨na,nc,hn⟩:=bj.form h1;obtain⟨kb,kc,x,cs,hk,hB1,ob,hu,hle,hE,jA⟩:=bj.get h2 (j:=0) dB;have hE:x=vI 1:=hE;subst hE;obtain⟨p',c',y,kW,hp,hB2,NY,hu2,OG,hE2,alN⟩:=bj.get h3 (j:=0) cK;cases hp;obtain⟨q,w,rfl,hB3,oq,_⟩:=hE2;have l1:cs=[vI 1]:=by
  obtain⟨cs2,hs,_,hc⟩:=h2;have hlen:=hs.1;rcases hs.2 with⟨_,hz⟩|⟨b,c,e,o,_⟩
  ·exact absurd hz dB
  ·have e2:=hk.symm.trans e;cases e2;have :=ob.same o;subst this
   match cs,hlen with
   | [z],_=>simpa[af.cells]using hu
 have l2:kW=[vL q 0 1 w]:=by
  obtain⟨cs2,hs,_,hc⟩:=h3;have hlen:=hs.1;rcases hs.2 with⟨hz,_⟩|⟨b,c,e,o,_⟩
  ·cases hz
  ·cases e;have :=NY.same o;subst this
   match kW,hlen with
   | [z],_=>simpa[af.cells]using hu2
 subst l1;subst l2;refine⟨na,1,nc,kb,kc,p,q,w,?_,ob,NY,?_,hB1,hB2,hB3⟩
 ·rw[hn,hk];rfl
 ·have :gq [u]=u.cells:=by unfold gq;simp
  rw[<-this];exact oq
def sg5:List af:=[.string ⟨#[43]⟩,.string ⟨#[45]⟩,.string ⟨#[42]⟩,.string ⟨#[47]⟩,.string ⟨#[37]⟩]
theorem acs {m:Mem}:ao ae 28 5 [(0,.string ⟨#[43]⟩),(1,.string ⟨#[45]⟩),(2,.string ⟨#[42]⟩),(3,.string ⟨#[47]⟩),(4,.string ⟨#[37]⟩)] m=some (vL m.next 0 5 5,m.alloc {kind:=1,sz:=1,cs:=sg5.map some}):=bp
theorem AG {k:Nat}(hk:k<5):sg5[0+k*1]?=some (.string ⟨#[Ji k]⟩):=by
 match k,hk with
 |0,_|1,_|2,_|3,_|4,_=>rfl
section
variable {K:iK}{m mK:Mem}{a b op:Int}{db mp:Nat}
theorem p8f (a b op x:Int)(k db n1n n1c n2n n2c kb1 kc1 Ns R4 Ww Js q1 w1 q2 w2:Nat)(n1a n2a:Option Addr)(u1 u2:V)(ta tb sg:ByteArray)(aH so a0 zX Uv cf PC:Nat):Path 8 [(vI a),(vI b),(vI op)]
 [.call 14 [] (vP db 0),
  bm,
  .mem (ao ae 28 5 [(0,(aY (⟨#[43]⟩))),(1,(aY (⟨#[45]⟩))),(2,(aY (⟨#[42]⟩))),(3,(aY (⟨#[47]⟩))),(4,(aY (⟨#[37]⟩)))]) (vL aH 0 5 5),
  .call 15 [(vI op),(vI 5)] (vI (k:Int)),
  .idx (k:Int) 5 k,
  .mem (aI aH (0+k*1)) (aY sg),
  .mem (fe (vP aH (0+k*1))) (vI (so:Int)),
  cp [some (.slice none 0 0),some (.slice none 0 0),some (.slice none 0 0),some (vI 0)] a0,
  .mem (fe (vP a0 0)) (vI (zX:Int)),
  .mem di undef,
  .call 20 [(vI a)] (aY ta),
  .mem (bS (vI (so:Int)) (vP aH (0+k*1)) (dw ae 9 (vP aH (0+k*1)))) undef,
  .mem (bS (vI (zX:Int)) (vP a0 0) (fG (vP a0 0))) undef,
  .val (jM (⟨#[83,69,76,69,67,84,32]⟩) ta) (aY ((⟨#[83,69,76,69,67,84,32]⟩)++ta)),
  .val (jM ((⟨#[83,69,76,69,67,84,32]⟩)++ta) (⟨#[32]⟩)) (aY (((⟨#[83,69,76,69,67,84,32]⟩)++ta)++(⟨#[32]⟩))),
  .val (jM (((⟨#[83,69,76,69,67,84,32]⟩)++ta)++(⟨#[32]⟩)) sg) (aY ((((⟨#[83,69,76,69,67,84,32]⟩)++ta)++(⟨#[32]⟩))++sg)),
  .val (jM ((((⟨#[83,69,76,69,67,84,32]⟩)++ta)++(⟨#[32]⟩))++sg) (⟨#[32]⟩)) (aY (((((⟨#[83,69,76,69,67,84,32]⟩)++ta)++(⟨#[32]⟩))++sg)++(⟨#[32]⟩))),
  .mem di undef,
  .call 20 [(vI b)] (aY tb),
  .mem (bS (vI (so:Int)) (vP aH (0+k*1)) (dw ae 9 (vP aH (0+k*1)))) undef,
  .mem (bS (vI (zX:Int)) (vP a0 0) (fG (vP a0 0))) undef,
  .val (jM (((((⟨#[83,69,76,69,67,84,32]⟩)++ta)++(⟨#[32]⟩))++sg)++(⟨#[32]⟩)) tb) (aY ((((((⟨#[83,69,76,69,67,84,32]⟩)++ta)++(⟨#[32]⟩))++sg)++(⟨#[32]⟩))++tb)),
  .mem di undef,
  .call 12 [(vP db 0),(aY ((((((⟨#[83,69,76,69,67,84,32]⟩)++ta)++(⟨#[32]⟩))++sg)++(⟨#[32]⟩))++tb))] (.tuple #[(.agg #[(.slice none 0 0),(.slice none 0 0),(.slice none 0 0),(vI 0)]),(vI 8),(vI 0)]),
  .mem (bS (vI (zX:Int)) (vP a0 0) (fG (vP a0 0))) undef,
  .mem di undef,
  dV a0 0 [(.slice none 0 0),(.slice none 0 0),(.slice none 0 0),(vI 0)],
  .idx (k:Int) 5 k,
  .mem (aI aH (0+k*1)) (aY sg),
  .mem (fe (vP aH (0+k*1))) (vI (Uv:Int)),
  cp [some (.slice none 0 0),some (.slice none 0 0),some (.slice none 0 0),some (vI 0)] cf,
  .mem (fe (vP cf 0)) (vI (PC:Int)),
  .mem di undef,
  .call 20 [(vI a)] (aY ta),
  .mem (bS (vI (Uv:Int)) (vP aH (0+k*1)) (dw ae 9 (vP aH (0+k*1)))) undef,
  .mem (bS (vI (PC:Int)) (vP cf 0) (fG (vP cf 0))) undef,
  .val (jM (⟨#[83,69,76,69,67,84,32]⟩) ta) (aY ((⟨#[83,69,76,69,67,84,32]⟩)++ta)),
  .val (jM ((⟨#[83,69,76,69,67,84,32]⟩)++ta) (⟨#[32]⟩)) (aY (((⟨#[83,69,76,69,67,84,32]⟩)++ta)++(⟨#[32]⟩))),
  .val (jM (((⟨#[83,69,76,69,67,84,32]⟩)++ta)++(⟨#[32]⟩)) sg) (aY ((((⟨#[83,69,76,69,67,84,32]⟩)++ta)++(⟨#[32]⟩))++sg)),
  .val (jM ((((⟨#[83,69,76,69,67,84,32]⟩)++ta)++(⟨#[32]⟩))++sg) (⟨#[32,78,85,76,76]⟩)) (aY (((((⟨#[83,69,76,69,67,84,32]⟩)++ta)++(⟨#[32]⟩))++sg)++(⟨#[32,78,85,76,76]⟩))),
  .mem di undef,
  .call 12 [(vP db 0),(aY (((((⟨#[83,69,76,69,67,84,32]⟩)++ta)++(⟨#[32]⟩))++sg)++(⟨#[32,78,85,76,76]⟩)))] (.tuple #[(.agg #[(.slice n2a n2n n2c),(vL R4 0 1 Ww),(vL Js 0 1 eP),(vI 0)]),(vI 0),(vI 0)]),
  .mem (bS (vI (PC:Int)) (vP cf 0) (fG (vP cf 0))) undef,
  .mem di undef,
  dV cf 0 [(.slice n2a n2n n2c),(vL R4 0 1 Ww),(vL Js 0 1 eP),(vI 0)],
  bm,
  bm,
  .mem (aI cf 2) (vL Js 0 1 eP),
  bm,
  bm,
  bm,
  bm,
  bm,
  .mem (aI cf 2) (vL Js 0 1 eP),
  bm,
  .idx 0 1 0,
  bm,
  .mem (aI Js 0) (vL q2 0 1 w2),
  bm,
  bm,
  bm,
  bm,
  bm,
  .mem (aI cf 1) (vL R4 0 1 Ww),
  bm,
  bm,
  bm,
  bm,
  bm,
  .mem (aI cf 2) (vL Js 0 1 eP),
  bm,
  .idx 0 1 0,
  bm,
  .mem (aI Js 0) (vL q2 0 1 w2),
  bm,
  .idx 0 1 0,
  bm,
  ie 4 q2 (ck u2),
  bm,
  bm,
  .val (iP ae .neq 49 false false (ck u2) (.agg #[(vI 0),(vI 0),dU,(.bool false)])) (.bool false),
  bm,
  bm,
  bm,
  .mem (aI cf 1) (vL R4 0 1 Ww),
  bm,
  .idx 0 1 0,
  bm,
  .mem (aI R4 0) (vI 1),
  bm,
  bm,
  bm,
  .call 21 [(vI a),(vI b),(vI (k:Int))] (.tuple #[(vI x),(.bool false)]),
  bV,
  bV,
  bV,
  .mem (aI a0 2) (.slice none 0 0),
  bV,
  bV,
  bV]
 (.bool true):=cg
theorem p8t (a b op x:Int)(k db n1n n1c n2n n2c kb1 kc1 Ns R4 Ww Js q1 w1 q2 w2:Nat)(n1a n2a:Option Addr)(u1 u2:V)(ta tb sg:ByteArray)(aH so a0 zX Uv cf PC:Nat):Path 8 [(vI a),(vI b),(vI op)]
 [.call 14 [] (vP db 0),
  bm,
  .mem (ao ae 28 5 [(0,(aY (⟨#[43]⟩))),(1,(aY (⟨#[45]⟩))),(2,(aY (⟨#[42]⟩))),(3,(aY (⟨#[47]⟩))),(4,(aY (⟨#[37]⟩)))]) (vL aH 0 5 5),
  .call 15 [(vI op),(vI 5)] (vI (k:Int)),
  .idx (k:Int) 5 k,
  .mem (aI aH (0+k*1)) (aY sg),
  .mem (fe (vP aH (0+k*1))) (vI (so:Int)),
  cp [some (.slice none 0 0),some (.slice none 0 0),some (.slice none 0 0),some (vI 0)] a0,
  .mem (fe (vP a0 0)) (vI (zX:Int)),
  .mem di undef,
  .call 20 [(vI a)] (aY ta),
  .mem (bS (vI (so:Int)) (vP aH (0+k*1)) (dw ae 9 (vP aH (0+k*1)))) undef,
  .mem (bS (vI (zX:Int)) (vP a0 0) (fG (vP a0 0))) undef,
  .val (jM (⟨#[83,69,76,69,67,84,32]⟩) ta) (aY ((⟨#[83,69,76,69,67,84,32]⟩)++ta)),
  .val (jM ((⟨#[83,69,76,69,67,84,32]⟩)++ta) (⟨#[32]⟩)) (aY (((⟨#[83,69,76,69,67,84,32]⟩)++ta)++(⟨#[32]⟩))),
  .val (jM (((⟨#[83,69,76,69,67,84,32]⟩)++ta)++(⟨#[32]⟩)) sg) (aY ((((⟨#[83,69,76,69,67,84,32]⟩)++ta)++(⟨#[32]⟩))++sg)),
  .val (jM ((((⟨#[83,69,76,69,67,84,32]⟩)++ta)++(⟨#[32]⟩))++sg) (⟨#[32]⟩)) (aY (((((⟨#[83,69,76,69,67,84,32]⟩)++ta)++(⟨#[32]⟩))++sg)++(⟨#[32]⟩))),
  .mem di undef,
  .call 20 [(vI b)] (aY tb),
  .mem (bS (vI (so:Int)) (vP aH (0+k*1)) (dw ae 9 (vP aH (0+k*1)))) undef,
  .mem (bS (vI (zX:Int)) (vP a0 0) (fG (vP a0 0))) undef,
  .val (jM (((((⟨#[83,69,76,69,67,84,32]⟩)++ta)++(⟨#[32]⟩))++sg)++(⟨#[32]⟩)) tb) (aY ((((((⟨#[83,69,76,69,67,84,32]⟩)++ta)++(⟨#[32]⟩))++sg)++(⟨#[32]⟩))++tb)),
  .mem di undef,
  .call 12 [(vP db 0),(aY ((((((⟨#[83,69,76,69,67,84,32]⟩)++ta)++(⟨#[32]⟩))++sg)++(⟨#[32]⟩))++tb))] (.tuple #[(.agg #[(.slice n1a n1n n1c),(vL kb1 0 1 kc1),(vL Ns 0 1 eP),(vI 0)]),(vI 0),(vI 0)]),
  .mem (bS (vI (zX:Int)) (vP a0 0) (fG (vP a0 0))) undef,
  .mem di undef,
  dV a0 0 [(.slice n1a n1n n1c),(vL kb1 0 1 kc1),(vL Ns 0 1 eP),(vI 0)],
  .idx (k:Int) 5 k,
  .mem (aI aH (0+k*1)) (aY sg),
  .mem (fe (vP aH (0+k*1))) (vI (Uv:Int)),
  cp [some (.slice none 0 0),some (.slice none 0 0),some (.slice none 0 0),some (vI 0)] cf,
  .mem (fe (vP cf 0)) (vI (PC:Int)),
  .mem di undef,
  .call 20 [(vI a)] (aY ta),
  .mem (bS (vI (Uv:Int)) (vP aH (0+k*1)) (dw ae 9 (vP aH (0+k*1)))) undef,
  .mem (bS (vI (PC:Int)) (vP cf 0) (fG (vP cf 0))) undef,
  .val (jM (⟨#[83,69,76,69,67,84,32]⟩) ta) (aY ((⟨#[83,69,76,69,67,84,32]⟩)++ta)),
  .val (jM ((⟨#[83,69,76,69,67,84,32]⟩)++ta) (⟨#[32]⟩)) (aY (((⟨#[83,69,76,69,67,84,32]⟩)++ta)++(⟨#[32]⟩))),
  .val (jM (((⟨#[83,69,76,69,67,84,32]⟩)++ta)++(⟨#[32]⟩)) sg) (aY ((((⟨#[83,69,76,69,67,84,32]⟩)++ta)++(⟨#[32]⟩))++sg)),
  .val (jM ((((⟨#[83,69,76,69,67,84,32]⟩)++ta)++(⟨#[32]⟩))++sg) (⟨#[32,78,85,76,76]⟩)) (aY (((((⟨#[83,69,76,69,67,84,32]⟩)++ta)++(⟨#[32]⟩))++sg)++(⟨#[32,78,85,76,76]⟩))),
  .mem di undef,
  .call 12 [(vP db 0),(aY (((((⟨#[83,69,76,69,67,84,32]⟩)++ta)++(⟨#[32]⟩))++sg)++(⟨#[32,78,85,76,76]⟩)))] (.tuple #[(.agg #[(.slice n2a n2n n2c),(vL R4 0 1 Ww),(vL Js 0 1 eP),(vI 0)]),(vI 0),(vI 0)]),
  .mem (bS (vI (PC:Int)) (vP cf 0) (fG (vP cf 0))) undef,
  .mem di undef,
  dV cf 0 [(.slice n2a n2n n2c),(vL R4 0 1 Ww),(vL Js 0 1 eP),(vI 0)],
  bm,
  bm,
  .mem (aI cf 2) (vL Js 0 1 eP),
  bm,
  bm,
  bm,
  bm,
  bm,
  .mem (aI cf 2) (vL Js 0 1 eP),
  bm,
  .idx 0 1 0,
  bm,
  .mem (aI Js 0) (vL q2 0 1 w2),
  bm,
  bm,
  bm,
  bm,
  bm,
  .mem (aI cf 1) (vL R4 0 1 Ww),
  bm,
  bm,
  bm,
  bm,
  bm,
  .mem (aI cf 2) (vL Js 0 1 eP),
  bm,
  .idx 0 1 0,
  bm,
  .mem (aI Js 0) (vL q2 0 1 w2),
  bm,
  .idx 0 1 0,
  bm,
  ie 4 q2 (ck u2),
  bm,
  bm,
  .val (iP ae .neq 49 false false (ck u2) (.agg #[(vI 0),(vI 0),dU,(.bool false)])) (.bool false),
  bm,
  bm,
  bm,
  .mem (aI cf 1) (vL R4 0 1 Ww),
  bm,
  .idx 0 1 0,
  bm,
  .mem (aI R4 0) (vI 1),
  bm,
  bm,
  bm,
  .call 21 [(vI a),(vI b),(vI (k:Int))] (.tuple #[(vI x),(.bool true)]),
  bm,
  bV,
  bV,
  .mem (aI a0 2) (vL Ns 0 1 eP),
  bV,
  bV,
  bV,
  bV,
  bV,
  .mem (aI a0 2) (vL Ns 0 1 eP),
  bV,
  .idx 0 1 0,
  bV,
  .mem (aI Ns 0) (vL q1 0 1 w1),
  bV,
  bV,
  bV,
  bV,
  bV,
  .mem (aI a0 2) (vL Ns 0 1 eP),
  bV,
  .idx 0 1 0,
  bV,
  .mem (aI Ns 0) (vL q1 0 1 w1),
  bV,
  .idx 0 1 0,
  bV,
  ie 4 q1 (ck u1),
  bV,
  bV,
  bV,
  .val (iP ae .eql 49 false false (ck u1) (.agg #[(vI 1),(vI x),dU,(.bool false)])) (.bool true),
  bV]
 (.bool true):=cg
theorem c8 (h0d:0<db)(hK:Ld K)(h14:Ev K 14 [] m (vP db 0) mK)(cm:Calm mK)(hG:iU mK)(hm:0<mK.next)(He:vK mK db mp)(ha:cC a)(hb:cC b)(ho:cC op):∃m',Ev K 8 [vI a,vI b,vI op] m (.bool true) m'/\Calm m':=by
 have hdl:=He.1.lt;obtain⟨aH,aly⟩:∃b,b=mK.next:=⟨_,rfl⟩;obtain⟨o1,k1,n1⟩:=dC cm.gd (k:={kind:=1,sz:=1,cs:=sg5.map some}) (cs:=sg5) (sz:=1) rfl rfl rfl;have e1:=acs (m:=mK);generalize mK.alloc {kind:=1,sz:=1,cs:=sg5.map some}=m1 at o1 k1 n1 e1;rw[<-aly]at o1 e1;have MP:=cm.ext k1;obtain⟨k,hk,Pv⟩:=aiO (K:=K) (m:=m1) ho;have l1:aI aH (0+k*1) m1=some (.string ⟨#[Ji k]⟩,m1):=aJ o1 (AG hk);obtain⟨a0,alx⟩:∃b,b=m1.next:=⟨_,rfl⟩;obtain⟨m2,e2,o2,k2,n2,_⟩:=aQ MP.gd [.slice none 0 0,.slice none 0 0,.slice none 0 0,vI 0];rw[<-alx]at e2 o2;have Py:=MP.ext k2;obtain⟨ta,hta⟩:∃x:ByteArray,x=⟨(40::(fZ a++[41])).toArray⟩:=⟨_,rfl⟩;obtain⟨tb,htb⟩:∃x:ByteArray,x=⟨(40::(fZ b++[41])).toArray⟩:=⟨_,rfl⟩;obtain⟨sg,hsg⟩:∃x:ByteArray,x=⟨#[Ji k]⟩:=⟨_,rfl⟩;have za:ta.size<=100:=by have :=oK ha;rw[hta,szT];simp;omega
 have zb:tb.size<=100:=by have :=oK hb;rw[htb,szT];simp;omega
 have zs:sg.size=1:=by rw[hsg];rfl
 have z7:(⟨#[83,69,76,69,67,84,32]⟩:ByteArray).size=7:=rfl;have z1:(⟨#[32]⟩:ByteArray).size=1:=rfl;have z5:(⟨#[32,78,85,76,76]⟩:ByteArray).size=5:=rfl;obtain⟨m3,e3,k3⟩:=c20 (K:=K) ha Py.gd;rw[<-hta]at e3;have D3:=Py.ext k3;have tS:=k2.aN k3;have c1:bS (vI ((m1.blk aH).bw:Int)) (vP aH (0+k*1)) (dw ae 9 (vP aH (0+k*1))) m3=some (undef,m3):=vw (o1.aM tS) (AG hk) (oU tS o1.lt);have c2:bS (vI ((m2.blk a0).bw:Int)) (vP a0 0) (fG (vP a0 0)) m3=some (undef,m3):=D4 (b:=a0) MP.gd tS av rfl (oU k3 o2.lt);obtain⟨m4,e4,k4⟩:=c20 (K:=K) hb D3.gd;rw[<-htb]at e4;have MO:=D3.ext k4;have r8:=tS.aN k4;have R5:=k3.aN k4;have anJ:a0<m4.next:=bq o2.lt R5.next;have anK:aH<m4.next:=bq o1.lt r8.next;have c3:bS (vI ((m1.blk aH).bw:Int)) (vP aH (0+k*1)) (dw ae 9 (vP aH (0+k*1))) m4=some (undef,m4):=vw (o1.aM r8) (AG hk) (oU r8 o1.lt);have c4:bS (vI ((m2.blk a0).bw:Int)) (vP a0 0) (fG (vP a0 0)) m4=some (undef,m4):=D4 (b:=a0) MP.gd r8 av rfl (oU R5 o2.lt);have kK4:=k1.aN r8;have d4:vK m4 db mp:=⟨He.1.aM kK4,by rw[kK4.base];exact He.2⟩;have n4:=kK4.next;have tR:((((((⟨#[83,69,76,69,67,84,32]⟩:ByteArray)++ta)++⟨#[32]⟩)++sg)++⟨#[32]⟩)++tb)=⟨(rW a b (Ji k)).toArray⟩:=by
  rw[hta,htb,hsg,show(⟨#[83,69,76,69,67,84,32]⟩:ByteArray)=⟨([83,69,76,69,67,84,32]:List UInt8).toArray⟩from rfl,show(⟨#[32]⟩:ByteArray)=⟨([32]:List UInt8).toArray⟩from rfl,show(⟨#[Ji k]⟩:ByteArray)=⟨([Ji k]:List UInt8).toArray⟩from rfl,
   mc,mc,mc,mc,mc]
  simp[rW,AH]
 have tN:(((((⟨#[83,69,76,69,67,84,32]⟩:ByteArray)++ta)++⟨#[32]⟩)++sg)++⟨#[32,78,85,76,76]⟩)=⟨(uF a (Ji k)).toArray⟩:=by
  rw[hta,hsg,show(⟨#[83,69,76,69,67,84,32]⟩:ByteArray)=⟨([83,69,76,69,67,84,32]:List UInt8).toArray⟩from rfl,show(⟨#[32]⟩:ByteArray)=⟨([32]:List UInt8).toArray⟩from rfl,show(⟨#[32,78,85,76,76]⟩:ByteArray)=⟨([32,78,85,76,76]:List UInt8).toArray⟩from rfl,show(⟨#[Ji k]⟩:ByteArray)=⟨([Ji k]:List UInt8).toArray⟩from rfl,
   mc,mc,mc,mc]
  simp[uF,AH,yY]
 have v1:jM ⟨#[83,69,76,69,67,84,32]⟩ ta=some (.string (⟨#[83,69,76,69,67,84,32]⟩++ta)):=yA av;have v2:jM (⟨#[83,69,76,69,67,84,32]⟩++ta) ⟨#[32]⟩=some (.string ((⟨#[83,69,76,69,67,84,32]⟩++ta)++⟨#[32]⟩)):=yA (by simp only[ByteArray.size_append];omega);have v3:jM ((⟨#[83,69,76,69,67,84,32]⟩++ta)++⟨#[32]⟩) sg=some (.string (((⟨#[83,69,76,69,67,84,32]⟩++ta)++⟨#[32]⟩)++sg)):=yA (by simp only[ByteArray.size_append];omega);have v4:jM (((⟨#[83,69,76,69,67,84,32]⟩++ta)++⟨#[32]⟩)++sg) ⟨#[32]⟩=some (.string ((((⟨#[83,69,76,69,67,84,32]⟩++ta)++⟨#[32]⟩)++sg)++⟨#[32]⟩)):=yA (by simp only[ByteArray.size_append];omega);have v5:jM ((((⟨#[83,69,76,69,67,84,32]⟩++ta)++⟨#[32]⟩)++sg)++⟨#[32]⟩) tb=some (.string (((((⟨#[83,69,76,69,67,84,32]⟩++ta)++⟨#[32]⟩)++sg)++⟨#[32]⟩)++tb)):=yA (by simp only[ByteArray.size_append];omega);have v6:jM (((⟨#[83,69,76,69,67,84,32]⟩++ta)++⟨#[32]⟩)++sg) ⟨#[32,78,85,76,76]⟩=some (.string ((((⟨#[83,69,76,69,67,84,32]⟩++ta)++⟨#[32]⟩)++sg)++⟨#[32,78,85,76,76]⟩)):=yA (by simp only[ByteArray.size_append];omega);have ah0:=adw (K:=K) hK MO (hG.aM kK4) av d4 ha hb hk;rw[<-tR]at ah0;have nB2:¬a0=db:=av;have nB1:¬aH=db:=av;have second:∀{y1 y2 y3 y4:af}{m5:Mem},Kp m4 m5 (fun y=>y=db)->vK m5 db mp->([y1,y2,y3,y4].all (·.oneCell'))=true->∃m6 m7 m8 m9 fM cf na nn nc kb kc rb q w,sO a0 0 [y1,y2,y3,y4] m5=some (undef,m6)/\
   aI aH (0+k*1) m6=some (.string sg,m6)/\rU [some (.slice none 0 0),some (.slice none 0 0),some (.slice none 0 0),some (vI 0)] m6=some (vP cf 0,m7)/\Calm m7/\Ev K 20 [vI a] m7 (.string ta) m8/\
   bS (vI ((m6.blk aH).bw:Int)) (vP aH (0+k*1)) (dw ae 9 (vP aH (0+k*1))) m8=some (undef,m8)/\bS (vI ((m7.blk cf).bw:Int)) (vP cf 0) (fG (vP cf 0)) m8=some (undef,m8)/\Calm m8/\
   Ev K 12 [vP db 0,.string (((((⟨#[83,69,76,69,67,84,32]⟩++ta)++⟨#[32]⟩)++sg)++⟨#[32,78,85,76,76]⟩))] m8 (.tuple #[.agg #[.slice na nn nc,vL kb 0 1 kc,vL rb 0 1 eP,vI 0],vI 0,vI 0]) m9/\
   bS (vI ((m7.blk cf).bw:Int)) (vP cf 0) (fG (vP cf 0)) m9=some (undef,m9)/\Calm m9/\sO cf 0 [.slice na nn nc,vL kb 0 1 kc,vL rb 0 1 eP,vI 0] m9=some (undef,fM)/\Calm fM/\
   Obj fM cf 0 [.slice na nn nc,vL kb 0 1 kc,vL rb 0 1 eP,vI 0]/\Obj fM kb 1 [vI 1]/\Obj fM rb 1 [vL q 0 1 w]/\Obj fM q 4 bJ.cells/\Obj fM a0 0 [y1,y2,y3,y4]/\Kp m5 fM (fun y=>y=db\/y=a0):=by
  intro y1 y2 y3 y4 m5 k5 d5 hy;have cm5:=MO.ext k5;have n5:=k5.next;obtain⟨m6,e6,o6,k6⟩:=dO (o:=0) [y1,y2,y3,y4] ((o2.aM R5).ext k5 nB2) ((cm5.own (by rw[k5.base,kK4.base];have :=He.2;omega)).may _ _) (ag rfl) hy;have Cp:=cm5.ext k6;have n6:=k6.next;have NZ:=((o1.aM r8).ext k5 nB1).ext k6 (show¬aH=a0 by omega);have l6:aI aH (0+k*1) m6=some (.string sg,m6):=by rw[hsg];exact aJ NZ (AG hk)
  obtain⟨cf,alw⟩:∃b,b=m6.next:=⟨_,rfl⟩;obtain⟨m7,e7,o7,k7,n7,_⟩:=aQ Cp.gd [.slice none 0 0,.slice none 0 0,.slice none 0 0,vI 0];rw[<-alw]at e7 o7;have cm7:=Cp.ext k7;obtain⟨m8,e8,k8⟩:=c20 (K:=K) ha cm7.gd;rw[<-hta]at e8;have cm8:=cm7.ext k8;have OC:=k7.aN k8;have anI:cf<m8.next:=bq o7.lt k8.next;have n8:=OC.next;have c8a:bS (vI ((m6.blk aH).bw:Int)) (vP aH (0+k*1)) (dw ae 9 (vP aH (0+k*1))) m8=some (undef,m8):=vw (NZ.aM OC) (AG hk) (oU OC NZ.lt);have c8b:bS (vI ((m7.blk cf).bw:Int)) (vP cf 0) (fG (vP cf 0)) m8=some (undef,m8):=D4 (b:=cf) Cp.gd OC av rfl (oU k8 o7.lt);have nB3:¬cf=db:=av;have d8:vK m8 db mp:=⟨(d5.1.ext k6 (show¬db=a0 by omega)).aM OC,by rw[OC.base,k6.base];exact d5.2⟩;have hG8:iU m8:=(((hG.aM kK4).ext k5 av).ext k6 av).aM OC;obtain⟨v,m9,e9,k9,d9,q9⟩:=adx (K:=K) hK cm8 hG8 av d8 ha hk;rw[<-tN]at e9;obtain⟨na,nn,nc,kb,kc,rb,q,w,rfl,x1,x2,x3,b1,b2,b3⟩:=q9.open;have cm9:=cm8.ext k9;have n9:=k9.next;have st9:(m9.blk cf).bw=(m7.blk cf).bw:=by rw[k9.blk cf av nB3,oU k8 o7.lt]
  have c9:bS (vI ((m7.blk cf).bw:Int)) (vP cf 0) (fG (vP cf 0)) m9=some (undef,m9):=Xr (b:=cf) rfl (by rw[k9.floor,OC.floor];have :=Cp.gd.fn;omega) st9;obtain⟨fM,pY,IB,kh⟩:=dO (o:=0) [.slice na nn nc,vL kb 0 1 kc,vL rb 0 1 eP,vI 0] ((o7.aM k8).ext k9 nB3) ((cm9.own (by rw[k9.base,OC.base,k6.base,k5.base,kK4.base];have :=He.2;omega)).may _ _) (ag rfl) rfl;have fR:∀y,fY m8 m9 y->¬y=cf:=fun y hy e=>by have :=hy.1;omega
  refine⟨m6,m7,m8,m9,fM,cf,na,nn,nc,kb,kc,rb,q,w,e6,l6,e7,cm7,e8,c8a,c8b,cm8,e9,c9,cm9,pY,cm9.ext kh,IB,x1.ext kh (fR _ b1),x2.ext kh (fR _ b2),x3.ext kh (fR _ b3),?_,?_⟩
  ·exact(((o6.aM OC).ext k9 nB2).ext kh (show¬a0=cf by omega))
  ·exact(((k6.mono fun _ _ h=> .inr h).aN OC).trans (k9.mono fun _ _ h=> .inl h) fun _ _ h=>h).new kh (N:=m5.next) (ai _) fun b hb=>by omega
 have vn:iP ae .neq 49 false false (.agg #[vI bJ.k,vI bJ.n,.string bJ.s,.bool bJ.b]) (.agg #[vI 0,vI 0,.string .empty,.bool false])=some (.bool false):=agW false false bJ bJ;rcases ah0 with⟨v,m5,e5,k5,d5,q5,hz⟩|⟨m5,e5,k5,d5,hz⟩
 ·obtain⟨na1,nn1,nc1,kb1,kc1,Ns,q1,w1,rfl,x1,x2,x3,b1,b2,b3⟩:=q5.open;have n5:=k5.next;have c5:bS (vI ((m2.blk a0).bw:Int)) (vP a0 0) (fG (vP a0 0)) m5=some (undef,m5):=Xr (b:=a0) rfl (by rw[k5.floor,r8.floor];have :=MP.gd.fn;omega) (by rw[k5.blk a0 (by have :=o2.lt;have :=R5.next;omega) nB2,oU R5 o2.lt]);obtain⟨m6,m7,m8,m9,fM,cf,na,nn,nc,kb,kc,rb,q,w,f1,f2,f3,g7,f4,f5,f6,g8,f7,f8,g9,f9,YU,o3,y1,y2,y3,IA,kk⟩:=second (y1:= .slice na1 nn1 nc1) (y2:=vL kb1 0 1 kc1) (y3:=vL Ns 0 1 eP) (y4:=vI 0) k5 d5 rfl;have fR:∀y,fY m4 m5 y->¬(y=db\/y=a0):=fun y hy e=>by have :=hy.1;omega
  obtain⟨x,y,e21,WB,hy2⟩:=c21 (K:=K) (m:=fM) ha hb hk;rw[hz]at WB;subst WB;have hx:=hy2 rfl;have t1:aI cf 2 fM=some (vL rb 0 1 eP,fM):=aJ o3 rfl;have t2:aI rb 0 fM=some (vL q 0 1 w,fM):=aJ y2 rfl;have t3:aI cf 1 fM=some (vL kb 0 1 kc,fM):=aJ o3 rfl;have t4:eJ 4 q 0 fM=some (.agg #[vI bJ.k,vI bJ.n,.string bJ.s,.bool bJ.b],fM):=bY (vs:=bJ.cells) y3 rfl (ag rfl);have t5:aI kb 0 fM=some (vI 1,fM):=aJ y1 rfl;have t6:aI a0 2 fM=some (vL Ns 0 1 eP,fM):=aJ IA rfl;have t7:aI Ns 0 fM=some (vL q1 0 1 w1,fM):=aJ (x2.ext kk (fR _ b2)) rfl;have t8:eJ 4 q1 0 fM=some (.agg #[vI (mh (bz (mE k:Int) a b).1).k,vI (mh (bz (mE k:Int) a b).1).n,.string (mh (bz (mE k:Int) a b).1).s,.bool (mh (bz (mE k:Int) a b).1).b],fM):=bY (vs:=(mh (bz (mE k:Int) a b).1).cells) (x3.ext kk (fR _ b3)) rfl (ag rfl);have ve:iP ae .eql 49 false false (.agg #[vI (mh (bz (mE k:Int) a b).1).k,vI (mh (bz (mE k:Int) a b).1).n,.string (mh (bz (mE k:Int) a b).1).s,.bool (mh (bz (mE k:Int) a b).1).b]) (.agg #[vI 1,vI x,.string .empty,.bool false])=some (.bool true):=by
   have h:=Tk false false (mh (bz (mE k:Int) a b).1) (mh x);have gN:(mh (bz (mE k:Int) a b).1).beq (mh x)=true:=by rw[hx];unfold V.beq;simp;rw[ajo];simp
   rw[gN]at h;exact h
  rw[<-hsg]at l1;have tail:=ak (K:=K) (m:=m) (m':=fM) (p8t a b op x k db nn1 nc1 nn nc kb1 kc1 Ns kb kc rb q1 w1 q w na1 na (mh (bz (mE k:Int) a b).1) bJ ta tb sg aH (m1.blk aH).bw a0 (m2.blk a0).bw (m6.blk aH).bw cf (m7.blk cf).bw)
   (.call h14<| .cond rfl<| .mem e1<| .call Pv<| .idx rfl hk<| .mem l1<| .mem (dh _ _)<| .mem e2<| .mem (dh _ _)<| .mem (bW Py.gd)<| .call e3<| .mem c1<| .mem c2<| .val v1<| .val v2<| .val v3<| .val v4<| .mem (bW D3.gd)<| .call e4<| .mem c3<| .mem c4<| .val v5<| .mem (bW MO.gd)<| .call e5<| .mem c5<| .mem (bW (MO.ext k5).gd)<| .mem f1<|
    .idx rfl hk<| .mem f2<| .mem (dh _ _)<| .mem f3<| .mem (dh _ _)<| .mem (bW g7.gd)<| .call f4<| .mem f5<| .mem f6<| .val v1<| .val v2<| .val v3<| .val v6<| .mem (bW g8.gd)<| .call f7<| .mem f8<| .mem (bW g9.gd)<| .mem f9<|(by repeat first |exact .nil|refine .cond rfl ?_|refine .mem fP ?_|refine .val fP ?_|refine .idx rfl dB ?_|refine .call fP ?_))
  exact⟨fM,tail,YU⟩
 ·have n5:=k5.next;have c5:bS (vI ((m2.blk a0).bw:Int)) (vP a0 0) (fG (vP a0 0)) m5=some (undef,m5):=Xr (b:=a0) rfl (by rw[k5.floor,r8.floor];have :=MP.gd.fn;omega) (by rw[k5.blk a0 (by have :=o2.lt;have :=R5.next;omega) nB2,oU R5 o2.lt]);obtain⟨m6,m7,m8,m9,fM,cf,na,nn,nc,kb,kc,rb,q,w,f1,f2,f3,g7,f4,f5,f6,g8,f7,f8,g9,f9,YU,o3,y1,y2,y3,IA,kk⟩:=second (y1:= .slice none 0 0) (y2:= .slice none 0 0) (y3:= .slice none 0 0) (y4:=vI 0) k5 d5 rfl;obtain⟨x,y,e21,WB,hy2⟩:=c21 (K:=K) (m:=fM) ha hb hk;rw[hz]at WB;subst WB;have t1:aI cf 2 fM=some (vL rb 0 1 eP,fM):=aJ o3 rfl;have t2:aI rb 0 fM=some (vL q 0 1 w,fM):=aJ y2 rfl;have t3:aI cf 1 fM=some (vL kb 0 1 kc,fM):=aJ o3 rfl;have t4:eJ 4 q 0 fM=some (.agg #[vI bJ.k,vI bJ.n,.string bJ.s,.bool bJ.b],fM):=bY (vs:=bJ.cells) y3 rfl (ag rfl);have t5:aI kb 0 fM=some (vI 1,fM):=aJ y1 rfl;have t6:aI a0 2 fM=some (.slice none 0 0,fM):=aJ IA rfl;rw[<-hsg]at l1;have tail:=ak (K:=K) (m:=m) (m':=fM) (p8f a b op x k db 0 0 nn nc 0 0 0 kb kc rb 0 0 q w none na bJ bJ ta tb sg aH (m1.blk aH).bw a0 (m2.blk a0).bw (m6.blk aH).bw cf (m7.blk cf).bw)
   (.call h14<| .cond rfl<| .mem e1<| .call Pv<| .idx rfl hk<| .mem l1<| .mem (dh _ _)<| .mem e2<| .mem (dh _ _)<| .mem (bW Py.gd)<| .call e3<| .mem c1<| .mem c2<| .val v1<| .val v2<| .val v3<| .val v4<| .mem (bW D3.gd)<| .call e4<| .mem c3<| .mem c4<| .val v5<| .mem (bW MO.gd)<| .call e5<| .mem c5<| .mem (bW (MO.ext k5).gd)<| .mem f1<|
    .idx rfl hk<| .mem f2<| .mem (dh _ _)<| .mem f3<| .mem (dh _ _)<| .mem (bW g7.gd)<| .call f4<| .mem f5<| .mem f6<| .val v1<| .val v2<| .val v3<| .val v6<| .mem (bW g8.gd)<| .call f7<| .mem f8<| .mem (bW g9.gd)<| .mem f9<|(by repeat first |exact .nil|refine .cond rfl ?_|refine .mem fP ?_|refine .val fP ?_|refine .idx rfl dB ?_|refine .call fP ?_))
  exact⟨fM,tail,YU⟩
end
end Go.AM
namespace Go.AM
set_option maxRecDepth 1000000
open Go Go.Conc Go.Proofs Go.Proofs.YtgfppohfgconeaaGreatDoor
theorem rJ {P:aE}{w:aA}:∀{laid:List (String×DataW Unit)} {ps:List MemPlace},DataW.LaidVars P w laid ps->∀x∈laid,∃g t cs fuel p,P.globalNamed x.1=some g/\(P.globals[g]?).map (·.type)=some t/\w.var? P x.1=some cs/\
  DataW.trod (fun _=>()) P w 0 (fun _=>true) false fuel t cs.toList=some (x.2,p)
 | [],ps,h,x,hx=>by cases hx
 |(n,d)::r,ps,h,x,hx=>by
  obtain⟨g,t,cs,fuel,p,q,h1,h2,h3,h4,h5,h6⟩:=h;rcases bC.1 hx with rfl|hx
  ·exact⟨g,t,cs,fuel,p,h1,h2,h3,h4⟩
  ·exact rJ h5 x hx
theorem LP {α β:Type}{f:α->Option β}:∀{l:List α}{xs:List β},l.mapM f=some xs->∀(i:Nat) a,l[i]?=some a->∃x,f a=some x/\xs[i]?=some x
 | [],xs,h,i,a,hi=>by cases i<;>cases hi
 |b::l,xs,h,i,a,hi=>by
  rw[List.mapM_cons]at h;cases hb:f b with
  |none=>rw[hb]at h;cases h
  |some y=>
   rw[hb]at h;cases hr:l.mapM f with
   |none=>rw[hr]at h;cases h
   |some ys=>
    rw[hr]at h;have h:some (y::ys)=some xs:=h;cases h;cases i with
    |zero=>
     have :b=a:=by simpa using hi
     subst this;exact⟨y,hb,rfl⟩
    |succ i=>exact LP hr i a (by simpa using hi)
theorem zE {P:aE}{w:aA}{fuel n:Nat}{t e:aW}{cs:List af}{L:List (DataW Unit)}{p:List MemPlace}(ht:P.underlying t=some (.array n e))(he:P.underlying e=some .string)(hc:P.cellsOf e=1)
  (h:DataW.trod (fun _=>()) P w 0 (fun _=>true) false fuel t cs=some (.agg L,p)):cs.length=P.cellsOf t/\∀i,i<n->∃s:ByteArray,cs[i]?=some (.string s)/\L[i]?=some (.lit (.string s.data.toList)):=by
 cases fuel with
 |zero=>simp[DataW.trod]at h
 |succ fuel=>
  unfold DataW.trod at h;rw[ht]at h;simp only[]at h
  split at h
  ·rename_i hlen;refine⟨hlen,fun i hi=>?_⟩;obtain⟨xs,s9,h2⟩:=ar.1 h;simp only[aC,DataW.agg.injEq]at h2;obtain⟨x,hx,dk⟩:=LP s9 i i (by rw[List.getElem?_range hi]);have hL:L[i]?=some x.1:=by rw[<-h2.1,List.getElem?_map,dk];rfl
   rw[hc,Nat.mul_one]at hx;cases jB:cs[i]? with
   |none=>
    exfalso
    have hd:(cs.drop i).take 1=[]:=by
     rw[List.drop_eq_nil_of_le (List.getElem?_eq_none_iff.1 jB)];rfl
    rw[hd]at hx;cases fuel with
    |zero=>simp[DataW.trod]at hx
    |succ fuel=>simp[DataW.trod,he]at hx
   |some c=>
    have hd:(cs.drop i).take 1=[c]:=by
     obtain⟨cN,hv⟩:=List.getElem?_eq_some_iff.1 jB;rw[List.drop_eq_getElem_cons cN,hv];rfl
    rw[hd]at hx;cases fuel with
    |zero=>simp[DataW.trod]at hx
    |succ fuel=>
     unfold DataW.trod at hx;rw[he]at hx;cases c with
     |string s=>
      simp only[]at hx
      split at hx
      ·simp only[ah]at hx;exact⟨s,rfl,by rw[hL,<-hx]⟩
      ·cases hx
     |_=>simp at hx
  ·cases h
theorem Cv {W:aA}(h:laidMetH ae Rows.logicRow.laid W):∃C ty fr,W.heap[0]?=some (.cells C ty fr)/\gP.length<=C.size/\∀(o:Nat) v,gP[o]?=some (some v)->C[o]?=some v:=by
 have hf:(Rows.logicRow.laid.filter fun x=>x.2.handleName?.isSome)=[]:=bp;unfold laidMetH at h;rw[hf]at h;obtain⟨ps,hv,_⟩:=h;obtain⟨g,t,cs,fuel,p,h1,h2,h3,h4⟩:=rJ hv ("lineage/words.spellings",Rows.laid_lineage_words_spellings) (by
  show _∈[_,_,_,_,_,_,_,_,_,_,_]
  simp)
 have e1:ae.globalNamed "lineage/words.spellings"=some 0:=bp;have h1:ae.globalNamed "lineage/words.spellings"=some g:=h1;rw[e1]at h1;cases h1;have e2:(ae.globals[0]?).map (·.type)=some 236:=bp;rw[e2]at h2;cases h2;have h4:DataW.trod (fun _=>()) ae W 0 (fun _=>true) false fuel 236 cs.toList=some (Rows.laid_lineage_words_spellings,p):=h4;have hL:∃L,Rows.laid_lineage_words_spellings (H:=Unit)= .agg L:=⟨_,rfl⟩;obtain⟨L,hL⟩:=hL;rw[hL]at h4;obtain⟨k1,k2⟩:=zE (n:=47) (e:=9) bp bp bp h4;have e3:ae.cellsOf 236=47:=bp;have e4:gP.length=47:=bp;rw[e3]at k1;have h3:W.var? ae "lineage/words.spellings"=some cs:=h3;unfold aA.var? at h3;rw[e1]at h3;simp only[cz]at h3
 split at h3
 ·rename_i C ty fr hC;cases h3;refine⟨cs,ty,fr,hC,by rw[e4];simp at k1;omega,fun o v ho=>?_⟩;have pG:o<47:=by
   rw[<-e4];exact(List.getElem?_eq_some_iff.1 ho).1
  obtain⟨s,s1,s2⟩:=k2 o pG;have e5:gP=L.map fun d=>match d with | .lit (.string s)=>some (.string ⟨s.toArray⟩)|_=>none:=by
   unfold gP;rw[hL];rfl
  rw[e5,List.getElem?_map,s2]at ho;simp only[cR,ah,Array.toArray_toList]at ho;rw[Array.getElem?_toList]at s1;rw[s1,<-ho]
 ·cases h3
theorem EC {W:aA}(h:laidMetH ae Rows.logicRow.laid W):12<=W.heap.size:=by
 have hf:(Rows.logicRow.laid.filter fun x=>x.2.handleName?.isSome)=[]:=bp;unfold laidMetH at h;rw[hf]at h;obtain⟨ps,hv,_⟩:=h;obtain⟨g,t,cs,fuel,p,h1,h2,h3,h4⟩:=rJ hv ("math/bits.deBruijn64tab",Rows.laid_math_bits_deBruijn64tab) (by
  show _∈[_,_,_,_,_,_,_,_,_,_,_]
  simp)
 have e1:ae.globalNamed "math/bits.deBruijn64tab"=some 11:=bp;have h3:W.var? ae "math/bits.deBruijn64tab"=some cs:=h3;unfold aA.var? at h3;rw[e1]at h3;simp only[cz]at h3
 split at h3
 ·rename_i C ty fr hC;have :=(Array.getElem?_eq_some_iff.1 hC).1;omega
 ·cases h3
end Go.AM
namespace Go.AM
set_option maxRecDepth 1000000
open Go Go.Conc Go.ConcM Go.Proofs Go.Proofs.YtgfppohfgconeaaGreatDoor Go.ChangeShapes
theorem IY {n:Int}(h:(Lit.int .i64 n).wf=true):cC n:=by
 have h:(decide (cQ.i64.min<=n)&&decide (n<=cQ.i64.max))=true:=h;rw[aj]at h;have h1:=of_decide_eq_true h.1;have h2:=of_decide_eq_true h.2;have e1:cQ.i64.min= -9223372036854775808:=dB;have e2:cQ.i64.max=9223372036854775807:=dB;rw[e1]at h1;rw[e2]at h2;exact⟨h1,av⟩
end Go.AM
namespace Go.AM
set_option maxRecDepth 1000000
open Go Go.Conc Go.Proofs
theorem Oy:Bf.fact Ct=true:=bp
end Go.AM
namespace Go.AM
set_option maxRecDepth 1000000
open Go Go.Conc Go.ConcM Go.Proofs Go.Proofs.YtgfppohfgconeaaGreatDoor Go.ChangeShapes
noncomputable def CR(M n:Nat):cL:=Ih ae X0 (kY ae X0 M) (oR [Bf]) n
theorem Eo {f:Nat}(h:Nat.beq f 14=false)(args:List af)(m:Mem):oR [Bf] f args m=none:=by
 have e:Nat.beq Bf.f f=false:=by
  rw[Bool.eq_false_iff];intro h';have :=aT h';have e2:Bf.f=14:=rfl;rw[e2]at this;subst this;cases h
 unfold oR;rw[e];rfl
theorem MM (M n f:Nat)(args:List af)(m:Mem)(h:ig f=false):CR M (n+1) f args m=(iX ae X0 f).body (CR M n) args m:=by
 unfold ig at h;simp only[Bool.or_eq_false_iff]at h
 show(match oR [Bf] f args m with |some r=>some r|none=>if Nat.beq f X0.Aq then qg X0 (kY ae X0 M) args m else if Nat.beq f X0.oQ then wO args m else(iX ae X0 f).body (CR M n) args m)=_
 rw[Eo h.2]
 show(if Nat.beq f 137 then _ else if Nat.beq f 140 then _ else _)=_
 rw[h.1.1,h.1.2];rfl
noncomputable def KR:iK:=⟨CR,MM⟩
theorem abe:Ld KR:=by
 refine⟨fun M n args m=>?_,fun M n args m=>?_⟩
 ·show(match oR [Bf] 137 args m with |some r=>some r|none=>if Nat.beq 137 X0.Aq then qg X0 (kY ae X0 M) args m else if Nat.beq 137 X0.oQ then wO args m else(iX ae X0 137).body (CR M n) args m)=_
  rw[Eo rfl];rfl
 ·show(match oR [Bf] 140 args m with |some r=>some r|none=>if Nat.beq 140 X0.Aq then qg X0 (kY ae X0 M) args m else if Nat.beq 140 X0.oQ then wO args m else(iX ae X0 140).body (CR M n) args m)=_
  rw[Eo rfl];rfl
theorem RY:Ev KR 14 [] u7 (vP 13 0) (ju u7 KL 1225):=by
 refine⟨1,fun M n _ hn=>?_⟩;obtain⟨n,rfl⟩:∃k,n=k+1:=⟨n-1,av⟩;have h:oR [Bf] 14 [] u7=some (vP 13 0,ju u7 KL 1225):=bp
 show(match oR [Bf] 14 [] u7 with |some r=>some r|none=>if Nat.beq 14 X0.Aq then qg X0 (kY ae X0 M) [] u7 else if Nat.beq 14 X0.oQ then wO [] u7 else(iX ae X0 14).body (CR M n) [] u7)=_
 rw[h]
theorem VN:Calm (ju u7 KL 1225):=⟨⟨rfl,rfl,ai _,dB,dB,fun s h=>by cases h⟩,rfl,rfl,rfl,rfl⟩
theorem VL:iU (ju u7 KL 1225):=⟨dB,bp,bp,bp,rfl⟩
theorem agZ:vK (ju u7 KL 1225) 13 12:=⟨⟨dB,bp,bp,bp,rfl⟩,dB⟩
theorem VK:0<(ju u7 KL 1225).next:=ag bp
theorem RZ:∃m0 mK,m0=u7/\Ev KR 14 [] m0 (vP 13 0) mK/\Calm mK/\iU mK/\0<mK.next/\vK mK 13 12:=
 ⟨u7,ju u7 KL 1225,rfl,RY,VN,VL,VK,agZ⟩
theorem ZG {a b op:Int}(ha:cC a)(hb:cC b)(ho:cC op):∃m0 m',m0=u7/\Ev KR 8 [vI a,vI b,vI op] m0 (.bool true) m'/\Calm m':=by
 obtain⟨m0,mK,e0,hk,hC,hG,hn,hD⟩:=RZ;obtain⟨m',h,hc⟩:=c8 (K:=KR) (m:=m0) (db:=13) (bq Nat.zero_lt_one (ag rfl)) abe hk hC hG hn hD ha hb ho;exact⟨m0,m',e0,h,hc⟩
theorem aij {m0 m':Mem}{args:List af}{v:af}{f:Nat}(hs:ig f=false)(h:Ev KR f args m0 v m'):∃M n,(iX ae X0 f).body (CR M n) args m0=some (v,m'):=by
 obtain⟨N,h⟩:=h;have h:=h N (N+1) (ai _) (Nat.le_succ _);exact⟨N,N,(MM N N f args m0 hs).symm.trans h⟩
theorem sp8:ig 8=false:=rfl
theorem ZF {a b op:Int}(ha:cC a)(hb:cC b)(ho:cC op):∃m0 m',m0=u7/\(∃M n,(iX ae X0 8).body (CR M n) [vI a,vI b,vI op] m0=some (.bool true,m'))/\Calm m':=by
 obtain⟨m0,m',e0,h,hc⟩:=ZG ha hb ho;exact⟨m0,m',e0,aij sp8 h,hc⟩
theorem UY {a b op:Int}(ha:cC a)(hb:cC b)(ho:cC op):∃m0 M n m',m0=u7/\(iX ae X0 8).body (CR M n) [vI a,vI b,vI op] m0=some (.bool true,m')/\m'.deaf=0/\m'.wg=none:=by
 obtain⟨m0,m',e0,⟨M,n,h⟩,hc⟩:=ZF ha hb ho;exact⟨m0,M,n,m',e0,h,hc.gd.deaf,hc.wg⟩
theorem UX {a b op:Int}(ha:cC a)(hb:cC b)(ho:cC op){W:aA}(hL:laidMetH ae Rows.reckonedRow.laid W)(Fin:af->aA->Prop)
  (amm:∀w',bD (aaG W) W w'->Fin (.bool true) w'):
  ∃M last o w' t',runNT ae (M+1) (solo (G (Frame.enter ae 8 #[.int .i64 a,.int .i64 b,.int .i64 op] .normal) []) W) #[]=(.ended o w',t')/\runN ae M (solo (G (Frame.enter ae 8 #[.int .i64 a,.int .i64 b,.int .i64 op] .normal) []) W)= .next last/\
   step ae last= .ended o w'/\Conc.Good ae Fin last o w' t':=by
 have hL:laidMetH ae Rows.logicRow.laid W:=hL;obtain⟨C,ty,fr,h0,hC,hv⟩:=Cv hL;have H:=I8 (EC hL) h0 hC hv;obtain⟨m0,M,n,m',e0,DF,hd,hw⟩:=UY ha hb ho;rw[e0]at DF;have e1:Tryz.f8.ntmps=142:=bp;have e3:Tryz.f8.body=some (ax 8):=bp;have hs:(comp ae 142 1000 (ax 8)).isSome=true:=bp;obtain⟨bR,ahX⟩:=qF.1 hs;have SU:comp ae Tryz.f8.ntmps 1000 (ax 8)=some bR:=by rw[e1];exact ahX
 have abO:xp ae X0 Tryz.f8.ntmps Tryz.f8.results.toList bR (CR M n) [.int .i64 a,.int .i64 b,.int .i64 op] u7=some (.bool true,m'):=by
  unfold iX at DF;rw[Tryz.func8]at DF;simp only[e3]at DF;rw[bL (by rw[e1];rfl),SU]at DF;exact DF
 have Um:iG ae X0 true (Jn Fin) Mv (CR M n):=B4 oI (rB oI M) (Lu ai1 fun r hr=>by
  have :r=Bf:=by simpa using hr
  rw[this];exact⟨Oy,yE.2.2.1⟩) n
 obtain⟨c,hj⟩:=Tn (Fin:=Fin) oI MD Um Tryz.func8 e3 (by rw[e1];decide) SU El abO hd hw bp;have hJ:=hj #[.int .i64 a,.int .i64 b,.int .i64 op] H ⟨(aL rfl).2 rfl,(aL rfl).2 rfl,(aL rfl).2 rfl,trivial⟩ fun bH v' w' H' Pn=>by
  have e:v'= .bool true:=(aL rfl).1 Pn;subst e;exact amm w' H'.rest
 exact E3 hJ H.low rfl
section
variable {H:Type}{enc:aW×af->H}
theorem Jq (os:Os)(started:os.Started)(F:Stop.Interp)
  (witness:∃(w:aA) (tape:Tape) (i:Input),w.os=os/\(w.forCall tape i).Shaped Tryz.checked.prog/\i.vars=[]/\Input.okWide Tryz.checked.prog (w.forCall tape i) .any w.heap.size 8 i/\
   Rows.reckonedRow.pre enc ae Tryz.f8 (OpenSpec.ofChange Rows.reckonedSpec) (w.forCall tape i).memory i.args/\Rows.reckonedRow.assume.holds Tryz.checked.prog (lone (Frame.enter Tryz.checked.prog 8 i.args .normal) [] (w.forCall tape i))):
  ReturnsInLeavingWide Rows.reckonedRow.assume Tryz.checked os 8 .any (Rows.reckonedRow.pre enc ae Tryz.f8 (OpenSpec.ofChange Rows.reckonedSpec))
   ((OpenSpec.ofChange Rows.reckonedSpec).postWith enc ae Tryz.f8 F (outsideKept [.timePasses]) Rows.reckonedRow.apart Rows.reckonedRow.fresh Rows.reckonedRow.handsOn):=by
 refine returnsInLeavingWide_of_good bp started witness ?_;intro w tape i _ _ _ jA vj _;obtain⟨_,_,_,fn',al1,_,_,_,_,HB⟩:=jA;have e:fn'=Tryz.f8:=Option.some.inj (al1.symm.trans Tryz.func8);subst e;obtain⟨⟨hp,YI⟩,hz⟩:=vj;obtain⟨ds,gs,before,hw,hc⟩:=hp;obtain⟨W,hW⟩:∃W,W=w.forCall tape i:=⟨_,rfl⟩;rw[<-hW]at HB hw YI⊢;have zO:=DataW.Whole.of_heap (w':=W) (by rfl) hw;have hL:laidMetH ae Rows.reckonedRow.laid W:=laidMetH.of_heap (by rfl) YI;have alA:=zO;obtain⟨p,q,hA0,hV0,rfl,hfz,hnd⟩:=alA;have hA:DataW.TrodAll enc ae W 0 (fun _=>true) true Tryz.f8.params.toList i.args.toList ds p:=hA0;have hV:DataW.TrodVars enc ae W (fun _=>true) [] gs q:=hV0;rw[Tryz.params8]at hA HB;obtain⟨v0,v1,v2,d0,d1,d2,p0,p1,p2,ha,rfl,_,t0,t1,t2⟩:=trodAll_three hA;rw[ha]at HB;obtain⟨x,rfl,rfl,_,hx⟩:=open_int Tryz.underlying3 (HB 0 3 v0 rfl rfl) t0;obtain⟨y,rfl,rfl,_,hy⟩:=open_int Tryz.underlying3 (HB 1 3 v1 rfl rfl) t1;obtain⟨z,rfl,rfl,_,F7⟩:=open_int Tryz.underlying3 (HB 2 3 v2 rfl rfl) t2;obtain⟨rfl,rfl⟩:=trodVars_none hV;obtain⟨N,last,o,w',t',h1,h2,h3,h4⟩:=UX (IY hx) (IY hy) (IY F7) hL
  (fun v W'=>Rows.reckonedSpec.post enc ae Tryz.f8 Rows.reckonedRow.apart Rows.reckonedRow.fresh Rows.reckonedRow.handsOn false W #[.int .i64 x,.int .i64 y,.int .i64 z] v {W' with os:=W.os}/\OsLater W.os W'.os) fun w' hk=>by
   have g1:DataW.Whole enc ae Tryz.f8.params.toList Rows.reckonedSpec.vars Rows.reckonedRow.apart W #[af.int .i64 x,af.int .i64 y,af.int .i64 z].toList [.lit (.int .i64 x),.lit (.int .i64 y),.lit (.int .i64 z)] [] (p++[]):=by
    rw[ha]at zO;exact zO
   have g3:DataW.TrodAll enc ae {w' with os:=W.os} 0 (fun b=>decide (b<W.heap.size)) true Tryz.f8.params.toList #[af.int .i64 x,af.int .i64 y,af.int .i64 z].toList [.lit (.int .i64 x),.lit (.int .i64 y),.lit (.int .i64 z)] ([]++([]++[])):=by
    rw[Tryz.params8];exact trodAll_mk3 (shut_int Tryz.underlying3 hx) (shut_int Tryz.underlying3 hy) (shut_int Tryz.underlying3 F7)
   have g5:W.keptBut {w' with os:=W.os} (fun q=>q∈p++[]/\(q∈([]:List MemPlace)\/q∈([]++([]++[]):List MemPlace)\/q∈([]:List MemPlace))):=Wu hk _;refine⟨⟨_,_,_,[],_,[],g1,?_,g3,rfl,g5,fun h=>by cases h⟩,by rw[hk.os];exact OsLater.refl _⟩;exact trodAll_mk1 ⟨1,by simp[DataW.trod,af.cells,Tryz.underlying4]⟩
 obtain⟨v,e,hp,r1,r2,r3,r4⟩:=h4;rw[ha];exact⟨N,last,o,w',t',h1,h2,h3,v,e,postWith_blind (postWith_of_post hp.1 hp.2),r1,r2,r3,r4⟩
end
end Go.AM
