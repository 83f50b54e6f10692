/-
  What the claim stands on, part 11.
-/
import Derived.Test.YtgfppohfgconeaaGreatDoorN10
set_option linter.unusedVariables false
set_option linter.unusedSimpArgs false
open Go.Proofs.Tryz renaming prog → ab
open Go renaming Value → ae, Program → aD, TypeId → aM, IntKind → bX
open Nat renaming le_of_ble_eq_true → af, le_refl → ai, eq_of_beq_eq_true → az, lt_of_lt_of_le → a8
open Bool renaming and_eq_true → ag, false_eq_true → bO
open Prod.mk renaming injEq → au
open Option renaming map_eq_some_iff → aB, bind_some → aX, map_some → cT
open List renaming all_eq_true → aE, mem_cons → aR
namespace Go.AM
set_option maxRecDepth 1000000
open Go Go.Conc Go.Proofs
section
variable {K:gI}{m m':Mem}{B:Nat->Prop}
theorem aix {R:Mem->Prop}{cv:Nat->Int->Int->V}{rv sv ev:ae}(sc:Scope K R cv rv){xs:List X}{acc:List (List V)}{BO BE:Nat->Prop}(g:Gd m)(hr:R m)(ls:mz bS 1 BO BE m acc sv)(hBO:∀b,BO b->b<m.next)(Jr:∀b,BE b->b<m.next)
  (hx:(aW sX 1).R B xs m ev)(ep:∀x∈xs,okX cv x)(hl:xs.length<9000)(ha:acc.length<2^30)(hz:(sU cv xs []).2=0):
  ∃yA m' ZN Kh,Ev K 111 [sv,ev,rv] m (.tuple #[yA,vI 0]) m'/\Kp m m' BO/\mz bS 1 ZN Kh m' (acc++[(sU cv xs []).1]) yA/\(∀b,ZN b->jS m m' b)/\(∀b,Kh b->BE b\/jS m m' b):=by
 revert hz
 obtain⟨L,hL⟩:∃L,L=sU cv xs []:=⟨_,rfl⟩;rw[<-hL];obtain⟨a,cc,hA⟩:=aW.form hx;obtain⟨q,hq⟩:∃q,q=m.next:=⟨_,rfl⟩;obtain⟨o1,k1,n1⟩:=gB g (k:={kind:=1,sz:=4,cs:=(fD (List.replicate xs.length cR)).map some}) (cs:=fD (List.replicate xs.length cR)) rfl rfl rfl;have e1:=aj6 (m:=m) (n:=xs.length) aj;generalize m.alloc {kind:=1,sz:=4,cs:=(fD (List.replicate xs.length cR)).map some}=m1 at o1 k1 n1 e1;rw[<-hq]at o1 e1;have hr0:eS 111 0 3 [0,1,2] [sv,ev,rv] [.mem (fV ab 47 (vI (xs.length:Int)) (vI (xs.length:Int))) (vL q 0 xs.length xs.length)] .normal [0,2,8,16,17,18] [sv,rv,vL q 0 xs.length xs.length,ev,vI (xs.length:Int),vI 0]:=by rw[hA];exact afF xs.length cc a sv rv q
 obtain⟨t0,w0,e0⟩:=cj (K:=K) (m:=m) (m':=m1) (tm:=entry [sv,ev,rv]) hr0 rfl (.mem e1 .nil);obtain⟨e,t1,m2,he,EY,k2,hp⟩:=gD (K:=K) (nt:=jx 111) (a:=fT 111 [3]) xs.length
  (Inv:=fun j tm m'=>∃vs,dM [0,2,8,16,17,18] tm=[sv,rv,vL q 0 xs.length xs.length,ev,vI (xs.length:Int),vI j]/\Kp m m' eQ/\m1.next<=m'.next/\vs.length=j/\Obj m' q 4 (fD (vs++List.replicate (xs.length-j) cR))/\sU cv (xs.drop j) vs=L)
  (dG:=fun e tm m'=>Kp m m' eQ/\((e= .exit 0/\m1.next<=m'.next/\dM [0,8] tm=[sv,vL q 0 xs.length xs.length]/\L.2=0/\L.1.length=xs.length/\Obj m' q 4 (fD L.1))\/(e= .ret/\L.2≠0/\dM [6,7] tm=[.slice none 0 0,vI L.2])))
  (by
   rintro j tm m2 hj ⟨vs,hg,kk,nn,hvl,oq,hf⟩;obtain⟨p,c',u,ucs,rfl,hBp,ob,hu,hle,hE,YN⟩:=aW.get ((aW sX 1).ext hx kk fun _ _ h=>h) hj;obtain⟨x,hy⟩:∃y,xs[j]=y:=⟨_,rfl⟩;rw[hy]at hE;have Vk:x∈xs:=by rw[<-hy];exact List.getElem_mem hj
   have Xh:xs.drop j=x::xs.drop (j+1):=by rw[List.drop_eq_getElem_cons hj,hy]
   obtain⟨t,bx,rfl⟩:=XR.form hE;have e2:aT p (0+j*1) m2=some (.iface t (vP bx 0),m2):=by
    rw[Nat.zero_add];refine aO ob ?_;have h1:(ucs.drop (j*1)).take 1=[.iface t (vP bx 0)]:=hu;have h2:=ahV (i:=0) h1 aj;simpa using h2
   have g2:=g.ext kk;obtain⟨f,b',m3,hm,e3,k3⟩:=cOf (K:=K) (rv:=rv) sc.keep sc.pU x m2 _ g2 (sc.keep _ _ hr kk) hE (ep x Vk);have g3:=g2.ext k3;obtain⟨m4,m5,e4,e5,o5,k5,n5⟩:=kY g3 [vI 0,vI 0,.string .empty,.bool false] (ft cv x).1.cells rfl rfl;have sL:=(kk.aS k3).aS k5;have g5:=g.ext sL;have nx3:=k3.next;have nx5:=k5.next;rw[Xh]at hf
   by_cases hz:(ft cv x).2=0
   ·rw[hz]at e3;have e6:fg 4 m3.next 0 m5=some ((ft cv x).1.val,m5):=bY (vs:=(ft cv x).1.cells) o5 rfl (af rfl);have akv:List.replicate (xs.length-j) cR=cR::List.replicate (xs.length-(j+1)) cR:=by
     rw[show xs.length-j=(xs.length-(j+1))+1 by omega];rfl
    rw[akv]at oq;obtain⟨m6,e7,o6,k6⟩:=lh (o:=j*4) (ft cv x).1.cells ((oq.aU k3).aU k5) ((g.own sL aj).may _ _) (by rw[iq];simp[V.cells];omega) rfl;have nx6:=k6.next;have vO:=ai0 (a:=vs) (b:=List.replicate (xs.length-(j+1)) cR) cR (ft cv x).1;rw[hvl]at vO;rw[vO]at o6;obtain⟨t2,gm,gA⟩:=bL (K:=K) (m:=m2) (m':=m6) Gm (afD p q xs.length c' j sv rv _ (ft cv x).1 m3.next) hg (.cond (P3 hj)<| .idx rfl hj<| .mem e2<| .eE hm e3<| .mem e4<| .mem e5<| .cond rfl<| .mem e6<| .idx rfl hj<| .mem (by rw[Nat.zero_add];exact e7) .nil);refine .inl ⟨t2,m6,gm,vs++[(ft cv x).1],by rw[gA,add1 aj],sL.new k6 (N:=m.next) (ai _) fun b hb=>by omega,aj,by simp[hvl],o6,?_⟩;rw[<-hf]
    show _=(if _ then _ else _)
    rw[bZ (by rw[hz];simp)]
   ·obtain⟨t2,gm,gA⟩:=bL (K:=K) (m:=m2) (m':=m5) Gm (afE p q xs.length c' j sv rv _ (ft cv x).1 (ft cv x).2 m3.next) hg (.cond (P3 hj)<| .idx rfl hj<| .mem e2<| .eE hm e3<| .mem e4<| .mem e5<| .cond (neT hz) .nil);have hf:(if(ft cv x).2≠0 then([],(ft cv x).2)else sU cv (xs.drop (j+1)) (vs++[(ft cv x).1]))=L:=hf;rw[bK hz]at hf;exact .inr ⟨_,t2,m5,nU,gm,sL,.inr ⟨rfl,by rw[<-hf];exact hz,by rw[gA,<-hf]⟩⟩)
  (by
   rintro tm m2 ⟨vs,hg,kk,nn,hvl,oq,hf⟩;rw[hA]at hg;obtain⟨t2,gm,gA⟩:=bL (K:=K) (m:=m2) (m':=m2) Gm (afC q xs.length cc xs.length a sv rv) hg (.cond (Yg _) .nil);rw[List.drop_length]at hf;have hf:(vs,(0:Int))=L:=hf;rw[Nat.sub_self,List.replicate_zero,List.append_nil]at oq;exact⟨_,t2,m2,nU,gm,kk,.inl ⟨rfl,nn,gA,by rw[<-hf],by rw[<-hf];exact hvl,by rw[<-hf];exact oq⟩⟩)
  (tm:=t0) (m:=m1) ⟨[],e0,k1,ai _,rfl,o1,by rw[hL];rfl⟩ aj
 intro hzL;rcases hp with⟨rfl,nn,hg,hz,hll,oq⟩|⟨rfl,hz,hg⟩
 ·have g2:=g.ext k2;have n2:=k2.next;have W9:=ls.ext k2 fun _ _ h=>h
  have hv:bS.R (fun y=>y=q) L.1 m2 (vL q 0 xs.length xs.length):=⟨q,xs.length,by rw[hll],rfl,oq,.inr hll.symm⟩;obtain⟨m3,m4,s',e3,g3,k3,e4,k4,ls4,_,n4⟩:=W9.add (t:=29) (v:=vL q 0 xs.length xs.length) g2 rfl gC hv (fun b hb e=>by have :=hBO b hb;omega) (fun b hb=>by have :=Jr b hb;omega) (fun b e=>by omega) (bS.ok hv) ha;obtain⟨t2,h2,e2⟩:=cj (K:=K) (m:=m2) (m':=m4) (afB q xs.length sv s' m2.next) hg (.mem e3<| .mem e4 .nil);refine⟨s',m4,_,_,fW agL (aQ.cut w0 (aQ.sK EY (aQ.last h2 PS))) (.inr rfl) e2,(k2.vF.trans k4 fun _ _ h=>h),ls4,fun b h=>⟨aj,aj⟩,fun b h=>?_⟩;rcases h with h|h
  ·exact .inl h
  ·exact .inr ⟨aj,aj⟩
 ·exact absurd hzL hz
theorem agj (sv:ae):Path 251 [sv,.nilIface]
 [lN]
 (.tuple #[sv,vI 0]):=fu
theorem agi (b n cc j s t x g:Nat)(u:V)(z:Bool)(sv:ae):Path 251 [vL b 0 n cc,.iface t (vP x 0)]
 [dH,
  .idx (jH n 1) n j,
  .val (uI ab #[.iface t (vP x 0)] "Of" (.func (.method "Of") #[.iface t (vP x 0)] #[])) (.func (.method "Of") #[.iface t (vP x 0)] #[]),
  dZ nY s,
  .mem (gj (vP s 0)) (vI g),
  pT,
  .eE (dN ab (.iface t (vP x 0)) "Of") [vP b (0+j*6)] (.tuple #[bQ u,vI 0]),
  .mem (cW (vI g) (vP s 0) (pH (vP s 0))) undef,
  pT,
  jQ s 0 (sE u),
  iO 4 s (bQ u),
  .call 273 [bQ u] (.bool z),
  bu (!z) false]
 (.tuple #[vL b 0 n cc,vI 0]):=fu
theorem agk (b n cc j s t x g:Nat)(u:V)(z:Bool)(sv:ae):Path 251 [vL b 0 n cc,.iface t (vP x 0)]
 [dH,
  .idx (jH n 1) n j,
  .val (uI ab #[.iface t (vP x 0)] "Of" (.func (.method "Of") #[.iface t (vP x 0)] #[])) (.func (.method "Of") #[.iface t (vP x 0)] #[]),
  dZ nY s,
  .mem (gj (vP s 0)) (vI g),
  pT,
  .eE (dN ab (.iface t (vP x 0)) "Of") [vP b (0+j*6)] (.tuple #[bQ u,vI 0]),
  .mem (cW (vI g) (vP s 0) (pH (vP s 0))) undef,
  pT,
  jQ s 0 (sE u),
  iO 4 s (bQ u),
  .call 273 [bQ u] (.bool z),
  bu (!z) true,
  .mem (oc ab 223 (vL b 0 n cc) none (some (vI (jH n 1)))) sv]
 (.tuple #[sv,vI 0]):=fu
theorem ajJ (k t2 t3 pr n cc bs g:Nat)(sv Nb rv w rw :ae):Path 252 [sv,vI k,vP t2 0,vP t3 0]
 [.mem (aT t2 0) (vL pr 0 n cc),
  .idx k n k,
  .mem (fg 6 pr (0+k*6)) rw,
  .mem (bI ab 223 1 [(0,rw)]) (vL bs 0 1 1),
  .mem (aT t3 0) w,
  .mem (gj (vP t3 0)) (vI g),
  pT,
  .mem (cJ ab #[223,223] sv (vL bs 0 1 1)) Nb,
  .mem (cW (vI g) (vP t3 0) (eI ab 158 (vP t3 0))) undef,
  pT,
  .call 251 [Nb,w] (.tuple #[rv,vI 0])]
 (.tuple #[rv,vI 0]):=fu
theorem cp.KG{α:Type}{Q:α->ae->Prop}{x:α}:∀{l:List α}{cs:List ae},cp Q (l++[x]) cs->∃Hj v,cs=Hj++v.cells.toList/\cp Q l Hj/\Q x v
 | [],cs,⟨v,rest,e,q,h⟩=>by
  have h:rest=[]:=h;subst h;exact⟨[],v,by simpa using e,rfl,q⟩
 |y::l,cs,⟨v,rest,e,q,h⟩=>by
  obtain⟨Hj,u,e1,h1,h2⟩:=cp.KG h;exact⟨v.cells.toList++Hj,u,by rw[e,e1,List.append_assoc],⟨v,Hj,rfl,q,h1⟩,h2⟩
theorem shrink {b n k:Nat}(hk:k<=n):oc ab 223 (vL b 0 n fp) none (some (vI k)) m=some (vL b 0 k fp,m):=by
 obtain⟨e,h1,h2,_⟩:=uu (t:=223) (sz:=6) rfl;unfold oc iR;simp only[h1,h2,jP];simp[fp,hk]
theorem aij {sv:ae}:Ev K 251 [sv,.nilIface] m (.tuple #[sv,vI 0]) m:=aJ (agj sv) (.cond rfl .nil)
theorem alG (g:Gd m){BO BE BT:Nat->Prop}{Tb:Nat->Option (List (List V))}{acc:List (List Nat)}{r:List Nat}{sv xv:ae}{x:X}(ls:mz sY 6 BO BE m (acc++[r]) sv)(jL:fM BT Tb m)(hx:XR B x m xv)(ep:okX (rF Tb r) x)(hz:(ft (rF Tb r) x).2=0)(Rf:acc.length<2^29):
  ∃yA m',Ev K 251 [sv,xv] m (.tuple #[yA,vI 0]) m'/\Kp m m' eQ/\mz sY 6 BO BE m' (acc++if(ft (rF Tb r) x).1.beq (dk true)=true then[r]else[]) yA:=by
 rcases ls with⟨h,_⟩|⟨b,cs,rest,rfl,hb,hw,ob,ik⟩
 ·simp at h
 obtain⟨Hj,v,rfl,G2,hv,ov⟩:=ik.KG;have hv:v=yl r:=hv;subst hv;have Xg:=G2.one.1;have h6:=Nq ov;have hvc:(yl r).cells.toList=Gb r:=by simp[yl,ae.cells]
 have hsc:Dk BT Tb r b (0+acc.length*6) 6 m:=⟨⟨_,ob,by rw[hvc,Nat.zero_add,<-Xg,List.append_assoc,List.drop_left,List.take_left' (by simp[h6])],by simp[yl,ae.cells];omega⟩,jL⟩;have ahs:(acc++[r]).length=acc.length+1:=cY;rw[ahs];have ej:jH (acc.length+1:Nat) 1=((acc.length:Nat):Int):=XI;obtain⟨t,bx,rfl⟩:=XR.form hx;obtain⟨m1,e1,o1,k1,n1,_⟩:=aY g [vI 0,vI 0,.string .empty,.bool false];have g1:=g.ext k1;obtain⟨f,b',m2,hm,e2,k2⟩:=cOf (K:=K) (rv:=vP b (0+acc.length*6)) (fun m m' h k=>Dk.aU h k) Sn.pU x m1 _ g1 (hsc.aU k1) (XR.ext k1 (fun _ _ h=>h) hx) ep;rw[hz]at e2;have g2:=g1.ext k2;have o2:=o1.aU k2;obtain⟨m3,e3,o3,k3⟩:=lh (o:=0) (ft (rF Tb r) x).1.cells o2 (((g.own k1 (ai _)).ext k2).may _ _) (by simp[V.cells]) rfl;have jX:Kp m m3 eQ:=(k1.aS k2).trans (k3.mono (S':=fun y=>y=m.next) fun _ _ h=>h) fun b hb e=>by omega
 have g3:=g.ext jX;have l3:fg 4 m.next 0 m3=some ((ft (rF Tb r) x).1.val,m3):=bY (vs:=(ft (rF Tb r) x).1.cells) o3 rfl (af rfl);obtain⟨m4,e4,k4⟩:=alF (K:=K) g3 (ft (rF Tb r) x).1;have jW:=jX.aS k4;have ei:∀{v},cW (vI (((m1.blk m.next).a9:Nat):Int)) v (pH v) m2=cW (vI (((m2.blk m.next).a9:Nat):Int)) v (pH v) m2:=fun{v}=>by rw[k2.blk m.next aj id]
 have hf:m2.floor<=m.next:=by rw[k2.floor,k1.floor];exact g.fn
 have hnm:uI ab #[.iface t (vP bx 0)] "Of" (.func (.method "Of") #[.iface t (vP bx 0)] #[])=some (.func (.method "Of") #[.iface t (vP bx 0)] #[]):=by
  unfold uI
  show(match(dN ab (.iface t (vP bx 0)) "Of").isSome with |true=>_|false=>none)=_
  rw[hm];rfl
 cases iL:(ft (rF Tb r) x).1.beq (dk true)with
 |true=>
  rw[iL]at e4;refine⟨_,m4,aJ (agi b (acc.length+1) fp acc.length m.next t bx (m1.blk m.next).a9 (ft (rF Tb r) x).1 true .nilIface) (.cond rfl<| .idx ej aj<| .val hnm<| .mem e1<| .mem (dS _ _)<| .mem (bP g1)<| .eE hm e2<| .mem (ei.trans (adH rfl hf rfl))<| .mem (bP g2)<| .mem e3<| .mem l3<| .call e4<| .cond rfl .nil),jW,?_⟩;rw[bK rfl];exact .inr ⟨b,_,rest,by rw[ahs],hb,hw.ext jW,ob.aU jW,ik.mono fun x u _ w=>w⟩
 |false=>
  rw[iL]at e4;refine⟨_,m4,aJ (agk b (acc.length+1) fp acc.length m.next t bx (m1.blk m.next).a9 (ft (rF Tb r) x).1 false (vL b 0 acc.length fp)) (.cond rfl<| .idx ej aj<| .val hnm<| .mem e1<| .mem (dS _ _)<| .mem (bP g1)<| .eE hm e2<| .mem (ei.trans (adH rfl hf rfl))<| .mem (bP g2)<| .mem e3<| .mem l3<| .call e4<| .cond rfl<| .mem (by rw[ej];exact shrink aj) .nil),jW,?_⟩;rw[bZ Bool.false_ne_true,List.append_nil];exact .inr ⟨b,Hj,(yl r).cells.toList++rest,rfl,hb,hw.ext jW,by rw[<-List.append_assoc];exact ob.aU jW,G2⟩
end
end Go.AM
namespace Go.AM
set_option maxRecDepth 1000000
open Go Go.Conc Go.Proofs
theorem ajK (k t2 t3 t4 t5 pr n cc more i q1 x l l1 b2 c2 bs g:Nat)(sv rv w rw :ae):Path 250 [sv,vI k,vP t2 0,vP t3 0,vP t4 0,vP t5 0]
 [.mem (aT t2 0) (vL pr 0 n cc),
  .mem (aT t3 0) (vI more),
  .val (j0 Nat.div .i64 k more (jC ab .quo 3 false false (vI k) (vI more))) (vI q1),
  .idx q1 n q1,
  .mem (fg 6 pr (0+q1*6)) rw,
  .mem (bI ab 223 1 [(0,rw)]) (vL bs 0 1 1),
  pT,
  .mem (cJ ab #[223,223] sv (vL bs 0 1 1)) (vL b2 0 l c2),
  .mem (aT t4 0) (vI i),
  .mem (gj (vP t4 0)) (vI g),
  .mem (aT t3 0) (vI more),
  .val (j0 Nat.mod .i64 k more (jC ab .rem 3 false false (vI k) (vI more))) (vI x),
  .idx (jH l 1) l l1,
  pT,
  .val (pu ab [vI x] (convert 3 21 (vI x))) (.int .i32 x),
  .mem (cW (vI g) (vP t4 0) (eI ab 3 (vP t4 0))) undef,
  .idx i 6 i,
  pT,
  .mem (jI b2 (0+l1*6+i*1) (.int .i32 x)) undef,
  .mem (aT t5 1) w,
  .call 251 [vL b2 0 l c2,w] (.tuple #[rv,vI 0])]
 (.tuple #[rv,vI 0]):=fu
theorem ajb {i:Nat}(hi:i<90000){j:Nat}(hj:0<j){d:Option ae}:j0 Nat.mod .i64 i j d=some (vI (i%j:Nat)):=by
 obtain⟨j,rfl⟩:∃k,j=k+1:=⟨j-1,aj⟩;unfold j0
 show(match Nat.blt i (iI .i64)with |true=>some (ae.int .i64 (.ofNat (Nat.mod i (Nat.succ j))))|false=>d)=_
 have :Nat.blt i (iI .i64)=true:=by
  rw[show iI .i64=9223372036854775808 from rfl,jz,jE];omega
 rw[this];rfl
theorem alh {x:Nat}(h:x<90000):pu ab [vI x] (convert 3 21 (vI x))=some (.int .i32 x):=by
 have e:pu ab [vI x] (convert 3 21 (vI x))=some (.int .i32 (bX.i32.wrap x)):=bG;rw[e,show bX.i32.wrap x=x by unfold bX.wrap;simp[bX.signed,bX.bits];omega]
noncomputable def onB(Tb:Nat->Option (List (List V)))(on:Option X)(r:List Nat):Bool:=match on with
 |none=>true
 |some x=>(ft (rF Tb r) x).1.beq (dk true)
def IE (Tb:Nat->Option (List (List V)))(on:Option X)(r:List Nat):Prop:=match on with
 |none=>True
 |some x=>okX (rF Tb r) x/\(ft (rF Tb r) x).2=0
theorem mz.noE{α:Type}{E:nB α}{sz:Nat}{BO BE:Nat->Prop}{m:Mem}{acc:List α}{sv:ae}(h:mz E sz BO BE m acc sv)(hE:∀{B B':Nat->Prop} {x m v},E.R B x m v->E.R B' x m v):mz E sz BO eQ m acc sv:=by
 rcases h with h|⟨b,cs,rest,e,hb,hw,ob,ik⟩
 ·exact .inl h
 ·exact .inr ⟨b,cs,rest,e,⟨hb.1,id⟩,hw,ob,ik.mono fun x u _ w=>⟨hE w.1,w.2⟩⟩
section
variable {K:gI}{m m':Mem}{B BT:Nat->Prop}{Tb:Nat->Option (List (List V))}
theorem aaK (g:Gd m){BO BE:Nat->Prop}{acc:List (List Nat)}{r:List Nat}{sv xv:ae}{on:Option X}(ls:mz sY 6 BO BE m (acc++[r]) sv)(jL:fM BT Tb m)(hx:iJ.R B on m xv)(ep:IE Tb on r)(Rf:acc.length<2^29):
  ∃yA m',Ev K 251 [sv,xv] m (.tuple #[yA,vI 0]) m'/\Kp m m' eQ/\mz sY 6 BO BE m' (acc++if onB Tb on r=true then[r]else[]) yA:=by
 cases on with
 |none=>
  have hx:xv= .nilIface:=hx;subst hx;exact⟨sv,m,aij,.refl _ _,by unfold onB;rw[bK rfl];exact ls⟩
 |some x=>exact alG g ls jL hx ep.1 ep.2 Rf
theorem aak {rows:List (List Nat)}{pr cc k:Nat}{Bp:Nat->Prop}(h:(aW sY 6).R Bp rows m (vL pr 0 rows.length cc))(hk:k<rows.length):fg 6 pr (0+k*6) m=some (yl rows[k],m)/\okV 6 (yl rows[k]):=by
 obtain⟨b,c,u,cs,e,_,o,hu,hl,hr,ov⟩:=aW.get h hk;cases e;have hr:u=yl rows[k]:=hr;subst hr;exact⟨bY (vs:=(yl rows[k]).cells.toList) o (by rw[Nat.zero_add];exact hu) aj,ov⟩
theorem Pt {m0:Mem}{X:Nat->Prop}{rows:List (List Nat)}{ct cx:Nat}{x:AM.X}{xv rl:ae}{Bp:Nat->Prop}(h1:Obj m0 ct 0 [rl])(h2:Obj m0 cx 0 [xv])(h3:(aW sY 6).R Bp rows m0 rl)(h4:XR B x m0 xv)(h5:fM BT Tb m0)
  (hX:∀b,b=ct\/b=cx\/Bp b\/B b\/BT b->¬X b/\b<m0.next)(ep:∀r∈rows,IE Tb (some x) r)(hn:rows.length<90000):
  Ar KW m0 X 252 #[vP ct 0,vP cx 0] sY 6 (fun k=>if onB Tb (some x) (rows[k]!)=true then[rows[k]!]else[]) rows.length:=by
 refine⟨fun i=>by split<;>simp,?_⟩;intro mw BO BE acc sv k hk g hs ls hBO Jr ha;obtain⟨pr,cc,_,_,rfl,_⟩:=aW.get h3 hk;have ls:=ls.noE (fun h=>h);have old:∀b,¬X b/\b<m0.next->¬BO b:=fun b h1 h=>by
  rcases(hBO b h).1 with h|h
  ·exact h1.1 h
  ·omega
 have s1:=h1.nF hs (hX _ (.inl rfl)).1;have s2:=h2.nF hs (hX _ (.inr (.inl rfl))).1;have s3:=aW.jc (sz:=6) ku.jc _ _ _ _ _ h3 (hs.mono fun b hb=>(hX b (.inr (.inr (.inl hb)))).1);have s4:=XR.jc h4 (hs.mono fun b hb=>(hX b (.inr (.inr (.inr (.inl hb))))).1);have s5:=h5.same (hs.mono fun b hb=>(hX b (.inr (.inr (.inr (.inr hb))))).1);obtain⟨l3,ov⟩:=aak s3 hk;rw[getElem!_pos rows k hk];generalize hr:rows[k]=r at*;have hrm:r∈rows:=hr▸List.getElem_mem hk;obtain⟨m2,m3,s',e2,g2,k2,e3,k3,Yh,_,n3⟩:=ls.add (t:=223) (B':=eQ) (y:=r) (v:=yl r) g rfl gC rfl (fun b _ h=>h) (fun b h=>h.elim) (fun b h=>h.elim) ov aj;have Yh:=Yh.noE (fun h=>h);have g3:=g.ext k3;have s2':=s2.aU k2;have ai9:=s2.ext k3 (old _ (hX _ (.inr (.inl rfl))));obtain⟨yA,m4,e4,k4,ls4⟩:=aaK (K:=KW) (on:=some x) g3 Yh (s5.ext k3 fun b hb=>old b (hX b (.inr (.inr (.inr (.inr hb)))))) (show iJ.R B (some x) m3 xv from XR.ext k3 (fun b hb=>old b (hX b (.inr (.inr (.inr (.inl hb)))))) s4) (ep r hrm) aj;have ei:(m3.blk cx).a9=(m2.blk cx).a9:=by
  have hcx:=s2.lt;rw[k3.blk cx hcx (old _ (hX _ (.inr (.inl rfl)))),k2.blk cx hcx id]
 have n4:=k4.next;refine⟨yA,m4,_,eQ,aJ (ajJ k ct cx pr rows.length cc mw.next (m2.blk cx).a9 sv s' yA xv (yl r)) (.mem (aO s1 rfl)<| .idx rfl hk<| .mem l3<| .mem e2<| .mem (aO s2' rfl)<| .mem (dS _ _)<| .mem (bP g2)<| .mem e3<| .mem (vY ai9 rfl ei)<| .mem (bP g3)<| .call e4 .nil),k3.aS k4,ls4,fun b h=> .inr ⟨aj,aj⟩,fun b h=>h.elim⟩
theorem XQ {cs:List ae}{r:List Nat}{i x:Nat}(hi:i<r.length):(cs++Gb r).set (cs.length+i) (.int .i32 x)=cs++Gb (r.set i x):=by
 rw[List.set_append_right _ _ aj,Nat.add_sub_cancel_left];simp[Gb,List.map_set]
theorem KV {m0:Mem}{X:Nat->Prop}{rows:List (List Nat)}{more i ct cm ci cs:Nat}{on:Option AM.X}{tv xv rl:ae}{Bp:Nat->Prop}(h1:Obj m0 ct 0 [rl])(h2:Obj m0 cm 0 [vI more])(hci:Obj m0 ci 0 [vI i])(ik:Obj m0 cs 0 [tv,xv])(h3:(aW sY 6).R Bp rows m0 rl)(h4:iJ.R B on m0 xv)(h5:fM BT Tb m0)
  (hX:∀b,b=ct\/b=cm\/b=ci\/b=cs\/Bp b\/B b\/BT b->¬X b/\b<m0.next)(ep:∀r∈rows,∀k,k<more->IE Tb on (r.set i k))(hn:rows.length*more<90000)(hi:i<6):
  Ar KW m0 X 250 #[vP ct 0,vP cm 0,vP ci 0,vP cs 0] sY 6 (fun k=>if onB Tb on ((rows[k / more]!).set i (k%more))=true then[(rows[k / more]!).set i (k%more)]else[]) (rows.length*more):=by
 refine⟨fun i=>by split<;>simp,?_⟩;intro mw BO BE acc sv k hk g hs ls hBO Jr ha;have ls:=ls.noE (fun h=>h);have old:∀b,¬X b/\b<m0.next->¬BO b:=fun b h1 h=>by
  rcases(hBO b h).1 with h|h
  ·exact h1.1 h
  ·omega
 have hm0:0<more:=by
  rcases Nat.eq_zero_or_pos more with h|h
  ·rw[h]at hk;omega
  ·exact h
 have hkr:k / more<rows.length:=Nat.div_lt_of_lt_mul (by rw[Nat.mul_comm];exact hk);obtain⟨pr,cc,_,_,rfl,_⟩:=aW.get h3 hkr;have EY:=hX ct (.inl rfl);have gm:=hX cm (.inr (.inl rfl));have hx3:=hX ci (.inr (.inr (.inl rfl)));have hx4:=hX cs (.inr (.inr (.inr (.inl rfl))));have hxp:∀b,Bp b->_:=fun b hb=>hX b (.inr (.inr (.inr (.inr (.inl hb)))))
 have hxB:∀b,B b->_:=fun b hb=>hX b (.inr (.inr (.inr (.inr (.inr (.inl hb))))))
 have hxT:∀b,BT b->_:=fun b hb=>hX b (.inr (.inr (.inr (.inr (.inr (.inr hb))))))
 have s1:=h1.nF hs EY.1;have s2:=h2.nF hs gm.1;have si:=hci.nF hs hx3.1;have sc:=ik.nF hs hx4.1;have s3:=aW.jc (sz:=6) ku.jc _ _ _ _ _ h3 (hs.mono fun b hb=>(hxp b hb).1);have s4:iJ.R B on mw xv:=by
  cases on with
  |none=>exact h4
  |some x=>exact XR.jc h4 (hs.mono fun b hb=>(hxB b hb).1)
 have s5:=h5.same (hs.mono fun b hb=>(hxT b hb).1);obtain⟨l3,ov⟩:=aak s3 hkr;rw[getElem!_pos rows (k / more) hkr];generalize hr:rows[k / more]=r at*;have hrm:r∈rows:=hr▸List.getElem_mem hkr;have h6:=Nq ov;obtain⟨m2,m3,s',e2,g2,k2,e3,k3,Yh,_,n3⟩:=ls.add (t:=223) (B':=eQ) (y:=r) (v:=yl r) g rfl gC rfl (fun b _ h=>h) (fun b h=>h.elim) (fun b h=>h.elim) ov aj;have Yh:=Yh.noE (fun h=>h);have g3:=g.ext k3;rcases Yh with⟨h,_⟩|⟨b2,c3,rest,rfl,⟨rfl,_⟩,hw3,ob3,YY⟩
 ·simp at h
 obtain⟨c1,v,rfl,G2,hv,ov'⟩:=YY.KG;have hv:v=yl r:=hv;subst hv;have Xg:=G2.one.1;have hvc:(yl r).cells.toList=Gb r:=by simp[yl,ae.cells]
 rw[hvc]at ob3;have hlr:(Gb r).length=6:=by simp[h6]
 obtain⟨m4,e4,o4,k4⟩:=lQ (o:=0+acc.length*6+i*1) (.int .i32 (k%more:Nat)) ob3 (hw3.may _ _) (by simp[h6];omega) rfl;have g4:=g3.ext k4;have hmo:k%more<more:=Nat.mod_lt _ hm0;have GU:k%more<=k:=Nat.mod_le _ _;have e0:0+acc.length*6+i*1=c1.length+i:=aj;rw[e0]at o4;rw[List.set_append_left _ _ (by simp[h6];omega),XQ aj]at o4;have nl:mw.next<=mw.next+1:=aj;have Yz:Kp mw m4 BO:=k3.trans k4 fun b hb e=>by omega
 have ls4:mz sY 6 (fun y=>y=mw.next+1) eQ m4 (acc++[r.set i (k%more)]) (vL (mw.next+1) 0 (acc++[r]).length fp):=by
  refine .inr ⟨mw.next+1,_,rest,cY,⟨rfl,id⟩,hw3.ext k4,o4,?_⟩;have :cp (fun x u=>sY.R eQ x m4 u/\okV 6 u) (acc++[r.set i (k%more)]) (c1++(yl (r.set i (k%more))).cells.toList):=cp.snoc ⟨rfl,Su (by simp[h6])⟩ (G2.mono fun x u _ w=>w);simpa[yl,ae.cells]using this
 have aks:=sc.ext Yz (old _ hx4);obtain⟨yA,m5,e5,k5,ls5⟩:=aaK (K:=KW) (on:=on) g4 ls4 (s5.ext Yz fun b hb=>old b (hxT b hb)) (iJ.ext s4 Yz fun b hb=>old b (hxB b hb)) (ep r hrm _ hmo) aj;have ei:(m3.blk ci).a9=(m3.blk ci).a9:=rfl;have n5:=k5.next;have n4:=k4.next;have Rf:(acc++[r]).length=acc.length+1:=cY;rw[Rf]at e5 ls4;have amo:=s1;refine⟨yA,m5,_,eQ,aJ (ajK k ct cm ci cs pr rows.length cc more i (k / more) (k%more) (acc.length+1) acc.length (mw.next+1) fp mw.next (m3.blk ci).a9 sv yA xv (yl r)) (.mem (aO s1 rfl)<| .mem (aO s2 rfl)<| .val (afG aj hm0)<| .idx rfl hkr<| .mem l3<| .mem e2<| .mem (bP g2)<| .mem (by rw[<-Rf];exact e3)<| .mem (aO (si.ext k3 (old _ hx3)) rfl)<| .mem (dS _ _)<| .mem (aO (s2.ext k3 (old _ gm)) rfl)<| .val (ajb aj hm0)<| .idx XI aj<| .mem (bP g3)<| .val (alh aj)<| .mem (vY (si.ext k3 (old _ hx3)) rfl rfl)<| .idx rfl hi<| .mem (bP g3)<| .mem e4<| .mem (aO aks rfl)<| .call e5 .nil),Yz.aS k5,ls5,fun b h=> .inr ⟨aj,aj⟩,fun b h=>h.elim⟩
theorem KR {m0:Mem}{X:Nat->Prop}{rows:List (List Nat)}{rM:List AM.X}{iv rl:ae}{ct cr:Nat}{Bp:Nat->Prop}(h1:Obj m0 ct 0 [iv])(h2:Obj m0 cr 0 [rl])(h3:(aW sY 6).R Bp rows m0 rl)(h4:(aW sX 1).R B rM m0 iv)(h5:fM BT Tb m0)
  (hX:∀b,b=ct\/b=cr\/Bp b\/B b\/BT b->¬X b/\b<m0.next)(ep:∀r∈rows,(∀x∈rM,okX (rF Tb r) x)/\(sU (rF Tb r) rM []).2=0)(hl:rM.length<9000):
  Ar KW m0 X 253 #[vP ct 0,vP cr 0] bS 1 (fun k=>[(sU (rF Tb (rows[k]!)) rM []).1]) rows.length:=by
 refine⟨fun i=>by simp,?_⟩;intro mw BO BE acc sv k hk g hs ls hBO Jr ha;obtain⟨pr,cc,_,_,rfl,_⟩:=aW.get h3 hk;have s1:=h1.nF hs (hX _ (.inl rfl)).1;have s2:=h2.nF hs (hX _ (.inr (.inl rfl))).1;have s3:=aW.jc (sz:=6) ku.jc _ _ _ _ _ h3 (hs.mono fun b hb=>(hX b (.inr (.inr (.inl hb)))).1);have s4:=aW.jc sX.jc _ _ _ _ _ h4 (hs.mono fun b hb=>(hX b (.inr (.inr (.inr (.inl hb))))).1);have s5:=h5.same (hs.mono fun b hb=>(hX b (.inr (.inr (.inr (.inr hb))))).1);obtain⟨b,c,u,cs,e,_,o,hu,hle,hr,ov⟩:=aW.get s3 hk;cases e;have hr:u=yl rows[k]:=hr;subst hr;rw[getElem!_pos rows k hk];have hrm:rows[k]∈rows:=List.getElem_mem hk;generalize rows[k]=r at*;have hsc:Dk BT Tb r pr (0+k*6) 6 mw:=⟨⟨cs,o,by rw[Nat.zero_add,hu];simp[yl,ae.cells],aj⟩,s5⟩;obtain⟨yA,m',ZN,Kh,e1,k1,Q9,x1,x2⟩:=aix (K:=KW) Sn g hsc ls (fun b hb=>(hBO b hb).2) (fun b hb=>(Jr b hb).2) s4 (ep r hrm).1 hl aj (ep r hrm).2;exact⟨yA,m',ZN,Kh,aJ (ajI k ct cr pr rows.length cc sv iv yA 0) (.mem (aO s1 rfl)<| .mem (aO s2 rfl)<| .idx rfl hk<| .mem (bP g)<| .call e1 .nil),k1,Q9,fun b h=> .inr (x1 b h),x2⟩
end
end Go.AM
namespace Go.AM
set_option maxRecDepth 1000000
open Go Go.Conc Go.Proofs
structure dg (m:Mem)(d:Nat)(SB:Nat->Prop)(rows:List (List Nat))(cs:List ae)(bo:Nat->Option Nat)(al:Option Nat)(bm:Nat->Option Nat)(am:Option Nat)(rl:ae):Prop where
 ob:Obj m d 0 cs
 len:cs.length=18
 bd:m.base<=d
 br:kN m d 0 6 cs bo al
 bw:kN m d 9 1 cs bm am
 all:cs[8]?=some rl
 rws:(aW sY 6).R (fun y=>al=some y) rows m rl
 sd:SB d
 sb:∀{j b},bo j=some b\/al=some b\/bm j=some b\/am=some b->SB b/\b<m.next
theorem kN.Na{m:Mem}{d q sz:Nat}{cs:List ae}{bo:Nat->Option Nat}{al:Option Nat}(h:kN m d q sz cs bo al){b:Nat}(hb:(∃j,bo j=some b)\/al=some b):(m.blk b).sz=sz/\b<m.next:=by
 rcases hb with⟨j,hb⟩|hb
 ·obtain⟨xs,r⟩:=h.kind hb;exact⟨r.sz,r.lt⟩
 ·obtain⟨sv,_,hr⟩:=h.all;rcases hr with⟨h1,_⟩|⟨b',_,_,h1,_,r,_⟩
  ·rw[hb]at h1;cases h1
  ·rw[hb]at h1;cases h1;exact⟨r.sz,r.lt⟩
theorem kN.keep{m m':Mem}{d q sz:Nat}{cs ys:List ae}{bo:Nat->Option Nat}{al:Option Nat}{S:Nat->Prop}(h:kN m d q sz cs bo al)(k:Kp m m' S)(hl:ys.length=cs.length)(hy:∀x,q<=x->x<q+9->ys[x]?=cs[x]?)(hS:∀b,S b->b=d\/(m.blk b).sz≠sz\/m.next<=b):kN m' d q sz ys bo al:=by
 have hn:∀b,(∃j,bo j=some b)\/al=some b->b≠d->¬S b:=fun b hb hd hs=>by
  obtain⟨h1,h2⟩:=h.Na hb;rcases hS b hs with h|h|h
  ·exact hd h
  ·exact h h1
  ·omega
 refine⟨by rw[hl];exact h.len,fun j hj=>?_,h.hi,h.inj,fun hb=>by rw[k.base];exact h.ne hb,?_,fun hp=>by rw[k.base];exact h.HN hp⟩
 ·obtain⟨sv,h1,h2⟩:=h.sh j hj;exact⟨sv,by rw[hy _ aj aj];exact h1,h2.ext k.W2 fun b hb=>hn b (.inl ⟨j,hb⟩) (h.ne hb).1⟩
 ·obtain⟨sv,h1,h2⟩:=h.all;exact⟨sv,by rw[hy _ aj aj];exact h1,h2.ext k.W2 fun b hb=>hn b (.inr hb) (h.HN hb).1⟩
theorem dg.aU{m m':Mem}{d:Nat}{SB:Nat->Prop}{rows:List (List Nat)}{cs:List ae}{bo:Nat->Option Nat}{al:Option Nat}{bm:Nat->Option Nat}{am:Option Nat}{rl:ae}(h:dg m d SB rows cs bo al bm am rl)(k:Kp m m' eQ):dg m' d SB rows cs bo al bm am rl:=
 ⟨h.ob.aU k,h.len,by rw[k.base];exact h.bd,h.br.keep k rfl (fun _ _ _=>rfl) fun _ h=>h.elim,h.bw.keep k rfl (fun _ _ _=>rfl) fun _ h=>h.elim,h.all,(aW sY 6).ext h.rws k fun _ _ h=>h,h.sd,fun hb=>⟨(h.sb hb).1,by have :=(h.sb hb).2;have :=k.next;omega⟩⟩
theorem agy (d i tp n cc more ct bs bi bm b7 t x g1 g2:Nat)(ra pt:Option Addr)(rv:ae):Path 200 [vP d 0,vI i,.agg #[vP tp 0,.nilIface]]
 [dZ [some (vI i)] bi,
  dZ [some (vP tp 0),some .nilIface] bs,
  .mem (aT d 8) (.slice ra n cc),
  .mem (aT bs 0) (vP tp 0),
  .mem (gj (vP bs 0)) (vI g1),
  .mem (aT tp 1) (.slice pt more ct),
  .mem (gj (vP tp 1)) (vI g2),
  dZ [some kB] b7,
  dZ [some (vI 0)] bm,
  pT,
  .mem (jI b7 0 (.slice ra n cc)) undef,
  .mem (cW (vI g1) (vP bs 0) (eI ab 147 (vP bs 0))) undef,
  .mem (cW (vI g2) (vP tp 1) (eI ab 29 (vP tp 1))) undef,
  pT,
  .mem (jI bm 0 (vI more)) undef,
  .mem (aT b7 0) (.slice ra n cc),
  .mem (aT bm 0) (vI more),
  bu (sV (jq n more) 20000) false,
  .call 249 [vP d 0,vI (jq n more),.func (.func 250) #[] #[vP b7 0,vP bm 0,vP bi 0,vP bs 0]] (.tuple #[rv,vI 0])]
 (vI 0):=fu
theorem agz (d i tp n cc more ct bs bi bm b7 t x g1 g2:Nat)(ra pt:Option Addr)(rv:ae):Path 200 [vP d 0,vI i,.agg #[vP tp 0,.iface t (vP x 0)]]
 [dZ [some (vI i)] bi,
  dZ [some (vP tp 0),some (.iface t (vP x 0))] bs,
  .mem (aT d 8) (.slice ra n cc),
  .mem (aT bs 0) (vP tp 0),
  .mem (gj (vP bs 0)) (vI g1),
  .mem (aT tp 1) (.slice pt more ct),
  .mem (gj (vP tp 1)) (vI g2),
  dZ [some kB] b7,
  dZ [some (vI 0)] bm,
  pT,
  .mem (jI b7 0 (.slice ra n cc)) undef,
  .mem (cW (vI g1) (vP bs 0) (eI ab 147 (vP bs 0))) undef,
  .mem (cW (vI g2) (vP tp 1) (eI ab 29 (vP tp 1))) undef,
  pT,
  .mem (jI bm 0 (vI more)) undef,
  .mem (aT b7 0) (.slice ra n cc),
  .mem (aT bm 0) (vI more),
  bu (sV (jq n more) 20000) false,
  .call 249 [vP d 0,vI (jq n more),.func (.func 250) #[] #[vP b7 0,vP bm 0,vP bi 0,vP bs 0]] (.tuple #[rv,vI 0])]
 (vI 0):=fu
theorem agw (d t x n cc bx b5:Nat)(ra:Option Addr)(rv:ae):Path 201 [vP d 0,.iface t (vP x 0)]
 [dZ [some (.iface t (vP x 0))] bx,
  .mem (aT bx 0) (.iface t (vP x 0)),
  dH,
  .mem (aT d 8) (.slice ra n cc),
  dZ [some kB] b5,
  .mem (jI b5 0 (.slice ra n cc)) undef,
  .mem (aT b5 0) (.slice ra n cc),
  pT,
  .call 249 [vP d 0,vI n,.func (.func 252) #[] #[vP b5 0,vP bx 0]] (.tuple #[rv,vI 0])]
 (vI 0):=fu
section
variable {K:gI}{m:Mem}{B BT:Nat->Prop}{Tb:Nat->Option (List (List V))}
theorem Fs (hK:Ej K)(cm:Calm m){d:Nat}{SB:Nat->Prop}{rows:List (List Nat)}{cs:List ae}{bo bm:Nat->Option Nat}{al am:Option Nat}{rl:ae}{fs n:Nat}{cap:Array ae}{st:Nat->List (List Nat)}(D:dg m d SB rows cs bo al bm am rl)
  (ei:Ar KW m (fun b=>b=d\/∃k,bo k=some b) fs cap sY 6 st n)(hn:n<9000):
  ∃rv m' gL uT pP,Ev K 249 [vP d 0,vI n,.func (.func fs) #[] cap] m (.tuple #[rv,vI 0]) m'/\Kp m m' SB/\dg m' d (fun b=>SB b\/jS m m' b) (gT st n 0 []) gL uT pP bm am rv:=by
 obtain⟨rv,m',ys,uT,pP,e,k,o,hyl,hyo,Js,nX,Y3,hy8,q,_⟩:=aih agV (t:=223) (sz:=6) rfl hK ei ku.jc (.inl rfl) (fun k b h=> .inr ⟨k,h⟩) cm D.ob D.bd D.br hn;have nk:=k.next;have kS:Kp m m' SB:=k.mono fun b _ h=>by
  rcases h with rfl|⟨i,h⟩|h
  ·exact D.sd
  ·exact(D.sb (.inl h)).1
  ·exact(D.sb (j:=0) (.inr (.inl h))).1
 have hbw:kN m' d 9 1 ys bm am:=D.bw.keep k hyl (fun x h1 h2=>hyo x (.inr aj)) fun b h=>by
  rcases h with h|h|h
  ·exact .inl h
  ·exact .inr (.inl (by rw[(D.br.Na (.inl h)).1];decide))
  ·exact .inr (.inl (by rw[(D.br.Na (.inr h)).1];decide))
 obtain⟨Q4,YJ,hs2⟩:=Js.all;have hrs:rv=Q4:=by rw[show(0:Nat)+8=8 by rfl]at YJ hy8;rw[hy8]at YJ;exact Option.some.inj YJ
 subst hrs;have sbn:∀{j b},uT j=some b\/pP=some b\/bm j=some b\/am=some b->(SB b\/jS m m' b)/\b<m'.next:=fun{j b} h=>by
  rcases h with h|h|h
  ·rcases nX j b h with h'|h'
   ·exact⟨.inl (D.sb (.inl h')).1,by have :=(D.sb (.inl h')).2;omega⟩
   ·exact⟨.inr h',h'.2⟩
  ·have h':=Y3 b h;exact⟨.inr h',h'.2⟩
  ·have h':=D.sb (j:=j) (b:=b) (.inr (.inr h));exact⟨.inl h'.1,aj⟩
 refine⟨_,m',ys,uT,pP,e,kS,⟨o,hyl.trans D.len,by rw[k.base];exact D.bd,Js,hbw,hy8,?_,.inl D.sd,sbn⟩⟩;obtain⟨Hj,q1,q2,q3⟩:=q;refine⟨Hj,q1,fun b o n c e=>?_,q3.mono fun x u _ w=>w⟩;rcases hs2 with⟨h1,h2⟩|⟨p,l,xs,h1,h2,_,_⟩
 ·rw[h2]at e;cases e
 ·rw[h2]at e;cases e;exact h1
noncomputable def QO(Tb:Nat->Option (List (List V)))(on:Option X)(rows:List (List Nat))(i more k:Nat):List (List Nat):=if onB Tb on ((rows[k / more]!).set i (k%more))=true then[(rows[k / more]!).set i (k%more)]else[]
theorem alM (hK:Ej K)(cm:Calm m){d:Nat}{SB:Nat->Prop}{rows:List (List Nat)}{cs:List ae}{bo bm:Nat->Option Nat}{al am:Option Nat}{rl:ae}(D:dg m d SB rows cs bo al bm am rl){i tp:Nat}{on:Option X}{xv:ae}{nD:List (List V)}(hi:i<6)(htp:Tb tp=some nD)(jL:fM BT Tb m)(hx:iJ.R B on m xv)
  (mP:∀b,B b\/BT b->¬SB b/\b<m.next)(ep:∀r∈rows,∀k,k<nD.length->IE Tb on (r.set i k))(hn:rows.length*nD.length<9000):
  ∃m' gL uT pP Kk,Ev K 200 [vP d 0,vI i,.agg #[vP tp 0,xv]] m (vI 0) m'/\Kp m m' SB/\dg m' d (fun b=>SB b\/jS m m' b) (gT (QO Tb on rows i nD.length) (rows.length*nD.length) 0 []) gL uT pP bm am Kk:=by
 obtain⟨ra,rc,Xe⟩:=aW.form D.rws;subst Xe;obtain⟨YZ,cl,tl,ot,qt⟩:=jL tp nD htp;obtain⟨pt,ct,htl⟩:=aW.form qt;subst htl;have hxv:(xv= .nilIface)\/∃t x,xv= .iface t (vP x 0):=by
  cases on with
  |none=>exact .inl hx
  |some x=>obtain⟨t,b,e⟩:=XR.form hx;exact .inr ⟨t,b,e⟩
 obtain⟨bi,hbi⟩:∃b,b=m.next:=⟨_,rfl⟩;obtain⟨m1,e1,o1,k1,n1,_⟩:=aY cm.gd [vI i];have g1:=cm.gd.ext k1;obtain⟨bs,Xi⟩:∃b,b=m1.next:=⟨_,rfl⟩;obtain⟨m2,e2,o2,k2,n2,_⟩:=aY g1 [vP tp 0,xv];have g2:=g1.ext k2;have mn:=k1.aS k2;obtain⟨b7,hb7⟩:∃b,b=m2.next:=⟨_,rfl⟩;obtain⟨m3,e3,o3,k3,n3,_⟩:=aY g2 [.slice none 0 0];have g3:=g2.ext k3;obtain⟨Dr,hbm⟩:∃b,b=m3.next:=⟨_,rfl⟩;obtain⟨m4,e4,o4,k4,n4,_⟩:=aY g3 [vI 0];have g4:=g3.ext k4;rw[<-hbi]at e1 o1;rw[<-Xi]at e2 o2;rw[<-hb7]at e3 o3;rw[<-hbm]at e4 o4;obtain⟨m5,e5,o5,k5⟩:=lQ (o:=0) (.slice ra rows.length rc) (o3.aU k4) (((g2.own k3 aj).ext k4).may _ _) cY rfl;have g5:=g4.ext k5;obtain⟨m6,e6,o6,k6⟩:=lQ (o:=0) (vI (nD.length:Int)) (o4.ext k5 aj) (((g3.own k4 aj).ext k5).may _ _) cY rfl;have Qg:=D.ob.lt;have AY:Kp m m6 eQ:=by
  have a:=(mn.aS k3).aS k4;have b:=a.trans (k5.mono (S':=fun y=>m.next<=y) fun y _ h=>by omega) (S:=eQ) fun y hy h=>by omega
  exact b.trans (k6.mono (S':=fun y=>m.next<=y) fun y _ h=>by omega) fun y hy h=>by omega
 have Hl:=cm.ext AY;have n56:=k5.next;have n66:=k6.next;have DJ:Obj m6 bi 0 [vI i]:=((((o1.aU k2).aU k3).aU k4).ext k5 aj).ext k6 aj;have Q7:Obj m6 bs 0 [vP tp 0,xv]:=(((o2.aU k3).aU k4).ext k5 aj).ext k6 aj;have o7':Obj m6 b7 0 [.slice ra rows.length rc]:=o5.ext k6 aj;have D6:=D.aU AY;have n06:=AY.next;have ei:=KV (B:=B) (BT:=BT) (Tb:=Tb) (on:=on) (rows:=rows) (more:=nD.length) (i:=i) (Bp:=fun y=>al=some y) (X:=fun b=>b=d\/∃k,bo k=some b) o7' o6 DJ Q7 D6.rws (iJ.ext hx AY fun _ _ h=>h) (jL.ext AY fun _ _ h=>h) (by
  intro b hb;rcases hb with rfl|rfl|rfl|rfl|hb|hb|hb
  ·exact⟨fun h=>h.elim aj fun⟨k,h⟩=>by have :=(D.sb (.inl h)).2;omega,aj⟩
  ·exact⟨fun h=>h.elim aj fun⟨k,h⟩=>by have :=(D.sb (.inl h)).2;omega,aj⟩
  ·exact⟨fun h=>h.elim aj fun⟨k,h⟩=>by have :=(D.sb (.inl h)).2;omega,aj⟩
  ·exact⟨fun h=>h.elim aj fun⟨k,h⟩=>by have :=(D.sb (.inl h)).2;omega,aj⟩
  ·exact⟨fun h=>h.elim (D.br.HN hb).1 fun⟨k,h⟩=>(D.br.HN hb).2.2 k h,by have :=(D.sb (j:=0) (.inr (.inl hb))).2;omega⟩
  ·have :=mP b (.inl hb);exact⟨fun h=>h.elim (fun e=>this.1 (e▸D.sd)) fun⟨k,h⟩=>this.1 (D.sb (.inl h)).1,aj⟩
  ·have :=mP b (.inr hb);exact⟨fun h=>h.elim (fun e=>this.1 (e▸D.sd)) fun⟨k,h⟩=>this.1 (D.sb (.inl h)).1,aj⟩) ep aj hi
 obtain⟨rv,m7,gL,uT,pP,e7,k7,D7⟩:=Fs hK Hl D6 ei hn;have Zg:jq (rows.length:Int) (nD.length:Int)=((rows.length*nD.length:Nat):Int):=Tu aj;have l1:aT d 8 m2=some (.slice ra rows.length rc,m2):=aO (D.ob.aU mn) D.all;have otx:Obj m2 tp 0 [cl,.slice pt nD.length ct]:=ot.aU mn;have aml:tp<m.next:=ot.lt;have o25:Obj m5 bs 0 [vP tp 0,xv]:=((o2.aU k3).aU k4).ext k5 aj;have ot5:Obj m5 tp 0 [cl,.slice pt nD.length ct]:=((otx.aU k3).aU k4).ext k5 aj;have jB:(m5.blk bs).a9=(m2.blk bs).a9:=by rw[k5.blk bs aj aj,k4.blk bs aj id,k3.blk bs aj id]
 have zJ:(m5.blk tp).a9=(m2.blk tp).a9:=by rw[k5.blk tp aj aj,k4.blk tp aj id,k3.blk tp aj id]
 have fin:Kp m m7 SB:=AY.vF.trans k7 fun _ _ h=>h
 have DD:dg m7 d (fun b=>SB b\/jS m m7 b) (gT (QO Tb on rows i nD.length) (rows.length*nD.length) 0 []) gL uT pP bm am rv:={D7 with sd:= .inl D.sd,sb:=fun hb=>⟨(D7.sb hb).1.imp id fun h=>⟨by have :=h.1;omega,h.2⟩,(D7.sb hb).2⟩};rcases hxv with rfl|⟨t,x,rfl⟩
 ·exact⟨m7,gL,uT,pP,rv,aJ (agy d i tp rows.length rc nD.length ct bs bi Dr b7 0 0 (m2.blk bs).a9 (m2.blk tp).a9 ra pt rv) (.mem e1<| .mem e2<| .mem l1<| .mem (aO o2 rfl)<| .mem (dS _ _)<| .mem (aO otx rfl)<| .mem (dS _ _)<| .mem e3<| .mem e4<| .mem (bP g4)<| .mem e5<| .mem (vY o25 rfl jB)<| .mem (vY ot5 rfl zJ)<| .mem (bP g5)<| .mem e6<| .mem (aO o7' rfl)<| .mem (aO o6 rfl)<| .cond (by rw[Zg];exact dF (Ku (j:=20000)))<| .call (by rw[Zg];exact e7) .nil),fin,DD⟩
 ·exact⟨m7,gL,uT,pP,rv,aJ (agz d i tp rows.length rc nD.length ct bs bi Dr b7 t x (m2.blk bs).a9 (m2.blk tp).a9 ra pt rv) (.mem e1<| .mem e2<| .mem l1<| .mem (aO o2 rfl)<| .mem (dS _ _)<| .mem (aO otx rfl)<| .mem (dS _ _)<| .mem e3<| .mem e4<| .mem (bP g4)<| .mem e5<| .mem (vY o25 rfl jB)<| .mem (vY ot5 rfl zJ)<| .mem (bP g5)<| .mem e6<| .mem (aO o7' rfl)<| .mem (aO o6 rfl)<| .cond (by rw[Zg];exact dF (Ku (j:=20000)))<| .call (by rw[Zg];exact e7) .nil),fin,DD⟩
noncomputable def Xs(Tb:Nat->Option (List (List V)))(x:X)(rows:List (List Nat))(k:Nat):List (List Nat):=if onB Tb (some x) (rows[k]!)=true then[rows[k]!]else[]
theorem alL (hK:Ej K)(cm:Calm m){d:Nat}{SB:Nat->Prop}{rows:List (List Nat)}{cs:List ae}{bo bm:Nat->Option Nat}{al am:Option Nat}{rl:ae}(D:dg m d SB rows cs bo al bm am rl){x:X}{xv:ae}(jL:fM BT Tb m)(hx:XR B x m xv)
  (mP:∀b,B b\/BT b->¬SB b/\b<m.next)(ep:∀r∈rows,IE Tb (some x) r)(hn:rows.length<9000):
  ∃m' gL uT pP Kk,Ev K 201 [vP d 0,xv] m (vI 0) m'/\Kp m m' SB/\dg m' d (fun b=>SB b\/jS m m' b) (gT (Xs Tb x rows) rows.length 0 []) gL uT pP bm am Kk:=by
 obtain⟨ra,rc,Xe⟩:=aW.form D.rws;subst Xe;obtain⟨t,bx',rfl⟩:=XR.form hx;obtain⟨bx,hbx⟩:∃b,b=m.next:=⟨_,rfl⟩;obtain⟨m1,e1,o1,k1,n1,_⟩:=aY cm.gd [.iface t (vP bx' 0)];have CL:=cm.ext k1;obtain⟨b5,hb5⟩:∃b,b=m1.next:=⟨_,rfl⟩;obtain⟨m2,m3,e2,e3,o3,k3,n3⟩:=CL.gd.sd.Rz (.slice none 0 0) (.slice ra rows.length rc) rfl;rw[<-hbx]at e1 o1;rw[<-hb5]at e2 e3 o3;have jX:=k1.aS k3;have wF:=cm.ext jX;have D3:=D.aU jX;have Qg:=D.ob.lt;have n03:=jX.next;have ei:=Pt (B:=B) (BT:=BT) (Tb:=Tb) (x:=x) (rows:=rows) (Bp:=fun y=>al=some y) (X:=fun b=>b=d\/∃k,bo k=some b) o3 (o1.aU k3) D3.rws (XR.ext jX (fun _ _ h=>h) hx) (jL.ext jX fun _ _ h=>h) (by
  intro b hb;rcases hb with rfl|rfl|hb|hb|hb
  ·exact⟨fun h=>h.elim aj fun⟨k,h⟩=>by have :=(D.sb (.inl h)).2;omega,aj⟩
  ·exact⟨fun h=>h.elim aj fun⟨k,h⟩=>by have :=(D.sb (.inl h)).2;omega,aj⟩
  ·exact⟨fun h=>h.elim (D.br.HN hb).1 fun⟨k,h⟩=>(D.br.HN hb).2.2 k h,by have :=(D.sb (j:=0) (.inr (.inl hb))).2;omega⟩
  ·have :=mP b (.inl hb);exact⟨fun h=>h.elim (fun e=>this.1 (e▸D.sd)) fun⟨k,h⟩=>this.1 (D.sb (.inl h)).1,aj⟩
  ·have :=mP b (.inr hb);exact⟨fun h=>h.elim (fun e=>this.1 (e▸D.sd)) fun⟨k,h⟩=>this.1 (D.sb (.inl h)).1,aj⟩) ep aj
 obtain⟨rv,m7,gL,uT,pP,e7,k7,D7⟩:=Fs hK wF D3 ei hn;exact⟨m7,gL,uT,pP,rv,aJ (agw d t bx' rows.length rc bx b5 ra rv) (.mem e1<| .mem (aO o1 rfl)<| .cond rfl<| .mem (aO (D.ob.aU k1) D.all)<| .mem e2<| .mem e3<| .mem (aO o3 rfl)<| .mem (bP wF.gd)<| .call e7 .nil),jX.vF.trans k7 fun _ _ h=>h,
  {D7 with sd:= .inl D.sd,sb:=fun hb=>⟨(D7.sb hb).1.imp id fun h=>⟨by have :=h.1;omega,h.2⟩,(D7.sb hb).2⟩}⟩
end
end Go.AM
namespace Go.AM
set_option maxRecDepth 1000000
open Go Go.Conc Go.Proofs
theorem agv (d n cc il ic b1 b2:Nat)(ia ra:Option Addr)(rv:ae):Path 202 [vP d 0,.slice ia il ic]
 [dZ [some (.slice ia il ic)] b1,
  .mem (aT d 8) (.slice ra n cc),
  dZ [some kB] b2,
  .mem (jI b2 0 (.slice ra n cc)) undef,
  .mem (aT b2 0) (.slice ra n cc),
  pT,
  .call 109 [vP d 9,vI n,.func (.func 253) #[] #[vP b1 0,vP b2 0]] (.tuple #[rv,vI 0])]
 (.tuple #[rv,vI 0]):=fu
def vn:nB (Nat×Option X) where
 R B s m v:=∃xv,v= .agg #[vP s.1 0,xv]/\iJ.R B s.2 m xv
 mono:=by
  rintro B B' x m v ⟨xv,e,h⟩ k;exact⟨xv,e,iJ.mono h k⟩
 ext:=by
  rintro B S x m m' v ⟨xv,e,h⟩ k hs;exact⟨xv,e,iJ.ext h k hs⟩
theorem vn.ok{B:Nat->Prop}{s:Nat×Option X}{m:Mem}{v:ae}(h:vn.R B s m v):okV 2 v/\∃xv,v= .agg #[vP s.1 0,xv]/\mH xv=true:=by
 obtain⟨p,on⟩:=s;obtain⟨xv,rfl,h⟩:=h;have :mH xv=true/\xv.oneCell'=true:=by
  cases on with
  |none=>have h:xv= .nilIface:=h;subst h;exact⟨rfl,rfl⟩
  |some x=>obtain⟨t,b,rfl⟩:=XR.form h;exact⟨rfl,by simp[ae.oneCell']⟩
 exact⟨⟨rfl,fun y hy=>by
  have hy:y=vP p 0\/y=xv:=by simpa[ae.cells]using hy
  rcases hy with rfl|rfl
  ·rfl
  ·exact this.2⟩,xv,rfl,this.1⟩
noncomputable def jy(Tb:Nat->Option (List (List V))):List (Nat×Option X)->Nat->List (List Nat)->List (List Nat)
 | [],_,rows=>rows
 |(p,on)::l,i,rows=>jy Tb l (i+1) (gT (QO Tb on rows i ((Tb p).getD []).length) (rows.length*((Tb p).getD []).length) 0 [])
def GJ (Tb:Nat->Option (List (List V))):List (Nat×Option X)->Nat->List (List Nat)->Prop
 | [],_,_=>True
 |(p,on)::l,i,rows=>(∃t,Tb p=some t)/\rows.length*((Tb p).getD []).length<9000/\(∀r∈rows,∀k,k<((Tb p).getD []).length->IE Tb on (r.set i k))/\GJ Tb l (i+1) (gT (QO Tb on rows i ((Tb p).getD []).length) (rows.length*((Tb p).getD []).length) 0 [])
noncomputable def jj(Tb:Nat->Option (List (List V)))(wh:Option X)(rows:List (List Nat)):List (List Nat):=match wh with
 |none=>rows
 |some x=>gT (Xs Tb x rows) rows.length 0 []
noncomputable def xB(Tb:Nat->Option (List (List V)))(rM:List X)(rows:List (List Nat)):List (List V):=gT (fun k=>[(sU (rF Tb (rows[k]!)) rM []).1]) rows.length 0 []
def eO:List Nat:=[0,0,0,0,0,0]
section
variable {K:gI}{m:Mem}{B BT:Nat->Prop}{Tb:Nat->Option (List (List V))}
theorem aio (hK:Ej K)(cm:Calm m){d:Nat}{SB:Nat->Prop}{rows:List (List Nat)}{cs:List ae}{bo bm:Nat->Option Nat}{al am:Option Nat}{rl:ae}(D:dg m d SB rows cs bo al bm am rl){rM:List X}{iv:ae}(jL:fM BT Tb m)(hx:(aW sX 1).R B rM m iv)
  (mP:∀b,B b\/BT b->¬SB b/\b<m.next)(ep:∀r∈rows,(∀x∈rM,okX (rF Tb r) x)/\(sU (rF Tb r) rM []).2=0)(hl:rM.length<9000)(hn:rows.length<9000):
  ∃rv m' gL Dr Ee,Ev K 202 [vP d 0,iv] m (.tuple #[rv,vI 0]) m'/\Kp m m' SB/\dg m' d (fun b=>SB b\/jS m m' b) rows gL bo al Dr Ee rl/\(aW bS 1).R (jS m m') (xB Tb rM rows) m' rv/\(am=none->xB Tb rM rows=[]->rv= .slice none 0 0/\Ee=none):=by
 obtain⟨ra,rc,Xe⟩:=aW.form D.rws;obtain⟨ia,ic,hiv⟩:=aW.form hx;subst hiv;obtain⟨ct,hct⟩:∃b,b=m.next:=⟨_,rfl⟩;obtain⟨m1,e1,o1,k1,n1,_⟩:=aY cm.gd [.slice ia rM.length ic];have CL:=cm.ext k1;obtain⟨cr,hcr⟩:∃b,b=m1.next:=⟨_,rfl⟩;obtain⟨m2,m3,e2,e3,o3,k3,n3⟩:=CL.gd.sd.Rz (.slice none 0 0) (.slice ra rows.length rc) rfl;rw[<-hct]at e1 o1;rw[<-hcr]at e2 e3 o3;have jX:=k1.aS k3;have wF:=cm.ext jX;have D3:=D.aU jX;have Qg:=D.ob.lt;have n03:=jX.next;have ei:=KR (B:=B) (BT:=BT) (Tb:=Tb) (rows:=rows) (rM:=rM) (Bp:=fun y=>al=some y) (X:=fun b=>b=d\/∃k,bm k=some b) (o1.aU k3) o3 (by have :=D3.rws;rw[Xe]at this;exact this) ((aW sX 1).ext hx jX fun _ _ h=>h) (jL.ext jX fun _ _ h=>h) (by
  intro b hb;rcases hb with rfl|rfl|hb|hb|hb
  ·exact⟨fun h=>h.elim aj fun⟨k,h⟩=>by have :=(D.sb (j:=k) (.inr (.inr (.inl h)))).2;omega,aj⟩
  ·exact⟨fun h=>h.elim aj fun⟨k,h⟩=>by have :=(D.sb (j:=k) (.inr (.inr (.inl h)))).2;omega,aj⟩
  ·refine⟨fun h=>h.elim (D.br.HN hb).1 fun⟨k,h⟩=>?_,by have :=(D.sb (j:=0) (.inr (.inl hb))).2;omega⟩;have h1:=(D.br.Na (.inr hb)).1;rw[(D.bw.Na (.inl ⟨k,h⟩)).1]at h1;exact absurd h1 gC
  ·have :=mP b (.inl hb);exact⟨fun h=>h.elim (fun e=>this.1 (e▸D.sd)) fun⟨k,h⟩=>this.1 (D.sb (j:=k) (.inr (.inr (.inl h)))).1,aj⟩
  ·have :=mP b (.inr hb);exact⟨fun h=>h.elim (fun e=>this.1 (e▸D.sd)) fun⟨k,h⟩=>this.1 (D.sb (j:=k) (.inr (.inr (.inl h)))).1,aj⟩) ep hl
 obtain⟨rv,m',ys,Dr,Ee,e,k,o,hyl,hyo,Js,nX,Y3,amk,q,q4⟩:=aih agU (t:=29) (sz:=1) rfl hK ei bS.jc (.inl rfl) (fun k b h=> .inr ⟨k,h⟩) wF D3.ob D3.bd D3.bw hn;have nk:=k.next;have kS:Kp m3 m' SB:=k.mono fun b _ h=>by
  rcases h with rfl|⟨i,h⟩|h
  ·exact D.sd
  ·exact(D.sb (j:=i) (.inr (.inr (.inl h)))).1
  ·exact(D.sb (j:=0) (.inr (.inr (.inr h)))).1
 have hn6:∀b,al=some b->¬(b=d\/(∃i,bm i=some b)\/am=some b):=fun b hb h=>by
  have h1:=(D.br.Na (.inr hb)).1;rcases h with h|h
  ·exact(D.br.HN hb).1 h
  ·rw[(D.bw.Na h).1]at h1;exact absurd h1 gC
 have Xj:kN m' d 0 6 ys bo al:=D3.br.keep k hyl (fun x h1 h2=>hyo x (.inl aj)) fun b h=>by
  rcases h with h|h|h
  ·exact .inl h
  ·exact .inr (.inl (by rw[(D3.bw.Na (.inl h)).1];decide))
  ·exact .inr (.inl (by rw[(D3.bw.Na (.inr h)).1];decide))
 refine⟨rv,m',ys,Dr,Ee,aJ (agv d rows.length rc rM.length ic ct cr ia ra rv) (.mem e1<| .mem (aO (D.ob.aU k1) (by rw[D.all,Xe]))<| .mem e2<| .mem e3<| .mem (aO o3 rfl)<| .mem (bP wF.gd)<| .call e .nil),jX.vF.trans kS fun _ _ h=>h,⟨o,hyl.trans D.len,by rw[k.base,jX.base];exact D.bd,Xj,Js,by rw[hyo 8 (.inl aj)];exact D.all,(aW sY 6).ext D3.rws k hn6,.inl D.sd,?_⟩,(aW bS 1).mono q fun b hb=>⟨by have :=hb.1;omega,hb.2⟩,q4⟩;intro j b h;rcases h with h|h|h|h
 ·exact⟨.inl (D.sb (.inl h)).1,by have :=(D.sb (.inl h)).2;omega⟩
 ·exact⟨.inl (D.sb (j:=0) (.inr (.inl h))).1,by have :=(D.sb (j:=0) (.inr (.inl h))).2;omega⟩
 ·rcases nX j b h with h'|h'
  ·have h':=D.sb (j:=j) (b:=b) (.inr (.inr (.inl h')));exact⟨.inl h'.1,aj⟩
  ·exact⟨.inr ⟨by have :=h'.1;omega,h'.2⟩,h'.2⟩
 ·have h':=Y3 b h;exact⟨.inr ⟨by have :=h'.1;omega,h'.2⟩,h'.2⟩
end
end Go.AM
namespace Go.AM
set_option maxRecDepth 1000000
open Go Go.Conc Go.Proofs
theorem afq (d sn sc q b2 b3:Nat)(sa:Option Addr)(w iv av ev:ae):eS 149 0 3 [0,1] [.agg #[.slice sa sn sc,w,iv],vP d 0]
 [dZ [some (.slice sa sn sc),some w,some iv] b2,
  .mem (aT d 8) av,
  .call 199 [av] ev,
  .mem (bI ab 223 1 [(0,(.agg #[.int .i32 0,.int .i32 0,.int .i32 0,.int .i32 0,.int .i32 0,.int .i32 0]))]) (vL b3 0 1 1),
  .mem (cJ ab #[223,223] ev (vL b3 0 1 1)) (vL q 0 1 fp),
  .mem (jI d 8 (vL q 0 1 fp)) undef,
  .mem (aT b2 0) (.slice sa sn sc)]
 .normal [1,2,24,25,26] [vP d 0,vP b2 0,.slice sa sn sc,vI sn,vI 0]:=iD
theorem afp (d b2 ps sn sc i b7 tp:Nat)(w:ae):eA 149 [3] 0 99 [1,2,24,25,26] [vP d 0,vP b2 0,vL ps 0 sn sc,vI sn,vI i]
 [bu (eX i sn) true,
  .idx i sn i,
  .mem (fg 2 ps (0+i*2)) (.agg #[vP tp 0,w]),
  dZ [some (.pointer none),some .nilIface] b7,
  jQ b7 0 [vP tp 0,w],
  iO 2 b7 (.agg #[vP tp 0,w]),
  .call 200 [vP d 0,vI i,.agg #[vP tp 0,w]] (vI 0),
  dH]
 .normal [1,2,24,25,26] [vP d 0,vP b2 0,vL ps 0 sn sc,vI sn,vI (eh i 1)]:=iD
section
variable {K:gI}{m:Mem}{B BT:Nat->Prop}{Tb:Nat->Option (List (List V))}
theorem Qq (cm:Calm m){d:Nat}{SB:Nat->Prop}{rows:List (List Nat)}{cs:List ae}{bo bm:Nat->Option Nat}{al am:Option Nat}{rl:ae}(D:dg m d SB rows cs bo al bm am rl):
  ∃Q5 m1 m2 m3 m4 q,Ev K 199 [rl] m Q5 m1/\bI ab 223 1 [(0,yl eO)] m1=some (vL m1.next 0 1 1,m2)/\cJ ab #[223,223] Q5 (vL m1.next 0 1 1) m2=some (vL q 0 1 fp,m3)/\jI d 8 (vL q 0 1 fp) m3=some (undef,m4)/\Kp m m4 SB/\
   dg m4 d (fun b=>SB b\/jS m m4 b) [eO] (cs.set 8 (vL q 0 1 fp)) bo (some q) bm am (vL q 0 1 fp):=by
 obtain⟨Q4,h8,hr⟩:=D.br.all;have e8:Q4=rl:=by rw[show(0:Nat)+8=8 by rfl,D.all]at h8;exact(Option.some.inj h8).symm
 subst e8;have Qg:=D.ob.lt;obtain⟨Q5,m1,e1,k1,Q9⟩:=ZA (K:=K) agV (t:=223) (sz:=6) rfl (E:=sY) hr (fun b hb=>cm.own (D.br.HN hb).2.1);have n1:=k1.next;have CL:=cm.ext k1;obtain⟨m2,m3,s',e2,g2,k2,e3,k3,_,⟨_,c3,rfl,ob3,YY⟩,n3⟩:=Q9.add (t:=223) (B':=eQ) (y:=eO) (v:=yl eO) CL.gd rfl gC rfl (fun b _ h=>h) (fun b h=>h.elim) (fun b h=>h.elim) (Su rfl) gC;have VX:¬al=some d:=fun e=>(D.br.HN e).1 rfl
 have U':Kp m m3 (fun y=>al=some y):=k1.trans k3 fun _ _ h=>h
 have o3:=D.ob.ext U' VX;have wF:=cm.ext U';have n13:=U'.next;obtain⟨m4,e4,o4,k4⟩:=lQ (o:=8) (vL (m1.next+1) 0 1 fp) o3 ((wF.own (by rw[U'.base];exact D.bd)).may _ _) (by rw[D.len];omega) rfl;have n4:=k4.next;have jW:Kp m m4 (fun y=>y=d\/al=some y):=(U'.mono fun _ _ h=> .inr h).trans k4 fun _ _ h=> .inl h
 have kS:Kp m m4 SB:=jW.mono fun b _ h=>h.elim (fun e=>e▸D.sd) fun e=>(D.sb (j:=0) (.inr (.inl e))).1
 have hlen:(cs.set 8 (vL (m1.next+1) 0 1 fp)).length=cs.length:=cY;have vO:∀x,x≠8->(cs.set 8 (vL (m1.next+1) 0 1 fp))[x]?=cs[x]?:=fun x hx=>List.getElem?_set_ne (fun e=>hx e.symm)
 have hs8:(cs.set 8 (vL (m1.next+1) 0 1 fp))[8]?=some (vL (m1.next+1) 0 1 fp):=List.getElem?_set_self (by rw[D.len];omega);have hqd:¬m1.next+1=d:=aj;have ob4:Obj m4 (m1.next+1) 6 c3:=ob3.ext k4 hqd;have hl3:=YY.one.1;have vl:m.base<=m.next:=by have :=cm.gd.bf;have :=cm.gd.fn;omega
 have Jm:∀j b,bo j=some b->b<m.next:=fun j b h=>D.br.lt h
 refine⟨Q5,m1,m2,m3,m4,m1.next+1,e1,e2,e3,e4,kS,⟨o4,by rw[hlen];exact D.len,by rw[jW.base];exact D.bd,⟨by rw[hlen];exact D.br.len,fun j hj=>?_,D.br.hi,D.br.inj,fun h=>by rw[jW.base];exact D.br.ne h,⟨_,hs8,.inr ⟨m1.next+1,1,_,rfl,rfl,ob4.ro,by simp[hl3]⟩⟩,fun{p} h=>?_⟩,?_,hs8,?_,.inl D.sd,fun{j b} h=>?_⟩⟩
 ·obtain⟨sv,h1,h2⟩:=D.br.sh j hj;exact⟨sv,by rw[vO _ aj];exact h1,h2.ext jW.W2 fun b e h=>h.elim (D.br.ne e).1 fun h=>(D.br.HN h).2.2 j e⟩
 ·cases h;exact⟨hqd,by rw[jW.base];omega,fun j h=>by have :=Jm j _ h;omega⟩
 ·refine D.bw.keep jW hlen (fun x h1 h2=>vO x aj) fun b h=>?_
  rcases h with h|h
  ·exact .inl h
  ·exact .inr (.inl (by rw[(D.br.Na (.inr h)).1];decide))
 ·exact⟨c3,ob4.sl hl3 (.inl rfl),fun b o n c e=>(by cases e;rfl),YY.mono fun x u _ w=>w⟩
 ·rcases h with h|h|h
  ·exact⟨.inl (D.sb (.inl h)).1,by have :=Jm j b h;omega⟩
  ·cases h;exact⟨.inr ⟨aj,by have :=ob4.lt;omega⟩,ob4.lt⟩
  ·have :=D.sb (j:=j) (b:=b) (.inr (.inr h));exact⟨.inl this.1,aj⟩
theorem dg.mono{d:Nat}{SB Eg:Nat->Prop}{rows:List (List Nat)}{cs:List ae}{bo bm:Nat->Option Nat}{al am:Option Nat}{rl:ae}(D:dg m d SB rows cs bo al bm am rl)(h:∀b,SB b->Eg b):dg m d Eg rows cs bo al bm am rl:={D with sd:=h _ D.sd,sb:=fun hb=>⟨h _ (D.sb hb).1,(D.sb hb).2⟩}
theorem aaL (hK:Ej K)(cm:Calm m){d:Nat}{SB:Nat->Prop}{iP:List (List Nat)}{cs:List ae}{bo bm:Nat->Option Nat}{al am:Option Nat}{rl:ae}(D:dg m d SB iP cs bo al bm am rl){mc:List (Nat×Option X)}{wh:Option X}{rM:List X}{sv wv iv:ae}
  (hs:(aW vn 2).R B mc m sv)(hw:iJ.R B wh m wv)(hi:(aW sX 1).R B rM m iv)(jL:fM BT Tb m)(mP:∀b,B b\/BT b->¬SB b/\b<m.next)(ym:mc.length<=6)(hj:GJ Tb mc 0 [eO])
  (hwl:(jy Tb mc 0 [eO]).length<9000)(hwo:wh≠none->∀r∈jy Tb mc 0 [eO],IE Tb wh r)(akE:(jj Tb wh (jy Tb mc 0 [eO])).length<=1000)(ep:∀r∈jj Tb wh (jy Tb mc 0 [eO]),(∀x∈rM,okX (rF Tb r) x)/\(sU (rF Tb r) rM []).2=0)(hl:rM.length<9000):
  ∃rv m' tB gL uT pP Dr Ee Kk,Ev K 149 [.agg #[sv,wv,iv],vP d 0] m (.tuple #[rv,vI 0]) m'/\Kp m m' SB/\dg m' d (fun b=>SB b\/jS m m' b) tB gL uT pP Dr Ee Kk/\(aW bS 1).R (jS m m') (xB Tb rM (jj Tb wh (jy Tb mc 0 [eO]))) m' rv/\(am=none->xB Tb rM (jj Tb wh (jy Tb mc 0 [eO]))=[]->rv= .slice none 0 0/\Ee=none):=by
 obtain⟨R,hR⟩:∃R,R=jy Tb mc 0 [eO]:=⟨_,rfl⟩;rw[<-hR]at hwl hwo akE ep⊢;have Qg:=D.ob.lt;have D0:dg m d (fun b=>SB b/\b<m.next) iP cs bo al bm am rl:={D with sd:=⟨D.sd,Qg⟩,sb:=fun hb=>⟨D.sb hb,(D.sb hb).2⟩};obtain⟨SX,hSX⟩:∃SX:Nat->Prop,SX=fun b=>SB b/\b<m.next:=⟨_,rfl⟩
 rw[<-hSX]at D0;have uM:∀b,SX b->SB b/\b<m.next:=fun b h=>by rw[hSX]at h;exact h
 obtain⟨b2,mr⟩:∃b,b=m.next:=⟨_,rfl⟩;obtain⟨m1,e1,o1,k1,n1,_⟩:=aY cm.gd [sv,wv,iv];rw[<-mr]at e1 o1;have CL:=cm.ext k1;obtain⟨Q5,m2,m3,m4,m5,q,x1,x2,x3,x4,k5,D5⟩:=Qq (K:=K) CL (D0.aU k1);have n5:=k5.next;obtain⟨sa,sc,wB⟩:=aW.form hs;have xM:∀{m'},Kp m1 m' SX->(aW vn 2).R B mc m' sv/\iJ.R B wh m' wv/\(aW sX 1).R B rM m' iv/\fM BT Tb m'/\Obj m' b2 0 [sv,wv,iv]:=fun k=>by
  have hk:Kp m _ SB:=k1.vF.trans k fun b _ h=>(uM b h).1
  exact⟨(aW vn 2).ext hs hk fun b hb=>(mP b (.inl hb)).1,iJ.ext hw hk fun b hb=>(mP b (.inl hb)).1,(aW sX 1).ext hi hk fun b hb=>(mP b (.inl hb)).1,jL.ext hk fun b hb=>(mP b (.inr hb)).1,o1.ext k fun h=>by have :=(uM _ h).2;omega⟩
 have VL:∀{M M':Mem},m1.next<=M'.next->∀b,B b\/BT b->¬(SX b\/jS m1 M b)/\b<M'.next:=fun hM b hb=>by
  have :=mP b hb;exact⟨fun h=>h.elim (fun h=>this.1 (uM b h).1) fun h=>by have :=h.1;omega,aj⟩
 obtain⟨t0,w0,e0⟩:=cj (K:=K) (m:=m) (m':=m5) (tm:=entry [.agg #[sv,wv,iv],vP d 0]) (by rw[wB];exact afq d mc.length sc q b2 m2.next sa wv iv rl Q5) rfl (.mem (by rw[<-wB];exact e1)<| .mem (aO (D.ob.aU k1) D.all)<| .call x1<| .mem x2<| .mem x3<| .mem x4<| .mem (by rw[<-wB];exact aO (xM k5).2.2.2.2 rfl) .nil);rw[<-wB]at e0;obtain⟨e,t1,M,he,hx,rfl,hg,kM,gL,uT,pP,Kk,DM⟩:=gD (K:=K) (nt:=jx 149) (a:=fT 149 [3]) mc.length
  (Inv:=fun j tm M=>dM [1,2,24,25,26] tm=[vP d 0,vP b2 0,sv,vI (mc.length:Int),vI j]/\Kp m1 M SX/\∃rows cs bo al rl,dg M d (fun b=>SX b\/jS m1 M b) rows cs bo al bm am rl/\jy Tb (mc.drop j) j rows=R/\GJ Tb (mc.drop j) j rows)
  (dG:=fun e tm M=>e= .exit 0/\dM [1,2] tm=[vP d 0,vP b2 0]/\Kp m1 M SX/\∃cs bo al rl,dg M d (fun b=>SX b\/jS m1 M b) R cs bo al bm am rl)
  (by
   rintro j tm M Oo ⟨hg,kk,rows,cs,bo,al,rl,DM,Xm,sM⟩
   left
   obtain⟨f1,f2,f3,f4,f5⟩:=xM kk;obtain⟨ps,pc,u,ucs,ag7,_,ob,hu,hle,hE,YN⟩:=aW.get f1 Oo;obtain⟨⟨p,on⟩,hp⟩:∃y,mc[j]=y:=⟨_,rfl⟩;rw[hp]at hE;have Xh:mc.drop j=(p,on)::mc.drop (j+1):=by rw[List.drop_eq_getElem_cons Oo,hp]
   rw[Xh]at Xm sM;obtain⟨xv,rfl,N9⟩:=hE;obtain⟨⟨nD,htp⟩,hjn,hjc,ko⟩:=sM;simp only[htp,Option.getD_some]at hjn hjc ko;have Xm:jy Tb (mc.drop (j+1)) (j+1) (gT (QO Tb on rows j ((Tb p).getD []).length) (rows.length*((Tb p).getD []).length) 0 [])=R:=Xm;simp only[htp,Option.getD_some]at Xm;have OQ:=CL.ext kk;have nk:=kk.next;have km:=(vn.ok (s:=(p,on)) ⟨xv,rfl,N9⟩).1.2;obtain⟨M1,M2,a1,a2,a3,ka,na⟩:=kY OQ.gd [.pointer none,.nilIface] [vP p 0,xv] rfl (by
    rw[aE];intro y hy;exact km y (by simpa[ae.cells]using hy))
   have alk:=OQ.ext ka;have D2:=DM.aU ka;obtain⟨M3,cs3,bo3,al3,rl3,a4,k3,D3⟩:=alM (K:=K) (B:=B) (BT:=BT) (Tb:=Tb) (i:=j) (tp:=p) (on:=on) hK alk D2 aj htp (f4.ext ka fun _ _ h=>h) (iJ.ext N9 ka fun _ _ h=>h) (VL aj) hjc hjn;have l1:fg 2 ps (0+j*2) M=some (.agg #[vP p 0,xv],M):=bY (vs:=[vP p 0,xv]) ob (by rw[Nat.zero_add];simpa[ae.cells]using hu) aj;have l2:fg 2 M.next 0 M2=some (.agg #[vP p 0,xv],M2):=bY (vs:=[vP p 0,xv]) a3 rfl (af rfl);rw[ag7]at hg;obtain⟨t2,gm,gA⟩:=bL (K:=K) (m:=M) (m':=M3) NL (afp d b2 ps mc.length pc j M.next p xv) hg (.cond (P3 Oo)<| .idx rfl Oo<| .mem l1<| .mem a1<| .mem a2<| .mem l2<| .call a4<| .cond rfl .nil);have n3:=k3.next;refine⟨t2,M3,gm,by rw[gA,add1 aj,<-ag7],(kk.aS ka).trans k3 fun b hb h=>h.elim id fun h=>by have :=h.1;omega,_,cs3,bo3,al3,rl3,D3.mono fun b h=>?_,Xm,ko⟩;rcases h with(h|h)|h
   ·exact .inl h
   ·exact .inr ⟨h.1,by have :=h.2;omega⟩
   ·exact .inr ⟨by have :=h.1;omega,h.2⟩)
  (by
   rintro tm M ⟨hg,kk,rows,cs,bo,al,rl,DM,Xm,sM⟩;rw[List.drop_length]at Xm;have Xm:rows=R:=Xm;rw[wB]at hg;obtain⟨t2,gm,gA⟩:=bL (K:=K) (m:=M) (m':=M) NL (afo d b2 mc.length sc mc.length sa) hg (.cond (Yg _) .nil);exact⟨_,t2,M,nU,gm,rfl,gA,kk,cs,bo,al,rl,Xm▸DM⟩)
  (tm:=t0) (m:=m5) ⟨e0,k5,_,_,_,_,_,D5,hR.symm,hj⟩ aj
 have nM:=kM.next;have OQ:=CL.ext kM;obtain⟨f1,f2,f3,f4,f5⟩:=xM kM;have acL:∃M2 cs bo al rl,Ev K 201 [vP d 0,wv] M (vI 0) M2/\Kp M M2 (fun b=>SX b\/jS m1 M b)/\dg M2 d (fun b=>SX b\/jS m1 M2 b) (jj Tb wh R) cs bo al bm am rl:=by
  cases wh with
  |none=>
   have f2:wv= .nilIface:=f2;subst f2;obtain⟨M2,a1,a2⟩:=aip (K:=K) (d:=d) OQ.gd;have :=a2.next;exact⟨M2,_,_,_,_,a1,a2.vF,(DM.aU a2).mono fun b h=>h.imp id fun h=>⟨h.1,by have :=h.2;omega⟩⟩
  |some x=>
   obtain⟨M2,Rl,bo2,al2,rl2,a1,a2,D2⟩:=alL (K:=K) (B:=B) (BT:=BT) (Tb:=Tb) hK OQ DM f4 f2 (VL aj) (hwo cY) hwl;have :=a2.next;refine⟨M2,Rl,bo2,al2,rl2,a1,a2,D2.mono fun b h=>?_⟩;rcases h with(h|h)|h
   ·exact .inl h
   ·exact .inr ⟨h.1,by have :=h.2;omega⟩
   ·exact .inr ⟨by have :=h.1;omega,h.2⟩
 obtain⟨M2,Rl,bo2,al2,rl2,a1,k2,D2⟩:=acL;have I3:Kp m1 M2 SX:=kM.trans k2 fun b hb h=>h.elim id fun h=>by have :=h.1;omega
 have Ws:=CL.ext I3;obtain⟨g1,g2,g3,g4,g5⟩:=xM I3;have n12:=I3.next;obtain⟨rv,M3,cs3,bm3,am3,a3,k3,D3,q3,q4⟩:=aio (K:=K) (B:=B) (BT:=BT) (Tb:=Tb) hK Ws D2 g4 g3 (VL aj) ep hl aj;obtain⟨ra,rc,Xe⟩:=aW.form D2.rws;have n3:=k3.next;obtain⟨t2,h2,e2⟩:=cj (K:=K) (m:=M) (m':=M3) (afn d b2 (jj Tb wh R).length rc ra wv iv rv 0) hg (.mem (aO f5 rfl)<| .call a1<| .cond rfl<| .mem (aO D2.ob (by rw[D2.all,Xe]))<| .cond (dF (Ku (j:=1000)))<| .mem (aO g5 rfl)<| .call a3 .nil);refine⟨rv,M3,_,cs3,bo2,al2,bm3,am3,rl2,fW agJ (aQ.cut w0 (aQ.xp Yj Ym hx rfl (aQ.last h2 PO))) (.inr rfl) e2,?_,D3.mono fun b h=>?_,(aW bS 1).mono q3 fun b hb=>⟨by have :=hb.1;omega,hb.2⟩,q4⟩
 ·exact k1.vF.trans (I3.trans k3 fun b hb h=>h.elim id fun h=>by have :=h.1;omega) fun b _ h=>(uM b h).1
 ·rcases h with(h|h)|h
  ·exact .inl (uM b h).1
  ·exact .inr ⟨by have :=h.1;omega,by have :=h.2;omega⟩
  ·exact .inr ⟨by have :=h.1;omega,h.2⟩
end
end Go.AM
namespace Go.AM
set_option maxRecDepth 1000000
open Go Go.Conc Go.Proofs
noncomputable def Ia(l:List (List V)):List (List V):=l.mergeSort fun x y=>decide (cC x y<=0)
theorem Qx {x y z:List V}(h1:cC x y<=0)(h2:cC y z<=0):cC x z<=0:=by
 rcases Int.lt_or_eq_of_le h1 with a|a
 ·rcases Int.lt_or_eq_of_le h2 with b|b
  ·exact Int.le_of_lt (uQ.trans a b)
  ·rw[<-rH.1 b];exact h1
 ·rw[rH.1 a];exact h2
theorem By (l:List (List V)):(Ia l).Perm l/\(Ia l).Pairwise fun x y=>cC x y<=0:=by
 refine⟨List.mergeSort_perm _ _,?_⟩;have :=List.pairwise_mergeSort (le:=fun x y=>decide (cC x y<=0)) (by simpa using fun a b c h1 h2=>Qx h1 h2) (by
  intro a b;rw[Bool.or_eq_true,jE,jE];rcases Int.lt_or_le 0 (cC a b)with h|h
  ·exact .inr (Int.le_of_lt (uQ.Ka h))
  ·exact .inl h) l
 exact this.imp fun h=>by simpa using h
abbrev sw:=List (Nat×Option X)×Option X×List X
noncomputable def eW(Tb:Nat->Option (List (List V)))(s:sw):List (List V):=xB Tb s.2.2 (jj Tb s.2.1 (jy Tb s.1 0 [eO]))
structure pQ (Tb:Nat->Option (List (List V)))(s:sw):Prop where
 src:s.1.length<=6
 join:GJ Tb s.1 0 [eO]
 jl:(jy Tb s.1 0 [eO]).length<9000
 wh:s.2.1≠none->∀r∈jy Tb s.1 0 [eO],IE Tb s.2.1 r
 max:(jj Tb s.2.1 (jy Tb s.1 0 [eO])).length<=1000
 rM:∀r∈jj Tb s.2.1 (jy Tb s.1 0 [eO]),(∀x∈s.2.2,okX (rF Tb r) x)/\(sU (rF Tb r) s.2.2 []).2=0
 il:s.2.2.length<9000
def uf:nB sw where
 R B s m v:=∃sv wv iv,v= .agg #[sv,wv,iv]/\(aW vn 2).R B s.1 m sv/\iJ.R B s.2.1 m wv/\(aW sX 1).R B s.2.2 m iv
 mono:=by
  rintro B B' x m v ⟨sv,wv,iv,e,h1,h2,h3⟩ k;exact⟨sv,wv,iv,e,(aW vn 2).mono h1 k,iJ.mono h2 k,(aW sX 1).mono h3 k⟩
 ext:=by
  rintro B S x m m' v ⟨sv,wv,iv,e,h1,h2,h3⟩ k hs;exact⟨sv,wv,iv,e,(aW vn 2).ext h1 k hs,iJ.ext h2 k hs,(aW sX 1).ext h3 k hs⟩
section
variable {α:Type}{E:nB α}{sz t n len b:Nat}{m0 m m1:Mem}{acc ys:List α}{sv v x:ae}{S BO BE ZN B':Nat->Prop}
theorem mz.QA(h:mz E sz BO BE m acc sv)(g:Gd m)(ht:sZ.contains (t,sz)=true)(q:∃cs,kr m sz ys.length v=some cs/\B4 v=some ys.length/\cp (fun x u=>E.R B' x m u/\okV sz u) ys cs)(hd:∀b,BO b->¬B' b)(Jr:∀b,BE b->b<m.next)(Js:∀b,B' b->b<m.next)(hl:acc.length+ys.length<2^30):
  ∃s' m',cJ ab #[t,t] sv v m=some (s',m')/\Kp m m' BO/\mz E sz (fun y=>y=m.next) (fun y=>BE y\/B' y) m' (acc++ys) s'/\(aW E sz).R (fun y=>y=m.next\/BE y\/B' y) (acc++ys) m' s':=by
 obtain⟨Rl,h1,h2,h3⟩:=q;have me:¬(BE m.next\/B' m.next):=fun h=>by
  rcases h with h|h
  ·have :=Jr _ h;omega
  ·have :=Js _ h;omega
 rcases h with⟨rfl,rfl⟩|⟨b,cs,rest,rfl,hb,hw,ob,ik⟩
 ·by_cases hy:ys.length=0
  ·obtain rfl:=List.length_eq_zero_iff.1 hy;have hc0:Rl=[]:=h3;subst hc0;exact⟨_,m,J8 ht h1 h2,.refl _ _,.inl ⟨rfl,rfl⟩,aW.nil⟩
  ·obtain⟨m',e,o,k,n⟩:=J9 g ht h1 h2 h3.one.1 h3.one.2 hy aj;have hc:cp (fun x u=>E.R (fun y=>BE y\/B' y) x m' u/\okV sz u) ys Rl:=h3.mono fun x u _ w=>⟨E.mono (E.ext w.1 k fun _ _ h=>h) fun y hy=> .inr hy,w.2⟩
   exact⟨_,m',e,k.vF,.inr ⟨m.next,Rl,[],cY,⟨rfl,me⟩,g.own k (ai _),by rw[List.append_nil];exact o,hc⟩,Rl,o.sl hc.one.1 (.inl rfl),fun b' o' n' c' e=>(by cases e;exact .inl rfl),hc.mono fun x u _ w=>⟨E.mono w.1 fun y hy=> .inr hy,w.2⟩⟩
 ·obtain⟨m',e,o,k,n⟩:=Da (len:=acc.length) g ht ob ik.one.1 hw h1 h2 h3.one.1 h3.one.2 aj;have hc:cp (fun x u=>E.R (fun y=>BE y\/B' y) x m' u/\okV sz u) (acc++ys) (cs++Rl):=cp.append (ik.mono fun x u _ w=>⟨E.mono (E.ext w.1 k fun y hy e=>hb.2 (e▸hy)) fun y hy=> .inl hy,w.2⟩)
   (h3.mono fun x u _ w=>⟨E.mono (E.ext w.1 k fun y hy e=>hd b hb.1 (e▸hy)) fun y hy=> .inr hy,w.2⟩)
  exact⟨_,m',e,k.mono fun y _ e=>by rw[e];exact hb.1,.inr ⟨m.next,cs++Rl,[],cY,⟨rfl,me⟩,g.own k (ai _),by rw[List.append_nil];exact o,hc⟩,cs++Rl,by rw[<-List.length_append]at*;exact o.sl hc.one.1 (.inl rfl),fun b' o' n' c' e=>(by cases e;exact .inl rfl),hc.mono fun x u _ w=>⟨E.mono w.1 fun y hy=> .inr hy,w.2⟩⟩
end
theorem agB:Path 150 [kB]
 [lN]
 kB:=fu
section
variable {K:gI}{m:Mem}
theorem aiu (g:Gd m){B:Nat->Prop}{l:List (List V)}{v:ae}(q:(aW bS 1).R B l m v)(h0:l=[]->v= .slice none 0 0)(hB:∀b,B b->b<m.next)(hl:l.length<=2^30):
  ∃sv m',Ev K 150 [v] m sv m'/\Kp m m' eQ/\mz bS 1 (jS m m') B m' l sv/\(aW bS 1).R (fun y=>jS m m' y\/B y) l m' sv:=by
 by_cases hn:l=[]
 ·subst hn;rw[h0 rfl];exact⟨_,m,aJ agB (.cond rfl .nil),.refl _ _,.inl ⟨rfl,rfl⟩,aW.nil⟩
 ·obtain⟨gL,h1,h2,h3⟩:=q;obtain⟨_,⟨e,ec⟩|⟨p,cc,rfl,ob,hc⟩⟩:=id h1
  ·have :=h3.one.1;rw[ec]at this;exact absurd (List.length_eq_zero_iff.1 (by simp at this;omega)) hn
  obtain⟨o1,k1,n1⟩:=gB g (k:={kind:=1,sz:=1,cs:=[]}) (cs:=[]) (sz:=1) rfl rfl rfl;have e1:=adO (m:=m);generalize m.alloc {kind:=1,sz:=1,cs:=[]}=m1 at o1 k1 n1 e1;have hp:l.length≠0:=fun h=>hn (List.length_eq_zero_iff.1 h)
  obtain⟨m2,e2,o2,k2,n2⟩:=J' (len:=0) (g.ext k1) (t:=29) rfl o1 rfl hp (h1.aU k1) h3.one.2 aj;rw[Nat.zero_add]at e2;have Mh:cp (fun x u=>bS.R B x m2 u/\okV 1 u) l gL:=h3.mono fun x u _ w=>⟨bS.ext w.1 (k1.aS k2) fun _ _ h=>h,w.2⟩
  refine⟨_,m2,aJ (ajS p l.length cc _ m.next) (.cond rfl<| .mem e1<| .mem e2 .nil),k1.aS k2,.inr ⟨m1.next,gL,[],rfl,⟨⟨aj,aj⟩,fun h=>by have :=hB _ h;omega⟩,(g.ext k1).own k2 (ai _),by simpa using o2,Mh⟩,gL,?_,fun b o n c e=>(by cases e;exact .inl ⟨aj,aj⟩),Mh.mono fun x u _ w=>⟨bS.mono w.1 fun _ h=> .inr h,w.2⟩⟩;exact Obj.sl (by simpa using o2) (by simpa using h3.one.1) (.inl rfl)
end
def Am (d:Nat)(bo bm:Nat->Option Nat)(al am:Option Nat)(b:Nat):Prop:=b=d\/(∃j,bo j=some b)\/al=some b\/(∃j,bm j=some b)\/am=some b
theorem dg.exact{m:Mem}{d:Nat}{SB:Nat->Prop}{rows:List (List Nat)}{cs:List ae}{bo bm:Nat->Option Nat}{al am:Option Nat}{rl:ae}(D:dg m d SB rows cs bo al bm am rl):
  dg m d (Am d bo bm al am) rows cs bo al bm am rl/\(∀b,Am d bo bm al am b->SB b/\b<m.next/\((m.blk b).sz=0\/(m.blk b).sz=6\/(m.blk b).sz=1)):=by
 refine⟨{D with sd:= .inl rfl,sb:=fun{j b} h=>⟨?_,(D.sb h).2⟩},fun b h=>?_⟩
 ·rcases h with h|h|h|h
  ·exact .inr (.inl ⟨j,h⟩)
  ·exact .inr (.inr (.inl h))
  ·exact .inr (.inr (.inr (.inl ⟨j,h⟩)))
  ·exact .inr (.inr (.inr (.inr h)))
 ·rcases h with rfl|⟨j,h⟩|h|⟨j,h⟩|h
  ·exact⟨D.sd,D.ob.lt,.inl D.ob.sz⟩
  ·exact⟨(D.sb (.inl h)).1,(D.sb (.inl h)).2,.inr (.inl (D.br.Na (.inl ⟨j,h⟩)).1)⟩
  ·exact⟨(D.sb (j:=0) (.inr (.inl h))).1,(D.sb (j:=0) (.inr (.inl h))).2,.inr (.inl (D.br.Na (.inr h)).1)⟩
  ·exact⟨(D.sb (.inr (.inr (.inl h)))).1,(D.sb (.inr (.inr (.inl h)))).2,.inr (.inr (D.bw.Na (.inl ⟨j,h⟩)).1)⟩
  ·exact⟨(D.sb (j:=0) (.inr (.inr (.inr h)))).1,(D.sb (j:=0) (.inr (.inr (.inr h)))).2,.inr (.inr (D.bw.Na (.inr h)).1)⟩
theorem bS.sz4{B:Nat->Prop}{x:List V}{m:Mem}{v:ae}(h:bS.R B x m v):bS.R (fun b=>B b/\(m.blk b).sz=4) x m v:=by
 obtain⟨b,c,e,hb,o,hc⟩:=h;exact⟨b,c,e,⟨hb,o.sz⟩,o,hc⟩
end Go.AM
namespace Go.AM
set_option maxRecDepth 1000000
open Go Go.Conc Go.Proofs
theorem afy (d un uc:Nat)(ua:Option Addr)(a w b rv sv:ae)(bW:Nat):eS 115 0 6 [0,1] [.agg #[a,w,b,.slice ua un uc],vP d 0]
 [dZ [some a,some w,some b,some (.slice ua un uc)] bW,
  iO 3 bW (.agg #[a,w,b]),
  .call 149 [.agg #[a,w,b],vP d 0] (.tuple #[rv,vI 0]),
  dH,
  .call 150 [rv] sv,
  .mem (aT bW 3) (.slice ua un uc)]
 .normal [1,8,26,27,28] [vP d 0,sv,.slice ua un uc,vI un,vI 0]:=iD
theorem kN.ext{m m':Mem}{d q sz:Nat}{cs:List ae}{bo:Nat->Option Nat}{al:Option Nat}{S:Nat->Prop}(h:kN m d q sz cs bo al)(k:Kp m m' S)(hS:∀b,(∃j,bo j=some b)\/al=some b->¬S b):kN m' d q sz cs bo al:=by
 refine⟨h.len,fun j hj=>?_,h.hi,h.inj,fun hb=>by rw[k.base];exact h.ne hb,?_,fun hp=>by rw[k.base];exact h.HN hp⟩
 ·obtain⟨sv,h1,h2⟩:=h.sh j hj;exact⟨sv,h1,h2.ext k.W2 fun b hb=>hS b (.inl ⟨j,hb⟩)⟩
 ·obtain⟨sv,h1,h2⟩:=h.all;exact⟨sv,h1,h2.ext k.W2 fun b hb=>hS b (.inr hb)⟩
theorem dg.ext{m m':Mem}{d:Nat}{SB S:Nat->Prop}{rows:List (List Nat)}{cs:List ae}{bo bm:Nat->Option Nat}{al am:Option Nat}{rl:ae}(h:dg m d SB rows cs bo al bm am rl)(k:Kp m m' S)(hS:∀b,SB b->¬S b):dg m' d SB rows cs bo al bm am rl:=
 ⟨h.ob.ext k (hS d h.sd),h.len,by rw[k.base];exact h.bd,h.br.ext k fun b hb=>hS b (hb.elim (fun⟨j,e⟩=>(h.sb (.inl e)).1) fun e=>(h.sb (j:=0) (.inr (.inl e))).1),h.bw.ext k fun b hb=>hS b (hb.elim (fun⟨j,e⟩=>(h.sb (.inr (.inr (.inl e)))).1) fun e=>(h.sb (j:=0) (.inr (.inr (.inr e)))).1),h.all,(aW sY 6).ext h.rws k fun b e=>hS b (h.sb (j:=0) (.inr (.inl e))).1,h.sd,fun hb=>⟨(h.sb hb).1,by have :=(h.sb hb).2;have :=k.next;omega⟩⟩
theorem mz.NQ{BO BE Kh:Nat->Prop}{m:Mem}{acc:List (List V)}{sv:ae}(h:mz bS 1 BO BE m acc sv)(k:∀b,BE b->(m.blk b).sz=4->Kh b)(n:∀b,BO b->¬Kh b):mz bS 1 BO Kh m acc sv:=by
 rcases h with h|⟨b,cs,rest,e,hb,hw,ob,ik⟩
 ·exact .inl h
 ·exact .inr ⟨b,cs,rest,e,⟨hb.1,n b hb.1⟩,hw,ob,ik.mono fun x u _ w=>⟨bS.mono (bS.sz4 w.1) fun b hb=>k b hb.1 hb.2,w.2⟩⟩
theorem mz.lt{α:Type}{E:nB α}{sz:Nat}{BO BE:Nat->Prop}{m:Mem}{acc:List α}{sv:ae}(h:mz E sz BO BE m acc sv):mz E sz (fun y=>BO y/\y<m.next) BE m acc sv:=by
 rcases h with h|⟨b,cs,rest,e,hb,hw,ob,ik⟩
 ·exact .inl h
 ·exact .inr ⟨b,cs,rest,e,⟨⟨hb.1,ob.lt⟩,hb.2⟩,hw,ob,ik⟩
end Go.AM
namespace Go.AM
set_option maxRecDepth 1000000
open Go Go.Conc Go.Proofs
def OI:nB (Bool×sw) where
 R B u m v:=∃sv wv iv,v= .agg #[.bool u.1,sv,wv,iv]/\uf.R B u.2 m (.agg #[sv,wv,iv])
 mono:=by
  rintro B B' x m v ⟨sv,wv,iv,e,h⟩ k;exact⟨sv,wv,iv,e,uf.mono h k⟩
 ext:=by
  rintro B S x m m' v ⟨sv,wv,iv,e,h⟩ k hs;exact⟨sv,wv,iv,e,uf.ext h k hs⟩
abbrev WN:=sw×List (Bool×sw)
def pJ:nB WN where
 R B b m v:=∃sv wv iv uv,v= .agg #[sv,wv,iv,uv]/\uf.R B b.1 m (.agg #[sv,wv,iv])/\(aW OI 4).R B b.2 m uv
 mono:=by
  rintro B B' x m v ⟨sv,wv,iv,uv,e,h,q⟩ k;exact⟨sv,wv,iv,uv,e,uf.mono h k,(aW OI 4).mono q k⟩
 ext:=by
  rintro B S x m m' v ⟨sv,wv,iv,uv,e,h,q⟩ k hs;exact⟨sv,wv,iv,uv,e,uf.ext h k hs,(aW OI 4).ext q k hs⟩
end Go.AM
namespace Go.AM
set_option maxRecDepth 1000000
open Go Go.Conc Go.Proofs
theorem ajj (b1 b2 d n rc cn cc:Nat)(ca qa:Option Addr)(a w b u:ae)(bW:Nat):eS 76 4 10 [1,2,4] [vP b1 0,vP b2 0,vP d 0]
 [.mem (fg 4 b1 2) (.agg #[a,w,b,u]),
  .call 115 [.agg #[a,w,b,u],vP d 0] (.tuple #[.slice qa n rc,vI 0]),
  dH,
  .call 116 [.slice qa n rc,fR] (.tuple #[]),
  dZ [some kB,some kB,some kB,some (vI 0)] bW,
  jQ bW 0 [kB,kB,.slice qa n rc,vI 0],
  .mem (aT b1 1) (.slice ca cn cc)]
 .normal [2,10,46,47,48] [vP b2 0,vP bW 0,.slice ca cn cc,vI cn,vI 0]:=iD
def HB (B:Nat->Prop)(fG:List AK)(rows:List (List V))(n:Int)(m:Mem)(v:ae):Prop:=∃nv kv rv,v= .agg #[nv,kv,rv,vI n]/\aaC.R B (fG.map (·.n)) m nv/\aaD.R B (fG.map (·.k)) m kv/\∃BO BE:Nat->Prop,mz bS 1 BO BE m rows rv/\∀b,BO b\/BE b->B b
theorem HB.ext{B S:Nat->Prop}{fG:List AK}{rows:List (List V)}{n:Int}{m m':Mem}{v:ae}(h:HB B fG rows n m v)(k:Kp m m' S)(hs:∀b,B b->¬S b):HB B fG rows n m' v:=by
 obtain⟨nv,kv,p,e,h1,h2,BO,BE,h3,h4⟩:=h;exact⟨nv,kv,p,e,(aW (ku Bo) 1).ext h1 k hs,(aW (ku vI) 1).ext h2 k hs,BO,BE,h3.ext k fun b hb=>hs b (h4 b hb),h4⟩
theorem HB.mono{B B':Nat->Prop}{fG:List AK}{rows:List (List V)}{n:Int}{m:Mem}{v:ae}(h:HB B fG rows n m v)(k:∀b,B b->B' b):HB B' fG rows n m v:=by
 obtain⟨nv,kv,p,e,h1,h2,BO,BE,h3,h4⟩:=h;exact⟨nv,kv,p,e,(aW (ku Bo) 1).mono h1 k,(aW (ku vI) 1).mono h2 k,BO,BE,h3,fun b hb=>k b (h4 b hb)⟩
theorem Mr {m:Mem}{d:Nat}(o:Obj m d 0 Wm)(hb:m.base<=d):dg m d (fun b=>b=d) [] Wm (fun _=>none) none (fun _=>none) none (.slice none 0 0):=by
 refine⟨o,rfl,hb,⟨af rfl,fun j hj=>⟨.slice none 0 0,?_,.inl ⟨rfl,rfl⟩⟩,fun _ _=>rfl,nU,nU,⟨.slice none 0 0,rfl,.inl ⟨rfl,rfl⟩⟩,nU⟩,⟨af rfl,fun j hj=>⟨.slice none 0 0,?_,.inl ⟨rfl,rfl⟩⟩,fun _ _=>rfl,nU,nU,⟨.slice none 0 0,rfl,.inl ⟨rfl,rfl⟩⟩,nU⟩,rfl,⟨[],nm.nil,fun _ _ _ _ e=>(by cases e),rfl⟩,rfl,fun h=>by rcases h with h|h|h|h<;>cases h⟩
 ·obtain rfl|rfl|rfl|rfl:j=0\/j=1\/j=2\/j=3:=aj
  all_goals rfl
 ·obtain rfl|rfl|rfl|rfl:j=0\/j=1\/j=2\/j=3:=aj
  all_goals rfl
section
variable {K:gI}{m:Mem}{B BT:Nat->Prop}{Tb:Nat->Option (List (List V))}
theorem Sj (g:Gd m){BO BE:Nat->Prop}{l:List (List V)}{sv:ae}(h:mz bS 1 BO BE m l sv)(hn:l.length<65536)(hs:WR K l)(hl:∀x∈l,x.length<99999)(hB:∀b,BE b->b<m.next):
  ∃m',Ev K 116 [sv,fR] m (.tuple #[]) m'/\Kp m m' BO/\mz bS 1 BO BE m' (Ia l) sv:=by
 obtain⟨p1,p2⟩:=By l;rcases h with⟨rfl,rfl⟩|⟨b,cs,rest,rfl,⟨hb,Jo⟩,hw,ob,ik⟩
 ·exact⟨m,adM,.refl _ _,.inl ⟨List.perm_nil.1 p1,rfl⟩⟩
 ·obtain⟨d,m1,e1,k1,s1,Cf,Aa⟩:=aiv (K:=K) (cc:=fp) g ob Jo ik hw hn hs hl hB;have he:=Bx (Cf.trans p1.symm) Aa p2;exact⟨m1,e1,k1.mono fun y _ e=>by rw[e];exact hb,.inr ⟨b,d.toList.map (·.1),rest,by rw[p1.length_eq],⟨hb,Jo⟩,s1.ow,s1.ob,he▸RA fun x hx=>(s1.el x hx).1⟩⟩
end
end Go.AM
namespace Go.AM
set_option maxRecDepth 1000000
open Go Go.Conc Go.Proofs
def QZ (m:Mem)(db mp:Nat):Prop:=Obj m db 0 [.int .i32 0,.int .u32 0,.map (some mp)]/\m.base<=db
end Go.AM
namespace Go.AM
set_option maxRecDepth 1000000
open Go Go.Conc Go.Proofs
theorem IA {α β:Type}[Inhabited α]{f:α->β}{l:List α}:∀(n i:Nat) (acc:List β),i+n=l.length->gT (fun k=>[f (l[k]!)]) n i acc=acc++(l.drop i).map f
 |0,i,acc,h=>by
  unfold gT;rw[List.drop_of_length_le aj];simp
 |n+1,i,acc,h=>by
  unfold gT;rw[IA n (i+1) _ aj,List.drop_eq_getElem_cons (i:=i) aj,getElem!_pos l i aj,List.map_cons,List.append_assoc];rfl
end Go.AM
namespace Go.AM
set_option maxRecDepth 1000000
open Go Go.Conc Go.Proofs
def Lx (T:ByteArray)(i:Nat)(l:List UInt8):Prop:=i<=T.size/\(bl T).drop i=l
theorem Lx.size{T:ByteArray}{i:Nat}{l:List UInt8}(h:Lx T i l):T.size=i+l.length:=by
 have h1:=h.1;rw[<-h.2,List.length_drop,Hu];omega
theorem Lx.get{T:ByteArray}{i:Nat}{l:List UInt8}(h:Lx T i l)(j:Nat):(bl T)[i+j]?=l[j]?:=by rw[<-h.2,List.getElem?_drop]
theorem Lx.byte{T:ByteArray}{i:Nat}{c:UInt8}{l:List UInt8}(h:Lx T i (c::l)):cU T i=c.toNat:=zq (by have :=h.get 0;simpa using this)
theorem Lx.app{T:ByteArray}{i:Nat}{w l:List UInt8}(h:Lx T i (w++l)):Lx T (i+w.length) l:=by
 have hs:=h.size;refine⟨by simp at hs;omega,?_⟩;rw[<-List.drop_drop,h.2,List.drop_left]
theorem Lx.next{T:ByteArray}{i:Nat}{c:UInt8}{l:List UInt8}(h:Lx T i (c::l)):Lx T (i+1) l:=Lx.app (w:=[c]) h
theorem Lx.ext{T:ByteArray}{i:Nat}{w l:List UInt8}(h:Lx T i (w++l)):T.extract i (i+w.length)=⟨w.toArray⟩:=by
 have h2:=h.2;apply ByteArray.ext;rw[ByteArray.data_extract];apply Array.toList_inj.1;rw[Array.toList_extract,List.extract_eq_take_drop]
 show((bl T).drop i).take (i+w.length-i)=w
 rw[h2,Nat.add_sub_cancel_left,List.take_left]
theorem Sq {p:Nat->Bool}{T:ByteArray}:∀{w l:List UInt8}{i k:Nat},Lx T i (w++l)->(∀c∈w,p c.toNat=true)->(∀c∈l.head?,p c.toNat=false)->k=w.length+l.length->vC p T k i=i+w.length
 | [],[],i,k,h,_,_,hk=>by subst hk;rfl
 | [],c::l,i,k,h,_,h2,hk=>by
  obtain⟨k,rfl⟩:∃j,k=j+1:=⟨k-1,by simp at hk;omega⟩;unfold vC;rw[h.byte,h2 c cY,bZ cY];rfl
 |c::w,l,i,k,h,h1,h2,hk=>by
  obtain⟨k,rfl⟩:∃j,k=j+1:=⟨k-1,by simp at hk;omega⟩;unfold vC;have hb:cU T i=c.toNat:=Lx.byte (l:=w++l) h;rw[hb,h1 c (List.mem_cons_self ..),bK rfl,Sq (w:=w) (l:=l) (i:=i+1) (k:=k) (Lx.next (l:=w++l) h) (fun c hc=>h1 c (List.mem_cons_of_mem _ hc)) h2 (by simp at hk;omega)];simp;omega
theorem Ii {p:Nat->Bool}{T:ByteArray}{w l:List UInt8}{i:Nat}(h:Lx T i (w++l))(h1:∀c∈w,p c.toNat=true)(h2:∀c∈l.head?,p c.toNat=false):kj p T i=i+w.length:=
 Sq h h1 h2 (by have :=h.size;simp at this;omega)
theorem XL {T:ByteArray}{z:Nat}{bs l:List UInt8}(h:Lx T z (bs++l))(hb:∀c∈bs,B8 c.toNat=true)(hl:∀c∈l.head?,B8 c.toNat=false):kj B8 T (min z T.size)=z+bs.length/\Lx T (z+bs.length) l:=by
 have h1:=h.1;rw[Nat.min_eq_left h1];exact⟨Ii h hb hl,h.app⟩
def lr:List UInt8->Nat->Nat
 | [],a=>a
 |c::l,a=>lr l (a*10+(c.toNat-48))
theorem Ft (l:List UInt8):∀i,i<=l.length->ju ⟨l.toArray⟩ i=lr (l.take i) 0
 |0,_=>by simp[ju,lr]
 |i+1,h=>by
  have hs:∀(a:List UInt8) (c:UInt8) (x:Nat),lr (a++[c]) x=lr a x*10+(c.toNat-48):=by
   intro a
   induction a with
   |nil=>intro c x;rfl
   |cons b a ih=>intro c x;exact ih c _
  have cA:i<l.length:=aj;rw[Fu,Ft l i aj,List.take_add_one,List.getElem?_eq_getElem cA]
  show _=lr (l.take i++[l[i]]) 0
  rw[hs];have :cU ⟨l.toArray⟩ i=l[i].toNat:=zq (by simp[List.getElem?_eq_getElem cA]);rw[this]
end Go.AM
namespace Go.AM
set_option maxRecDepth 1000000
open Go Go.Conc Go.Proofs
def g8 (n:Nat):List UInt8:=if h:n<10 then[UInt8.ofNat (48+n)]else g8 (n / 10)++[UInt8.ofNat (48+n%10)]
 termination_by n
 decreasing_by omega
theorem qB {n:Nat}(h:n<10):g8 n=[UInt8.ofNat (48+n)]:=by rw[g8,dif_pos h]
theorem qC {n:Nat}(h:¬n<10):g8 n=g8 (n / 10)++[UInt8.ofNat (48+n%10)]:=by rw[g8,dif_neg h]
theorem Zh {k:Nat}(h:k<10):(UInt8.ofNat (48+k)).toNat=48+k:=by
 rw[UInt8.toNat_ofNat'];omega
theorem Wl {k:Nat}(h:k<10):pY (UInt8.ofNat (48+k)).toNat=true:=by rw[Zh h];exact tQ.2 aj
theorem OK (n:Nat):∀c∈g8 n,pY c.toNat=true:=by
 induction n using Nat.strongRecOn with
 |ind n ih=>
  intro c hc
  by_cases h:n<10
  ·rw[qB h]at hc;have :c=UInt8.ofNat (48+n):=by simpa using hc
   rw[this];exact Wl h
  ·rw[qC h]at hc;rcases List.mem_append.1 hc with hc|hc
   ·exact ih (n / 10) aj c hc
   ·have :c=UInt8.ofNat (48+n%10):=by simpa using hc
    rw[this];exact Wl aj
theorem Hd (n:Nat):g8 n≠[]:=by
 by_cases h:n<10
 ·rw[qB h];simp
 ·rw[qC h];simp
theorem Wn (l:List UInt8)(c:UInt8):∀a,lr (l++[c]) a=lr l a*10+(c.toNat-48):=by
 induction l with
 |nil=>intro a;rfl
 |cons b l ih=>intro a;exact ih _
theorem rE (n:Nat):lr (g8 n) 0=n:=by
 induction n using Nat.strongRecOn with
 |ind n ih=>
  by_cases h:n<10
  ·rw[qB h]
   show 0*10+((UInt8.ofNat (48+n)).toNat-48)=n
   rw[Zh h];omega
  ·rw[qC h,Wn,ih (n / 10) aj,Zh aj];omega
end Go.AM
namespace Go.AM
set_option maxRecDepth 1000000
open Go Go.Conc Go.Proofs
theorem agQ (a:Int):pu ab [vI a] (Op.unary .neg (vI a))=some (vI (bX.i64.wrap (-a))):=by
 have h:(Op.unary .neg (vI a)).aI ab=some (vI (bX.i64.wrap (0-a))):=rfl;rw[Int.zero_sub]at h;exact w8 rfl h rfl
end Go.AM
namespace Go.AM
set_option maxRecDepth 1000000
open Go Go.Conc Go.Proofs
theorem Zs:pu ab [vI 48] (convert 3 5 (vI 48))=some (.int .u8 48):=bG
theorem Zr:pu ab [vI 49] (convert 3 5 (vI 49))=some (.int .u8 49):=bG
theorem Zq:pu ab [vI 50] (convert 3 5 (vI 50))=some (.int .u8 50):=bG
theorem Zp:pu ab [vI 51] (convert 3 5 (vI 51))=some (.int .u8 51):=bG
theorem Zo:pu ab [vI 52] (convert 3 5 (vI 52))=some (.int .u8 52):=bG
theorem Zn:pu ab [vI 53] (convert 3 5 (vI 53))=some (.int .u8 53):=bG
theorem Zm:pu ab [vI 54] (convert 3 5 (vI 54))=some (.int .u8 54):=bG
theorem Zl:pu ab [vI 55] (convert 3 5 (vI 55))=some (.int .u8 55):=bG
theorem Zk:pu ab [vI 56] (convert 3 5 (vI 56))=some (.int .u8 56):=bG
theorem Zj:pu ab [vI 57] (convert 3 5 (vI 57))=some (.int .u8 57):=bG
theorem ah6 {k:Nat}(hk:k<10):pu ab [vI (48+k:Nat)] (convert 3 5 (vI (48+k:Nat)))=some (.int .u8 (48+k:Nat)):=by
 have h:k=0\/k=1\/k=2\/k=3\/k=4\/k=5\/k=6\/k=7\/k=8\/k=9:=aj;rcases h with rfl|rfl|rfl|rfl|rfl|rfl|rfl|rfl|rfl|rfl
 ·exact Zs
 ·exact Zr
 ·exact Zq
 ·exact Zp
 ·exact Zo
 ·exact Zn
 ·exact Zm
 ·exact Zl
 ·exact Zk
 ·exact Zj
theorem alV {m:Mem}(x:Int):bI ab 72 1 [(0,.int .u8 x)] m=some (vL m.next 0 1 1,m.alloc {kind:=1,sz:=1,cs:=[some (.int .u8 x)]}):=bG
theorem MK (l r:List UInt8):(⟨l.toArray⟩++⟨r.toArray⟩:ByteArray)=⟨(l++r).toArray⟩:=by
 apply ByteArray.ext;rw[ByteArray.data_append];simp
theorem qS {l r:List UInt8}(h:l.length+r.length<9223372036854775808):uj ⟨l.toArray⟩ ⟨r.toArray⟩=some (.string ⟨(l++r).toArray⟩):=by
 unfold uj;have e1:(⟨l.toArray⟩:ByteArray).size=l.length:=by show l.toArray.size=_;simp
 have e2:(⟨r.toArray⟩:ByteArray).size=r.length:=by show r.toArray.size=_;simp
 rw[e1,e2];have :Nat.blt (l.length+r.length) 9223372036854775808=true:=Nat.ble_eq_true_of_le aj;rw[this,MK]
theorem xR:∀(k n:Nat),n<10^(k+1)->(g8 n).length<=k+1
 |0,n,h=>by rw[qB (by simpa using h)];simp
 |k+1,n,h=>by
  by_cases h1:n<10
  ·rw[qB h1];simp
  ·rw[qC h1];have h2:n<10^(k+1)*10:=by rw[<-Nat.pow_succ];exact h
   have :=xR k (n / 10) aj;simp;omega
theorem pL {n:Nat}(h:n<9223372036854775808):(g8 n).length<=19:=xR 18 n (Nat.lt_trans h gC)
section
variable {K:gI}{m:Mem}
theorem ajM (n:Int)(x1:Int)(s1:ByteArray):Path 16 [vI n]
 [bu (eX n 0) true,
  .val (pu ab [vI n] (Op.unary .neg (vI n))) (vI x1),
  .call 16 [vI x1] (gq s1),
  .val (uj (⟨#[45]⟩) s1) (gq ((⟨#[45]⟩)++s1))]
 (gq ((⟨#[45]⟩)++s1)):=fu
theorem ajO (n:Int)(x1 x2:Int)(bW:Nat)(s1:ByteArray):Path 16 [vI n]
 [bu (eX n 0) false,
  .val (j0 Nat.mod .i64 n 10 (jC ab .rem 3 false true (vI n) (vI 10))) (vI x1),
  .val (pu ab [vI (eh 48 x1)] (convert 3 5 (vI (eh 48 x1)))) (.int .u8 x2),
  .mem (bI ab 72 1 [(0,(.int .u8 x2))]) (vL bW 0 1 1),
  .mem (eU ab 72 9 (vL bW 0 1 1)) (gq s1),
  bu (eX n 10) true]
 (gq s1):=fu
theorem ajN (n:Int)(x1 x2 x3:Int)(bW:Nat)(s1 s2:ByteArray):Path 16 [vI n]
 [bu (eX n 0) false,
  .val (j0 Nat.mod .i64 n 10 (jC ab .rem 3 false true (vI n) (vI 10))) (vI x1),
  .val (pu ab [vI (eh 48 x1)] (convert 3 5 (vI (eh 48 x1)))) (.int .u8 x2),
  .mem (bI ab 72 1 [(0,(.int .u8 x2))]) (vL bW 0 1 1),
  .mem (eU ab 72 9 (vL bW 0 1 1)) (gq s1),
  bu (eX n 10) false,
  .val (j0 Nat.div .i64 n 10 (jC ab .quo 3 false true (vI n) (vI 10))) (vI x3),
  .call 16 [vI x3] (gq s2),
  .val (uj s2 s1) (gq (s2++s1))]
 (gq (s2++s1)):=fu
theorem ah2 (cy:Bool)(a b:Int)(hb:b≠0):j0 Nat.mod .i64 a b (jC ab .rem 3 false cy (vI a) (vI b))=some (vI (PB a b)):=by
 cases cy with
 |false=>exact Wj a b hb
 |true=>rw[(abp false true a b hb).trans (abp false false a b hb).symm];exact Wj a b hb
theorem ah3 (cy:Bool)(a b:Int)(hb:b≠0):j0 Nat.div .i64 a b (jC ab .quo 3 false cy (vI a) (vI b))=some (vI (yH a b)):=by
 cases cy with
 |false=>exact Qo a b hb
 |true=>rw[(abu false true a b hb).trans (abu false false a b hb).symm];exact Qo a b hb
theorem SH {a:Nat}(b:Nat)(ha:a<9223372036854775808):yH a b=((a / b:Nat):Int):=by
 unfold yH;rw[show Int.tdiv a b=((a / b:Nat):Int)from rfl];have :=Nat.div_le_self a b;generalize a / b=q at this;exact oE ⟨aj,aj⟩
theorem c16 (n:Nat):∀{m:Mem},Gd m->n<9223372036854775808->∃m',Ev K 16 [vI n] m (.string ⟨(g8 n).toArray⟩) m'/\Kp m m' eQ:=by
 induction n using Nat.strongRecOn with
 |ind n ih=>
  intro m g hn;have b0:(.bool (eX n 0):ae)= .bool false:=by rw[eH,qV aj]
  have r1:j0 Nat.mod .i64 n 10 (jC ab .rem 3 false true (vI n) (vI 10))=some (vI (n%10:Nat)):=ah2 true n 10 gC;have hk:n%10<10:=Nat.mod_lt _ gC;have a1:eh 48 (n%10:Nat)=((48+n%10:Nat):Int):=by rw[j6 ⟨aj,aj⟩];omega
  have r2:pu ab [vI (eh 48 (n%10:Nat))] (convert 3 5 (vI (eh 48 (n%10:Nat))))=some (.int .u8 (48+n%10:Nat)):=by rw[a1];exact ah6 hk
  obtain⟨o1,k1,n1⟩:=gB g (k:={kind:=1,sz:=1,cs:=[some (.int .u8 (48+n%10:Nat))]}) (cs:=[.int .u8 (48+n%10:Nat)]) (sz:=1) rfl rfl rfl;have e1:=alV (m:=m) ((48+n%10:Nat):Int);generalize m.alloc {kind:=1,sz:=1,cs:=[some (.int .u8 (48+n%10:Nat))]}=m1 at o1 k1 n1 e1;have hb:([.int .u8 (48+n%10:Nat)]:List ae)=oy [UInt8.ofNat (48+n%10)]:=by
   show _=[ae.int .u8 ((UInt8.ofNat (48+n%10)).toNat:Int)]
   rw[Zh hk]
  rw[hb]at o1;have e2:eU ab 72 9 (vL m.next 0 1 1) m1=some (.string ⟨#[UInt8.ofNat (48+n%10)]⟩,m1):=RV (l:=[UInt8.ofNat (48+n%10)]) o1
  by_cases h:n<10
  ·have b1:(.bool (eX n 10):ae)= .bool true:=by rw[eH,vc aj]
   have hd:g8 n=[UInt8.ofNat (48+n%10)]:=by rw[qB h,Nat.mod_eq_of_lt h]
   rw[hd];exact⟨m1,aJ (ajO n ..) (.cond b0<| .val r1<| .val r2<| .mem e1<| .mem e2<| .cond b1 .nil),k1⟩
  ·have b1:(.bool (eX n 10):ae)= .bool false:=by rw[eH,qV aj]
   obtain⟨m2,e3,k2⟩:=ih (n / 10) aj (g.ext k1) aj;have r3:j0 Nat.div .i64 n 10 (jC ab .quo 3 false true (vI n) (vI 10))=some (vI (n / 10:Nat)):=by
    rw[ah3 true n 10 gC];have :=SH 10 hn;exact congrArg (fun x=>some (vI x)) this
   have r4:=qS (l:=g8 (n / 10)) (r:=[UInt8.ofNat (48+n%10)]) (by have :=pL (n:=n / 10) aj;simp;omega);rw[<-qC h]at r4;have G3:(⟨(g8 (n / 10)).toArray⟩++⟨#[UInt8.ofNat (48+n%10)]⟩:ByteArray)=⟨(g8 n).toArray⟩:=by
    rw[qC h];exact MK _ [UInt8.ofNat (48+n%10)]
   refine⟨m2,?_,k1.aS k2⟩;have :=aJ (K:=K) (ajN n (bW:=m.next) (s1:=⟨#[UInt8.ofNat (48+n%10)]⟩) (s2:=⟨(g8 (n / 10)).toArray⟩) ..) (.cond b0<| .val r1<| .val r2<| .mem e1<| .mem e2<| .cond b1<| .val r3<| .call e3<| .val (by rw[G3];exact r4) .nil);rwa[G3]at this
end
end Go.AM
namespace Go.AM
set_option maxRecDepth 1000000
open Go Go.Conc Go.Proofs
def Bf (s:Q0):sw:=(s.mc.map fun x=>(x.p,x.on),s.wh,s.rM)
def Rw (b:FH):WN:=(Bf b.first,b.us.map fun u=>(u.all,Bf u.sel))
theorem cp.map'{α β:Type}{f:α->β}{Q:α->ae->Prop}{Q':β->ae->Prop}(h:∀x v,Q x v->Q' (f x) v):∀{l:List α}{cs:List ae},cp Q l cs->cp Q' (l.map f) cs
 | [],cs,q=>q
 |x::l,cs,q=>by
  obtain⟨v,r,e,q1,q2⟩:=q;exact⟨v,r,e,h _ _ q1,cp.map' h q2⟩
theorem aW.map'{α β:Type}{E:nB α}{E':nB β}{f:α->β}{sz:Nat}{B:Nat->Prop}{m:Mem}(h:∀x v,E.R B x m v->E'.R B (f x) m v){l:List α}{v:ae}(q:(aW E sz).R B l m v):(aW E' sz).R B (l.map f) m v:=by
 obtain⟨cs,h1,h2,h3⟩:=q;exact⟨cs,by rw[List.length_map];exact h1,h2,h3.map' fun x v w=>⟨h x v w.1,w.2⟩⟩
theorem HR {B:Nat->Prop}{m:Mem}{s:Q0}{v:ae}(h:jZ.R B s m v):uf.R B (Bf s) m v:=by
 obtain⟨a,w,b,e,h1,h2,h3⟩:=h;exact⟨a,w,b,e,aW.map' (E:=Fl) (E':=vn) (fun x v ⟨o,e,h⟩=>⟨o,e,h⟩) h1,h2,h3⟩
theorem Eo {B:Nat->Prop}{m:Mem}{s:FH}{v:ae}(h:iK.R B s m v):pJ.R B (Rw s) m v:=by
 obtain⟨a,w,b,u,e,h1,h2⟩:=h;exact⟨a,w,b,u,e,HR h1,aW.map' (E:=Fj) (E':=OI) (fun x v ⟨a,w,b,e,h⟩=>⟨a,w,b,e,HR h⟩) h2⟩
theorem NA {α:Type}{st:Nat->List α}{f:Nat->α}:∀(n i:Nat) (acc:List α),(∀k,i<=k->k<i+n->st k=[f k])->gT st n i acc=acc++(List.range' i n).map f
 |0,i,acc,h=>by unfold gT;simp
 |n+1,i,acc,h=>by
  unfold gT;rw[NA n (i+1) _ (fun k h1 h2=>h k aj aj),h i aj aj,List.range'_succ,List.map_cons,List.append_assoc];rfl
section
variable {Tb:Nat->Option (List (List V))}{p:Nat}{ps:List (Nat×Nat)}
theorem EW {rows:List (List V)}(h:Tb p=some rows):jy Tb [(p,none)] 0 [eO]=(List.range rows.length).map fun k=>eO.set 0 k:=by
 unfold jy jy;rw[h];simp only[Option.getD_some,List.length_singleton,Nat.one_mul];rw[NA (f:=fun k=>eO.set 0 k) rows.length 0 [] (fun k _ hk=>?_),List.nil_append,List.range_eq_range'];unfold QO;rw[bK (by rfl),Nat.div_eq_of_lt aj,Nat.mod_eq_of_lt aj];rfl
theorem B7 {rM:List X}{R:List (List Nat)}:xB Tb rM R=R.map fun r=>(sU (rF Tb r) rM []).1:=by
 unfold xB;rw[show(fun k=>[(sU (rF Tb (R[k]!)) rM []).1])=fun k=>[(fun r=>(sU (rF Tb r) rM []).1) (R[k]!)]from rfl,IA (f:=fun r=>(sU (rF Tb r) rM []).1) R.length 0 [] aj];simp
end
section
variable {m:Mem}
theorem mz.row{BO BE:Nat->Prop}{l:List (List V)}{sv:ae}(h:mz bS 1 BO BE m l sv){j:Nat}(hj:j<l.length):
  ∃b bx c,sv=vL b 0 l.length fp/\(BO b/\BE bx)/\aT b j m=some (vL bx 0 l[j].length c,m)/\Obj m bx 4 (fD l[j]):=by
 rcases h with⟨rfl,rfl⟩|⟨b,cs,rest,rfl,hb,hw,ob,ik⟩
 ·simp at hj
 ·obtain⟨u,h1,h3,_⟩:=cp.get (Q:=fun x u=>bS.R BE x m u) (sz:=1) ik hj;obtain⟨bx,c,rfl,hbx,ox,_⟩:=h3;have e:cs[j]?=some (vL bx 0 l[j].length c):=by
   rw[Nat.mul_one]at h1;rw[show(vL bx 0 l[j].length c).cells.toList=[vL bx 0 l[j].length c]from rfl]at h1;have :=congrArg (·[0]?) h1;simpa using this
  refine⟨b,bx,c,rfl,⟨hb.1,hbx⟩,aO ob ?_,ox⟩;rw[List.getElem?_append_left (List.getElem?_eq_some_iff.1 e).1];exact e
end
end Go.AM
namespace Go.AM
set_option maxRecDepth 1000000
open Go Go.Conc Go.Proofs
def sh (lo b:Nat):Nat:=if b<12 then b else lo+(b-12)
theorem Ni {lo b:Nat}(h:12<=b):sh lo b=lo+(b-12):=bZ aj
def vr (lo:Nat)(L:List (Nat×dU))(m:Mem):Prop:=∀b sz cs,dI L b=some (sz,cs)->12<=b/\Obj m (sh lo b) sz (cs.map (bN (sh lo) 20))
theorem vr.ext{lo:Nat}{L:List (Nat×dU)}{m m':Mem}{S:Nat->Prop}(h:vr lo L m)(k:Kp m m' S)(hS:∀b,S b->b<lo):vr lo L m':=fun b sz cs e=>by
 obtain⟨h1,h2⟩:=h b sz cs e;refine⟨h1,h2.ext k fun hb=>?_⟩;have :=hS _ hb;rw[Ni h1]at this;omega
def oW (rl:ae):Option Nat:=match rl with | .slice (some _) n _=>some n|_=>none
def aOk:Nat->List (Nat×dU)->Bool
 |_,[]=>true
 |lo,x::l=>Nat.ble lo x.1&&Nat.blt x.1 1000&&Nat.beq x.2.kind 1&&(match Es x.2.cs with |some cs=>cs.all (mm 20)|none=>false)&&aOk (x.1+1) l
theorem Dh:∀{lo:Nat}{A:List (Nat×dU)},aOk lo A=true->(∀x∈A,lo<=x.1/\x.1<1000/\x.2.kind=1/\∃cs,Es x.2.cs=some cs/\dI A x.1=some (x.2.sz,cs))/\(A.map (·.1)).Nodup
 |_,[],_=>⟨fun x hx=>(by cases hx),List.nodup_nil⟩
 |lo,x::l,h=>by
  unfold aOk at h;simp only[ag]at h;obtain⟨⟨⟨⟨h1,h2⟩,h3⟩,h4⟩,h5⟩:=h;have h1:=af h1;have h2:x.1<1000:=af h2;have h3:=az h3;obtain⟨q1,q2⟩:=Dh h5;refine⟨fun y hy=>?_,?_⟩
  ·rcases aR.1 hy with rfl|hy
   ·split at h4
    ·rename_i cs ik;refine⟨h1,h2,h3,cs,ik,?_⟩;unfold dI;rw[bK (Nat.beq_refl _),h3,bK (by rfl),ik]
    ·cases h4
   ·obtain⟨a1,a2,a3,cs,a4,a5⟩:=q1 y hy;refine⟨aj,a2,a3,cs,a4,?_⟩;have :Nat.beq x.1 y.1=false:=by
     cases hb:Nat.beq x.1 y.1 with
     |false=>rfl
     |true=>have :=az hb;omega
    unfold dI;rw[this];exact a5
  ·rw[List.map_cons,List.nodup_cons];refine⟨fun hm=>?_,q2⟩;obtain⟨y,hy,e⟩:=List.mem_map.1 hm;have :=(q1 y hy).1;omega
def Vi (p:Nat->Bool):Nat->ae->Bool
 |0,v=>true
 |n+1,v=>match v with
  | .pointer (some a)=>p a.block
  | .slice (some a) _ _=>p a.block
  | .map (some r)=>p r
  | .func _ f c=>f.toList.all (Vi p n)&&c.toList.all (Vi p n)
  | .iface _ x=>Vi p n x
  | .agg cs=>cs.toList.all (Vi p n)
  | .tuple cs=>cs.toList.all (Vi p n)
  |_=>true
theorem Nt {π Au:Nat->Nat}{p:Nat->Bool}(hp:∀b,p b=true->π b=Au b):∀{n:Nat}{v:ae},Vi p n v=true->bN π n v=bN Au n v:=by
 intro n
 induction n with
 |zero=>intro v _;rfl
 |succ n ih=>
  have ihL:∀{l:List ae},l.all (Vi p n)=true->l.map (bN π n)=l.map (bN Au n):=fun h=>List.map_congr_left fun v hv=>ih (aE.1 h v hv)
  intro v h;cases v with
  |pointer a=>cases a with
   |none=>rfl
   |some a=>show ae.pointer (some ⟨π a.block,a.off,a.spot⟩)=_;rw[hp _ h];rfl
  |slice a l c=>cases a with
   |none=>rfl
   |some a=>show ae.slice (some ⟨π a.block,a.off,a.spot⟩) l c=_;rw[hp _ h];rfl
  |map r=>cases r with
   |none=>rfl
   |some r=>show ae.map (some (π r))=_;rw[hp _ h];rfl
  |func fn f c=>
   have h:(f.toList.all (Vi p n)&&c.toList.all (Vi p n))=true:=h;rw[ag]at h
   show ae.func fn (f.toList.map (bN π n)).toArray (c.toList.map (bN π n)).toArray=_
   rw[ihL h.1,ihL h.2];rfl
  |iface t x=>show ae.iface t (bN π n x)=_;rw[ih h];rfl
  |agg cs=>show ae.agg (cs.toList.map (bN π n)).toArray=_;rw[ihL h];rfl
  |tuple cs=>show ae.tuple (cs.toList.map (bN π n)).toArray=_;rw[ihL h];rfl
  |_=>rfl
def aIn (A:List (Nat×dU)):Bool:=A.all fun x=>x.2.cs.all fun c=>match c with |some v=>Vi (fun b=>Nat.blt b 12||A.any fun y=>Nat.beq y.1 b) 20 v|none=>true
end Go.AM
namespace Go.AM
set_option maxRecDepth 1000000
open Go Go.Conc Go.Proofs
def AA (π:Nat->Nat):X->X
 | .bin op l r=> .bin op (AA π l) (AA π r)
 | .no x=> .no (AA π x)
 | .LQ x=> .LQ (AA π x)
 | .lit v=> .lit v
 | .pU p i j=> .pU (π p) i j
def Mz (L:List (Nat×dU))(t:Nat)(v:ae):Option (List ae):=match v with
 | .iface u (.pointer (some a))=>if Nat.beq u t&&Nat.beq a.off 0&&a.spot.isNone then(match dI L a.block with |some (sz,cs)=>if Nat.beq sz 0 then some cs else none|none=>none)else none
 |_=>none
theorem xY {π:Nat->Nat}{L:List (Nat×dU)}{m:Mem}{B:Nat->Prop}(hL:lz π L m B){t:Nat}{v:ae}{cs:List ae}(h:Mz L t v=some cs):∃b,bN π 20 v= .iface t (vP b 0)/\B b/\Obj m b 0 (cs.map (bN π 20)):=by
 unfold Mz at h
 split at h
 ·rename_i u a
  split at h
  ·rename_i hc;simp only[ag]at hc
   split at h
   ·rename_i sz gL hg
    split at h
    ·rename_i hz;cases h;obtain⟨hb,ho⟩:=hL _ _ _ hg;obtain⟨b,o,sp⟩:=a;have e1:o=0:=az hc.1.2;have e2:sp=none:=Option.isNone_iff_eq_none.1 hc.2;subst e1 e2;rw[az hz]at ho;rw[az hc.1.1];exact⟨π b,rfl,hb,ho⟩
    ·cases h
   ·cases h
  ·cases h
 ·cases h
def Ax (L:List (Nat×dU)):X->ae->Bool
 | .bin op l r,v=>(match Mz L 305 v with |some [o,a,b]=>JA 20 (vI op) o&&Ax L l a&&Ax L r b|_=>false)
 | .no x,v=>(match Mz L 390 v with |some [a]=>Ax L x a|_=>false)
 | .LQ x,v=>(match Mz L 393 v with |some [a]=>Ax L x a|_=>false)
 | .lit u,v=>(match Mz L 317 v with |some cs=>Wc (JA 20) u.cells cs|none=>false)
 | .pU p i j,v=>(match Mz L 396 v with |some cs=>Wc (JA 20) [vP p 0,vI i,vI j] cs|none=>false)
theorem uB {π:Nat->Nat}{L:List (Nat×dU)}{m:Mem}{B:Nat->Prop}(hL:lz π L m B):∀{x:X}{v:ae},Ax L x v=true->XR B (AA π x) m (bN π 20 v)
 | .bin op l r,v,h=>by
  unfold Ax at h
  split at h
  ·rename_i o a b hc;simp only[ag]at h;obtain⟨b',e,hb,ho⟩:=xY hL hc;rw[<-oj h.1.1]at ho;exact⟨b',_,_,e,hb,ho,uB hL h.1.2,uB hL h.2⟩
  ·cases h
 | .no x,v,h=>by
  unfold Ax at h
  split at h
  ·rename_i a hc;obtain⟨b',e,hb,ho⟩:=xY hL hc;exact⟨b',_,e,hb,ho,uB hL h⟩
  ·cases h
 | .LQ x,v,h=>by
  unfold Ax at h
  split at h
  ·rename_i a hc;obtain⟨b',e,hb,ho⟩:=xY hL hc;exact⟨b',_,e,hb,ho,uB hL h⟩
  ·cases h
 | .lit u,v,h=>by
  unfold Ax at h
  split at h
  ·rename_i cs hc;obtain⟨b',e,hb,ho⟩:=xY hL hc;rw[<-vT (fun a b=>oj) h]at ho;exact⟨b',e,hb,ho⟩
  ·cases h
 | .pU p i j,v,h=>by
  unfold Ax at h
  split at h
  ·rename_i cs hc;obtain⟨b',e,hb,ho⟩:=xY hL hc;rw[<-vT (fun a b=>oj) h]at ho;exact⟨b',e,hb,ho⟩
  ·cases h
structure Ef {α:Type}(E:nB α) where
 iA:(Nat->Nat)->α->α
 vZ:List (Nat×dU)->α->ae->Bool
 ok:∀{π:Nat->Nat}{L:List (Nat×dU)} {m:Mem}{B:Nat->Prop},lz π L m B->∀{x:α}{v:ae},vZ L x v=true->E.R B (iA π x) m (bN π 20 v)
theorem Pn {α:Type}{sz:Nat}{c:α->ae->Bool}{Q:α->ae->Prop}{f:α->α}{π:Nat->Nat}(hc:∀x v,c x v=true->Q (f x) (bN π 20 v)){l:List α}{cs:List ae}(h:zG sz c l cs=true):cp (fun x u=>Q x u/\okV sz u) (l.map f) (cs.map (bN π 20)):=by
 have :=wS (Q:=fun x v=>Q (f x) v) hc h;have key:∀{l:List α}{cs:List ae},cp (fun x u=>Q (f x) u/\okV sz u) l cs->cp (fun x u=>Q x u/\okV sz u) (l.map f) cs:=by
  intro l
  induction l with
  |nil=>intro cs h;exact h
  |cons x l ih=>
   rintro cs ⟨v,r,e,q,h⟩;exact⟨v,r,e,q,ih h⟩
 exact key this
def zD {α:Type}{E:nB α}(c:Ef E)(sz:Nat):Ef (aW E sz) where
 iA π l:=l.map (c.iA π)
 vZ L l v:=match v with
  | .slice none n cap=>Nat.beq n 0&&Nat.beq cap 0&&l.isEmpty
  | .slice (some a) n cap=>Nat.beq a.off 0&&a.spot.isNone&&Nat.beq n l.length&&(Nat.beq cap fp||Nat.beq cap n)&&(match dI L a.block with
   |some (Sa,cs)=>Nat.beq Sa sz&&zG sz (c.vZ L) l cs
   |none=>false)
  |_=>false
 ok:=by
  intro π L m B hL l v h
  split at h
  ·rename_i n cap;simp only[ag]at h;obtain⟨⟨h1,h2⟩,h3⟩:=h;rw[az h1,az h2,List.isEmpty_iff.1 h3];exact aW.nil
  ·rename_i a n cap;simp only[ag]at h;obtain⟨⟨⟨⟨h1,h2⟩,h3⟩,h4⟩,h5⟩:=h
   split at h5
   ·rename_i Sa cs hg;rw[ag]at h5;obtain⟨hb,ho⟩:=hL _ _ _ hg;have ik:=Pn (Q:=fun x u=>E.R B x m u) (π:=π) (f:=c.iA π) (fun x v=>c.ok hL (x:=x) (v:=v)) h5.2;obtain⟨b,o,sp⟩:=a;have e1:o=0:=az h1;have e2:sp=none:=Option.isNone_iff_eq_none.1 h2;subst e1 e2;have e3:=az h3;subst e3;rw[az h5.1]at ho;refine⟨cs.map (bN π 20),⟨ik.one.1,.inr ⟨π b,cap,by rw[List.length_map];rfl,ho,?_⟩⟩,fun b' o' n' c' e=>by cases e;exact hb,ik⟩;rw[Bool.or_eq_true]at h4;rw[List.length_map];exact h4.imp az az
   ·cases h5
  ·cases h
def tlX:Ef sX where
 iA:=AA
 vZ:=Ax
 ok:=by
  intro π L m B hL x v h;exact uB hL h
def tXo:Ef iJ where
 iA π x:=x.map (AA π)
 vZ L x v:=match x,v with
  |none,.nilIface=>true
  |some x,v=>Ax L x v
  |_,_=>false
 ok:=by
  intro π L m B hL x v h
  split at h
  ·rfl
  ·exact uB hL h
  ·cases h
def tCS:Ef Fl where
 iA π x:=⟨π x.p,x.on.map (AA π)⟩
 vZ L x v:=match v with
  | .agg cs=>(match cs.toList with | [p,o]=>W4 [p,o]&&JA 20 (vP x.p 0) p&&tXo.vZ L x.on o|_=>false)
  |_=>false
 ok:=by
  intro π L m B hL x v h
  split at h
  ·rename_i cs
   split at h
   ·rename_i p o ik;simp only[ag]at h;have e:cs=[p,o].toArray:=by rw[<-ik]
    rw[e,lS h.1.1];refine⟨bN π 20 o,?_,tXo.ok hL h.2⟩;rw[<-oj h.1.2];rfl
   ·cases h
  ·cases h
def wT:Ef jZ where
 iA π x:=⟨x.mc.map (tCS.iA π),x.wh.map (AA π),x.rM.map (AA π)⟩
 vZ L x v:=match v with
  | .agg cs=>(match cs.toList with | [a,w,b]=>W4 [a,w,b]&&(zD tCS 2).vZ L x.mc a&&tXo.vZ L x.wh w&&(zD tlX 1).vZ L x.rM b|_=>false)
  |_=>false
 ok:=by
  intro π L m B hL x v h
  split at h
  ·rename_i cs
   split at h
   ·rename_i a w b ik;simp only[ag]at h;have e:cs=[a,w,b].toArray:=by rw[<-ik]
    rw[e,lS h.1.1.1];exact⟨_,_,_,rfl,(zD tCS 2).ok hL h.1.1.2,tXo.ok hL h.1.2,(zD tlX 1).ok hL h.2⟩
   ·cases h
  ·cases h
def tCU:Ef Fj where
 iA π x:=⟨x.all,wT.iA π x.sel⟩
 vZ L x v:=match v with
  | .agg cs=>(match cs.toList with | [z,a,w,b]=>W4 [z,a,w,b]&&W4 [a,w,b]&&JA 20 (.bool x.all) z&&wT.vZ L x.sel (.agg [a,w,b].toArray)|_=>false)
  |_=>false
 ok:=by
  intro π L m B hL x v h
  split at h
  ·rename_i cs
   split at h
   ·rename_i z a w b ik;simp only[ag]at h;have e:cs=[z,a,w,b].toArray:=by rw[<-ik]
    have q:=wT.ok hL h.2;rw[lS h.1.1.2]at q;rw[e,lS h.1.1.1];refine⟨_,_,_,?_,q⟩;rw[<-oj h.1.2];rfl
   ·cases h
  ·cases h
def EB:Ef iK where
 iA π x:=⟨wT.iA π x.first,x.us.map (tCU.iA π)⟩
 vZ L x v:=match v with
  | .agg cs=>(match cs.toList with | [a,w,b,u]=>W4 [a,w,b,u]&&W4 [a,w,b]&&wT.vZ L x.first (.agg [a,w,b].toArray)&&(zD tCU 4).vZ L x.us u|_=>false)
  |_=>false
 ok:=by
  intro π L m B hL x v h
  split at h
  ·rename_i cs
   split at h
   ·rename_i a w b u ik;simp only[ag]at h;have e:cs=[a,w,b,u].toArray:=by rw[<-ik]
    have q:=wT.ok hL h.1.2;rw[lS h.1.1.2]at q;rw[e,lS h.1.1.1];exact⟨_,_,_,_,rfl,q,(zD tCU 4).ok hL h.2⟩
   ·cases h
  ·cases h
def EA:Ef pK where
 iA π x:=⟨π x.p,x.self,EB.iA π x.b⟩
 vZ L x v:=match v with
  | .agg cs=>(match cs.toList with | [p,z,a,w,b,u]=>W4 [p,z,a,w,b,u]&&W4 [a,w,b,u]&&JA 20 (vP x.p 0) p&&JA 20 (.bool x.self) z&&EB.vZ L x.b (.agg [a,w,b,u].toArray)|_=>false)
  |_=>false
 ok:=by
  intro π L m B hL x v h
  split at h
  ·rename_i cs
   split at h
   ·rename_i p z a w b u ik;simp only[ag]at h;have e:cs=[p,z,a,w,b,u].toArray:=by rw[<-ik]
    have q:=EB.ok hL h.2;rw[lS h.1.1.1.2]at q;rw[e,lS h.1.1.1.1];refine⟨_,_,_,_,?_,q⟩;rw[<-oj h.1.1.2,<-oj h.1.2];rfl
   ·cases h
  ·cases h
def tx:Ef zk where
 iA π x:=⟨x.parts.map (EA.iA π),x.fG,EB.iA π x.b⟩
 vZ L x v:=match v with
  | .agg cs=>(match cs.toList with | [p,c,a,w,b,u]=>W4 [p,c,a,w,b,u]&&W4 [a,w,b,u]&&(zD EA 6).vZ L x.parts p&&aaJ.vZ L x.fG c&&EB.vZ L x.b (.agg [a,w,b,u].toArray)|_=>false)
  |_=>false
 ok:=by
  intro π L m B hL x v h
  split at h
  ·rename_i cs
   split at h
   ·rename_i p c a w b u ik;simp only[ag]at h;have e:cs=[p,c,a,w,b,u].toArray:=by rw[<-ik]
    have q:=EB.ok hL h.2;rw[lS h.1.1.1.2]at q;rw[e,lS h.1.1.1.1];exact⟨_,_,_,_,_,_,rfl,(zD EA 6).ok hL h.1.1.2,aaJ.ok hL h.1.2,q⟩
   ·cases h
  ·cases h
end Go.AM
namespace Go.AM
set_option maxRecDepth 1000000
open Go Go.Conc Go.Proofs
theorem Gq:∀{l:List Nat},ndB l=true->l.Nodup
 | [],_=>List.nodup_nil
 |x::l,h=>by
  unfold ndB at h;rw[ag]at h;rw[List.nodup_cons];refine⟨fun hm=>?_,Gq h.2⟩;have :=aE.1 h.1 x hm;rw[Nat.beq_refl]at this;cases this
structure alY (r:kK):Prop where
 l:∀x∈r.L,(r.N<=x.1\/∃k,(x.1,k)∈r.K/\x.2.kind=k.kind)/\x.1<r.nx/\x.2.live/\okB x.2=true
 k:kOk r.K r.N=true
 kn:(r.K.map (·.1)).Nodup
 cn:(r.c.map (·.1)).Nodup/\∀x∈r.c,12<=x.1/\x.1<r.N
 nx:r.N<=r.nx
 args:r.args.all (mm 20)=true
 val:mm 20 r.v=true
 ln:(r.L.map (·.1)).Nodup
theorem kK.Fact.at{r:kK}{J:List (Nat×dU)}(h:r.Fact J):alY r:=by
 have :=h.vZ;unfold kK.vZ at this;simp only[ag]at this;obtain⟨⟨⟨⟨⟨⟨⟨⟨h1,h2⟩,h3⟩,h4⟩,h5⟩,h6⟩,h7⟩,h8⟩,h9⟩:=this;refine⟨fun x hx=>?_,h2,Gq h3,⟨Gq h4,fun x hx=>?_⟩,af h6,h7,h8,Gq h9⟩
 ·have :=aE.1 h1 x hx;simp only[ag,Bool.or_eq_true]at this;obtain⟨⟨⟨⟨a1,a2⟩,a3⟩,a4⟩,a5⟩:=this;refine⟨a1.imp af fun a1=>?_,af a2,⟨fun y hy e=>?_,af a3⟩,a5⟩
  ·obtain⟨y,hy,e⟩:=List.any_eq_true.1 a1;rw[ag]at e;exact⟨y.2,(az e.1)▸hy,az e.2⟩
  ·have :=aE.1 a4 y hy;rw[e]at this;cases this
 ·have :=aE.1 h5 x hx;rw[ag]at this;exact⟨af this.1,af this.2⟩
theorem kK.Fact.ok{r:kK}{J:List (Nat×dU)}(h:r.Fact J)(hJ0:U9∈J)(hJK:∀x∈r.K,∃k,(x.1,k)∈J/\((x.1,k)∈r.L\/jf k x.2))(hJL:∀x∈r.L,x∈J)(hb:dE ab r.f=true):MS Ct r:=by
 have c:=h.at;refine XW h.run ⟨U9.2,hJ0,?_⟩ hJK (fun x hx=>⟨hJL x hx,c.l x hx⟩) c.k c.kn ⟨ai _,c.nx⟩ hb c.args c.val;rw[fP,bK rfl];exact jf.abm
theorem QI:dE ab 38=true/\dE ab 73=true/\dE ab 75=true:=⟨bG,bG,bG⟩
section
variable {m mi:Mem}{π:Nat->Nat}{N nx:Nat}{L:List (Nat×dU)}
theorem Yw (GQ:∀b,N<=b->π b=m.next+(b-N))(hL:∀x∈L,N<=x.1):Kp m (iM π mi m L nx) eQ:=by
 refine⟨Nat.le_add_right _ _,rfl,rfl,rfl,rfl,rfl,rfl,rfl,rfl,fun b hb _=>?_⟩;rcases gE (m:=m) (L:=L.map fun x=>(π x.1,qM π x.2)) (nx:=m.next+(nx-mi.next)) b with⟨e,_⟩|⟨k,hm,_⟩
 ·exact e
 ·obtain⟨x,hx,ex⟩:=List.mem_map.1 hm;cases ex;rw[GQ _ (hL x hx)]at hb;omega
theorem P5 (cm:Calm m)(hN:mi.next=N)(GQ:∀b,N<=b->π b=m.next+(b-N))(hL:∀x∈L,N<=x.1/\x.1<nx)(hn:(L.map (·.1)).Nodup):lz π L (iM π mi m L nx) (jS m (iM π mi m L nx)):=by
 intro b sz cs hg;obtain⟨k,hx,hk,rfl,hc⟩:=xy hg;obtain⟨h1,h2⟩:=hL _ hx;have hs:=GQ b h1;have Jc:(iM π mi m L nx).next=m.next+(nx-N):=by rw[<-hN];rfl
 have hnd:((L.map fun x=>(π x.1,qM π x.2)).map (·.1)).Nodup:=by
  rw[List.map_map];have :(L.map ((fun x=>x.1)∘fun x=>(π x.1,qM π x.2)))=(L.map (·.1)).map π:=by rw[List.map_map];rfl
  rw[this,List.Nodup,List.pairwise_map];refine List.Pairwise.imp_of_mem ?_ hn;intro a c ha hc dO e;obtain⟨x,hx,rfl⟩:=List.mem_map.1 ha;obtain⟨y,hy,rfl⟩:=List.mem_map.1 hc;have h3:=(hL x hx).1;have h4:=(hL y hy).1;rw[GQ _ h3,GQ _ h4]at e;omega
 have e:(iM π mi m L nx).blk (π b)={qM π k with a9:=m.tick}:=xx (x:=(π b,qM π k)) hnd (List.mem_map.2 ⟨(b,k),hx,rfl⟩);have cA:π b<(iM π mi m L nx).next:=by rw[Jc,hs];omega
 refine⟨⟨aj,cA⟩,cA,by rw[e];exact hk,by rw[e];rfl,?_,?_⟩
 ·rw[e]
  show k.cs.map (SA π)=_
  rw[hc,List.map_map,List.map_map];rfl
 ·show aL m.bB _=false
  rw[cm.bB];rfl
end
end Go.AM
namespace Go.AM
set_option maxRecDepth 1000000
open Go Go.Conc Go.Proofs
def RdK (K:gI)(T:ByteArray)(L:List (Nat×dU))(sv:ae):Prop:=∀m,Calm m->Gl m->∃m2,Ev K 22 [.string T] m (.tuple #[bN (sh m.next) 20 sv,vI 0,vI 0]) m2/\Kp m m2 eQ/\vr m.next L m2
structure Kf (m:Mem)(mp pe:Nat):Prop where
 lt:mp<m.next
 kind:(m.blk mp).kind=2
 es:(m.blk mp).es.toList=[⟨sB [101],vP pe 0,0⟩]
 clock:(m.blk mp).clock=1
 Du:aL m.bB mp=false
 home:m.home<=mp
 base:m.base<=mp
 pe:pe<m.next
theorem Kf.ext{m m':Mem}{mp pe:Nat}{S:Nat->Prop}(h:Kf m mp pe)(k:Kp m m' S)(hs:¬S mp):Kf m' mp pe:=by
 have e:=k.blk mp h.lt hs;exact⟨a8 h.lt k.next,by rw[e];exact h.kind,by rw[e];exact h.es,by rw[e];exact h.clock,by rw[k.bB];exact h.Du,by rw[k.home];exact h.home,by rw[k.base];exact h.base,a8 h.pe k.next⟩
section
variable {K:gI}{m:Mem}{W:Nat->Prop}{db mp pe pg cg:Nat}{rows:List (List V)}
theorem alS {T:ByteArray}{L:List (Nat×dU)}{s:ae}{Q:Mem->Mem->ae->ae->ae->ae->Int->Prop}{S:Nat->Prop}(cm:Calm m)(hG:Gl m)(Q6:QZ m db mp)(hh:m.home<=db)(hT:RdK K T L s)(hS:∀b,S b->b<m.next/\b≠db)
  (Mg:∀m3 lo,Calm m3->Gl m3->Kp m m3 (fun y=>y=db)->Obj m3 db 0 [.int .i32 1,.int .u32 0,.map (some mp)]->vr lo L m3->m.next<lo->lo<=m3.next->∃y1 y2 y3 y4 e m8,Ev K 26 [vP db 0,bN (sh lo) 20 s] m3 (.tuple #[.agg #[y1,y2,y3,y4],vI e]) m8/\Kp m3 m8 S/\([y1,y2,y3,y4].all (·.oneCell'))=true/\Q m3 m8 y1 y2 y3 y4 e):
  ∃m3 m8 m' y1 y2 y3 y4 e,Ev K 12 [vP db 0,.string T] m (.tuple #[.agg #[y1,y2,y3,y4],vI e,vI 0]) m'/\Kp m m3 (fun y=>y=db)/\Kp m3 m8 S/\m.next<m3.next/\Q m3 m8 y1 y2 y3 y4 e/\Kp m8 m' (fun y=>y=db\/y=m.next)/\QZ m' db mp:=by
 have g:=cm.gd;obtain⟨Q6,ry⟩:=Q6;have Qg:=Q6.lt;obtain⟨b1,nX⟩:∃b,b=m.next:=⟨_,rfl⟩;obtain⟨m1,e1,o1,k1,n1,_⟩:=aY g [.slice none 0 0,.slice none 0 0,.slice none 0 0,vI 0];rw[<-nX]at e1 o1;have g1:=g.ext k1;obtain⟨m2,e2,k2,q2⟩:=hT m1 (cm.ext k1) (hG.aU k1);have mn:=k1.aS k2;have Ws:=cm.ext mn;have n2:=k2.next;obtain⟨m3,e3,o3,k3⟩:=c24 (K:=K) Ws.gd.deaf (Q6.aU mn) ((Ws.own (by rw[mn.base];exact ry)).may _ _);have wF:=Ws.ext k3;have n3:=k3.next;have hk:Kp m m3 (fun y=>y=db):=mn.vF.trans k3 fun _ _ h=>h
 obtain⟨y1,y2,y3,y4,e,m8,e26,k8,hy,hq⟩:=Mg m3 m1.next wF (hG.ext hk fun b e=>e▸hh) hk o3 (q2.ext k3 fun y e=>by omega) aj aj;have n8:=k8.next;have Xa:Kp m m8 (fun y=>y=db\/S y):=(hk.mono fun _ _ h=> .inl h).trans (k8.mono fun _ _ h=> .inr h) fun _ _ h=>h
 have cm8:=cm.ext Xa;obtain⟨m9,m10,e9,Qm,o10,Va,n10⟩:=kY cm8.gd [.slice none 0 0,.slice none 0 0,.slice none 0 0,vI 0] [y1,y2,y3,y4] rfl hy;have l10:fg 4 m8.next 0 m10=some (.agg #[y1,y2,y3,y4],m10):=bY (vs:=[y1,y2,y3,y4]) o10 rfl (af rfl);have agX:=Xa.aS Va;have amh:=Va.next;have b1S:¬S b1:=fun h=>by have :=(hS _ h).1;omega
 have ob1:=(((o1.aU k2).ext k3 (show¬b1=db by omega)).ext k8 b1S).aU Va;obtain⟨m11,e11,o11,k11⟩:=lh (o:=0) [y1,y2,y3,y4] ob1 ((g.own agX aj).may _ _) (af rfl) hy;have n11:=k11.next;have acH:Kp m m11 (fun y=>y=db\/S y):=agX.new k11 (N:=m.next) (ai _) fun b hb=>by omega
 have ah8:=cm.ext acH;have aj3:=((o3.ext k8 fun h=>(hS _ h).2 rfl).aU Va).ext k11 (show¬db=b1 by omega);obtain⟨m12,e12,o12,I3⟩:=c25 (K:=K) ah8.gd.deaf aj3 ((ah8.own (by rw[acH.base];exact ry)).may _ _);have eR:pz ab 31 (vP b1 0) m12=some (.agg #[y1,y2,y3,y4],m12):=nK (o11.ext I3 (show¬b1=db by omega)) rfl vp.1 vp.2;refine⟨m3,m8,m12,y1,y2,y3,y4,e,aJ (p12 db T _ y1 y2 y3 y4 e b1 m8.next) (.mem e1<| .call e2<| .cond rfl<| .call e3<| .call e26<| .mem e9<| .mem Qm<| .mem l10<| .mem e11<| .call e12<| .mem eR .nil),hk,k8,aj,hq,?_,o12,by rw[I3.base,acH.base];exact ry⟩;exact(Va.vF.trans (k11.mono fun _ _ h=> .inr (h.trans nX)) fun _ _ h=>h).trans (I3.mono fun _ _ h=> .inl h) fun _ _ h=>h
end
end Go.AM
namespace Go.AM
set_option maxRecDepth 1000000
open Go Go.Conc Go.Proofs
def MU (K:gI):Prop:=∀m,Calm m->Gl m->∃m' db mp pe,Ev K 14 [] m (vP db 0) m'/\Kp m m' eQ/\QZ m' db mp/\Kf m' mp pe/\m.next<=db/\m.next<=mp/\mp≠db
end Go.AM
namespace Go.AM
set_option maxRecDepth 1000000
open Go Go.Conc Go.Proofs
def I5:Nat->List (Nat×dU)->Bool
 |_,[]=>true
 |lo,x::l=>Nat.ble lo x.1&&I5 (x.1+1) l
theorem AZ:∀{lo:Nat}{L:List (Nat×dU)},I5 lo L=true->(∀x∈L,lo<=x.1)/\(L.map (·.1)).Nodup
 |_,[],_=>⟨fun x hx=>(by cases hx),List.nodup_nil⟩
 |lo,x::l,h=>by
  unfold I5 at h;rw[ag]at h;have h1:=af h.1;obtain⟨h2,h3⟩:=AZ h.2;refine⟨fun y hy=>?_,?_⟩
  ·rcases aR.1 hy with rfl|hy
   ·exact h1
   ·have :=h2 y hy;omega
  ·rw[List.map_cons,List.nodup_cons];refine⟨fun hm=>?_,h3⟩;obtain⟨y,hy,e⟩:=List.mem_map.1 hm;have :=h2 y hy;omega
theorem WV:I5 12 KL=true:=bG
end Go.AM
namespace Go.AM
set_option maxRecDepth 1000000
open Go Go.Conc Go.Proofs
theorem X2 {mq:Mem}{v:ae}{L:List (Nat×dU)}{nx:Nat}(h:LB (0::L.map (·.1)) (v,mq)=(v,(12,12,12),([],[]),true,0,nx,kP {kind:=1,cs:=de}::L.map fun b=>kP b.2))
  (hL:(L.all fun x=>Nat.ble 12 x.1&&Nat.blt x.1 nx&&Nat.ble x.2.kind 3&&x.2.cs.all (·.isSome)&&okB x.2)=true)(hn:12<=nx):Ke kz mq L nx/\∀x∈L,12<=x.1/\x.1<nx:=by
 unfold LB at h;simp only[au,true_and,List.map_cons,List.cons.injEq,List.map_map]at h;obtain⟨⟨p1,p2,p3⟩,⟨p4,p5⟩,p6,p7,p8,p9,p10⟩:=h;have at':∀{l:List (Nat×dU)},(l.map ((fun b=>kP (mq.blk b))∘fun x=>x.1))=l.map (fun x=>kP x.2)->∀x∈l,jf x.2 (mq.blk x.1):=by
  intro l
  induction l with
  |nil=>intro _ x hx;cases hx
  |cons y l ih=>
   intro h x hm;rw[List.map_cons,List.map_cons]at h
   injection h with e1 e2
   rcases aR.1 hm with rfl|hm
   ·exact(GI e1).symm
   ·exact ih e2 x hm
 have key:∀x∈L,12<=x.1/\x.1<nx/\x.2.live/\okB x.2=true:=fun x hx=>by
  have :=aE.1 hL x hx;simp only[ag]at this;obtain⟨⟨⟨⟨a1,a2⟩,a3⟩,a4⟩,a5⟩:=this;refine⟨af a1,af a2,⟨fun y hy e=>?_,af a3⟩,a5⟩;have :=aE.1 a4 y hy;rw[e]at this;cases this
 refine⟨⟨p1,p2,p3,p4,p5,Option.isNone_iff_eq_none.1 p6,p7,fun b hb=> .inr ?_,aj,hn,fun x hx=>⟨.inl (key x hx).1,(key x hx).2.1,at' p10 x hx,(key x hx).2.2⟩⟩,fun x hx=>⟨(key x hx).1,(key x hx).2.1⟩⟩;rw[fP]at hb⊢
 split at hb
 ·rename_i e;subst e;rw[bK rfl];exact GI p9
 ·exact absurd rfl hb
theorem ZW (al sg tg:Bool)(x y w:Int):((tL al sg tg x y w).all fun b=>Nat.ble 12 b.1&&Nat.blt b.1 (tNx al sg tg)&&Nat.ble b.2.kind 3&&b.2.cs.all (·.isSome)&&okB b.2)=true/\mm 20 (tV al sg tg)=true/\I5 12 (tL al sg tg x y w)=true:=by
 cases al<;>cases sg<;>cases tg<;>exact⟨bG,bG,bG⟩
def aeG (al sg tg:Bool)(T:ByteArray)(x y w:Int):mj:=⟨22,[.string T],kz,tV al sg tg,tL al sg tg x y w,tNx al sg tg⟩
theorem Sr {al sg tg:Bool}{N:Nat}{T:ByteArray}(hT:T.size<=4000){a z:Nat->Nat}{x y w:Int}(hw:A8 N (KO T z 0 (tWs al sg tg a z x y w))){cw:bJ}:
  O4 (pO ab X0 cw (yy N) (40+1)) (aeG al sg tg T x y w)/\∀b∈tL al sg tg x y w,12<=b.1/\b.1<tNx al sg tg:=by
 obtain⟨mq,h1,h2⟩:=XX (cw:=cw) hT hw;obtain⟨q1,q2,_⟩:=ZW al sg tg x y w;obtain⟨o1,o2⟩:=X2 h2 q1 (by unfold tNx;omega);exact⟨⟨⟨mq,h1,o1⟩,bG,rfl,q2⟩,o2⟩
end Go.AM
namespace Go.AM
set_option maxRecDepth 1000000
open Go Go.Conc Go.Proofs
def u4 (x:V):List ae:=x.cells++(List.replicate 15 cR.cells).flatten
def nL (x:V):ae:= .agg (u4 x).toArray
instance:DecidableEq V:=fun x y=>decidable_of_iff _ V.beq_iff
def z64:List ae:=(List.replicate 16 cR.cells).flatten
theorem RD:ab.underlying 437=some (.array 16 49):=bG
theorem aaF (x:V)(e:Bool):(Instr.checkKey e 10000 437 (nL x)).aI ab=some ():=by cases e<;>kernel_rfl
def QT (P:aD)(d e n:Nat)(xs ys:Array ae):List Nat->Option Bool
 | []=>some true
 |i::l=>((part e xs (i*n)).aI P).bind fun a=>((part e ys (i*n)).aI P).bind fun b=>((Op.equalIn d e a b).aI P).bind fun c=>if c then QT P d e n xs ys l else some false
theorem yI {P:aD}(d t len e n:Nat)(xs ys:Array ae)(ht:P.underlying t=some (.array len e))(hz:(sizeOf e).aI P=some n):
  (Op.equalIn (d+1) t (.agg xs) (.agg ys)).aI P=QT P d e n xs ys (List.range' 0 len):=by
 simp only[Op.equalIn,gk,cS ht,aX,hz,Std.Legacy.Range.forIn_eq_forIn_range',Std.Legacy.Range.size];simp only[Nat.sub_zero,Nat.add_sub_cancel,Nat.div_one];generalize List.range' 0 len=l
 induction l with
 |nil=>simp[QT,jU]
 |cons i l ih=>
  simp only[List.forIn_cons,QT,gk,Li];cases(part e xs (i*n)).aI P with
  |none=>rfl
  |some a=>
   simp only[aX];cases(part e ys (i*n)).aI P with
   |none=>rfl
   |some b=>
    simp only[aX];cases(Op.equalIn d e a b).aI P with
    |none=>rfl
    |some r=>
     cases r
     ·simp only[aX,Bool.not_false,if_true,jU];rfl
     ·simp only[aX,Bool.not_true,bO,if_false,jU];exact ih
theorem ah0 (x y:V):(Op.equalIn 9999 49 x.val y.val).aI ab=some (x.beq y):=by
 rw[show(9999:Nat)=9998+1 from rfl,qm 9998 49 _ _ ZS Nd,tG (Jy x.k x.n x.s x.b y.k y.n y.s y.b)];simp only[List.foldr_cons,List.foldr_nil,if_true,aX,show(9998:Nat)=9997+1 from rfl,tF 9997 3 _ _ _ _ Pk,qn 9997 9 _ _ RB,sI 9997 4 _ _ aey];unfold V.beq;cases x.k==y.k<;>cases x.n==y.n<;>cases x.s==y.s<;>cases x.b==y.b<;>rfl
theorem agW (x:V):(part 49 (u4 x).toArray (0*4)).aI ab=some x.val:=bG
theorem aka (x y:V):QT ab 9999 49 4 (u4 x).toArray (u4 y).toArray [1,2,3,4,5,6,7,8,9,10,11,12,13,14,15]=some true:=bG
theorem ahZ (x y:V):(Op.equal 437 (nL x) (nL y)).aI ab=some (x.beq y):=by
 show((Op.equalIn (9999+1) 437 (.agg (u4 x).toArray) (.agg (u4 y).toArray)).aI ab)=_
 rw[yI 9999 437 16 49 4 _ _ RD bG]
 show(((part 49 (u4 x).toArray (0*4)).aI ab).bind fun a=>((part 49 (u4 y).toArray (0*4)).aI ab).bind fun b=>((Op.equalIn 9999 49 a b).aI ab).bind fun c=>if c then QT ab 9999 49 4 (u4 x).toArray (u4 y).toArray [1,2,3,4,5,6,7,8,9,10,11,12,13,14,15]else some false)=_
 rw[agW,agW,aX,aX,ah0,aX,aka];cases x.beq y<;>rfl
theorem Lj (x:V):plain (nL x)=true:=bG
theorem sbK (x:V):Instr.sameBits 10000 (nL x) (nL x)=true:=by
 unfold nL Instr.sameBits;simp only[beq_self_eq_true,Bool.true_and];have :∀l:List ae,(∀v∈l,Instr.sameBits 9999 v v=true)->((l.zip l).all fun(x,y)=>Instr.sameBits 9999 x y)=true:=by
  intro l h
  induction l with
  |nil=>rfl
  |cons a l ih=>simp only[List.zip_cons_cons,List.all_cons,h a (.head _),Bool.true_and];exact ih fun v hv=>h v (.tail _ hv)
 refine this _ fun v hv=>?_
 have hv:v∈u4 x:=hv;simp only[u4,V.cells,cR,List.mem_append,aR,List.not_mem_nil,or_false,List.mem_flatten,List.mem_replicate,ne_eq]at hv;rcases hv with(rfl|rfl|rfl|rfl)|⟨l,⟨_,rfl⟩,hv⟩
 ·simp[Instr.sameBits]
 ·simp[Instr.sameBits]
 ·simp[Instr.sameBits,bytes_beq]
 ·simp[Instr.sameBits]
 ·simp only[aR,List.not_mem_nil,or_false]at hv;rcases hv with rfl|rfl|rfl|rfl<;>simp[Instr.sameBits,bytes_beq]
theorem RE:ab.underlying 347=some (.map 437 59):=bG
theorem aaV:gO ab 59=some (.agg #[]):=bG
theorem abf:dV ab 49=some 4:=bG
def yJ (x:V):List V->Nat->Option Nat
 | [],_=>none
 |y::l,i=>if x.beq y=true then some i else yJ x l (i+1)
theorem w9 {x:V}:∀{l:List V}{i:Nat},(yJ x l i).isSome=true↔x∈l
 | [],i=>by simp[yJ]
 |y::l,i=>by
  unfold yJ
  by_cases h:x.beq y=true
  ·rw[bK h,V.beq_iff.1 h];simp
  ·rw[bZ h,w9 (l:=l)];have :x≠y:=fun e=>h (V.beq_iff.2 e)
   simp[this]
theorem Nw {x:V}:∀{l:List V}{i j:Nat},yJ x l i=some j->i<=j/\l[j-i]?=some x
 | [],i,j,h=>by cases h
 |y::l,i,j,h=>by
  unfold yJ at h
  split at h
  ·rename_i hb;cases h;rw[Nat.sub_self,V.beq_iff.1 hb];exact⟨ai _,rfl⟩
  ·obtain⟨h1,h2⟩:=Nw h;refine⟨aj,?_⟩;rw[show j-i=(j-(i+1))+1 by omega];exact h2
structure oD (m:Mem)(b:Nat)(l:List V):Prop where
 lt:b<m.next
 kind:(m.blk b).kind=2
 es:(m.blk b).es.toList.map (fun e=>(e.key,e.val))=l.map fun x=>(nL x,.agg #[])
 Du:aL m.bB b=false
 home:m.home<=b
theorem oD.ext{m m':Mem}{b:Nat}{l:List V}{S:Nat->Prop}(h:oD m b l)(k:Kp m m' S)(hs:¬S b):oD m' b l:=by
 have e:=k.blk b h.lt hs;exact⟨a8 h.lt k.next,by rw[e];exact h.kind,by rw[e];exact h.es,by rw[k.bB];exact h.Du,by rw[k.home];exact h.home⟩
theorem Jw (x:V):∀{es:List MapEntry}{l:List V} (i:Nat),es.map (fun e=>(e.key,e.val))=l.map (fun x=>(nL x,.agg #[]))->Ai ab 437 (nL x) es i=some ((yJ x l i).map fun j=>(j,.agg #[]))
 | [],[],i,_=>rfl
 | [],y::l,_,h=>by simp at h
 |e::es,[],_,h=>by simp at h
 |e::es,y::l,i,h=>by
  simp only[List.map_cons,List.cons.injEq,au]at h;unfold Ai yJ;rw[h.1.1,Lj,ahZ];cases hb:x.beq y with
  |true=>simp[h.1.2]
  |false=>simp only[if_true,bO,if_false];exact Jw x (i+1) h.2
section
variable {K:gI}{m:Mem}
theorem oD.find{b:Nat}{l:List V}(h:oD m b l)(x:V):yP ab 437 b (nL x) m=some ((yJ x l 0).map fun j=>(j,.agg #[])):=by
 unfold yP;have h1:m.bz b=true:=by
  unfold Mem.bz;rw[h.Du];simp[h.home]
 rw[bK (by rw[h.kind,h1,Lj,RD,aaF,aaF];rfl)];exact Jw x 0 h.es
theorem oD.look{b:Nat}{l:List V}(h:oD m b l)(x:V):xq ab 347 (.map (some b)) (nL x) true m=some (.tuple #[.agg #[],.bool (yJ x l 0).isSome],m):=by
 unfold xq gW;have hf:=h.find x;unfold nL at hf⊢;simp only[RE];unfold rX;rw[hf,aaV];cases yJ x l 0<;>rfl
theorem oD.put{b:Nat}{l:List V}(h:oD m b l)(x:V):∃m',yO ab 347 (.map (some b)) (nL x) (.agg #[]) m=some (undef,m')/\Kp m m' (fun y=>y=b)/\oD m' b (if x∈l then l else l++[x]):=by
 have hf:=h.find x;have hu:iV ab 347 (.map (some b)) (nL x) (.agg #[]) m=tM ab 437 b (nL x) (.agg #[]) m:=by
  unfold iV nL;simp only[RE]
 have key:∀k:dU,k.kind=2->k.es.toList.map (fun e=>(e.key,e.val))=(if x∈l then l else l++[x]).map (fun x=>(nL x,.agg #[]))->tM ab 437 b (nL x) (.agg #[]) m=some (m.aZ b k)->∃m',yO ab 347 (.map (some b)) (nL x) (.agg #[]) m=some (undef,m')/\Kp m m' (fun y=>y=b)/\oD m' b (if x∈l then l else l++[x]):=by
  intro k hk he hm;refine⟨m.aZ b k,by unfold yO;rw[hu,hm],mS,h.lt,?_,?_,h.Du,h.home⟩
  ·rw[Mem.dy,bK rfl];exact hk
  ·rw[Mem.dy,bK rfl];exact he
 cases hp:yJ x l 0 with
 |none=>
  have hx:¬x∈l:=fun hx=>by have :=(w9 (i:=0)).2 hx;rw[hp]at this;cases this
  rw[hp]at hf;refine key {m.blk b with es:=(m.blk b).es.push {key:=nL x,val:= .agg #[],born:=(m.blk b).clock},clock:=(m.blk b).clock+1} h.kind ?_ ?_
  ·rw[bZ hx];simp[h.es]
  ·unfold tM;simp only[hf,Option.map_none]
 |some j=>
  have hx:x∈l:=w9.1 (by rw[hp];rfl);obtain⟨_,hj⟩:=Nw hp;rw[Nat.sub_zero]at hj;rw[hp]at hf;have he:=congrArg (·[j]?) h.es;simp only[List.getElem?_map,hj,cT]at he;obtain⟨e,Qf,he2⟩:=aB.1 he;simp only[au]at he2;refine key {m.blk b with es:=(m.blk b).es.modify j fun e=>{e with key:=nL x,val:= .agg #[]}} h.kind ?_ ?_
  ·rw[bK hx,Array.toList_modify,<-h.es];refine List.ext_getElem? fun i=>?_
   simp only[List.getElem?_map,List.getElem?_modify]
   by_cases hi:j=i
   ·subst hi;rw[Qf];simp[he2.1,he2.2]
   ·simp[hi]
  ·unfold tM;simp only[hf,cT,Qf,he2.1,Lj,sbK,Bool.and_self,if_true]
theorem ajL (mb rb c bW dz:Nat)(x:V)(b:Bool):Path 248 [.map (some mb),vL rb 0 1 c]
 [dZ (z64.map some) bW,
  .mem (oc ab 437 (vP bW 0) none none) (vL bW 0 16 16),
  .mem (xU ab #[47,47] (vL bW 0 16 16) (vL rb 0 1 c)) (vI 1),
  iO 64 bW (nL x),
  .mem (xq ab 347 (.map (some mb)) (nL x) true) (.tuple #[.agg #[],.bool b]),
  dZ [] dz,
  jQ dz 0 [],
  iO 64 bW (nL x),
  .mem (yO ab 347 (.map (some mb)) (nL x) (.agg #[])) undef]
 (.bool (!b)):=fu
theorem alH (g:Gd m){mb rb c:Nat}{l:List V}{x:V}(h:oD m mb l)(hr:rK m (vL rb 0 1 c) [x]):
  ∃m',Ev K 248 [.map (some mb),vL rb 0 1 c] m (.bool (!decide (x∈l))) m'/\Kp m m' (fun y=>y=mb)/\oD m' mb (if x∈l then l else l++[x]):=by
 have hml:=h.lt;obtain⟨β,ja⟩:∃b,b=m.next:=⟨_,rfl⟩;obtain⟨m1,e1,o1,k1,n1,_⟩:=aY g z64;rw[<-ja]at e1 o1;have g1:=g.ext k1;have e2:oc ab 437 (vP β 0) none none m1=some (vL β 0 16 16,m1):=bG;have hf:=oU (hr.aU k1);obtain⟨m2,e3,o2,k2⟩:=lh (o:=0) x.cells o1 ((g.own k1 aj).may _ _) (af rfl) rfl;have e4:xU ab #[47,47] (vL β 0 16 16) (vL rb 0 1 c) m1=some (vI 1,m2):=by
  unfold Az at e3
  split at e3
  ·rename_i m3 hm3;cases e3;unfold xU;simp only[show(#[47,47]:Array aM)[0]?=some 47 from rfl,aX,ZT,abf,B4,show Nat.min 1 16=1 from rfl];rw[show kr m1 4 1 (vL rb 0 1 c)=some x.cells from hf.trans (by rfl),aX,hm3];rfl
  ·cases e3
 have n2:=k2.next;have mn:Kp m m2 eQ:=k1.new k2 (N:=m.next) (ai _) fun b hb=>by omega
 have ok2:Obj m2 β 0 (u4 x):=o2;have h2:=h.ext mn id;obtain⟨dz,akk⟩:∃b,b=m2.next:=⟨_,rfl⟩;obtain⟨m3,e5,o3,k3,n3,_⟩:=aY (g.ext mn) [];rw[<-akk]at e5 o3;have jX:=mn.aS k3;obtain⟨m4,e6,o4,k4⟩:=lh (o:=0) [] o3 ((g.own jX aj).may _ _) (ai _) rfl;have n4:=k4.next;have jW:Kp m m4 eQ:=jX.new k4 (N:=m.next) (ai _) fun b hb=>by omega
 have ok4:Obj m4 β 0 (u4 x):=(ok2.aU k3).ext k4 aj;obtain⟨m5,e7,k5,h5⟩:=(h.ext jW id).put x;have hb:(yJ x l 0).isSome=decide (x∈l):=by rw[Bool.eq_iff_iff,w9,jE]
 have e8:=h2.look x;rw[hb]at e8;exact⟨m5,aJ (ajL mb rb c β dz x (decide (x∈l))) (.mem e1<| .mem e2<| .mem e4<| .mem (bY (vs:=u4 x) ok2 rfl (af rfl))<| .mem e8<| .mem e5<| .mem e6<| .mem (bY (vs:=u4 x) ok4 rfl (af rfl))<| .mem e7 .nil),jW.vF.trans k5 fun _ _ h=>h,h5⟩
end
end Go.AM
namespace Go.AM
set_option maxRecDepth 1000000
open Go Go.Conc Go.Proofs
theorem ae7 (cb d b4 n rc:Nat)(ra:Option Addr)(a w b fv Mk:ae):eS 198 0 6 [0,1,2] [vP cb 0,.agg #[a,w,b],vP d 0]
 [dZ [some a,some w,some b] b4,
  iO 3 b4 (.agg #[a,w,b]),
  .call 149 [.agg #[a,w,b],vP d 0] (.tuple #[.slice ra n rc,vI 0]),
  dH,
  .mem (aT cb 2) fv,
  .call 180 [fv] Mk,
  .mem (jI cb 2 Mk) undef]
 .normal [0,28,29,30] [vP cb 0,.slice ra n rc,vI n,vI 0]:=iD
theorem ae6 (cb pr n rc i rb k c:Nat)(fv Mk u1:ae):eA 198 [6] 0 99 [0,28,29,30] [vP cb 0,vL pr 0 n rc,vI n,vI i]
 (bu (eX i n) true:: .idx i n i:: .mem (aT pr (0+i*1)) (vL rb 0 k c):: .mem (aT cb 0) (.bool true)::(rp 8 (.bool true) true ([.mem (aT cb 2) fv,
  .mem (bI ab 29 1 [(0,(vL rb 0 k c))]) u1,
  .mem (cJ ab #[29,29] fv u1) Mk,
  .mem (jI cb 2 Mk) undef])))
 .normal [0,28,29,30] [vP cb 0,vL pr 0 n rc,vI n,vI (eh i 1)]:=iD
theorem ae3 (cb mb pr n rc i rb k c:Nat)(fv Mk u1:ae):eA 198 [6] 0 99 [0,28,29,30] [vP cb 0,vL pr 0 n rc,vI n,vI i]
 (bu (eX i n) true:: .idx i n i:: .mem (aT pr (0+i*1)) (vL rb 0 k c):: .mem (aT cb 0) (.bool false)::(rp 4 (.bool false) false ([.mem (aT cb 1) (.map (some mb)),
  dH,
  dH,
  .call 248 [.map (some mb),vL rb 0 k c] (.bool true),
  dH,
  lN,
  .mem (aT cb 2) fv,
  .mem (bI ab 29 1 [(0,(vL rb 0 k c))]) u1,
  .mem (cJ ab #[29,29] fv u1) Mk,
  .mem (jI cb 2 Mk) undef])))
 .normal [0,28,29,30] [vP cb 0,vL pr 0 n rc,vI n,vI (eh i 1)]:=iD
theorem ae2 (cb mb pr n rc i rb k c:Nat):eA 198 [6] 0 99 [0,28,29,30] [vP cb 0,vL pr 0 n rc,vI n,vI i]
 (bu (eX i n) true:: .idx i n i:: .mem (aT pr (0+i*1)) (vL rb 0 k c):: .mem (aT cb 0) (.bool false)::(rp 4 (.bool false) false ([.mem (aT cb 1) (.map (some mb)),
  dH,
  dH,
  .call 248 [.map (some mb),vL rb 0 k c] (.bool false),
  dH,
  dH])))
 .normal [0,28,29,30] [vP cb 0,vL pr 0 n rc,vI n,vI (eh i 1)]:=iD
theorem ae4 (cb n i:Nat):eA 198 [6] 0 99 [0,29,30] [vP cb 0,vI n,vI i]
 [bu (eX i n) false]
 (.exit 0) [0] [vP cb 0]:=iD
theorem ae5 (cb an ac fn fc gn gc:Nat)(aa fa ga:Option Addr):eS 198 7 99 [0] [vP cb 0]
 [.mem (aT cb 3) (.slice aa an ac),
  .mem (aT cb 2) (.slice fa fn fc),
  pT,
  .mem (cJ ab #[29,29] (.slice aa an ac) (.slice fa fn fc)) (.slice ga gn gc),
  pT,
  .mem (jI cb 3 (.slice ga gn gc)) undef,
  .mem (aT cb 3) (.slice ga gn gc),
  bu (sV gn 1000) false]
 .ret [6] [vI 0]:=iD
theorem agH:lF 198 3 [6]=true:=bG
theorem PM:(dK (bV 198)).length<=99:=af bG
theorem AV:tI 198 [6]:=bG
def hdR (x:List V):V:=x.headD cR
def KQ (gz:Bool)(all acc:List (List V))(x:List V):List (List V):=if gz=false/\x∈all++acc then acc else acc++[x]
def lJ (gz:Bool)(all made:List (List V)):List (List V):=made.foldl (KQ gz all) []
structure sA (m0 m:Mem)(cb mb:Nat)(gz:Bool)(SB FO AO E:Nat->Prop)(fresh all sn:List (List V))(fv av:ae):Prop where
 ob:Obj m cb 0 [.bool gz,.map (some mb),fv,av]
 f:mz bS 1 FO E m fresh fv
 a:mz bS 1 AO E m all av
 fx:fresh≠[]->(aW bS 1).R (fun y=>FO y\/E y) fresh m fv
 ax:(aW bS 1).R (fun y=>AO y\/E y) all m av
 s:gz=false->oD m mb (sn.map hdR)
 one:gz=false->∀x∈sn,x.length=1
 cm:cb≠mb
 z:∀b,(b=cb\/b=mb\/FO b\/AO b\/E b)->¬SB b/\m0.next<=b/\b<m.next
 fo:∀b,FO b->b≠cb/\b≠mb/\¬AO b/\¬E b
 ao:∀b,AO b->b≠cb/\b≠mb/\¬E b
 e:∀b,E b->b≠cb/\b≠mb
section
variable {K:gI}{m0 m:Mem}{S SB FO AO E:Nat->Prop}{cb mb:Nat}{gz:Bool}{fresh all sn:List (List V)}{fv av:ae}
theorem sA.ext{m':Mem}(C:sA m0 m cb mb gz SB FO AO E fresh all sn fv av)(k:Kp m m' S)(hS:∀b,b=cb\/b=mb\/FO b\/AO b\/E b->¬S b):sA m0 m' cb mb gz SB FO AO E fresh all sn fv av:=
 ⟨C.ob.ext k (hS _ (.inl rfl)),C.f.ext k fun b hb=>hS b (.inr (.inr (hb.elim .inl fun h=> .inr (.inr h)))),C.a.ext k fun b hb=>hS b (.inr (.inr (.inr hb))),fun h=>(aW bS 1).ext (C.fx h) k fun b hb=>hS b (.inr (.inr (hb.elim .inl fun h=> .inr (.inr h)))),(aW bS 1).ext C.ax k fun b hb=>hS b (.inr (.inr (.inr hb))),fun h=>(C.s h).ext k (hS _ (.inr (.inl rfl))),C.one,C.cm,fun b hb=>by have h:=C.z b hb;have n:=k.next;exact⟨h.1,h.2.1,aj⟩,C.fo,C.ao,C.e⟩
theorem ON (A4:Calm m0)(k0:Kp m0 m S)(C:sA m0 m cb mb gz SB FO AO E fresh all sn fv av)(uM:∀b,SB b->b<m.next){x:List V}{u:ae}(hu:bS.R E x m u)(ov:okV 1 u)(hl:fresh.length<2^29):
  ∃m2 m3 m4 Qj,bI ab 29 1 [(0,u)] m=some (vL m.next 0 1 1,m2)/\aT cb 2 m=some (fv,m)/\cJ ab #[29,29] fv (vL m.next 0 1 1) m2=some (Qj,m3)/\jI cb 2 Qj m3=some (undef,m4)/\Kp m m4 (fun y=>y=cb\/FO y)/\sA m0 m4 cb mb gz SB (fun y=>y=m.next+1) AO E (fresh++[x]) all sn Qj av:=by
 have g:=A4.gd.ext k0;have hE:∀b,E b->b<m.next:=fun b hb=>(C.z b (.inr (.inr (.inr (.inr hb))))).2.2
 obtain⟨m2,m3,s',e2,g2,k2,e3,k3,L3,⟨h1,Hj,rZ,o3,hc3⟩,n3⟩:=C.f.add (t:=29) g rfl gC hu (fun b hb=>(C.fo b hb).2.2.2) hE hE ov aj;have zc:=C.z cb (.inl rfl);have ocb:=C.ob.ext k3 fun h=>(C.fo cb h).1 rfl
 obtain⟨m4,e4,o4,k4⟩:=lQ (o:=2) s' ocb ((A4.gd.own ((k0.mono (S':=fun y=>S y\/FO y) fun _ _ h=> .inl h).trans k3 fun _ _ h=> .inr h) zc.2.1).may _ _) (af rfl) h1;have n4:=k4.next;have hcE:∀b,E b->¬b=cb:=fun b hb=>(C.e b hb).1
 have Yz:Kp m m4 (fun y=>y=cb\/FO y):=(k3.mono (S':=fun y=>y=cb\/FO y) fun _ _ h=> .inr h).trans k4 fun _ _ h=> .inl h
 have L4:=(L3.NQ (Kh:=E) (fun b hb _=>hb.elim id id) fun b hb h=>by have :=hE b h;omega).ext k4 fun b hb=>hb.elim (fun h=>by omega) (hcE b)
 have hA:∀b,AO b\/E b->¬(b=cb\/FO b):=fun b hb=>by
  rintro(h|h)
  ·exact hb.elim (fun hb=>(C.ao b hb).1 h) fun hb=>hcE b hb h
  ·exact hb.elim (fun hb=>(C.fo b h).2.2.1 hb) fun hb=>(C.fo b h).2.2.2 hb
 refine⟨m2,m3,m4,s',e2,aO C.ob rfl,e3,e4,Yz,o4,L4,C.a.ext Yz hA,fun _=>?_,(aW bS 1).ext C.ax Yz hA,fun h=>(C.s h).ext Yz fun h=>h.elim (fun e=>C.cm e.symm) fun h=>(C.fo mb h).2.1 rfl,C.one,C.cm,fun b hb=>?_,fun b hb=>?_,C.ao,C.e⟩
 ·subst rZ;have o34:=o3.ext k4 (show¬m.next+1=cb by omega);refine⟨Hj,by rw[List.length_append];exact o34.sl (by have :=hc3.one.1;simpa using this) (.inl rfl),fun b o n c e=>(by cases e;exact .inl rfl),hc3.mono fun y v _ w=>⟨bS.mono (bS.ext w.1 k4 fun b hb=>hb.elim (hcE b) (hcE b)) fun b hb=> .inr (hb.elim id id),w.2⟩⟩
 ·have hold:∀b,b=cb\/b=mb\/FO b\/AO b\/E b->¬SB b/\m0.next<=b/\b<m4.next:=fun b hb=>by have :=C.z b hb;exact⟨this.1,this.2.1,aj⟩
  rcases hb with h|h|h|h|h
  ·exact hold b (.inl h)
  ·exact hold b (.inr (.inl h))
  ·exact⟨fun h'=>by have :=uM b h';omega,by have :=k0.next;omega,aj⟩
  ·exact hold b (.inr (.inr (.inr (.inl h))))
  ·exact hold b (.inr (.inr (.inr (.inr h))))
 ·have zm:=C.z mb (.inr (.inl rfl));exact⟨aj,aj,fun h=>by have :=C.z b (.inr (.inr (.inr (.inl h))));omega,fun h=>by have :=hE b h;omega⟩
end
end Go.AM
namespace Go.AM
set_option maxRecDepth 1000000
open Go Go.Conc Go.Proofs
section
variable {K:gI}{m0 m:Mem}{S SB FO AO E:Nat->Prop}{cb mb:Nat}{gz:Bool}{fresh all sn sn':List (List V)}{fv av:ae}
theorem sA.set{m':Mem}(C:sA m0 m cb mb gz SB FO AO E fresh all sn fv av)(k:Kp m m' (fun y=>y=mb))(hs:oD m' mb (sn'.map hdR))(h1:∀x∈sn',x.length=1):sA m0 m' cb mb gz SB FO AO E fresh all sn' fv av:=
 have hF:∀b,FO b\/E b->¬b=mb:=fun b hb=>hb.elim (fun h=>(C.fo b h).2.1) fun h=>(C.e b h).2
 have hA:∀b,AO b\/E b->¬b=mb:=fun b hb=>hb.elim (fun h=>(C.ao b h).2.1) fun h=>(C.e b h).2
 ⟨C.ob.ext k C.cm,C.f.ext k hF,C.a.ext k hA,fun h=>(aW bS 1).ext (C.fx h) k hF,(aW bS 1).ext C.ax k hA,fun _=>hs,fun _=>h1,C.cm,fun b hb=>by have h:=C.z b hb;have n:=k.next;exact⟨h.1,h.2.1,aj⟩,C.fo,C.ao,C.e⟩
theorem aco {x:V}{l:List (List V)}(h:∀x∈l,x.length=1):x∈l.map hdR↔[x]∈l:=by
 rw[List.mem_map];refine⟨fun⟨y,hy,e⟩=>?_,fun hx=>⟨_,hx,rfl⟩⟩;obtain⟨z,rfl⟩:=List.length_eq_one_iff.1 (h y hy);have e:z=x:=e;exact e▸hy
theorem Wr (A4:Calm m0)(k0:Kp m0 m S)(C:sA m0 m cb mb gz SB FO AO E [] all all fv av)(uM:∀b,SB b->b<m.next){made:List (List V)}{Q:Nat->Prop}{ra:Option Addr}{rc:Nat}(q:(aW bS 1).R Q made m (.slice ra made.length rc))(hQ:∀b,Q b->b<m.next/\b≠cb/\b≠mb/\¬FO b)(hQE:∀b,Q b->(m.blk b).sz=4->E b)
  (h1:gz=false->∀x∈made,x.length=1)(hn:made.length<9000){t0:Tm}(hg0:dM [0,28,29,30] t0=[vP cb 0,.slice ra made.length rc,vI (made.length:Int),vI 0]):
  ∃t1 m1 Qj FO',HQ K (jx 198) (fT 198 [6]) 100000 ⟨t0,m,[]⟩ (.exit 0) ⟨t1,m1,[]⟩/\dM [0] t1=[vP cb 0]/\Kp m m1 (fun y=>y=cb\/y=mb\/FO y)/\sA m0 m1 cb mb gz SB FO' AO E (lJ gz all made) all (all++lJ gz all made) Qj av:=by
 obtain⟨R,hR⟩:∃R,R=lJ gz all made:=⟨_,rfl⟩;rw[<-hR];have xE:=fun b hb=>(C.z b hb).2.2
 obtain⟨e,t1,m1,he,hx,rfl,Qj,FO',hg,k1,C1⟩:=gD (K:=K) (nt:=jx 198) (a:=fT 198 [6]) made.length
  (Inv:=fun j tm M=>∃acc Qi HP,dM [0,28,29,30] tm=[vP cb 0,.slice ra made.length rc,vI (made.length:Int),vI j]/\Kp m M (fun y=>y=cb\/y=mb\/FO y)/\sA m0 M cb mb gz SB HP AO E acc all (all++acc) Qi av/\(made.drop j).foldl (KQ gz all) acc=R/\acc.length<=j/\∀b,HP b->FO b\/m.next<=b)
  (dG:=fun e tm M=>e= .exit 0/\∃Qi HP,dM [0] tm=[vP cb 0]/\Kp m M (fun y=>y=cb\/y=mb\/FO y)/\sA m0 M cb mb gz SB HP AO E R all (all++R) Qi av)
  (by
   rintro j tm M hj ⟨acc,Qi,HP,hg,kM,CM,hr,Rf,Kt⟩
   left
   have nM:=kM.next;have k0M:Kp m0 M (fun y=>S y\/y=cb\/y=mb\/FO y):=(k0.mono (S':=fun y=>S y\/y=cb\/y=mb\/FO y) fun _ _ h=> .inl h).trans kM fun _ _ h=> .inr h
   have gM:=A4.gd.ext k0M;rw[List.drop_eq_getElem_cons hj,List.foldl_cons]at hr;have hQS:∀b,Q b->¬(b=cb\/b=mb\/FO b):=fun b hb h=>by have :=hQ b hb;rcases h with h|h|h<;>simp_all
   obtain⟨pb,pc,u,cs,e,hQb,ou,hu1,hu2,hu,ov⟩:=aW.get ((aW bS 1).ext q kM hQS) hj;cases e;have EY:gz=false->made[j].length=1:=fun h=>h1 h _ (List.getElem_mem hj)
   generalize made[j]=x at hr hu EY;obtain⟨rb,c,rfl,_,orw,hc⟩:=id hu;have huE:bS.R E x M (vL rb 0 x.length c):=bS.mono (bS.sz4 hu) fun b hb=>hQE b hb.1 (by rw[<-kM.blk b (hQ b hb.1).1 (hQS b hb.1)];exact hb.2)
   have l1:aT pb (0+j*1) M=some (vL rb 0 x.length c,M):=by
    rw[Nat.zero_add,Nat.mul_one];rw[Nat.mul_one]at hu1;refine aO ou ?_;have :=congrArg (·[0]?) hu1;simpa[ae.cells]using this
   have l0:aT cb 0 M=some (.bool gz,M):=aO CM.ob rfl;have ahN:∀b,SB b->b<M.next:=fun b hb=>by have :=uM b hb;omega
   have hmv:∀{M':Mem},Kp M M' (fun y=>y=cb\/y=mb\/HP y)->Kp m M' (fun y=>y=cb\/y=mb\/FO y):=fun k=>kM.trans k fun b hb h=>h.imp id fun h=>h.imp id fun h=>(Kt b h).resolve_right aj
   cases gz with
   |true=>
    have ei:KQ true all acc x=acc++[x]:=bZ cY;rw[ei]at hr;obtain⟨m2,m3,m4,Qj,e2,l2,e3,e4,k4,C4⟩:=ON A4 k0M CM ahN huE ov aj;obtain⟨t2,gm,gA⟩:=bL (K:=K) AV (ae6 cb pb made.length rc j rb x.length c Qi Qj _) hg (.cond (P3 hj)<| .idx rfl hj<| .mem l1<| .mem l0<| .rp rfl<| .mem l2<| .mem e2<| .mem e3<| .mem e4 .nil);rw[add1 aj]at gA;exact⟨t2,m4,gm,_,_,_,gA,hmv (k4.mono fun _ _ h=>h.imp id .inr),{C4 with s:=fun h=>(by cases h),one:=fun h=>by cases h},hr,by simp;omega,fun b hb=> .inr aj⟩
   |false=>
    obtain⟨y,rfl⟩:=List.length_eq_one_iff.1 (EY rfl);have akt:rK M (vL rb 0 1 c) [y]:=orw.sl (by rw[iq];rfl) hc;obtain⟨M1,e1,k1,s1⟩:=alH (K:=K) gM (CM.s rfl) akt;have hm:y∈(all++acc).map hdR↔[y]∈all++acc:=aco (CM.one rfl);have lm:aT cb 1 M=some (.map (some mb),M):=aO CM.ob rfl;have n1:=k1.next
    by_cases nN:[y]∈all++acc
    ·have ei:KQ false all acc [y]=acc:=bK ⟨rfl,nN⟩;rw[ei]at hr;rw[bK (hm.2 nN)]at s1;rw[vc (hm.2 nN)]at e1;obtain⟨t2,gm,gA⟩:=bL (K:=K) AV (ae2 cb mb pb made.length rc j rb 1 c) hg (.cond (P3 hj)<| .idx rfl hj<| .mem l1<| .mem l0<| .rp rfl<| .mem lm<| .cond rfl<| .cond rfl<| .call e1<| .cond rfl<| .cond rfl .nil);rw[add1 aj]at gA;exact⟨t2,M1,gm,_,_,_,gA,hmv (k1.mono fun _ _ h=> .inr (.inl h)),CM.set k1 s1 (CM.one rfl),hr,aj,Kt⟩
    ·have ei:KQ false all acc [y]=acc++[[y]]:=bZ fun h=>nN h.2
     rw[ei]at hr;rw[bZ fun h=>nN (hm.1 h)]at s1;rw[qV fun h=>nN (hm.1 h)]at e1;have C1:sA m0 M1 cb mb false SB HP AO E acc all (all++(acc++[[y]])) Qi av:=CM.set k1 (by rw[<-List.append_assoc,List.map_append];exact s1) fun z hz=>by
      rw[<-List.append_assoc]at hz;rcases List.mem_append.1 hz with h|h
      ·exact CM.one rfl z h
      ·rw[List.mem_singleton.1 h];rfl
     have Jf:∀b,E b->¬b=mb:=fun b hb=>(CM.e b hb).2
     obtain⟨m2,m3,m4,Qj,e2,l2,e3,e4,k4,C4⟩:=ON A4 ((k0M.mono (S':=fun y=>S y\/y=cb\/y=mb\/FO y) fun _ _ h=>h).trans k1 fun _ _ h=> .inr (.inr (.inl h))) C1 (fun b hb=>by have :=ahN b hb;omega) (bS.ext huE k1 Jf) ov aj;obtain⟨t2,gm,gA⟩:=bL (K:=K) AV (ae3 cb mb pb made.length rc j rb 1 c Qi Qj _) hg (.cond (P3 hj)<| .idx rfl hj<| .mem l1<| .mem l0<| .rp rfl<| .mem lm<| .cond rfl<| .cond rfl<| .call e1<| .cond rfl<| .cond rfl<| .mem l2<| .mem e2<| .mem e3<| .mem e4 .nil);rw[add1 aj]at gA;exact⟨t2,m4,gm,_,_,_,gA,hmv ((k1.mono (S':=fun y=>y=cb\/y=mb\/HP y) fun _ _ h=> .inr (.inl h)).trans k4 fun _ _ h=>h.imp id .inr),C4,hr,by simp;omega,fun b hb=> .inr aj⟩)
  (by
   rintro tm M ⟨acc,Qi,HP,hg,kM,CM,hr,Rf,Kt⟩;rw[List.drop_length]at hr;have hr:acc=R:=hr;subst hr;have GX:dM [0,29,30] tm=[vP cb 0,vI (made.length:Int),vI (made.length:Int)]:=by
    simp only[dM,List.map_cons,List.map_nil,List.cons.injEq,and_true]at hg⊢;exact⟨hg.1,hg.2.2.1,hg.2.2.2⟩
   obtain⟨t2,gm,gA⟩:=bL (K:=K) (m:=M) (m':=M) AV (ae4 cb made.length made.length) GX (.cond (Yg _) .nil);exact⟨_,t2,M,nU,gm,rfl,_,_,gA,kM,CM⟩)
  (tm:=t0) (m:=m) ⟨[],fv,FO,hg0,.refl _ _,by rw[List.append_nil];exact C,hR.symm,ai _,fun b hb=> .inl hb⟩ aj
 exact⟨t1,m1,Qj,FO',hx,hg,k1,C1⟩
end
end Go.AM
namespace Go.AM
set_option maxRecDepth 1000000
open Go Go.Conc Go.Proofs
theorem mz.room{α:Type}{E:nB α}{sz:Nat}{BO BE:Nat->Prop}{m:Mem}{acc:List α}{sv:ae}(h:mz E sz BO BE m acc sv):∃o,Room sz m sv o/\∀b,o=some b->BO b/\Own m b:=by
 rcases h with⟨_,rfl⟩|⟨b,cs,rest,rfl,hb,hw,ob,ik⟩
 ·exact⟨none,.inl ⟨rfl,rfl⟩,fun b e=>by cases e⟩
 ·have :=ik.one.1;exact⟨some b,.inr ⟨b,_,_,rfl,rfl,ob.ro,by simp;omega⟩,fun b e=>by cases e;exact⟨hb.1,hw⟩⟩
theorem Zf {B:Nat->Prop}{l:List (List V)}{m:Mem}{v:ae}(h:(aW bS 1).R B l m v):(aW bS 1).R (fun b=>B b/\b<m.next) l m v:=by
 obtain⟨cs,h1,h2,h3⟩:=h;refine⟨cs,h1,fun b o n c e=>⟨h2 b o n c e,?_⟩,h3.mono fun x u _ w=>⟨?_,w.2⟩⟩
 ·rcases h1.2 with⟨e',_⟩|⟨b',c',e',ob,_⟩
  ·rw[e']at e;cases e
  ·rw[e']at e;cases e;exact ob.lt
 ·obtain⟨b,c,e,hb,o,hc⟩:=w.1;exact⟨b,c,e,⟨hb,o.lt⟩,o,hc⟩
section
variable {K:gI}{m0 m:Mem}{B BT S SB FO AO E:Nat->Prop}{cb mb d:Nat}{gz:Bool}{fresh all:List (List V)}{fv av v:ae}{Tb:Nat->Option (List (List V))}
theorem aiq (hK:Ej K)(A4:Calm m0)(k0:Kp m0 m S){iP:List (List Nat)}{cs:List ae}{bo bm:Nat->Option Nat}{al am:Option Nat}{rl:ae}(D:dg m d SB iP cs bo al bm am rl)(C:sA m0 m cb mb gz SB FO AO E fresh all all fv av){s:sw}(hs:uf.R B s m v)(jL:fM BT Tb m)(mP:∀b,B b\/BT b->¬SB b/\b<m.next)
  (ep:pQ Tb s)(h1:gz=false->∀x∈eW Tb s,x.length=1)(hl:(all++lJ gz all (eW Tb s)).length<=1000):
  ∃m' Eg tB gL uT pP Dr Ee Kk FO' AO' E' Qj av',Ev K 198 [vP cb 0,v,vP d 0] m (vI 0) m'/\Kp m m' (fun b=>SB b\/b=cb\/b=mb\/FO b\/AO b)/\dg m' d Eg tB gL uT pP Dr Ee Kk/\
   sA m0 m' cb mb gz Eg FO' AO' E' (lJ gz all (eW Tb s)) (all++lJ gz all (eW Tb s)) (all++lJ gz all (eW Tb s)) Qj av'/\(∀b,Eg b->(SB b\/m.next<=b)/\b<m'.next):=by
 obtain⟨xs,xw,xi,rfl,q1,q2,q3⟩:=hs;have cm:=A4.ext k0;obtain⟨D0,OA⟩:=D.exact;obtain⟨b4,hb4⟩:∃b,b=m.next:=⟨_,rfl⟩;obtain⟨m1,e1,o1,k1,n1,_⟩:=aY cm.gd [xs,xw,xi];rw[<-hb4]at e1 o1;have CL:=cm.ext k1;have l1:fg 3 b4 0 m1=some (.agg #[xs,xw,xi],m1):=bY (vs:=[xs,xw,xi]) o1 rfl (af rfl);have f1:∀{b},b<m.next->b<m1.next:=fun h=>by omega
 have old:=fun{α:Type}{E:nB α}{x:α}{u:ae} (h:E.R B x m u)=>E.ext h k1 fun _ _ h=>h
 obtain⟨rv,m2,tB,gL,uT,pP,Dr,Ee,Kk,e2,k2,D2,qr,_⟩:=aaL hK CL (D0.aU k1) (old q1) (old q2) (old q3) (jL.ext k1 fun _ _ h=>h) (fun b hb=>⟨fun h=>(mP b hb).1 (OA b h).1,f1 (mP b hb).2⟩) ep.src ep.join ep.jl ep.wh ep.max ep.rM ep.il;have Ws:=CL.ext k2;have n2:=k2.next;obtain⟨D3,Y4⟩:=D2.exact;obtain⟨SX,hSX⟩:∃SX,SX=Am d uT Dr pP Ee:=⟨_,rfl⟩;rw[<-hSX]at D3 Y4;obtain⟨made,vj⟩:∃l,l=eW Tb s:=⟨_,rfl⟩;rw[show xB Tb s.2.2 (jj Tb s.2.1 (jy Tb s.1 0 [eO]))=eW Tb s from rfl,<-vj]at qr;rw[<-vj]at h1 hl⊢;have hml:made.length<=1000:=by
  have :(eW Tb s).length<=0+(jj Tb s.2.1 (jy Tb s.1 0 [eO])).length:=xd (fun i=>ai _) _ _ [];have :=ep.max;rw[vj];omega
 have Oy:∀b,b<m.next->SX b->SB b:=fun b hb h=>(Y4 b h).1.elim (fun h=>(OA b h).1) fun h=>by have :=h.1;omega
 have z:=C.z;have zE:∀b,E b->¬SB b/\m0.next<=b/\b<m.next:=fun b h=>z b (.inr (.inr (.inr (.inr h))))
 have zA:∀b,AO b->¬SB b/\m0.next<=b/\b<m.next:=fun b h=>z b (.inr (.inr (.inr (.inl h))))
 have zF:∀b,FO b->¬SB b/\m0.next<=b/\b<m.next:=fun b h=>z b (.inr (.inr (.inl h)))
 have zc:=z cb (.inl rfl);have zm:=z mb (.inr (.inl rfl));have C2:=(C.ext k1 fun _ _ h=>h).ext k2 fun b hb h=>(z b hb).1 (OA b h).1
 have mn:Kp m m2 SB:=k1.vF.trans (k2.mono (S':=SB) fun b hb h=>(OA b h).1) fun _ _ h=>h
 have N0:=k0.next;obtain⟨E',hE'⟩:∃E':Nat->Prop,E'=fun b=>E b\/(jS m1 m2 b/\¬SX b):=⟨_,rfl⟩
 have toE:∀b,E b->E' b:=fun b h=>by rw[hE'];exact .inl h
 have ofE:∀b,E' b->(E b\/m.next<b)/\b<m2.next/\¬SX b:=fun b h=>by
  rw[hE']at h;rcases h with h|h
  ·exact⟨.inl h,by have :=(zE b h).2.2;omega,fun h'=>(zE b h).1 (Oy b (zE b h).2.2 h')⟩
  ·exact⟨.inr (by have :=h.1.1;omega),h.1.2,h.2⟩
 obtain⟨o,ru,hoF⟩:=C2.f.room;obtain⟨Mk,m3,e3,k3,L3⟩:=ZA (K:=K) agU (t:=29) (sz:=1) rfl (E:=bS) ru fun b h=>(hoF b h).2
 have n3:=k3.next;have wF:=Ws.ext k3;have Of:∀b,o=some b->b≠cb/\b≠mb/\¬AO b/\¬E b/\b<m.next/\m0.next<=b/\¬SB b:=fun b h=>by
  have h:=(hoF b h).1;have h1:=C.fo b h;have h2:=zF b h;exact⟨h1.1,h1.2.1,h1.2.2.1,h1.2.2.2,h2.2.2,h2.2.1,h2.1⟩
 have aj5:=C2.ob.ext k3 fun h=>(Of cb h).1 rfl
 have kb3:Kp m0 m3 (fun b=>S b\/SB b\/o=some b):=(((k0.mono (S':=fun b=>S b\/SB b\/o=some b) fun _ _ h=> .inl h).trans mn fun _ _ h=> .inr (.inl h))).trans k3 fun _ _ h=> .inr (.inr h)
 have km:mH Mk=true:=L3.one;obtain⟨m4,e4,o4,k4⟩:=lQ (o:=2) Mk aj5 ((A4.gd.own kb3 zc.2.1).may _ _) (af rfl) km;have n4:=k4.next;have Ra:Kp m2 m4 (fun b=>b=cb\/o=some b):=(k3.mono (S':=fun b=>b=cb\/o=some b) fun _ _ h=> .inr h).trans k4 fun _ _ h=> .inl h
 have Jd:∀b,m1.next<=b->¬(b=cb\/o=some b):=fun b hb h=>by
  rcases h with h|h
  ·omega
  ·have :=(Of b h).2.2.2.2.1;omega
 have kb4:Kp m0 m4 (fun b=>S b\/SB b\/b=cb\/o=some b):=((k0.mono (S':=fun b=>S b\/SB b\/b=cb\/o=some b) fun _ _ h=> .inl h).trans mn fun _ _ h=> .inr (.inl h)).trans Ra fun _ _ h=> .inr (.inr h)
 have hA4:∀b,AO b\/E' b->¬(b=cb\/o=some b):=fun b hb=>by
  rcases hb with h|h
  ·exact fun h'=>h'.elim (C.ao b h).1 fun h'=>(Of b h').2.2.1 h
  ·rcases(ofE b h).1 with h2|h2
   ·exact fun h'=>h'.elim (C.e b h2).1 fun h'=>(Of b h').2.2.2.1 h2
   ·exact Jd b aj
 have C4:sA m0 m4 cb mb gz SX (fun b=>o=some b) AO E' [] all all Mk av:=by
  refine⟨o4,(L3.NQ (Kh:=E') (fun b h=>h.elim) fun b h h'=>?_).ext k4 fun b hb=>?_,((C2.a.NQ (Kh:=E') (fun b h _=>toE b h) fun b h h'=>?_).ext Ra hA4),fun h=>absurd rfl h,(aW bS 1).ext ((aW bS 1).mono C2.ax fun b h=>h.imp id (toE b)) Ra hA4,fun h=>(C2.s h).ext Ra fun h=>?_,C.one,C.cm,fun b hb=>?_,fun b h=>?_,fun b h=>⟨(C.ao b h).1,(C.ao b h).2.1,fun h'=>?_⟩,fun b h=>?_⟩
  ·rcases(ofE b h').1 with h2|h2
   ·exact(Of b h).2.2.2.1 h2
   ·have :=(Of b h).2.2.2.2.1;omega
  ·rcases hb with h|h
   ·exact(Of b h).1
   ·rcases(ofE b h).1 with h2|h2
    ·exact(C.e b h2).1
    ·omega
  ·rcases(ofE b h').1 with h2|h2
   ·exact(C.ao b h).2.2 h2
   ·have :=(zA b h).2.2;omega
  ·exact h.elim (fun e=>C.cm e.symm) fun h=>(Of mb h).2.1 rfl
  ·have hold:∀b,(¬SB b/\m0.next<=b/\b<m.next)->¬SX b/\m0.next<=b/\b<m4.next:=fun b h=>⟨fun h'=>h.1 (Oy b h.2.2 h'),h.2.1,aj⟩
   rcases hb with h|h|h|h|h
   ·exact hold b (z b (.inl h))
   ·exact hold b (z b (.inr (.inl h)))
   ·exact hold b ⟨(Of b h).2.2.2.2.2.2,(Of b h).2.2.2.2.2.1,(Of b h).2.2.2.2.1⟩
   ·exact hold b (zA b h)
   ·have :=ofE b h;exact⟨this.2.2,this.1.elim (fun h=>(zE b h).2.1) fun h=>by omega,aj⟩
  ·have :=Of b h;exact⟨this.1,this.2.1,this.2.2.1,fun h'=>(ofE b h').1.elim this.2.2.2.1 fun h'=>by omega⟩
  ·exact(ofE b h').1.elim (C.ao b h).2.2 fun h'=>by have :=(zA b h).2.2;omega
  ·rcases(ofE b h).1 with h2|h2
   ·exact C.e b h2
   ·exact⟨aj,aj⟩
 obtain⟨ra,rc,rfl⟩:=aW.form qr;have hQn:∀b,jS m1 m2 b->m1.next<=b/\b<m2.next:=fun b h=>h
 have iB:∀b,jS m1 m2 b->(m4.blk b).sz=(m2.blk b).sz:=fun b h=>by rw[Ra.blk b (hQn b h).2 (Jd b (hQn b h).1)]
 obtain⟨t0,w0,g0⟩:=cj (K:=K) (m:=m) (m':=m4) (tm:=entry [vP cb 0,.agg #[xs,xw,xi],vP d 0]) (ae7 cb d b4 made.length rc ra xs xw xi fv Mk) rfl (.mem e1<| .mem l1<| .call e2<| .cond rfl<| .mem (aO C2.ob rfl)<| .call e3<| .mem e4 .nil);obtain⟨t1,m5,fv5,FO5,hx,hg,k5,C5⟩:=Wr (K:=K) A4 kb4 C4 (fun b h=>by have :=(Y4 b h).2.1;omega) (made:=made) (Q:=jS m1 m2) ((aW bS 1).ext qr Ra fun b h=>Jd b (hQn b h).1) (fun b h=>⟨by have :=(hQn b h).2;omega,by have :=(hQn b h).1;omega,by have :=(hQn b h).1;omega,fun h'=>Jd b (hQn b h).1 (.inr h')⟩)
  (fun b h h4=>by rw[hE'];exact .inr ⟨h,fun h'=>by rw[iB b h]at h4;rcases(Y4 b h').2.2 with h|h|h<;>omega⟩) h1 aj g0
 have n5:=k5.next;have kb5:Kp m0 m5 (fun b=>S b\/SB b\/b=cb\/b=mb\/o=some b):=(kb4.mono (S':=fun b=>S b\/SB b\/b=cb\/b=mb\/o=some b) fun b _ h=>h.imp id fun h=>h.imp id fun h=>h.imp id .inr).trans k5 fun b _ h=> .inr (.inr h)
 have g5:=A4.gd.ext kb5;have z5:=C5.z;have e5E:∀b,E' b->b<m5.next:=fun b h=>(z5 b (.inr (.inr (.inr (.inr h))))).2.2
 obtain⟨av6,m6,e6,k6,L6,A6⟩:=C5.a.QA (t:=29) g5 rfl C5.f.first (fun b h=>(C5.ao b h).2.2) e5E e5E (by simp at hl;omega);have n6:=k6.next;have aj4:=C5.ob.ext k6 fun h=>(C5.ao cb h).1 rfl
 obtain⟨m7,e7,o7,k7⟩:=lQ (o:=3) av6 aj4 ((A4.gd.own ((kb5.mono (S':=fun b=>(S b\/SB b\/b=cb\/b=mb\/o=some b)\/AO b) fun _ _ h=> .inl h).trans k6 fun _ _ h=> .inr h) zc.2.1).may _ _) (af rfl) L6.one;have n7:=k7.next;have k57:Kp m5 m7 (fun b=>b=cb\/AO b):=(k6.mono (S':=fun b=>b=cb\/AO b) fun _ _ h=> .inr h).trans k7 fun _ _ h=> .inl h
 obtain⟨aa,ac,rfl⟩:=C5.a.form;obtain⟨fa,fc,rfl⟩:=C5.f.form;obtain⟨ga,gc,rfl⟩:=L6.form;obtain⟨t2,w2,g2⟩:=cj (K:=K) (m:=m5) (m':=m7) (ae5 cb all.length ac (lJ gz all made).length fc (all++lJ gz all made).length gc aa fa ga) hg (.mem (aO C5.ob rfl)<| .mem (aO C5.ob rfl)<| .mem (bP g5)<| .mem e6<| .mem (bP (g5.ext k6))<| .mem e7<| .mem (aO o7 rfl)<| .cond (dF (Ku (j:=1000))) .nil);have hF5:∀b,FO5 b->¬(b=cb\/AO b):=fun b h h'=>h'.elim (C5.fo b h).1 (C5.fo b h).2.2.1
 have hE5:∀b,E' b->¬(b=cb\/AO b):=fun b h h'=>h'.elim (C5.e b h).1 fun h'=>(C5.ao b h').2.2 h
 have hA7:∀b,(b=m5.next/\b<m6.next)\/E' b->¬b=cb:=fun b hb=>by
  rcases hb with h|h
  ·have :=(z5 cb (.inl rfl)).2.2;omega
  ·exact(C5.e b h).1
 refine⟨m7,SX,tB,gL,uT,pP,Dr,Ee,Kk,FO5,fun b=>b=m5.next/\b<m6.next,E',.slice fa (lJ gz all made).length fc,.slice ga (all++lJ gz all made).length gc,fW agH (aQ.cut w0 (aQ.sK hx (aQ.last w2 PM))) (.inr rfl) g2,?_,?_,?_,fun b h=>?_⟩
 ·refine((((mn.mono (S':=fun b=>SB b\/b=cb\/b=mb\/FO b\/AO b) fun _ _ h=> .inl h).trans Ra ?_).trans k5 ?_).trans k57 ?_)
  ·exact fun b _ h=> .inr (h.elim .inl fun h=> .inr (.inr (.inl (hoF b h).1)))
  ·exact fun b _ h=> .inr (h.imp id fun h=>h.imp id fun h=> .inl (hoF b h).1)
  ·exact fun b _ h=> .inr (h.imp id fun h=> .inr (.inr h))
 ·refine((D3.ext Ra fun b h h'=>?_).ext k5 fun b h h'=>?_).ext k57 fun b h h'=>?_
  ·rcases h' with h'|h'
   ·exact(z5 b (.inl h')).1 h
   ·have :=Of b h';exact this.2.2.2.2.2.2 (Oy b this.2.2.2.2.1 h)
  ·rcases h' with h'|h'|h'
   ·exact(z5 b (.inl h')).1 h
   ·exact(z5 b (.inr (.inl h'))).1 h
   ·have :=Of b h';exact this.2.2.2.2.2.2 (Oy b this.2.2.2.2.1 h)
  ·rcases h' with h'|h'
   ·exact(z5 b (.inl h')).1 h
   ·exact(z5 b (.inr (.inr (.inr (.inl h'))))).1 h
 ·refine⟨o7,C5.f.ext k57 fun b hb=>hb.elim (hF5 b) (hE5 b),(L6.lt.NQ (Kh:=E') (fun b h _=>h.elim id id) fun b h h'=>?_).ext k7 hA7,fun h=>(aW bS 1).ext (C5.fx h) k57 fun b hb=>hb.elim (hF5 b) (hE5 b),(aW bS 1).ext ((aW bS 1).mono (Zf A6) fun b h=>h.1.imp (fun e=>⟨e,h.2⟩) fun h=>h.elim id id) k7 hA7,fun h=>(C5.s h).ext k57 fun h=>h.elim (fun e=>C.cm e.symm) fun h=>(C5.ao mb h).2.1 rfl,C5.one,C.cm,fun b hb=>?_,fun b h=>⟨(C5.fo b h).1,(C5.fo b h).2.1,fun e=>?_,(C5.fo b h).2.2.2⟩,fun b h=>⟨?_,?_,fun h'=>?_⟩,C5.e⟩
  ·have :=e5E b h';omega
  ·have hold:∀b,(¬SX b/\m0.next<=b/\b<m5.next)->¬SX b/\m0.next<=b/\b<m7.next:=fun b h=>⟨h.1,h.2.1,aj⟩
   rcases hb with h|h|h|h|h
   ·exact hold b (z5 b (.inl h))
   ·exact hold b (z5 b (.inr (.inl h)))
   ·exact hold b (z5 b (.inr (.inr (.inl h))))
   ·exact⟨fun h'=>by have :=(Y4 b h').2.1;omega,by have :=kb5.next;omega,aj⟩
   ·exact hold b (z5 b (.inr (.inr (.inr (.inr h)))))
  ·have :=(z5 b (.inr (.inr (.inl h)))).2.2;omega
  ·have :=(z5 cb (.inl rfl)).2.2;omega
  ·have :=(z5 mb (.inr (.inl rfl))).2.2;omega
  ·have :=e5E b h';omega
 ·have :=Y4 b h;refine⟨this.1.elim (fun h=> .inl (OA b h).1) fun h=> .inr (by have :=h.1;omega),aj⟩
end
end Go.AM
