/-
  What the claim stands on, part 7.
-/
import Derived.Test.YtgfppohfgconeaaGreatDoorH6
import Derived.Sort.LotD3
import Derived.Sort.LotD5
set_option linter.unusedVariables false
set_option linter.unusedSimpArgs false
open Go.Proofs.Tryz renaming prog → ab
open Go renaming Value → ae, IntKind → bU
open Nat renaming le_of_ble_eq_true → af, le_refl → aj, eq_of_beq_eq_true → ay, lt_of_lt_of_le → aW, le_trans → bV
open Bool renaming and_eq_true → ag
open Option.some renaming injEq → ah
open Prod.mk renaming injEq → au
open List renaming all_eq_true → aB
open Option renaming map_some → cU
namespace Go.AM
set_option maxRecDepth 1000000
open Go Go.Conc Go.Proofs
def fh (l:List V):List ae:=l.flatMap V.cells
theorem fc (l:List V):(fh l).length=l.length*4:=by
 unfold fh
 induction l with
 |nil=>rfl
 |cons a l ih=>simp only[List.flatMap_cons,List.length_append,ih,List.length_cons];show 4+_=_;omega
theorem pj:∀{l:List V}{i:Nat}{x:V},l[i]?=some x->((fh l).drop (i*4)).take 4=x.cells
 |a::l,0,x,h=>by
  simp only[List.getElem?_cons_zero,ah]at h;subst h;unfold fh;rw[List.flatMap_cons,Nat.zero_mul,List.drop_zero];exact List.take_left' rfl
 |a::l,i+1,x,h=>by
  unfold fh;have :(i+1)*4=a.cells.length+i*4:=by show _=4+_;omega
  rw[List.flatMap_cons,this,List.drop_length_add_append];exact pj (l:=l) (by simpa using h)
abbrev nH (m:Mem)(v:ae)(l:List V):Prop:=mY m v 4 l.length (fh l)
theorem nH.ld{m:Mem}{l:List V}{i b n c:Nat}{x:V}(h:nH m (vL b 0 n c) l)(hx:l[i]?=some x):eU 4 b (0+i*4) m=some (x.val,m):=by
 obtain⟨_,⟨e,_⟩|⟨b',c',e,ho,_⟩⟩:=h
 ·cases e
 ·cases e;have cB:=(List.getElem?_eq_some_iff.1 hx).1;exact dX ho (by rw[Nat.zero_add];exact pj hx) (by rw[fc];omega)
def bP:List V->List V->Int
 | [],[]=>0
 | [],_::_=> -1
 |_::_,[]=>1
 |a::l,b::r=>if wJ a b≠0 then wJ a b else bP l r
section
variable {K:fZ}{m:Mem}
theorem SN:jy 154 3 [6]=true:=aU
theorem GM:jI (bN 154) 2=some (0,(bX 154 [2])):=aU
theorem GQ:lN (eY 154) (bN 154) (bX 154 [2]) 2 0=true:=aU
theorem afv (pa la ca pb lb cb:Nat):dJ 154 0 2 [0,1,2] [vL pa 0 la ca,vL pb 0 lb cb,.func (.func 155) #[] #[]]
 []
 .normal [0,1,2,11,12,13] [vL pa 0 la ca,vL pb 0 lb cb,.func (.func 155) #[] #[],vL pa 0 la ca,vI la,vI 0]:=dc
theorem afp (i pa la ca pb lb cb:Nat):aT 154 [2] 0 99 [0,1,2,11,12,13] [vL pa 0 la ca,vL pb 0 lb cb,.func (.func 155) #[] #[],vL pa 0 la ca,vI la,vI i]
 [aP (cO i la) false]
 (.exit 0) [0,1] [vL pa 0 la ca,vL pb 0 lb cb]:=dc
theorem aft (i pa la ca pb lb cb:Nat)(x:V)(gD:Nat):aT 154 [2] 0 99 [0,1,2,11,12,13] [vL pa 0 la ca,vL pb 0 lb cb,.func (.func 155) #[] #[],vL pa 0 la ca,vI la,vI i]
 [aP (cO i la) true,
  .idx i la i,
  .mem (eU 4 pa (0+i*4)) (gZ x),
  mB VP gD,
  uE gD 0 (Vq x),
  aP (gU i lb) true]
 .ret [6] [vI 1]:=dc
theorem afq (i pa la ca pb lb cb:Nat)(x y:V)(c:Int)(gD oU:Nat):aT 154 [2] 0 99 [0,1,2,11,12,13] [vL pa 0 la ca,vL pb 0 lb cb,.func (.func 155) #[] #[],vL pa 0 la ca,vI la,vI i]
 [aP (cO i la) true,
  .idx i la i,
  .mem (eU 4 pa (0+i*4)) (gZ x),
  mB VP gD,
  uE gD 0 (Vq x),
  aP (gU i lb) false,
  .idx i lb i,
  .mem (eU 4 pb (0+i*4)) (gZ y),
  mB VP oU,
  uE oU 0 (Vq y),
  uF 4 gD (gZ x),
  uF 4 oU (gZ y),
  .bM (.func (.func 155) #[] #[]) [gZ x,gZ y] (vI c),
  aP (nK c 0) true]
 .ret [6] [vI c]:=dc
theorem afr (i pa la ca pb lb cb:Nat)(x y:V)(c:Int)(gD oU:Nat):aT 154 [2] 0 99 [0,1,2,11,12,13] [vL pa 0 la ca,vL pb 0 lb cb,.func (.func 155) #[] #[],vL pa 0 la ca,vI la,vI i]
 [aP (cO i la) true,
  .idx i la i,
  .mem (eU 4 pa (0+i*4)) (gZ x),
  mB VP gD,
  uE gD 0 (Vq x),
  aP (gU i lb) false,
  .idx i lb i,
  .mem (eU 4 pb (0+i*4)) (gZ y),
  mB VP oU,
  uE oU 0 (Vq y),
  uF 4 gD (gZ x),
  uF 4 oU (gZ y),
  .bM (.func (.func 155) #[] #[]) [gZ x,gZ y] (vI c),
  aP (nK c 0) false]
 .normal [0,1,2,11,12,13] [vL pa 0 la ca,vL pb 0 lb cb,.func (.func 155) #[] #[],vL pa 0 la ca,vI la,vI (bL i 1)]:=dc
theorem afs (pa la ca pb lb cb:Nat):dJ 154 3 99 [0,1] [vL pa 0 la ca,vL pb 0 lb cb]
 [aP (cO la lb) true]
 .ret [6] [vI (-1)]:=dc
theorem afu (pa la ca pb lb cb:Nat):dJ 154 3 99 [0,1] [vL pa 0 la ca,vL pb 0 lb cb]
 [aP (cO la lb) false]
 .ret [6] [vI 0]:=dc
theorem ajM (pa la ca pb lb cb:Nat)(x1:Int):Path 117 [vL pa 0 la ca,vL pb 0 lb cb]
 [.call 154 [vL pa 0 la ca,vL pb 0 lb cb,.func (.func 155) #[] #[]] (vI x1)]
 (vI x1):=lV
theorem uT:iP 154 [2]:=aU
theorem E4:(di (bN 154)).length<=99:=af aU
theorem alU (g:Gd m){a b:List V}{pa ca pb cb:Nat}(ha:nH m (vL pa 0 a.length ca) a)(hb:nH m (vL pb 0 b.length cb) b)(hl:a.length<99999):
  ∃m',Ev K 154 [vL pa 0 a.length ca,vL pb 0 b.length cb,.func (.func 155) #[] #[]] m (vI (bP a b)) m'/\Kp m m' fu:=by
 obtain⟨A,hA⟩:∃A,A=vL pa 0 a.length ca:=⟨_,rfl⟩;obtain⟨B,hB⟩:∃B,B=vL pb 0 b.length cb:=⟨_,rfl⟩;obtain⟨t0,h0,e0⟩:=aR (K:=K) (tm:=entry [vL pa 0 a.length ca,vL pb 0 b.length cb,.func (.func 155) #[] #[]]) (afv pa a.length ca pb b.length cb) rfl (.nil (m:=m));obtain⟨e,t1,m1,he,hx,kp,hp⟩:=jx (K:=K) (nt:=eY 154) (a:=bX 154 [2])
  (Inv:=fun n tm m'=>∃i,n=a.length-i/\i<=a.length/\i<=b.length/\bu [0,1,2,11,12,13] tm=[A,B,.func (.func 155) #[] #[],A,vI (a.length:Int),vI i]/\Kp m m' fu/\bP a b=bP (a.drop i) (b.drop i))
  (dm:=fun e tm m'=>Kp m m' fu/\((e= .exit 0/\bu [0,1] tm=[A,B]/\a.length<=b.length/\bP a b=bP [] (b.drop a.length))\/(e= .ret/\bu [6] tm=[vI (bP a b)])))
  (by
   rintro n tm m1 ⟨i,rfl,hi,hib,hg,k,hc⟩;have g1:=g.ext k;have VH:=ha.cf k;have nN:=hb.cf k;rw[hA,hB]at hg
   by_cases h1:i<a.length
   ·obtain⟨x,hx⟩:∃x,a[i]?=some x:=⟨a[i],List.getElem?_eq_getElem h1⟩;have hda:a.drop i=x::a.drop (i+1):=by rw[List.drop_eq_getElem_cons h1];congr 1;exact Option.some.inj ((List.getElem?_eq_getElem h1).symm.trans hx)
    have c1:(.bool (cO i (a.length:Int)):ae)= .bool true:=by rw[fG,AA ai]
    obtain⟨m2,m3,e2,e3,o3,k3,n3⟩:=ly g1 (V.cells ⟨0,0,.empty,false⟩) x.cells rfl rfl
    by_cases h2:i<b.length
    ·obtain⟨y,hy⟩:∃y,b[i]?=some y:=⟨b[i],List.getElem?_eq_getElem h2⟩;have Em:b.drop i=y::b.drop (i+1):=by rw[List.drop_eq_getElem_cons h2];congr 1;exact Option.some.inj ((List.getElem?_eq_getElem h2).symm.trans hy)
     have g3:=g1.ext k3;obtain⟨m4,m5,e4,e5,o5,k5,n5⟩:=ly g3 (V.cells ⟨0,0,.empty,false⟩) y.cells rfl rfl;have g5:=g3.ext k5;obtain⟨m6,e6,k6⟩:=alT (K:=K) g5 x y;have kk:=((k.aZ k3).aZ k5).aZ k6
     by_cases h3:wJ x y=0
     ·left
      have hv:nK (wJ x y) 0=false:=by rw[jk,yA (by simp[h3])]
      obtain⟨t2,cN,cz⟩:=aI uT (afr i pa a.length ca pb b.length cb x y _ _ _) hg (.cond c1<| .idx rfl h1<| .mem (nH.ld VH hx)<| .mem e2<| .mem e3<| .cond (by rw[Hd,yA ai])<| .idx rfl h2<| .mem (nH.ld (nN.cf k3) hy)<| .mem e4<| .mem e5<| .mem (dX (o3.cf k5) rfl (aj 4))<| .mem (dX o5 rfl (aj 4))<| .bM e6<| .cond (by rw[hv]) .nil);refine⟨a.length-(i+1),t2,m6,ai,cN,i+1,rfl,h1,h2,?_,kk,?_⟩
      ·rw[cz,vd ⟨ai,ai⟩,hA,hB];rfl
      ·rw[hc,hda,Em]
       show(if wJ x y≠0 then wJ x y else bP (a.drop (i+1)) (b.drop (i+1)))=_
       rw[bW (by simp[h3])]
     ·right
      have hv:nK (wJ x y) 0=true:=by rw[jk,AA h3]
      obtain⟨t2,cN,cz⟩:=aI uT (afq i pa a.length ca pb b.length cb x y _ _ _) hg (.cond c1<| .idx rfl h1<| .mem (nH.ld VH hx)<| .mem e2<| .mem e3<| .cond (by rw[Hd,yA ai])<| .idx rfl h2<| .mem (nH.ld (nN.cf k3) hy)<| .mem e4<| .mem e5<| .mem (dX (o3.cf k5) rfl (aj 4))<| .mem (dX o5 rfl (aj 4))<| .bM e6<| .cond (by rw[hv]) .nil);refine⟨_,t2,m6,(by intro h;cases h),cN,kk,.inr ⟨rfl,?_⟩⟩;rw[cz,hc,hda,Em]
      show _=[vI (if wJ x y≠0 then wJ x y else _)]
      rw[bj h3]
    ·right
     obtain⟨t2,cN,cz⟩:=aI uT (aft i pa a.length ca pb b.length cb x _) hg
      (.cond c1<| .idx rfl h1<| .mem (nH.ld VH hx)<| .mem e2<| .mem e3<| .cond (by rw[Hd,AA ai]) .nil)
     refine⟨_,t2,m3,(by intro h;cases h),cN,k.aZ k3,.inr ⟨rfl,?_⟩⟩;rw[cz,hc,hda,show b.drop i=[]from List.drop_of_length_le ai];rfl
   ·right
    obtain⟨t2,cN,cz⟩:=aI uT (afp i pa a.length ca pb b.length cb) hg (.cond (by rw[fG,yA ai]) .nil);refine⟨_,t2,m1,(by intro h;cases h),cN,k,.inl ⟨rfl,by rw[cz,hA,hB],ai,?_⟩⟩;have :i=a.length:=ai;rw[hc,this,List.drop_length])
  (n:=a.length) (k:=100000) (tm:=t0) (m:=m) ⟨0,ai,ai,ai,by rw[e0,hA,hB];rfl,Kp.refl _ _,rfl⟩ ai
 refine⟨m1,?_,kp⟩;rcases hp with⟨rfl,hg,hle,hc⟩|⟨rfl,hg⟩
 ·rw[hA,hB]at hg
  by_cases h1:a.length<b.length
  ·obtain⟨t2,h2,e2⟩:=aR (afs pa a.length ca pb b.length cb) hg (.cond (K:=K) (by rw[fG,AA ai]) (.nil (m:=m1)));have hr:bP a b= -1:=by rw[hc,List.drop_eq_getElem_cons h1];rfl
   rw[hr];exact eB SN (aA.cut h0 (aA.E3 GM GQ hx rfl (aA.last h2 E4))) (.inr rfl) e2
  ·obtain⟨t2,h2,e2⟩:=aR (afu pa a.length ca pb b.length cb) hg (.cond (K:=K) (by rw[fG,yA ai]) (.nil (m:=m1)));have hr:bP a b=0:=by rw[hc,List.drop_of_length_le ai];rfl
   rw[hr];exact eB SN (aA.cut h0 (aA.E3 GM GQ hx rfl (aA.last h2 E4))) (.inr rfl) e2
 ·exact eB SN (aA.cut h0 (aA.Co GM GQ hx aU)) (.inr rfl) hg
theorem al1 (g:Gd m){a b:List V}{pa ca pb cb:Nat}(ha:nH m (vL pa 0 a.length ca) a)(hb:nH m (vL pb 0 b.length cb) b)(hl:a.length<99999):
  ∃m',Ev K 117 [vL pa 0 a.length ca,vL pb 0 b.length cb] m (vI (bP a b)) m'/\Kp m m' fu:=by
 obtain⟨m1,e1,k1⟩:=alU (K:=K) g ha hb hl;exact⟨m1,aY (ajM ..) (.call e1 .nil),k1⟩
end
end Go.AM
namespace Go.AM
set_option maxRecDepth 1000000
open Go Go.Conc Go.Proofs
section
variable {K:fZ}{c:Nat}{M1 M2:ae}{B:Nat->Prop}
theorem ahV {m m0:Mem}{S:Nat->Prop}{v:ae}{b s:Nat}(g:Gd m0)(k:Kp m0 m S)(hb:m0.next<=b)(hv:mV v=some b)(hs:(m.blk b).bK=s):fS (vI s) v (wF v) m=some (undef,m):=alx hv (by rw[k.floor];have :=g.fn;omega) hs
end
end Go.AM
namespace Go.AM
set_option maxRecDepth 1000000
open Go Go.Conc Go.Proofs
def Bm {α:Type}(E:oD α)(sz:Nat)(B:Nat->Prop)(m:Mem)(acc:List α)(sv:ae):Prop:=
 (acc=[]/\sv= .slice none 0 0)\/∃b cs c,sv=vL b 0 acc.length c/\(c=cH\/c=acc.length)/\0<acc.length/\B b/\Obj m b sz cs/\cJ (fun x u=>E.R (fun y=>B y/\y≠b) x m u/\okV sz u) acc cs
section
variable {α:Type}{E:oD α}{sz t:Nat}{m0 m m1:Mem}{acc:List α}{sv v:ae}{S B B':Nat->Prop}{x:α}
theorem Bm.ext(h:Bm E sz B m acc sv)(k:Kp m m1 S)(hS:∀b,B b->¬S b):Bm E sz B m1 acc sv:=by
 rcases h with h|⟨b,cs,c,e,hc,hp,hb,ob,gT⟩
 ·exact .inl h
 ·exact .inr ⟨b,cs,c,e,hc,hp,hb,ob.ext k (hS b hb),gT.mono fun x u _ w=>⟨E.ext w.1 k fun y hy=>hS y hy.1,w.2⟩⟩
theorem Bm.cf(h:Bm E sz B m acc sv)(k:Kp m m1 fu):Bm E sz B m1 acc sv:=h.ext k fun _ _ h=>h
theorem Bm.fin(h:Bm E sz B m acc sv):(aX E sz).R B acc m sv:=by
 rcases h with⟨rfl,rfl⟩|⟨b,cs,c,rfl,hc,hp,hb,ob,gT⟩
 ·exact aX.nil
 ·exact⟨cs,ob.sl gT.one.1 hc,fun b' o' n' c' e=>(by cases e;exact hb),gT.mono fun x u _ w=>⟨E.mono w.1 fun y hy=>hy.1,w.2⟩⟩
theorem Bm.nil:Bm E sz B m [] (.slice none 0 0):= .inl ⟨rfl,rfl⟩
theorem Bm.add(h:Bm E sz B m acc sv)(g:Gd m)(g0:Gd m0)(h0:Kp m0 m S)(ht:sI.contains (t,sz)=true)(hs6:sz<=6)(ZT:∀b,B b->m0.next<=b/\b<m.next)(q:E.R B' x m v)(hd:∀b,B b->¬B' b)(Re:∀b,B' b->b<m.next)(ov:okV sz v)(hl:acc.length<2^30):
  ∃m2 m3 s',bY ab t 1 [(0,v)] m=some (vL m.next 0 1 1,m2)/\Gd m2/\Kp m m2 fu/\cZ ab #[t,t] sv (vL m.next 0 1 1) m2=some (s',m3)/\Kp m m3 B/\Bm E sz (fun y=>B y\/B' y\/y=m.next+1) m3 (acc++[x]) s'/\lj s'=true/\m3.next=m.next+2:=by
 obtain⟨o2,k2,n2⟩:=gJ g (k:={kind:=1,sz:=sz,cs:=v.cells.toList.map some}) (cs:=v.cells.toList) rfl rfl rfl;obtain⟨m2,yC⟩:∃m2,m2=m.alloc {kind:=1,sz:=sz,cs:=v.cells.toList.map some}:=⟨_,rfl⟩;have e2:=bs1 (m:=m) ht ov.1 hs6;rw[<-yC]at e2 o2 k2 n2;have g2:=g.ext k2;have wY:mY m2 (vL m.next 0 1 1) sz 1 v.cells.toList:=o2.sl (by simp[ov.1]) (.inr rfl);have q2:=E.ext q k2 fun _ _ h=>h
 rcases h with⟨rfl,rfl⟩|⟨b,cs,c,rfl,hc,hp,hb,ob,gT⟩
 ·obtain⟨m3,e3,o3,k3,n3⟩:=O5 g2 ht wY ov.2 eS eS;refine⟨m2,m3,_,e2,g2,k2,e3,(k2.aZ k3).vl,?_,rfl,ai⟩;refine .inr ⟨m2.next,_,cH,rfl,.inl rfl,du,.inr (.inr ai),o3,⟨v,[],du,⟨E.mono (E.ext q2 k3 fun _ _ h=>h) fun y hy=>⟨.inr (.inl hy),by have :=Re y hy;omega⟩,ov⟩,rfl⟩⟩
 ·have nN:=(ZT b hb).1;have nU:=(ZT b hb).2;have ob2:=ob.cf k2;have Ql:∃m3,cZ ab #[t,t] (vL b 0 acc.length c) (vL m.next 0 1 1) m2=some (vL m2.next 0 (acc.length+1) cH,m3)/\Obj m3 m2.next sz (cs++v.cells.toList)/\Kp m2 m3 (fun y=>y=b)/\m3.next=m2.next+1:=by
   rcases hc with rfl|rfl
   ·exact Yq (rest:=[]) g2 ht (by simpa using ob2) gT.one.1 (g0.own (h0.aZ k2) nN) wY ov.2 ai
   ·obtain⟨m3,x1,x2,x3,x4⟩:=Ko g2 ht ob2 gT.one.1 eS wY ov.2 ai;exact⟨m3,x1,x2,x3.vl,x4⟩
  obtain⟨m3,e3,o3,k3,n3⟩:=Ql;refine⟨m2,m3,_,e2,g2,k2,e3,(k2.vl.trans (k3.mono fun y _ h=>by rw[h];exact hb) fun _ _ h=>h),?_,rfl,ai⟩;have KC:Kp m m3 (fun y=>y=b):=k2.vl.trans k3 fun _ _ h=>h
  refine .inr ⟨m2.next,_,cH,du,.inl rfl,du,.inr (.inr ai),o3,cJ.snoc ⟨E.mono (E.ext q KC fun y hy e=>hd b hb (e▸hy)) fun y hy=>⟨.inr (.inl hy),by have :=Re y hy;omega⟩,ov⟩
   (gT.mono fun x u _ w=>⟨E.mono (E.ext w.1 KC fun y hy e=>hy.2 e) fun y hy=>⟨.inl hy.1,by have :=ZT y hy.1;omega⟩,w.2⟩)⟩
end
def iH:oD (Option X) where
 R B x m v:=match x with |none=>v= .nilIface|some x=>XR B x m v
 mono:=by
  rintro B B' x m v h k;cases x with
  |none=>exact h
  |some x=>exact XR.mono k h
 ext:=by
  rintro B S x m m' v h k hs;cases x with
  |none=>exact h
  |some x=>exact XR.ext k hs h
end Go.AM
namespace Go.AM
set_option maxRecDepth 1000000
open Go Go.Conc Go.Proofs
theorem Io:∀(vs c a d:List ae),c.length=vs.length->sY (a++(c++d)) a.length vs=a++(vs++d)
 | [],[],a,d,_=>rfl
 | [],x::c,a,d,h=>by simp at h
 |v::vs,[],a,d,h=>by simp at h
 |v::vs,x::c,a,d,h=>by
  unfold sY;have e:(a++(x::c++d)).set a.length v=(a++[v])++(c++d):=du;rw[e,show a.length+1=(a++[v]).length by simp,Io vs c (a++[v]) d (by simpa using h)];simp
theorem rU (a b:List V):fh (a++b)=fh a++fh b:=by unfold fh;simp
theorem zH (x:V)(b:List V):fh (x::b)=x.cells++fh b:=by unfold fh;simp
theorem aiL {a b:List V}(x u:V):sY (fh (a++x::b)) (a.length*4) u.cells=fh (a++[u]++b):=by
 rw[rU,zH,<-fc a,Io u.cells x.cells (fh a) (fh b) rfl,rU,rU,zH];simp[fh]
theorem adM:ab.underlying 47=some (.slice 49):=aU
theorem aah:iw ab 49=some jw.val:=aU
noncomputable def Oi:Bool:=match ab.info? 49 with |some i=>Nat.beq i.size 4&&Nat.ble i.bytes 1000|none=>false
theorem abQ:∃i,ab.info? 49=some i/\i.size=4/\i.bytes<=1000:=by
 have h:Oi=true:=aU;unfold Oi at h
 split at h
 ·rename_i i hi;rw[ag]at h;exact⟨i,hi,ay h.1,af h.2⟩
 ·cases h
theorem aiy (n:Nat):((Array.range (n*4)).map (jw.val.cells[·%jw.val.cells.size]!)).toList=fh (List.replicate n jw):=by
 rw[Array.toList_map,Array.toList_range]
 induction n with
 |zero=>rfl
 |succ n ih=>
  rw[show(n+1)*4=n*4+4 by omega,List.range_add,List.map_append,ih,List.replicate_succ',rU]
  congr 1
  have h:jw.val.cells.size=4:=rfl;have e0:(n*4+0)%4=0:=ai;have e1:(n*4+1)%4=1:=ai;have e2:(n*4+2)%4=2:=ai;have e3:(n*4+3)%4=3:=ai
  show[jw.val.cells[(n*4+0)%jw.val.cells.size]!,jw.val.cells[(n*4+1)%jw.val.cells.size]!,jw.val.cells[(n*4+2)%jw.val.cells.size]!,jw.val.cells[(n*4+3)%jw.val.cells.size]!]=_
  rw[h,e0,e1,e2,e3];rfl
theorem ajY {m:Mem}{n:Nat}(hn:n<2^30):fP ab 47 (vI n) (vI n) m=some (vL m.next 0 n n,m.alloc {kind:=1,sz:=4,cs:=(fh (List.replicate n jw)).map some}):=by
 obtain⟨i,h1,h2,h3⟩:=abQ;unfold fP;simp only[adM,h1,aah];have hm:(n:Int)*(i.bytes:Int)<=(n:Int)*1000:=Int.mul_le_mul_of_nonneg_left ai ai;rw[bj ⟨ai,ai,ai,ai⟩];have e:((n:Int).toNat)=n:=ai;rw[e,h2,aiy]
def cR:oD (List V) where
 R B x m v:=∃b c,v=vL b 0 x.length c/\B b/\Obj m b 4 (fh x)/\(c=cH\/c=x.length)
 mono:=by
  rintro B B' x m v ⟨b,c,e,hb,o,h⟩ k;exact⟨b,c,e,k b hb,o,h⟩
 ext:=by
  rintro B S x m m' v ⟨b,c,e,hb,o,h⟩ k hs;exact⟨b,c,e,hb,o.ext k (hs b hb),h⟩
theorem cR.ok{B:Nat->Prop}{x:List V}{m:Mem}{v:ae}(h:cR.R B x m v):okV 1 v:=by
 obtain⟨b,c,rfl,_⟩:=h;exact⟨rfl,by simp[ae.cells,ae.oneCell']⟩
def mK (cv:Nat->Int->Int->V):List X->List V->List V×Int
 | [],acc=>(acc,0)
 |x::l,acc=>if(DI cv x).2≠0 then([],(DI cv x).2)else mK cv l (acc++[(DI cv x).1])
structure Scope (K:fZ)(R:Mem->Prop)(cv:Nat->Int->Int->V)(rv:ae):Prop where
 keep:∀m m',R m->Kp m m' fu->R m'
 Aq:∀p i j m b,pz (cv p i j)->Gd m->R m->Obj m b 0 [vP p 0,vI i,vI j]->∃m',Ev K 351 [vP b 0,rv] m (.tuple #[(cv p i j).val,vI 0]) m'/\Kp m m' fu
def YT (cv:Nat->Int->Int->V)(x:X):Prop:=x.all pz (fun p i j=>pz (cv p i j))
section
variable {K:fZ}{B:Nat->Prop}{m m0:Mem}
theorem af1 (n cc:Nat)(a:Option Addr)(sv rv:ae)(gD:Nat):dJ 111 0 3 [0,1,2] [sv,.slice a n cc,rv]
 [.mem (fP ab 47 (vI n) (vI n)) (vL gD 0 n n)]
 .normal [0,2,8,16,17,18] [sv,rv,vL gD 0 n n,.slice a n cc,vI n,vI 0]:=dc
theorem afY (q n cc i:Nat)(a:Option Addr)(sv rv:ae):aT 111 [3] 0 99 [0,2,8,16,17,18] [sv,rv,vL q 0 n n,.slice a n cc,vI n,vI i]
 [aP (cO i n) false]
 (.exit 0) [0,8] [sv,vL q 0 n n]:=dc
theorem af0 (p q n cc i:Nat)(sv rv xv:ae)(u:V)(z:Int)(gD:Nat):aT 111 [3] 0 99 [0,2,8,16,17,18] [sv,rv,vL q 0 n n,vL p 0 n cc,vI n,vI i]
 [aP (cO i n) true,
  .idx i n i,
  .mem (aD p (0+i*1)) xv,
  .lP (jQ ab xv "Of") [rv] (.tuple #[gZ u,vI z]),
  mB VP gD,
  uE gD 0 (Vq u),
  aP (nK z 0) true]
 .ret [6,7] [fq,vI z]:=dc
theorem afZ (p q n cc i:Nat)(sv rv xv:ae)(u:V)(gD:Nat):aT 111 [3] 0 99 [0,2,8,16,17,18] [sv,rv,vL q 0 n n,vL p 0 n cc,vI n,vI i]
 [aP (cO i n) true,
  .idx i n i,
  .mem (aD p (0+i*1)) xv,
  .lP (jQ ab xv "Of") [rv] (.tuple #[gZ u,vI 0]),
  mB VP gD,
  uE gD 0 (Vq u),
  dx,
  uF 4 gD (gZ u),
  .idx i n i,
  uE q (0+i*4) (Vq u)]
 .normal [0,2,8,16,17,18] [sv,rv,vL q 0 n n,vL p 0 n cc,vI n,vI (bL i 1)]:=dc
theorem afX (q n:Nat)(sv RN:ae)(gD:Nat):dJ 111 4 99 [0,8] [sv,vL q 0 n n]
 [.mem (bY ab 29 1 [(0,(vL q 0 n n))]) (vL gD 0 1 1),
  .mem (cZ ab #[29,29] sv (vL gD 0 1 1)) RN]
 .ret [6,7] [RN,vI 0]:=dc
theorem agw:jy 111 3 [6,7]=true:=aU
theorem PV:(di (bN 111)).length<=99:=af aU
theorem Gz:iP 111 [3]:=aU
end
end Go.AM
namespace Go.AM
set_option maxRecDepth 1000000
open Go Go.Conc Go.Proofs
structure Sd (m:Mem):Prop where
 deaf:m.deaf=0
 bf:m.base<=m.floor
 fn:m.floor<=m.next
 hn:m.home<=m.next
 bh:∀s∈m.bh,s.2.1<=m.next
section
variable {m m':Mem}{S B:Nat->Prop}
theorem Gd.sd(h:Gd m):Sd m:=⟨h.deaf,h.bf,h.fn,h.hn,h.bh⟩
theorem Sd.ext(h:Sd m)(k:Kp m m' S):Sd m':=
 ⟨k.deaf.trans h.deaf,by rw[k.base,k.floor];exact h.bf,by rw[k.floor];exact bV h.fn k.next,by rw[k.home];exact bV h.hn k.next,fun s hs=>by rw[k.bh]at hs;exact bV (h.bh s hs) k.next⟩
theorem Sd.fresh(h:Sd m){b:Nat}(hb:m.next<=b):aJ m.bh b=false:=gQ fun x hx _ h2=>by have :=h.bh x hx;omega
theorem Sd.own(h:Sd m)(k:Kp m m' S){b:Nat}(hb:m.next<=b):Own m' b:=by
 have h1:=h.fresh hb;unfold Own Mem.fA;rw[k.bh,k.base,k.floor,h1];have :=h.bf;have :=h.fn;simp only[Bool.not_false,Bool.true_and,ag,Bool.or_eq_true,iB];exact⟨ai,.inl ai⟩
theorem Sd.alloc(h:Sd m)(cs:List ae):∃m',lU (cs.map some) m=some (vP m.next 0,m')/\Obj m' m.next 0 cs/\Kp m m' fu/\m'.next=m.next+1/\(m'.blk m.next).pos=1:=by
 refine⟨m.alloc ⟨1,0,cs.map some,#[],0,.empty,1,0⟩,rfl,⟨Nat.lt_succ_self _,?_,?_,?_,h.fresh (aj _)⟩,⟨Nat.le_succ _,rfl,rfl,rfl,rfl,rfl,rfl,rfl,rfl,fun x hx _=>?_⟩,rfl,?_⟩
 ·rw[Mem.cD,bj rfl]
 ·rw[Mem.cD,bj rfl]
 ·rw[Mem.cD,bj rfl]
 ·rw[Mem.cD,bW ai]
 ·rw[Mem.cD,bj rfl]
theorem Sd.VY(h:Sd m)(z v:ae)(h1:lj v=true):∃m1 m2,lU [some z] m=some (vP m.next 0,m1)/\eH m.next 0 v m1=some (undef,m2)/\Obj m2 m.next 0 [v]/\Kp m m2 fu/\m2.next=m.next+1:=by
 obtain⟨m1,e1,o1,k1,n1,_⟩:=h.alloc [z];obtain⟨m2,e2,o2,k2⟩:=jF (o:=0) v o1 ((h.own k1 (aj _)).may _ _) (af rfl) h1;have e3:m2.next=m1.next:=by
  unfold eH at e2;rw[h1]at e2;simp only at e2
  split at e2
  ·split at e2
   ·split at e2
    ·cases e2;rfl
    ·cases e2
   ·cases e2
  ·cases e2
 exact⟨m1,m2,e1,e2,o2,k1.new k2 (N:=m.next) (aj _) fun b hb=>by rw[hb];exact aj _,ai⟩
structure RO (m:Mem)(b sz:Nat)(cs:List ae):Prop where
 lt:b<m.next
 kind:(m.blk b).kind=1
 sz:(m.blk b).sz=sz
 cs:(m.blk b).cs=cs.map some
theorem Obj.ro{b sz:Nat}{cs:List ae}(h:Obj m b sz cs):RO m b sz cs:=⟨h.lt,h.kind,h.sz,h.cs⟩
theorem RO.obj{b sz:Nat}{cs:List ae}(h:RO m b sz cs)(hv:aJ m.bh b=false):Obj m b sz cs:=⟨h.lt,h.kind,h.sz,h.cs,hv⟩
theorem RO.ext{b sz:Nat}{cs:List ae}(h:RO m b sz cs)(k:Kp m m' S)(hs:¬S b):RO m' b sz cs:=by
 have e:=k.blk b h.lt hs;exact⟨aW h.lt k.next,by rw[e];exact h.kind,by rw[e];exact h.sz,by rw[e];exact h.cs⟩
theorem RO.ld1{b sz o:Nat}{cs:List ae}{v:ae}(h:RO m b sz cs)(hv:cs[o]?=some v)(hm:meets m.bh b o 1=false):aD b o m=some (v,m):=by
 unfold aD;have hk:=h.kind;have hc:=h.cs;cases hb:m.blk b with
 |mk kind z c es clock str pos bK=>
  rw[hb]at hk hc;simp only at hk hc;subst hk hc;simp only[CP,hm,Bool.not_false,yh];have :(cs.map some).drop o=some v::(cs.drop (o+1)).map some:=by
   rw[<-List.map_drop];have hd:cs.drop o=v::cs.drop (o+1):=by
    obtain⟨cB,he⟩:=List.getElem?_eq_some_iff.1 hv;rw[<-he];exact List.drop_eq_getElem_cons cB
   rw[hd];rfl
  rw[this]
theorem RO.GO{b sz o:Nat}{cs:List ae}{v:ae}(h:RO m b sz cs)(hv:cs[o]?=some v)(hm:meets m.bh b o 1=false):m.dK b o 1=some [v]:=by
 obtain⟨cB,he⟩:=List.getElem?_eq_some_iff.1 hv;unfold Mem.dK;simp only[h.kind,hm,h.cs,beq_self_eq_true,Bool.not_false,Bool.and_self,if_true];rw[<-List.map_drop,kh (by simp;omega),List.drop_eq_getElem_cons cB,he];rfl
theorem RO.iq{b sz o:Nat}{cs:List ae}(v:ae)(h:RO m b sz cs)(hw:m.dh b o 1=true)(hn:o<cs.length)(h1:lj v=true):
  ∃m',eH b o v m=some (undef,m')/\RO m' b sz (cs.set o v)/\Kp m m' (fun x=>x=b)/\m'.next=m.next:=by
 obtain⟨l,hl⟩:=EN (v:=v) hn;have hp:=AW _ _ _ _ hl;rw[lH (cs:=cs) (o:=o) (vs:=[v]) (by simp;omega)]at hp;obtain rfl:=Option.some.inj hp;have hk:=h.kind;have hc:=h.cs;have hz:=h.sz;unfold eH;cases hb:m.blk b with
 |mk kind z c es clock str pos bK=>
  rw[hb]at hk hc hz;simp only at hk hc hz;subst hk hc hz;simp only[h1,N7 hw,hl];refine⟨_,rfl,⟨h.lt,?_,?_,?_⟩,⟨aj _,rfl,rfl,rfl,rfl,rfl,rfl,rfl,rfl,fun x _ hx=>?_⟩,rfl⟩
  ·show((m.heap.put b _).get b).kind=1
   rw[iU.get_put,bj rfl]
  ·show((m.heap.put b _).get b).sz=_
   rw[iU.get_put,bj rfl]
  ·show((m.heap.put b _).get b).cs=_
   rw[iU.get_put,bj rfl];rfl
  ·show(m.heap.put b _).get x=m.blk x
   rw[iU.get_put,bW (fun e=>hx e.symm)];rfl
structure sJ (B:Nat->Prop)(m m':Mem):Prop where
 next:m.next<=m'.next
 blk:∀b,B b->b<m.next->m'.blk b=m.blk b/\(aJ m.bh b=false->aJ m'.bh b=false)
theorem sJ.trans{m1:Mem}(h:sJ B m m1)(k:sJ B m1 m'):sJ B m m':=
 ⟨bV h.next k.next,fun b hb hl=>⟨(k.blk b hb (aW hl h.next)).1.trans (h.blk b hb hl).1,fun x=>(k.blk b hb (aW hl h.next)).2 ((h.blk b hb hl).2 x)⟩⟩
theorem sJ.mono{B':Nat->Prop}(h:sJ B m m')(k:∀b,B' b->B b):sJ B' m m':=⟨h.next,fun b hb=>h.blk b (k b hb)⟩
theorem Kp.same(k:Kp m m' S)(h:∀b,B b->¬S b):sJ B m m':=⟨k.next,fun b hb hl=>⟨k.blk b hl (h b hb),fun x=>by rw[k.bh];exact x⟩⟩
theorem Obj.og{b sz:Nat}{cs:List ae}(h:Obj m b sz cs)(s:sJ B m m')(hb:B b):Obj m' b sz cs:=by
 obtain⟨e,v⟩:=s.blk b hb h.lt;exact⟨aW h.lt s.next,by rw[e];exact h.kind,by rw[e];exact h.sz,by rw[e];exact h.cs,v h.Bu⟩
def oD.DC{α:Type}(E:oD α):Prop:=∀(B:Nat->Prop) (x:α) (m m':Mem) (v:ae),E.R B x m v->sJ B m m'->E.R B x m' v
theorem XR.iG:∀{x:X}{v:ae},XR B x m v->sJ B m m'->XR B x m' v
 | .bin ..,_,⟨b,lv,rv,e,hb,o,h1,h2⟩,s=>⟨b,lv,rv,e,hb,o.og s hb,XR.iG h1 s,XR.iG h2 s⟩
 | .no ..,_,⟨b,xv,e,hb,o,h⟩,s=>⟨b,xv,e,hb,o.og s hb,XR.iG h s⟩
 | .TJ ..,_,⟨b,xv,e,hb,o,h⟩,s=>⟨b,xv,e,hb,o.og s hb,XR.iG h s⟩
 | .lit ..,_,⟨b,e,hb,o⟩,s=>⟨b,e,hb,o.og s hb⟩
 | .Aq ..,_,⟨b,e,hb,o⟩,s=>⟨b,e,hb,o.og s hb⟩
theorem nG.iG:nG.DC:=fun _ _ _ _ _ h s=>XR.iG h s
theorem iX.iG{α:Type}{val:α->ae}:(iX val).DC:=fun _ _ _ _ _ h _=>h
theorem cR.iG:cR.DC:=by
 rintro B x m m' v ⟨b,c,e,hb,o,h⟩ s;exact⟨b,c,e,hb,o.og s hb,h⟩
theorem aX.iG{α:Type}{E:oD α}{sz:Nat}(hE:E.DC):(aX E sz).DC:=by
 rintro B l m m' v ⟨cs,h1,h2,h3⟩ s;refine⟨cs,⟨h1.1,h1.2.imp id ?_⟩,h2,h3.mono fun x u _ w=>⟨hE _ _ _ _ _ w.1 s,w.2⟩⟩;rintro⟨b,c,e,o,x⟩;exact⟨b,c,e,o.og s (h2 _ _ _ _ e),x⟩
end
noncomputable def KW:fZ:=⟨fun _ n=>mr ab X0 n,fun _ _ _ _ _ _=>rfl⟩
structure FL (K:fZ):Prop where
 go:∀M n args m,K.C M (n+1) 137 args m=v9 X0 (mr ab X0 M) args m
 wait:∀M n args m,K.C M (n+1) 140 args m=E8 args m
theorem RU {K:fZ}(hK:FL K){m aV m2:Mem}{w f d o i:Nat}{cap:Array ae}{l rest:List Span}{u:ae}(fI:rX X0 (.func (.func f) #[] cap) m=some (d,o,i))(XJ:kU w d o m=some aV)
  (hl:z9 (lq aV w (.func (.func f) #[] cap)) d o i=some l)(gS:rest=aV.opn.filter fun s=>!l.contains s)(nL:aV.deaf=0)(dB:aV.pend.length<4)(hc:(l.all fun s=>aV.opn.contains s)=true)(ha:js l=true)
  (hap:(l.all fun s=>(rest++aV.bh).all (wS s))=true)(AL:((rest++l).all fun t=>Nat.ble t.2.1 aV.next)=true)(hk:(l.all fun s=>Nat.beq s.2.1 (s.1+1)&&Nat.beq ((lq aV w (.func (.func f) #[] cap)).blk s.1).kind 1)=true)
  (gu:Ev KW f cap.toList (dD (lq aV w (.func (.func f) #[] cap)) l rest) u m2)(KH:m2.deaf=0):
  Ev K 137 [vP w 0,.func (.func f) #[] cap] m (.tuple #[]) (jG (lq aV w (.func (.func f) #[] cap)) m2 l rest):=by
 obtain⟨N,hN⟩:=gu;refine⟨N+1,fun M n a b=>?_⟩;obtain⟨n,rfl⟩:∃k,n=k+1:=⟨n-1,ai⟩;rw[hK.go];have gu:=hN M M ai ai;have gu:mr ab X0 M f cap.toList (dD (lq aV w (.func (.func f) #[] cap)) l rest)=some (u,m2):=gu;have hcf:Bj (mr ab X0 M) (.func (.func f) #[] cap) [] (dD (lq aV w (.func (.func f) #[] cap)) l rest)=some (u,m2):=by
  show mr ab X0 M f (([]:List ae)++[]++cap.toList) _=_
  simpa using gu
 unfold v9;simp only[fI,XJ];have Ag:z9 (cC (cC aV 0 [ptrTo w 0]).2 0 [.func (.func f) #[] cap]).2 d o i=some l:=hl;rw[Ag];have ab6:((cC (cC aV 0 [ptrTo w 0]).2 0 [.func (.func f) #[] cap]).2.opn.filter fun s=>!l.contains s)=rest:=gS.symm;simp only[ab6];rw[bj ⟨nL,dB,hc,ha,hap,AL,hk⟩];have akY:Bj (mr ab X0 M) (.func (.func f) #[] cap) [] { (cC (cC aV 0 [ptrTo w 0]).2 0 [.func (.func f) #[] cap]).2 with home:=(cC (cC aV 0 [ptrTo w 0]).2 0 [.func (.func f) #[] cap]).2.next,floor:=(cC (cC aV 0 [ptrTo w 0]).2 0 [.func (.func f) #[] cap]).2.next,opn:=l,bh:=rest++(cC (cC aV 0 [ptrTo w 0]).2 0 [.func (.func f) #[] cap]).2.bh,wg:=none,pend:=[]}=some (u,m2):=hcf;rw[akY]
 show(if m2.deaf=0 then _ else none)=_
 rw[bj KH];rfl
end Go.AM
namespace Go.AM
set_option maxRecDepth 1000000
open Go Go.Conc Go.Proofs
theorem GF {m m':Mem}{S:Nat->Prop}{b o n:Nat}(k:Kp m m' S)(h:m.dh b o n=true):m'.dh b o n=true:=by
 unfold Mem.dh at h⊢;rw[k.bh,k.base,k.floor,k.opn];exact h
theorem Bm.form{α:Type}{E:oD α}{sz:Nat}{B:Nat->Prop}{m:Mem}{acc:List α}{sv:ae}(h:Bm E sz B m acc sv):∃a n c,sv= .slice a n c:=by
 obtain⟨a,c,e⟩:=aX.form h.fin;exact⟨a,_,c,e⟩
end Go.AM
namespace Go.AM
set_option maxRecDepth 1000000
open Go Go.Conc Go.Proofs
def sp (d x:Nat):Span:=(d,d+1,some x)
theorem Ym {aV:Mem}{w:Nat}{dL:ae}{b:Nat}(h:b<aV.next):(lq aV w dL).blk b=aV.blk b:=by
 show((aV.alloc _).alloc _).blk b=_
 rw[Mem.cD,bW (by show¬aV.next+1=b;omega),Mem.cD,bW ai]
end Go.AM
namespace Go.AM
set_option maxRecDepth 1000000
open Go Go.Conc Go.Proofs
def KA (n:Nat):Nat:=max ((n+3) / 4) 8
def tk (n j:Nat):Nat:=min (j*KA n) n
def DR (n j:Nat):Nat:=min (tk n j+KA n) n
theorem acA (n j:Nat):tk n j<=DR n j/\DR n j<=n:=by unfold DR tk;omega
structure Calm (m:Mem):Prop where
 gd:Gd m
 bh:m.bh=[]
 opn:m.opn=[]
 floor:m.floor=m.base
 wg:m.wg=none
theorem Calm.ext{m m':Mem}{S:Nat->Prop}(h:Calm m)(k:Kp m m' S):Calm m':=⟨h.gd.ext k,k.bh.trans h.bh,k.opn.trans h.opn,by rw[k.floor,k.base];exact h.floor,k.wg.trans h.wg⟩
theorem size_eq {n:Nat}(hn:n<90000)(d:Option ae):ik Nat.div .i64 (bQ (bL n 4) 1) 4 d=some (vI (((n+3) / 4:Nat):Int)):=by
 have e:bQ (bL n 4) 1=((n+3:Nat):Int):=by
  rw[vd ⟨ai,ai⟩,xr ⟨ai,ai⟩];omega
 rw[e]
 show(match Nat.blt (n+3) (gv .i64)with |true=>some (ae.int .i64 (.ofNat (Nat.div (n+3) (Nat.succ 3))))|false=>d)=_
 have :Nat.blt (n+3) (gv .i64)=true:=Nat.ble_eq_true_of_le (by show n+3+1<=9223372036854775808;omega);rw[this];rfl
end Go.AM
namespace Go.AM
set_option maxRecDepth 1000000
open Go Go.Conc Go.Proofs
theorem cJ.append{α:Type}{Q:α->ae->Prop}:∀{l l':List α}{cs jf:List ae},cJ Q l cs->cJ Q l' jf->cJ Q (l++l') (cs++jf)
 | [],l',cs,jf,h,h'=>by have h:cs=[]:=h;rw[h];exact h'
 |x::l,l',cs,jf,⟨v,rest,e,hq,h⟩,h'=>⟨v,rest++jf,by rw[e,List.append_assoc],hq,cJ.append h h'⟩
theorem Calm.own{m:Mem}(h:Calm m){b:Nat}(hb:m.base<=b):Own m b:=by
 unfold Own Mem.fA;rw[h.bh,h.floor]
 show(true&&decide (m.base<=b)&&(decide (m.base<=b)|| _))=true
 rw[AA hb];rfl
theorem alX {K:fZ}(hK:FL K){M:Mem}{w:Nat}(hw:M.wg=some w)(hd:M.deaf=0)(ho:M.opn=[])(hb:M.base<=M.next):Ev K 140 [vP w 0] M (.tuple #[]) (CA M):=by
 refine⟨1,fun A n _ hn=>?_⟩;obtain⟨n,rfl⟩:∃k,n=k+1:=⟨n-1,ai⟩;rw[hK.wait];unfold E8;rw[hw]
 show(if w=w/\M.deaf=0/\M.opn=[]/\Nat.ble M.base M.next=true then _ else none)=_
 rw[bj ⟨rfl,hd,ho,Nat.ble_eq_true_of_le hb⟩];rfl
end Go.AM
namespace Go.AM
set_option maxRecDepth 1000000
open Go Go.Conc Go.Proofs
section
variable {K:fZ}{m:Mem}
theorem ajE (i t2 t3 pr n cc:Nat)(sv iv rv:ae)(e:Int):Path 253 [sv,vI i,vP t2 0,vP t3 0]
 [.mem (aD t2 0) iv,
  .mem (aD t3 0) (vL pr 0 n cc),
  .idx i n i,
  gp,
  .call 111 [sv,iv,vP pr (0+i*6)] (.tuple #[rv,vI e])]
 (.tuple #[rv,vI e]):=lV
theorem agj (d:Nat)(gD:Nat):Path 201 [vP d 0,.nilIface]
 [mB [some .nilIface] gD,
  .mem (aD gD 0) .nilIface,
  zF]
 (vI 0):=lV
theorem afP (d b2 sn sc i:Nat)(sa:Option Addr):aT 149 [3] 0 99 [1,2,24,25,26] [vP d 0,vP b2 0,.slice sa sn sc,vI sn,vI i]
 [aP (cO i sn) false]
 (.exit 0) [1,2] [vP d 0,vP b2 0]:=dc
theorem afO (d b2 n cc:Nat)(a:Option Addr)(w iv rv:ae)(e:Int):dJ 149 4 99 [1,2] [vP d 0,vP b2 0]
 [.mem (aD b2 1) w,
  .call 201 [vP d 0,w] (vI 0),
  dx,
  .mem (aD d 8) (.slice a n cc),
  aP (nV n 1000) false,
  .mem (aD b2 2) iv,
  .call 202 [vP d 0,iv] (.tuple #[rv,vI e])]
 .ret [4,5] [rv,vI e]:=dc
theorem agu:jy 149 2 [4,5]=true:=aU
theorem PT:(di (bN 149)).length<=99:=af aU
theorem NY:iP 149 [3]:=aU
theorem aid {d:Nat}(g:Gd m):∃m',Ev K 201 [vP d 0,.nilIface] m (vI 0) m'/\Kp m m' fu:=by
 obtain⟨m1,e1,o1,k1,_⟩:=cA g [.nilIface];have l1:aD m.next 0 m1=some (.nilIface,m1):=aS o1 rfl;exact⟨m1,aY (agj d _) (.mem e1<| .mem l1<| .cond rfl .nil),k1⟩
def UP:List ae:=[.slice none 0 0,vI 0,.slice none 0 0,vI 0,.slice none 0 0,vI 0,.slice none 0 0,vI 0,.slice none 0 0,.slice none 0 0,vI 0,.slice none 0 0,vI 0,.slice none 0 0,vI 0,.slice none 0 0,vI 0,.slice none 0 0]
end
end Go.AM
namespace Go.AM
set_option maxRecDepth 1000000
open Go Go.Conc Go.Proofs
structure aad (m:Mem)(b:Nat)(l:List (ByteArray×Nat)):Prop where
 lt:b<m.next
 kind:(m.blk b).kind=2
 es:(m.blk b).es.toList.map (fun e=>(e.key,e.val))=l.map fun x=>(.string x.1,vP x.2 0)
 Bu:aJ m.bh b=false
 home:m.home<=b
def aiq (m:Mem)(v:ae)(l:List (ByteArray×Nat)):Prop:=(v= .map none/\l=[])\/∃b,v= .map (some b)/\aad m b l
def JL (s:ByteArray):List (ByteArray×Nat)->Option Nat
 | []=>none
 |x::l=>if s=x.1 then some x.2 else JL s l
def ajs:Option Nat->ae
 |none=> .pointer none
 |some p=>vP p 0
theorem BB:∀{es:List MapEntry}{l:List (ByteArray×Nat)},es.map (fun e=>(e.key,e.val))=l.map (fun x=>(.string x.1,vP x.2 0))->strKeys es=true
 | [],l,_=>rfl
 |e::es,[],h=>by simp at h
 |e::es,x::l,h=>by
  simp only[List.map_cons,List.cons.injEq,au]at h;unfold strKeys;rw[h.1.1,BB h.2];rfl
theorem adS (a b:ByteArray):(a==b)=decide (a=b):=by rw[Bool.eq_iff_iff,bytes_beq,iB]
theorem CZ (s:ByteArray):∀{es:List MapEntry}{l:List (ByteArray×Nat)} (i:Nat),es.map (fun e=>(e.key,e.val))=l.map (fun x=>(.string x.1,vP x.2 0))->(kH s es i).map (·.2)=(JL s l).map fun p=>vP p 0
 | [],[],i,_=>rfl
 | [],x::l,_,h=>by simp at h
 |e::es,[],_,h=>by simp at h
 |e::es,x::l,i,h=>by
  simp only[List.map_cons,List.cons.injEq,au]at h;unfold kH JL;rw[h.1.1]
  by_cases hs:s=x.1
  ·simp only[adS,AA hs,if_true,bj hs,cU];rw[h.1.2]
  ·simp only[adS,yA hs,bW hs];exact CZ s (i+1) h.2
theorem YB:ab.underlying 67=some (.map 9 147):=aU
theorem Ng:iw ab 147=some (.pointer none):=aU
theorem WZ {m:Mem}{v:ae}{l:List (ByteArray×Nat)}(h:aiq m v l)(s:ByteArray):uR ab 67 v (.string s) false m=some (ajs (JL s l),m):=by
 unfold uR iQ;rcases h with⟨rfl,rfl⟩|⟨b,rfl,hb⟩
 ·simp only[YB,VZ,Ng];rfl
 ·simp only[YB,VZ,Ng];have h1:((m.blk b).kind==2&&m.bI b)=true:=by
   unfold Mem.bI;rw[hb.kind,hb.Bu];simp[hb.home]
  rw[bj h1];simp only[BB hb.es,if_true];have :=CZ s 0 hb.es;rcases hf:kH s (m.blk b).es.toList 0 with _|⟨i,u⟩<;>rw[hf]at this<;>rcases hn:JL s l with _|p<;>rw[hn]at this<;>simp at this
  ·rfl
  ·subst this;rfl
structure Tb where
 p:Nat
 dN:List FN
end Go.AM
namespace Go.AM
set_option maxRecDepth 1000000
open Go Go.Conc Go.Proofs
theorem aA.done{K:fZ}{nt:Nat}{c:Code}{i:Nat}{st:Ss}(h:(di c).length<=i):aA K nt c i st .normal st:=by
 unfold aA;rw[List.drop_of_length_le h];exact⟨0,fun _ _ _ _=>⟨xz,rfl,rfl⟩⟩
noncomputable def jA(nt:Nat)(c b:Code)(i id:Nat):Bool:=codeOk nt b&&(comp ab nt 1000 (.block id b)).isSome
theorem aA.sG{K:fZ}{nt:Nat}{c b:Code}{i id:Nat}{st iq yB:Ss}{e e':Exit}(hl:iu c i=some (id,b))(eZ:jA nt c b i id=true)(h:aA K nt b 0 st e' iq)(he:e'= .normal\/e'= .exit id)(k:aA K nt c (i+1) iq e yB):aA K nt c i st e yB:=by
 unfold jA at eZ;rw[ag]at eZ;exact aA.block hl h he (eW eZ.1).1 (eW eZ.1).2.1 eZ.2 k
theorem aA.wP{K:fZ}{nt:Nat}{c b:Code}{i id:Nat}{st iq:Ss}(hl:iu c i=some (id,b))(eZ:jA nt c b i id=true)(h:aA K nt b 0 st .ret iq)(hr:(oF nt ((di c).drop (i+1))).isSome=true):aA K nt c i st .ret iq:=by
 unfold jA at eZ;rw[ag]at eZ;exact aA.QL hl h (eW eZ.1).1 (eW eZ.1).2.1 eZ.2 hr
end Go.AM
namespace Go.AM
set_option maxRecDepth 1000000
open Go Go.Conc Go.Proofs
section
variable {K:fZ}{m:Mem}
theorem ajL (p n cc:Nat)(rv:ae)(gD:Nat):Path 150 [vL p 0 n cc]
 [dx,
  .mem (bY ab 29 0 []) (vL gD 0 0 0),
  .mem (cZ ab #[29,29] (vL gD 0 0 0) (vL p 0 n cc)) rv]
 rv:=lV
theorem Y4:jy 152 5 []=true:=aU
theorem Ob:jI (bN 152) 2=some (0,(bX 152 [2])):=aU
theorem r9:iP 152 [2]:=aU
theorem Oc:lN (eY 152) (bN 152) (bX 152 [2]) 2 0=true:=aU
theorem Y1:jy 205 4 []=true:=aU
theorem A2:iP 205 [1]:=aU
theorem afT (d un uc i:Nat)(ua:Option Addr)(rv:ae):aT 115 [6] 0 99 [1,8,26,27,28] [vP d 0,rv,.slice ua un uc,vI un,vI i]
 [aP (cO i un) false]
 (.exit 0) [8] [rv]:=dc
theorem afS (rv:ae):dJ 115 7 99 [8] [rv]
 []
 .ret [4,5] [rv,vI 0]:=dc
theorem agv:jy 115 2 [4,5]=true:=aU
theorem PU:(di (bN 115)).length<=99:=af aU
theorem Gy:iP 115 [6]:=aU
theorem LI:(di (bN 205)).length<=2:=af aU
theorem acZ {m:Mem}:bY ab 29 0 [] m=some (vL m.next 0 0 0,m.alloc {kind:=1,sz:=1,cs:=[]}):=aU
end
end Go.AM
namespace Go.AM
set_option maxRecDepth 1000000
open Go Go.Conc Go.Proofs
abbrev El:=ae×List V
instance:Inhabited El:=⟨(undef,[])⟩
def cT (x y:El):Bool:=cO (bP x.2 y.2) 0
structure Sv (B:Nat->Prop)(p n:Nat)(rest:List ae)(m:Mem)(d:Array El):Prop where
 gd:Gd m
 ob:Obj m p 1 (d.toList.map (·.1)++rest)
 ow:Own m p
 sz:d.size=n
 nb:¬B p
 el:∀x∈d.toList,cR.R B x.2 m x.1/\x.2.length<99999
def rp (k:Nat)(v:ae)(b:Bool)(L:List pT):List pT:=match k with
 |0=>L
 |k+1=> .cond v b::rp k v b L
theorem Ch.rp{K:fZ}{m m':Mem}{v:ae}{b:Bool}{L:List pT}(h:v= .bool b)(c:Ch K m L m'):∀{k:Nat},Ch K m (AM.rp k v b L) m'
 |0=>c
 |k+1=> .cond h (Ch.rp h c)
theorem aA.MS{K:fZ}{nt:Nat}{c b:Code}{i id j:Nat}{st iq:Ss}(hl:iu c i=some (id,b))(eZ:jA nt c b i id=true)(h:aA K nt b 0 st (.exit j) iq)(hj:Nat.beq j id=false)(hr:(oF nt ((di c).drop (i+1))).isSome=true):aA K nt c i st (.exit j) iq:=by
 unfold jA at eZ;rw[ag]at eZ;unfold iu at hl
 split at hl
 ·rename_i id' b' hg;cases hl;obtain⟨cB,uV⟩:=List.getElem?_eq_some_iff.1 hg;have e1:(di c).drop i=[.block id b]++(di c).drop (i+1):=by rw[List.drop_eq_getElem_cons cB,uV];rfl
  unfold aA;rw[e1];exact vC.first (vC.single (vf.block (h.whole (eW eZ.1).1 (eW eZ.1).2.1) (by simp only[hj];rfl) (eW eZ.1).1 eZ.2)) g8 hr
 ·cases hl
theorem bT {b:Bool}(h:b=true):(.bool b:ae)= .bool true:=congrArg _ h
theorem bF {b:Bool}(h:b=false):(.bool b:ae)= .bool false:=congrArg _ h
theorem kj {i j:Nat}(h:j<=i)(hi:i<2^60:=by omega):bQ i j=((i-j:Nat):Int):=by rw[xr ⟨ai,ai⟩];omega
theorem lZ {i j:Nat}(h:i+j<2^60:=by omega):bL i j=((i+j:Nat):Int):=by rw[vd ⟨ai,ai⟩];omega
theorem I6 {i j:Nat}(h:i*j<2^60:=by omega):kQ i j=((i*j:Nat):Int):=by
 have e:((i*j:Nat):Int)=(i:Int)*(j:Int):=Int.natCast_mul i j;rw[N5 (by rw[<-e];exact⟨ai,ai⟩),e]
theorem pv {k:Nat}(hi:k+1<2^60:=by omega):bQ (k+1:Nat) 1=(k:Int):=kj (i:=k+1) (j:=1) ai ai
theorem dI {k:Nat}(hi:k+1<2^60:=by omega):bL k 1=((k+1:Nat):Int):=lZ (i:=k) (j:=1) ai
theorem gF {i j:Nat}:cO i j=decide (i<j):=by rw[fG];exact decide_eq_decide.2 ai
theorem qP {i j:Nat}:nV i j=decide (j<i):=by rw[Mx];exact decide_eq_decide.2 ai
theorem fW {i j:Nat}:fM i j=decide (i<=j):=by rw[abJ];exact decide_eq_decide.2 ai
theorem je {i j:Nat}:gU i j=decide (j<=i):=by rw[Hd];exact decide_eq_decide.2 ai
theorem dT {p:Prop}[Decidable p]{b:Bool}(h:b=decide p)(hp:p:=by omega):(.bool b:ae)= .bool true:=by rw[h,AA hp]
theorem dF {p:Prop}[Decidable p]{b:Bool}(h:b=decide p)(hp:¬p:=by omega):(.bool b:ae)= .bool false:=by rw[h,yA hp]
section
variable {K:fZ}{B:Nat->Prop}{p n:Nat}{rest:List ae}{m m':Mem}{d:Array El}
theorem cR.one{x:List V}{v:ae}(h:cR.R B x m v):lj v=true:=by
 obtain⟨b,c,rfl,_⟩:=h;rfl
theorem Sv.ext(h:Sv B p n rest m d)(k:Kp m m' fu):Sv B p n rest m' d:=
 ⟨h.gd.ext k,h.ob.cf k,h.ow.ext k,h.sz,h.nb,fun x hx=>⟨cR.ext (h.el x hx).1 k fun _ _ h=>h,(h.el x hx).2⟩⟩
theorem Sv.mem(h:Sv B p n rest m d){i:Nat}(hi:i<n):d[i]!∈d.toList:=by
 have h':=h.sz;rw[getElem!_pos d i ai];exact Array.getElem_mem_toList _
theorem Sv.ld(h:Sv B p n rest m d){i:Nat}(hi:i<n:=by omega):aD p (0+i*1) m=some (d[i]!.1,m):=by
 have h':=h.sz;refine aS h.ob ?_;rw[Nat.zero_add,Nat.mul_one,List.getElem?_append_left (by simp;omega),List.getElem?_map,getElem!_pos d i ai];simp;exact⟨_,Array.getElem?_eq_getElem ai⟩
theorem Sv.cmp(h:Sv B p n rest m d){i j:Nat}(hi:i<n:=by omega)(hj:j<n:=by omega):
  ∃c m',Ev K 117 [d[i]!.1,d[j]!.1] m (vI c) m'/\Kp m m' fu/\Sv B p n rest m' d/\cO c 0=cT d[i]! d[j]!:=by
 obtain⟨⟨b1,c1,e1,_,o1,Qj⟩,l1⟩:=h.el _ (h.mem hi);obtain⟨⟨b2,c2,e2,_,o2,Un⟩,l2⟩:=h.el _ (h.mem hj);rw[e1,e2];obtain⟨m',e,k⟩:=al1 (K:=K) h.gd (o1.sl (fc _) Qj) (o2.sl (fc _) Un) l1;exact⟨_,m',e,k,h.ext k,rfl⟩
theorem Sv.st(h:Sv B p n rest m d){i:Nat}(hi:i<n){x:El}(hx:x∈d.toList):
  ∃m',eH p (0+i*1) x.1 m=some (undef,m')/\Kp m m' (fun y=>y=p)/\Sv B p n rest m' (d.setIfInBounds i x):=by
 have h':=h.sz;rw[Nat.zero_add,Nat.mul_one];obtain⟨m',e,o,k⟩:=jF x.1 h.ob (h.ow.may i 1) (by simp;omega) (cR.one (h.el x hx).1);refine⟨m',e,k,h.gd.ext k,?_,h.ow.ext k,by simpa using h',h.nb,fun y hy=>?_⟩
 ·rw[List.set_append_left _ _ (by simp;omega)]at o;simpa[List.map_set]using o
 ·have DJ:y∈d.toList:=by
   rw[Array.toList_setIfInBounds]at hy;rcases List.mem_or_eq_of_mem_set hy with hy|rfl
   ·exact hy
   ·exact hx
  exact⟨cR.ext (h.el y DJ).1 k fun b hb e=>h.nb (e▸hb),(h.el y DJ).2⟩
theorem Sv.swap(h:Sv B p n rest m d){i j:Nat}(hi:i<n:=by omega)(hj:j<n:=by omega):
  ∃m1 m2,eH p (0+i*1) d[j]!.1 m=some (undef,m1)/\Gd m1/\eH p (0+j*1) d[i]!.1 m1=some (undef,m2)/\Kp m m2 (fun y=>y=p)/\Sv B p n rest m2 (Sort.swp d i j):=by
 obtain⟨m1,e1,k1,h1⟩:=h.st hi (h.mem hj);have hm:d[i]!∈(d.setIfInBounds i d[j]!).toList\/i=j\/True:= .inr (.inr trivial);have h':=h.sz;obtain⟨m2,e2,o,k2⟩:=jF d[i]!.1 h1.ob (h1.ow.may j 1) (by simp;omega) (cR.one (h.el _ (h.mem hi)).1);rw[Nat.zero_add,Nat.mul_one]at*;have k:=k1.trans k2 fun _ _ h=>h
 refine⟨m1,m2,e1,h1.gd,by rw[Nat.zero_add,Nat.mul_one];exact e2,k,h.gd.ext k,?_,h.ow.ext k,by simp[Sort.swp,h'],h.nb,fun y hy=>?_⟩
 ·rw[List.set_append_left _ _ (by simp;omega)]at o;unfold Sort.swp;rw[Array.toList_setIfInBounds,List.map_set];exact o
 ·have DJ:y∈d.toList:=by
   unfold Sort.swp at hy;rw[Array.toList_setIfInBounds,Array.toList_setIfInBounds]at hy;rcases List.mem_or_eq_of_mem_set hy with hy|rfl
   ·rcases List.mem_or_eq_of_mem_set hy with hy|rfl
    ·exact hy
    ·exact h.mem hj
   ·exact h.mem hi
  exact⟨cR.ext (h.el y DJ).1 k fun b hb e=>h.nb (e▸hb),(h.el y DJ).2⟩
end
theorem ae1 (p n cc a b i k:Nat)(x y:ae)(c:Int):aT 205 [1,2,1] 0 99 [0,1,2,3,8,9] [vL p 0 n cc,vI a,vI b,.func (.func 117) #[] #[],vI i,vI (k+1:Nat)]
 ((rp 4 (.bool (nV (k+1:Nat) a)) true (.idx (k+1:Nat) n (k+1)::aP (nV (k+1:Nat) a) true:: .mem (aD p (0+(k+1)*1)) x::(rp 4 (.bool (nV (k+1:Nat) a)) true ([.idx (bQ (k+1:Nat) 1) n k,
  aP (nV (k+1:Nat) a) true,
  .mem (aD p (0+k*1)) y,
  gp,
  aP (nV (k+1:Nat) a) true,
  .bM (.func (.func 117) #[] #[]) [x,y] (vI c),
  aP (nV (k+1:Nat) a) true,
  aP (nV (k+1:Nat) a) true,
  aP (cO c 0) true,
  .idx (bQ (k+1:Nat) 1) n k,
  .mem (aD p (0+k*1)) y,
  .idx (k+1:Nat) n (k+1),
  .mem (aD p (0+(k+1)*1)) x,
  .idx (k+1:Nat) n (k+1),
  gp,
  .mem (eH p (0+(k+1)*1) y) undef,
  .idx (bQ (k+1:Nat) 1) n k,
  gp,
  .mem (eH p (0+k*1) x) undef])))))
 .normal [0,1,2,3,8,9] [vL p 0 n cc,vI a,vI b,.func (.func 117) #[] #[],vI i,vI (bQ (k+1:Nat) 1)]:=dc
theorem ae2 (p n cc a b i k:Nat)(x y:ae)(c:Int):aT 205 [1,2,1] 0 99 [0,1,2,3,8,9] [vL p 0 n cc,vI a,vI b,.func (.func 117) #[] #[],vI i,vI (k+1:Nat)]
 ((rp 4 (.bool (nV (k+1:Nat) a)) true (.idx (k+1:Nat) n (k+1)::aP (nV (k+1:Nat) a) true:: .mem (aD p (0+(k+1)*1)) x::(rp 4 (.bool (nV (k+1:Nat) a)) true ([.idx (bQ (k+1:Nat) 1) n k,
  aP (nV (k+1:Nat) a) true,
  .mem (aD p (0+k*1)) y,
  gp,
  aP (nV (k+1:Nat) a) true,
  .bM (.func (.func 117) #[] #[]) [x,y] (vI c),
  aP (nV (k+1:Nat) a) true,
  aP (nV (k+1:Nat) a) true,
  aP (cO c 0) false])))))
 (.exit 2) [0,1,2,3,8] [vL p 0 n cc,vI a,vI b,.func (.func 117) #[] #[],vI i]:=dc
theorem ae8 (p n cc a b i k:Nat):aT 205 [1,2,1] 0 99 [0,1,2,3,8,9] [vL p 0 n cc,vI a,vI b,.func (.func 117) #[] #[],vI i,vI k]
 ((rp 10 (.bool (nV k a)) false (gp::(rp 3 (.bool (nV k a)) false ([dx])))))
 (.exit 2) [0,1,2,3,8] [vL p 0 n cc,vI a,vI b,.func (.func 117) #[] #[],vI i]:=dc
theorem ae7 (p n cc a b i:Nat):aT 205 [1] 0 99 [0,1,2,3,8] [vL p 0 n cc,vI a,vI b,.func (.func 117) #[] #[],vI i]
 [aP (cO i b) false]
 (.exit 0) [] []:=dc
theorem ae6 (p n cc a b i:Nat):aT 205 [1] 0 2 [0,1,2,3,8] [vL p 0 n cc,vI a,vI b,.func (.func 117) #[] #[],vI i]
 [aP (cO i b) true]
 .normal [0,1,2,3,8] [vL p 0 n cc,vI a,vI b,.func (.func 117) #[] #[],vI i]:=dc
theorem ae5 (p n cc a b i:Nat):aT 205 [1,2] 0 1 [0,1,2,3,8] [vL p 0 n cc,vI a,vI b,.func (.func 117) #[] #[],vI i]
 []
 .normal [0,1,2,3,8,9] [vL p 0 n cc,vI a,vI b,.func (.func 117) #[] #[],vI i,vI i]:=dc
theorem ae4 (p n cc a b i:Nat):aT 205 [1] 3 99 [0,1,2,3,8] [vL p 0 n cc,vI a,vI b,.func (.func 117) #[] #[],vI i]
 []
 .normal [0,1,2,3,8] [vL p 0 n cc,vI a,vI b,.func (.func 117) #[] #[],vI (bL i 1)]:=dc
theorem ae3 (p n cc a b:Nat):dJ 205 0 1 [0,1,2,3] [vL p 0 n cc,vI a,vI b,.func (.func 117) #[] #[]]
 []
 .normal [0,1,2,3,8] [vL p 0 n cc,vI a,vI b,.func (.func 117) #[] #[],vI (bL a 1)]:=dc
theorem tP:iP 205 [1,2,1]:=aU
theorem QM:iu (bX 205 [1]) 2=some (1,(bX 205 [1,2])):=aU
theorem QJ:jA (eY 205) (bX 205 [1]) (bX 205 [1,2]) 2 1=true:=aU
section
variable {K:fZ}{B:Nat->Prop}{p n cc:Nat}{rest:List ae}{m:Mem}{d:Array El}
abbrev fR:ae:= .func (.func 117) #[] #[]
theorem i205 (h:Sv B p n rest m d)(hn:n<90000){a b i:Nat}(hi:i<n){tm:Tm}(hg:bu [0,1,2,3,8,9] tm=[vL p 0 n cc,vI a,vI b,fR,vI i,vI i]):
  ∃cV m',vB K (eY 205) (bX 205 [1,2,1]) 100000 ⟨tm,m,[]⟩ (.exit 2) ⟨cV,m',[]⟩/\bu [0,1,2,3,8] cV=[vL p 0 n cc,vI a,vI b,fR,vI i]/\Kp m m' (fun y=>y=p)/\Sv B p n rest m' (Sort.insInner cT a i d):=by
 obtain⟨e,cV,m',he,hx,rfl,r⟩:=jx (K:=K) (nt:=eY 205) (a:=bX 205 [1,2,1])
  (Inv:=fun k tm m'=>∃d',k<n/\bu [0,1,2,3,8,9] tm=[vL p 0 n cc,vI a,vI b,fR,vI i,vI k]/\Kp m m' (fun y=>y=p)/\Sv B p n rest m' d'/\Sort.insInner cT a k d'=Sort.insInner cT a i d)
  (dm:=fun e tm m'=>e= .exit 2/\bu [0,1,2,3,8] tm=[vL p 0 n cc,vI a,vI b,fR,vI i]/\Kp m m' (fun y=>y=p)/\Sv B p n rest m' (Sort.insInner cT a i d))
  (by
   rintro k tm m1 ⟨d',hk,hg,k1,s1,hd⟩;have g1:=s1.gd
   by_cases hka:a<k
   ·obtain⟨k,rfl⟩:∃j,k=j+1:=⟨k-1,ai⟩;obtain⟨c,m2,e2,k2,s2,hc⟩:=s1.cmp (K:=K) (i:=k+1) (j:=k);have g2:=s2.gd;have tV:=k1.aZ k2
    by_cases hl:cT d'[k+1]! d'[k]! =true
    ·obtain⟨m3,m4,e3,g3,e4,k4,s4⟩:=s2.swap (i:=k+1) (j:=k);obtain⟨t2,cN,cz⟩:=aI tP (ae1 p n cc a b i k d'[k+1]!.1 d'[k]!.1 c) hg (.rp (dT qP)<| .idx rfl ai<| .cond (dT qP)<| .mem s1.ld<| .rp (dT qP)<| .idx pv ai<| .cond (dT qP)<| .mem s1.ld<| .mem (aK ft)<| .cond (dT qP)<| .bM e2<| .cond (dT qP)<| .cond (dT qP)<| .cond (bT (hc.trans hl))<| .idx pv ai<| .mem s2.ld<| .idx rfl ai<| .mem s2.ld<| .idx rfl ai<| .mem (aK ft)<| .mem e3<| .idx pv ai<| .mem (aK ft)<| .mem e4<| .nil);rw[pv]at cz;refine .inl ⟨k,t2,m4,ai,cN,_,ai,cz,tV.trans k4 fun _ _ h=>h,s4,?_⟩;rw[<-hd,Sort.insInner.eq_2,bj (by simp[hl,hka])]
    ·have hl:=Bool.eq_false_iff.2 hl;obtain⟨t2,cN,cz⟩:=aI tP (ae2 p n cc a b i k d'[k+1]!.1 d'[k]!.1 c) hg (.rp (dT qP)<| .idx rfl ai<| .cond (dT qP)<| .mem s1.ld<| .rp (dT qP)<| .idx pv ai<| .cond (dT qP)<| .mem s1.ld<| .mem (aK ft)<| .cond (dT qP)<| .bM e2<| .cond (dT qP)<| .cond (dT qP)<| .cond (bF (hc.trans hl))<| .nil);refine .inr ⟨_,t2,m2,g8,cN,rfl,cz,tV,?_⟩;rw[<-hd,Sort.insInner.eq_2,bW (by simp[hl])];exact s2
   ·obtain⟨t2,cN,cz⟩:=aI tP (ae8 p n cc a b i k) hg (.rp (dF qP)<| .mem (aK ft)<| .rp (dF qP)<| .cond rfl<| .nil);refine .inr ⟨_,t2,m1,g8,cN,rfl,cz,k1,?_⟩;rw[<-hd];cases k with
    |zero=>exact s1
    |succ k=>rw[Sort.insInner.eq_2,bW (by simp;omega)];exact s1)
  (n:=i) (k:=100000) ⟨d,hi,hg,.refl _ _,h,rfl⟩ ai
 exact⟨cV,m',hx,r⟩
theorem alP (h:Sv B p n rest m d)(hn:n<90000){a b:Nat}(hb:b<=n)(ha:a<90000):
  ∃m',Ev K 205 [vL p 0 n cc,vI a,vI b,fR] m (.tuple #[]) m'/\Kp m m' (fun y=>y=p)/\Sv B p n rest m' (Sort.insertionSort cT d a b):=by
 obtain⟨t0,w0,e0⟩:=aR (K:=K) (m:=m) (m':=m) (tm:=entry [vL p 0 n cc,vI a,vI b,fR]) (ae3 p n cc a b) rfl .nil;rw[dI]at e0;obtain⟨e,t1,m',he,hx,rfl,r⟩:=eI (K:=K) (nt:=eY 205) (a:=bX 205 [1]) (b-(a+1))
  (Inv:=fun j tm m'=>∃d',bu [0,1,2,3,8] tm=[vL p 0 n cc,vI a,vI b,fR,vI (a+1+j:Nat)]/\Kp m m' (fun y=>y=p)/\Sv B p n rest m' d'/\Sort.insOuter cT a b (a+1+j) d'=Sort.insertionSort cT d a b)
  (dm:=fun e tm m'=>e= .exit 0/\Kp m m' (fun y=>y=p)/\Sv B p n rest m' (Sort.insertionSort cT d a b))
  (by
   rintro j tm m1 hj ⟨d',hg,k1,s1,hd⟩
   left
   obtain⟨ta,wa,ea⟩:=aR (K:=K) (m:=m1) (m':=m1) (ae6 p n cc a b (a+1+j)) hg (.cond (dT gF)<| .nil);obtain⟨tb,wb,eb⟩:=aR (K:=K) (m:=m1) (m':=m1) (ae5 p n cc a b (a+1+j)) ea .nil;obtain⟨tc,m2,cN,ec,k2,s2⟩:=i205 (K:=K) s1 hn (i:=a+1+j) ai eb;obtain⟨td,wd,ed⟩:=aR (K:=K) (m:=m2) (m':=m2) (ae4 p n cc a b (a+1+j)) ec .nil;rw[dI]at ed;refine⟨td,m2,(aA.cut wa (aA.sG QM QJ (aA.cut wb (aA.fw cN (aA.done (af aU)))) (.inl rfl) (aA.last wd (eW A2).2.2))).code A2,_,ed,k1.trans k2 fun _ _ h=>h,s2,?_⟩;rw[<-hd]
   conv=>rhs;rw[Sort.insOuter]
   rw[bj ai];rfl)
  (by
   rintro tm m1 ⟨d',hg,k1,s1,hd⟩;obtain⟨t2,cN,cz⟩:=aI (K:=K) (m:=m1) (m':=m1) A2 (ae7 p n cc a b (a+1+(b-(a+1)))) hg (.cond (dF gF)<| .nil);refine⟨_,t2,m1,g8,cN,rfl,k1,?_⟩;rw[<-hd,Sort.insOuter,bW ai];exact s1)
  (tm:=t0) (m:=m) ⟨d,e0,.refl _ _,h,rfl⟩ ai
 exact⟨m',eB (vs:=[]) Y1 (aA.cut w0 (aA.fw hx (aA.done (af aU)))) (.inl rfl) rfl,r⟩
end
end Go.AM
namespace Go.AM
set_option maxRecDepth 1000000
open Go Go.Conc Go.Proofs
structure Cn (B:Nat->Prop)(p:Nat)(m:Mem)(s w:Nat):Prop where
 ob:Obj m s 0 [vI (w:Int)]
 ow:Own m s
 ne:s≠p
 nb:¬B s
theorem af4 (p n cc a b s w:Nat)(x y:ae)(c:Int):Path 274 [vL p 0 n cc,vI a,vI b,vP s 0,fR]
 [.idx b n b,
  .mem (aD p (0+b*1)) y,
  .idx a n a,
  .mem (aD p (0+a*1)) x,
  gp,
  .bM fR [y,x] (vI c),
  aP (cO c 0) true,
  .mem (aD s 0) (vI w),
  .mem (eH s 0 (vI (bL w 1))) undef]
 (.tuple #[vI b,vI a]):=lV
theorem af3 (p n cc a b s:Nat)(x y:ae)(c:Int):Path 274 [vL p 0 n cc,vI a,vI b,vP s 0,fR]
 [.idx b n b,
  .mem (aD p (0+b*1)) y,
  .idx a n a,
  .mem (aD p (0+a*1)) x,
  gp,
  .bM fR [y,x] (vI c),
  aP (cO c 0) false]
 (.tuple #[vI a,vI b]):=lV
theorem ajA (p n cc a b c s a1 b1 b2 c1 a2 b3:Nat):Path 258 [vL p 0 n cc,vI a,vI b,vI c,vP s 0,fR]
 [.call 274 [vL p 0 n cc,vI a,vI b,vP s 0,fR] (.tuple #[vI a1,vI b1]),
  .call 274 [vL p 0 n cc,vI b1,vI c,vP s 0,fR] (.tuple #[vI b2,vI c1]),
  .call 274 [vL p 0 n cc,vI a1,vI b2,vP s 0,fR] (.tuple #[vI a2,vI b3])]
 (vI b3):=lV
theorem ajB (p n cc a s r:Nat):Path 257 [vL p 0 n cc,vI a,vP s 0,fR]
 [.call 258 [vL p 0 n cc,vI (bQ a 1),vI a,vI (bL a 1),vP s 0,fR] (vI r)]
 (vI r):=lV
theorem aeH (p n cc a b:Nat):dJ 209 0 2 [0,1,2,3] [vL p 0 n cc,vI a,vI b,fR]
 []
 .normal [0,8,9] [vL p 0 n cc,vI a,vI (bQ b 1)]:=dc
theorem aeF (p n cc i j:Nat)(x y:ae):aT 209 [2] 0 99 [0,8,9] [vL p 0 n cc,vI i,vI j]
 [aP (cO i j) true,
  .idx j n j,
  .mem (aD p (0+j*1)) y,
  .idx i n i,
  .mem (aD p (0+i*1)) x,
  .idx i n i,
  gp,
  .mem (eH p (0+i*1) y) undef,
  .idx j n j,
  gp,
  .mem (eH p (0+j*1) x) undef]
 .normal [0,8,9] [vL p 0 n cc,vI (bL i 1),vI (bQ j 1)]:=dc
theorem aeG (p n cc i j:Nat):aT 209 [2] 0 99 [0,8,9] [vL p 0 n cc,vI i,vI j]
 [aP (cO i j) false]
 (.exit 0) [] []:=dc
theorem agr:jy 209 4 []=true:=aU
theorem NV:iP 209 [2]:=aU
theorem aeO (p n cc a b q:Nat)(gD:Nat):dJ 208 0 6 [0,1,2,3] [vL p 0 n cc,vI a,vI b,fR]
 [mB [some (vI 0)] gD,
  .val (ik Nat.div .i64 (bQ b a) 4 (gE ab .quo 3 false true (vI (bQ b a)) (vI 4))) (vI q),
  .val (ik Nat.div .i64 (bQ b a) 4 (gE ab .quo 3 false true (vI (bQ b a)) (vI 4))) (vI q),
  .val (ik Nat.div .i64 (bQ b a) 4 (gE ab .quo 3 false true (vI (bQ b a)) (vI 4))) (vI q)]
 .normal [0,3,10,11,12,13,14] [vL p 0 n cc,fR,vI (bQ b a),vP gD 0,vI (bL a (kQ q 1)),vI (bL a (kQ q 2)),vI (bL a (kQ q 3))]:=dc
theorem aeN (p n cc l s i j k:Nat):dJ 208 6 8 [0,3,10,11,12,13,14] [vL p 0 n cc,fR,vI l,vP s 0,vI i,vI j,vI k]
 [aP (gU l 8) false]
 .normal [11,13] [vP s 0,vI j]:=dc
theorem aeM (p n cc l s i j k j2:Nat):dJ 208 6 8 [0,3,10,11,12,13,14] [vL p 0 n cc,fR,vI l,vP s 0,vI i,vI j,vI k]
 [aP (gU l 8) true,
  aP (gU l 50) false,
  .call 258 [vL p 0 n cc,vI i,vI j,vI k,vP s 0,fR] (vI j2)]
 .normal [11,13] [vP s 0,vI j2]:=dc
theorem aeL (p n cc l s i j k i1 j1 k1 j2:Nat):dJ 208 6 8 [0,3,10,11,12,13,14] [vL p 0 n cc,fR,vI l,vP s 0,vI i,vI j,vI k]
 [aP (gU l 8) true,
  aP (gU l 50) true,
  .call 257 [vL p 0 n cc,vI i,vP s 0,fR] (vI i1),
  .call 257 [vL p 0 n cc,vI j,vP s 0,fR] (vI j1),
  .call 257 [vL p 0 n cc,vI k,vP s 0,fR] (vI k1),
  .call 258 [vL p 0 n cc,vI i1,vI j1,vI k1,vP s 0,fR] (vI j2)]
 .normal [11,13] [vP s 0,vI j2]:=dc
theorem aeJ (s j w:Nat):dJ 208 8 99 [11,13] [vP s 0,vI j]
 [.mem (aD s 0) (vI w),
  aP (ie w 0) true]
 .ret [8,9] [vI j,vI 1]:=dc
theorem aeK (s j w:Nat):dJ 208 8 99 [11,13] [vP s 0,vI j]
 [.mem (aD s 0) (vI w),
  aP (ie w 0) false,
  aP (ie w 12) true]
 .ret [8,9] [vI j,vI 2]:=dc
theorem aeI (s j w:Nat):dJ 208 8 99 [11,13] [vP s 0,vI j]
 [.mem (aD s 0) (vI w),
  aP (ie w 0) false,
  aP (ie w 12) false]
 .ret [8,9] [vI j,vI 0]:=dc
theorem SM:jy 208 4 [8,9]=true:=aU
theorem yU:(di (bN 208)).length<=99:=af aU
section
variable {K:fZ}{B:Nat->Prop}{p n cc:Nat}{rest:List ae}{m m':Mem}{d:Array El}
theorem Sv.acB(h:Sv B p n rest m d){s:Nat}(k:Kp m m' (fun y=>y=s))(hp:s≠p)(hb:¬B s):Sv B p n rest m' d:=
 ⟨h.gd.ext k,h.ob.ext k fun e=>hp e.symm,h.ow.ext k,h.sz,h.nb,fun x hx=>⟨cR.ext (h.el x hx).1 k fun b h e=>hb (e▸h),(h.el x hx).2⟩⟩
theorem Cn.ext{s w:Nat}(h:Cn B p m s w)(k:Kp m m' fu):Cn B p m' s w:=⟨h.ob.cf k,h.ow.ext k,h.ne,h.nb⟩
theorem acT (h:Sv B p n rest m d){a b s w:Nat}(q:Cn B p m s w)(ha:a<n)(hb:b<n)(hw:w<90000):
  ∃m',Ev K 274 [vL p 0 n cc,vI a,vI b,vP s 0,fR] m (.tuple #[vI ((Sort.order2 cT d a b w).1:Int),vI ((Sort.order2 cT d a b w).2.1:Int)]) m'/\Kp m m' (fun y=>y=s)/\Sv B p n rest m' d/\Cn B p m' s (Sort.order2 cT d a b w).2.2:=by
 have g:=h.gd;obtain⟨c,m2,e2,k2,s2,hc⟩:=h.cmp (K:=K) hb ha;have g2:=s2.gd;have q2:=q.ext k2;have ob2:=q2.ob
 by_cases hl:cT d[b]! d[a]! =true
 ·obtain⟨m3,e3,o3,k3⟩:=jF (vI (w+1:Nat)) q2.ob (q2.ow.may 0 1) du;have e:Sort.order2 cT d a b w=(b,a,w+1):=bj hl;rw[e];refine⟨m3,aY (af4 p n cc a b s w d[a]!.1 d[b]!.1 c) (.idx rfl ai<| .mem h.ld<| .idx rfl ai<| .mem h.ld<| .mem (aK ft)<| .bM e2<| .cond (bT (hc.trans hl))<| .mem (aS ft rfl)<| .mem (by rw[dI];exact e3)<| .nil),k2.vl.trans k3 fun _ _ h=>h,s2.acB k3 q.ne q.nb,o3,q2.ow.ext k3,q.ne,q.nb⟩
 ·have hl:=Bool.eq_false_iff.2 hl;have e:Sort.order2 cT d a b w=(a,b,w):=bW (by simp[hl]);rw[e];exact⟨m2,aY (af3 p n cc a b s d[a]!.1 d[b]!.1 c) (.idx rfl ai<| .mem h.ld<| .idx rfl ai<| .mem h.ld<| .mem (aK ft)<| .bM e2<| .cond (bF (hc.trans hl))<| .nil),k2.vl,s2,q2⟩
theorem yR {a b w:Nat}(ha:a<n)(hb:b<n):(Sort.order2 cT d a b w).1<n/\(Sort.order2 cT d a b w).2.1<n/\(Sort.order2 cT d a b w).2.2<=w+1:=by
 unfold Sort.order2;split<;>exact⟨ft,ft,du⟩
theorem acU (h:Sv B p n rest m d){a b c s w:Nat}(q:Cn B p m s w)(ha:a<n)(hb:b<n)(hc:c<n)(hw:w<80000):
  ∃m',Ev K 258 [vL p 0 n cc,vI a,vI b,vI c,vP s 0,fR] m (vI ((Sort.median cT d a b c w).1:Int)) m'/\Kp m m' (fun y=>y=s)/\Sv B p n rest m' d/\Cn B p m' s (Sort.median cT d a b c w).2/\(Sort.median cT d a b c w).1<n/\(Sort.median cT d a b c w).2<=w+3:=by
 obtain⟨m1,e1,k1,s1,q1⟩:=acT (K:=K) (cc:=cc) h q ha hb ai;obtain⟨a1,a2,a3⟩:=yR (d:=d) (w:=w) ha hb;obtain⟨m2,e2,k2,s2,q2⟩:=acT (K:=K) (cc:=cc) s1 q1 a2 hc ai;obtain⟨b1,b2,b3⟩:=yR (d:=d) (w:=(Sort.order2 cT d a b w).2.2) a2 hc;obtain⟨m3,e3,k3,s3,q3⟩:=acT (K:=K) (cc:=cc) s2 q2 a1 b1 ai;obtain⟨c1,c2,c3⟩:=yR (d:=d) (w:=(Sort.order2 cT d (Sort.order2 cT d a b w).2.1 c (Sort.order2 cT d a b w).2.2).2.2) a1 b1;exact⟨m3,aY (ajA ..) (.call e1<| .call e2<| .call e3 .nil),(k1.trans k2 fun _ _ h=>h).trans k3 fun _ _ h=>h,s3,q3,c2,bV c3 ai⟩
theorem acV (h:Sv B p n rest m d){a s w:Nat}(q:Cn B p m s w)(h0:0<a)(ha:a+1<n)(hn:n<90000)(hw:w<80000):
  ∃m',Ev K 257 [vL p 0 n cc,vI a,vP s 0,fR] m (vI ((Sort.medianAdjacent cT d a w).1:Int)) m'/\Kp m m' (fun y=>y=s)/\Sv B p n rest m' d/\Cn B p m' s (Sort.medianAdjacent cT d a w).2/\(Sort.medianAdjacent cT d a w).1<n/\(Sort.medianAdjacent cT d a w).2<=w+3:=by
 obtain⟨m1,e1,r⟩:=acU (K:=K) (cc:=cc) h q (a:=a-1) (b:=a) (c:=a+1) ai ai ha hw;refine⟨m1,aY (ajB p n cc a s _) (.call ?_ .nil),r⟩;have e:bQ a 1=((a-1:Nat):Int):=kj (j:=1) ai;rw[e,dI];exact e1
theorem alL (h:Sv B p n rest m d)(hn:n<90000){a b:Nat}(hb:b<=n)(h1:1<=b)(ha:a<90000):
  ∃m',Ev K 209 [vL p 0 n cc,vI a,vI b,fR] m (.tuple #[]) m'/\Kp m m' (fun y=>y=p)/\Sv B p n rest m' (Sort.reverseRange d a b):=by
 obtain⟨t0,w0,e0⟩:=aR (K:=K) (m:=m) (m':=m) (tm:=entry [vL p 0 n cc,vI a,vI b,fR]) (aeH p n cc a b) rfl .nil;have e:bQ b 1=((b-1:Nat):Int):=kj (j:=1) ai;rw[e]at e0;obtain⟨e,t1,m',he,hx,rfl,r⟩:=jx (K:=K) (nt:=eY 209) (a:=bX 209 [2])
  (Inv:=fun k tm m'=>∃(d':Array El) (i:Nat),i<=90000/\k<n/\bu [0,8,9] tm=[vL p 0 n cc,vI i,vI k]/\Kp m m' (fun y=>y=p)/\Sv B p n rest m' d'/\Sort.reverseLoop i k d'=Sort.reverseRange d a b)
  (dm:=fun e tm m'=>e= .exit 0/\Kp m m' (fun y=>y=p)/\Sv B p n rest m' (Sort.reverseRange d a b))
  (by
   rintro k tm m1 ⟨d',i,hi,hk,hg,k1,s1,hd⟩;have g1:=s1.gd
   by_cases hik:i<k
   ·obtain⟨m3,m4,e3,g3,e4,k4,s4⟩:=s1.swap (i:=i) (j:=k);obtain⟨t2,cN,cz⟩:=aI NV (aeF p n cc i k d'[i]!.1 d'[k]!.1) hg (.cond (dT gF)<| .idx rfl ai<| .mem s1.ld<| .idx rfl ai<| .mem s1.ld<| .idx rfl ai<| .mem (aK ft)<| .mem e3<| .idx rfl ai<| .mem (aK ft)<| .mem e4<| .nil);have e:bQ k 1=((k-1:Nat):Int):=kj (j:=1) ai;rw[e,dI]at cz;refine .inl ⟨k-1,t2,m4,ai,cN,_,i+1,ai,ai,cz,k1.trans k4 fun _ _ h=>h,s4,?_⟩;rw[<-hd]
    conv=>rhs;rw[Sort.reverseLoop]
    rw[bj hik]
   ·obtain⟨t2,cN,cz⟩:=aI (K:=K) (m:=m1) (m':=m1) NV (aeG p n cc i k) hg (.cond (dF gF)<| .nil);refine .inr ⟨_,t2,m1,g8,cN,rfl,k1,?_⟩;rw[<-hd,Sort.reverseLoop,bW hik];exact s1)
  (n:=b-1) (k:=100000) (tm:=t0) (m:=m) ⟨d,a,ai,ai,e0,.refl _ _,h,rfl⟩ ai
 exact⟨m',eB (vs:=[]) agr (aA.cut w0 (aA.fw hx (aA.done (af aU)))) (.inl rfl) rfl,r⟩
theorem Si {i:Nat}(hi:i<90000){j:Nat}(hj:0<j){d:Option ae}:ik Nat.div .i64 i j d=some (vI (i / j:Nat)):=by
 obtain⟨j,rfl⟩:∃k,j=k+1:=⟨j-1,ai⟩;unfold ik
 show(match Nat.blt i (gv .i64)with |true=>some (ae.int .i64 (.ofNat (Nat.div i (Nat.succ j))))|false=>d)=_
 have :Nat.blt i (gv .i64)=true:=by
  rw[show gv .i64=9223372036854775808 from rfl,j3,iB];omega
 rw[this];rfl
def uf:Sort.Hint->Nat
 | .unknown=>0
 | .increasing=>1
 | .decreasing=>2
theorem alM (h:Sv B p n rest m d)(hn:n<90000){a b:Nat}(hb:b<=n)(w7:a<b)(hB:∀b,B b->b<m.next):
  ∃m',Ev K 208 [vL p 0 n cc,vI a,vI b,fR] m (.tuple #[vI ((Sort.choosePivot cT d a b).1:Int),vI (uf (Sort.choosePivot cT d a b).2:Int)]) m'/\Kp m m' fu/\Sv B p n rest m' d/\(Sort.choosePivot cT d a b).1<n:=by
 obtain⟨m1,ea,oa,ka,na,_⟩:=cA h.gd [vI 0];have s1:=h.ext ka;have dB:=h.ob.lt;have q1:Cn B p m1 m.next 0:=⟨oa,h.gd.own ka (aj _),ai,fun hb=>by have :=hB _ hb;omega⟩;obtain⟨l,hl⟩:∃l,l=b-a:=⟨_,rfl⟩;have e1:bQ b a=((l:Nat):Int):=by rw[hl];exact kj ai
 obtain⟨q,hq⟩:∃q,q=l / 4:=⟨_,rfl⟩;have eq:∀x,ik Nat.div .i64 l 4 x=some (vI q):=fun x=>by rw[hq];exact Si ai (j:=4) ai
 obtain⟨t0,w0,e0⟩:=aR (K:=K) (m:=m) (m':=m1) (tm:=entry [vL p 0 n cc,vI a,vI b,fR]) (aeO p n cc a b q m.next) rfl (.mem ea<| .val (by rw[e1];exact eq _)<| .val (by rw[e1];exact eq _)<| .val (by rw[e1];exact eq _) .nil);have f1:bL a (kQ q 1)=((a+q*1:Nat):Int):=by rw[show kQ q 1=((q*1:Nat):Int)from I6 (j:=1) ai,lZ ai]
 have f2:bL a (kQ q 2)=((a+q*2:Nat):Int):=by rw[show kQ q 2=((q*2:Nat):Int)from I6 (j:=2) ai,lZ ai]
 have f3:bL a (kQ q 3)=((a+q*3:Nat):Int):=by rw[show kQ q 3=((q*3:Nat):Int)from I6 (j:=3) ai,lZ ai]
 rw[e1,f1,f2,f3]at e0;have ll:∃(r:Nat×Nat) (t1:Tm) (m2:Mem),vC K (eY 208) (vu (bN 208) 6 8) ⟨t0,m1,[]⟩ .normal ⟨t1,m2,[]⟩/\bu [11,13] t1=[vP m.next 0,vI (r.1:Int)]/\Kp m1 m2 (fun y=>y=m.next)/\Sv B p n rest m2 d/\Cn B p m2 m.next r.2/\r.1<n/\
   Sort.choosePivot cT d a b=(r.1,if r.2=0 then .increasing else if r.2=12 then .decreasing else .unknown):=by
  by_cases h8:8<=l
  ·by_cases h50:50<=l
   ·obtain⟨m2,c1,k1,s2,q2,l2,v2⟩:=acV (K:=K) (cc:=cc) s1 q1 (a:=a+q*1) ai ai hn ai;obtain⟨m3,c2,k2,s3,q3,l3,v3⟩:=acV (K:=K) (cc:=cc) s2 q2 (a:=a+q*2) ai ai hn ai;obtain⟨m4,c3,k3,s4,q4,l4,v4⟩:=acV (K:=K) (cc:=cc) s3 q3 (a:=a+q*3) ai ai hn ai;obtain⟨m5,c4,k4,s5,q5,l5,v5⟩:=acU (K:=K) (cc:=cc) s4 q4 l2 l3 l4 ai;obtain⟨t1,w1,g1⟩:=aR (K:=K) (aeL p n cc l m.next (a+q*1) (a+q*2) (a+q*3) _ _ _ _) e0 (.cond (dT je)<| .cond (dT je)<| .call c1<| .call c2<| .call c3<| .call c4<| .nil);refine⟨_,t1,m5,w1,g1,((k1.trans k2 fun _ _ h=>h).trans k3 fun _ _ h=>h).trans k4 fun _ _ h=>h,s5,q5,l5,?_⟩;unfold Sort.choosePivot;simp only[<-hl,<-hq];rw[bj h8,bj h50]
   ·obtain⟨m5,c4,k4,s5,q5,l5,v5⟩:=acU (K:=K) (cc:=cc) s1 q1 (a:=a+q*1) (b:=a+q*2) (c:=a+q*3) ai ai ai ai;obtain⟨t1,w1,g1⟩:=aR (K:=K) (aeM p n cc l m.next (a+q*1) (a+q*2) (a+q*3) _) e0 (.cond (dT je)<| .cond (dF je)<| .call c4<| .nil);refine⟨_,t1,m5,w1,g1,k4,s5,q5,l5,?_⟩;unfold Sort.choosePivot;simp only[<-hl,<-hq];rw[bj h8,bW h50]
  ·obtain⟨t1,w1,g1⟩:=aR (K:=K) (m:=m1) (m':=m1) (aeN p n cc l m.next (a+q*1) (a+q*2) (a+q*3)) e0 (.cond (dF je)<| .nil);refine⟨(a+q*2,0),t1,m1,w1,g1,.refl _ _,s1,q1,by show a+q*2<n;omega,?_⟩;unfold Sort.choosePivot;simp only[<-hl,<-hq];rw[bW h8];simp
 obtain⟨r,t1,m2,w1,g1,k1,s2,q2,hr,hc⟩:=ll;have kk:Kp m m2 fu:=ka.trans (k1.mono (S':=fun y=>y=m.next) fun _ _ h=>h) fun b hb e=>by omega
 have hld:aD m.next 0 m2=some (vI (r.2:Int),m2):=aS q2.ob rfl
 by_cases h0:r.2=0
 ·obtain⟨t2,w2,g2⟩:=aR (K:=K) (m:=m2) (m':=m2) (aeJ m.next r.1 r.2) g1 (.mem hld<| .cond (by rw[h0];rfl) .nil);rw[bj h0]at hc;rw[hc];exact⟨m2,eB (vs:=[vI (r.1:Int),vI 1]) SM (aA.cut w0 (aA.cut w1 (aA.last w2 yU))) (.inr rfl) g2,kk,s2,hr⟩
 ·have z0:(.bool (ie (r.2:Int) 0):ae)= .bool false:=by rw[a8];exact bF (by simpa using h0)
  by_cases KJ:r.2=12
  ·obtain⟨t2,w2,g2⟩:=aR (K:=K) (m:=m2) (m':=m2) (aeK m.next r.1 r.2) g1 (.mem hld<| .cond z0<| .cond (by rw[KJ];rfl) .nil);rw[bW h0,bj KJ]at hc;rw[hc];exact⟨m2,eB (vs:=[vI (r.1:Int),vI 2]) SM (aA.cut w0 (aA.cut w1 (aA.last w2 yU))) (.inr rfl) g2,kk,s2,hr⟩
  ·have z1:(.bool (ie (r.2:Int) 12):ae)= .bool false:=by rw[a8];exact bF (yA ai)
   obtain⟨t2,w2,g2⟩:=aR (K:=K) (m:=m2) (m':=m2) (aeI m.next r.1 r.2) g1 (.mem hld<| .cond z0<| .cond z1 .nil);rw[bW h0,bW KJ]at hc;rw[hc];exact⟨m2,eB (vs:=[vI (r.1:Int),vI 0]) SM (aA.cut w0 (aA.cut w1 (aA.last w2 yU))) (.inr rfl) g2,kk,s2,hr⟩
end
end Go.AM
namespace Go.AM
set_option maxRecDepth 1000000
open Go Go.Conc Go.Proofs
theorem ad7 (p n cc h f r:Nat):dJ 254 0 1 [0,1,2,3,4] [vL p 0 n cc,vI r,vI h,vI f,fR]
 []
 .normal [0,2,3,4,10] [vL p 0 n cc,vI h,vI f,fR,vI r]:=dc
theorem ad8 (p n cc h f r:Nat):aT 254 [1,0] 0 1 [0,2,3,4,10] [vL p 0 n cc,vI h,vI f,fR,vI r]
 []
 .normal [0,2,3,4,10,11] [vL p 0 n cc,vI h,vI f,fR,vI r,vI (bL (kQ 2 r) 1)]:=dc
theorem ad3 (p n cc h f r c:Nat):aT 254 [1,0] 1 99 [0,2,3,4,10,11] [vL p 0 n cc,vI h,vI f,fR,vI r,vI c]
 [aP (gU c h) true]
 (.exit 0) [] []:=dc
theorem ad6 (p n cc h f r c:Nat):aT 254 [1,0] 1 5 [0,2,3,4,10,11] [vL p 0 n cc,vI h,vI f,fR,vI r,vI c]
 (aP (gU c h) false::(rp 14 (.bool (cO (bL c 1) h)) false (gp::(rp 3 (.bool (cO (bL c 1) h)) false ([dx])))))
 .normal [0,2,3,4,10,11] [vL p 0 n cc,vI h,vI f,fR,vI r,vI c]:=dc
theorem ad2 (p n cc h f r c:Nat)(x y:ae)(z:Int):aT 254 [1,0] 1 5 [0,2,3,4,10,11] [vL p 0 n cc,vI h,vI f,fR,vI r,vI c]
 (aP (gU c h) false::(rp 6 (.bool (cO (bL c 1) h)) true (.idx (bL f c) n (f+c)::aP (cO (bL c 1) h) true:: .mem (aD p (0+(f+c)*1)) x::(rp 6 (.bool (cO (bL c 1) h)) true ([.idx (bL (bL f c) 1) n (f+c+1),
  aP (cO (bL c 1) h) true,
  .mem (aD p (0+(f+c+1)*1)) y,
  gp,
  aP (cO (bL c 1) h) true,
  .bM fR [x,y] (vI z),
  aP (cO (bL c 1) h) true,
  aP (cO (bL c 1) h) true,
  aP (cO z 0) true])))))
 .normal [0,2,3,4,10,11] [vL p 0 n cc,vI h,vI f,fR,vI r,vI (bL c 1)]:=dc
theorem ad1 (p n cc h f r c:Nat)(x y:ae)(z:Int):aT 254 [1,0] 1 5 [0,2,3,4,10,11] [vL p 0 n cc,vI h,vI f,fR,vI r,vI c]
 (aP (gU c h) false::(rp 6 (.bool (cO (bL c 1) h)) true (.idx (bL f c) n (f+c)::aP (cO (bL c 1) h) true:: .mem (aD p (0+(f+c)*1)) x::(rp 6 (.bool (cO (bL c 1) h)) true ([.idx (bL (bL f c) 1) n (f+c+1),
  aP (cO (bL c 1) h) true,
  .mem (aD p (0+(f+c+1)*1)) y,
  gp,
  aP (cO (bL c 1) h) true,
  .bM fR [x,y] (vI z),
  aP (cO (bL c 1) h) true,
  aP (cO (bL c 1) h) true,
  aP (cO z 0) false])))))
 .normal [0,2,3,4,10,11] [vL p 0 n cc,vI h,vI f,fR,vI r,vI c]:=dc
theorem ad5 (p n cc h f r c:Nat)(x y:ae)(z:Int):aT 254 [1,0] 5 99 [0,2,3,4,10,11] [vL p 0 n cc,vI h,vI f,fR,vI r,vI c]
 [.idx (bL f r) n (f+r),
  .mem (aD p (0+(f+r)*1)) x,
  .idx (bL f c) n (f+c),
  .mem (aD p (0+(f+c)*1)) y,
  gp,
  .bM fR [x,y] (vI z),
  aP (!(cO z 0)) true]
 .ret [] []:=dc
theorem ad4 (p n cc h f r c:Nat)(x y:ae)(z:Int):aT 254 [1,0] 5 99 [0,2,3,4,10,11] [vL p 0 n cc,vI h,vI f,fR,vI r,vI c]
 [.idx (bL f r) n (f+r),
  .mem (aD p (0+(f+r)*1)) x,
  .idx (bL f c) n (f+c),
  .mem (aD p (0+(f+c)*1)) y,
  gp,
  .bM fR [x,y] (vI z),
  aP (!(cO z 0)) false,
  .idx (bL f c) n (f+c),
  .mem (aD p (0+(f+c)*1)) y,
  .idx (bL f r) n (f+r),
  .mem (aD p (0+(f+r)*1)) x,
  .idx (bL f r) n (f+r),
  gp,
  .mem (eH p (0+(f+r)*1) y) undef,
  .idx (bL f c) n (f+c),
  gp,
  .mem (eH p (0+(f+c)*1) x) undef]
 .normal [0,2,3,4,10] [vL p 0 n cc,vI h,vI f,fR,vI c]:=dc
theorem YY:jy 254 5 []=true:=aU
theorem WV:jI (bN 254) 1=some (0,(bX 254 [1])):=aU
theorem Gu:iP 254 [1]:=aU
theorem W0:lN (eY 254) (bN 254) (bX 254 [1]) 1 0=true:=aU
theorem zz:iu (bX 254 [1]) 0=some (1,(bX 254 [1,0])):=aU
theorem zw:jA (eY 254) (bX 254 [1]) (bX 254 [1,0]) 0 1=true:=aU
section
variable {K:fZ}{B:Nat->Prop}{p n cc:Nat}{rest:List ae}{m m':Mem}{d:Array El}
theorem i254 (h:Sv B p n rest m d)(hn:n<90000){f hi r c:Nat}(hr:r<c)(hc:c<hi)(hb:f+hi<=n){tm:Tm}(hg:bu [0,2,3,4,10,11] tm=[vL p 0 n cc,vI hi,vI f,fR,vI r,vI c]):
  (∃cV m',aA K (eY 254) (bX 254 [1,0]) 5 ⟨tm,m,[]⟩ .ret ⟨cV,m',[]⟩/\Kp m m' fu/\Sv B p n rest m' d/\(!cT d[f+r]! d[f+c]!)=true)\/
  (∃cV m',aA K (eY 254) (bX 254 [1,0]) 5 ⟨tm,m,[]⟩ .normal ⟨cV,m',[]⟩/\Kp m m' (fun y=>y=p)/\Sv B p n rest m' (Sort.swp d (f+r) (f+c))/\bu [0,2,3,4,10] cV=[vL p 0 n cc,vI hi,vI f,fR,vI c]/\¬(!cT d[f+r]! d[f+c]!)=true):=by
 obtain⟨z,m2,e2,k2,s2,hz⟩:=h.cmp (K:=K) (i:=f+r) (j:=f+c);have g:=h.gd;have g2:=s2.gd
 by_cases hl:cT d[f+r]! d[f+c]! =true
 ·obtain⟨m3,m4,e3,g3,e4,k4,s4⟩:=s2.swap (i:=f+r) (j:=f+c);obtain⟨t2,w2,cz⟩:=aR (ad4 p n cc hi f r c d[f+r]!.1 d[f+c]!.1 z) hg (.idx lZ ai<| .mem h.ld<| .idx lZ ai<| .mem h.ld<| .mem (aK ft)<| .bM e2<| .cond (bF (by rw[hz,hl];rfl))<| .idx lZ ai<| .mem s2.ld<| .idx lZ ai<| .mem s2.ld<| .idx lZ ai<| .mem (aK ft)<| .mem e3<| .idx lZ ai<| .mem (aK ft)<| .mem e4<| .nil);exact .inr ⟨t2,m4,aA.last w2 (af aU),k2.vl.trans k4 fun _ _ h=>h,s4,cz,by simp[hl]⟩
 ·have hl:=Bool.eq_false_iff.2 hl;obtain⟨t2,w2,cz⟩:=aR (ad5 p n cc hi f r c d[f+r]!.1 d[f+c]!.1 z) hg (.idx lZ ai<| .mem h.ld<| .idx lZ ai<| .mem h.ld<| .mem (aK ft)<| .bM e2<| .cond (bT (by rw[hz,hl];rfl))<| .nil);exact .inl ⟨t2,m2,aA.last w2 (af aU),k2,s2,by simp[hl]⟩
theorem ah8 (h:Sv B p n rest m d)(hn:n<90000){lo hi f:Nat}(hb:f+hi<=n)(jd:lo<90000):
  ∃m',Ev K 254 [vL p 0 n cc,vI lo,vI hi,vI f,fR] m (.tuple #[]) m'/\Kp m m' (fun y=>y=p)/\Sv B p n rest m' (Sort.siftDown cT hi f lo d):=by
 obtain⟨t0,w0,e0⟩:=aR (K:=K) (m:=m) (m':=m) (tm:=entry [vL p 0 n cc,vI lo,vI hi,vI f,fR]) (ad7 p n cc hi f lo) rfl .nil;obtain⟨e,t1,m',he,hx,G7,r⟩:=jx (K:=K) (nt:=eY 254) (a:=bX 254 [1])
  (Inv:=fun k tm m'=>∃(d':Array El) (r:Nat),r<90000/\k=hi-r/\bu [0,2,3,4,10] tm=[vL p 0 n cc,vI hi,vI f,fR,vI r]/\Kp m m' (fun y=>y=p)/\Sv B p n rest m' d'/\Sort.siftDown cT hi f r d'=Sort.siftDown cT hi f lo d)
  (dm:=fun e tm m'=>(e= .exit 0\/e= .ret)/\Kp m m' (fun y=>y=p)/\Sv B p n rest m' (Sort.siftDown cT hi f lo d))
  (by
   rintro k tm m1 ⟨d',r,hr,rfl,hg,k1,s1,hd⟩;have g1:=s1.gd;obtain⟨ta,wa,ea⟩:=aR (K:=K) (m:=m1) (m':=m1) (ad8 p n cc hi f r) hg .nil;rw[show kQ 2 r=((2*r:Nat):Int)from I6 (i:=2) ai,dI]at ea
   by_cases hh:2*r+1≥hi
   ·obtain⟨t2,w2,cz⟩:=aR (K:=K) (m:=m1) (m':=m1) (ad3 p n cc hi f r (2*r+1)) ea (.cond (dT je)<| .nil);refine .inr ⟨.exit 0,t2,m1,g8,(aA.MS zz zw (aA.cut wa (aA.last w2 (af aU))) rfl aU).code Gu,.inl rfl,k1,?_⟩;rw[<-hd,Sort.siftDown,dif_pos hh];exact s1
   ·have pick:∃(c:Nat) (tb:Tm) (m2:Mem),vC K (eY 254) (vu (bX 254 [1,0]) 1 5) ⟨ta,m1,[]⟩ .normal ⟨tb,m2,[]⟩/\bu [0,2,3,4,10,11] tb=[vL p 0 n cc,vI hi,vI f,fR,vI r,vI c]/\Kp m1 m2 fu/\Sv B p n rest m2 d'/\c<hi/\r<c/\
      Sort.siftDown cT hi f r d'=(if(!cT d'[f+r]! d'[f+c]!)=true then d' else Sort.siftDown cT hi f c (Sort.swp d' (f+r) (f+c))):=by
     by_cases h2:2*r+1+1<hi
     ·obtain⟨z,m2,e2,k2,s2,hz⟩:=s1.cmp (K:=K) (i:=f+(2*r+1)) (j:=f+(2*r+1)+1);have g2:=s2.gd
      by_cases hl:cT d'[f+(2*r+1)]! d'[f+(2*r+1)+1]! =true
      ·obtain⟨tb,wb,eb⟩:=aR (ad2 p n cc hi f r (2*r+1) d'[f+(2*r+1)]!.1 d'[f+(2*r+1)+1]!.1 z) ea (.cond (dF je)<| .rp (dT (by rw[dI];exact gF))<| .idx lZ ai<| .cond (dT (by rw[dI];exact gF))<| .mem s1.ld<| .rp (dT (by rw[dI];exact gF))<| .idx (by rw[lZ,dI]) ai<| .cond (dT (by rw[dI];exact gF))<| .mem s1.ld<| .mem (aK ft)<| .cond (dT (by rw[dI];exact gF))<| .bM e2<| .cond (dT (by rw[dI];exact gF))<| .cond (dT (by rw[dI];exact gF))<| .cond (bT (hz.trans hl))<| .nil);rw[dI]at eb;refine⟨2*r+2,tb,m2,wb,eb,k2,s2,h2,ai,?_⟩;rw[Sort.siftDown,dif_neg hh,bj (by simp[h2,hl])];simp only[dif_pos (show 2*r+2<hi from h2)]
      ·have hl:=Bool.eq_false_iff.2 hl;obtain⟨tb,wb,eb⟩:=aR (ad1 p n cc hi f r (2*r+1) d'[f+(2*r+1)]!.1 d'[f+(2*r+1)+1]!.1 z) ea (.cond (dF je)<| .rp (dT (by rw[dI];exact gF))<| .idx lZ ai<| .cond (dT (by rw[dI];exact gF))<| .mem s1.ld<| .rp (dT (by rw[dI];exact gF))<| .idx (by rw[lZ,dI]) ai<| .cond (dT (by rw[dI];exact gF))<| .mem s1.ld<| .mem (aK ft)<| .cond (dT (by rw[dI];exact gF))<| .bM e2<| .cond (dT (by rw[dI];exact gF))<| .cond (dT (by rw[dI];exact gF))<| .cond (bF (hz.trans hl))<| .nil);refine⟨2*r+1,tb,m2,wb,eb,k2,s2,ai,ai,?_⟩;rw[Sort.siftDown,dif_neg hh,bW (by simp[hl])]
     ·obtain⟨tb,wb,eb⟩:=aR (K:=K) (m:=m1) (m':=m1) (ad6 p n cc hi f r (2*r+1)) ea (.cond (dF je)<| .rp (dF (by rw[dI];exact gF))<| .mem (aK ft)<| .rp (dF (by rw[dI];exact gF))<| .cond rfl<| .nil);refine⟨2*r+1,tb,m1,wb,eb,.refl _ _,s1,ai,ai,?_⟩;rw[Sort.siftDown,dif_neg hh,bW (by simp;omega)]
    obtain⟨c,tb,m2,wb,eb,k2,s2,hc,hrc,hq⟩:=pick;rcases i254 (K:=K) s2 hn hrc hc hb eb with⟨t3,m3,w3,k3,s3,hl⟩|⟨t3,m3,w3,k3,s3,e3,hl⟩
    ·refine .inr ⟨.ret,t3,m3,g8,(aA.wP zz zw (aA.cut wa (aA.cut wb w3)) aU).code Gu,.inr rfl,(k1.aZ k2).aZ k3,?_⟩;rw[<-hd,hq,bj hl];exact s3
    ·refine .inl ⟨hi-c,t3,m3,ai,(aA.sG zz zw (aA.cut wa (aA.cut wb w3)) (.inl rfl) (aA.done (af aU))).code Gu,_,c,ai,rfl,e3,(k1.aZ k2).trans k3 fun _ _ h=>h,s3,?_⟩;rw[<-hd,hq,bW hl])
  (n:=hi-lo) (k:=100000) (tm:=t0) (m:=m) ⟨d,lo,jd,rfl,e0,.refl _ _,h,rfl⟩ ai
 rcases G7 with rfl|rfl
 ·exact⟨m',eB (vs:=[]) YY (aA.cut w0 (aA.fw hx (aA.done (af aU)))) (.inl rfl) rfl,r⟩
 ·exact⟨m',eB (vs:=[]) YY (aA.cut w0 (aA.Co WV W0 hx aU)) (.inr rfl) rfl,r⟩
end
end Go.AM
namespace Go.AM
set_option maxRecDepth 1000000
open Go Go.Conc Go.Proofs
theorem aeZ (p n cc a b q:Nat):dJ 206 0 4 [0,1,2,3] [vL p 0 n cc,vI a,vI b,fR]
 [.val (ik Nat.div .i64 (bQ (bQ b a) 1) 2 (gE ab .quo 3 false true (vI (bQ (bQ b a) 1)) (vI 2))) (vI q)]
 .normal [0,3,8,9,10,11] [vL p 0 n cc,fR,vI a,vI 0,vI (bQ b a),vI q]:=dc
theorem aeV (p n cc a h k:Nat):aT 206 [4] 0 99 [0,3,8,9,10,11] [vL p 0 n cc,fR,vI a,vI 0,vI h,vI k]
 [aP (gU k 0) true,
  .call 254 [vL p 0 n cc,vI k,vI h,vI a,fR] (.tuple #[])]
 .normal [0,3,8,9,10,11] [vL p 0 n cc,fR,vI a,vI 0,vI h,vI (bQ k 1)]:=dc
theorem aeX (p n cc a h:Nat)(i:Int):aT 206 [4] 0 99 [0,3,8,9,10,11] [vL p 0 n cc,fR,vI a,vI 0,vI h,vI i]
 [aP (gU i 0) false]
 (.exit 0) [0,3,8,9,10] [vL p 0 n cc,fR,vI a,vI 0,vI h]:=dc
theorem aeY (p n cc a h:Nat):dJ 206 5 6 [0,3,8,9,10] [vL p 0 n cc,fR,vI a,vI 0,vI h]
 []
 .normal [0,3,8,9,12] [vL p 0 n cc,fR,vI a,vI 0,vI (bQ h 1)]:=dc
theorem aeU (p n cc a k:Nat)(x y:ae):aT 206 [6] 0 99 [0,3,8,9,12] [vL p 0 n cc,fR,vI a,vI 0,vI k]
 [aP (gU k 0) true,
  .idx (bL a k) n (a+k),
  .mem (aD p (0+(a+k)*1)) y,
  .idx a n a,
  .mem (aD p (0+a*1)) x,
  .idx a n a,
  gp,
  .mem (eH p (0+a*1) y) undef,
  .idx (bL a k) n (a+k),
  gp,
  .mem (eH p (0+(a+k)*1) x) undef,
  .call 254 [vL p 0 n cc,vI 0,vI k,vI a,fR] (.tuple #[])]
 .normal [0,3,8,9,12] [vL p 0 n cc,fR,vI a,vI 0,vI (bQ k 1)]:=dc
theorem aeW (p n cc a:Nat)(i:Int):aT 206 [6] 0 99 [0,3,8,9,12] [vL p 0 n cc,fR,vI a,vI 0,vI i]
 [aP (gU i 0) false]
 (.exit 2) [] []:=dc
theorem agt:jy 206 4 []=true:=aU
theorem NX:iP 206 [4]:=aU
theorem NW:iP 206 [6]:=aU
section
variable {K:fZ}{B:Nat->Prop}{p n cc:Nat}{rest:List ae}{m m':Mem}{d:Array El}
theorem Ts {k:Nat}(h:k<2^60:=by omega):bQ k 1=(k:Int)-1:=xr ⟨ai,ai⟩
theorem alO (h:Sv B p n rest m d)(hn:n<90000){a b:Nat}(w7:a<b)(hb:b<=n):
  ∃m',Ev K 206 [vL p 0 n cc,vI a,vI b,fR] m (.tuple #[]) m'/\Kp m m' (fun y=>y=p)/\Sv B p n rest m' (Sort.heapSort cT d a b):=by
 obtain⟨hi,hh⟩:∃hi,hi=b-a:=⟨_,rfl⟩;have e1:bQ b a=((hi:Nat):Int):=by rw[hh];exact kj ai
 have e2:bQ hi 1=((hi-1:Nat):Int):=kj (j:=1) ai;obtain⟨t0,w0,e0⟩:=aR (K:=K) (m:=m) (m':=m) (tm:=entry [vL p 0 n cc,vI a,vI b,fR]) (aeZ p n cc a b ((hi-1) / 2)) rfl (.val (by rw[e1,e2];exact Si ai (j:=2) ai) .nil);rw[e1]at e0;obtain⟨_,t1,m1,_,DK,rfl,eg1,k1,s1⟩:=jx (K:=K) (nt:=eY 206) (a:=bX 206 [4])
  (Inv:=fun k tm m'=>∃(d':Array El) (i:Int),k<=hi/\i=(k:Int)-1/\bu [0,3,8,9,10,11] tm=[vL p 0 n cc,fR,vI a,vI 0,vI hi,vI i]/\Kp m m' (fun y=>y=p)/\Sv B p n rest m' d'/\Sort.heapBuild cT hi a k d'=Sort.heapBuild cT hi a ((hi-1) / 2+1) d)
  (dm:=fun e tm m'=>e= .exit 0/\bu [0,3,8,9,10] tm=[vL p 0 n cc,fR,vI a,vI 0,vI hi]/\Kp m m' (fun y=>y=p)/\Sv B p n rest m' (Sort.heapBuild cT hi a ((hi-1) / 2+1) d))
  (by
   rintro k tm m1 ⟨d',i,hk,rfl,hg,k1,s1,hd⟩;cases k with
   |zero=>
    obtain⟨t2,cN,cz⟩:=aI (K:=K) (m:=m1) (m':=m1) NX (aeX p n cc a hi (((0:Nat):Int)-1)) hg (.cond (by rfl) .nil);exact .inr ⟨_,t2,m1,g8,cN,rfl,cz,k1,by rw[<-hd];exact s1⟩
   |succ k=>
    rw[show((k+1:Nat):Int)-1=(k:Int) by omega]at hg;obtain⟨m2,c2,k2,s2⟩:=ah8 (K:=K) (cc:=cc) s1 hn (lo:=k) (hi:=hi) (f:=a) ai ai;obtain⟨t2,cN,cz⟩:=aI NX (aeV p n cc a hi k) hg (.cond (dT (je (j:=0)))<| .call c2<| .nil);rw[Ts]at cz;exact .inl ⟨k,t2,m2,ai,cN,_,_,ai,rfl,cz,k1.trans k2 fun _ _ h=>h,s2,hd⟩)
  (n:=(hi-1) / 2+1) (k:=100000) (tm:=t0) (m:=m) ⟨d,_,ai,ai,e0,.refl _ _,h,rfl⟩ ai
 obtain⟨t2,w2,eg2⟩:=aR (K:=K) (m:=m1) (m':=m1) (aeY p n cc a hi) eg1 .nil;rw[Ts]at eg2;obtain⟨e,t3,m3,he,hx3,rfl,r⟩:=jx (K:=K) (nt:=eY 206) (a:=bX 206 [6])
  (Inv:=fun k tm m'=>∃(d':Array El) (i:Int),k<=hi/\i=(k:Int)-1/\bu [0,3,8,9,12] tm=[vL p 0 n cc,fR,vI a,vI 0,vI i]/\Kp m m' (fun y=>y=p)/\Sv B p n rest m' d'/\Sort.heapPop cT a k d'=Sort.heapSort cT d a b)
  (dm:=fun e tm m'=>e= .exit 2/\Kp m m' (fun y=>y=p)/\Sv B p n rest m' (Sort.heapSort cT d a b))
  (by
   rintro k tm m1 ⟨d',i,hk,rfl,hg,k1,s1,hd⟩;cases k with
   |zero=>
    obtain⟨t2,cN,cz⟩:=aI (K:=K) (m:=m1) (m':=m1) NW (aeW p n cc a (((0:Nat):Int)-1)) hg (.cond (by rfl) .nil);exact .inr ⟨_,t2,m1,g8,cN,rfl,k1,by rw[<-hd];exact s1⟩
   |succ k=>
    rw[show((k+1:Nat):Int)-1=(k:Int) by omega]at hg;have g1:=s1.gd;obtain⟨m3,m4,e3,g3,e4,k4,s4⟩:=s1.swap (i:=a) (j:=a+k);obtain⟨m2,c2,k2,s2⟩:=ah8 (K:=K) (cc:=cc) s4 hn (lo:=0) (hi:=k) (f:=a) ai ai;obtain⟨t2,cN,cz⟩:=aI NW (aeU p n cc a k d'[a]!.1 d'[a+k]!.1) hg (.cond (dT (je (j:=0)))<| .idx lZ ai<| .mem s1.ld<| .idx rfl ai<| .mem s1.ld<| .idx rfl ai<| .mem (aK ft)<| .mem e3<| .idx lZ ai<| .mem (aK ft)<| .mem e4<| .call c2<| .nil);rw[Ts]at cz;exact .inl ⟨k,t2,m2,ai,cN,_,_,ai,rfl,cz,(k1.trans k4 fun _ _ h=>h).trans k2 fun _ _ h=>h,s2,hd⟩)
  (n:=hi) (k:=100000) (tm:=t2) (m:=m1) ⟨_,_,ai,rfl,eg2,k1,s1,by unfold Sort.heapSort;rw[<-hh]⟩ ai
 exact⟨m3,eB (vs:=[]) agt (aA.cut w0 (aA.fw DK (aA.cut w2 (aA.fw hx3 (aA.done (af aU)))))) (.inl rfl) rfl,r⟩
end
end Go.AM
namespace Go.AM
set_option maxRecDepth 1000000
open Go Go.Conc Go.Proofs
theorem EC (x:Nat):bU.u64.wrap x=((x%18446744073709551616:Nat):Int):=by
 unfold bU.wrap;simp[bU.signed,bU.bits]
abbrev vW (n:Int):ae:= .int .u64 n
theorem adP (t x k:Nat)(hk:k<64):gE ab .shl t false true (vW x) (vW k)=some (vW (x*2^k%18446744073709551616:Nat)):=by
 have e:gE ab .shl t false true (vW x) (vW k)=some (vW (bU.u64.wrap ((x:Int)*2^(min k 64)))):=by
  refine tK rfl ?_ rfl;rw[gz]
  show(Op.shift .shl .u64 x .u64 k).aM ab=_
  unfold Op.shift;rw[bW ai];rfl
 rw[e,Nat.min_eq_left ai,<-EC];simp
theorem adO (t x k:Nat)(hk:k<64):gE ab .shr t false true (vW x) (vW k)=some (vW (x / 2^k:Nat)):=by
 have e:gE ab .shr t false true (vW x) (vW k)=some (vW ((x:Int).fdiv (2^(min k 64)))):=by
  refine tK rfl ?_ rfl;rw[gz]
  show(Op.shift .shr .u64 x .u64 k).aM ab=_
  unfold Op.shift;rw[bW ai];rfl
 rw[e,Nat.min_eq_left ai,Int.fdiv_eq_ediv_of_nonneg _ (Int.pow_nonneg eS)];simp
theorem ofI (x:Nat):BitVec.ofInt 64 x=BitVec.ofNat 64 x:=du
theorem aai {t x y:Nat}(hx:x<18446744073709551616)(hy:y<18446744073709551616):rJ Nat.xor .u64 x y (gE ab .xor t false false (vW x) (vW y))=some (vW (x^^^y:Nat)):=by
 have e:gE ab .xor t false false (vW x) (vW y)=some (vW (bU.u64.wrap ((BitVec.ofInt 64 x^^^BitVec.ofInt 64 y).toNat))):=by
  refine tK rfl ?_ rfl;rw[gz];rfl
 rw[e,EC,ofI,ofI,BitVec.toNat_xor,BitVec.toNat_ofNat,BitVec.toNat_ofNat,Nat.mod_eq_of_lt hx,Nat.mod_eq_of_lt hy,Nat.mod_eq_of_lt (Nat.xor_lt_two_pow (n:=64) hx hy)]
 show(match Nat.blt x (gv .u64)&&Nat.blt y (gv .u64)with |true=>some (vW (Int.ofNat (x^^^y)))|false=>_)=_
 split<;>rfl
theorem al7 {t x y:Nat}(hx:x<18446744073709551616)(hy:y<18446744073709551616):rJ Nat.land .u64 x y (gE ab .and t false false (vW x) (vW y))=some (vW (x&&&y:Nat)):=by
 have e:gE ab .and t false false (vW x) (vW y)=some (vW (bU.u64.wrap ((BitVec.ofInt 64 x&&&BitVec.ofInt 64 y).toNat))):=by
  refine tK rfl ?_ rfl;rw[gz];rfl
 rw[e,EC,ofI,ofI,BitVec.toNat_and,BitVec.toNat_ofNat,BitVec.toNat_ofNat,Nat.mod_eq_of_lt hx,Nat.mod_eq_of_lt hy,Nat.mod_eq_of_lt (Nat.lt_of_le_of_lt Nat.and_le_left hx)]
 show(match Nat.blt x (gv .u64)&&Nat.blt y (gv .u64)with |true=>some (vW (Int.ofNat (x&&&y)))|false=>_)=_
 split<;>rfl
theorem cvW {t x:Nat}(hx:x<18446744073709551616)(ht:t=195\/t=415):pu ab [vI x] (convert 3 t (vI x))=some (vW x):=by
 have e:pu ab [vI x] (convert 3 t (vI x))=some (vW (bU.u64.wrap x)):=by
  rcases ht with rfl|rfl<;>kernel_rfl
 rw[e,EC,Nat.mod_eq_of_lt hx]
theorem cvI {x:Nat}(hx:x<2^60):pu ab [vW x] (convert 195 3 (vW x))=some (vI x):=by
 have e:pu ab [vW x] (convert 195 3 (vW x))=some (vI (bU.i64.wrap x)):=aU;rw[e,qf ⟨ai,ai⟩]
def F4:ByteArray:=⟨((List.range 256).map fun n=>UInt8.ofNat (Sort.bitsLen n)).toArray⟩
theorem EK:F4.size=256:=aU
theorem RI:((List.range 256).all fun y=>Ar F4 y==Sort.bitsLen y)=true:=aU
theorem No {y:Nat}(h:y<256):Ar F4 y=Sort.bitsLen y:=by simpa using aB.1 RI y (List.mem_range.2 h)
theorem U4 {l:Nat}(h:256<=l):Sort.bitsLen l=Sort.bitsLen (l / 256)+8:=by
 have k:∀k,Sort.bitsLen l<=k↔Sort.bitsLen (l / 256)+8<=k:=fun k=>by
  rw[Sort.bitsLen_le_iff]
  by_cases hk:8<=k
  ·obtain⟨j,rfl⟩:∃j,k=j+8:=⟨k-8,ai⟩;rw[show Sort.bitsLen (l / 256)+8<=j+8↔Sort.bitsLen (l / 256)<=j by omega,Sort.bitsLen_le_iff,Nat.pow_add,Nat.div_lt_iff_lt_mul eS]
  ·have :2^k<=2^8:=Nat.pow_le_pow_right eS ai
   constructor<;>intro <;>omega
 exact Nat.le_antisymm ((k _).2 (aj _)) ((k _).1 (aj _))
theorem ajC (s w w1 w2 w3 w4 w5 w6:Nat):Path 256 [vP s 0]
 [.mem (aD s 0) (.int .u64 w),
  .mem (aD s 0) (.int .u64 w),
  .val (gE ab .shl 415 false true (.int .u64 w) (.int .u64 13)) (.int .u64 w1),
  .val (rJ Nat.xor .u64 w w1 (gE ab .xor 415 false false (.int .u64 w) (.int .u64 w1))) (.int .u64 w2),
  gp,
  .mem (eH s 0 (.int .u64 w2)) undef,
  .mem (aD s 0) (.int .u64 w2),
  .mem (aD s 0) (.int .u64 w2),
  .val (gE ab .shr 415 false true (.int .u64 w2) (.int .u64 7)) (.int .u64 w3),
  .val (rJ Nat.xor .u64 w2 w3 (gE ab .xor 415 false false (.int .u64 w2) (.int .u64 w3))) (.int .u64 w4),
  gp,
  .mem (eH s 0 (.int .u64 w4)) undef,
  .mem (aD s 0) (.int .u64 w4),
  .mem (aD s 0) (.int .u64 w4),
  .val (gE ab .shl 415 false true (.int .u64 w4) (.int .u64 17)) (.int .u64 w5),
  .val (rJ Nat.xor .u64 w4 w5 (gE ab .xor 415 false false (.int .u64 w4) (.int .u64 w5))) (.int .u64 w6),
  gp,
  .mem (eH s 0 (.int .u64 w6)) undef,
  .mem (aD s 0) (.int .u64 w6)]
 (.int .u64 w6):=lV
theorem ajD (l k M:Nat):Path 255 [vI l]
 [.val (pu ab [vI l] (convert 3 195 (vI l))) (.int .u64 l),
  .call 153 [.int .u64 l] (vI k),
  .val (gE ab .shl 195 true false (.int .u64 1) (vI k)) (.int .u64 M)]
 (.int .u64 M):=lV
theorem agl (l k:Nat):Path 153 [.int .u64 l]
 [dx,
  .call 214 [.int .u64 l] (vI k)]
 (vI k):=lV
theorem agf (l h y k:Nat):Path 214 [.int .u64 l]
 [aP (gU l 4294967296) false,
  aP (gU l 65536) false,
  aP (gU l 256) false,
  .val (pu ab [.int .u64 l] (convert 262 5 (.int .u64 l))) (.int .u8 y),
  .idx y F4.size y,
  .val (pu ab [.int .u8 (Ar F4 y:Nat)] (convert 5 3 (.int .u8 (Ar F4 y:Nat)))) (vI k)]
 (vI (bL 0 k)):=lV
theorem age (l h y k:Nat):Path 214 [.int .u64 l]
 [aP (gU l 4294967296) false,
  aP (gU l 65536) false,
  aP (gU l 256) true,
  .val (gE ab .shr 262 false true (.int .u64 l) (.int .u64 8)) (.int .u64 h),
  .val (pu ab [.int .u64 h] (convert 262 5 (.int .u64 h))) (.int .u8 y),
  .idx y F4.size y,
  .val (pu ab [.int .u8 (Ar F4 y:Nat)] (convert 5 3 (.int .u8 (Ar F4 y:Nat)))) (vI k)]
 (vI (bL 8 k)):=lV
section
variable {K:fZ}{m:Mem}
theorem cv8 {x:Nat}(h:x<256):pu ab [vW x] (convert 262 5 (vW x))=some (.int .u8 x):=by
 have e:pu ab [vW x] (convert 262 5 (vW x))=some (.int .u8 (bU.u8.wrap x)):=aU;rw[e,show bU.u8.wrap x=x by unfold bU.wrap;simp[bU.signed,bU.bits];omega]
theorem cv9 {x:Nat}(h:x<256):pu ab [.int .u8 x] (convert 5 3 (.int .u8 x))=some (vI x):=by
 have e:pu ab [.int .u8 x] (convert 5 3 (.int .u8 x))=some (vI (bU.i64.wrap x)):=aU;rw[e,qf ⟨ai,ai⟩]
theorem Bl {l:Nat}(h:l<256):Sort.bitsLen l<256:=Nat.lt_of_le_of_lt ((Sort.bitsLen_le_iff l 8).2 h) eS
theorem alH {l:Nat}(h:l<65536):Ev K 214 [vW l] m (vI (Sort.bitsLen l:Int)) m:=by
 by_cases h8:l<256
 ·have :=aY (K:=K) (m:=m) (m':=m) (agf l 0 l (Sort.bitsLen l)) (.cond (dF (je (j:=4294967296)))<| .cond (dF (je (j:=65536)))<| .cond (dF (je (j:=256)))<| .val (cv8 h8)<| .idx rfl (by rw[EK];exact h8)<| .val (by rw[No h8];exact cv9 (Bl h8)) .nil);rwa[show bL 0 (Sort.bitsLen l:Nat)=((0+Sort.bitsLen l:Nat):Int)from lZ (i:=0) (by have :=Bl h8;omega),Nat.zero_add]at this
 ·have hh:l / 256<256:=ai;have :=aY (K:=K) (m:=m) (m':=m) (age l (l / 256) (l / 256) (Sort.bitsLen (l / 256))) (.cond (dF (je (j:=4294967296)))<| .cond (dF (je (j:=65536)))<| .cond (dT (je (j:=256)))<| .val (adO 262 l 8 eS)<| .val (cv8 hh)<| .idx rfl (by rw[EK];exact hh)<| .val (by rw[No hh];exact cv9 (Bl hh)) .nil);rwa[show bL 8 ((Sort.bitsLen (l / 256):Nat):Int)=((8+Sort.bitsLen (l / 256):Nat):Int)from lZ (i:=8) (by have :=Bl hh;omega),Nat.add_comm,<-U4 ai]at this
theorem acX {l:Nat}(h:l<65536):Ev K 153 [vW l] m (vI (Sort.bitsLen l:Int)) m:=aY (agl l _) (.cond rfl<| .call (alH h) .nil)
theorem alE {l:Nat}(h:l<65536):Ev K 255 [vI l] m (vW (1<<<Sort.bitsLen l:Nat)) m:=by
 refine aY (ajD l (Sort.bitsLen l) _) (.val (cvW ai (.inl rfl))<| .call (acX h)<| .val ?_ .nil);have hb:Sort.bitsLen l<=16:=(Sort.bitsLen_le_iff l 16).2 h;have e:gE ab .shl 195 true false (.int .u64 1) (vI (Sort.bitsLen l:Int))=some (vW (bU.u64.wrap ((1:Int)*2^(min (Sort.bitsLen l) 64)))):=by
  refine tK rfl ?_ rfl;rw[gz]
  show(Op.shift .shl .u64 1 .i64 (Sort.bitsLen l:Int)).aM ab=_
  unfold Op.shift;rw[bW ai];rfl
 rw[e,Nat.min_eq_left ai,show(1:Int)*2^Sort.bitsLen l=((2^Sort.bitsLen l:Nat):Int) by simp,EC,Nat.one_shiftLeft,Nat.mod_eq_of_lt (Nat.lt_of_le_of_lt (Nat.pow_le_pow_right eS hb) eS)]
theorem alD (g:Gd m){s:Nat}{r:UInt64}(o:Obj m s 0 [vW (r.toNat:Int)])(w:Own m s):
  ∃m',Ev K 256 [vP s 0] m (vW ((Sort.xorNext r).toNat:Int)) m'/\Kp m m' (fun y=>y=s)/\Obj m' s 0 [vW ((Sort.xorNext r).toNat:Int)]:=by
 rw[Sort.xorNext_toNat];have hx:=r.toNat_lt;generalize r.toNat=x at*;have hx:x<2^64:=hx;unfold Sort.xorNextN;have ha:x^^^(x*8192%18446744073709551616)<2^64:=Nat.xor_lt_two_pow hx ai;have hb:(x^^^(x*8192%18446744073709551616))^^^((x^^^(x*8192%18446744073709551616)) / 128)<2^64:=Nat.xor_lt_two_pow ha ai;simp only[];generalize hA:x^^^(x*8192%18446744073709551616)=a at*;generalize hB:a^^^(a / 128)=b at*;obtain⟨m1,e1,o1,k1⟩:=jF (vW a) o (w.may 0 1) du;have w1:=w.ext k1;obtain⟨m2,e2,o2,k2⟩:=jF (vW b) o1 (w1.may 0 1) du;have w2:=w1.ext k2;obtain⟨m3,e3,o3,k3⟩:=jF (vW ((b^^^(b*131072%18446744073709551616):Nat):Int)) o2 (w2.may 0 1) du;have g1:=g.ext k1;have g2:=g1.ext k2;refine⟨m3,aY (ajC s x (x*8192%18446744073709551616) a (a / 128) b (b*131072%18446744073709551616) _) ?_,(k1.trans k2 fun _ _ h=>h).trans k3 fun _ _ h=>h,o3⟩;exact .mem (aS o rfl)<| .mem (aS o rfl)<| .val (adP 415 x 13 eS)<| .val (hA▸aai hx ai)<| .mem (aK g)<| .mem e1<|
  .mem (aS o1 rfl)<| .mem (aS o1 rfl)<| .val (adO 415 a 7 eS)<| .val (hB▸aai ha ai)<| .mem (aK g1)<| .mem e2<|
  .mem (aS o2 rfl)<| .mem (aS o2 rfl)<| .val (adP 415 b 17 eS)<| .val (aai hb ai)<| .mem (aK g2)<| .mem e3<| .mem (aS o3 rfl) .nil
end
end Go.AM
namespace Go.AM
set_option maxRecDepth 1000000
open Go Go.Conc Go.Proofs
theorem aiI {x:Nat}(h:0<x)(hx:x<18446744073709551616):H0 vZ Int.sub .u64 x 1=((x-1:Nat):Int):=by
 have e:H0 vZ Int.sub .u64 x 1=bU.u64.wrap ((x:Int)-1):=HF fun n h=>Pt h
 rw[e,show(x:Int)-1=((x-1:Nat):Int) by omega,EC,Nat.mod_eq_of_lt ai]
theorem aeT (p n cc a b:Nat):dJ 207 0 2 [0,1,2,3] [vL p 0 n cc,vI a,vI b,fR]
 []
 .normal [0,1,8,17] [vL p 0 n cc,vI a,vI (bQ b a),.bool (gU (bQ b a) 8)]:=dc
theorem aeS (p n cc a l M q s:Nat):aT 207 [2,0] 0 3 [0,1,8] [vL p 0 n cc,vI a,vI l]
 [.val (pu ab [vI l] (convert 3 415 (vI l))) (.int .u64 l),
  mB [some (.int .u64 0)] s,
  .mem (eH s 0 (.int .u64 l)) undef,
  .call 255 [vI l] (.int .u64 M),
  .val (ik Nat.div .i64 l 4 (gE ab .quo 3 false true (vI l) (vI 4))) (vI q)]
 .normal [0,1,8,9,10,11] [vL p 0 n cc,vI a,vI l,vP s 0,.int .u64 M,vI (bQ (bL a (kQ q 2)) 1)]:=dc
theorem aeP (p n cc a l s M q i r o:Nat)(x y:ae):aT 207 [2,0,3] 0 99 [0,1,8,9,10,11] [vL p 0 n cc,vI a,vI l,vP s 0,.int .u64 M,vI i]
 [.val (ik Nat.div .i64 l 4 (gE ab .quo 3 false true (vI l) (vI 4))) (vI q),
  aP (fM i (bL (bL a (kQ q 2)) 1)) true,
  .call 256 [vP s 0] (.int .u64 r),
  .val (rJ Nat.land .u64 r (H0 vZ Int.sub .u64 M 1) (gE ab .and 195 false false (.int .u64 r) (.int .u64 (H0 vZ Int.sub .u64 M 1)))) (.int .u64 o),
  .val (pu ab [.int .u64 o] (convert 195 3 (.int .u64 o))) (vI o),
  aP (gU o l) false,
  .idx (bL a o) n (a+o),
  .mem (aD p (0+(a+o)*1)) y,
  .idx i n i,
  .mem (aD p (0+i*1)) x,
  .idx i n i,
  gp,
  .mem (eH p (0+i*1) y) undef,
  .idx (bL a o) n (a+o),
  gp,
  .mem (eH p (0+(a+o)*1) x) undef]
 .normal [0,1,8,9,10,11] [vL p 0 n cc,vI a,vI l,vP s 0,.int .u64 M,vI (bL i 1)]:=dc
theorem aeQ (p n cc a l s M q i r o o2:Nat)(x y:ae):aT 207 [2,0,3] 0 99 [0,1,8,9,10,11] [vL p 0 n cc,vI a,vI l,vP s 0,.int .u64 M,vI i]
 [.val (ik Nat.div .i64 l 4 (gE ab .quo 3 false true (vI l) (vI 4))) (vI q),
  aP (fM i (bL (bL a (kQ q 2)) 1)) true,
  .call 256 [vP s 0] (.int .u64 r),
  .val (rJ Nat.land .u64 r (H0 vZ Int.sub .u64 M 1) (gE ab .and 195 false false (.int .u64 r) (.int .u64 (H0 vZ Int.sub .u64 M 1)))) (.int .u64 o),
  .val (pu ab [.int .u64 o] (convert 195 3 (.int .u64 o))) (vI o),
  aP (gU o l) true,
  .idx (bL a (bQ o l)) n (a+o2),
  .mem (aD p (0+(a+o2)*1)) y,
  .idx i n i,
  .mem (aD p (0+i*1)) x,
  .idx i n i,
  gp,
  .mem (eH p (0+i*1) y) undef,
  .idx (bL a (bQ o l)) n (a+o2),
  gp,
  .mem (eH p (0+(a+o2)*1) x) undef]
 .normal [0,1,8,9,10,11] [vL p 0 n cc,vI a,vI l,vP s 0,.int .u64 M,vI (bL i 1)]:=dc
theorem aeR (p n cc a l s M q i:Nat):aT 207 [2,0,3] 0 99 [0,1,8,9,10,11] [vL p 0 n cc,vI a,vI l,vP s 0,.int .u64 M,vI i]
 [.val (ik Nat.div .i64 l 4 (gE ab .quo 3 false true (vI l) (vI 4))) (vI q),
  aP (fM i (bL (bL a (kQ q 2)) 1)) false]
 (.exit 0) [] []:=dc
theorem ags:jy 207 4 []=true:=aU
theorem tO:iP 207 [2,0,3]:=aU
theorem ah2:um (bN 207) 2=some (.tmp 17,bX 207 [2,0],bX 207 [2,1]):=aU
theorem PQ:iP 207 [2,0]:=aU
def bsN (a l M i0:Nat)(st:UInt64×Array El):Nat->UInt64×Array El
 |0=>st
 |t+1=>Sort.breakStep a l M (bsN a l M i0 st t) (i0+t)
theorem Pq {tm:Tm}{a b c d v:ae}{i j k l:Nat}(h:bu [i,j,k,l] tm=[a,b,c,v]):dj l tm=v:=by
 simp only[bu,List.map_cons,List.map_nil,List.cons.injEq,and_true]at h;exact h.2.2.2
section
variable {K:fZ}{B:Nat->Prop}{p n cc:Nat}{rest:List ae}{m m':Mem}{d:Array El}
theorem alN (h:Sv B p n rest m d)(hn:n<65536){a b:Nat}(h8:a+8<=b)(hb:b<=n)(hB:∀b,B b->b<m.next):
  ∃m',Ev K 207 [vL p 0 n cc,vI a,vI b,fR] m (.tuple #[]) m'/\Kp m m' (fun y=>y=p)/\Sv B p n rest m' (Sort.breakPatterns d a b):=by
 obtain⟨l,hl⟩:∃l,l=b-a:=⟨_,rfl⟩;have e1:bQ b a=((l:Nat):Int):=by rw[hl];exact kj ai
 obtain⟨q,hq⟩:∃q,q=l / 4:=⟨_,rfl⟩;have eq:∀x,ik Nat.div .i64 l 4 x=some (vI q):=fun x=>by rw[hq];exact Si ai (j:=4) ai
 obtain⟨M,hM⟩:∃M,M=1<<<Sort.bitsLen l:=⟨_,rfl⟩;have hM1:0<M:=by rw[hM,Nat.one_shiftLeft];exact Nat.two_pow_pos _
 have hM2:M<=2*l:=by
  obtain⟨j,hj⟩:∃j,Sort.bitsLen l=j+1:=by
   have :¬Sort.bitsLen l<=0:=fun h=>by have :=(Sort.bitsLen_le_iff l 0).1 h;omega
   exact⟨Sort.bitsLen l-1,ai⟩
  have :¬Sort.bitsLen l<=j:=ai;rw[Sort.bitsLen_le_iff]at this;rw[hM,Nat.one_shiftLeft,hj,Nat.pow_succ];omega
 have aln:Sort.breakPatterns d a b=(bsN a l M (a+q*2-1) (UInt64.ofNat l,d) 3).2:=by
  unfold Sort.breakPatterns;simp only[<-hl,<-hq,<-hM];rw[bj ai];rfl
 obtain⟨t0,w0,e0⟩:=aR (K:=K) (m:=m) (m':=m) (tm:=entry [vL p 0 n cc,vI a,vI b,fR]) (aeT p n cc a b) rfl .nil;have z0:=Pq (d:=undef) e0;obtain⟨m1,ea,oa,ka,na,_⟩:=cA h.gd [vW 0];obtain⟨s,hs⟩:∃s,s=m.next:=⟨_,rfl⟩;rw[<-hs]at ea oa;have dB:=h.ob.lt;have wa:Own m1 s:=h.gd.own ka ai;obtain⟨m2,eb,ob,kb⟩:=jF (vW l) oa (wa.may 0 1) du;have s1:=h.ext ka;have Xs:s≠p:=ai;have hsB:¬B s:=fun hb=>by have :=hB _ hb;omega
 have s2:=s1.acB kb Xs hsB;have k2:Kp m m2 (fun y=>y=p):=ka.vl.trans kb fun b hb e=>by omega
 have e0':bu [0,1,8] t0=[vL p 0 n cc,vI a,vI l]:=by
  simp only[bu,List.map_cons,List.map_nil,List.cons.injEq,and_true]at e0⊢;exact⟨e0.1,e0.2.1,by rw[e0.2.2.1,e1]⟩
 obtain⟨t1,w1,g1⟩:=aR (K:=K) (aeS p n cc a l M q s) e0' (.val (cvW ai (.inr rfl))<| .mem ea<| .mem eb<| .call (by rw[hM];exact alE ai)<| .val (eq _) .nil);have f2:bQ (bL a (kQ q 2)) 1=((a+q*2-1:Nat):Int):=by rw[show kQ q 2=((q*2:Nat):Int)from I6 (j:=2) ai,lZ ai];exact kj (j:=1) ai
 have f3:bL (bL a (kQ q 2)) 1=((a+q*2+1:Nat):Int):=by rw[show kQ q 2=((q*2:Nat):Int)from I6 (j:=2) ai,lZ ai,dI]
 rw[f2]at g1;obtain⟨e,t3,m3,he,hx,rfl,r⟩:=eI (K:=K) (nt:=eY 207) (a:=bX 207 [2,0,3]) 3
  (Inv:=fun t tm m'=>bu [0,1,8,9,10,11] tm=[vL p 0 n cc,vI a,vI l,vP s 0,vW M,vI (a+q*2-1+t:Nat)]/\Kp m m' (fun y=>y=p)/\Sv B p n rest m' (bsN a l M (a+q*2-1) (UInt64.ofNat l,d) t).2/\Obj m' s 0 [vW ((bsN a l M (a+q*2-1) (UInt64.ofNat l,d) t).1.toNat:Int)]/\Own m' s)
  (dm:=fun e tm m'=>e= .exit 0/\Kp m m' (fun y=>y=p)/\Sv B p n rest m' (Sort.breakPatterns d a b))
  (by
   rintro t tm m3 ht ⟨hg,k3,s3,o3,w3⟩
   left
   generalize fp:bsN a l M (a+q*2-1) (UInt64.ofNat l,d) t=st at*;obtain⟨m4,e4,k4,o4⟩:=alD (K:=K) s3.gd o3 w3;have s4:=s3.acB k4 Xs hsB;have g4:=s4.gd;obtain⟨i,hi⟩:∃i,i=a+q*2-1+t:=⟨_,rfl⟩;rw[<-hi]at hg;have Qb:bsN a l M (a+q*2-1) (UInt64.ofNat l,d) (t+1)=Sort.breakStep a l M st i:=by rw[hi,<-fp];rfl
   rw[Qb];obtain⟨o,ho⟩:∃o,o=(Sort.xorNext st.1).toNat&&&(M-1):=⟨_,rfl⟩;have ho1:o<=M-1:=by rw[ho];exact Nat.and_le_right
   have ev:rJ Nat.land .u64 ((Sort.xorNext st.1).toNat:Int) (H0 vZ Int.sub .u64 M 1) (gE ab .and 195 false false (vW ((Sort.xorNext st.1).toNat:Int)) (vW (H0 vZ Int.sub .u64 M 1)))=some (vW o):=by
    rw[aiI hM1 ai,al7 (Sort.xorNext st.1).toNat_lt ai,ho]
   have k34:Kp m m4 (fun y=>y=p):=k3.trans k4 fun b hb e=>by omega
   have c1:(.bool (fM i (bL (bL a (kQ q 2)) 1)):ae)= .bool true:=by rw[f3];exact dT fW
   by_cases Qc:l<=o
   ·obtain⟨m5,m6,e5,g5,e6,k6,s6⟩:=s4.swap (i:=i) (j:=a+(o-l));have eo:bL a (bQ o l)=((a+(o-l):Nat):Int):=by rw[kj Qc,lZ]
    obtain⟨t2,cN,cz⟩:=aI (K:=K) tO (aeQ p n cc a l s M q i (Sort.xorNext st.1).toNat o (o-l) st.2[i]!.1 st.2[a+(o-l)]!.1) hg (.val (eq _)<| .cond c1<| .call e4<| .val ev<| .val (cvI ai)<| .cond (dT je)<| .idx eo ai<| .mem s4.ld<| .idx rfl ai<| .mem s4.ld<| .idx rfl ai<| .mem (aK ft)<| .mem e5<| .idx eo ai<| .mem (aK ft)<| .mem e6<| .nil);rw[dI,hi]at cz;have eb:Sort.breakStep a l M st i=(Sort.xorNext st.1,Sort.swp st.2 i (a+(o-l))):=by
     unfold Sort.breakStep;simp only[<-ho];rw[bj Qc]
    rw[eb];exact⟨t2,m6,cN,cz,k34.trans k6 fun _ _ h=>h,s6,o4.ext k6 Xs,(w3.ext k4).ext k6⟩
   ·obtain⟨m5,m6,e5,g5,e6,k6,s6⟩:=s4.swap (i:=i) (j:=a+o);obtain⟨t2,cN,cz⟩:=aI (K:=K) tO (aeP p n cc a l s M q i (Sort.xorNext st.1).toNat o st.2[i]!.1 st.2[a+o]!.1) hg (.val (eq _)<| .cond c1<| .call e4<| .val ev<| .val (cvI ai)<| .cond (dF je)<| .idx lZ ai<| .mem s4.ld<| .idx rfl ai<| .mem s4.ld<| .idx rfl ai<| .mem (aK ft)<| .mem e5<| .idx lZ ai<| .mem (aK ft)<| .mem e6<| .nil);rw[dI,hi]at cz;have eb:Sort.breakStep a l M st i=(Sort.xorNext st.1,Sort.swp st.2 i (a+o)):=by
     unfold Sort.breakStep;simp only[<-ho];rw[bW Qc]
    rw[eb];exact⟨t2,m6,cN,cz,k34.trans k6 fun _ _ h=>h,s6,o4.ext k6 Xs,(w3.ext k4).ext k6⟩)
  (by
   rintro tm m3 ⟨hg,k3,s3,o3,w3⟩;obtain⟨t2,cN,cz⟩:=aI (K:=K) (m:=m3) (m':=m3) tO (aeR p n cc a l s M q (a+q*2-1+3)) hg (.val (eq _)<| .cond (by rw[f3];exact dF fW) .nil);exact⟨_,t2,m3,g8,cN,rfl,k3,by rw[aln];exact s3⟩)
  (tm:=t1) (m:=m2) ⟨g1,k2,s2,by show Obj m2 s 0 [vW (((UInt64.ofNat l).toNat:Nat):Int)];rw[UInt64.toNat_ofNat_of_lt' (by show l<2^64;omega)];exact ob,wa.ext kb⟩ ai
 have hc:dz t0 (.tmp 17)= .bool true:=by
  show dj 17 t0=_
  rw[z0,e1];exact dT (je (j:=8))
 exact⟨m3,eB (vs:=[]) ags (aA.cut w0 (aA.cond (v:=true) ah2 hc ((aA.cut w1 (aA.fw hx (aA.done (af aU)))).code PQ) aU aU (aA.done (af aU)))) (.inl rfl) rfl,r⟩
end
end Go.AM
namespace Go.AM
set_option maxRecDepth 1000000
open Go Go.Conc Go.Proofs
theorem rY {K:fZ}{nt:Nat}{c:Code}{B:Nat->Prop}{p n:Nat}{rest:List ae}{d:Array El}{is:List Nat}{ex:Exit}(V:Nat->List ae)(go:Nat->Bool)(next st me:Nat->Nat)(hex:ex≠ .normal)
  (h1:∀i tm m,go i=true->bu is tm=V i->Sv B p n rest m d->∃cV m',vf K nt c ⟨tm,m,[]⟩ .normal ⟨cV,m',[]⟩/\bu is cV=V (next i)/\Kp m m' fu/\Sv B p n rest m' d)
  (h2:∀i tm m,go i=false->bu is tm=V i->Sv B p n rest m d->∃cV m',vf K nt c ⟨tm,m,[]⟩ ex ⟨cV,m',[]⟩/\bu is cV=V i/\Kp m m' fu/\Sv B p n rest m' d)
  (s1:∀i,go i=true->st i=st (next i)/\me (next i)<me i)(s0:∀i,go i=false->st i=i){i:Nat}(hm:me i<100000){tm:Tm}{m:Mem}(hg:bu is tm=V i)(h:Sv B p n rest m d):
  ∃cV m',vB K nt c 100000 ⟨tm,m,[]⟩ ex ⟨cV,m',[]⟩/\bu is cV=V (st i)/\Kp m m' fu/\Sv B p n rest m' d:=by
 obtain⟨e,cV,m',he,hx,rfl,r⟩:=jx (K:=K) (nt:=nt) (a:=c)
  (Inv:=fun k tm m'=>∃j,k=me j/\st j=st i/\bu is tm=V j/\Kp m m' fu/\Sv B p n rest m' d)
  (dm:=fun e tm m'=>e=ex/\bu is tm=V (st i)/\Kp m m' fu/\Sv B p n rest m' d)
  (by
   rintro k tm m1 ⟨j,rfl,hj,hg,k1,q1⟩;cases hb:go j with
   |true=>
    obtain⟨t2,m2,hx,cz,k2,q2⟩:=h1 j tm m1 hb hg q1;obtain⟨e1,e2⟩:=s1 j hb;exact .inl ⟨_,t2,m2,e2,hx,_,rfl,e1▸hj,cz,k1.aZ k2,q2⟩
   |false=>
    obtain⟨t2,m2,hx,cz,k2,q2⟩:=h2 j tm m1 hb hg q1;exact .inr ⟨_,t2,m2,hex,hx,rfl,by rw[<-hj,s0 j hb];exact cz,k1.aZ k2,q2⟩)
  (n:=me i) (k:=100000) (tm:=tm) (m:=m) ⟨i,rfl,rfl,hg,.refl _ _,h⟩ hm
 exact⟨cV,m',hx,r⟩
theorem BP {d:Array El}{b:Nat}:∀(k i:Nat),b-i=k->i<=Sort.scanSorted cT d b i/\(i<=b->Sort.scanSorted cT d b i<=b)
 |0,i,h=>by
  rw[Sort.scanSorted,bW (by simp;omega)];exact⟨aj _,id⟩
 |k+1,i,h=>by
  rw[Sort.scanSorted]
  split
  ·obtain⟨h1,h2⟩:=BP (d:=d) (b:=b) k (i+1) ai;exact⟨ai,fun _=>h2 ai⟩
  ·exact⟨aj _,id⟩
theorem aeA (p n cc a b k j:Nat)(x y:ae)(c:Int):aT 210 [3,2,0] 0 99 [0,1,2,3,9,10] [vL p 0 n cc,vI a,vI b,fR,vI (k+1:Nat),vI j]
 ((rp 4 (.bool (cO (k+1:Nat) b)) true (.idx (k+1:Nat) n (k+1)::aP (cO (k+1:Nat) b) true:: .mem (aD p (0+(k+1)*1)) x::(rp 4 (.bool (cO (k+1:Nat) b)) true (.idx (bQ (k+1:Nat) 1) n k::aP (cO (k+1:Nat) b) true:: .mem (aD p (0+k*1)) y::gp::aP (cO (k+1:Nat) b) true:: .bM fR [x,y] (vI c)::(rp 3 (.bool (cO (k+1:Nat) b)) true ([aP (!(cO c 0)) true])))))))
 .normal [0,1,2,3,9,10] [vL p 0 n cc,vI a,vI b,fR,vI (bL (k+1:Nat) 1),vI j]:=dc
theorem aez (p n cc a b k j:Nat)(x y:ae)(c:Int):aT 210 [3,2,0] 0 99 [0,1,2,3,9,10] [vL p 0 n cc,vI a,vI b,fR,vI (k+1:Nat),vI j]
 ((rp 4 (.bool (cO (k+1:Nat) b)) true (.idx (k+1:Nat) n (k+1)::aP (cO (k+1:Nat) b) true:: .mem (aD p (0+(k+1)*1)) x::(rp 4 (.bool (cO (k+1:Nat) b)) true (.idx (bQ (k+1:Nat) 1) n k::aP (cO (k+1:Nat) b) true:: .mem (aD p (0+k*1)) y::gp::aP (cO (k+1:Nat) b) true:: .bM fR [x,y] (vI c)::(rp 3 (.bool (cO (k+1:Nat) b)) true ([aP (!(cO c 0)) false])))))))
 (.exit 2) [0,1,2,3,9,10] [vL p 0 n cc,vI a,vI b,fR,vI (k+1:Nat),vI j]:=dc
theorem aey (p n cc a b k j:Nat):aT 210 [3,2,0] 0 99 [0,1,2,3,9,10] [vL p 0 n cc,vI a,vI b,fR,vI (k+1:Nat),vI j]
 ((rp 10 (.bool (cO (k+1:Nat) b)) false (gp::(rp 4 (.bool (cO (k+1:Nat) b)) false ([dx])))))
 (.exit 2) [0,1,2,3,9,10] [vL p 0 n cc,vI a,vI b,fR,vI (k+1:Nat),vI j]:=dc
theorem Y0:jy 210 4 [8]=true:=aU
theorem PO:(di (bN 210)).length<=99:=af aU
theorem WW:jI (bN 210) 3=some (0,(bX 210 [3])):=aU
theorem A1:iP 210 [3]:=aU
theorem W3:lN (eY 210) (bN 210) (bX 210 [3]) 3 0=true:=aU
theorem tN:iP 210 [3,2,0]:=aU
theorem nQ:iP 210 [3,2,7,0,1]:=aU
theorem nP:iP 210 [3,2,9,0,1]:=aU
theorem zA:iu (bX 210 [3]) 2=some (1,(bX 210 [3,2])):=aU
theorem zx:jA (eY 210) (bX 210 [3]) (bX 210 [3,2]) 2 1=true:=aU
section
variable {K:fZ}{B:Nat->Prop}{p n cc:Nat}{rest:List ae}{m m':Mem}{d:Array El}
theorem i210 (h:Sv B p n rest m d)(hn:n<90000){a b i j:Nat}(hb:b<=n){tm:Tm}(hg:bu [0,1,2,3,9,10] tm=[vL p 0 n cc,vI a,vI b,fR,vI ((i+1:Nat):Int),vI j]):
  ∃cV m',vB K (eY 210) (bX 210 [3,2,0]) 100000 ⟨tm,m,[]⟩ (.exit 2) ⟨cV,m',[]⟩/\bu [0,1,2,3,9,10] cV=[vL p 0 n cc,vI a,vI b,fR,vI (Sort.scanSorted cT d b (i+1):Int),vI j]/\Kp m m' fu/\Sv B p n rest m' d:=by
 obtain⟨t,m',e,r1,r2⟩:=rY (K:=K) (nt:=eY 210) (c:=bX 210 [3,2,0]) (ex:= .exit 2) (is:=[0,1,2,3,9,10]) (fun k=>[vL p 0 n cc,vI a,vI b,fR,vI (k+1:Nat),vI j]) (fun k=>decide (k+1<b)&&!cT d[k+1]! d[k]!) (·+1) (fun k=>Sort.scanSorted cT d b (k+1)-1) (fun k=>b-k) g8
  (by
   intro k tm m hgo hg h;simp only[ag,iB,Bool.not_eq_true']at hgo;obtain⟨c,m2,e2,k2,s2,hc⟩:=h.cmp (K:=K) (i:=k+1) (j:=k);have g:=h.gd;obtain⟨t2,cN,cz⟩:=aI tN (aeA p n cc a b k j d[k+1]!.1 d[k]!.1 c) hg (.rp (dT gF)<| .idx rfl ai<| .cond (dT gF)<| .mem h.ld<| .rp (dT gF)<| .idx pv ai<| .cond (dT gF)<| .mem h.ld<| .mem (aK ft)<| .cond (dT gF)<| .bM e2<| .rp (dT gF)<| .cond (bT (by rw[hc,hgo.2];rfl))<| .nil);rw[dI]at cz;exact⟨t2,m2,cN,cz,k2,s2⟩)
  (by
   intro k tm m hgo hg h;have g:=h.gd
   by_cases hk:k+1<b
   ·obtain⟨c,m2,e2,k2,s2,hc⟩:=h.cmp (K:=K) (i:=k+1) (j:=k);have hl:cT d[k+1]! d[k]! =true:=by simpa[hk]using hgo
    obtain⟨t2,cN,cz⟩:=aI tN (aez p n cc a b k j d[k+1]!.1 d[k]!.1 c) hg (.rp (dT gF)<| .idx rfl ai<| .cond (dT gF)<| .mem h.ld<| .rp (dT gF)<| .idx pv ai<| .cond (dT gF)<| .mem h.ld<| .mem (aK ft)<| .cond (dT gF)<| .bM e2<| .rp (dT gF)<| .cond (bF (by rw[hc,hl];rfl))<| .nil);exact⟨t2,m2,cN,cz,k2,s2⟩
   ·obtain⟨t2,cN,cz⟩:=aI (K:=K) (m:=m) (m':=m) tN (aey p n cc a b k j) hg (.rp (dF gF)<| .mem (aK ft)<| .rp (dF gF)<| .cond rfl<| .nil);exact⟨t2,m,cN,cz,.refl _ _,h⟩)
  (by
   intro k hgo;simp only[ag,iB]at hgo;refine⟨?_,ai⟩
   show Sort.scanSorted cT d b (k+1)-1=Sort.scanSorted cT d b (k+1+1)-1
   conv=>lhs;rw[Sort.scanSorted]
   rw[bj (by simpa using hgo)])
  (by
   intro k hgo
   show Sort.scanSorted cT d b (k+1)-1=k
   rw[Sort.scanSorted,bW (by simpa using hgo)];rfl)
  (i:=i) ai hg h
 refine⟨t,m',e,?_,r2⟩;have :Sort.scanSorted cT d b (i+1)-1+1=Sort.scanSorted cT d b (i+1):=by have :=(BP (d:=d) (b:=b) _ (i+1) rfl).1;omega
 rw[<-this];exact r1
end
end Go.AM
namespace Go.AM
set_option maxRecDepth 1000000
open Go Go.Conc Go.Proofs
theorem aet (p n cc a b i j k:Nat)(x y:ae)(c:Int):aT 210 [3,2,7,0,1] 0 99 [0,1,2,3,9,10,11] [vL p 0 n cc,vI a,vI b,fR,vI i,vI j,vI (k+1:Nat)]
 [aP (gU (k+1:Nat) 1) true,
  .idx (k+1:Nat) n (k+1),
  .mem (aD p (0+(k+1)*1)) x,
  .idx (bQ (k+1:Nat) 1) n k,
  .mem (aD p (0+k*1)) y,
  gp,
  .bM fR [x,y] (vI c),
  aP (!(cO c 0)) false,
  .idx (bQ (k+1:Nat) 1) n k,
  .mem (aD p (0+k*1)) y,
  .idx (k+1:Nat) n (k+1),
  .mem (aD p (0+(k+1)*1)) x,
  .idx (k+1:Nat) n (k+1),
  gp,
  .mem (eH p (0+(k+1)*1) y) undef,
  .idx (bQ (k+1:Nat) 1) n k,
  gp,
  .mem (eH p (0+k*1) x) undef]
 .normal [0,1,2,3,9,10,11] [vL p 0 n cc,vI a,vI b,fR,vI i,vI j,vI (bQ (k+1:Nat) 1)]:=dc
theorem aes (p n cc a b i j k:Nat)(x y:ae)(c:Int):aT 210 [3,2,7,0,1] 0 99 [0,1,2,3,9,10,11] [vL p 0 n cc,vI a,vI b,fR,vI i,vI j,vI (k+1:Nat)]
 [aP (gU (k+1:Nat) 1) true,
  .idx (k+1:Nat) n (k+1),
  .mem (aD p (0+(k+1)*1)) x,
  .idx (bQ (k+1:Nat) 1) n k,
  .mem (aD p (0+k*1)) y,
  gp,
  .bM fR [x,y] (vI c),
  aP (!(cO c 0)) true]
 (.exit 4) [0,1,2,3,9,10] [vL p 0 n cc,vI a,vI b,fR,vI i,vI j]:=dc
theorem aer (p n cc a b i j:Nat):aT 210 [3,2,7,0,1] 0 99 [0,1,2,3,9,10,11] [vL p 0 n cc,vI a,vI b,fR,vI i,vI j,vI 0]
 [dx]
 (.exit 4) [0,1,2,3,9,10] [vL p 0 n cc,vI a,vI b,fR,vI i,vI j]:=dc
theorem aeq (p n cc a b i j k:Nat)(x y:ae)(c:Int):aT 210 [3,2,9,0,1] 0 99 [0,1,2,3,9,10,12] [vL p 0 n cc,vI a,vI b,fR,vI i,vI j,vI (k+1:Nat)]
 [aP (cO (k+1:Nat) b) true,
  .idx (k+1:Nat) n (k+1),
  .mem (aD p (0+(k+1)*1)) x,
  .idx (bQ (k+1:Nat) 1) n k,
  .mem (aD p (0+k*1)) y,
  gp,
  .bM fR [x,y] (vI c),
  aP (!(cO c 0)) false,
  .idx (bQ (k+1:Nat) 1) n k,
  .mem (aD p (0+k*1)) y,
  .idx (k+1:Nat) n (k+1),
  .mem (aD p (0+(k+1)*1)) x,
  .idx (k+1:Nat) n (k+1),
  gp,
  .mem (eH p (0+(k+1)*1) y) undef,
  .idx (bQ (k+1:Nat) 1) n k,
  gp,
  .mem (eH p (0+k*1) x) undef]
 .normal [0,1,2,3,9,10,12] [vL p 0 n cc,vI a,vI b,fR,vI i,vI j,vI (bL (k+1:Nat) 1)]:=dc
theorem aep (p n cc a b i j k:Nat)(x y:ae)(c:Int):aT 210 [3,2,9,0,1] 0 99 [0,1,2,3,9,10,12] [vL p 0 n cc,vI a,vI b,fR,vI i,vI j,vI (k+1:Nat)]
 [aP (cO (k+1:Nat) b) true,
  .idx (k+1:Nat) n (k+1),
  .mem (aD p (0+(k+1)*1)) x,
  .idx (bQ (k+1:Nat) 1) n k,
  .mem (aD p (0+k*1)) y,
  gp,
  .bM fR [x,y] (vI c),
  aP (!(cO c 0)) true]
 (.exit 6) [0,1,2,3,9,10] [vL p 0 n cc,vI a,vI b,fR,vI i,vI j]:=dc
theorem aeo (p n cc a b i j k:Nat):aT 210 [3,2,9,0,1] 0 99 [0,1,2,3,9,10,12] [vL p 0 n cc,vI a,vI b,fR,vI i,vI j,vI (k+1:Nat)]
 [aP (cO (k+1:Nat) b) false]
 (.exit 6) [0,1,2,3,9,10] [vL p 0 n cc,vI a,vI b,fR,vI i,vI j]:=dc
section
variable {K:fZ}{B:Nat->Prop}{p n cc:Nat}{rest:List ae}{m m':Mem}{d:Array El}
theorem aka (h:Sv B p n rest m d)(hn:n<90000){a b i j k:Nat}(hk:k<n){tm:Tm}(hg:bu [0,1,2,3,9,10,11] tm=[vL p 0 n cc,vI a,vI b,fR,vI i,vI j,vI k]):
  ∃cV m',vB K (eY 210) (bX 210 [3,2,7,0,1]) 100000 ⟨tm,m,[]⟩ (.exit 4) ⟨cV,m',[]⟩/\bu [0,1,2,3,9,10] cV=[vL p 0 n cc,vI a,vI b,fR,vI i,vI j]/\Kp m m' (fun y=>y=p)/\Sv B p n rest m' (Sort.shiftDown cT k d):=by
 obtain⟨e,cV,m',he,hx,rfl,r⟩:=jx (K:=K) (nt:=eY 210) (a:=bX 210 [3,2,7,0,1])
  (Inv:=fun k' tm m'=>∃d',k'<n/\bu [0,1,2,3,9,10,11] tm=[vL p 0 n cc,vI a,vI b,fR,vI i,vI j,vI k']/\Kp m m' (fun y=>y=p)/\Sv B p n rest m' d'/\Sort.shiftDown cT k' d'=Sort.shiftDown cT k d)
  (dm:=fun e tm m'=>e= .exit 4/\bu [0,1,2,3,9,10] tm=[vL p 0 n cc,vI a,vI b,fR,vI i,vI j]/\Kp m m' (fun y=>y=p)/\Sv B p n rest m' (Sort.shiftDown cT k d))
  (by
   rintro k' tm m1 ⟨d',hk,hg,k1,s1,hd⟩;cases k' with
   |zero=>
    obtain⟨t2,cN,cz⟩:=aI (K:=K) (m:=m1) (m':=m1) nQ (aer p n cc a b i j) hg (.cond rfl<| .nil);exact .inr ⟨_,t2,m1,g8,cN,rfl,cz,k1,hd▸s1⟩
   |succ k=>
    have g1:=s1.gd;obtain⟨c,m2,e2,k2,s2,hc⟩:=s1.cmp (K:=K) (i:=k+1) (j:=k);have g2:=s2.gd;have tV:=k1.aZ k2
    by_cases hl:cT d'[k+1]! d'[k]! =true
    ·obtain⟨m3,m4,e3,g3,e4,k4,s4⟩:=s2.swap (i:=k+1) (j:=k);obtain⟨t2,cN,cz⟩:=aI nQ (aet p n cc a b i j k d'[k+1]!.1 d'[k]!.1 c) hg (.cond (dT (je (j:=1)))<| .idx rfl ai<| .mem s1.ld<| .idx pv ai<| .mem s1.ld<| .mem (aK ft)<| .bM e2<| .cond (bF (by rw[hc,hl];rfl))<| .idx pv ai<| .mem s2.ld<| .idx rfl ai<| .mem s2.ld<| .idx rfl ai<| .mem (aK ft)<| .mem e3<| .idx pv ai<| .mem (aK ft)<| .mem e4<| .nil);rw[pv]at cz;refine .inl ⟨k,t2,m4,ai,cN,_,ai,cz,tV.trans k4 fun _ _ h=>h,s4,?_⟩;rw[<-hd,Sort.shiftDown.eq_2,bW (by simp[hl])]
    ·have hl:=Bool.eq_false_iff.2 hl;obtain⟨t2,cN,cz⟩:=aI nQ (aes p n cc a b i j k d'[k+1]!.1 d'[k]!.1 c) hg (.cond (dT (je (j:=1)))<| .idx rfl ai<| .mem s1.ld<| .idx pv ai<| .mem s1.ld<| .mem (aK ft)<| .bM e2<| .cond (bT (by rw[hc,hl];rfl))<| .nil);refine .inr ⟨_,t2,m2,g8,cN,rfl,cz,tV,?_⟩;rw[<-hd,Sort.shiftDown.eq_2,bj (by simp[hl])];exact s2)
  (n:=k) (k:=100000) ⟨d,hk,hg,.refl _ _,h,rfl⟩ ai
 exact⟨cV,m',hx,r⟩
theorem aj9 (h:Sv B p n rest m d)(hn:n<90000){a b i j k:Nat}(hk:0<k)(hb:b<=n){tm:Tm}(hg:bu [0,1,2,3,9,10,12] tm=[vL p 0 n cc,vI a,vI b,fR,vI i,vI j,vI k]):
  ∃cV m',vB K (eY 210) (bX 210 [3,2,9,0,1]) 100000 ⟨tm,m,[]⟩ (.exit 6) ⟨cV,m',[]⟩/\bu [0,1,2,3,9,10] cV=[vL p 0 n cc,vI a,vI b,fR,vI i,vI j]/\Kp m m' (fun y=>y=p)/\Sv B p n rest m' (Sort.shiftUp cT b k d):=by
 obtain⟨e,cV,m',he,hx,rfl,r⟩:=jx (K:=K) (nt:=eY 210) (a:=bX 210 [3,2,9,0,1])
  (Inv:=fun x tm m'=>∃(d':Array El) (k':Nat),x=b-(k'+1)/\bu [0,1,2,3,9,10,12] tm=[vL p 0 n cc,vI a,vI b,fR,vI i,vI j,vI (k'+1:Nat)]/\Kp m m' (fun y=>y=p)/\Sv B p n rest m' d'/\Sort.shiftUp cT b (k'+1) d'=Sort.shiftUp cT b k d)
  (dm:=fun e tm m'=>e= .exit 6/\bu [0,1,2,3,9,10] tm=[vL p 0 n cc,vI a,vI b,fR,vI i,vI j]/\Kp m m' (fun y=>y=p)/\Sv B p n rest m' (Sort.shiftUp cT b k d))
  (by
   rintro x tm m1 ⟨d',k',rfl,hg,k1,s1,hd⟩
   by_cases gA:k'+1<b
   ·have g1:=s1.gd;obtain⟨c,m2,e2,k2,s2,hc⟩:=s1.cmp (K:=K) (i:=k'+1) (j:=k');have g2:=s2.gd;have tV:=k1.aZ k2
    by_cases hl:cT d'[k'+1]! d'[k']! =true
    ·obtain⟨m3,m4,e3,g3,e4,k4,s4⟩:=s2.swap (i:=k'+1) (j:=k');obtain⟨t2,cN,cz⟩:=aI nP (aeq p n cc a b i j k' d'[k'+1]!.1 d'[k']!.1 c) hg (.cond (dT gF)<| .idx rfl ai<| .mem s1.ld<| .idx pv ai<| .mem s1.ld<| .mem (aK ft)<| .bM e2<| .cond (bF (by rw[hc,hl];rfl))<| .idx pv ai<| .mem s2.ld<| .idx rfl ai<| .mem s2.ld<| .idx rfl ai<| .mem (aK ft)<| .mem e3<| .idx pv ai<| .mem (aK ft)<| .mem e4<| .nil);rw[dI]at cz;refine .inl ⟨_,t2,m4,ai,cN,_,k'+1,rfl,cz,tV.trans k4 fun _ _ h=>h,s4,?_⟩;rw[<-hd]
     conv=>rhs;rw[Sort.shiftUp]
     rw[bj gA,bW (by simp[hl])];rfl
    ·have hl:=Bool.eq_false_iff.2 hl;obtain⟨t2,cN,cz⟩:=aI nP (aep p n cc a b i j k' d'[k'+1]!.1 d'[k']!.1 c) hg (.cond (dT gF)<| .idx rfl ai<| .mem s1.ld<| .idx pv ai<| .mem s1.ld<| .mem (aK ft)<| .bM e2<| .cond (bT (by rw[hc,hl];rfl))<| .nil);refine .inr ⟨_,t2,m2,g8,cN,rfl,cz,tV,?_⟩;rw[<-hd,Sort.shiftUp,bj gA,bj (by simp[hl])];exact s2
   ·obtain⟨t2,cN,cz⟩:=aI (K:=K) (m:=m1) (m':=m1) nP (aeo p n cc a b i j k') hg (.cond (dF gF)<| .nil);refine .inr ⟨_,t2,m1,g8,cN,rfl,cz,k1,?_⟩;rw[<-hd,Sort.shiftUp,bW gA];exact s1)
  (n:=b-k) (k:=100000) ⟨d,k-1,ai,by rw[show k-1+1=k by omega];exact hg,.refl _ _,h,by rw[show k-1+1=k by omega]⟩ ai
 exact⟨cV,m',hx,r⟩
end
theorem aeE (p n cc a b:Nat):dJ 210 0 3 [0,1,2,3] [vL p 0 n cc,vI a,vI b,fR]
 []
 .normal [0,1,2,3,9,10] [vL p 0 n cc,vI a,vI b,fR,vI (bL a 1),vI 0]:=dc
theorem aeD (p n cc a b i j:Nat):aT 210 [3] 0 2 [0,1,2,3,9,10] [vL p 0 n cc,vI a,vI b,fR,vI i,vI j]
 [aP (cO j 5) true]
 .normal [0,1,2,3,9,10] [vL p 0 n cc,vI a,vI b,fR,vI i,vI j]:=dc
theorem aeC (p n cc a b i j:Nat):aT 210 [3] 0 99 [0,1,2,3,9,10] [vL p 0 n cc,vI a,vI b,fR,vI i,vI j]
 [aP (cO j 5) false]
 (.exit 0) [] []:=dc
theorem aeB (p n cc a b i j:Nat):aT 210 [3] 3 99 [0,1,2,3,9,10] [vL p 0 n cc,vI a,vI b,fR,vI i,vI j]
 []
 .normal [0,1,2,3,9,10] [vL p 0 n cc,vI a,vI b,fR,vI i,vI (bL j 1)]:=dc
theorem ael (p n cc a b i j:Nat):aT 210 [3,2] 1 99 [0,1,2,3,9,10] [vL p 0 n cc,vI a,vI b,fR,vI i,vI j]
 [aP (ie i b) true]
 .ret [8] [.bool true]:=dc
theorem aek (p n cc a b i j:Nat):aT 210 [3,2] 1 99 [0,1,2,3,9,10] [vL p 0 n cc,vI a,vI b,fR,vI i,vI j]
 [aP (ie i b) false,
  aP (cO (bQ b a) 50) true]
 .ret [8] [.bool false]:=dc
theorem aex (p n cc a b j k:Nat)(x y:ae):aT 210 [3,2] 1 7 [0,1,2,3,9,10] [vL p 0 n cc,vI a,vI b,fR,vI (k+1:Nat),vI j]
 [aP (ie (k+1:Nat) b) false,
  aP (cO (bQ b a) 50) false,
  .idx (bQ (k+1:Nat) 1) n k,
  .mem (aD p (0+k*1)) y,
  .idx (k+1:Nat) n (k+1),
  .mem (aD p (0+(k+1)*1)) x,
  .idx (k+1:Nat) n (k+1),
  gp,
  .mem (eH p (0+(k+1)*1) y) undef,
  .idx (bQ (k+1:Nat) 1) n k,
  gp,
  .mem (eH p (0+k*1) x) undef]
 .normal [0,1,2,3,9,10,65] [vL p 0 n cc,vI a,vI b,fR,vI (k+1:Nat),vI j,.bool (gU (bQ (k+1:Nat) a) 2)]:=dc
theorem aew (p n cc a b i j:Nat)(h:Bool):aT 210 [3,2] 7 8 [0,1,2,3,9,10,65] [vL p 0 n cc,vI a,vI b,fR,vI i,vI j,.bool h]
 [aP h false]
 .normal [0,1,2,3,9,10] [vL p 0 n cc,vI a,vI b,fR,vI i,vI j]:=dc
theorem aev (p n cc a b i j:Nat):aT 210 [3,2,7,0] 0 1 [0,1,2,3,9,10] [vL p 0 n cc,vI a,vI b,fR,vI i,vI j]
 []
 .normal [0,1,2,3,9,10,11] [vL p 0 n cc,vI a,vI b,fR,vI i,vI j,vI (bQ i 1)]:=dc
theorem aeu (p n cc a b i j:Nat):aT 210 [3,2] 8 9 [0,1,2,3,9,10] [vL p 0 n cc,vI a,vI b,fR,vI i,vI j]
 []
 .normal [0,1,2,3,9,10,104] [vL p 0 n cc,vI a,vI b,fR,vI i,vI j,.bool (gU (bQ b i) 2)]:=dc
theorem aen (p n cc a b i j:Nat):aT 210 [3,2,9,0] 0 1 [0,1,2,3,9,10] [vL p 0 n cc,vI a,vI b,fR,vI i,vI j]
 []
 .normal [0,1,2,3,9,10,12] [vL p 0 n cc,vI a,vI b,fR,vI i,vI j,vI (bL i 1)]:=dc
theorem aem (p n cc a b i j:Nat)(h:Bool):aT 210 [3,2] 9 99 [0,1,2,3,9,10,104] [vL p 0 n cc,vI a,vI b,fR,vI i,vI j,.bool h]
 [aP h false]
 .normal [0,1,2,3,9,10] [vL p 0 n cc,vI a,vI b,fR,vI i,vI j]:=dc
theorem aej:dJ 210 4 99 [] []
 []
 .ret [8] [.bool false]:=dc
theorem acO:um (bX 210 [3,2]) 7=some (.tmp 65,bX 210 [3,2,7,0],bX 210 [3,2,7,1]):=aU
theorem acN:um (bX 210 [3,2]) 9=some (.tmp 104,bX 210 [3,2,9,0],bX 210 [3,2,9,1]):=aU
theorem abv:iP 210 [3,2,7,0]:=aU
theorem abu:iP 210 [3,2,9,0]:=aU
theorem Fi {is:List Nat}{vs:List ae}{tm:Tm}(h:bu is tm=vs){i k:Nat}{v:ae}(hk:is[i]?=some k)(hv:vs[i]?=some v):dj k tm=v:=by
 subst h;simp only[bu,List.getElem?_map,hk,cU,ah]at hv;exact hv
section
variable {K:fZ}{B:Nat->Prop}{p n cc:Nat}{rest:List ae}{m m':Mem}{d:Array El}
theorem aj7 (h:Sv B p n rest m d)(hn:n<90000){a b i j:Nat}(hai:a<=i)(wE:0<i)(hi:i<n){tm:Tm}(hg:bu [0,1,2,3,9,10,65] tm=[vL p 0 n cc,vI a,vI b,fR,vI i,vI j,.bool (gU (bQ i a) 2)]):
  ∃cV m',(∀e st,aA K (eY 210) (bX 210 [3,2]) 8 ⟨cV,m',[]⟩ e st->aA K (eY 210) (bX 210 [3,2]) 7 ⟨tm,m,[]⟩ e st)/\bu [0,1,2,3,9,10] cV=[vL p 0 n cc,vI a,vI b,fR,vI i,vI j]/\Kp m m' (fun y=>y=p)/\Sv B p n rest m' (if i-a≥2 then Sort.shiftDown cT (i-1) d else d):=by
 rw[kj hai]at hg;have z:=Fi hg (i:=6) rfl rfl;have hO:bu [0,1,2,3,9,10] tm=[vL p 0 n cc,vI a,vI b,fR,vI i,vI j]:=by
  simp only[bu,List.map_cons,List.map_nil,List.cons.injEq,and_true]at hg⊢;exact⟨hg.1,hg.2.1,hg.2.2.1,hg.2.2.2.1,hg.2.2.2.2.1,hg.2.2.2.2.2.1⟩
 by_cases h2:i-a≥2
 ·obtain⟨t1,w1,g1⟩:=aR (K:=K) (m:=m) (m':=m) (aev p n cc a b i j) hO .nil;rw[show bQ i 1=((i-1:Nat):Int)from kj (j:=1) ai]at g1;obtain⟨t2,m2,hx,g2,k2,s2⟩:=aka (K:=K) h hn ai g1;rw[bj h2];refine⟨t2,m2,fun e st k=>aA.cond (v:=true) acO ?_ ((aA.cut w1 (aA.fw hx (aA.done (af aU)))).code abv) aU aU k,g2,k2,s2⟩;exact z.trans (dT (je (j:=2)))
 ·rw[show gU (i-a:Nat) 2=false from(je (j:=2)).trans (yA h2)]at hg;obtain⟨t1,w1,g1⟩:=aR (K:=K) (m:=m) (m':=m) (aew p n cc a b i j false) hg (.cond rfl .nil);rw[bW h2];exact⟨t1,m,fun e st k=>aA.cut w1 k,g1,.refl _ _,h⟩
theorem aj6 (h:Sv B p n rest m d)(hn:n<90000){a b i j:Nat}(hib:i<=b)(wE:0<i)(hb:b<=n){tm:Tm}(hg:bu [0,1,2,3,9,10,104] tm=[vL p 0 n cc,vI a,vI b,fR,vI i,vI j,.bool (gU (bQ b i) 2)]):
  ∃cV m',aA K (eY 210) (bX 210 [3,2]) 9 ⟨tm,m,[]⟩ .normal ⟨cV,m',[]⟩/\bu [0,1,2,3,9,10] cV=[vL p 0 n cc,vI a,vI b,fR,vI i,vI j]/\Kp m m' (fun y=>y=p)/\Sv B p n rest m' (if b-i≥2 then Sort.shiftUp cT b (i+1) d else d):=by
 rw[kj hib]at hg;have z:=Fi hg (i:=6) rfl rfl;have hO:bu [0,1,2,3,9,10] tm=[vL p 0 n cc,vI a,vI b,fR,vI i,vI j]:=by
  simp only[bu,List.map_cons,List.map_nil,List.cons.injEq,and_true]at hg⊢;exact⟨hg.1,hg.2.1,hg.2.2.1,hg.2.2.2.1,hg.2.2.2.2.1,hg.2.2.2.2.2.1⟩
 by_cases h2:b-i≥2
 ·obtain⟨t1,w1,g1⟩:=aR (K:=K) (m:=m) (m':=m) (aen p n cc a b i j) hO .nil;rw[dI]at g1;obtain⟨t2,m2,hx,g2,k2,s2⟩:=aj9 (K:=K) h hn ai hb g1;rw[bj h2];refine⟨t2,m2,aA.cond (v:=true) acN ?_ ((aA.cut w1 (aA.fw hx (aA.done (af aU)))).code abu) aU aU (aA.done (af aU)),g2,k2,s2⟩;exact z.trans (dT (je (j:=2)))
 ·rw[show gU (b-i:Nat) 2=false from(je (j:=2)).trans (yA h2)]at hg;obtain⟨t1,w1,g1⟩:=aR (K:=K) (m:=m) (m':=m) (aem p n cc a b i j false) hg (.cond rfl .nil);rw[bW h2];exact⟨t1,m,aA.last w1 (af aU),g1,.refl _ _,h⟩
theorem alK (h:Sv B p n rest m d)(hn:n<90000){a b:Nat}(w7:a<b)(hb:b<=n):
  ∃m',Ev K 210 [vL p 0 n cc,vI a,vI b,fR] m (.bool (Sort.partialInsertionSort cT d a b).2) m'/\Kp m m' (fun y=>y=p)/\Sv B p n rest m' (Sort.partialInsertionSort cT d a b).1:=by
 obtain⟨t0,w0,e0⟩:=aR (K:=K) (m:=m) (m':=m) (tm:=entry [vL p 0 n cc,vI a,vI b,fR]) (aeE p n cc a b) rfl .nil;rw[dI]at e0;unfold Sort.partialInsertionSort;generalize hr:Sort.partialIns cT a b 5 (a+1) d=r;obtain⟨e,t1,m1,he,hx,hq,k1,s1⟩:=eI (K:=K) (nt:=eY 210) (a:=bX 210 [3]) 5
  (Inv:=fun j tm m'=>∃(d':Array El) (i:Nat),a<i/\i<=b/\bu [0,1,2,3,9,10] tm=[vL p 0 n cc,vI a,vI b,fR,vI i,vI j]/\Kp m m' (fun y=>y=p)/\Sv B p n rest m' d'/\Sort.partialIns cT a b (5-j) i d'=r)
  (dm:=fun e tm m'=>(e= .ret/\bu [8] tm=[.bool r.2]\/e= .exit 0/\r.2=false)/\Kp m m' (fun y=>y=p)/\Sv B p n rest m' r.1)
  (by
   rintro j tm m1 hj ⟨d',i,hai,hib,hg,k1,s1,hd⟩;obtain⟨ta,wa,ga⟩:=aR (K:=K) (m:=m1) (m':=m1) (aeD p n cc a b i j) hg (.cond (dT (gF (j:=5)))<| .nil);obtain⟨i0,rfl⟩:∃k,i=k+1:=⟨i-1,ai⟩;obtain⟨tb,m2,hxb,gb,kb,sb⟩:=i210 (K:=K) s1 hn hb ga;have uV:=BP (d:=d') (b:=b) _ (i0+1) rfl;rw[show 5-j=(5-(j+1))+1 by omega,Sort.partialIns]at hd;simp only[]at hd;generalize hS:Sort.scanSorted cT d' b (i0+1)=i at*;have hi2:=uV.2 hib;have tV:=k1.aZ kb;have lead:∀e st,aA K (eY 210) (bX 210 [3,2]) 1 ⟨tb,m2,[]⟩ e st->aA K (eY 210) (bX 210 [3,2]) 0 ⟨ta,m1,[]⟩ e st:=fun e st k=>aA.fw hxb k
   by_cases acj:i=b
   ·rw[bj acj]at hd;obtain⟨t2,w2,g2⟩:=aR (K:=K) (m:=m2) (m':=m2) (ael p n cc a b i j) gb (.cond (by rw[a8,acj];simp)<| .nil);refine .inr ⟨.ret,t2,m2,g8,(aA.cut wa (aA.wP zA zx (lead _ _ (aA.last w2 (af aU))) aU)).code A1,.inl ⟨rfl,?_⟩,tV,?_⟩
    ·rw[g2,<-hd]
    ·rw[<-hd];exact sb
   ·rw[bW acj]at hd;have nb:(.bool (ie i b):ae)= .bool false:=by rw[a8];exact bF (yA ai)
    by_cases h50:b-a<50
    ·rw[bj h50]at hd;obtain⟨t2,w2,g2⟩:=aR (K:=K) (m:=m2) (m':=m2) (aek p n cc a b i j) gb (.cond nb<| .cond (by rw[kj ai];exact dT (gF (j:=50)))<| .nil);refine .inr ⟨.ret,t2,m2,g8,(aA.cut wa (aA.wP zA zx (lead _ _ (aA.last w2 (af aU))) aU)).code A1,.inl ⟨rfl,?_⟩,tV,?_⟩
     ·rw[g2,<-hd]
     ·rw[<-hd];exact sb
    ·rw[bW h50]at hd
     left
     obtain⟨k,rfl⟩:∃k,i=k+1:=⟨i-1,ai⟩;have g2:=sb.gd;obtain⟨m3,m4,e3,g3,e4,k4,s4⟩:=sb.swap (i:=k+1) (j:=k);obtain⟨tc,wc,gc⟩:=aR (aex p n cc a b j k d'[k+1]!.1 d'[k]!.1) gb (.cond nb<| .cond (by rw[kj ai];exact dF (gF (j:=50)))<| .idx pv ai<| .mem sb.ld<| .idx rfl ai<| .mem sb.ld<| .idx rfl ai<| .mem (aK ft)<| .mem e3<| .idx pv ai<| .mem (aK ft)<| .mem e4<| .nil);obtain⟨td,m5,Cd,gd',k5,s5⟩:=aj7 (K:=K) s4 hn ai ai ai gc;obtain⟨te,we,ge⟩:=aR (K:=K) (m:=m5) (m':=m5) (aeu p n cc a b (k+1) j) gd' .nil;obtain⟨tf,m6,Cf,gf,k6,s6⟩:=aj6 (K:=K) s5 hn ai ai hb ge;obtain⟨tg,wg,gg⟩:=aR (K:=K) (m:=m6) (m':=m6) (aeB p n cc a b (k+1) j) gf .nil;rw[dI]at gg;exact⟨tg,m6,(aA.cut wa (aA.sG zA zx (lead _ _ (aA.cut wc (Cd _ _ (aA.cut we Cf)))) (.inl rfl) (aA.last wg (af aU)))).code A1,_,k+1,ai,hi2,gg,((tV.trans k4 fun _ _ h=>h).trans k5 fun _ _ h=>h).trans k6 fun _ _ h=>h,s6,hd⟩)
  (by
   rintro tm m1 ⟨d',i,hai,hib,hg,k1,s1,hd⟩;obtain⟨t2,cN,cz⟩:=aI (K:=K) (m:=m1) (m':=m1) A1 (aeC p n cc a b i 5) hg (.cond (by rfl) .nil);have hd:(d',false)=r:=hd;exact⟨_,t2,m1,g8,cN,.inr ⟨rfl,by rw[<-hd]⟩,k1,by rw[<-hd];exact s1⟩)
  (tm:=t0) (m:=m) ⟨d,a+1,ai,ai,e0,.refl _ _,h,hr⟩ ai
 rcases hq with⟨rfl,hv⟩|⟨rfl,hv⟩
 ·exact⟨m1,eB (vs:=[.bool r.2]) Y0 (aA.cut w0 (aA.Co WW W3 hx aU)) (.inr rfl) hv,k1,s1⟩
 ·obtain⟨t2,w2,g2⟩:=aR (K:=K) (m:=m1) (m':=m1) (tm:=t1) aej rfl .nil;exact⟨m1,eB (vs:=[.bool r.2]) Y0 (aA.cut w0 (aA.fw hx (aA.last w2 PO))) (.inr rfl) (by rw[hv];exact g2),k1,s1⟩
end
end Go.AM
