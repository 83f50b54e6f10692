/-
  What the claim stands on, part 8.
-/
import Derived.Test.YtgfppohfgconeaaGreatDoorH7
import Derived.Sort.LotC
import Derived.Sort.LotA
import Derived.Sort.LotB
set_option linter.unusedVariables false
set_option linter.unusedSimpArgs false
open Go.Proofs.Tryz renaming prog → ab
open Go renaming Value → ae, TypeId → aO, IntKind → bU
open Nat renaming le_of_ble_eq_true → af, le_refl → aj, eq_of_beq_eq_true → ay, lt_of_lt_of_le → aW, le_trans → bV
open Bool renaming and_eq_true → ag
open Prod.mk renaming injEq → au
open List renaming all_eq_true → aB, mem_cons → aL
open Option renaming map_some → cU, bind_some → dq
namespace Go.AM
set_option maxRecDepth 1000000
open Go Go.Conc Go.Proofs
theorem agq:jy 211 5 [10]=true:=aU
theorem PN:(di (bN 211)).length<=99:=af aU
theorem NU:iP 211 [3]:=aU
theorem tM:iP 211 [3,0,0]:=aU
theorem qu:iP 211 [3,0,1]:=aU
theorem FG:iu (bX 211 [3]) 0=some (1,(bX 211 [3,0])):=aU
theorem FF:jA (eY 211) (bX 211 [3]) (bX 211 [3,0]) 0 1=true:=aU
theorem Ix (p n cc a i j:Nat)(x y:ae)(c:Int):aT 211 [3,0,0] 0 99 [0,1,4,11,12] [vL p 0 n cc,vI a,fR,vI i,vI j]
 ((rp 4 (.bool (fM i j)) true (.idx a n a::aP (fM i j) true:: .mem (aD p (0+a*1)) x::(rp 3 (.bool (fM i j)) true (.idx i n i::aP (fM i j) true:: .mem (aD p (0+i*1)) y::gp::aP (fM i j) true:: .bM fR [x,y] (vI c)::(rp 3 (.bool (fM i j)) true ([aP (!(cO c 0)) true])))))))
 .normal [0,1,4,11,12] [vL p 0 n cc,vI a,fR,vI (bL i 1),vI j]:=dc
theorem Iw (p n cc a i j:Nat)(x y:ae)(c:Int):aT 211 [3,0,0] 0 99 [0,1,4,11,12] [vL p 0 n cc,vI a,fR,vI i,vI j]
 ((rp 4 (.bool (fM i j)) true (.idx a n a::aP (fM i j) true:: .mem (aD p (0+a*1)) x::(rp 3 (.bool (fM i j)) true (.idx i n i::aP (fM i j) true:: .mem (aD p (0+i*1)) y::gp::aP (fM i j) true:: .bM fR [x,y] (vI c)::(rp 3 (.bool (fM i j)) true ([aP (!(cO c 0)) false])))))))
 (.exit 2) [0,1,4,11,12] [vL p 0 n cc,vI a,fR,vI i,vI j]:=dc
theorem Iv (p n cc a i j:Nat):aT 211 [3,0,0] 0 99 [0,1,4,11,12] [vL p 0 n cc,vI a,fR,vI i,vI j]
 ((rp 9 (.bool (fM i j)) false (gp::(rp 4 (.bool (fM i j)) false ([dx])))))
 (.exit 2) [0,1,4,11,12] [vL p 0 n cc,vI a,fR,vI i,vI j]:=dc
theorem Lt {K:fZ}{B:Nat->Prop}{p n cc:Nat}{rest:List ae}{m:Mem}{d:Array El}(h:Sv B p n rest m d)(hn:n<90000){a i j:Nat}(ha:a<n)(hj:j<n){tm:Tm}(hg:bu [0,1,4,11,12] tm=[vL p 0 n cc,vI a,fR,vI i,vI j]):
  ∃cV m',vB K (eY 211) (bX 211 [3,0,0]) 100000 ⟨tm,m,[]⟩ (.exit 2) ⟨cV,m',[]⟩/\bu [0,1,4,11,12] cV=[vL p 0 n cc,vI a,fR,vI (Sort.scanUp (fun x=>!cT d[a]! x) d j i:Int),vI j]/\Kp m m' fu/\Sv B p n rest m' d:=by
 refine rY (is:=[0,1,4,11,12]) (fun i=>[vL p 0 n cc,vI a,fR,vI i,vI j]) (fun i=>decide (i<=j)&&!cT d[a]! d[i]!) (·+1) (fun i=>Sort.scanUp (fun x=>!cT d[a]! x) d j i) (fun i=>j+1-i) g8 ?_ ?_ ?_ ?_ (i:=i) ai hg h
 ·intro i tm m hgo hg h;simp only[ag,iB,Bool.not_eq_true']at hgo;obtain⟨c,m2,e2,k2,s2,hc⟩:=h.cmp (K:=K) (i:=a) (j:=i);have g:=h.gd;obtain⟨t2,cN,cz⟩:=aI tM (Ix p n cc a i j d[a]!.1 d[i]!.1 c) hg (.rp (dT fW)<| .idx rfl ai<| .cond (dT fW)<| .mem h.ld<| .rp (dT fW)<| .idx rfl ai<| .cond (dT fW)<| .mem h.ld<| .mem (aK ft)<| .cond (dT fW)<| .bM e2<| .rp (dT fW)<| .cond (bT (by rw[hc,hgo.2];rfl))<| .nil);rw[dI]at cz;exact⟨t2,m2,cN,cz,k2,s2⟩
 ·intro i tm m hgo hg h;have g:=h.gd
  by_cases jq:i<=j
  ·obtain⟨c,m2,e2,k2,s2,hc⟩:=h.cmp (K:=K) (i:=a) (j:=i);have hl:cT d[a]! d[i]! =true:=by simpa[jq]using hgo
   obtain⟨t2,cN,cz⟩:=aI tM (Iw p n cc a i j d[a]!.1 d[i]!.1 c) hg (.rp (dT fW)<| .idx rfl ai<| .cond (dT fW)<| .mem h.ld<| .rp (dT fW)<| .idx rfl ai<| .cond (dT fW)<| .mem h.ld<| .mem (aK ft)<| .cond (dT fW)<| .bM e2<| .rp (dT fW)<| .cond (bF (by rw[hc,hl];rfl))<| .nil);exact⟨t2,m2,cN,cz,k2,s2⟩
  ·obtain⟨t2,cN,cz⟩:=aI (K:=K) (m:=m) (m':=m) tM (Iv p n cc a i j) hg (.rp (dF fW)<| .mem (aK ft)<| .rp (dF fW)<| .cond rfl<| .nil);exact⟨t2,m,cN,cz,.refl _ _,h⟩
 ·intro i hgo;have jq:i<=j:=by simp only[ag,iB]at hgo;exact hgo.1
  refine⟨?_,by show j+1-(i+1)<_;omega⟩
  show Sort.scanUp _ d j i=Sort.scanUp _ d j (i+1)
  conv=>lhs;rw[Sort.scanUp]
  rw[bj hgo]
 ·intro i hgo
  show Sort.scanUp _ d j i=i
  rw[Sort.scanUp,bW (by rw[hgo];exact Bool.false_ne_true)]
theorem Iu (p n cc a i j:Nat)(x y:ae)(c:Int):aT 211 [3,0,1] 0 99 [0,1,4,11,12] [vL p 0 n cc,vI a,fR,vI i,vI j]
 ((rp 4 (.bool (fM i j)) true (.idx a n a::aP (fM i j) true:: .mem (aD p (0+a*1)) x::(rp 3 (.bool (fM i j)) true ([.idx j n j,
  aP (fM i j) true,
  .mem (aD p (0+j*1)) y,
  gp,
  aP (fM i j) true,
  .bM fR [x,y] (vI c),
  aP (fM i j) true,
  aP (fM i j) true,
  aP (cO c 0) true])))))
 .normal [0,1,4,11,12] [vL p 0 n cc,vI a,fR,vI i,vI (bQ j 1)]:=dc
theorem It (p n cc a i j:Nat)(x y:ae)(c:Int):aT 211 [3,0,1] 0 99 [0,1,4,11,12] [vL p 0 n cc,vI a,fR,vI i,vI j]
 ((rp 4 (.bool (fM i j)) true (.idx a n a::aP (fM i j) true:: .mem (aD p (0+a*1)) x::(rp 3 (.bool (fM i j)) true ([.idx j n j,
  aP (fM i j) true,
  .mem (aD p (0+j*1)) y,
  gp,
  aP (fM i j) true,
  .bM fR [x,y] (vI c),
  aP (fM i j) true,
  aP (fM i j) true,
  aP (cO c 0) false])))))
 (.exit 4) [0,1,4,11,12] [vL p 0 n cc,vI a,fR,vI i,vI j]:=dc
theorem zO (p n cc a i j:Nat):aT 211 [3,0,1] 0 99 [0,1,4,11,12] [vL p 0 n cc,vI a,fR,vI i,vI j]
 ((rp 9 (.bool (fM i j)) false (gp::(rp 3 (.bool (fM i j)) false ([dx])))))
 (.exit 4) [0,1,4,11,12] [vL p 0 n cc,vI a,fR,vI i,vI j]:=dc
theorem Ls {K:fZ}{B:Nat->Prop}{p n cc:Nat}{rest:List ae}{m:Mem}{d:Array El}(h:Sv B p n rest m d)(hn:n<90000){a i j:Nat}(ha:a<n)(h1:1<=i)(hj:j<n){tm:Tm}(hg:bu [0,1,4,11,12] tm=[vL p 0 n cc,vI a,fR,vI i,vI j]):
  ∃cV m',vB K (eY 211) (bX 211 [3,0,1]) 100000 ⟨tm,m,[]⟩ (.exit 4) ⟨cV,m',[]⟩/\bu [0,1,4,11,12] cV=[vL p 0 n cc,vI a,fR,vI i,vI (Sort.scanDown (fun x=>cT d[a]! x) d i j:Int)]/\Kp m m' fu/\Sv B p n rest m' d:=by
 suffices H:∃cV m',vB K (eY 211) (bX 211 [3,0,1]) 100000 ⟨tm,m,[]⟩ (.exit 4) ⟨cV,m',[]⟩/\bu [0,1,4,11,12] cV=(fun j:Nat=>[vL p 0 n cc,vI a,fR,vI i,vI (if j<n then j else 0:Nat)]) ((fun j=>if j<n then Sort.scanDown (fun x=>cT d[a]! x) d i j else j) j)/\Kp m m' fu/\Sv B p n rest m' d by
  obtain⟨t,m',r1,r2,r3,r4⟩:=H;simp only[bj hj,bj (Nat.lt_of_le_of_lt (Sort.scanDown_le _ _ _ _) hj)]at r2;exact⟨t,m',r1,r2,r3,r4⟩
 refine rY (fun j:Nat=>[vL p 0 n cc,vI a,fR,vI i,vI (if j<n then j else 0:Nat)]) (fun j=>decide (i<=j)&&decide (j<n)&&cT d[a]! d[j]!) (· -1) (fun j=>if j<n then Sort.scanDown (fun x=>cT d[a]! x) d i j else j) (fun j=>j) g8 ?_ ?_ ?_ ?_ (i:=j) ai (by simp only[bj hj];exact hg) h
 ·intro j tm m hgo hg h;simp only[ag,iB,Bool.not_eq_true']at hgo;obtain⟨⟨jq,hj⟩,hl⟩:=hgo;rw[bj hj]at hg;obtain⟨c,m2,e2,k2,s2,hc⟩:=h.cmp (K:=K) (i:=a) (j:=j);have g:=h.gd;obtain⟨t2,cN,cz⟩:=aI qu (Iu p n cc a i j d[a]!.1 d[j]!.1 c) hg (.rp (dT fW)<| .idx rfl ai<| .cond (dT fW)<| .mem h.ld<| .rp (dT fW)<| .idx rfl ai<| .cond (dT fW)<| .mem h.ld<| .mem (aK ft)<| .cond (dT fW)<| .bM e2<| .cond (dT fW)<| .cond (dT fW)<| .cond (bT (hc.trans hl))<| .nil);rw[show bQ j 1=((j-1:Nat):Int)from kj (j:=1) ai]at cz;exact⟨t2,m2,cN,by rw[bj (show j-1<n by omega)];exact cz,k2,s2⟩
 ·intro j tm m hgo hg h;have g:=h.gd
  by_cases hj:j<n
  ·rw[bj hj]at hg⊢
   by_cases jq:i<=j
   ·obtain⟨c,m2,e2,k2,s2,hc⟩:=h.cmp (K:=K) (i:=a) (j:=j);have hl:cT d[a]! d[j]! =false:=by simpa[jq,hj]using hgo
    obtain⟨t2,cN,cz⟩:=aI qu (It p n cc a i j d[a]!.1 d[j]!.1 c) hg (.rp (dT fW)<| .idx rfl ai<| .cond (dT fW)<| .mem h.ld<| .rp (dT fW)<| .idx rfl ai<| .cond (dT fW)<| .mem h.ld<| .mem (aK ft)<| .cond (dT fW)<| .bM e2<| .cond (dT fW)<| .cond (dT fW)<| .cond (bF (hc.trans hl))<| .nil);exact⟨t2,m2,cN,cz,k2,s2⟩
   ·obtain⟨t2,cN,cz⟩:=aI (K:=K) (m:=m) (m':=m) qu (zO p n cc a i j) hg (.rp (dF fW)<| .mem (aK ft)<| .rp (dF fW)<| .cond rfl<| .nil);exact⟨t2,m,cN,cz,.refl _ _,h⟩
  ·rw[bW hj]at hg⊢;obtain⟨t2,cN,cz⟩:=aI (K:=K) (m:=m) (m':=m) qu (zO p n cc a i 0) hg (.rp (dF fW)<| .mem (aK ft)<| .rp (dF fW)<| .cond rfl<| .nil);exact⟨t2,m,cN,cz,.refl _ _,h⟩
 ·intro j hgo;simp only[ag,iB]at hgo;obtain⟨⟨jq,hj⟩,hl⟩:=hgo;obtain⟨j,rfl⟩:∃k,j=k+1:=⟨j-1,ai⟩;refine⟨?_,by show j+1-1<_;omega⟩
  show(if j+1<n then _ else _)=(if j<n then _ else _)
  rw[bj hj,bj (show j<n by omega),Sort.scanDown,bj (by rw[AA jq];exact hl)];rfl
 ·intro j hgo
  show(if j<n then _ else _)=_
  split
  ·rename_i hj;cases j with
   |zero=>rfl
   |succ j=>
    rw[AA hj,Bool.and_true]at hgo;rw[Sort.scanDown,bW (by rw[hgo];exact Bool.false_ne_true)]
  ·rfl
theorem aei (p n cc a b q:Nat)(x y:ae):dJ 211 0 3 [0,1,2,3,4] [vL p 0 n cc,vI a,vI b,vI q,fR]
 [.idx q n q,
  .mem (aD p (0+q*1)) y,
  .idx a n a,
  .mem (aD p (0+a*1)) x,
  .idx a n a,
  gp,
  .mem (eH p (0+a*1) y) undef,
  .idx q n q,
  gp,
  .mem (eH p (0+q*1) x) undef]
 .normal [0,1,4,11,12] [vL p 0 n cc,vI a,fR,vI (bL a 1),vI (bQ b 1)]:=dc
theorem aeg (p n cc a i j:Nat):aT 211 [3,0] 2 99 [0,1,4,11,12] [vL p 0 n cc,vI a,fR,vI i,vI j]
 [aP (nV i j) true]
 (.exit 0) [11] [vI i]:=dc
theorem aeh (p n cc a i j:Nat)(x y:ae):aT 211 [3,0] 2 99 [0,1,4,11,12] [vL p 0 n cc,vI a,fR,vI i,vI j]
 [aP (nV i j) false,
  .idx j n j,
  .mem (aD p (0+j*1)) y,
  .idx i n i,
  .mem (aD p (0+i*1)) x,
  .idx i n i,
  gp,
  .mem (eH p (0+i*1) y) undef,
  .idx j n j,
  gp,
  .mem (eH p (0+j*1) x) undef]
 .normal [0,1,4,11,12] [vL p 0 n cc,vI a,fR,vI (bL i 1),vI (bQ j 1)]:=dc
theorem aef (i:Nat):dJ 211 4 99 [11] [vI i]
 []
 .ret [10] [vI i]:=dc
section
variable {K:fZ}{B:Nat->Prop}{p n cc:Nat}{rest:List ae}{m m':Mem}{d:Array El}
theorem alJ (h:Sv B p n rest m d)(hn:n<90000){a b q:Nat}(w7:a<b)(hb:b<=n)(hq:q<n):
  ∃m',Ev K 211 [vL p 0 n cc,vI a,vI b,vI q,fR] m (vI ((Sort.partitionEqual cT d a b q).1:Int)) m'/\Kp m m' (fun y=>y=p)/\Sv B p n rest m' (Sort.partitionEqual cT d a b q).2:=by
 have g:=h.gd;obtain⟨m1,m2,e1,g1,e2,k2,s2⟩:=h.swap (i:=a) (j:=q);obtain⟨t0,w0,e0⟩:=aR (K:=K) (tm:=entry [vL p 0 n cc,vI a,vI b,vI q,fR]) (aei p n cc a b q d[a]!.1 d[q]!.1) rfl (.idx rfl ai<| .mem h.ld<| .idx rfl ai<| .mem h.ld<| .idx rfl ai<| .mem (aK ft)<| .mem e1<| .idx rfl ai<| .mem (aK ft)<| .mem e2<| .nil);rw[dI,show bQ b 1=((b-1:Nat):Int)from kj (j:=1) ai]at e0;unfold Sort.partitionEqual;generalize hr:Sort.partEqLoop cT a (a+1) (b-1) (Sort.swp d a q)=r;obtain⟨e,t1,m3,he,hx,rfl,hv,k3,s3⟩:=jx (K:=K) (nt:=eY 211) (a:=bX 211 [3])
  (Inv:=fun k tm m'=>∃(d':Array El) (i j:Nat),1<=i/\j<n/\k=j+1-i/\bu [0,1,4,11,12] tm=[vL p 0 n cc,vI a,fR,vI i,vI j]/\Kp m m' (fun y=>y=p)/\Sv B p n rest m' d'/\Sort.partEqLoop cT a i j d'=r)
  (dm:=fun e tm m'=>e= .exit 0/\bu [11] tm=[vI r.1]/\Kp m m' (fun y=>y=p)/\Sv B p n rest m' r.2)
  (by
   rintro k tm m1 ⟨d',i,j,hi,hj,rfl,hg,k1,s1,hd⟩;obtain⟨ta,ma,xa,ga,ka,sa⟩:=Lt (K:=K) s1 hn ai hj hg;have hi2:=Sort.scanUp_ge (fun x=>!cT d'[a]! x) d' j i;rw[Sort.partEqLoop]at hd;generalize Sort.scanUp (fun x=>!cT d'[a]! x) d' j i=i2 at*;obtain⟨tb,mb,xb,gb,kb,sb⟩:=Ls (K:=K) sa hn ai ai hj ga;have hj2:=Sort.scanDown_le (fun x=>cT d'[a]! x) d' i2 j;generalize Sort.scanDown (fun x=>cT d'[a]! x) d' i2 j=j2 at*;have gg:=sb.gd;have tV:=(k1.aZ ka).aZ kb
   by_cases jq:i2>j2
   ·rw[bj jq]at hd;obtain⟨t2,w2,g2⟩:=aR (K:=K) (m:=mb) (m':=mb) (aeg p n cc a i2 j2) gb (.cond (dT qP)<| .nil);exact .inr ⟨.exit 0,t2,mb,g8,(aA.MS FG FF (aA.fw xa (aA.fw xb (aA.last w2 (af aU)))) rfl aU).code NU,rfl,by rw[g2,<-hd],tV,by rw[<-hd];exact sb⟩
   ·rw[bW jq,dif_pos ai]at hd;obtain⟨m3,m4,e3,g3,e4,k4,s4⟩:=sb.swap (i:=i2) (j:=j2);obtain⟨t2,w2,g2⟩:=aR (aeh p n cc a i2 j2 d'[i2]!.1 d'[j2]!.1) gb (.cond (dF qP)<| .idx rfl ai<| .mem sb.ld<| .idx rfl ai<| .mem sb.ld<| .idx rfl ai<| .mem (aK ft)<| .mem e3<| .idx rfl ai<| .mem (aK ft)<| .mem e4<| .nil);rw[dI,show bQ j2 1=((j2-1:Nat):Int)from kj (j:=1) ai]at g2;exact .inl ⟨_,t2,m4,ai,(aA.sG FG FF (aA.fw xa (aA.fw xb (aA.last w2 (af aU)))) (.inl rfl) (aA.done (af aU))).code NU,_,i2+1,j2-1,ai,ai,rfl,g2,tV.trans k4 fun _ _ h=>h,s4,hd⟩)
  (n:=b-1+1-(a+1)) (k:=100000) (tm:=t0) (m:=m2) ⟨_,a+1,b-1,ai,ai,rfl,e0,k2,s2,hr⟩ ai
 obtain⟨t2,w2,g2⟩:=aR (K:=K) (m:=m3) (m':=m3) (aef r.1) hv .nil;exact⟨m3,eB (vs:=[vI r.1]) agq (aA.cut w0 (aA.fw hx (aA.last w2 PN))) (.inr rfl) g2,k3,s3⟩
end
theorem YZ:jy 212 5 [10,11]=true:=aU
theorem EW:(di (bN 212)).length<=99:=af aU
theorem Gv:iP 212 [3]:=aU
theorem A0:iP 212 [4]:=aU
theorem I2:iP 212 [10]:=aU
theorem r8:iP 212 [10,0,0]:=aU
theorem oI:iP 212 [10,0,1]:=aU
theorem Dq:iu (bX 212 [10]) 0=some (5,(bX 212 [10,0])):=aU
theorem Dm:jA (eY 212) (bX 212 [10]) (bX 212 [10,0]) 0 5=true:=aU
theorem Wl (p n cc a i j:Nat)(x y:ae)(c:Int):aT 212 [3] 0 99 [0,1,4,12,13] [vL p 0 n cc,vI a,fR,vI i,vI j]
 ((rp 4 (.bool (fM i j)) true (.idx i n i::aP (fM i j) true:: .mem (aD p (0+i*1)) x::(rp 3 (.bool (fM i j)) true ([.idx a n a,
  aP (fM i j) true,
  .mem (aD p (0+a*1)) y,
  gp,
  aP (fM i j) true,
  .bM fR [x,y] (vI c),
  aP (fM i j) true,
  aP (fM i j) true,
  aP (cO c 0) true])))))
 .normal [0,1,4,12,13] [vL p 0 n cc,vI a,fR,vI (bL i 1),vI j]:=dc
theorem Wk (p n cc a i j:Nat)(x y:ae)(c:Int):aT 212 [3] 0 99 [0,1,4,12,13] [vL p 0 n cc,vI a,fR,vI i,vI j]
 ((rp 4 (.bool (fM i j)) true (.idx i n i::aP (fM i j) true:: .mem (aD p (0+i*1)) x::(rp 3 (.bool (fM i j)) true ([.idx a n a,
  aP (fM i j) true,
  .mem (aD p (0+a*1)) y,
  gp,
  aP (fM i j) true,
  .bM fR [x,y] (vI c),
  aP (fM i j) true,
  aP (fM i j) true,
  aP (cO c 0) false])))))
 (.exit 0) [0,1,4,12,13] [vL p 0 n cc,vI a,fR,vI i,vI j]:=dc
theorem Wj (p n cc a i j:Nat):aT 212 [3] 0 99 [0,1,4,12,13] [vL p 0 n cc,vI a,fR,vI i,vI j]
 ((rp 9 (.bool (fM i j)) false (gp::(rp 3 (.bool (fM i j)) false ([dx])))))
 (.exit 0) [0,1,4,12,13] [vL p 0 n cc,vI a,fR,vI i,vI j]:=dc
theorem aaC {K:fZ}{B:Nat->Prop}{p n cc:Nat}{rest:List ae}{m:Mem}{d:Array El}(h:Sv B p n rest m d)(hn:n<90000){a i j:Nat}(ha:a<n)(hj:j<n){tm:Tm}(hg:bu [0,1,4,12,13] tm=[vL p 0 n cc,vI a,fR,vI i,vI j]):
  ∃cV m',vB K (eY 212) (bX 212 [3]) 100000 ⟨tm,m,[]⟩ (.exit 0) ⟨cV,m',[]⟩/\bu [0,1,4,12,13] cV=[vL p 0 n cc,vI a,fR,vI (Sort.scanUp (fun x=>cT x d[a]!) d j i:Int),vI j]/\Kp m m' fu/\Sv B p n rest m' d:=by
 refine rY (is:=[0,1,4,12,13]) (fun i=>[vL p 0 n cc,vI a,fR,vI i,vI j]) (fun i=>decide (i<=j)&&cT d[i]! d[a]!) (·+1) (fun i=>Sort.scanUp (fun x=>cT x d[a]!) d j i) (fun i=>j+1-i) g8 ?_ ?_ ?_ ?_ (i:=i) ai hg h
 ·intro i tm m hgo hg h;simp only[ag,iB,Bool.not_eq_true']at hgo;obtain⟨c,m2,e2,k2,s2,hc⟩:=h.cmp (K:=K) (i:=i) (j:=a);have g:=h.gd;obtain⟨t2,cN,cz⟩:=aI Gv (Wl p n cc a i j d[i]!.1 d[a]!.1 c) hg (.rp (dT fW)<| .idx rfl ai<| .cond (dT fW)<| .mem h.ld<| .rp (dT fW)<| .idx rfl ai<| .cond (dT fW)<| .mem h.ld<| .mem (aK ft)<| .cond (dT fW)<| .bM e2<| .cond (dT fW)<| .cond (dT fW)<| .cond (bT (hc.trans hgo.2))<| .nil);rw[dI]at cz;exact⟨t2,m2,cN,cz,k2,s2⟩
 ·intro i tm m hgo hg h;have g:=h.gd
  by_cases jq:i<=j
  ·obtain⟨c,m2,e2,k2,s2,hc⟩:=h.cmp (K:=K) (i:=i) (j:=a);have hl:cT d[i]! d[a]! =false:=by simpa[jq]using hgo
   obtain⟨t2,cN,cz⟩:=aI Gv (Wk p n cc a i j d[i]!.1 d[a]!.1 c) hg (.rp (dT fW)<| .idx rfl ai<| .cond (dT fW)<| .mem h.ld<| .rp (dT fW)<| .idx rfl ai<| .cond (dT fW)<| .mem h.ld<| .mem (aK ft)<| .cond (dT fW)<| .bM e2<| .cond (dT fW)<| .cond (dT fW)<| .cond (bF (hc.trans hl))<| .nil);exact⟨t2,m2,cN,cz,k2,s2⟩
  ·obtain⟨t2,cN,cz⟩:=aI (K:=K) (m:=m) (m':=m) Gv (Wj p n cc a i j) hg (.rp (dF fW)<| .mem (aK ft)<| .rp (dF fW)<| .cond rfl<| .nil);exact⟨t2,m,cN,cz,.refl _ _,h⟩
 ·intro i hgo;have jq:i<=j:=by simp only[ag,iB]at hgo;exact hgo.1
  refine⟨?_,by show j+1-(i+1)<_;omega⟩
  show Sort.scanUp _ d j i=Sort.scanUp _ d j (i+1)
  conv=>lhs;rw[Sort.scanUp]
  rw[bj hgo]
 ·intro i hgo
  show Sort.scanUp _ d j i=i
  rw[Sort.scanUp,bW (by rw[hgo];exact Bool.false_ne_true)]
theorem Wi (p n cc a i j:Nat)(x y:ae)(c:Int):aT 212 [4] 0 99 [0,1,4,12,13] [vL p 0 n cc,vI a,fR,vI i,vI j]
 ((rp 4 (.bool (fM i j)) true (.idx j n j::aP (fM i j) true:: .mem (aD p (0+j*1)) x::(rp 3 (.bool (fM i j)) true (.idx a n a::aP (fM i j) true:: .mem (aD p (0+a*1)) y::gp::aP (fM i j) true:: .bM fR [x,y] (vI c)::(rp 3 (.bool (fM i j)) true ([aP (!(cO c 0)) true])))))))
 .normal [0,1,4,12,13] [vL p 0 n cc,vI a,fR,vI i,vI (bQ j 1)]:=dc
theorem Wh (p n cc a i j:Nat)(x y:ae)(c:Int):aT 212 [4] 0 99 [0,1,4,12,13] [vL p 0 n cc,vI a,fR,vI i,vI j]
 ((rp 4 (.bool (fM i j)) true (.idx j n j::aP (fM i j) true:: .mem (aD p (0+j*1)) x::(rp 3 (.bool (fM i j)) true (.idx a n a::aP (fM i j) true:: .mem (aD p (0+a*1)) y::gp::aP (fM i j) true:: .bM fR [x,y] (vI c)::(rp 3 (.bool (fM i j)) true ([aP (!(cO c 0)) false])))))))
 (.exit 2) [0,1,4,12,13] [vL p 0 n cc,vI a,fR,vI i,vI j]:=dc
theorem NA (p n cc a i j:Nat):aT 212 [4] 0 99 [0,1,4,12,13] [vL p 0 n cc,vI a,fR,vI i,vI j]
 ((rp 9 (.bool (fM i j)) false (gp::(rp 4 (.bool (fM i j)) false ([dx])))))
 (.exit 2) [0,1,4,12,13] [vL p 0 n cc,vI a,fR,vI i,vI j]:=dc
theorem aaB {K:fZ}{B:Nat->Prop}{p n cc:Nat}{rest:List ae}{m:Mem}{d:Array El}(h:Sv B p n rest m d)(hn:n<90000){a i j:Nat}(ha:a<n)(h1:1<=i)(hj:j<n){tm:Tm}(hg:bu [0,1,4,12,13] tm=[vL p 0 n cc,vI a,fR,vI i,vI j]):
  ∃cV m',vB K (eY 212) (bX 212 [4]) 100000 ⟨tm,m,[]⟩ (.exit 2) ⟨cV,m',[]⟩/\bu [0,1,4,12,13] cV=[vL p 0 n cc,vI a,fR,vI i,vI (Sort.scanDown (fun x=>!cT x d[a]!) d i j:Int)]/\Kp m m' fu/\Sv B p n rest m' d:=by
 suffices H:∃cV m',vB K (eY 212) (bX 212 [4]) 100000 ⟨tm,m,[]⟩ (.exit 2) ⟨cV,m',[]⟩/\bu [0,1,4,12,13] cV=(fun j:Nat=>[vL p 0 n cc,vI a,fR,vI i,vI (if j<n then j else 0:Nat)]) ((fun j=>if j<n then Sort.scanDown (fun x=>!cT x d[a]!) d i j else j) j)/\Kp m m' fu/\Sv B p n rest m' d by
  obtain⟨t,m',r1,r2,r3,r4⟩:=H;simp only[bj hj,bj (Nat.lt_of_le_of_lt (Sort.scanDown_le _ _ _ _) hj)]at r2;exact⟨t,m',r1,r2,r3,r4⟩
 refine rY (fun j:Nat=>[vL p 0 n cc,vI a,fR,vI i,vI (if j<n then j else 0:Nat)]) (fun j=>decide (i<=j)&&decide (j<n)&&!cT d[j]! d[a]!) (· -1) (fun j=>if j<n then Sort.scanDown (fun x=>!cT x d[a]!) d i j else j) (fun j=>j) g8 ?_ ?_ ?_ ?_ (i:=j) ai (by simp only[bj hj];exact hg) h
 ·intro j tm m hgo hg h;simp only[ag,iB,Bool.not_eq_true']at hgo;obtain⟨⟨jq,hj⟩,hl⟩:=hgo;rw[bj hj]at hg;obtain⟨c,m2,e2,k2,s2,hc⟩:=h.cmp (K:=K) (i:=j) (j:=a);have g:=h.gd;obtain⟨t2,cN,cz⟩:=aI A0 (Wi p n cc a i j d[j]!.1 d[a]!.1 c) hg (.rp (dT fW)<| .idx rfl ai<| .cond (dT fW)<| .mem h.ld<| .rp (dT fW)<| .idx rfl ai<| .cond (dT fW)<| .mem h.ld<| .mem (aK ft)<| .cond (dT fW)<| .bM e2<| .rp (dT fW)<| .cond (bT (by rw[hc,hl];rfl))<| .nil);rw[show bQ j 1=((j-1:Nat):Int)from kj (j:=1) ai]at cz;exact⟨t2,m2,cN,by rw[bj (show j-1<n by omega)];exact cz,k2,s2⟩
 ·intro j tm m hgo hg h;have g:=h.gd
  by_cases hj:j<n
  ·rw[bj hj]at hg⊢
   by_cases jq:i<=j
   ·obtain⟨c,m2,e2,k2,s2,hc⟩:=h.cmp (K:=K) (i:=j) (j:=a);have hl:cT d[j]! d[a]! =true:=by simpa[jq,hj]using hgo
    obtain⟨t2,cN,cz⟩:=aI A0 (Wh p n cc a i j d[j]!.1 d[a]!.1 c) hg (.rp (dT fW)<| .idx rfl ai<| .cond (dT fW)<| .mem h.ld<| .rp (dT fW)<| .idx rfl ai<| .cond (dT fW)<| .mem h.ld<| .mem (aK ft)<| .cond (dT fW)<| .bM e2<| .rp (dT fW)<| .cond (bF (by rw[hc,hl];rfl))<| .nil);exact⟨t2,m2,cN,cz,k2,s2⟩
   ·obtain⟨t2,cN,cz⟩:=aI (K:=K) (m:=m) (m':=m) A0 (NA p n cc a i j) hg (.rp (dF fW)<| .mem (aK ft)<| .rp (dF fW)<| .cond rfl<| .nil);exact⟨t2,m,cN,cz,.refl _ _,h⟩
  ·rw[bW hj]at hg⊢;obtain⟨t2,cN,cz⟩:=aI (K:=K) (m:=m) (m':=m) A0 (NA p n cc a i 0) hg (.rp (dF fW)<| .mem (aK ft)<| .rp (dF fW)<| .cond rfl<| .nil);exact⟨t2,m,cN,cz,.refl _ _,h⟩
 ·intro j hgo;simp only[ag,iB]at hgo;obtain⟨⟨jq,hj⟩,hl⟩:=hgo;obtain⟨j,rfl⟩:∃k,j=k+1:=⟨j-1,ai⟩;refine⟨?_,by show j+1-1<_;omega⟩
  show(if j+1<n then _ else _)=(if j<n then _ else _)
  rw[bj hj,bj (show j<n by omega),Sort.scanDown,bj (by rw[AA jq];exact hl)];rfl
 ·intro j hgo
  show(if j<n then _ else _)=_
  split
  ·rename_i hj;cases j with
   |zero=>rfl
   |succ j=>
    rw[AA hj,Bool.and_true]at hgo;rw[Sort.scanDown,bW (by rw[hgo];exact Bool.false_ne_true)]
  ·rfl
theorem Gi (p n cc a i j:Nat)(x y:ae)(c:Int):aT 212 [10,0,0] 0 99 [0,1,4,12,13] [vL p 0 n cc,vI a,fR,vI i,vI j]
 ((rp 4 (.bool (fM i j)) true (.idx i n i::aP (fM i j) true:: .mem (aD p (0+i*1)) x::(rp 3 (.bool (fM i j)) true ([.idx a n a,
  aP (fM i j) true,
  .mem (aD p (0+a*1)) y,
  gp,
  aP (fM i j) true,
  .bM fR [x,y] (vI c),
  aP (fM i j) true,
  aP (fM i j) true,
  aP (cO c 0) true])))))
 .normal [0,1,4,12,13] [vL p 0 n cc,vI a,fR,vI (bL i 1),vI j]:=dc
theorem Gh (p n cc a i j:Nat)(x y:ae)(c:Int):aT 212 [10,0,0] 0 99 [0,1,4,12,13] [vL p 0 n cc,vI a,fR,vI i,vI j]
 ((rp 4 (.bool (fM i j)) true (.idx i n i::aP (fM i j) true:: .mem (aD p (0+i*1)) x::(rp 3 (.bool (fM i j)) true ([.idx a n a,
  aP (fM i j) true,
  .mem (aD p (0+a*1)) y,
  gp,
  aP (fM i j) true,
  .bM fR [x,y] (vI c),
  aP (fM i j) true,
  aP (fM i j) true,
  aP (cO c 0) false])))))
 (.exit 6) [0,1,4,12,13] [vL p 0 n cc,vI a,fR,vI i,vI j]:=dc
theorem Gg (p n cc a i j:Nat):aT 212 [10,0,0] 0 99 [0,1,4,12,13] [vL p 0 n cc,vI a,fR,vI i,vI j]
 ((rp 9 (.bool (fM i j)) false (gp::(rp 3 (.bool (fM i j)) false ([dx])))))
 (.exit 6) [0,1,4,12,13] [vL p 0 n cc,vI a,fR,vI i,vI j]:=dc
theorem Is {K:fZ}{B:Nat->Prop}{p n cc:Nat}{rest:List ae}{m:Mem}{d:Array El}(h:Sv B p n rest m d)(hn:n<90000){a i j:Nat}(ha:a<n)(hj:j<n){tm:Tm}(hg:bu [0,1,4,12,13] tm=[vL p 0 n cc,vI a,fR,vI i,vI j]):
  ∃cV m',vB K (eY 212) (bX 212 [10,0,0]) 100000 ⟨tm,m,[]⟩ (.exit 6) ⟨cV,m',[]⟩/\bu [0,1,4,12,13] cV=[vL p 0 n cc,vI a,fR,vI (Sort.scanUp (fun x=>cT x d[a]!) d j i:Int),vI j]/\Kp m m' fu/\Sv B p n rest m' d:=by
 refine rY (is:=[0,1,4,12,13]) (fun i=>[vL p 0 n cc,vI a,fR,vI i,vI j]) (fun i=>decide (i<=j)&&cT d[i]! d[a]!) (·+1) (fun i=>Sort.scanUp (fun x=>cT x d[a]!) d j i) (fun i=>j+1-i) g8 ?_ ?_ ?_ ?_ (i:=i) ai hg h
 ·intro i tm m hgo hg h;simp only[ag,iB,Bool.not_eq_true']at hgo;obtain⟨c,m2,e2,k2,s2,hc⟩:=h.cmp (K:=K) (i:=i) (j:=a);have g:=h.gd;obtain⟨t2,cN,cz⟩:=aI r8 (Gi p n cc a i j d[i]!.1 d[a]!.1 c) hg (.rp (dT fW)<| .idx rfl ai<| .cond (dT fW)<| .mem h.ld<| .rp (dT fW)<| .idx rfl ai<| .cond (dT fW)<| .mem h.ld<| .mem (aK ft)<| .cond (dT fW)<| .bM e2<| .cond (dT fW)<| .cond (dT fW)<| .cond (bT (hc.trans hgo.2))<| .nil);rw[dI]at cz;exact⟨t2,m2,cN,cz,k2,s2⟩
 ·intro i tm m hgo hg h;have g:=h.gd
  by_cases jq:i<=j
  ·obtain⟨c,m2,e2,k2,s2,hc⟩:=h.cmp (K:=K) (i:=i) (j:=a);have hl:cT d[i]! d[a]! =false:=by simpa[jq]using hgo
   obtain⟨t2,cN,cz⟩:=aI r8 (Gh p n cc a i j d[i]!.1 d[a]!.1 c) hg (.rp (dT fW)<| .idx rfl ai<| .cond (dT fW)<| .mem h.ld<| .rp (dT fW)<| .idx rfl ai<| .cond (dT fW)<| .mem h.ld<| .mem (aK ft)<| .cond (dT fW)<| .bM e2<| .cond (dT fW)<| .cond (dT fW)<| .cond (bF (hc.trans hl))<| .nil);exact⟨t2,m2,cN,cz,k2,s2⟩
  ·obtain⟨t2,cN,cz⟩:=aI (K:=K) (m:=m) (m':=m) r8 (Gg p n cc a i j) hg (.rp (dF fW)<| .mem (aK ft)<| .rp (dF fW)<| .cond rfl<| .nil);exact⟨t2,m,cN,cz,.refl _ _,h⟩
 ·intro i hgo;have jq:i<=j:=by simp only[ag,iB]at hgo;exact hgo.1
  refine⟨?_,by show j+1-(i+1)<_;omega⟩
  show Sort.scanUp _ d j i=Sort.scanUp _ d j (i+1)
  conv=>lhs;rw[Sort.scanUp]
  rw[bj hgo]
 ·intro i hgo
  show Sort.scanUp _ d j i=i
  rw[Sort.scanUp,bW (by rw[hgo];exact Bool.false_ne_true)]
theorem Gf (p n cc a i j:Nat)(x y:ae)(c:Int):aT 212 [10,0,1] 0 99 [0,1,4,12,13] [vL p 0 n cc,vI a,fR,vI i,vI j]
 ((rp 4 (.bool (fM i j)) true (.idx j n j::aP (fM i j) true:: .mem (aD p (0+j*1)) x::(rp 3 (.bool (fM i j)) true (.idx a n a::aP (fM i j) true:: .mem (aD p (0+a*1)) y::gp::aP (fM i j) true:: .bM fR [x,y] (vI c)::(rp 3 (.bool (fM i j)) true ([aP (!(cO c 0)) true])))))))
 .normal [0,1,4,12,13] [vL p 0 n cc,vI a,fR,vI i,vI (bQ j 1)]:=dc
theorem Ge (p n cc a i j:Nat)(x y:ae)(c:Int):aT 212 [10,0,1] 0 99 [0,1,4,12,13] [vL p 0 n cc,vI a,fR,vI i,vI j]
 ((rp 4 (.bool (fM i j)) true (.idx j n j::aP (fM i j) true:: .mem (aD p (0+j*1)) x::(rp 3 (.bool (fM i j)) true (.idx a n a::aP (fM i j) true:: .mem (aD p (0+a*1)) y::gp::aP (fM i j) true:: .bM fR [x,y] (vI c)::(rp 3 (.bool (fM i j)) true ([aP (!(cO c 0)) false])))))))
 (.exit 8) [0,1,4,12,13] [vL p 0 n cc,vI a,fR,vI i,vI j]:=dc
theorem xB (p n cc a i j:Nat):aT 212 [10,0,1] 0 99 [0,1,4,12,13] [vL p 0 n cc,vI a,fR,vI i,vI j]
 ((rp 9 (.bool (fM i j)) false (gp::(rp 4 (.bool (fM i j)) false ([dx])))))
 (.exit 8) [0,1,4,12,13] [vL p 0 n cc,vI a,fR,vI i,vI j]:=dc
theorem Ir {K:fZ}{B:Nat->Prop}{p n cc:Nat}{rest:List ae}{m:Mem}{d:Array El}(h:Sv B p n rest m d)(hn:n<90000){a i j:Nat}(ha:a<n)(h1:1<=i)(hj:j<n){tm:Tm}(hg:bu [0,1,4,12,13] tm=[vL p 0 n cc,vI a,fR,vI i,vI j]):
  ∃cV m',vB K (eY 212) (bX 212 [10,0,1]) 100000 ⟨tm,m,[]⟩ (.exit 8) ⟨cV,m',[]⟩/\bu [0,1,4,12,13] cV=[vL p 0 n cc,vI a,fR,vI i,vI (Sort.scanDown (fun x=>!cT x d[a]!) d i j:Int)]/\Kp m m' fu/\Sv B p n rest m' d:=by
 suffices H:∃cV m',vB K (eY 212) (bX 212 [10,0,1]) 100000 ⟨tm,m,[]⟩ (.exit 8) ⟨cV,m',[]⟩/\bu [0,1,4,12,13] cV=(fun j:Nat=>[vL p 0 n cc,vI a,fR,vI i,vI (if j<n then j else 0:Nat)]) ((fun j=>if j<n then Sort.scanDown (fun x=>!cT x d[a]!) d i j else j) j)/\Kp m m' fu/\Sv B p n rest m' d by
  obtain⟨t,m',r1,r2,r3,r4⟩:=H;simp only[bj hj,bj (Nat.lt_of_le_of_lt (Sort.scanDown_le _ _ _ _) hj)]at r2;exact⟨t,m',r1,r2,r3,r4⟩
 refine rY (fun j:Nat=>[vL p 0 n cc,vI a,fR,vI i,vI (if j<n then j else 0:Nat)]) (fun j=>decide (i<=j)&&decide (j<n)&&!cT d[j]! d[a]!) (· -1) (fun j=>if j<n then Sort.scanDown (fun x=>!cT x d[a]!) d i j else j) (fun j=>j) g8 ?_ ?_ ?_ ?_ (i:=j) ai (by simp only[bj hj];exact hg) h
 ·intro j tm m hgo hg h;simp only[ag,iB,Bool.not_eq_true']at hgo;obtain⟨⟨jq,hj⟩,hl⟩:=hgo;rw[bj hj]at hg;obtain⟨c,m2,e2,k2,s2,hc⟩:=h.cmp (K:=K) (i:=j) (j:=a);have g:=h.gd;obtain⟨t2,cN,cz⟩:=aI oI (Gf p n cc a i j d[j]!.1 d[a]!.1 c) hg (.rp (dT fW)<| .idx rfl ai<| .cond (dT fW)<| .mem h.ld<| .rp (dT fW)<| .idx rfl ai<| .cond (dT fW)<| .mem h.ld<| .mem (aK ft)<| .cond (dT fW)<| .bM e2<| .rp (dT fW)<| .cond (bT (by rw[hc,hl];rfl))<| .nil);rw[show bQ j 1=((j-1:Nat):Int)from kj (j:=1) ai]at cz;exact⟨t2,m2,cN,by rw[bj (show j-1<n by omega)];exact cz,k2,s2⟩
 ·intro j tm m hgo hg h;have g:=h.gd
  by_cases hj:j<n
  ·rw[bj hj]at hg⊢
   by_cases jq:i<=j
   ·obtain⟨c,m2,e2,k2,s2,hc⟩:=h.cmp (K:=K) (i:=j) (j:=a);have hl:cT d[j]! d[a]! =true:=by simpa[jq,hj]using hgo
    obtain⟨t2,cN,cz⟩:=aI oI (Ge p n cc a i j d[j]!.1 d[a]!.1 c) hg (.rp (dT fW)<| .idx rfl ai<| .cond (dT fW)<| .mem h.ld<| .rp (dT fW)<| .idx rfl ai<| .cond (dT fW)<| .mem h.ld<| .mem (aK ft)<| .cond (dT fW)<| .bM e2<| .rp (dT fW)<| .cond (bF (by rw[hc,hl];rfl))<| .nil);exact⟨t2,m2,cN,cz,k2,s2⟩
   ·obtain⟨t2,cN,cz⟩:=aI (K:=K) (m:=m) (m':=m) oI (xB p n cc a i j) hg (.rp (dF fW)<| .mem (aK ft)<| .rp (dF fW)<| .cond rfl<| .nil);exact⟨t2,m,cN,cz,.refl _ _,h⟩
  ·rw[bW hj]at hg⊢;obtain⟨t2,cN,cz⟩:=aI (K:=K) (m:=m) (m':=m) oI (xB p n cc a i 0) hg (.rp (dF fW)<| .mem (aK ft)<| .rp (dF fW)<| .cond rfl<| .nil);exact⟨t2,m,cN,cz,.refl _ _,h⟩
 ·intro j hgo;simp only[ag,iB]at hgo;obtain⟨⟨jq,hj⟩,hl⟩:=hgo;obtain⟨j,rfl⟩:∃k,j=k+1:=⟨j-1,ai⟩;refine⟨?_,by show j+1-1<_;omega⟩
  show(if j+1<n then _ else _)=(if j<n then _ else _)
  rw[bj hj,bj (show j<n by omega),Sort.scanDown,bj (by rw[AA jq];exact hl)];rfl
 ·intro j hgo
  show(if j<n then _ else _)=_
  split
  ·rename_i hj;cases j with
   |zero=>rfl
   |succ j=>
    rw[AA hj,Bool.and_true]at hgo;rw[Sort.scanDown,bW (by rw[hgo];exact Bool.false_ne_true)]
  ·rfl
theorem aee (p n cc a b q:Nat)(x y:ae):dJ 212 0 3 [0,1,2,3,4] [vL p 0 n cc,vI a,vI b,vI q,fR]
 [.idx q n q,
  .mem (aD p (0+q*1)) y,
  .idx a n a,
  .mem (aD p (0+a*1)) x,
  .idx a n a,
  gp,
  .mem (eH p (0+a*1) y) undef,
  .idx q n q,
  gp,
  .mem (eH p (0+q*1) x) undef]
 .normal [0,1,4,12,13] [vL p 0 n cc,vI a,fR,vI (bL a 1),vI (bQ b 1)]:=dc
theorem aeb (p n cc a i j:Nat)(x y:ae):dJ 212 5 99 [0,1,4,12,13] [vL p 0 n cc,vI a,fR,vI i,vI j]
 [aP (nV i j) true,
  .idx a n a,
  .mem (aD p (0+a*1)) y,
  .idx j n j,
  .mem (aD p (0+j*1)) x,
  .idx j n j,
  gp,
  .mem (eH p (0+j*1) y) undef,
  .idx a n a,
  gp,
  .mem (eH p (0+a*1) x) undef]
 .ret [10,11] [vI j,.bool true]:=dc
theorem aea (p n cc a i j:Nat)(x y:ae):dJ 212 5 10 [0,1,4,12,13] [vL p 0 n cc,vI a,fR,vI i,vI j]
 [aP (nV i j) false,
  .idx j n j,
  .mem (aD p (0+j*1)) y,
  .idx i n i,
  .mem (aD p (0+i*1)) x,
  .idx i n i,
  gp,
  .mem (eH p (0+i*1) y) undef,
  .idx j n j,
  gp,
  .mem (eH p (0+j*1) x) undef]
 .normal [0,1,4,12,13] [vL p 0 n cc,vI a,fR,vI (bL i 1),vI (bQ j 1)]:=dc
theorem aed (p n cc a i j:Nat):aT 212 [10,0] 2 99 [0,1,4,12,13] [vL p 0 n cc,vI a,fR,vI i,vI j]
 [aP (nV i j) true]
 (.exit 4) [0,1,4,12,13] [vL p 0 n cc,vI a,fR,vI i,vI j]:=dc
theorem aec (p n cc a i j:Nat)(x y:ae):aT 212 [10,0] 2 99 [0,1,4,12,13] [vL p 0 n cc,vI a,fR,vI i,vI j]
 [aP (nV i j) false,
  .idx j n j,
  .mem (aD p (0+j*1)) y,
  .idx i n i,
  .mem (aD p (0+i*1)) x,
  .idx i n i,
  gp,
  .mem (eH p (0+i*1) y) undef,
  .idx j n j,
  gp,
  .mem (eH p (0+j*1) x) undef]
 .normal [0,1,4,12,13] [vL p 0 n cc,vI a,fR,vI (bL i 1),vI (bQ j 1)]:=dc
theorem ad9 (p n cc a j:Nat)(x y:ae):dJ 212 11 99 [0,1,13] [vL p 0 n cc,vI a,vI j]
 [.idx a n a,
  .mem (aD p (0+a*1)) y,
  .idx j n j,
  .mem (aD p (0+j*1)) x,
  .idx j n j,
  gp,
  .mem (eH p (0+j*1) y) undef,
  .idx a n a,
  gp,
  .mem (eH p (0+a*1) x) undef]
 .ret [10,11] [vI j,.bool false]:=dc
section
variable {K:fZ}{B:Nat->Prop}{p n cc:Nat}{rest:List ae}{m m':Mem}{d:Array El}
theorem alI (h:Sv B p n rest m d)(hn:n<90000){a b q:Nat}(w7:a<b)(hb:b<=n)(hq:q<n):
  ∃m',Ev K 212 [vL p 0 n cc,vI a,vI b,vI q,fR] m (.tuple #[vI ((Sort.partition cT d a b q).1:Int),.bool (Sort.partition cT d a b q).2.1]) m'/\Kp m m' (fun y=>y=p)/\Sv B p n rest m' (Sort.partition cT d a b q).2.2:=by
 have g:=h.gd;obtain⟨m1,m2,e1,g1,e2,k2,s2⟩:=h.swap (i:=a) (j:=q);obtain⟨t0,w0,e0⟩:=aR (K:=K) (tm:=entry [vL p 0 n cc,vI a,vI b,vI q,fR]) (aee p n cc a b q d[a]!.1 d[q]!.1) rfl (.idx rfl ai<| .mem h.ld<| .idx rfl ai<| .mem h.ld<| .idx rfl ai<| .mem (aK ft)<| .mem e1<| .idx rfl ai<| .mem (aK ft)<| .mem e2<| .nil);rw[dI,show bQ b 1=((b-1:Nat):Int)from kj (j:=1) ai]at e0;unfold Sort.partition;simp only[];generalize Sort.swp d a q=d1 at*;obtain⟨ta,ma,xa,ga,ka,sa⟩:=aaC (K:=K) s2 hn ai ai e0;have hi2:=Sort.scanUp_ge (fun x=>cT x d1[a]!) d1 (b-1) (a+1);generalize Sort.scanUp (fun x=>cT x d1[a]!) d1 (b-1) (a+1)=i at*;obtain⟨tb,mb,xb,gb,kb,sb⟩:=aaB (K:=K) sa hn ai ai ai ga;have hj2:=Sort.scanDown_le (fun x=>!cT x d1[a]!) d1 i (b-1);generalize Sort.scanDown (fun x=>!cT x d1[a]!) d1 i (b-1)=j at*;have gg:=sb.gd;have tV:=(k2.aZ ka).aZ kb;have lead:∀e st,aA K (eY 212) (bN 212) 5 ⟨tb,mb,[]⟩ e st->aA K (eY 212) (bN 212) 0 ⟨entry [vL p 0 n cc,vI a,vI b,vI q,fR],m,[]⟩ e st:=fun e st k=>aA.cut w0 (aA.fw xa (aA.fw xb k))
 by_cases jq:i>j
 ·rw[bj jq];obtain⟨m3,m4,e3,g3,e4,k4,s4⟩:=sb.swap (i:=j) (j:=a);obtain⟨t2,w2,g2⟩:=aR (aeb p n cc a i j d1[j]!.1 d1[a]!.1) gb (.cond (dT qP)<| .idx rfl ai<| .mem sb.ld<| .idx rfl ai<| .mem sb.ld<| .idx rfl ai<| .mem (aK ft)<| .mem e3<| .idx rfl ai<| .mem (aK ft)<| .mem e4<| .nil);exact⟨m4,eB (vs:=[vI j,.bool true]) YZ (lead _ _ (aA.last w2 EW)) (.inr rfl) g2,tV.trans k4 fun _ _ h=>h,s4⟩
 rw[bW jq];obtain⟨m3,m4,e3,g3,e4,k4,s4⟩:=sb.swap (i:=i) (j:=j);obtain⟨tc,wc,gc⟩:=aR (aea p n cc a i j d1[i]!.1 d1[j]!.1) gb (.cond (dF qP)<| .idx rfl ai<| .mem sb.ld<| .idx rfl ai<| .mem sb.ld<| .idx rfl ai<| .mem (aK ft)<| .mem e3<| .idx rfl ai<| .mem (aK ft)<| .mem e4<| .nil);rw[dI,show bQ j 1=((j-1:Nat):Int)from kj (j:=1) ai]at gc;generalize hr:Sort.partLoop cT a (i+1) (j-1) (Sort.swp d1 i j)=r;obtain⟨e,t1,m5,he,hx,rfl,hv,hrn,k5,s5⟩:=jx (K:=K) (nt:=eY 212) (a:=bX 212 [10])
  (Inv:=fun k tm m'=>∃(d':Array El) (i j:Nat),1<=i/\j<n/\k=j+1-i/\bu [0,1,4,12,13] tm=[vL p 0 n cc,vI a,fR,vI i,vI j]/\Kp m m' (fun y=>y=p)/\Sv B p n rest m' d'/\Sort.partLoop cT a i j d'=r)
  (dm:=fun e tm m'=>e= .exit 4/\bu [0,1,13] tm=[vL p 0 n cc,vI a,vI r.1]/\r.1<n/\Kp m m' (fun y=>y=p)/\Sv B p n rest m' r.2)
  (by
   rintro k tm m1 ⟨d',i,j,hi,hj,rfl,hg,k1,s1,hd⟩;obtain⟨ta,ma,xa,ga,ka,sa⟩:=Is (K:=K) s1 hn ai hj hg;have hi2:=Sort.scanUp_ge (fun x=>cT x d'[a]!) d' j i;rw[Sort.partLoop]at hd;generalize Sort.scanUp (fun x=>cT x d'[a]!) d' j i=i2 at*;obtain⟨tb,mb,xb,gb,kb,sb⟩:=Ir (K:=K) sa hn ai ai hj ga;have hj2:=Sort.scanDown_le (fun x=>!cT x d'[a]!) d' i2 j;generalize Sort.scanDown (fun x=>!cT x d'[a]!) d' i2 j=j2 at*;have gg:=sb.gd;have tV:=(k1.aZ ka).aZ kb
   by_cases jq:i2>j2
   ·rw[bj jq]at hd;obtain⟨t2,w2,g2⟩:=aR (K:=K) (m:=mb) (m':=mb) (aed p n cc a i2 j2) gb (.cond (dT qP)<| .nil);have g3:bu [0,1,13] t2=[vL p 0 n cc,vI a,vI j2]:=by
     simp only[bu,List.map_cons,List.map_nil,List.cons.injEq,and_true]at g2⊢;exact⟨g2.1,g2.2.1,g2.2.2.2.2⟩
    exact .inr ⟨.exit 4,t2,mb,g8,(aA.MS Dq Dm (aA.fw xa (aA.fw xb (aA.last w2 (af aU)))) rfl aU).code I2,rfl,by rw[g3,<-hd],by rw[<-hd];show j2<n;omega,tV,by rw[<-hd];exact sb⟩
   ·rw[bW jq,dif_pos ai]at hd;obtain⟨m3,m4,e3,g3,e4,k4,s4⟩:=sb.swap (i:=i2) (j:=j2);obtain⟨t2,w2,g2⟩:=aR (aec p n cc a i2 j2 d'[i2]!.1 d'[j2]!.1) gb (.cond (dF qP)<| .idx rfl ai<| .mem sb.ld<| .idx rfl ai<| .mem sb.ld<| .idx rfl ai<| .mem (aK ft)<| .mem e3<| .idx rfl ai<| .mem (aK ft)<| .mem e4<| .nil);rw[dI,show bQ j2 1=((j2-1:Nat):Int)from kj (j:=1) ai]at g2;exact .inl ⟨_,t2,m4,ai,(aA.sG Dq Dm (aA.fw xa (aA.fw xb (aA.last w2 (af aU)))) (.inl rfl) (aA.done (af aU))).code I2,_,i2+1,j2-1,ai,ai,rfl,g2,tV.trans k4 fun _ _ h=>h,s4,hd⟩)
  (n:=j-1+1-(i+1)) (k:=100000) (tm:=tc) (m:=m4) ⟨_,i+1,j-1,ai,ai,rfl,gc,tV.trans k4 fun _ _ h=>h,s4,hr⟩ ai
 have g5:=s5.gd;obtain⟨m6,m7,e6,g6,e7,k7,s7⟩:=s5.swap (i:=r.1) (j:=a);obtain⟨t2,w2,g2⟩:=aR (ad9 p n cc a r.1 r.2[r.1]!.1 r.2[a]!.1) hv (.idx rfl ai<| .mem s5.ld<| .idx rfl ai<| .mem s5.ld<| .idx rfl ai<| .mem (aK ft)<| .mem e6<| .idx rfl ai<| .mem (aK ft)<| .mem e7<| .nil);exact⟨m7,eB (vs:=[vI r.1,.bool false]) YZ (lead _ _ (aA.cut wc (aA.fw hx (aA.last w2 EW)))) (.inr rfl) g2,k5.trans k7 fun _ _ h=>h,s7⟩
end
end Go.AM
namespace Go.AM
set_option maxRecDepth 1000000
open Go Go.Conc Go.Proofs
theorem afN (p n cc a b gq:Nat)(wb wp:Bool):aT 152 [2,0] 0 99 [0,1,2,3,4,10,11] [vL p 0 n cc,vI a,vI b,vI gq,fR,.bool wb,.bool wp]
 [aP (fM (bQ b a) 12) true,
  .call 205 [vL p 0 n cc,vI a,vI b,fR] (.tuple #[])]
 .ret [] []:=dc
theorem afM (p n cc a b gq:Nat)(wb wp:Bool):aT 152 [2,0] 0 99 [0,1,2,3,4,10,11] [vL p 0 n cc,vI a,vI b,vI gq,fR,.bool wb,.bool wp]
 [aP (fM (bQ b a) 12) false,
  aP (ie gq 0) true,
  .call 206 [vL p 0 n cc,vI a,vI b,fR] (.tuple #[])]
 .ret [] []:=dc
theorem afL (p n cc a b gq:Nat)(wb wp:Bool):aT 152 [2,0] 0 7 [0,1,2,3,4,10,11] [vL p 0 n cc,vI a,vI b,vI gq,fR,.bool wb,.bool wp]
 [aP (fM (bQ b a) 12) false,
  aP (ie gq 0) false,
  aP (!wb) true,
  .call 207 [vL p 0 n cc,vI a,vI b,fR] (.tuple #[])]
 .normal [0,1,2,3,4,10,11,12] [vL p 0 n cc,vI a,vI b,vI (bQ gq 1),fR,.bool wb,.bool wp,vI (bQ b a)]:=dc
theorem afK (p n cc a b gq:Nat)(wb wp:Bool):aT 152 [2,0] 0 7 [0,1,2,3,4,10,11] [vL p 0 n cc,vI a,vI b,vI gq,fR,.bool wb,.bool wp]
 [aP (fM (bQ b a) 12) false,
  aP (ie gq 0) false,
  aP (!wb) false]
 .normal [0,1,2,3,4,10,11,12] [vL p 0 n cc,vI a,vI b,vI gq,fR,.bool wb,.bool wp,vI (bQ b a)]:=dc
theorem afJ (p n cc a b gq l:Nat)(wb wp:Bool)(q h:Nat):aT 152 [2,0] 7 10 [0,1,2,3,4,10,11,12] [vL p 0 n cc,vI a,vI b,vI gq,fR,.bool wb,.bool wp,vI l]
 [.call 208 [vL p 0 n cc,vI a,vI b,fR] (.tuple #[vI q,vI h]),
  aP (ie h 2) true,
  .call 209 [vL p 0 n cc,vI a,vI b,fR] (.tuple #[])]
 .normal [0,1,2,3,4,10,11,12,13,14] [vL p 0 n cc,vI a,vI b,vI gq,fR,.bool wb,.bool wp,vI l,vI (bQ (bQ b 1) (bQ q a)),vI 1]:=dc
theorem afI (p n cc a b gq l:Nat)(wb wp:Bool)(q h:Nat):aT 152 [2,0] 7 10 [0,1,2,3,4,10,11,12] [vL p 0 n cc,vI a,vI b,vI gq,fR,.bool wb,.bool wp,vI l]
 [.call 208 [vL p 0 n cc,vI a,vI b,fR] (.tuple #[vI q,vI h]),
  aP (ie h 2) false]
 .normal [0,1,2,3,4,10,11,12,13,14] [vL p 0 n cc,vI a,vI b,vI gq,fR,.bool wb,.bool wp,vI l,vI q,vI h]:=dc
theorem afH (p n cc a b gq l q h:Nat)(wb wp:Bool)(z:Bool):aT 152 [2,0] 10 12 [0,1,2,3,4,10,11,12,13,14] [vL p 0 n cc,vI a,vI b,vI gq,fR,.bool wb,.bool wp,vI l,vI q,vI h]
 (aP wb true::aP wb true::(rp 3 (.bool wp) true ([aP (ie h 1) true,
  .call 210 [vL p 0 n cc,vI a,vI b,fR] (.bool z),
  aP z false])))
 .normal [0,1,2,3,4,10,11,12,13] [vL p 0 n cc,vI a,vI b,vI gq,fR,.bool wb,.bool wp,vI l,vI q]:=dc
theorem afG (p n cc a b gq l q h:Nat)(wb wp:Bool)(z:Bool):aT 152 [2,0] 10 99 [0,1,2,3,4,10,11,12,13,14] [vL p 0 n cc,vI a,vI b,vI gq,fR,.bool wb,.bool wp,vI l,vI q,vI h]
 (aP wb true::aP wb true::(rp 3 (.bool wp) true ([aP (ie h 1) true,
  .call 210 [vL p 0 n cc,vI a,vI b,fR] (.bool z),
  aP z true])))
 .ret [] []:=dc
theorem afF (p n cc a b gq l q h:Nat)(wb wp:Bool):aT 152 [2,0] 10 12 [0,1,2,3,4,10,11,12,13,14] [vL p 0 n cc,vI a,vI b,vI gq,fR,.bool wb,.bool wp,vI l,vI q,vI h]
 (aP wb false::aP wb false::(rp 4 (.bool false) false ([])))
 .normal [0,1,2,3,4,10,11,12,13] [vL p 0 n cc,vI a,vI b,vI gq,fR,.bool wb,.bool wp,vI l,vI q]:=dc
theorem afE (p n cc a b gq l q h:Nat)(wb wp:Bool):aT 152 [2,0] 10 12 [0,1,2,3,4,10,11,12,13,14] [vL p 0 n cc,vI a,vI b,vI gq,fR,.bool wb,.bool wp,vI l,vI q,vI h]
 (aP wb true::aP wb true::(rp 3 (.bool wp) false ([dx])))
 .normal [0,1,2,3,4,10,11,12,13] [vL p 0 n cc,vI a,vI b,vI gq,fR,.bool wb,.bool wp,vI l,vI q]:=dc
theorem afD (p n cc a b gq l q h:Nat)(wb wp:Bool):aT 152 [2,0] 10 12 [0,1,2,3,4,10,11,12,13,14] [vL p 0 n cc,vI a,vI b,vI gq,fR,.bool wb,.bool wp,vI l,vI q,vI h]
 (aP wb true::aP wb true::(rp 3 (.bool wp) true ([aP (ie h 1) false])))
 .normal [0,1,2,3,4,10,11,12,13] [vL p 0 n cc,vI a,vI b,vI gq,fR,.bool wb,.bool wp,vI l,vI q]:=dc
theorem afC (p n cc a b gq l q a1:Nat)(wb wp:Bool):aT 152 [2,0] 12 14 [0,1,2,3,4,10,11,12,13] [vL p 0 n cc,vI a,vI b,vI gq,fR,.bool wb,.bool wp,vI l,vI q]
 ((rp 10 (.bool (nV a 0)) false (gp::(rp 4 (.bool (nV a 0)) false ([dx])))))
 .normal [0,1,2,3,4,10,11,12,13] [vL p 0 n cc,vI a,vI b,vI gq,fR,.bool wb,.bool wp,vI l,vI q]:=dc
theorem afB (p n cc a b gq l q a1:Nat)(wb wp:Bool)(x y:ae)(c:Int):aT 152 [2,0] 12 14 [0,1,2,3,4,10,11,12,13] [vL p 0 n cc,vI a,vI b,vI gq,fR,.bool wb,.bool wp,vI l,vI q]
 ((rp 5 (.bool (nV a 0)) true (.idx (bQ a 1) n a1::aP (nV a 0) true:: .mem (aD p (0+a1*1)) x::(rp 3 (.bool (nV a 0)) true (.idx q n q::aP (nV a 0) true:: .mem (aD p (0+q*1)) y::gp::aP (nV a 0) true:: .bM fR [x,y] (vI c)::(rp 3 (.bool (nV a 0)) true ([aP (!(cO c 0)) false])))))))
 .normal [0,1,2,3,4,10,11,12,13] [vL p 0 n cc,vI a,vI b,vI gq,fR,.bool wb,.bool wp,vI l,vI q]:=dc
theorem afA (p n cc a b gq l q a1:Nat)(wb wp:Bool)(x y:ae)(c:Int)(q2:Nat):aT 152 [2,0] 12 99 [0,1,2,3,4,10,11,12,13] [vL p 0 n cc,vI a,vI b,vI gq,fR,.bool wb,.bool wp,vI l,vI q]
 ((rp 5 (.bool (nV a 0)) true (.idx (bQ a 1) n a1::aP (nV a 0) true:: .mem (aD p (0+a1*1)) x::(rp 3 (.bool (nV a 0)) true (.idx q n q::aP (nV a 0) true:: .mem (aD p (0+q*1)) y::gp::aP (nV a 0) true:: .bM fR [x,y] (vI c)::(rp 3 (.bool (nV a 0)) true ([aP (!(cO c 0)) true,
  .call 211 [vL p 0 n cc,vI a,vI b,vI q,fR] (vI q2)])))))))
 (.exit 1) [0,1,2,3,4,10,11] [vL p 0 n cc,vI q2,vI b,vI gq,fR,.bool wb,.bool wp]:=dc
theorem afz (p n cc a b gq l q ll l8:Nat)(wb wp ap:Bool):aT 152 [2,0] 14 99 [0,1,2,3,4,10,11,12,13] [vL p 0 n cc,vI a,vI b,vI gq,fR,.bool wb,.bool wp,vI l,vI q]
 [.call 212 [vL p 0 n cc,vI a,vI b,vI q,fR] (.tuple #[vI ll,.bool ap]),
  .val (ik Nat.div .i64 l 8 (gE ab .quo 3 false true (vI l) (vI 8))) (vI l8),
  aP (cO (bQ ll a) (bQ b ll)) true,
  .call 152 [vL p 0 n cc,vI a,vI ll,vI gq,fR] (.tuple #[])]
 .normal [0,1,2,3,4,10,11] [vL p 0 n cc,vI (bL ll 1),vI b,vI gq,fR,.bool (gU (bQ ll a) l8),.bool ap]:=dc
theorem afy (p n cc a b gq l q ll l8:Nat)(wb wp ap:Bool):aT 152 [2,0] 14 99 [0,1,2,3,4,10,11,12,13] [vL p 0 n cc,vI a,vI b,vI gq,fR,.bool wb,.bool wp,vI l,vI q]
 [.call 212 [vL p 0 n cc,vI a,vI b,vI q,fR] (.tuple #[vI ll,.bool ap]),
  .val (ik Nat.div .i64 l 8 (gE ab .quo 3 false true (vI l) (vI 8))) (vI l8),
  aP (cO (bQ ll a) (bQ b ll)) false,
  .call 152 [vL p 0 n cc,vI (bL ll 1),vI b,vI gq,fR] (.tuple #[])]
 .normal [0,1,2,3,4,10,11] [vL p 0 n cc,vI a,vI ll,vI gq,fR,.bool (gU (bQ b ll) l8),.bool ap]:=dc
theorem afx (p n cc a b gq:Nat):dJ 152 0 2 [0,1,2,3,4] [vL p 0 n cc,vI a,vI b,vI gq,fR]
 []
 .normal [0,1,2,3,4,10,11] [vL p 0 n cc,vI a,vI b,vI gq,fR,.bool true,.bool true]:=dc
theorem o0:iu (bX 152 [2]) 0=some (1,(bX 152 [2,0])):=aU
theorem oZ:jA (eY 152) (bX 152 [2]) (bX 152 [2,0]) 0 1=true:=aU
theorem aaX {d d1 d2:Array El}{a b gq pH q:Nat}{wb wp:Bool}{c:Nat×Sort.Hint}{h:Sort.Hint}{pi:Array El×Bool}(KJ:¬b-a<=12)(h0:¬gq=0)
  (e1:d1=if !wb then Sort.breakPatterns d a b else d)(e2:pH=if !wb then gq-1 else gq)(e3:c=Sort.choosePivot cT d1 a b)(e4:d2=if c.2= .decreasing then Sort.reverseRange d1 a b else d1)
  (e5:q=if c.2= .decreasing then(b-1)-(c.1-a)else c.1)(e6:h=if c.2= .decreasing then Sort.Hint.increasing else c.2)(e7:pi=if wb&&wp&&h= .increasing then Sort.partialInsertionSort cT d2 a b else(d2,false)):
  Sort.pdq cT d a b gq wb wp=(if pi.2 then pi.1 else
   if a>0&&!cT pi.1[a-1]! pi.1[q]! then
    if _h:a<(Sort.partitionEqual cT pi.1 a b q).1/\(Sort.partitionEqual cT pi.1 a b q).1<=b then Sort.pdq cT (Sort.partitionEqual cT pi.1 a b q).2 (Sort.partitionEqual cT pi.1 a b q).1 b pH wb wp else(Sort.partitionEqual cT pi.1 a b q).2
   else
    if _h:a<=(Sort.partition cT pi.1 a b q).1/\(Sort.partition cT pi.1 a b q).1<b then
     if(Sort.partition cT pi.1 a b q).1-a<b-(Sort.partition cT pi.1 a b q).1 then
      Sort.pdq cT (Sort.pdq cT (Sort.partition cT pi.1 a b q).2.2 a (Sort.partition cT pi.1 a b q).1 pH true true) ((Sort.partition cT pi.1 a b q).1+1) b pH (decide ((Sort.partition cT pi.1 a b q).1-a≥(b-a) / 8)) (Sort.partition cT pi.1 a b q).2.1
     else
      Sort.pdq cT (Sort.pdq cT (Sort.partition cT pi.1 a b q).2.2 ((Sort.partition cT pi.1 a b q).1+1) b pH true true) a (Sort.partition cT pi.1 a b q).1 pH (decide (b-(Sort.partition cT pi.1 a b q).1≥(b-a) / 8)) (Sort.partition cT pi.1 a b q).2.1
    else(Sort.partition cT pi.1 a b q).2.2):=by
 subst e1 e2 e3 e4 e5 e6 e7;rw[Sort.pdq,bW KJ,bW h0]
theorem Gr {d:Array El}{a b q:Nat}(h1:a<b)(hb:b<=d.size):a<(Sort.partitionEqual cT d a b q).1/\(Sort.partitionEqual cT d a b q).1<=b:=by
 obtain⟨r1,r2,_⟩:=Sort.partEqLoop_spec (lt:=cT) a b _ (a+1) (b-1) (Sort.swp d a q) (aj _) ai ai ai (by rw[Sort.size_swp];exact hb) (fun t _ _=>by omega) (fun t _ _=>by omega);exact⟨r1,r2⟩
theorem Lx {d:Array El}{a b q:Nat}(h1:a<b)(hb:b<=d.size):a<=(Sort.partition cT d a b q).1/\(Sort.partition cT d a b q).1<b:=by
 obtain⟨r1,r2,_⟩:=Sort.partLoop_spec (lt:=cT) a b _ (a+1) (b-1) (Sort.swp d a q) (aj _) ai ai ai (by rw[Sort.size_swp];exact hb) (fun t _ _=>by omega) (fun t _ _=>by omega);rw[Sort.partition_fst];exact⟨r1,r2⟩
section
variable {K:fZ}{B:Nat->Prop}{p n cc:Nat}{rest:List ae}{m m':Mem}{d:Array El}
theorem al9 (h:Sv B p n rest m d)(hn:n<65536){a b gq:Nat}{wb wp:Bool}(hb:b<=n)(hB:∀b,B b->b<m.next)(KJ:¬b-a<=12)(h0:¬gq=0)(hl:gq<2^59){tm:Tm}(hg:bu [0,1,2,3,4,10,11] tm=[vL p 0 n cc,vI a,vI b,vI gq,fR,.bool wb,.bool wp]):
  ∃t m2 d1 pH,vC K (eY 152) (vu (bX 152 [2,0]) 0 7) ⟨tm,m,[]⟩ .normal ⟨t,m2,[]⟩/\bu [0,1,2,3,4,10,11,12] t=[vL p 0 n cc,vI a,vI b,vI (pH:Nat),fR,.bool wb,.bool wp,vI (b-a:Nat)]/\Kp m m2 (fun y=>y=p)/\Sv B p n rest m2 d1/\
   d1=(if !wb then Sort.breakPatterns d a b else d)/\pH=if !wb then gq-1 else gq:=by
 have e1:bQ b a=((b-a:Nat):Int):=kj ai;have c1:(.bool (fM (bQ b a) 12):ae)= .bool false:=by rw[e1];exact dF (fW (j:=12))
 have c2:(.bool (ie gq 0):ae)= .bool false:=by rw[a8];exact bF (yA ai)
 cases wb with
 |false=>
  obtain⟨m2,e2,k2,s2⟩:=alN (K:=K) (cc:=cc) h hn (a:=a) (b:=b) ai hb hB;obtain⟨t,w,g⟩:=aR (afL p n cc a b gq false wp) hg (.cond c1<| .cond c2<| .cond rfl<| .call e2<| .nil);rw[e1,show bQ gq 1=((gq-1:Nat):Int)from kj (j:=1) ai]at g;exact⟨t,m2,_,_,w,g,k2,s2,rfl,rfl⟩
 |true=>
  obtain⟨t,w,g⟩:=aR (K:=K) (m:=m) (m':=m) (afK p n cc a b gq true wp) hg (.cond c1<| .cond c2<| .cond rfl<| .nil);rw[e1]at g;exact⟨t,m,_,_,w,g,.refl _ _,h,rfl,rfl⟩
theorem al5 (h:Sv B p n rest m d)(hn:n<65536){a b gq l:Nat}{wb wp:Bool}(w7:a<b)(hb:b<=n)(hB:∀b,B b->b<m.next){tm:Tm}(hg:bu [0,1,2,3,4,10,11,12] tm=[vL p 0 n cc,vI a,vI b,vI gq,fR,.bool wb,.bool wp,vI l]):
  ∃t m2 d2 q hh,vC K (eY 152) (vu (bX 152 [2,0]) 7 10) ⟨tm,m,[]⟩ .normal ⟨t,m2,[]⟩/\bu [0,1,2,3,4,10,11,12,13,14] t=[vL p 0 n cc,vI a,vI b,vI gq,fR,.bool wb,.bool wp,vI l,vI (q:Nat),vI (uf hh:Nat)]/\Kp m m2 (fun y=>y=p)/\Sv B p n rest m2 d2/\q<n/\
   d2=(if(Sort.choosePivot cT d a b).2= .decreasing then Sort.reverseRange d a b else d)/\q=(if(Sort.choosePivot cT d a b).2= .decreasing then(b-1)-((Sort.choosePivot cT d a b).1-a)else(Sort.choosePivot cT d a b).1)/\
   hh=if(Sort.choosePivot cT d a b).2= .decreasing then Sort.Hint.increasing else(Sort.choosePivot cT d a b).2:=by
 obtain⟨m2,e2,k2,s2,hc⟩:=alM (K:=K) (cc:=cc) h ai hb w7 hB;obtain⟨r1,r2⟩:=Sort.choosePivot_holds cT d a b w7;generalize Sort.choosePivot cT d a b=c at*;obtain⟨c,ht⟩:=c;simp only[]at r1 r2 e2 hc⊢
 by_cases hd:ht= .decreasing
 ·obtain⟨m3,e3,k3,s3⟩:=alL (K:=K) (cc:=cc) s2 ai (a:=a) (b:=b) hb ai ai;obtain⟨t,w,g⟩:=aR (afJ p n cc a b gq l wb wp c (uf ht)) hg (.call e2<| .cond (by rw[hd];rfl)<| .call e3<| .nil);rw[show bQ b 1=((b-1:Nat):Int)from kj (j:=1) ai,show bQ c a=((c-a:Nat):Int)from kj r1,kj ai]at g;rw[bj hd,bj hd,bj hd];exact⟨t,m3,_,_,_,w,g,k2.vl.trans k3 fun _ _ h=>h,s3,ai,rfl,rfl,rfl⟩
 ·obtain⟨t,w,g⟩:=aR (afI p n cc a b gq l wb wp c (uf ht)) hg (.call e2<| .cond (by rw[a8];exact bF (yA (by cases ht<;>first |exact absurd rfl hd|decide)))<| .nil);rw[bW hd,bW hd,bW hd];exact⟨t,m2,_,_,_,w,g,k2.vl,s2,hc,rfl,rfl,rfl⟩
theorem aiz (h:Sv B p n rest m d)(hn:n<65536){a b gq l q:Nat}{wb wp:Bool}{hh:Sort.Hint}(w7:a<b)(hb:b<=n){tm:Tm}(hg:bu [0,1,2,3,4,10,11,12,13,14] tm=[vL p 0 n cc,vI a,vI b,vI gq,fR,.bool wb,.bool wp,vI l,vI q,vI (uf hh:Nat)]):
  ∃t m2 pi,Kp m m2 (fun y=>y=p)/\Sv B p n rest m2 pi.1/\pi=(if wb&&wp&&hh= .increasing then Sort.partialInsertionSort cT d a b else(d,false))/\
   ((pi.2=true/\aA K (eY 152) (bX 152 [2,0]) 10 ⟨tm,m,[]⟩ .ret ⟨t,m2,[]⟩)\/(pi.2=false/\vC K (eY 152) (vu (bX 152 [2,0]) 10 12) ⟨tm,m,[]⟩ .normal ⟨t,m2,[]⟩/\bu [0,1,2,3,4,10,11,12,13] t=[vL p 0 n cc,vI a,vI b,vI gq,fR,.bool wb,.bool wp,vI l,vI q])):=by
 cases wb with
 |false=>
  obtain⟨t,w,g⟩:=aR (K:=K) (m:=m) (m':=m) (afF p n cc a b gq l q (uf hh) false wp) hg (.cond rfl<| .cond rfl<| .rp rfl<| .nil);exact⟨t,m,(d,false),.refl _ _,h,rfl,.inr ⟨rfl,w,g⟩⟩
 |true=>
  cases wp with
  |false=>
   obtain⟨t,w,g⟩:=aR (K:=K) (m:=m) (m':=m) (afE p n cc a b gq l q (uf hh) true false) hg (.cond rfl<| .cond rfl<| .rp rfl<| .cond rfl<| .nil);exact⟨t,m,(d,false),.refl _ _,h,rfl,.inr ⟨rfl,w,g⟩⟩
  |true=>
   by_cases hi:hh= .increasing
   ·obtain⟨m2,e2,k2,s2⟩:=alK (K:=K) (cc:=cc) h ai w7 hb;have c1:(.bool (ie (uf hh:Int) 1):ae)= .bool true:=by rw[hi];rfl
    cases hz:(Sort.partialInsertionSort cT d a b).2 with
    |true=>
     obtain⟨t,w,g⟩:=aR (afG p n cc a b gq l q (uf hh) true true (Sort.partialInsertionSort cT d a b).2) hg (.cond rfl<| .cond rfl<| .rp rfl<| .cond c1<| .call e2<| .cond (bT hz)<| .nil);exact⟨t,m2,_,k2,s2,by rw[hi];rfl,.inl ⟨hz,aA.last w (af aU)⟩⟩
    |false=>
     obtain⟨t,w,g⟩:=aR (afH p n cc a b gq l q (uf hh) true true (Sort.partialInsertionSort cT d a b).2) hg (.cond rfl<| .cond rfl<| .rp rfl<| .cond c1<| .call e2<| .cond (bF hz)<| .nil);exact⟨t,m2,_,k2,s2,by rw[hi];rfl,.inr ⟨hz,w,g⟩⟩
   ·obtain⟨t,w,g⟩:=aR (K:=K) (m:=m) (m':=m) (afD p n cc a b gq l q (uf hh) true true) hg (.cond rfl<| .cond rfl<| .rp rfl<| .cond (by rw[a8];exact bF (yA (by cases hh<;>first |exact absurd rfl hi|decide)))<| .nil);exact⟨t,m,(d,false),.refl _ _,h,by simp[hi],.inr ⟨rfl,w,g⟩⟩
theorem alV:∀(N:Nat) {m:Mem}{d:Array El}{a b gq:Nat},b-a<=N->Sv B p n rest m d->n<65536->a<=b->b<=n->gq<2^59->(∀b,B b->b<m.next)->
  ∃m',Ev K 152 [vL p 0 n cc,vI a,vI b,vI gq,fR] m (.tuple #[]) m'/\Kp m m' (fun y=>y=p)/\Sv B p n rest m' (Sort.pdq cT d a b gq true true):=by
 intro N
 induction N using Nat.strongRecOn with
 |ind N ih=>
 intro m d a b gq hN h hn w7 hb akJ hB;obtain⟨t0,w0,e0⟩:=aR (K:=K) (m:=m) (m':=m) (tm:=entry [vL p 0 n cc,vI a,vI b,vI gq,fR]) (afx p n cc a b gq) rfl .nil;generalize hr:Sort.pdq cT d a b gq true true=r;obtain⟨e,t1,m3,he,hx,rfl,k3,s3⟩:=jx (K:=K) (nt:=eY 152) (a:=bX 152 [2])
  (Inv:=fun k tm m'=>∃(d':Array El) (a' b' LU:Nat) (wb wp:Bool),k=b'-a'/\a'<=b'/\b'<=n/\b'-a'<=N/\LU<2^59/\bu [0,1,2,3,4,10,11] tm=[vL p 0 n cc,vI a',vI b',vI LU,fR,.bool wb,.bool wp]/\Kp m m' (fun y=>y=p)/\Sv B p n rest m' d'/\Sort.pdq cT d' a' b' LU wb wp=r)
  (dm:=fun e tm m'=>e= .ret/\Kp m m' (fun y=>y=p)/\Sv B p n rest m' r)
  (by
   rintro k tm m1 ⟨d',a',b',LU,wb,wp,rfl,mn,gA,hN',Ag,hg,k1,s1,hd⟩;have hB1:∀b,B b->b<m1.next:=fun b hb=>by have :=hB b hb;have :=k1.next;omega
   have e1:bQ b' a'=((b'-a':Nat):Int):=kj ai
   by_cases KJ:b'-a'<=12
   ·obtain⟨m2,e2,k2,s2⟩:=alP (K:=K) (cc:=cc) s1 ai (a:=a') (b:=b') gA ai;obtain⟨t,w,g⟩:=aR (afN p n cc a' b' LU wb wp) hg (.cond (by rw[e1];exact dT (fW (j:=12)))<| .call e2<| .nil);rw[Sort.pdq,bj KJ]at hd;exact .inr ⟨.ret,t,m2,g8,(aA.wP o0 oZ (aA.last w (af aU)) aU).code r9,rfl,k1.trans k2 fun _ _ h=>h,by rw[<-hd];exact s2⟩
   have c1:(.bool (fM (bQ b' a') 12):ae)= .bool false:=by rw[e1];exact dF (fW (j:=12))
   by_cases h0:LU=0
   ·obtain⟨m2,e2,k2,s2⟩:=alO (K:=K) (cc:=cc) s1 ai (a:=a') (b:=b') ai gA;obtain⟨t,w,g⟩:=aR (afM p n cc a' b' LU wb wp) hg (.cond c1<| .cond (by rw[h0];rfl)<| .call e2<| .nil);rw[Sort.pdq,bW KJ,bj h0]at hd;exact .inr ⟨.ret,t,m2,g8,(aA.wP o0 oZ (aA.last w (af aU)) aU).code r9,rfl,k1.trans k2 fun _ _ h=>h,by rw[<-hd];exact s2⟩
   obtain⟨ta,ma,d1,pH,wa,ga,ka,sa,Uj,Qe⟩:=al9 (K:=K) s1 hn gA hB1 KJ h0 Ag hg;have hBa:∀b,B b->b<ma.next:=fun b hb=>by have :=hB1 b hb;have :=ka.next;omega
   obtain⟨tb,mb,d2,q,hh,wbb,gb,kb,sb,hq,KH,hqq,hhh⟩:=al5 (K:=K) sa hn ai gA hBa ga;obtain⟨tc,mc,pi,kc,sc,hpi,th⟩:=aiz (K:=K) sb hn ai gA gb;have kk:=((k1.trans ka fun _ _ h=>h).trans kb fun _ _ h=>h).trans kc fun _ _ h=>h
   rw[aaX KJ h0 Uj Qe rfl KH hqq hhh hpi]at hd;have T8:pH<2^59:=by rw[Qe];split<;>omega
   rcases th with⟨VB,wc⟩|⟨VB,wc,gc⟩
   ·rw[bj VB]at hd;exact .inr ⟨.ret,tc,mc,g8,(aA.wP o0 oZ (aA.cut wa (aA.cut wbb wc)) aU).code r9,rfl,kk,by rw[<-hd];exact sc⟩
   rw[bW (by rw[VB];exact Bool.false_ne_true)]at hd
   left
   have go:∀{e st},aA K (eY 152) (bX 152 [2,0]) 12 ⟨tc,mc,[]⟩ e st->aA K (eY 152) (bX 152 [2,0]) 0 ⟨tm,m1,[]⟩ e st:=fun k=>aA.cut wa (aA.cut wbb (aA.cut wc k))
   have gcm:=sc.gd;have ig:=sc.sz;have pick:(∃t m2,aA K (eY 152) (bX 152 [2,0]) 12 ⟨tc,mc,[]⟩ (.exit 1) ⟨t,m2,[]⟩/\bu [0,1,2,3,4,10,11] t=[vL p 0 n cc,vI ((Sort.partitionEqual cT pi.1 a' b' q).1:Int),vI b',vI pH,fR,.bool wb,.bool wp]/\Kp mc m2 (fun y=>y=p)/\Sv B p n rest m2 (Sort.partitionEqual cT pi.1 a' b' q).2/\(decide (a'>0)&&!cT pi.1[a'-1]! pi.1[q]!)=true)\/
     (∃t m2,vC K (eY 152) (vu (bX 152 [2,0]) 12 14) ⟨tc,mc,[]⟩ .normal ⟨t,m2,[]⟩/\bu [0,1,2,3,4,10,11,12,13] t=[vL p 0 n cc,vI a',vI b',vI pH,fR,.bool wb,.bool wp,vI (b'-a':Nat),vI q]/\Kp mc m2 fu/\Sv B p n rest m2 pi.1/\(decide (a'>0)&&!cT pi.1[a'-1]! pi.1[q]!)=false):=by
    by_cases h0:a'>0
    ·obtain⟨c,m2,e2,k2,s2,hc⟩:=sc.cmp (K:=K) (i:=a'-1) (j:=q);have ea:bQ a' 1=((a'-1:Nat):Int):=kj (j:=1) ai;cases hl:cT pi.1[a'-1]! pi.1[q]! with
     |true=>
      obtain⟨t,w,g⟩:=aR (afB p n cc a' b' pH (b'-a') q (a'-1) wb wp pi.1[a'-1]!.1 pi.1[q]!.1 c) gc (.rp (dT (qP (j:=0)))<| .idx ea ai<| .cond (dT (qP (j:=0)))<| .mem sc.ld<| .rp (dT (qP (j:=0)))<| .idx rfl ai<| .cond (dT (qP (j:=0)))<| .mem sc.ld<| .mem (aK ft)<| .cond (dT (qP (j:=0)))<| .bM e2<| .rp (dT (qP (j:=0)))<| .cond (bF (by rw[hc,hl];rfl))<| .nil);exact .inr ⟨t,m2,w,g,k2,s2,du⟩
     |false=>
      obtain⟨m3,e3,k3,s3⟩:=alJ (K:=K) (cc:=cc) s2 ai (a:=a') (b:=b') ai gA hq;obtain⟨t,w,g⟩:=aR (afA p n cc a' b' pH (b'-a') q (a'-1) wb wp pi.1[a'-1]!.1 pi.1[q]!.1 c _) gc (.rp (dT (qP (j:=0)))<| .idx ea ai<| .cond (dT (qP (j:=0)))<| .mem sc.ld<| .rp (dT (qP (j:=0)))<| .idx rfl ai<| .cond (dT (qP (j:=0)))<| .mem sc.ld<| .mem (aK ft)<| .cond (dT (qP (j:=0)))<| .bM e2<| .rp (dT (qP (j:=0)))<| .cond (bT (by rw[hc,hl];rfl))<| .call e3<| .nil);exact .inl ⟨t,m3,aA.last w (af aU),g,k2.vl.trans k3 fun _ _ h=>h,s3,by simp[h0]⟩
    ·obtain⟨t,w,g⟩:=aR (K:=K) (m:=mc) (m':=mc) (afC p n cc a' b' pH (b'-a') q 0 wb wp) gc (.rp (dF (qP (j:=0)))<| .mem (aK ft)<| .rp (dF (qP (j:=0)))<| .cond rfl<| .nil);exact .inr ⟨t,mc,w,g,.refl _ _,sc,by simp[h0]⟩
   rcases pick with⟨td,md,wd,gd,kd,sd,hif⟩|⟨td,md,wd,gd,kd,sd,hif⟩
   ·obtain⟨r1,r2⟩:=Gr (d:=pi.1) (q:=q) (show a'<b' by omega) ai;rw[bj hif,dif_pos ⟨r1,r2⟩]at hd;exact⟨_,td,md,ai,(aA.sG o0 oZ (go wd) (.inr rfl) (aA.done (af aU))).code r9,_,_,b',pH,wb,wp,rfl,r2,gA,ai,T8,gd,kk.trans kd fun _ _ h=>h,sd,hd⟩
   ·obtain⟨r1,r2⟩:=Lx (d:=pi.1) (q:=q) (show a'<b' by omega) ai;rw[bW (by rw[hif];exact Bool.false_ne_true),dif_pos ⟨r1,r2⟩]at hd;obtain⟨me,ee,ke,se⟩:=alI (K:=K) (cc:=cc) sd ai (a:=a') (b:=b') ai gA hq;have hBe:∀b,B b->b<me.next:=fun b hb=>by have :=hBa b hb;have :=kb.next;have :=kc.next;have :=kd.next;have :=ke.next;omega
    generalize Sort.partition cT pi.1 a' b' q=P at*;obtain⟨ll,ap,d4⟩:=P;simp only[]at r1 r2 hd ee se;have f1:bQ ll a'=((ll-a':Nat):Int):=kj r1;have f2:bQ b' ll=((b'-ll:Nat):Int):=kj ai;have f3:∀x,ik Nat.div .i64 (b'-a':Nat) 8 x=some (vI (((b'-a') / 8:Nat):Int)):=fun x=>Si ai (j:=8) ai
    have ke':=(kk.aZ kd).trans ke fun _ _ h=>h
    by_cases hm:ll-a'<b'-ll
    ·rw[bj hm]at hd;obtain⟨mf,ef,kf,sf⟩:=ih (ll-a') ai (d:=d4) (a:=a') (b:=ll) (gq:=pH) (aj _) se hn r1 ai T8 hBe;obtain⟨t,w,g⟩:=aR (afz p n cc a' b' pH (b'-a') q ll ((b'-a') / 8) wb wp ap) gd (.call ee<| .val (f3 _)<| .cond (by rw[f1,f2];exact dT gF)<| .call ef<| .nil);rw[dI,f1,je]at g;exact⟨_,t,mf,ai,(aA.sG o0 oZ (go (aA.cut wd (aA.last w (af aU)))) (.inl rfl) (aA.done (af aU))).code r9,_,ll+1,b',pH,_,ap,rfl,ai,gA,ai,T8,g,ke'.trans kf fun _ _ h=>h,sf,hd⟩
    ·rw[bW hm]at hd;obtain⟨mf,ef,kf,sf⟩:=ih (b'-(ll+1)) ai (d:=d4) (a:=ll+1) (b:=b') (gq:=pH) (aj _) se hn ai ai T8 hBe;obtain⟨t,w,g⟩:=aR (afy p n cc a' b' pH (b'-a') q ll ((b'-a') / 8) wb wp ap) gd (.call ee<| .val (f3 _)<| .cond (by rw[f1,f2];exact dF gF)<| .call (by rw[dI];exact ef)<| .nil);rw[f2,je]at g;exact⟨_,t,mf,ai,(aA.sG o0 oZ (go (aA.cut wd (aA.last w (af aU)))) (.inl rfl) (aA.done (af aU))).code r9,_,a',ll,pH,_,ap,rfl,r1,ai,ai,T8,g,ke'.trans kf fun _ _ h=>h,sf,hd⟩)
  (n:=b-a) (k:=100000) (tm:=t0) (m:=m) ⟨d,a,b,gq,true,true,rfl,w7,hb,hN,akJ,e0,.refl _ _,h,hr⟩ ai
 exact⟨m3,eB (vs:=[]) Y4 (aA.cut w0 (aA.Co Ob Oc hx aU)) (.inr rfl) rfl,k3,s3⟩
end
end Go.AM
namespace Go.AM
set_option maxRecDepth 1000000
open Go Go.Conc Go.Proofs
structure rM {α:Type}(f:α->α->Int):Prop where
 eq:∀{x y},f x y=0↔x=y
 QQ:∀{x y},f x y<0->0<f y x
 At:∀{x y},0<f x y->f y x<0
 trans:∀{x y z},f x y<0->f y z<0->f x z<0
theorem Ht:rM sC:=⟨by intros;unfold sC;split<;>(try split)<;>omega,by intro x y;unfold sC;split<;>(try split)<;>(try split)<;>(try split)<;>omega,by intro x y;unfold sC;split<;>(try split)<;>(try split)<;>(try split)<;>omega,by intro x y z;unfold sC;split<;>(try split)<;>(try split)<;>(try split)<;>(try split)<;>(try split)<;>omega⟩
theorem Dp:∀x:List UInt8,Op.bytesLess x x=false
 | []=>rfl
 |a::x=>by simp[Op.bytesLess,Dp x]
theorem O3:∀{x y z:List UInt8},Op.bytesLess x y=true->Op.bytesLess y z=true->Op.bytesLess x z=true
 |_,[],_,h,_=>by simp[Op.bytesLess]at h
 |_,_::_,[],_,h=>by simp[Op.bytesLess]at h
 | [],_::_,_::_,_,_=>rfl
 |a::x,b::y,c::z,h1,h2=>by
  simp only[Op.bytesLess,Bool.or_eq_true,iB,ag,beq_iff_eq,UInt8.lt_iff_toNat_lt]at h1 h2⊢;rcases h1 with h1|⟨rfl,h1⟩
  ·rcases h2 with h2|⟨rfl,h2⟩
   ·exact .inl ai
   ·exact .inl h1
  ·rcases h2 with h2|⟨rfl,h2⟩
   ·exact .inl h2
   ·exact .inr ⟨rfl,O3 h1 h2⟩
theorem U2:∀{x y:List UInt8},Op.bytesLess x y=false->Op.bytesLess y x=false->x=y
 | [],[],_,_=>rfl
 | [],_::_,h,_=>by simp[Op.bytesLess]at h
 |_::_,[],_,h=>by simp[Op.bytesLess]at h
 |a::x,b::y,h1,h2=>by
  simp only[Op.bytesLess,Bool.or_eq_false_iff,decide_eq_false_iff_not,UInt8.lt_iff_toNat_lt]at h1 h2;have e:a=b:=UInt8.toNat_inj.1 ai;subst e;rw[U2 (x:=x) (y:=y) (by simpa using h1.2) (by simpa using h2.2)]
theorem Yj:rM Da:=by
 have e:∀{a b:ByteArray},(a.toList==b.toList)=true↔a=b:=fun{a b}=>by
  rw[beq_iff_eq,ByteArray.toList_eq,ByteArray.toList_eq];exact⟨fun h=>by cases a;cases b;simp_all [Array.toList_inj],fun h=>by rw[h]⟩
 refine⟨fun{x y}=>?_,fun{x y} h=>?_,fun{x y} h=>?_,fun{x y z} h k=>?_⟩
 ·unfold Da
  split
  ·rename_i h;exact⟨fun h=>(by cases h),fun k=>(by rw[k,Dp]at h;cases h)⟩
  ·rename_i h;rw[Bool.not_eq_true]at h;rw[h,Bool.false_or]
   split
   ·rename_i k;exact⟨fun _=>e.1 k,fun _=>rfl⟩
   ·rename_i k;exact⟨fun h=>(by cases h),fun q=>absurd (e.2 q) k⟩
 ·unfold Da at h⊢
  split at h
  ·rename_i h1;rw[bW (fun h2=>by have :=O3 h1 h2;rw[Dp]at this;cases this),bW (fun h2=>?_)]
   ·decide
   ·rw[Bool.or_eq_true]at h2;rcases h2 with h2|h2
    ·have :=O3 h1 h2;rw[Dp]at this;cases this
    ·rw[e.1 h2,Dp]at h1;cases h1
  ·split at h<;>exact absurd h eS
 ·unfold Da at h⊢
  split at h
  ·exact absurd h eS
  ·rename_i h1
   split at h
   ·exact absurd h eS
   ·rename_i h2;rw[Bool.or_eq_true,not_or]at h2;rw[bj]
    ·decide
    ·cases hb:Op.bytesLess y.toList x.toList with
     |true=>rfl
     |false=>exact absurd (beq_iff_eq.2 (U2 (Bool.not_eq_true _▸h1) hb)) h2.2
 ·unfold Da at h k⊢
  split at h
  ·rename_i h1
   split at k
   ·rename_i k1;rw[bj (O3 h1 k1)];decide
   ·split at k<;>exact absurd k eS
  ·split at h<;>exact absurd h eS
def lex {α β:Type}(f:α->α->Int)(g:β->β->Int)(x y:α×β):Int:=if f x.1 y.1≠0 then f x.1 y.1 else g x.2 y.2
theorem rM.refl{α:Type}{f:α->α->Int}(hf:rM f){x:α}:f x x=0:=hf.eq.2 rfl
theorem rM.lex{α β:Type}{f:α->α->Int}{g:β->β->Int}(hf:rM f)(hg:rM g):rM (AM.lex f g):=by
 refine⟨fun{x y}=>?_,fun{x y} h=>?_,fun{x y} h=>?_,fun{x y z} h k=>?_⟩
 ·unfold AM.lex
  split
  ·rename_i h;exact⟨fun k=>absurd k h,fun k=>absurd (hf.eq.2 (by rw[k])) h⟩
  ·rename_i h;rw[ne_eq,Decidable.not_not]at h;exact⟨fun k=>Prod.ext (hf.eq.1 h) (hg.eq.1 k),fun k=>hg.eq.2 (by rw[k])⟩
 ·unfold AM.lex at h⊢
  split at h
  ·have :=hf.QQ h;rw[bj ai];exact this
  ·rename_i e;rw[ne_eq,Decidable.not_not]at e;rw[bW (by rw[ne_eq,Decidable.not_not];exact hf.eq.2 (hf.eq.1 e).symm)];exact hg.QQ h
 ·unfold AM.lex at h⊢
  split at h
  ·have :=hf.At h;rw[bj ai];exact this
  ·rename_i e;rw[ne_eq,Decidable.not_not]at e;rw[bW (by rw[ne_eq,Decidable.not_not];exact hf.eq.2 (hf.eq.1 e).symm)];exact hg.At h
 ·unfold AM.lex at h k⊢
  split at h
  ·split at k
   ·have :=hf.trans h k;rw[bj ai];exact this
   ·rename_i e;rw[ne_eq,Decidable.not_not]at e;rw[<-hf.eq.1 e,bj ai];exact h
  ·rename_i e;rw[ne_eq,Decidable.not_not]at e;rw[hf.eq.1 e]
   split at k
   ·rw[bj ai];exact k
   ·rename_i e2;rw[bW e2];exact hg.trans h k
theorem rM.pull{α β:Type}{f:β->β->Int}(hf:rM f){i:α->β}(hi:∀x y,i x=i y->x=y):rM fun x y=>f (i x) (i y):=
 ⟨fun{x y}=>⟨fun h=>hi _ _ (hf.eq.1 h),fun h=>hf.eq.2 (by rw[h])⟩,fun h=>hf.QQ h,fun h=>hf.At h,fun h k=>hf.trans h k⟩
theorem oR:rM wJ:=by
 have h:=((Ht.lex (Ht.lex (Yj.lex Ht))).pull (α:=V) (i:=fun v=>(v.k,v.n,v.s,vF v.b)) fun x y e=>by
  obtain⟨a,b,c,d⟩:=x;obtain⟨a',b',c',d'⟩:=y;simp only[au]at e;obtain⟨rfl,rfl,rfl,e⟩:=e;have :d=d':=by cases d<;>cases d'<;>first |rfl|cases e
  rw[this])
 have e:wJ=fun x y=>AM.lex sC (AM.lex sC (AM.lex Da sC)) (x.k,x.n,x.s,vF x.b) (y.k,y.n,y.s,vF y.b):=by
  funext x y
  simp only[wJ,WB,AM.lex]
  split
  ·rfl
  ·split
   ·rfl
   ·split
    ·rfl
    ·split
     ·rfl
     ·rename_i h;rw[ne_eq,Decidable.not_not]at h;exact h.symm
 rw[e];exact h
theorem gn:∀{x y:List V},bP x y=0↔x=y
 | [],[]=>by simp[bP]
 | [],_::_=>by simp[bP]
 |_::_,[]=>by simp[bP]
 |a::x,b::y=>by
  unfold bP
  split
  ·rename_i h;exact⟨fun k=>absurd k h,fun k=>absurd (oR.eq.2 (by cases k;rfl)) h⟩
  ·rename_i h;rw[ne_eq,Decidable.not_not]at h;rw[gn,oR.eq.1 h];simp
theorem uo:∀{x y:List V},(bP x y<0->0<bP y x)/\(0<bP x y->bP y x<0)
 | [],[]=>by simp[bP]
 | [],_::_=>by simp[bP]
 |_::_,[]=>by simp[bP]
 |a::x,b::y=>by
  have a1:=oR.QQ (x:=a) (y:=b);have a2:=oR.At (x:=a) (y:=b);have a3:wJ a b=0->wJ b a=0:=fun h=>oR.eq.2 (oR.eq.1 h).symm
  obtain⟨r1,r2⟩:=uo (x:=x) (y:=y);simp only[bP]
  split
  ·rw[bj ai];omega
  ·rw[bW ai];exact⟨r1,r2⟩
theorem oS:∀{x y z:List V},bP x y<0->bP y z<0->bP x z<0
 | [],[],_,h,_=>by simp[bP]at h
 |_::_,[],_,h,_=>by simp[bP]at h
 |_,_::_,[],_,h=>by simp[bP]at h
 | [],_::_,_::_,_,_=>by simp[bP]
 |a::x,b::y,c::z,h,k=>by
  simp only[bP]at h k⊢
  split at h
  ·split at k
   ·have :=oR.trans h k;rw[bj ai];exact this
   ·rename_i e;rw[ne_eq,Decidable.not_not]at e;rw[<-oR.eq.1 e,bj ai];exact h
  ·rename_i e;rw[ne_eq,Decidable.not_not]at e;rw[oR.eq.1 e]
   split at k
   ·rw[bj ai];exact k
   ·rename_i e2;rw[bW e2];exact oS h k
theorem jV:rM bP:=⟨gn,uo.1,uo.2,oS⟩
theorem aiH:Sort.SWO cT:=by
 have e:∀x y,cT x y=decide (bP x.2 y.2<0):=fun x y=>fG _ _
 refine⟨fun x=>?_,fun x y z h k=>?_,fun x y z h k=>?_⟩
 ·rw[e,jV.refl];rfl
 ·rw[e,iB]at*;exact oS h k
 ·rw[e,decide_eq_false_iff_not]at*;intro q;have q':=jV.QQ q;have r1:bP y.2 x.2<=0:=by
   rcases Int.lt_or_le 0 (bP y.2 x.2)with r|r
   ·exact absurd (jV.At r) h
   ·exact r
  have r2:bP z.2 y.2<=0:=by
   rcases Int.lt_or_le 0 (bP z.2 y.2)with r|r
   ·exact absurd (jV.At r) k
   ·exact r
  rcases Int.lt_or_eq_of_le r1 with r1|r1
  ·rcases Int.lt_or_eq_of_le r2 with r2|r2
   ·have :=oS r2 r1;omega
   ·rw[gn.1 r2]at q';omega
  ·rw[gn.1 r1]at h k;rw[<-gn.1 r1]at q;exact k (gn.1 r1▸q)
end Go.AM
namespace Go.AM
set_option maxRecDepth 1000000
open Go Go.Conc Go.Proofs
theorem agp (p n cc k:Nat):Path 116 [vL p 0 n cc,fR]
 [.val (pu ab [vI n] (convert 3 195 (vI n))) (.int .u64 n),
  .call 153 [.int .u64 n] (vI k),
  .call 152 [vL p 0 n cc,vI 0,vI n,vI k,fR] (.tuple #[])]
 (.tuple #[]):=lV
theorem adz {B:Nat->Prop}{m:Mem}:∀{l:List (List V)} {cs:List ae},cJ (fun x u=>cR.R B x m u/\okV 1 u) l cs->∃d:List El,d.map (·.1)=cs/\d.map (·.2)=l/\∀x∈d,cR.R B x.2 m x.1
 | [],cs,h=>⟨[],h.symm,rfl,fun x hx=>by cases hx⟩
 |x::l,cs,h=>by
  obtain⟨u,rest,rfl,⟨q,_⟩,h⟩:=h;obtain⟨d,e1,e2,e3⟩:=adz h;obtain⟨b,c,rfl,q'⟩:=q;exact⟨(vL b 0 x.length c,x)::d,by rw[List.map_cons,e1];rfl,by rw[List.map_cons,e2],fun y hy=>by
   rcases aL.1 hy with rfl|hy
   ·exact⟨b,c,rfl,q'⟩
   ·exact e3 y hy⟩
theorem Su (dl:List El):((Sort.pdq cT dl.toArray 0 dl.length (Sort.bitsLen dl.length) true true).toList.map (·.2)).Perm (dl.map (·.2))/\((Sort.pdq cT dl.toArray 0 dl.length (Sort.bitsLen dl.length) true true).toList.map (·.2)).Pairwise fun x y=>bP x y<=0:=by
 have akA:=Sort.pdq_holds Sort.insertionSort_holds Sort.heapSort_holds Sort.partialInsertionSort_holds (Sort.partition_holds _) (Sort.partitionEqual_holds _) Sort.reverseRange_holds aiH dl.toArray 0 dl.length (Sort.bitsLen dl.length) true true (Nat.zero_le _) du (.inl rfl);generalize Sort.pdq cT dl.toArray 0 dl.length (Sort.bitsLen dl.length) true true=d' at*;obtain⟨⟨hz,_,mj⟩,sP⟩:=akA;have Om:d'.size=dl.length:=by simpa using hz
 have mj:d'.toList.Perm dl:=by
  rw[show d'.extract 0 dl.length=d' by rw[<-Om];simp,show dl.toArray.extract 0 dl.length=dl.toArray by simp]at mj;simpa using mj
 refine⟨mj.map _,?_⟩;rw[List.pairwise_iff_getElem];intro i j hi hj jq;rw[List.getElem_map,List.getElem_map];have Ej:i<d'.size:=by simpa using hi
 have qO:j<d'.size:=by simpa using hj
 have :=sP i j (Nat.zero_le _) jq ai;rw[getElem!_pos d' j qO,getElem!_pos d' i Ej]at this;have h2:¬bP (d'[j]).2 (d'[i]).2<0:=by
  have :decide (bP (d'[j]).2 (d'[i]).2<0)=false:=by rw[<-this];exact(fG _ _).symm
  simpa using this
 rcases Int.lt_or_le 0 (bP d'.toList[i].2 d'.toList[j].2)with r|r
 ·exact absurd (jV.At r) (by simpa using h2)
 ·exact r
section
variable {K:fZ}{m:Mem}
theorem Z4 (g:Gd m){B:Nat->Prop}{l:List (List V)}{p cc:Nat}{cs rest:List ae}(ob:Obj m p 1 (cs++rest))(hp:¬B p)(h3:cJ (fun x u=>cR.R B x m u/\okV 1 u) l cs)(hw:Own m p)(hn:l.length<65536)(hl:∀x∈l,x.length<99999)(hB:∀b,B b->b<m.next):
  ∃d m',Ev K 116 [vL p 0 l.length cc,fR] m (.tuple #[]) m'/\Kp m m' (fun y=>y=p)/\Sv B p l.length rest m' d/\(d.toList.map (·.2)).Perm l/\(d.toList.map (·.2)).Pairwise fun x y=>bP x y<=0:=by
 obtain⟨dl,rfl,rfl,hd⟩:=adz h3;have xT:Sv B p dl.length rest m dl.toArray:=⟨g,ob,hw,du,hp,fun x hx=>⟨hd x (by simpa using hx),hl _ (List.mem_map.2 ⟨x,by simpa using hx,rfl⟩)⟩⟩;have hlen:(dl.map (·.2)).length=dl.length:=du;rw[hlen]at hn⊢;obtain⟨m1,e1,k1,s1⟩:=alV (K:=K) (cc:=cc) dl.length (gq:=Sort.bitsLen dl.length) (a:=0) (b:=dl.length) ai xT hn (Nat.zero_le _) (aj _) (Nat.lt_of_le_of_lt ((Sort.bitsLen_le_iff _ 16).2 hn) eS) hB;have ev:Ev K 116 [vL p 0 dl.length cc,fR] m (.tuple #[]) m1:=aY (agp p dl.length cc _) (.val (cvW ai (.inl rfl))<| .call (acX hn)<| .call e1 .nil);obtain⟨mj,sP⟩:=Su dl;exact⟨_,m1,ev,k1,s1,mj,sP⟩
end
theorem rW {l l':List (List V)}(h:l.Perm l')(h1:l.Pairwise fun x y=>bP x y<=0)(h2:l'.Pairwise fun x y=>bP x y<=0):l=l':=
 h.eq_of_pairwise (fun a b _ _ h1 h2=>by
  rcases Int.lt_or_eq_of_le h1 with h|h
  ·have :=jV.QQ h;omega
  ·exact gn.1 h) h1 h2
end Go.AM
namespace Go.AM
set_option maxRecDepth 1000000
open Go Go.Conc Go.Proofs
def mz {α:Type}(E:oD α)(sz:Nat)(BO BE:Nat->Prop)(m:Mem)(acc:List α)(sv:ae):Prop:=
 (acc=[]/\sv= .slice none 0 0)\/∃b cs rest,sv=vL b 0 acc.length cH/\(BO b/\¬BE b)/\Own m b/\Obj m b sz (cs++rest)/\cJ (fun x u=>E.R BE x m u/\okV sz u) acc cs
section
variable {α:Type}{E:oD α}{sz t n len b:Nat}{m0 m m1:Mem}{acc:List α}{sv v x:ae}{S BO BE QW B':Nat->Prop}{y:α}{old new rest:List ae}
theorem mz.ext(h:mz E sz BO BE m acc sv)(k:Kp m m1 S)(hS:∀b,BO b\/BE b->¬S b):mz E sz BO BE m1 acc sv:=by
 rcases h with h|⟨b,cs,rest,e,hb,hw,ob,gT⟩
 ·exact .inl h
 ·exact .inr ⟨b,cs,rest,e,hb,hw.ext k,ob.ext k (hS b (.inl hb.1)),gT.mono fun x u _ w=>⟨E.ext w.1 k fun y hy=>hS y (.inr hy),w.2⟩⟩
theorem mz.form(h:mz E sz BO BE m acc sv):∃a c,sv= .slice a acc.length c:=by
 rcases h with⟨rfl,rfl⟩|⟨b,cs,rest,rfl,_⟩<;>exact⟨_,_,rfl⟩
theorem mz.one(h:mz E sz BO BE m acc sv):lj sv=true:=by obtain⟨a,c,rfl⟩:=h.form;rfl
theorem mz.first(h:mz E sz BO BE m acc sv):∃cs,lR m sz acc.length sv=some cs/\GU sv=some acc.length/\cJ (fun x u=>E.R BE x m u/\okV sz u) acc cs:=by
 rcases h with⟨rfl,rfl⟩|⟨b,cs,rest,rfl,hb,hw,ob,gT⟩
 ·exact⟨[],rfl,rfl,rfl⟩
 ·have hl:=gT.one.1;refine⟨cs,?_,rfl,gT⟩
  show m.dK b 0 (acc.length*sz)=some cs
  exact jR ob (by simp[<-hl]) (by simp;omega)
theorem Kn (g:Gd m)(ht:sI.contains (t,sz)=true)(hf:lR m sz n x=some new)(hl:GU x=some n)(hlen:new.length=n*sz)(h1:∀y∈new,y.oneCell'=true)(hn:n≠0)(hb:n<=2^30):
  ∃m',cZ ab #[t,t] (.slice none 0 0) x m=some (vL m.next 0 n cH,m')/\Obj m' m.next sz new/\Kp m m' fu/\m'.next=m.next+1:=by
 obtain⟨e,h3,h4,h0,h5⟩:=sH ht;have lY:(new.all (·.oneCell'))=true:=aB.2 h1;have e0:lR m sz 0 (.slice none 0 0)=some []:=rfl;obtain⟨k1,k2,k3⟩:=gJ g (k:={kind:=1,sz:=sz,cs:=new.map some}) (cs:=new) rfl rfl rfl;refine⟨_,?_,k1,k2,k3⟩;unfold cZ;simp only[show(#[t,t]:Array aO)[0]?=some t from rfl,show(#[t,t]:Array aO)[1]?=some t from rfl,dq,h3,h4,hl,hf];rw[bW (by rw[h5 _ ai,hlen,lY];simp),bW eS,bW ai];simp only[e0,List.length_nil,Nat.zero_mul,if_true,List.nil_append,Nat.zero_add]
theorem Dt (g:Gd m)(ht:sI.contains (t,sz)=true)(ho:Obj m b sz (old++rest))(Qc:old.length=len*sz)(hw:Own m b)(hf:lR m sz n x=some new)(hl:GU x=some n)(hlen:new.length=n*sz)(h1:∀y∈new,y.oneCell'=true)(hb:len+n<=2^30):
  ∃m',cZ ab #[t,t] (vL b 0 len cH) x m=some (vL m.next 0 (len+n) cH,m')/\Obj m' m.next sz (old++new)/\Kp m m' (fun y=>y=b)/\m'.next=m.next+1:=by
 obtain⟨e,h3,h4,h0,h5⟩:=sH ht;have lY:(new.all (·.oneCell'))=true:=aB.2 h1;have htk:fU (((old++rest).map some).drop 0) (len*sz)=some old:=by
  rw[List.drop_zero,kh (by simp;omega),<-Qc];simp
 have g2:Gd (m.a9 b {}):=g.ext pO;obtain⟨k1,k2,k3⟩:=gJ g2 (k:={kind:=1,sz:=sz,cs:=(old++new).map some}) (cs:=old++new) rfl rfl rfl;refine⟨_,?_,k1,Kp.aZ pO k2,k3⟩;unfold cZ;simp only[show(#[t,t]:Array aO)[0]?=some t from rfl,show(#[t,t]:Array aO)[1]?=some t from rfl,dq,h3,h4,hl,hf];rw[bW (by rw[h5 _ ai,hlen,lY];simp),bj trivial];have pK:(((m.blk b).cs.drop 0).all (·.isSome))=true:=by rw[ho.cs];simp
 simp only[ho.kind,ho.sz,ho.cs]at pK⊢;rw[bj (by rw[pK,show m.fA b=true from hw];simp)];simp only[htk]
theorem Km (ht:sI.contains (t,sz)=true)(hf:lR m sz 0 x=some [])(hl:GU x=some 0):cZ ab #[t,t] (.slice none 0 0) x m=some (.slice none 0 0,m):=by
 obtain⟨e,h3,h4,h0,h5⟩:=sH ht;unfold cZ;simp only[show(#[t,t]:Array aO)[0]?=some t from rfl,show(#[t,t]:Array aO)[1]?=some t from rfl,dq,h3,h4,hl,hf];rw[bW (by rw[h5 _ ai];simp),bW eS,bj (aj _)]
theorem mz.add(h:mz E sz BO BE m acc sv)(g:Gd m)(ht:sI.contains (t,sz)=true)(hs6:sz<=6)(q:E.R B' y m v)(hd:∀b,BO b->¬B' b)(HW:∀b,BE b->b<m.next)(Re:∀b,B' b->b<m.next)(ov:okV sz v)(hl:acc.length<2^30):
  ∃m2 m3 s',bY ab t 1 [(0,v)] m=some (vL m.next 0 1 1,m2)/\Gd m2/\Kp m m2 fu/\cZ ab #[t,t] sv (vL m.next 0 1 1) m2=some (s',m3)/\Kp m m3 BO/\mz E sz (fun y=>y=m.next+1) (fun y=>BE y\/B' y) m3 (acc++[y]) s'/\(lj s'=true/\∃VN,s'=vL (m.next+1) 0 (acc.length+1) cH/\Obj m3 (m.next+1) sz VN/\cJ (fun x u=>E.R (fun y=>BE y\/B' y) x m3 u/\okV sz u) (acc++[y]) VN)/\m3.next=m.next+2:=by
 obtain⟨o2,k2,n2⟩:=gJ g (k:={kind:=1,sz:=sz,cs:=v.cells.toList.map some}) (cs:=v.cells.toList) rfl rfl rfl;obtain⟨m2,yC⟩:∃m2,m2=m.alloc {kind:=1,sz:=sz,cs:=v.cells.toList.map some}:=⟨_,rfl⟩;have e2:=bs1 (m:=m) ht ov.1 hs6;rw[<-yC]at e2 o2 k2 n2;have g2:=g.ext k2;have wY:mY m2 (vL m.next 0 1 1) sz 1 v.cells.toList:=o2.sl (by simp[ov.1]) (.inr rfl);have q2:=E.ext q k2 fun _ _ h=>h
 have oN:¬(BE m2.next\/B' m2.next):=fun h=>by
  rcases h with h|h
  ·have :=HW _ h;omega
  ·have :=Re _ h;omega
 rcases h with⟨rfl,rfl⟩|⟨b,cs,rest,rfl,hb,hw,ob,gT⟩
 ·obtain⟨m3,e3,o3,k3,n3⟩:=O5 g2 ht wY ov.2 eS eS;have hc:cJ (fun x u=>E.R (fun y=>BE y\/B' y) x m3 u/\okV sz u) ([]++[y]) v.cells.toList:=⟨v,[],du,⟨E.mono (E.ext q2 k3 fun _ _ h=>h) fun y hy=> .inr hy,ov⟩,rfl⟩;rw[n2]at o3 e3;refine⟨m2,m3,_,e2,g2,k2,e3,(k2.aZ k3).vl,.inr ⟨m.next+1,_,[],rfl,⟨rfl,n2▸oN⟩,g2.own k3 ai,by rw[List.append_nil];exact o3,hc⟩,⟨rfl,_,rfl,o3,hc⟩,ai⟩
 ·have ob2:=ob.cf k2;obtain⟨m3,e3,o3,k3,n3⟩:=Dt (len:=acc.length) g2 ht ob2 gT.one.1 (hw.ext k2) (kZ wY) wY.Mb wY.1 ov.2 ai;have KC:Kp m m3 (fun y=>y=b):=k2.vl.trans k3 fun _ _ h=>h
  have hc:cJ (fun x u=>E.R (fun y=>BE y\/B' y) x m3 u/\okV sz u) (acc++[y]) (cs++v.cells.toList):=cJ.snoc ⟨E.mono (E.ext q KC fun y hy e=>hd b hb.1 (e▸hy)) fun y hy=> .inr hy,ov⟩
   (gT.mono fun x u _ w=>⟨E.mono (E.ext w.1 KC fun y hy e=>hb.2 (e▸hy)) fun y hy=> .inl hy,w.2⟩)
  rw[n2]at o3 e3;refine⟨m2,m3,_,e2,g2,k2,e3,(k2.vl.trans (k3.mono fun y _ h=>by rw[h];exact hb.1) fun _ _ h=>h),.inr ⟨m.next+1,_,[],du,⟨rfl,n2▸oN⟩,g2.own k3 ai,by rw[List.append_nil];exact o3,hc⟩,⟨rfl,_,rfl,o3,hc⟩,ai⟩
theorem mz.iG(h:mz E sz BO BE m acc sv)(hE:E.DC)(s1:sJ BO m m1)(s2:sJ BE m m1)(ow:∀b,BO b->Own m1 b):mz E sz BO BE m1 acc sv:=by
 rcases h with h|⟨b,cs,rest,e,hb,hw,ob,gT⟩
 ·exact .inl h
 ·exact .inr ⟨b,cs,rest,e,hb,ow b hb.1,ob.og s1 hb.1,gT.mono fun x u _ w=>⟨hE _ _ _ _ _ w.1 s2,w.2⟩⟩
end
noncomputable def VQ(t:Nat):Bool:=match ab.underlying t with
 |some (.slice e)=>(match iw ab e,ep ab e with |some z,some s=>z.cells.size==s&&z.cells.toList.all (·.oneCell')|_,_=>false)
 |_=>false
theorem uG {t:Nat}(h:VQ t=true):∃e z s,ab.underlying t=some (.slice e)/\iw ab e=some z/\ep ab e=some s/\z.cells.size=s/\∀y∈z.cells.toList,y.oneCell'=true:=by
 unfold VQ at h
 split at h
 ·rename_i e he
  split at h
  ·rename_i z s hz hs;rw[ag,beq_iff_eq,aB]at h;exact⟨e,z,s,he,hz,hs,h.1,h.2⟩
  ·cases h
 ·cases h
structure Kin (fl go sh ga em t:Nat):Prop where
 Sw:∀(n cc:Nat) (a:Option Addr) (rv:ae),Path em [(.slice a n cc)] [.mem (j8 ab #[t] (.slice a n cc)) (.tuple #[]),.mem (lB ab t (.slice a n cc) none (some (vI 0))) rv] rv
 aa1:∀(d o fr to fs n cc:Nat) (cap:Array ae) (a:Option Addr) (sv:ae),uB (eY sh) (bN sh) 0 2 [0,1,2,3] [(vP d o),(vI (fr:Int)),(vI (to:Int)),(.func (.func fs) #[] cap)] [.mem (aD d o) (.slice a n cc),.call em [(.slice a n cc)] sv] .normal [0,2,3,8,9,10] [(vP d o),(vI (to:Int)),(.func (.func fs) #[] cap),sv,(vI 0),(vI (fr:Int))]
 aa0:∀(d o to i fs:Nat) (cap:Array ae) (sv RN:ae),uB (eY sh) (oJ (bN sh) [2]) 0 99 [0,2,3,8,9,10] [(vP d o),(vI (to:Int)),(.func (.func fs) #[] cap),sv,(vI 0),(vI (i:Int))] ((rp 3 (.bool (cO (i:Int) (to:Int))) true ([.cond (.bool true) true,.bM (.func (.func fs) #[] cap) [sv,(vI (i:Int))] (.tuple #[RN,(vI 0)])]))) .normal [0,2,3,8,9,10] [(vP d o),(vI (to:Int)),(.func (.func fs) #[] cap),RN,(vI 0),(vI (bL (i:Int) 1))]
 aaZ:∀(d o to i fs:Nat) (cap:Array ae) (sv:ae),uB (eY sh) (oJ (bN sh) [2]) 0 99 [0,2,3,8,9,10] [(vP d o),(vI (to:Int)),(.func (.func fs) #[] cap),sv,(vI 0),(vI (i:Int))] ((rp 3 (.bool (cO (i:Int) (to:Int))) false ([.cond (.bool false) false]))) (.exit 0) [0,8,9] [(vP d o),sv,(vI 0)]
 aaY:∀(d o n cc:Nat) (a:Option Addr),uB (eY sh) (bN sh) 3 99 [0,8,9] [(vP d o),(.slice a n cc),(vI 0)] [.mem (eH d o (.slice a n cc)) undef,.mem (eH d (o+1) (vI 0)) undef] .normal [] []
 aa6:∀(d q an ac bn bc:Nat) (aa ba:Option Addr),uB (eY ga) (bN ga) 0 3 [0] [(vP d q)] [.mem (aD d (q+8)) (.slice aa an ac),.call em [(.slice aa an ac)] (.slice ba bn bc),.mem (eH d (q+8) (.slice ba bn bc)) undef] .normal [0,13] [(vP d q),(vI 0)]
 aa3:∀(d q i:Nat),uB (eY ga) (oJ (bN ga) [3]) 0 99 [0,13] [(vP d q),(vI (i:Int))] [.cond (.bool (cO (i:Int) 4)) false] (.exit 0) [0] [(vP d q)]
 aa5:∀(d q i an ac bn bc rn rc:Nat) (aa ba ra:Option Addr),uB (eY ga) (oJ (bN ga) [3]) 0 99 [0,13] [(vP d q),(vI (i:Int))] [.cond (.bool (cO (i:Int) 4)) true,.idx (i:Int) 4 i,.mem (aD d (q+i*2+1)) (vI 0),.cond (.bool false) false,.mem (aD d (q+8)) (.slice aa an ac),.idx (i:Int) 4 i,.mem (aD d (q+i*2)) (.slice ba bn bc),.mem zT undef,.mem (cZ ab #[t,t] (.slice aa an ac) (.slice ba bn bc)) (.slice ra rn rc),.mem zT undef,.mem (eH d (q+8) (.slice ra rn rc)) undef] .normal [0,13] [(vP d q),(vI (bL (i:Int) 1))]
 aa2:∀(d q:Nat) (rv:ae),uB (eY ga) (bN ga) 4 99 [0] [(vP d q)] [.mem (aD d (q+8)) rv] .ret [2,3] [rv,(vI 0)]
 aba:∀(d q rows fs b3 b5 b8 x:Nat) (cap:Array ae),uB (eY fl) (bN fl) 0 4 [0,1,2] [(vP d q),(vI (rows:Int)),(.func (.func fs) #[] cap)] [.mem (lU [some (vP d q)]) (vP b3 0),.mem (lU [some (.func (.func fs) #[] cap)]) (vP b5 0),.mem (lU [some (.int .u64 0),some (.int .u32 0)]) (vP b8 0),.val (ik Nat.div .i64 (bQ (bL (rows:Int) 4) 1) 4 (gE ab .quo 3 false true (vI (bQ (bL (rows:Int) 4) 1)) (vI 4))) (vI (x:Int))] .normal [1,3,5,8,9,18] [(vI (rows:Int)),(vP b3 0),(vP b5 0),(vP b8 0),(vI (Q3 true (x:Int) 8)),(vI 0)]
 aa9:∀(rows b3 b5 b8 i bi bf bt:Nat) (size x:Int),uB (eY fl) (oJ (bN fl) [4]) 0 99 [1,3,5,8,9,18] [(vI (rows:Int)),(vP b3 0),(vP b5 0),(vP b8 0),(vI size),(vI (i:Int))] [.cond (.bool (cO (i:Int) 4)) true,.mem (lU [some (vI 0)]) (vP bi 0),.mem (eH bi 0 (vI (i:Int))) undef,.mem (aD bi 0) (vI (i:Int)),.mem (lU [some (vI 0)]) (vP bf 0),.mem (eH bf 0 (vI (Q3 false (kQ (i:Int) size) (rows:Int)))) undef,.mem (aD bf 0) (vI x),.mem (lU [some (vI 0)]) (vP bt 0),.mem (eH bt 0 (vI (Q3 false (bL x size) (rows:Int)))) undef,.call 137 [(vP b8 0),(.func (.func go) #[] #[(vP b3 0),(vP bi 0),(vP bf 0),(vP bt 0),(vP b5 0)])] (.tuple #[])] .normal [1,3,5,8,9,18] [(vI (rows:Int)),(vP b3 0),(vP b5 0),(vP b8 0),(vI size),(vI (bL (i:Int) 1))]
 aa8:∀(rows b3 b5 b8 i:Nat) (size:Int),uB (eY fl) (oJ (bN fl) [4]) 0 99 [1,3,5,8,9,18] [(vI (rows:Int)),(vP b3 0),(vP b5 0),(vP b8 0),(vI size),(vI (i:Int))] [.cond (.bool (cO (i:Int) 4)) false] (.exit 0) [3,8] [(vP b3 0),(vP b8 0)]
 aa7:∀(b3 b8 d q:Nat) (rv:ae) (e:Int),uB (eY fl) (bN fl) 5 99 [3,8] [(vP b3 0),(vP b8 0)] [.call 140 [(vP b8 0)] (.tuple #[]),.mem (aD b3 0) (vP d q),.call ga [(vP d q)] (.tuple #[rv,(vI e)])] .ret [6,7] [rv,(vI e)]
 aa4:∀(t0 t1 t2 t3 t4 d q i fr to fs:Nat) (cap:Array ae),Path go [(vP t0 0),(vP t1 0),(vP t2 0),(vP t3 0),(vP t4 0)] [.mem (aD t0 0) (vP d q),.mem (aD t1 0) (vI (i:Int)),.idx (i:Int) 4 i,.mem (aD t2 0) (vI (fr:Int)),.mem (aD t3 0) (vI (to:Int)),.mem (aD t4 0) (.func (.func fs) #[] cap),.mem zT undef,.call sh [(vP d (q+i*2)),(vI (fr:Int)),(vI (to:Int)),(.func (.func fs) #[] cap)] (.tuple #[])] (.tuple #[])
 abm:jy sh 4 []=true
 Tt:(di (bN sh)).length<=99
 abC:jI (bN sh) 2=some (0,oJ (bN sh) [2])
 NO:codeOk (eY sh) (oJ (bN sh) [2])=true
 abF:lN (eY sh) (bN sh) (oJ (bN sh) [2]) 2 0=true
 abn:jy ga 1 [2,3]=true
 Tu:(di (bN ga)).length<=99
 abD:jI (bN ga) 3=some (0,oJ (bN ga) [3])
 NP:codeOk (eY ga) (oJ (bN ga) [3])=true
 abG:lN (eY ga) (bN ga) (oJ (bN ga) [3]) 3 0=true
 abo:jy fl 3 [6,7]=true
 Tv:(di (bN fl)).length<=99
 abE:jI (bN fl) 4=some (0,oJ (bN fl) [4])
 NQ:codeOk (eY fl) (oJ (bN fl) [4])=true
 abH:lN (eY fl) (bN fl) (oJ (bN fl) [4]) 4 0=true
 spec:iK em=false/\iK sh=false/\iK go=false/\iK ga=false/\iK fl=false
 und:VQ t=true
 fill:go=X0.Fp\/go=X0.Fo
theorem TC:Kin 109 138 139 141 180 29 where
 Sw:=fun _ _ _ _=>⟨aU,aU⟩
 aa1:=fun _ _ _ _ _ _ _ _ _ _ _=>⟨aU,aU⟩
 aa0:=fun _ _ _ _ _ _ _ _ _=>⟨aU,aU⟩
 aaZ:=fun _ _ _ _ _ _ _ _=>⟨aU,aU⟩
 aaY:=fun _ _ _ _ _ _=>⟨aU,aU⟩
 aa6:=fun _ _ _ _ _ _ _ _ _=>⟨aU,aU⟩
 aa3:=fun _ _ _ _=>⟨aU,aU⟩
 aa5:=fun _ _ _ _ _ _ _ _ _ _ _ _ _=>⟨aU,aU⟩
 aa2:=fun _ _ _ _=>⟨aU,aU⟩
 aba:=fun _ _ _ _ _ _ _ _ _ _=>⟨aU,aU⟩
 aa9:=fun _ _ _ _ _ _ _ _ _ _ _=>⟨aU,aU⟩
 aa8:=fun _ _ _ _ _ _ _=>⟨aU,aU⟩
 aa7:=fun _ _ _ _ _ _ _=>⟨aU,aU⟩
 aa4:=fun _ _ _ _ _ _ _ _ _ _ _ _=>⟨aU,aU⟩
 abm:=aU
 abC:=aU
 NO:=aU
 abF:=aU
 abn:=aU
 abD:=aU
 NP:=aU
 abG:=aU
 abo:=aU
 abE:=aU
 NQ:=aU
 abH:=aU
 Tt:=af aU
 Tu:=af aU
 Tv:=af aU
 spec:=⟨rfl,rfl,rfl,rfl,rfl⟩
 und:=aU
 fill:= .inl rfl
theorem agJ:Kin 249 270 271 272 199 223 where
 Sw:=fun _ _ _ _=>⟨aU,aU⟩
 aa1:=fun _ _ _ _ _ _ _ _ _ _ _=>⟨aU,aU⟩
 aa0:=fun _ _ _ _ _ _ _ _ _=>⟨aU,aU⟩
 aaZ:=fun _ _ _ _ _ _ _ _=>⟨aU,aU⟩
 aaY:=fun _ _ _ _ _ _=>⟨aU,aU⟩
 aa6:=fun _ _ _ _ _ _ _ _ _=>⟨aU,aU⟩
 aa3:=fun _ _ _ _=>⟨aU,aU⟩
 aa5:=fun _ _ _ _ _ _ _ _ _ _ _ _ _=>⟨aU,aU⟩
 aa2:=fun _ _ _ _=>⟨aU,aU⟩
 aba:=fun _ _ _ _ _ _ _ _ _ _=>⟨aU,aU⟩
 aa9:=fun _ _ _ _ _ _ _ _ _ _ _=>⟨aU,aU⟩
 aa8:=fun _ _ _ _ _ _ _=>⟨aU,aU⟩
 aa7:=fun _ _ _ _ _ _ _=>⟨aU,aU⟩
 aa4:=fun _ _ _ _ _ _ _ _ _ _ _ _=>⟨aU,aU⟩
 abm:=aU
 abC:=aU
 NO:=aU
 abF:=aU
 abn:=aU
 abD:=aU
 NP:=aU
 abG:=aU
 abo:=aU
 abE:=aU
 NQ:=aU
 abH:=aU
 Tt:=af aU
 Tu:=af aU
 Tv:=af aU
 spec:=⟨rfl,rfl,rfl,rfl,rfl⟩
 und:=aU
 fill:= .inr rfl
end Go.AM
namespace Go.AM
set_option maxRecDepth 1000000
open Go Go.Conc Go.Proofs
noncomputable def Zg(nt:Nat)(rs:List ResultVar)(a t b:Nat):Bool:=match rs with
 | [.cell x y,.tmp z]=>Nat.beq x a&&Nat.beq y t&&Nat.beq z b&&Nat.blt a nt&&Nat.blt b nt
 |_=>false
noncomputable def MA(f n a t b:Nat):Bool:=wI f&&codeOk (eY f) (bN f)&&Zg (eY f) (rsT f) a t b&&Nat.ble n (eY f)&&Nat.ble n 16
theorem XT {K:fZ}{f a t b q:Nat}{args:List ae}{m m':Mem}{cV:Tm}{e:Exit}{v u:ae}(eZ:MA f args.length a t b=true)(h:aA K (eY f) (bN f) 0 ⟨entry args,m,[]⟩ e ⟨cV,m',[]⟩)(he:e= .normal\/e= .ret)(hg:bu [a,b] cV=[vP q 0,u])
  (hL:oh ab t (vP q 0) m'=some (v,m'))(hs:iK f=false:=by rfl):Ev K f args m (.tuple #[v,u]) m':=by
 unfold MA at eZ;simp only[ag]at eZ;obtain⟨⟨⟨⟨h1,h2⟩,h3⟩,h4⟩,h5⟩:=eZ;obtain⟨tt,ht⟩:=EI (l:=args) (af h5);have he1:entry args=tt:=by unfold entry;rw[ht]
 rw[he1]at h;refine OP h1 (tm:=tt) (by rw[bj h4,ht]) (h.code h2) he ?_ hs;unfold Zg at h3
 split at h3
 ·rename_i x y z hrs;simp only[ag]at h3;have e1:=ay h3.1.1.1.1;have e2:=ay h3.1.1.1.2;have e3:=ay h3.1.1.2;subst e1 e2 e3;simp only[bu,List.map_cons,List.map_nil,List.cons.injEq,and_true]at hg;unfold lC;rw[hrs];unfold vj vj vj;rw[bj h3.1.2,bj h3.2,hg.1,hg.2];unfold oh at hL
  split at hL
  ·rename_i v' hv;cases hL;simp only[hv]
  ·cases hL
 ·cases h3
structure CS where
 p:Nat
 on:Option X
def JU:oD CS where
 R B x m v:=∃o,v= .agg #[vP x.p 0,o]/\iH.R B x.on m o
 mono:=by
  rintro B B' x m v ⟨o,e,h⟩ k;exact⟨o,e,iH.mono h k⟩
 ext:=by
  rintro B S x m m' v ⟨o,e,h⟩ k hs;exact⟨o,e,iH.ext h k hs⟩
structure Kx where
 mG:List CS
 wh:Option X
 rO:List X
def lS:oD Kx where
 R B x m v:=∃a w b,v= .agg #[a,w,b]/\(aX JU 2).R B x.mG m a/\iH.R B x.wh m w/\(aX nG 1).R B x.rO m b
 mono:=by
  rintro B B' x m v ⟨a,w,b,e,h1,h2,h3⟩ k;exact⟨a,w,b,e,(aX JU 2).mono h1 k,iH.mono h2 k,(aX nG 1).mono h3 k⟩
 ext:=by
  rintro B S x m m' v ⟨a,w,b,e,h1,h2,h3⟩ k hs;exact⟨a,w,b,e,(aX JU 2).ext h1 k hs,iH.ext h2 k hs,(aX nG 1).ext h3 k hs⟩
theorem iH.one{B:Nat->Prop}{x:Option X}{m:Mem}{v:ae}(h:iH.R B x m v):v.oneCell'=true:=by
 cases x with
 |none=>have h:v= .nilIface:=h;rw[h];rfl
 |some x=>obtain⟨t,b,rfl⟩:=XR.form (show XR B x m v from h);rfl
end Go.AM
namespace Go.AM
set_option maxRecDepth 1000000
open Go Go.Conc Go.Proofs
structure CU where
 all:Bool
 sel:Kx
def JS:oD CU where
 R B x m v:=∃a w b,v= .agg #[.bool x.all,a,w,b]/\lS.R B x.sel m (.agg #[a,w,b])
 mono:=by
  rintro B B' x m v ⟨a,w,b,e,h⟩ k;exact⟨a,w,b,e,lS.mono h k⟩
 ext:=by
  rintro B S x m m' v ⟨a,w,b,e,h⟩ k hs;exact⟨a,w,b,e,lS.ext h k hs⟩
structure pR where
 first :Kx
 us:List CU
def iY:oD pR where
 R B x m v:=∃a w b u,v= .agg #[a,w,b,u]/\lS.R B x.first m (.agg #[a,w,b])/\(aX JS 4).R B x.us m u
 mono:=by
  rintro B B' x m v ⟨a,w,b,u,e,h,h'⟩ k;exact⟨a,w,b,u,e,lS.mono h k,(aX JS 4).mono h' k⟩
 ext:=by
  rintro B S x m m' v ⟨a,w,b,u,e,h,h'⟩ k hs;exact⟨a,w,b,u,e,lS.ext h k hs,(aX JS 4).ext h' k hs⟩
theorem lS.three{B:Nat->Prop}{x:Kx}{m:Mem}{v:ae}(h:lS.R B x m v):∃a w b,v= .agg #[a,w,b]/\a.oneCell'=true/\w.oneCell'=true/\b.oneCell'=true:=by
 obtain⟨a,w,b,e,h1,h2,h3⟩:=h;exact⟨a,w,b,e,(aX.lj h1).2,iH.one h2,(aX.lj h3).2⟩
structure aag where
 p:Nat
 self:Bool
 b:pR
def yg:oD aag where
 R B x m v:=∃a w b u,v= .agg #[vP x.p 0,.bool x.self,a,w,b,u]/\iY.R B x.b m (.agg #[a,w,b,u])
 mono:=by
  rintro B B' x m v ⟨a,w,b,u,e,h⟩ k;exact⟨a,w,b,u,e,iY.mono h k⟩
 ext:=by
  rintro B S x m m' v ⟨a,w,b,u,e,h⟩ k hs;exact⟨a,w,b,u,e,iY.ext h k hs⟩
structure Vn where
 parts:List aag
 dN:List FN
 b:pR
def Fv:oD Vn where
 R B x m v:=∃p c a w b u,v= .agg #[p,c,a,w,b,u]/\(aX yg 6).R B x.parts m p/\qz.R B x.dN m c/\iY.R B x.b m (.agg #[a,w,b,u])
 mono:=by
  rintro B B' x m v ⟨p,c,a,w,b,u,e,h1,h2,h⟩ k;exact⟨p,c,a,w,b,u,e,(aX yg 6).mono h1 k,qz.mono h2 k,iY.mono h k⟩
 ext:=by
  rintro B S x m m' v ⟨p,c,a,w,b,u,e,h1,h2,h⟩ k hs;exact⟨p,c,a,w,b,u,e,(aX yg 6).ext h1 k hs,qz.ext h2 k hs,iY.ext h k hs⟩
theorem iY.four{B:Nat->Prop}{x:pR}{m:Mem}{v:ae}(h:iY.R B x m v):∃a w b u,v= .agg #[a,w,b,u]/\a.oneCell'=true/\w.oneCell'=true/\b.oneCell'=true/\u.oneCell'=true:=by
 obtain⟨a,w,b,u,e,h1,h2⟩:=h;obtain⟨_,_,_,e',x1,x2,x3⟩:=lS.three h1;cases e';exact⟨a,w,b,u,e,x1,x2,x3,(aX.lj h2).2⟩
end Go.AM
namespace Go.AM
set_option maxRecDepth 1000000
open Go Go.Conc Go.Proofs
def ZU:oD (List ByteArray):=aX (iX v7) 1
def ZV:oD (List Int):=aX (iX vI) 1
theorem abp (s:ByteArray):okV 1 (v7 s):=⟨rfl,by simp[v7,ae.cells,ae.oneCell']⟩
theorem abr (k:Int):okV 1 (vI k):=⟨rfl,by simp[ae.cells,ae.oneCell']⟩
theorem qD:zC ab 31=some true/\ep ab 31=some 4:=⟨aU,aU⟩
section
variable {K:fZ}{m:Mem}
theorem ai6 (pn pc cn cc un uc:Nat)(pa ca ua:Option Addr)(a w b:ae)(gD oU KQ:Nat):dJ 76 0 3 [0] [.agg #[.slice pa pn pc,.slice ca cn cc,a,w,b,.slice ua un uc]]
 [mB [some (.slice pa pn pc),some (.slice ca cn cc),some a,some w,some b,some (.slice ua un uc)] gD,
  mB [some fq,some fq,some fq,some (vI 0)] oU,
  mB [some fq,some (vI 0),some fq,some (vI 0),some fq,some (vI 0),some fq,some (vI 0),some fq,some fq,some (vI 0),some fq,some (vI 0),some fq,some (vI 0),some fq,some (vI 0),some fq] KQ,
  .mem (aD gD 0) (.slice pa pn pc)]
 .normal [1,2,4,16,17,18] [vP gD 0,vP oU 0,vP KQ 0,.slice pa pn pc,vI pn,vI 0]:=dc
theorem ai4 (b1 b2 d pn pc i:Nat)(pa:Option Addr):aT 76 [3] 0 99 [1,2,4,16,17,18] [vP b1 0,vP b2 0,vP d 0,.slice pa pn pc,vI pn,vI i]
 [aP (cO i pn) false]
 (.exit 0) [1,2,4] [vP b1 0,vP b2 0,vP d 0]:=dc
theorem ai3 (b2 eG cn cc i:Nat)(ca:Option Addr):aT 76 [10] 0 99 [2,10,46,47,48] [vP b2 0,vP eG 0,.slice ca cn cc,vI cn,vI i]
 [aP (cO i cn) false]
 (.exit 2) [2,10] [vP b2 0,vP eG 0]:=dc
theorem ai5 (b2 eG p n cc i nn nc kn kc:Nat)(na ka:Option Addr)(nv kv:ae)(x:FN)(gD oU KQ:Nat):aT 76 [10] 0 99 [2,10,46,47,48] [vP b2 0,vP eG 0,vL p 0 n cc,vI n,vI i]
 [aP (cO i n) true,
  .idx i n i,
  .mem (eU 2 p (0+i*2)) (.agg #[jX x.n,vI x.k]),
  mB [some zvE,some (vI 0)] gD,
  uE gD 0 [jX x.n,vI x.k],
  .mem (aD eG 0) nv,
  .mem (aD gD 0) (jX x.n),
  .mem (bY ab 28 1 [(0,(jX x.n))]) (vL oU 0 1 1),
  .mem (cZ ab #[28,28] nv (vL oU 0 1 1)) (.slice na nn nc),
  .mem (eH eG 0 (.slice na nn nc)) undef,
  .mem (aD eG 1) kv,
  .mem (aD gD 1) (vI x.k),
  .mem (bY ab 22 1 [(0,(vI x.k))]) (vL KQ 0 1 1),
  .mem (cZ ab #[22,22] kv (vL KQ 0 1 1)) (.slice ka kn kc),
  .mem (eH eG 1 (.slice ka kn kc)) undef]
 .normal [2,10,46,47,48] [vP b2 0,vP eG 0,vL p 0 n cc,vI n,vI (bL i 1)]:=dc
theorem ai2 (b2 eG:Nat)(nv kv rv:ae):dJ 76 11 99 [2,10] [vP b2 0,vP eG 0]
 [uF 4 eG (.agg #[nv,kv,rv,vI 0]),
  uE b2 0 [nv,kv,rv,vI 0]]
 .ret [2,3] [vP b2 0,vI 0]:=dc
theorem ajR:MA 76 1 2 31 3=true:=aU
theorem SL:(di (bN 76)).length<=99:=af aU
theorem abt:iP 76 [3]:=aU
theorem NT:iP 76 [10]:=aU
theorem Qy {B:Nat->Prop}{dN:List FN}{JY:ae}{b2 eG:Nat}{rv:ae}{t0:Tm}{m0:Mem}(g0:Gd m0)(k0:Kp m0 m fu)(akF:m0.next<=eG)(h10:eG<m.next)(o:Obj m eG 0 [.slice none 0 0,.slice none 0 0,rv,vI 0])(hc:qz.R B dN m JY)(ZR:∀b,B b->b≠eG/\b<m.next)(hl:dN.length<9000)
  (h0:bu [2,10,46,47,48] t0=[vP b2 0,vP eG 0,JY,vI (dN.length:Int),vI 0]):
  ∃t1 m1 nv kv,vB K (eY 76) (bX 76 [10]) 100000 ⟨t0,m,[]⟩ (.exit 2) ⟨t1,m1,[]⟩/\bu [2,10] t1=[vP b2 0,vP eG 0]/\Kp m m1 (fun y=>y=eG)/\Obj m1 eG 0 [nv,kv,rv,vI 0]/\ZU.R (jD m m1) (dN.map (·.n)) m1 nv/\ZV.R (jD m m1) (dN.map (·.k)) m1 kv:=by
 obtain⟨a,cc,hA⟩:=aX.form hc;have JB:(aX (iX FN.val) 2).R B dN m JY:=hc;obtain⟨e,t1,m1,he,hx,rfl,hg,kk,nv,kv,o1,B1,B2,hd,nN,nU,l1,l2⟩:=eI (K:=K) (nt:=eY 76) (a:=bX 76 [10]) dN.length
  (Inv:=fun j tm M=>bu [2,10,46,47,48] tm=[vP b2 0,vP eG 0,JY,vI (dN.length:Int),vI j]/\Kp m M (fun y=>y=eG)/\∃nv kv,Obj M eG 0 [nv,kv,rv,vI 0]/\∃B1 B2:Nat->Prop,(∀y,B1 y->¬B2 y)/\(∀y,B1 y->jD m M y)/\(∀y,B2 y->jD m M y)/\
   Bm (iX v7) 1 B1 M ((dN.take j).map (·.n)) nv/\Bm (iX vI) 1 B2 M ((dN.take j).map (·.k)) kv)
  (dm:=fun e tm M=>e= .exit 2/\bu [2,10] tm=[vP b2 0,vP eG 0]/\Kp m M (fun y=>y=eG)/\∃nv kv,Obj M eG 0 [nv,kv,rv,vI 0]/\∃B1 B2:Nat->Prop,(∀y,B1 y->¬B2 y)/\(∀y,B1 y->jD m M y)/\(∀y,B2 y->jD m M y)/\
   Bm (iX v7) 1 B1 M (dN.map (·.n)) nv/\Bm (iX vI) 1 B2 M (dN.map (·.k)) kv)
  (by
   rintro j tm M hj ⟨hg,kk,nv,kv,oM,B1,B2,hd,nN,nU,l1,l2⟩;refine .inl ?_;have g:Gd m:=g0.ext k0;have gM:=g.ext kk;have nM:=kk.next;obtain⟨p,c',u,ucs,rfl,hBp,ob,hu,hle,hE,Xx⟩:=aX.get ((aX (iX FN.val) 2).ext JB kk fun y hy=>(ZR y hy).1) hj;obtain⟨x,hy⟩:∃y,dN[j]=y:=⟨_,rfl⟩;rw[hy]at hE;have hE:u=x.val:=hE;subst hE;have e1:eU 2 p (0+j*2) M=some (x.val,M):=by rw[Nat.zero_add];exact dX (vs:=[.string x.n,vI x.k]) ob hu hle
   obtain⟨M1,M2,e2,e3,o2,k2,n2⟩:=ly gM [.string .empty,vI 0] [.string x.n,vI x.k] rfl rfl;have g2:=gM.ext k2;have oM2:=oM.cf k2;have e4:aD eG 0 M2=some (nv,M2):=aS oM2 rfl;have e5:aD M.next 0 M2=some (.string x.n,M2):=aS o2 rfl;have km2:Kp m M2 (fun y=>y=eG):=kk.aZ k2;have n2':=k2.next;obtain⟨M3,M4,s1,e6,g3,k3,e7,k4,Oa,_,n4⟩:=(l1.cf k2).add (t:=28) (v:=v7 x.n) g2 g km2 rfl eS (fun b hb=>⟨(nN b hb).1,by have :=(nN b hb).2;omega⟩) (B':=fu) rfl (fun _ _ h=>h) (fun _ h=>h.elim) (abp x.n) (by simp;omega);obtain⟨na,nn,nc,Xu⟩:=Oa.form;have abx:∀y,B1 y->¬y=eG:=fun y hy e=>by have :=(nN y hy).1;omega
   have S4:∀y,B2 y->¬y=eG:=fun y hy e=>by have :=(nU y hy).1;omega
   have amk:eG<m.next:=h10;have alh:¬B1 eG:=fun h=>abx _ h rfl
   have alg:¬B2 eG:=fun h=>S4 _ h rfl
   have oM4:=oM2.ext k4 alh;have g4:=g2.ext k4;have km4:Kp m M4 (fun y=>y=eG):=km2.new k4 (N:=m.next) (aj _) fun b hb=>(nN b hb).1
   have YS:∀{M':Mem},Kp m M' (fun y=>y=eG)->Own M' eG:=fun k=>g0.own (k0.vl.trans k fun _ _ h=>h) akF
   obtain⟨M5,e8,o5,k5⟩:=jF (o:=0) s1 oM4 ((YS km4).may _ _) (af rfl) (by rw[Xu];rfl);have g5:=g4.ext k5;have km5:Kp m M5 (fun y=>y=eG):=km4.trans k5 fun _ _ h=>h
   have e9:aD eG 1 M5=some (kv,M5):=aS o5 rfl;have VK:aD M.next 1 M5=some (vI x.k,M5):=aS ((o2.ext k4 fun h=>by have :=(nN _ h).2;omega).ext k5 ai) rfl;have n5:=k5.next;have n4':=k4.next;have l2':=((l2.cf k2).ext k4 fun b hb h=>hd b h hb).ext k5 S4;obtain⟨M6,M7,s2,e11,g6,k6,X7,k7,Vv,_,n7⟩:=l2'.add (t:=22) (v:=vI x.k) g5 g km5 rfl eS (fun b hb=>⟨(nU b hb).1,by have :=(nU b hb).2;omega⟩) (B':=fu) rfl (fun _ _ h=>h) (fun _ h=>h.elim) (abr x.k) (by simp;omega);obtain⟨ka,kn,kc,Ov⟩:=Vv.form;have g7:=g5.ext k7;have km7:Kp m M7 (fun y=>y=eG):=km5.new k7 (N:=m.next) (aj _) fun b hb=>(nU b hb).1
   obtain⟨M8,e13,o8,k8⟩:=jF (o:=1) s2 (o5.ext k7 alg) ((YS km7).may _ _) (af rfl) (by rw[Ov];rfl);have n8:=k8.next;have n7':=k7.next;subst Xu;subst Ov;obtain⟨t2,cN,cz⟩:=aI (K:=K) (m:=M) (m':=M8) NT (ai5 b2 eG p dN.length c' j nn nc kn kc na ka nv kv x M.next M2.next M5.next) hg (.cond (GK hj)<| .idx rfl hj<| .mem e1<| .mem e2<| .mem e3<| .mem e4<| .mem e5<| .mem e6<| .mem e7<| .mem e8<| .mem e9<| .mem VK<| .mem e11<| .mem X7<| .mem e13 .nil);have htk:dN.take (j+1)=dN.take j++[x]:=by rw[List.take_add_one,List.getElem?_eq_getElem hj,hy];rfl
   refine⟨t2,M8,cN,by rw[cz,add1 ai],km7.trans k8 fun _ _ h=>h,_,_,o8,(fun y=>B1 y\/fu y\/y=M2.next+1),(fun y=>B2 y\/fu y\/y=M5.next+1),?_,?_,?_,?_,?_⟩
   ·rintro y (h|h|h) h'
    ·rcases h' with h'|h'|h'
     ·exact hd y h h'
     ·exact h'
     ·have :=(nN y h).2;omega
    ·exact h
    ·rcases h' with h'|h'|h'
     ·have :=(nU y h').2;omega
     ·exact h'
     ·omega
   ·rintro y (h|h|h)
    ·exact⟨(nN y h).1,by have :=(nN y h).2;omega⟩
    ·exact h.elim
    ·exact⟨ai,ai⟩
   ·rintro y (h|h|h)
    ·exact⟨(nU y h).1,by have :=(nU y h).2;omega⟩
    ·exact h.elim
    ·exact⟨ai,ai⟩
   ·rw[htk,List.map_append];refine((Oa.ext k5 ?_).ext k7 ?_).ext k8 ?_
    ·rintro y (h|h|h) e
     ·exact abx y h e
     ·exact h
     ·omega
    ·rintro y (h|h|h) h'
     ·exact hd y h h'
     ·exact h
     ·have :=(nU y h').2;omega
    ·rintro y (h|h|h) e
     ·exact abx y h e
     ·exact h
     ·omega
   ·rw[htk,List.map_append];refine Vv.ext k8 ?_;rintro y (h|h|h) e
    ·exact S4 y h e
    ·exact h
    ·omega)
  (by
   rintro tm M ⟨hg,kk,nv,kv,oM,B1,B2,hd,nN,nU,l1,l2⟩;rw[hA]at hg;obtain⟨t2,cN,cz⟩:=aI (K:=K) (m:=M) (m':=M) NT (ai3 b2 eG dN.length cc dN.length a) hg (.cond (Ed _) .nil);rw[List.take_length]at l1 l2;exact⟨_,t2,M,g8,cN,rfl,cz,kk,nv,kv,oM,B1,B2,hd,nN,nU,l1,l2⟩)
  (tm:=t0) (m:=m) ⟨h0,Kp.refl _ _,_,_,o,fu,fu,fun _ h=>h.elim,fun _ h=>h.elim,fun _ h=>h.elim,Bm.nil,Bm.nil⟩ ai
 exact⟨t1,m1,nv,kv,hx,hg,kk,o1,(aX (iX v7) 1).mono l1.fin nN,(aX (iX vI) 1).mono l2.fin nU⟩
end
end Go.AM
namespace Go.AM
set_option maxRecDepth 1000000
open Go Go.Conc Go.Proofs
def aik:ae:= .agg #[.slice none 0 0,.slice none 0 0,.slice none 0 0,vI 0]
end Go.AM
namespace Go.AM
set_option maxRecDepth 1000000
open Go Go.Conc Go.Proofs
def VL (m:Mem)(k:Nat):Mem:={m with deaf:=k}
theorem K4:ab.underlying 139=some (.pointer 63)/\ab.underlying 143=some .unsafePointer/\ep ab 63=some 2:=⟨aU,aU,aU⟩
theorem Fq (cl:cE)(args:List ae)(m:Mem):(jY ab X0 64).body cl args m=uj X0 64 args m/\(jY ab X0 65).body cl args m=uj X0 65 args m/\(jY ab X0 66).body cl args m=uj X0 66 args m/\
  (jY ab X0 67).body cl args m=uj X0 67 args m/\(jY ab X0 69).body cl args m=uj X0 69 args m/\(jY ab X0 70).body cl args m=uj X0 70 args m:=by
 refine⟨?_,?_,?_,?_,?_,?_⟩<;>kernel_rfl
section
variable {K:fZ}{m:Mem}
theorem zp {f:Nat}{args:List ae}{v:ae}{m':Mem}(hf:iK f=false)(ht:∀cl,(jY ab X0 f).body cl args m=uj X0 f args m)(h:uj X0 f args m=some (v,m')):Ev K f args m v m':=by
 refine⟨1,fun M n _ hn=>?_⟩;obtain⟨n,rfl⟩:∃k,n=k+1:=⟨n-1,ai⟩;rw[K.step M n f args m hf,ht];exact h
theorem c64:Ev K 64 [] m (.tuple #[]) (VL m (m.deaf+1)):=zp rfl (fun cl=>(Fq cl [] m).1) rfl
theorem c66:Ev K 66 [] m (.tuple #[]) (VL m (m.deaf-1)):=zp rfl (fun cl=>(Fq cl [] m).2.2.1) rfl
theorem c67 {b o:Nat}:Ev K 67 [vP b o] m (.tuple #[]) m:=zp rfl (fun cl=>(Fq cl [vP b o] m).2.2.2.1) rfl
theorem c69 {b o:Nat}:Ev K 69 [vP b o] m (.tuple #[]) m:=zp rfl (fun cl=>(Fq cl [vP b o] m).2.2.2.2.1) rfl
theorem uJ {b sz o:Nat}{cs:List ae}(vs:List ae)(h:Obj m b sz cs)(hw:m.dh b o vs.length=true)(hn:o+vs.length<=cs.length)(hv:vs.all (·.oneCell')=true):
  ∃m',m.dP b o vs=some m'/\Obj m' b sz (sY cs o vs)/\Kp m m' (fun x=>x=b):=by
 obtain⟨m',e,o',k⟩:=mF vs h hw hn hv;unfold DT at e
 split at e
 ·rename_i m1 h1;cases e;exact⟨_,h1,o',k⟩
 ·cases e
theorem c65 {b sz:Nat}{x y:Int}{rest:List ae}(h:Obj m b sz (.int .i32 x::rest))(hw:m.dh b 0 1=true):∃m',Ev K 65 [vP b 0,.int .i32 x,.int .i32 y] m (.bool true) m'/\Obj m' b sz (.int .i32 y::rest)/\Kp m m' (fun x=>x=b):=by
 obtain⟨m',e,o',k⟩:=uJ (o:=0) [.int .i32 y] h hw du rfl;refine⟨m',zp rfl (fun cl=>(Fq cl _ m).2.1) ?_,o',k⟩;have hl:m.dK b 0 1=some [.int .i32 x]:=jR h rfl du
 show(match m.dK b 0 1 with |some [.int .i32 v]=>if v=x then(m.dP b 0 [.int .i32 y]).map fun m'=>(ae.bool true,m')else if m.base<=b then some (.bool false,m)else none|_=>none)=_
 rw[hl]
 show(if x=x then _ else _)=_
 rw[bj rfl,e];rfl
theorem c70 {b sz:Nat}{x y:Int}{rest:List ae}(h:Obj m b sz (.int .i32 x::rest))(hw:m.dh b 0 1=true):∃m',Ev K 70 [vP b 0,.int .i32 y] m (.int .i32 (bU.i32.wrap (x+y))) m'/\Obj m' b sz (.int .i32 (bU.i32.wrap (x+y))::rest)/\Kp m m' (fun x=>x=b):=by
 obtain⟨m',e,o',k⟩:=uJ (o:=0) [.int .i32 (bU.i32.wrap (x+y))] h hw du rfl;refine⟨m',zp rfl (fun cl=>(Fq cl _ m).2.2.2.2.2) ?_,o',k⟩;have hl:m.dK b 0 1=some [.int .i32 x]:=jR h rfl du
 show(match m.dK b 0 1 with |some [.int .i32 v]=>(m.dP b 0 [.int .i32 (bU.i32.wrap (v+y))]).map fun m'=>(ae.int .i32 (bU.i32.wrap (v+y)),m')|_=>none)=_
 rw[hl]
 show(m.dP b 0 [.int .i32 (bU.i32.wrap (x+y))]).map _=_
 rw[e];rfl
theorem OU {b sz:Nat}{c:ae}{cs:List ae}(h:Obj m b sz (c::cs)):fK ab 139 143 (vP b 0) m=some (vP b 0,m):=by
 unfold fK;simp only[K4.1,K4.2.1,K4.2.2,h.kind,h.cs];rfl
theorem Obj.df{b sz k:Nat}{cs:List ae}(h:Obj m b sz cs):Obj (VL m k) b sz cs:=⟨h.lt,h.kind,h.sz,h.cs,h.Bu⟩
theorem Kp.df{m':Mem}{S:Nat->Prop}{k l:Nat}(h:Kp (VL m k) m' S)(hl:l=m.deaf):Kp m (VL m' l) S:=⟨h.next,h.bh,h.opn,h.base,h.home,h.floor,h.wg,h.pend,hl,h.blk⟩
theorem p24 (b:Nat):Path 24 [vP b 0]
 [.call 36 [vP b 0] (.tuple #[])]
 (.tuple #[]):=lV
theorem p36 (b:Nat):Path 36 [vP b 0]
 [.call 64 [] (.tuple #[]),
  .call 65 [vP b 0,.int .i32 0,.int .i32 1] (.bool true),
  zF,
  zF,
  .call 66 [] (.tuple #[]),
  .mem (fK ab 139 143 (vP b 0)) (vP b 0),
  .call 67 [vP b 0] (.tuple #[])]
 (.tuple #[]):=lV
theorem p25 (b:Nat):Path 25 [vP b 0]
 [.call 37 [vP b 0] (.tuple #[])]
 (.tuple #[]):=lV
theorem p37 (b:Nat):Path 37 [vP b 0]
 [zF,
  .mem (aD b 0) (.int .i32 1),
  .mem (fK ab 139 143 (vP b 0)) (vP b 0),
  .call 69 [vP b 0] (.tuple #[]),
  .call 64 [] (.tuple #[]),
  .call 70 [vP b 0,.int .i32 (-1)] (.int .i32 0),
  dx,
  .call 66 [] (.tuple #[])]
 (.tuple #[]):=lV
theorem p40 (db mp:Nat)(rc:Bool)(pn pc:Nat)(pa:Option Addr)(a b w u x1 x2 x3 x4 x5 x6 y1 y2 y3 y4:ae)(e:Int)(gD oU KQ σ1:Nat):Path 40 [vP db 0,.agg #[.bool rc,.slice pa pn pc,a,b,w,u]]
 [mB [some (.bool rc),some (.slice pa pn pc),some a,some b,some w,some u] gD,
  mB [some fq,some fq,some fq,some (vI 0)] oU,
  .mem (aD db 2) (.map (some mp)),
  uF 6 gD (.agg #[.bool rc,.slice pa pn pc,a,b,w,u]),
  mB [some fq,some fq,some fq,some .nilIface,some fq,some fq] KQ,
  .mem (nO (vP KQ 0)) (vI σ1),
  gp,
  .call 75 [.map (some mp),.agg #[.bool rc,.slice pa pn pc,a,b,w,u]] (.tuple #[.agg #[x1,x2,x3,x4,x5,x6],vI 0]),
  .mem (fS (vI σ1) (vP KQ 0) (wF (vP KQ 0))) undef,
  gp,
  uE KQ 0 [x1,x2,x3,x4,x5,x6],
  dx,
  uF 6 KQ (.agg #[x1,x2,x3,x4,x5,x6]),
  .call 76 [.agg #[x1,x2,x3,x4,x5,x6]] (.tuple #[.agg #[y1,y2,y3,y4],vI e]),
  uE oU 0 [y1,y2,y3,y4],
  Yx 31 oU (.agg #[y1,y2,y3,y4])]
 (.tuple #[.agg #[y1,y2,y3,y4],vI e]):=lV
theorem ajv (db:Nat)(rc:Bool)(pn pc:Nat)(pa:Option Addr)(a b w u y1 y2 y3 y4:ae)(e:Int)(gD oU:Nat):Path 26 [vP db 0,.iface 108 (.agg #[.bool rc,.slice pa pn pc,a,b,w,u])]
 [mB [some fq,some fq,some fq,some (vI 0)] gD,
  dx,
  dx,
  zF,
  mB [some (.bool false),some fq,some fq,some fq,some .nilIface,some fq] oU,
  uE oU 0 [.bool rc,.slice pa pn pc,a,b,w,u],
  uF 6 oU (.agg #[.bool rc,.slice pa pn pc,a,b,w,u]),
  .call 40 [vP db 0,.agg #[.bool rc,.slice pa pn pc,a,b,w,u]] (.tuple #[.agg #[y1,y2,y3,y4],vI e]),
  uE gD 0 [y1,y2,y3,y4],
  Yx 31 gD (.agg #[y1,y2,y3,y4])]
 (.tuple #[.agg #[y1,y2,y3,y4],vI e]):=lV
theorem p12 (db:Nat)(t:ByteArray)(sv y1 y2 y3 y4:ae)(e:Int)(gD oU:Nat):Path 12 [vP db 0,jX t]
 [mB [some fq,some fq,some fq,some (vI 0)] gD,
  .call 22 [jX t] (.tuple #[sv,vI 0,vI 0]),
  dx,
  .call 24 [vP db 0] (.tuple #[]),
  .call 26 [vP db 0,sv] (.tuple #[.agg #[y1,y2,y3,y4],vI e]),
  mB [some fq,some fq,some fq,some (vI 0)] oU,
  uE oU 0 [y1,y2,y3,y4],
  uF 4 oU (.agg #[y1,y2,y3,y4]),
  uE gD 0 [y1,y2,y3,y4],
  .call 25 [vP db 0] (.tuple #[]),
  Yx 31 gD (.agg #[y1,y2,y3,y4])]
 (.tuple #[.agg #[y1,y2,y3,y4],vI e,vI 0]):=lV
theorem c24 {b sz:Nat}{rest:List ae}(hd:m.deaf=0)(h:Obj m b sz (.int .i32 0::rest))(hw:m.dh b 0 1=true):∃m',Ev K 24 [vP b 0] m (.tuple #[]) m'/\Obj m' b sz (.int .i32 1::rest)/\Kp m m' (fun x=>x=b):=by
 obtain⟨m1,e1,o1,k1⟩:=c65 (K:=K) (m:=VL m (m.deaf+1)) (y:=1) h.df hw;have Uj:m1.deaf=1:=by rw[k1.deaf];show m.deaf+1=1;rw[hd]
 have o2:Obj (VL m1 (m1.deaf-1)) b sz (.int .i32 1::rest):=o1.df;refine⟨VL m1 (m1.deaf-1),aY (p24 b) (.call (aY (p36 b) (.call c64<| .call e1<| .cond rfl<| .cond rfl<| .call c66<| .mem (OU o2)<| .call c67 .nil)) .nil),o2,k1.df (by rw[Uj,hd])⟩
theorem c25 {b sz:Nat}{rest:List ae}(hd:m.deaf=0)(h:Obj m b sz (.int .i32 1::rest))(hw:m.dh b 0 1=true):∃m',Ev K 25 [vP b 0] m (.tuple #[]) m'/\Obj m' b sz (.int .i32 0::rest)/\Kp m m' (fun x=>x=b):=by
 obtain⟨m1,e1,o1,k1⟩:=c70 (K:=K) (m:=VL m (m.deaf+1)) (y:= -1) h.df hw;have tY:bU.i32.wrap (1+ -1)=0:=eS;rw[tY]at e1 o1;have Uj:m1.deaf=1:=by rw[k1.deaf];show m.deaf+1=1;rw[hd]
 have l1:aD b 0 m=some (.int .i32 1,m):=aS h rfl;refine⟨VL m1 (m1.deaf-1),aY (p25 b) (.call (aY (p37 b) (.cond rfl<| .mem l1<| .mem (OU h)<| .call c69<| .call c64<| .call e1<| .cond rfl<| .call c66 .nil)) .nil),o1.df,k1.df (by rw[Uj,hd])⟩
end
end Go.AM
namespace Go.AM
set_option maxRecDepth 1000000
open Go Go.Conc Go.Proofs
def Room (sz:Nat)(m:Mem)(sv:ae)(o:Option Nat):Prop:=(o=none/\sv= .slice none 0 0)\/∃b l xs,o=some b/\sv=vL b 0 l cH/\RO m b sz xs/\l*sz<=xs.length
theorem Yy {zc:Array ae}{n:Nat}(h:∀y∈zc.toList,y.oneCell'=true):(Builtin.zeroCells zc n).toList.length=n*zc.size/\((Builtin.zeroCells zc n).toList.all (·.oneCell'))=true:=by
 unfold Builtin.zeroCells;refine⟨du,?_⟩;rw[aB];intro y hy;simp only[Array.toList_map,Array.toList_range,List.mem_map,List.mem_range]at hy;obtain⟨i,hi,rfl⟩:=hy;have hs:0<zc.size:=by
  rcases Nat.eq_zero_or_pos zc.size with e|e
  ·rw[e]at hi;simp at hi
  ·exact e
 rw[getElem!_pos zc _ (Nat.mod_lt _ hs)];exact h _ (Array.getElem_mem_toList _)
def ij {α:Type}(st:Nat->List α):Nat->Nat->List α->List α
 |0,_,acc=>acc
 |n+1,i,acc=>ij st n (i+1) (acc++st i)
structure Av (K:fZ)(m0:Mem)(X:Nat->Prop)(fs:Nat)(cap:Array ae){α:Type}(E:oD α)(sz:Nat)(st:Nat->List α)(hi:Nat):Prop where
 one:∀i,(st i).length<=1
 run:∀(mw:Mem) (BO BE:Nat->Prop) (acc:List α) (sv:ae) (i:Nat),i<hi->Gd mw->sJ (fun b=>¬X b) m0 mw->mz E sz BO BE mw acc sv->(∀b,BO b->(X b\/m0.next<=b)/\b<mw.next)->(∀b,BE b->m0.next<=b/\b<mw.next)->acc.length<2^29->
  ∃vD m' QW Ky,Ev K fs ([sv,vI (i:Int)]++cap.toList) mw (.tuple #[vD,vI 0]) m'/\Kp mw m' BO/\mz E sz QW Ky m' (acc++st i) vD/\(∀b,QW b->BO b\/jD mw m' b)/\(∀b,Ky b->BE b\/jD mw m' b)
section
variable {K:fZ}{m:Mem}{fl go sh ga em t sz:Nat}
theorem acS (L:Kin fl go sh ga em t)(ht:sI.contains (t,sz)=true){α:Type}{E:oD α}{sv:ae}{o:Option Nat}(h:Room sz m sv o)(hw:∀b,o=some b->Own m b):
  ∃vD m',Ev K em [sv] m vD m'/\Kp m m' (fun y=>o=some y)/\mz E sz (fun y=>o=some y) fu m' [] vD:=by
 obtain⟨e,z,s,h1,hz,hs,Vx,hz1⟩:=uG L.und;obtain⟨e',h3,h4,h0,_⟩:=sH ht;rw[h1]at h3;cases h3;rw[hs]at h4;cases h4;rcases h with⟨rfl,rfl⟩|⟨b,l,xs,rfl,rfl,ro,hl⟩
 ·have x1:j8 ab #[t] (.slice none 0 0) m=some (.tuple #[],m):=by
   unfold j8
   show(match ab.underlying t,(ae.slice none 0 0)with |some (.slice e),.slice base n _=>_|_,_=>none)=_
   rw[h1]
  have x2:lB ab t (.slice none 0 0) none (some (vI 0)) m=some (.slice none 0 0,m):=by
   unfold lB iy;simp only[h1,hs,gH];simp[cH]
  exact⟨.slice none 0 0,m,aY (L.Sw 0 0 none _) (.mem x1<| .mem x2 .nil) L.spec.1,.refl _ _,.inl ⟨rfl,rfl⟩⟩
 ·have ob:Obj m b sz xs:=ro.obj (by
   have :=hw b rfl;unfold Own Mem.fA at this;simp only[ag,Bool.not_eq_true']at this;exact this.1.1)
  have wY:∀m',lB ab t (vL b 0 l cH) none (some (vI 0)) m'=some (vL b 0 0 cH,m'):=fun m'=>by
   unfold lB iy;simp only[h1,hs,gH];simp[cH]
  by_cases hl0:l=0
  ·subst hl0;have x1:j8 ab #[t] (vL b 0 0 cH) m=some (.tuple #[],m):=by
    unfold j8
    show(match ab.underlying t,(vL b 0 0 cH)with |some (.slice e),.slice base n _=>_|_,_=>none)=_
    rw[h1];simp
   exact⟨vL b 0 0 cH,m,aY (L.Sw 0 cH (some ⟨b,0,none⟩) _) (.mem x1<| .mem (wY m) .nil) L.spec.1,.refl _ _,.inr ⟨b,[],xs,rfl,⟨rfl,id⟩,hw b rfl,ob,rfl⟩⟩
  ·obtain⟨z1,z2⟩:=Yy (n:=l) hz1;rw[Vx]at z1;obtain⟨m',e1,o1,k1⟩:=uJ (o:=0) (Builtin.zeroCells z.cells l).toList ob ((hw b rfl).may _ _) ai z2;have x1:j8 ab #[t] (vL b 0 l cH) m=some (.tuple #[],m'):=by
    unfold j8
    show(match ab.underlying t,(vL b 0 l cH)with |some (.slice e),.slice base n _=>_|_,_=>none)=_
    rw[h1];simp only[hl0,if_false,hz,dq,e1,cU]
   exact⟨vL b 0 0 cH,m',aY (L.Sw l cH (some ⟨b,0,none⟩) _) (.mem x1<| .mem (wY m') .nil) L.spec.1,k1.mono fun y _ h=>by rw[h],.inr ⟨b,[],_,rfl,⟨rfl,id⟩,(hw b rfl).ext k1,o1,rfl⟩⟩
theorem aly (L:Kin fl go sh ga em t)(ht:sI.contains (t,sz)=true){α:Type}{E:oD α}{m0:Mem}{X:Nat->Prop}{fs fr to hi d o szd:Nat}{cap:Array ae}{st:Nat->List α}{ob:Option Nat}{sv0:ae}{cs:List ae}(fp:Av K m0 X fs cap E sz st hi)(g:Gd m)(hsm:sJ (fun b=>¬X b) m0 m)(ro:RO m d szd cs)(h0:cs[o]?=some sv0)(h1:o+1<cs.length)
  (tZ:Room sz m sv0 ob)(vr:∀b,ob=some b->Own m b)(hX:∀b,ob=some b->X b/\b≠d/\b<m.next)(hm:meets m.bh d o 1=false)(hw0:m.dh d o 1=true)(Oo:m.dh d (o+1) 1=true)(hf:fr<=to)(hh:to<=hi)(hs:to<90000):
  ∃sv m' BO BE,Ev K sh [vP d o,vI fr,vI to,.func (.func fs) #[] cap] m (.tuple #[]) m'/\Kp m m' (fun y=>y=d\/ob=some y)/\RO m' d szd ((cs.set o sv).set (o+1) (vI 0))/\
   mz E sz BO BE m' (ij st (to-fr) fr []) sv/\(∀b,BO b->ob=some b\/jD m m' b)/\∀b,BE b->jD m m' b:=by
 obtain⟨Q,hQ⟩:∃Q,Q=ij st (to-fr) fr []:=⟨_,rfl⟩;rw[<-hQ];obtain⟨F,hF⟩:∃F:ae,F= .func (.func fs) #[] cap:=⟨_,rfl⟩;obtain⟨Q1,m1,e1,k1,Oa⟩:=acS (K:=K) L ht (E:=E) tZ vr;obtain⟨a0,n0,c0,rfl⟩:∃a n c,sv0= .slice a n c:=by rcases tZ with⟨_,rfl⟩|⟨_,_,_,_,rfl,_⟩<;>exact⟨_,_,_,rfl⟩
 have hXm:∀{m'},Kp m m' (fun y=>ob=some y)->sJ (fun b=>¬X b) m0 m':=fun k=>hsm.trans (k.same fun b hb e=>hb (hX b e).1)
 obtain⟨t0,w0,e0⟩:=aR (K:=K) (m:=m) (m':=m1) (tm:=entry [vP d o,vI fr,vI to,.func (.func fs) #[] cap]) (L.aa1 d o fr to fs n0 c0 cap a0 Q1) rfl (.mem (ro.ld1 h0 hm)<| .call e1 .nil);obtain⟨e,t1,m2,he,hx,rfl,sv,BA,BE,hg,k2,Vv,hB2,hE2⟩:=eI (K:=K) (nt:=eY sh) (a:=oJ (bN sh) [2]) (to-fr)
  (Inv:=fun j tm m'=>∃sv BA BE acc,bu [0,2,3,8,9,10] tm=[vP d o,vI to,F,sv,vI 0,vI (fr+j:Nat)]/\Kp m m' (fun y=>ob=some y)/\mz E sz BA BE m' acc sv/\(∀b,BA b->ob=some b\/jD m m' b)/\(∀b,BE b->jD m m' b)/\acc.length<=j/\ij st (to-fr-j) (fr+j) acc=Q)
  (dm:=fun e tm m'=>e= .exit 0/\∃sv BA BE,bu [0,8,9] tm=[vP d o,sv,vI 0]/\Kp m m' (fun y=>ob=some y)/\mz E sz BA BE m' Q sv/\(∀b,BA b->ob=some b\/jD m m' b)/\∀b,BE b->jD m m' b)
  (by
   rintro j tm m2 hj ⟨sv,BA,BE,acc,hg,kk,ls,hB,hE,ZD,hq⟩;rw[hF]at hg;have nk:=kk.next;have nh:=hsm.next;obtain⟨vD,m3,BA',Ky,e3,k3,ls3,hB3,hE3⟩:=fp.run m2 BA BE acc sv (fr+j) ai (g.ext kk) (hXm kk) ls (fun b hb=>by
    rcases hB b hb with h|h
    ·exact⟨.inl (hX b h).1,by have :=(hX b h).2.2;omega⟩
    ·exact⟨.inr (by have :=h.1;omega),h.2⟩) (fun b hb=>⟨by have :=(hE b hb).1;omega,(hE b hb).2⟩) ai
   have e3':Ev K fs ((#[]:Array ae).toList++[sv,vI (fr+j:Nat)]++cap.toList) m2 (.tuple #[vD,vI 0]) m3:=e3;obtain⟨t2,cN,cz⟩:=aI (K:=K) (m:=m2) (m':=m3) L.NO (L.aa0 d o to (fr+j) fs cap sv vD) hg (.rp (GK ai)<| .cond rfl<| .bM e3' .nil);rw[show to-fr-j=(to-fr-(j+1))+1 by omega]at hq;have nx:=k3.next;refine .inl ⟨t2,m3,cN,vD,BA',Ky,acc++st (fr+j),by rw[cz,add1 ai,hF];rfl,?_,ls3,fun b hb=>?_,fun b hb=>?_,by have :=fp.one (fr+j);simp;omega,hq⟩
   ·exact kk.trans k3 fun b hb h=>by
     rcases hB b h with h|h
     ·exact h
     ·exact absurd h.1 ai
   ·rcases hB3 b hb with h|h
    ·rcases hB b h with h|h
     ·exact .inl h
     ·exact .inr ⟨h.1,by have :=h.2;omega⟩
    ·exact .inr ⟨by have :=h.1;omega,h.2⟩
   ·rcases hE3 b hb with h|h
    ·have :=hE b h;exact⟨this.1,by have :=this.2;omega⟩
    ·exact⟨by have :=h.1;omega,h.2⟩)
  (by
   rintro tm m2 ⟨sv,BA,BE,acc,hg,kk,ls,hB,hE,ZD,hq⟩;rw[hF,show fr+(to-fr)=to by omega]at hg;rw[Nat.sub_self]at hq;have hq:acc=Q:=hq;subst hq;obtain⟨t2,cN,cz⟩:=aI (K:=K) (m:=m2) (m':=m2) L.NO (L.aaZ d o to to fs cap sv) hg (.rp (Ed _)<| .cond rfl .nil);exact⟨_,t2,m2,g8,cN,rfl,sv,BA,BE,cz,kk,ls,hB,hE⟩)
  (tm:=t0) (m:=m1) ⟨Q1,_,fu,[],by rw[e0,hF];rfl,k1,Oa,fun b h=> .inl h,fun b h=>h.elim,aj _,by rw[hQ];rfl⟩ ai
 have ho:o<cs.length:=ai;have hd:¬ob=some d:=fun e=>(hX d e).2.1 rfl
 obtain⟨a,cc,xT⟩:=Vv.form;obtain⟨m3,e3,r3,k3,n3⟩:=(ro.ext k2 hd).iq (o:=o) sv (GF k2 hw0) ho Vv.one;obtain⟨m4,e4,r4,k4,n4⟩:=r3.iq (o:=o+1) (vI 0) (GF k3 (GF k2 Oo)) (by simpa using h1) rfl;subst xT;obtain⟨t2,h2,e2⟩:=aR (K:=K) (m:=m2) (m':=m4) (L.aaY d o Q.length cc a) hg (.mem e3<| .mem e4 .nil);have k24:Kp m2 m4 (fun y=>y=d):=k3.trans k4 fun _ _ h=>h
 have n24:=k24.next;have n02:=k2.next;have VD:=ro.lt;refine⟨_,m4,BA,BE,eB L.abm (aA.cut w0 (aA.E3 L.abC L.abF hx rfl (aA.last h2 L.Tt))) (.inl rfl) e2 L.spec.2.1,?_,r4,Vv.ext k24 fun b hb e=>?_,fun b hb=>?_,fun b hb=>⟨(hE2 b hb).1,by have :=(hE2 b hb).2;omega⟩⟩
 ·exact(k2.mono fun _ _ h=> .inr h).trans k24 fun _ _ h=> .inl h
 ·rcases hb with hb|hb
  ·rcases hB2 b hb with h|h
   ·exact(hX b h).2.1 e
   ·have :=h.1;omega
  ·have :=(hE2 b hb).1;omega
 ·rcases hB2 b hb with h|h
  ·exact .inl h
  ·exact .inr ⟨h.1,by have :=h.2;omega⟩
end
end Go.AM
namespace Go.AM
set_option maxRecDepth 1000000
open Go Go.Conc Go.Proofs
structure BoP (d N:Nat)(bo:Nat->Option Nat):Prop where
 ne:∀{j b},bo j=some b->b≠d/\b<N
 inj:∀{i j b},bo i=some b->bo j=some b->i=j
def vi (d q:Nat)(bo:Nat->Option Nat)(j:Nat):List Span:=sp d (q+2*j)::sp d (q+2*j+1)::(match bo j with |none=>[] |some b=>[(b,b+1,none)])
def tI (d q:Nat)(bo:Nat->Option Nat):Nat->List Span
 |0=>vi d q bo 3++(vi d q bo 2++(vi d q bo 1++vi d q bo 0))
 |1=>vi d q bo 3++(vi d q bo 2++vi d q bo 1)
 |2=>vi d q bo 3++vi d q bo 2
 |3=>vi d q bo 3
 |_=>[]
def Ys (s t:Span):Bool:=s.1 !=t.1||(match s.2.2,t.2.2 with |some x,some y=>x !=y|_,_=>false)
section
variable {d q N:Nat}{bo:Nat->Option Nat}
theorem ns {j:Nat}{s:Span}:s∈vi d q bo j↔s=sp d (q+2*j)\/s=sp d (q+2*j+1)\/∃b,bo j=some b/\s=(b,b+1,none):=by
 unfold vi;cases h:bo j<;>simp
theorem Na (hP:BoP d N bo){i j:Nat}(jq:i≠j){s t:Span}(hs:s∈vi d q bo i)(ht:t∈vi d q bo j):Ys s t=true:=by
 rcases ns.1 hs with rfl|rfl|⟨b,hb,rfl⟩<;>rcases ns.1 ht with rfl|rfl|⟨c,hc,rfl⟩<;>simp only[Ys,sp]
 ·simp;omega
 ·simp;omega
 ·simp;exact fun e=>(hP.ne hc).1 e.symm
 ·simp;omega
 ·simp;omega
 ·simp;exact fun e=>(hP.ne hc).1 e.symm
 ·simp;exact(hP.ne hb).1
 ·simp;exact(hP.ne hb).1
 ·simp;exact fun e=>jq (hP.inj hb (e▸hc))
theorem Yr {s:Span}(h:Ys s s=true):False:=by
 unfold Ys at h;obtain⟨a,b,c⟩:=s;cases c<;>simp at h
theorem yu:∀{A B:List Span},js A=true->js B=true->(∀s∈A,∀t∈B,Ys s t=true)->js (A++B)=true
 | [],B,_,h,_=>h
 |s::A,B,h,h',k=>by
  have h:((A.all fun t=>Ys s t)&&js A)=true:=h;rw[ag]at h
  show(((A++B).all fun t=>Ys s t)&&js (A++B))=true
  rw[ag,List.all_append,ag];exact⟨⟨h.1,aB.2 (k s (List.mem_cons_self ..))⟩,yu h.2 h' fun t ht=>k t (List.mem_cons_of_mem _ ht)⟩
theorem FH (hP:BoP d N bo)(j:Nat):js (vi d q bo j)=true:=by
 unfold vi;cases h:bo j with
 |none=>simp[js,sp]
 |some b=>
  have :=(hP.ne h).1;simp[js,sp,this.symm]
theorem uM {j:Nat}(hj:j<4):tI d q bo j=tI d q bo (j+1)++vi d q bo j:=by
 match j,hj with
 |0,_=>simp[tI]
 |1,_=>simp[tI]
 |2,_=>simp[tI]
 |3,_=>simp[tI]
theorem xK {j:Nat}(hj:j<=4){s:Span}(h:s∈tI d q bo j):∃k,j<=k/\k<4/\s∈vi d q bo k:=by
 induction k:4-j generalizing j with
 |zero=>
  have :j=4:=ai;subst this;cases h
 |succ k ih=>
  rw[uM ai]at h;rcases List.mem_append.1 h with h|h
  ·obtain⟨x,h1,h2,h3⟩:=ih ai h ai;exact⟨x,ai,h2,h3⟩
  ·exact⟨j,aj _,ai,h⟩
theorem Du (hP:BoP d N bo):∀(k:Nat) {j:Nat},j+k=4->js (tI d q bo j)=true
 |0,j,h=>by
  have :j=4:=ai;subst this;rfl
 |k+1,j,h=>by
  rw[uM ai];refine yu (Du hP k ai) (FH hP j) fun s hs t ht=>?_
  obtain⟨x,h1,h2,h3⟩:=xK ai hs;exact Na hP ai h3 ht
theorem JN (hP:BoP d N bo){j:Nat}(hj:j<4):((tI d q bo j).filter fun s=> !(vi d q bo j).contains s)=tI d q bo (j+1):=by
 rw[uM hj,List.filter_append,List.filter_eq_self.2,List.filter_eq_nil_iff.2,List.append_nil]
 ·intro s hs;simpa using hs
 ·intro s hs;obtain⟨x,h1,h2,h3⟩:=xK ai hs;rw[Bool.not_eq_true',Bool.eq_false_iff];intro hc;exact Yr (Na hP (show x≠j by omega) h3 (by simpa using hc))
theorem Bv {j:Nat}{s:Span}(h:s∈vi d q bo j):s.2.1=s.1+1:=by
 rcases ns.1 h with rfl|rfl|⟨b,hb,rfl⟩<;>rfl
theorem QP {s t:Span}(h:Ys s t=true)(hs:s.2.1=s.1+1)(ht:t.2.1=t.1+1):wS s t=true:=by
 unfold Ys at h;unfold wS;rw[Bool.or_eq_true]at h;rcases h with h|h
 ·have h:s.1≠t.1:=by simpa using h
  rcases Nat.lt_or_gt_of_ne h with h|h
  ·rw[Nat.ble_eq_true_of_le ai];rfl
  ·rw[show Nat.ble t.2.1 s.1=true from Nat.ble_eq_true_of_le ai];simp
 ·rw[Bool.or_eq_true];exact .inr h
theorem xM (hP:BoP d N bo)(hd:d<N){j:Nat}{s:Span}(h:s∈vi d q bo j):s.2.1<=N:=by
 rcases ns.1 h with rfl|rfl|⟨b,hb,rfl⟩
 ·exact hd
 ·exact hd
 ·exact(hP.ne hb).2
theorem CX {j b:Nat}(hb:b≠d)(KI:bo j≠some b){s:Span}(h:s∈vi d q bo j)(h1:s.1<=b)(h2:b<s.2.1):False:=by
 rcases ns.1 h with rfl|rfl|⟨c,hc,rfl⟩
 ·exact hb (by unfold sp at h1 h2;simp at h1 h2;omega)
 ·exact hb (by unfold sp at h1 h2;simp at h1 h2;omega)
 ·simp at h1 h2;have :b=c:=ai;exact KI (this▸hc)
end
structure H2 (S:Nat->Prop)(M M':Mem):Prop where
 next:M.next<=M'.next
 blk:∀b,b<M.next->¬S b->M'.blk b=M.blk b
theorem H2.trans{S:Nat->Prop}{M M1 M2:Mem}(h:H2 S M M1)(k:H2 S M1 M2):H2 S M M2:=⟨bV h.next k.next,fun b hb hd=>(k.blk b (aW hb h.next) hd).trans (h.blk b hb hd)⟩
theorem H2.mono{S S':Nat->Prop}{M M':Mem}(h:H2 S M M')(k:∀b,b<M.next->S b->S' b):H2 S' M M':=⟨h.next,fun b hb hs=>h.blk b hb fun x=>hs (k b hb x)⟩
theorem Kp.Vt{M M':Mem}{S:Nat->Prop}(k:Kp M M' S):H2 S M M':=⟨k.next,k.blk⟩
structure DF (M:Mem)(w d q N0 Np j:Nat)(bo:Nat->Option Nat):Prop where
 sd:Sd M
 wg:M.wg=some w
 pend:M.pend.length=j
 bd:M.base<=d/\∀k b,bo k=some b->M.base<=b
 opn:M.opn=tI d q bo j
 bh:∀t∈M.bh,(∃k,k<j/\t∈vi d q bo k)\/(t.2.2=none/\N0<=t.1/\t.2.1<=Np)
 dn:d<N0
 bp:BoP d N0 bo
 n0:N0<=Np
 np:Np<=M.next
theorem DF.ext{M M':Mem}{w d q N0 Np j:Nat}{bo:Nat->Option Nat}(h:DF M w d q N0 Np j bo)(k:Kp M M' fu):DF M' w d q N0 Np j bo:=
 ⟨h.sd.ext k,k.wg.trans h.wg,by rw[k.pend];exact h.pend,by rw[k.base];exact h.bd,k.opn.trans h.opn,by rw[k.bh];exact h.bh,h.dn,h.bp,h.n0,bV h.np k.next⟩
theorem DF.Bu{M:Mem}{w d q N0 Np j b:Nat}{bo:Nat->Option Nat}(h:DF M w d q N0 Np j bo)(hb:b≠d)(KI:∀k,k<j->bo k≠some b)(hc:b<N0\/Np<=b):aJ M.bh b=false:=by
 refine gQ fun x hx h1 h2=>?_
 rcases h.bh x hx with⟨k,hk,hx⟩|⟨h3,h4,h5⟩
 ·exact CX hb (KI k hk) hx h1 h2
 ·omega
section
variable {K:fZ}{fl go sh ga em t sz:Nat}
theorem Uv (L:Kin fl go sh ga em t)(ht:sI.contains (t,sz)=true){α:Type}{E:oD α}{X:Nat->Prop}{fs hi szd:Nat}{cap:Array ae}{st:Nat->List α}{m0 M aV:Mem}{w d q N0 Np j t0 t5 bi bf bt fr to:Nat}{bo:Nat->Option Nat}{cs:List ae}{sv0:ae}(hK:FL K)(fp:Av KW m0 X fs cap E sz st hi)(hXd:X d)(hXb:∀k b,bo k=some b->X b)
  (hm0:m0.next<=N0)(hv0:m0.bh=[])(h0:∀b,b<m0.next->¬X b->aV.blk b=m0.blk b)(XJ:kU w d q M=some aV)(hj:j<4)(ll:DF aV w d q N0 Np j bo)
  (fI:rX X0 (.func (.func go) #[] #[vP t0 0,vP bi 0,vP bf 0,vP bt 0,vP t5 0]) M=some (d,q,j))(ro:RO aV d szd cs)(hlen:q+8<cs.length)(xT:cs[q+2*j]?=some sv0)(tZ:Room sz aV sv0 (bo j))
  (r0:RO aV t0 0 [vP d q])(ri:RO aV bi 0 [vI (j:Int)])(rf:RO aV bf 0 [vI (fr:Int)])(rt:RO aV bt 0 [vI (to:Int)])(r5:RO aV t5 0 [.func (.func fs) #[] cap])
  (Ug:∀x,x=t0\/x=bi\/x=bf\/x=bt\/x=t5->x≠d/\(∀k,bo k≠some x)/\(x<N0\/Np<=x))(hf:fr<=to)(hh:to<=hi)(hs:to<90000):
  ∃sv mw m2 BA BE M',Ev K 137 [vP w 0,.func (.func go) #[] #[vP t0 0,vP bi 0,vP bf 0,vP bt 0,vP t5 0]] M (.tuple #[]) M'/\DF M' w d q N0 M'.next (j+1) bo/\M'.base=aV.base/\M'.home=aV.home/\RO M' d szd ((cs.set (q+2*j) sv).set (q+2*j+1) (vI 0))/\
   mz E sz BA BE m2 (ij st (to-fr) fr []) sv/\(∀b,BA b->bo j=some b\/jD mw m2 b)/\(∀b,BE b->jD mw m2 b)/\(∀b,M'.blk b=m2.blk b)/\M'.next=m2.next/\aV.next<=mw.next/\H2 (fun b=>b=d\/bo j=some b) aV M':=by
 have hsd:=ll.sd;have hP:=ll.bp;obtain⟨dL,G8⟩:∃dL:ae,dL= .func (.func go) #[] #[vP t0 0,vP bi 0,vP bf 0,vP bt 0,vP t5 0]:=⟨_,rfl⟩;obtain⟨mb,Qd⟩:∃mb,mb=lq aV w dL:=⟨_,rfl⟩;have nb:mb.next=aV.next+2:=by rw[Qd];rfl
 have hbh:mb.bh=aV.bh:=by rw[Qd];rfl
 have KI:mb.opn=aV.opn:=by rw[Qd];rfl
 have ny:mb.base=aV.base:=by rw[Qd];rfl
 have ak0:mb.home=aV.home:=by rw[Qd];rfl
 have ZL:mb.wg=aV.wg:=by rw[Qd];rfl
 have hbp:mb.pend=aV.pend:=by rw[Qd];rfl
 have tj:mb.deaf=aV.deaf:=by rw[Qd];rfl
 have j7:∀b,b<aV.next->mb.blk b=aV.blk b:=fun b hb=>by rw[Qd];exact Ym hb
 have ron:∀{b sz:Nat}{xs:List ae},RO aV b sz xs->RO mb b sz xs:=fun h=>by
  have e:=j7 _ h.lt;exact⟨by have :=h.lt;omega,by rw[e];exact h.kind,by rw[e];exact h.sz,by rw[e];exact h.cs⟩
 obtain⟨l,hl⟩:∃l,l=vi d q bo j:=⟨_,rfl⟩;obtain⟨rest,gS⟩:∃r,r=tI d q bo (j+1):=⟨_,rfl⟩;have hdN:=ll.dn;have hnN:=ll.n0;have hnp:=ll.np;have Oz:∀(T:List Span) x,(x=q+2*j\/x=q+2*j+1)->(∀t∈T,(∃k,k≠j/\t∈vi d q bo k)\/(t.2.2=none/\N0<=t.1/\t.2.1<=Np))->meets T d x 1=false:=by
  intro T x hx hT;unfold meets;rw[List.any_eq_false];intro t ht;rcases hT t ht with⟨k,hk,hs⟩|⟨h1,h2,h3⟩
  ·rcases ns.1 hs with rfl|rfl|⟨c,hc,rfl⟩
   ·simp only[sp,ag,iB];rintro⟨_,h5,h6⟩;omega
   ·simp only[sp,ag,iB];rintro⟨_,h5,h6⟩;omega
   ·simp only[ag,iB];rintro⟨⟨h5,h6⟩,_⟩;exact(hP.ne hc).1 ai
  ·simp only[ag,iB];rintro⟨⟨h5,_⟩,_⟩;omega
 have XI:∀t∈aV.bh,(∃k,k≠j/\t∈vi d q bo k)\/(t.2.2=none/\N0<=t.1/\t.2.1<=Np):=fun t ht=>by
  rcases ll.bh t ht with⟨k,hk,h⟩|h
  ·exact .inl ⟨k,ai,h⟩
  ·exact .inr h
 have IB:∀t∈rest,∃k,k≠j/\k<4/\t∈vi d q bo k:=fun t ht=>by
  rw[gS]at ht;obtain⟨k,h1,h2,h3⟩:=xK ai ht;exact⟨k,ai,h2,h3⟩
 have ace:∀x,x=q+2*j\/x=q+2*j+1->meets aV.bh d x 1=false:=fun x hx=>Oz _ x hx XI
 have hle:∀t∈aV.bh,t.2.1<=Np:=by
  intro t ht;rcases ll.bh t ht with⟨k,hk,h⟩|⟨h1,h2,h3⟩
  ·have :=xM hP hdN h;omega
  ·exact h3
 have ahi:z9 mb d q j=some l:=by
  unfold z9;rw[(ron ro).GO xT (by rw[hbh];exact ace _ (.inl rfl)),hl];unfold vi;rcases tZ with⟨h1,rfl⟩|⟨b,lb,xs,h1,rfl,_⟩
  ·rw[h1];rfl
  ·rw[h1];rfl
 obtain⟨mw,Oy⟩:∃mw,mw=dD mb l rest:=⟨_,rfl⟩;have nw:mw.next=mb.next:=by rw[Oy];rfl
 have hwh:mw.bh=rest++aV.bh:=by rw[Oy];show rest++mb.bh=_;rw[hbh]
 have hwo:mw.opn=l:=by rw[Oy];rfl
 have hwb:mw.base=aV.base:=by rw[Oy];exact ny
 have DL:mw.floor=mb.next:=by rw[Oy];rfl
 have TS:∀b,mw.blk b=mb.blk b:=fun b=>by rw[Oy];rfl
 have row:∀{b sz:Nat}{xs:List ae},RO aV b sz xs->RO mw b sz xs:=fun h=>by
  have h:=ron h;have e:=TS;exact⟨by have :=h.lt;omega,by rw[e];exact h.kind,by rw[e];exact h.sz,by rw[e];exact h.cs⟩
 have Bu:∀b,b≠d->(∀k,k≠j->bo k≠some b)->(b<N0\/Np<=b)->aJ mw.bh b=false:=by
  intro b hb hk hc;rw[hwh];refine gQ fun x hx h1 h2=>?_
  rcases List.mem_append.1 hx with hx|hx
  ·obtain⟨k,Mn,_,hs⟩:=IB x hx;exact CX hb (hk k Mn) hs h1 h2
  ·rcases XI x hx with⟨k,Mn,hs⟩|⟨h3,h4,h5⟩
   ·exact CX hb (hk k Mn) hs h1 h2
   ·omega
 have gw:Gd mw:=by
  refine⟨by rw[Oy];rfl,by rw[Oy];exact tj.trans hsd.deaf,by rw[hwb,DL];have :=hsd.bf;have :=hsd.fn;omega,by rw[DL,nw];exact aj _,by rw[Oy];exact aj _,fun s hs=>?_⟩;rw[hwh]at hs;rcases List.mem_append.1 hs with hs|hs
  ·obtain⟨k,_,_,h⟩:=IB s hs;have :=xM hP hdN h;omega
  ·have :=hle s hs;omega
 have eF:sJ (fun b=>¬X b) m0 mw:=by
  refine⟨ai,fun b hb hl=>⟨?_,fun _=>Bu b (fun e=>hb (e▸hXd)) (fun k _ e=>hb (hXb k b e)) (.inl ai)⟩⟩;rw[TS,j7 b ai,h0 b hl hb]
 have ahe:∀x,x=q+2*j\/x=q+2*j+1->meets mw.bh d x 1=false:=by
  intro x hx;rw[hwh];refine Oz _ x hx fun t ht=>?_
  rcases List.mem_append.1 ht with ht|ht
  ·obtain⟨k,h1,_,h2⟩:=IB t ht;exact .inl ⟨k,h1,h2⟩
  ·exact XI t ht
 have hww:∀x,x=q+2*j\/x=q+2*j+1->mw.dh d x 1=true:=by
  intro x hx;unfold Mem.dh;rw[ahe x hx,hwo,hwb];have JC:bz l d (x+0)=true:=by
   unfold bz;rw[hl,List.any_eq_true];exact⟨sp d x,ns.2 (by rcases hx with rfl|rfl<;>simp),by simp[sp]⟩
  have tj:=ll.bd.1;simp only[Bool.not_false,Bool.true_and,ag,Bool.or_eq_true,iB];refine⟨tj,.inr ?_⟩
  show((List.range 1).all fun i=>bz l d (x+i))=true
  rw[aB];intro i hi;have :i=0:=by simpa using hi
  subst this;exact JC
 have vr:∀b,bo j=some b->Own mw b:=by
  intro b hb;unfold Own Mem.fA;rw[Bu b (hP.ne hb).1 (fun k hk e=>hk (hP.inj e hb)) (.inl (hP.ne hb).2),hwo,hwb];have h1:=ll.bd.2 j b hb;have h2:gI l b=true:=by
   unfold gI;rw[hl,List.any_eq_true];exact⟨(b,b+1,none),ns.2 (.inr (.inr ⟨b,hb,rfl⟩)),du⟩
  rw[h2];simp[h1]
 have ab2:Room sz mw sv0 (bo j):=by
  rcases tZ with h|⟨b,lb,xs,h1,h2,h3,h4⟩
  ·exact .inl h
  ·exact .inr ⟨b,lb,xs,h1,h2,row h3,h4⟩
 have rod:=row ro;obtain⟨sv,m2,BA,BE,alo,k2,ro2,CH,HX,HW⟩:=aly (K:=KW) (fr:=fr) (to:=to) (d:=d) (o:=q+2*j) L ht fp gw eF rod xT ai ab2 vr (fun b hb=>⟨hXb j b hb,(hP.ne hb).1,by have :=(hP.ne hb).2;omega⟩) (ahe _ (.inl rfl)) (hww _ (.inl rfl)) (hww _ (.inr rfl)) hf hh hs;have Ru:∀x,x=t0\/x=bi\/x=bf\/x=bt\/x=t5->aJ mw.bh x=false:=fun x hx=>Bu x (Ug x hx).1 (fun k _=>(Ug x hx).2.1 k) (Ug x hx).2.2
 have l0:=aS (o:=0) ((row r0).obj (Ru _ du)) rfl;have l1:=aS (o:=0) ((row ri).obj (Ru _ du)) rfl;have l2:=aS (o:=0) ((row rf).obj (Ru _ du)) rfl;have l3:=aS (o:=0) ((row rt).obj (Ru _ du)) rfl;have l4:=aS (o:=0) ((row r5).obj (Ru _ du)) rfl;have alp:Ev KW go [vP t0 0,vP bi 0,vP bf 0,vP bt 0,vP t5 0] mw (.tuple #[]) m2:=
  aY (L.aa4 t0 bi bf bt t5 d q j fr to fs cap) (.mem l0<| .mem l1<| .idx rfl hj<| .mem l2<| .mem l3<| .mem l4<| .mem (aK gw)<| .call (by rw[show q+j*2=q+2*j by omega];exact alo) .nil) L.spec.2.2.1
 obtain⟨M',Rb⟩:∃M',M'=jG mb m2 l rest:=⟨_,rfl⟩;have gu:Ev KW go (#[vP t0 0,vP bi 0,vP bf 0,vP bt 0,vP t5 0]:Array ae).toList (dD (lq aV w (.func (.func go) #[] #[vP t0 0,vP bi 0,vP bf 0,vP bt 0,vP t5 0])) l rest) (.tuple #[]) m2:=by
  rw[<-G8,<-Qd,<-Oy];exact alp
 have KH:m2.deaf=0:=by rw[k2.deaf];exact gw.deaf
 have hgo:=RU hK fI XJ (by rw[<-G8,<-Qd];exact ahi) (rest:=rest) (by rw[gS,hl,ll.opn,JN hP hj]) hsd.deaf (by rw[ll.pend];exact hj)
  (by
   rw[aB,hl];intro s hs;rw[ll.opn,uM hj];simp[hs])
  (by rw[hl];exact FH hP j)
  (by
   rw[aB,hl];intro s hs;rw[aB];intro t ht;have :(∃k,k≠j/\t∈vi d q bo k)\/(t.2.2=none/\N0<=t.1/\t.2.1<=Np):=by
    rcases List.mem_append.1 ht with ht|ht
    ·obtain⟨k,h1,_,h2⟩:=IB t ht;exact .inl ⟨k,h1,h2⟩
    ·exact XI t ht
   rcases this with⟨k,h1,h2⟩|⟨h1,h2,h3⟩
   ·exact QP (Na hP (fun e=>h1 e.symm) hs h2) (Bv hs) (Bv h2)
   ·unfold wS;have :=xM hP hdN hs;rw[show Nat.ble s.2.1 t.1=true from Nat.ble_eq_true_of_le ai];rfl)
  (by
   rw[aB];intro t ht;refine Nat.ble_eq_true_of_le ?_;have :∃k,t∈vi d q bo k:=by
    rcases List.mem_append.1 ht with ht|ht
    ·obtain⟨k,_,_,h2⟩:=IB t ht;exact⟨k,h2⟩
    ·exact⟨j,hl▸ht⟩
   obtain⟨k,h⟩:=this;have :=xM hP hdN h;omega)
  (by
   rw[aB,hl];intro s hs;rw[<-G8,<-Qd,Bv hs];have :(mb.blk s.1).kind=1:=by
    rcases ns.1 hs with rfl|rfl|⟨b,hb,rfl⟩
    ·exact(ron ro).kind
    ·exact(ron ro).kind
    ·rcases tZ with⟨h,_⟩|⟨b',lb,xs,h1,_,h3,_⟩
     ·rw[hb]at h;cases h
     ·rw[hb]at h1;cases h1;exact(ron h3).kind
   rw[this,Nat.beq_refl];rfl)
  gu KH
 rw[<-G8,<-Qd,<-Rb]at hgo;have nM:M'.next=m2.next:=by rw[Rb];rfl
 have JG:∀b,M'.blk b=m2.blk b:=fun b=>by rw[Rb];rfl
 have n2:=k2.next;have OK:M'.bh=(mb.next,m2.next,none)::(l++aV.bh):=by rw[Rb,<-hbh];rfl
 have JH:M'.base=aV.base:=by rw[Rb];exact k2.base.trans hwb
 have ahD:M'.home=aV.home:=by rw[Rb];exact ak0
 have ahn:∀t∈M'.bh,(∃k,k<j+1/\t∈vi d q bo k)\/(t.2.2=none/\N0<=t.1/\t.2.1<=M'.next):=by
  intro t ht;rw[OK]at ht;rcases aL.1 ht with rfl|ht
  ·exact .inr ⟨rfl,by show N0<=mb.next;omega,by show m2.next<=M'.next;omega⟩
  ·rcases List.mem_append.1 ht with ht|ht
   ·exact .inl ⟨j,ai,hl▸ht⟩
   ·rcases ll.bh t ht with⟨k,hk,h⟩|⟨h1,h2,h3⟩
    ·exact .inl ⟨k,ai,h⟩
    ·exact .inr ⟨h1,h2,ai⟩
 refine⟨sv,mw,m2,BA,BE,M',by rw[<-G8];exact hgo,⟨⟨by rw[Rb];exact KH,?_,?_,?_,?_⟩,?_,?_,by rw[JH];exact ll.bd,by rw[Rb];exact gS,ahn,hdN,hP,ai,aj _⟩,JH,ahD,?_,CH,HX,HW,JG,nM,ai,⟨ai,?_⟩⟩
 ·rw[JH,show M'.floor=m2.next by rw[Rb];rfl];have :=hsd.bf;have :=hsd.fn;omega
 ·rw[show M'.floor=m2.next by rw[Rb];rfl];omega
 ·rw[ahD];have :=hsd.hn;omega
 ·intro t ht;rcases ahn t ht with⟨k,hk,h⟩|⟨_,_,h⟩
  ·have :=xM hP hdN h;omega
  ·exact h
 ·rw[Rb];exact ZL.trans ll.wg
 ·rw[Rb]
  show(_::mb.pend).length=j+1
  rw[List.length_cons,hbp,ll.pend]
 ·exact⟨by have :=ro2.lt;omega,by rw[JG];exact ro2.kind,by rw[JG];exact ro2.sz,by rw[JG];exact ro2.cs⟩
 ·intro b hb hd;rw[JG,k2.blk b ai hd,TS,j7 b hb]
end
end Go.AM
