/-
  What the claim stands on, part 8.
-/
import Derived.Test.YtgfppohfgconeaaGreatDoorP7
import Derived.Sort.LotC
import Derived.Sort.LotA
import Derived.Sort.LotB
set_option linter.unusedVariables false
set_option linter.unusedSimpArgs false
open Option renaming some → Z, none → Y
open Bool renaming true → U, false → O
open Go renaming Value → ab, TypeId → aT, IntKind → bY
open Go.Proofs.Tryz renaming prog → ae
open Nat renaming le_of_ble_eq_true → af, le_refl → aj, eq_of_beq_eq_true → aA, lt_of_lt_of_le → aZ, le_trans → bV
open Bool renaming and_eq_true → ag
open Prod.mk renaming injEq → ay
open List renaming all_eq_true → aB, mem_cons → aN
open Option renaming map_some → dk, bind_some → dw
namespace Go.AM
set_option maxRecDepth 1000000
open Go Go.Conc Go.Proofs
theorem alC:jJ 211 5 [10]=U:=aM
theorem So:(dq (bX 211)).length<=99:=af aM
theorem Qa:jz 211 [3]:=aM
theorem vl:jz 211 [3,0,0]:=aM
theorem rV:jz 211 [3,0,1]:=aM
theorem HZ:jD (cj 211 [3]) 0=Z (1,(cj 211 [3,0])):=aM
theorem HY:kT (fp 211) (cj 211 [3]) (cj 211 [3,0]) 0 1=U:=aM
theorem KO (p n cc a i j:Nat)(x y:ab)(c:Int):aY 211 [3,0,0] 0 99 [0,1,4,11,12] [vL p 0 n cc,I a,fR,I i,I j]
 ((rp 4 (.bool (gu i j)) U (.idx a n a::bu (gu i j) U::.mem (aI p (0+a*1)) x::(rp 3 (.bool (gu i j)) U (.idx i n i::bu (gu i j) U::.mem (aI p (0+i*1)) y::fQ::bu (gu i j) U::.bZ fR [x,y] (I c)::(rp 3 (.bool (gu i j)) U ([bu (!(dx c 0)) U])))))))
 .normal [0,1,4,11,12] [vL p 0 n cc,I a,fR,I (bU i 1),I j]:=cT
theorem KN (p n cc a i j:Nat)(x y:ab)(c:Int):aY 211 [3,0,0] 0 99 [0,1,4,11,12] [vL p 0 n cc,I a,fR,I i,I j]
 ((rp 4 (.bool (gu i j)) U (.idx a n a::bu (gu i j) U::.mem (aI p (0+a*1)) x::(rp 3 (.bool (gu i j)) U (.idx i n i::bu (gu i j) U::.mem (aI p (0+i*1)) y::fQ::bu (gu i j) U::.bZ fR [x,y] (I c)::(rp 3 (.bool (gu i j)) U ([bu (!(dx c 0)) O])))))))
 (.exit 2) [0,1,4,11,12] [vL p 0 n cc,I a,fR,I i,I j]:=cT
theorem KJ (p n cc a i j:Nat):aY 211 [3,0,0] 0 99 [0,1,4,11,12] [vL p 0 n cc,I a,fR,I i,I j]
 ((rp 9 (.bool (gu i j)) O (fQ::(rp 4 (.bool (gu i j)) O ([jT])))))
 (.exit 2) [0,1,4,11,12] [vL p 0 n cc,I a,fR,I i,I j]:=cT
theorem NP {K:fE}{B:Nat->Prop}{p n cc:Nat}{rest:List ab}{m:Mem}{d:Array El}(h:Sv B p n rest m d)(y:n<90000){a i j:Nat}(A:a<n)(z:j<n){tm:Tm}(e:bj [0,1,4,11,12] tm=[vL p 0 n cc,I a,fR,I i,I j]):
  ∃v m',uT K (fp 211) (cj 211 [3,0,0]) 100000000000000 ⟨tm,m,[]⟩ (.exit 2) ⟨v,m',[]⟩/\bj [0,1,4,11,12] v=[vL p 0 n cc,I a,fR,I (Sort.scanUp (λx=>!cS d[a]! x) d j i:Int),I j]/\Kp m m' eK/\Sv B p n rest m' d:=by
 refine tT (is:=[0,1,4,11,12]) (λi=>[vL p 0 n cc,I a,fR,I i,I j]) (λi=>decide (i<=j)&&!cS d[a]! d[i]!) (·+1) (λi=>Sort.scanUp (λx=>!cS d[a]! x) d j i) (λi=>j+1-i) iq ?_ ?_ ?_ ?_ (i:=i) ai e h
 .intro i tm m b e h;simp only[ag,iU,Bool.not_eq_true']at b;obtain⟨c,q,t,r,o,s⟩:=h.cmp (K:=K) (i:=a) (j:=i);have g:=h.gd;obtain⟨k,l,f⟩:=aL vl (KO p n cc a i j d[a]!.1 d[i]!.1 c) e (.rp (dT gK)<|.idx rfl ai<|.cond (dT gK)<|.mem h.ld<|.rp (dT gK)<|.idx rfl ai<|.cond (dT gK)<|.mem h.ld<|.mem (aJ fS)<|.cond (dT gK)<|.bZ t<|.rp (dT gK)<|.cond (bT (by rw[s,b.2];rfl))<|.nil);rw[eQ]at f;exact⟨k,q,l,f,r,o⟩
 .intro i tm m b e h;have g:=h.gd
  by_cases u:i<=j
  .obtain⟨c,q,t,r,o,s⟩:=h.cmp (K:=K) (i:=a) (j:=i);have w:cS d[a]! d[i]! =U:=by simpa[u]using b
   obtain⟨k,l,f⟩:=aL vl (KN p n cc a i j d[a]!.1 d[i]!.1 c) e (.rp (dT gK)<|.idx rfl ai<|.cond (dT gK)<|.mem h.ld<|.rp (dT gK)<|.idx rfl ai<|.cond (dT gK)<|.mem h.ld<|.mem (aJ fS)<|.cond (dT gK)<|.bZ t<|.rp (dT gK)<|.cond (bF (by rw[s,w];rfl))<|.nil);exact⟨k,q,l,f,r,o⟩
  .obtain⟨k,l,f⟩:=aL (K:=K) (m:=m) (m':=m) vl (KJ p n cc a i j) e (.rp (dF gK)<|.mem (aJ fS)<|.rp (dF gK)<|.cond rfl<|.nil);exact⟨k,m,l,f,.refl _ _,h⟩
 .intro i b;have u:i<=j:=by simp only[ag,iU]at b;exact b.1
  refine⟨?_,by show j+1-(i+1)<_;omega⟩
  show Sort.scanUp _ d j i=Sort.scanUp _ d j (i+1)
  conv=>lhs;rw[Sort.scanUp]
  rw[bh b]
 .intro i b
  show Sort.scanUp _ d j i=i
  rw[Sort.scanUp,bH (by rw[b];exact Bool.false_ne_true)]
theorem KI (p n cc a i j:Nat)(x y:ab)(c:Int):aY 211 [3,0,1] 0 99 [0,1,4,11,12] [vL p 0 n cc,I a,fR,I i,I j]
 ((rp 4 (.bool (gu i j)) U (.idx a n a::bu (gu i j) U::.mem (aI p (0+a*1)) x::(rp 3 (.bool (gu i j)) U ([.idx j n j,
  bu (gu i j) U,
  .mem (aI p (0+j*1)) y,
  fQ,
  bu (gu i j) U,
  .bZ fR [x,y] (I c),
  bu (gu i j) U,
  bu (gu i j) U,
  bu (dx c 0) U])))))
 .normal [0,1,4,11,12] [vL p 0 n cc,I a,fR,I i,I (cf j 1)]:=cT
theorem KH (p n cc a i j:Nat)(x y:ab)(c:Int):aY 211 [3,0,1] 0 99 [0,1,4,11,12] [vL p 0 n cc,I a,fR,I i,I j]
 ((rp 4 (.bool (gu i j)) U (.idx a n a::bu (gu i j) U::.mem (aI p (0+a*1)) x::(rp 3 (.bool (gu i j)) U ([.idx j n j,
  bu (gu i j) U,
  .mem (aI p (0+j*1)) y,
  fQ,
  bu (gu i j) U,
  .bZ fR [x,y] (I c),
  bu (gu i j) U,
  bu (gu i j) U,
  bu (dx c 0) O])))))
 (.exit 4) [0,1,4,11,12] [vL p 0 n cc,I a,fR,I i,I j]:=cT
theorem Bf (p n cc a i j:Nat):aY 211 [3,0,1] 0 99 [0,1,4,11,12] [vL p 0 n cc,I a,fR,I i,I j]
 ((rp 9 (.bool (gu i j)) O (fQ::(rp 3 (.bool (gu i j)) O ([jT])))))
 (.exit 4) [0,1,4,11,12] [vL p 0 n cc,I a,fR,I i,I j]:=cT
theorem NO {K:fE}{B:Nat->Prop}{p n cc:Nat}{rest:List ab}{m:Mem}{d:Array El}(h:Sv B p n rest m d)(G:n<90000){a i j:Nat}(J:a<n)(L:1<=i)(e:j<n){tm:Tm}(f:bj [0,1,4,11,12] tm=[vL p 0 n cc,I a,fR,I i,I j]):
  ∃s m',uT K (fp 211) (cj 211 [3,0,1]) 100000000000000 ⟨tm,m,[]⟩ (.exit 4) ⟨s,m',[]⟩/\bj [0,1,4,11,12] s=[vL p 0 n cc,I a,fR,I i,I (Sort.scanDown (λx=>cS d[a]! x) d i j:Int)]/\Kp m m' eK/\Sv B p n rest m' d:=by
 suffices H:∃s m',uT K (fp 211) (cj 211 [3,0,1]) 100000000000000 ⟨tm,m,[]⟩ (.exit 4) ⟨s,m',[]⟩/\bj [0,1,4,11,12] s=(λj:Nat=>[vL p 0 n cc,I a,fR,I i,I (if j<n then j else 0:Nat)]) ((λj=>if j<n then Sort.scanDown (λx=>cS d[a]! x) d i j else j) j)/\Kp m m' eK/\Sv B p n rest m' d by
  obtain⟨t,m',F,C,E,D⟩:=H;simp only[bh e,bh (Nat.lt_of_le_of_lt (Sort.scanDown_le _ _ _ _) e)]at C;exact⟨t,m',F,C,E,D⟩
 refine tT (λj:Nat=>[vL p 0 n cc,I a,fR,I i,I (if j<n then j else 0:Nat)]) (λj=>decide (i<=j)&&decide (j<n)&&cS d[a]! d[j]!) (· -1) (λj=>if j<n then Sort.scanDown (λx=>cS d[a]! x) d i j else j) (λj=>j) iq ?_ ?_ ?_ ?_ (i:=j) ai (by simp only[bh e];exact f) h
 .intro j tm m b f h;simp only[ag,iU,Bool.not_eq_true']at b;obtain⟨⟨u,e⟩,r⟩:=b;rw[bh e]at f;obtain⟨c,w,A,y,v,z⟩:=h.cmp (K:=K) (i:=a) (j:=j);have g:=h.gd;obtain⟨o,q,l⟩:=aL rV (KI p n cc a i j d[a]!.1 d[j]!.1 c) f (.rp (dT gK)<|.idx rfl ai<|.cond (dT gK)<|.mem h.ld<|.rp (dT gK)<|.idx rfl ai<|.cond (dT gK)<|.mem h.ld<|.mem (aJ fS)<|.cond (dT gK)<|.bZ A<|.cond (dT gK)<|.cond (dT gK)<|.cond (bT (z.trans r))<|.nil);rw[show cf j 1=((j-1:Nat):Int)from lJ (j:=1) ai]at l;exact⟨o,w,q,by rw[bh (show j-1<n by omega)];exact l,y,v⟩
 .intro j tm m b f h;have g:=h.gd
  by_cases e:j<n
  .rw[bh e]at f⊢
   by_cases u:i<=j
   .obtain⟨c,w,A,y,v,z⟩:=h.cmp (K:=K) (i:=a) (j:=j);have r:cS d[a]! d[j]! =O:=by simpa[u,e]using b
    obtain⟨o,q,l⟩:=aL rV (KH p n cc a i j d[a]!.1 d[j]!.1 c) f (.rp (dT gK)<|.idx rfl ai<|.cond (dT gK)<|.mem h.ld<|.rp (dT gK)<|.idx rfl ai<|.cond (dT gK)<|.mem h.ld<|.mem (aJ fS)<|.cond (dT gK)<|.bZ A<|.cond (dT gK)<|.cond (dT gK)<|.cond (bF (z.trans r))<|.nil);exact⟨o,w,q,l,y,v⟩
   .obtain⟨o,q,l⟩:=aL (K:=K) (m:=m) (m':=m) rV (Bf p n cc a i j) f (.rp (dF gK)<|.mem (aJ fS)<|.rp (dF gK)<|.cond rfl<|.nil);exact⟨o,m,q,l,.refl _ _,h⟩
  .rw[bH e]at f⊢;obtain⟨o,q,l⟩:=aL (K:=K) (m:=m) (m':=m) rV (Bf p n cc a i 0) f (.rp (dF gK)<|.mem (aJ fS)<|.rp (dF gK)<|.cond rfl<|.nil);exact⟨o,m,q,l,.refl _ _,h⟩
 .intro j b;simp only[ag,iU]at b;obtain⟨⟨u,e⟩,r⟩:=b;obtain⟨j,rfl⟩:∃k,j=k+1:=⟨j-1,ai⟩;refine⟨?_,by show j+1-1<_;omega⟩
  show(if j+1<n then _ else _)=(if j<n then _ else _)
  rw[bh e,bh (show j<n by omega),Sort.scanDown,bh (by rw[Cb u];exact r)];rfl
 .intro j b
  show(if j<n then _ else _)=_
  split
  .rename_i e;cases j with
   |zero=>rfl
   |succ j=>
    rw[Cb e,Bool.and_true]at b;rw[Sort.scanDown,bH (by rw[b];exact Bool.false_ne_true)]
  .rfl
theorem ajo (p n cc a b q:Nat)(x y:ab):cV 211 0 3 [0,1,2,3,4] [vL p 0 n cc,I a,I b,I q,fR]
 [.idx q n q,
  .mem (aI p (0+q*1)) y,
  .idx a n a,
  .mem (aI p (0+a*1)) x,
  .idx a n a,
  fQ,
  .mem (du p (0+a*1) y) undef,
  .idx q n q,
  fQ,
  .mem (du p (0+q*1) x) undef]
 .normal [0,1,4,11,12] [vL p 0 n cc,I a,fR,I (bU a 1),I (cf b 1)]:=cT
theorem ajm (p n cc a i j:Nat):aY 211 [3,0] 2 99 [0,1,4,11,12] [vL p 0 n cc,I a,fR,I i,I j]
 [bu (ji i j) U]
 (.exit 0) [11] [I i]:=cT
theorem ajn (p n cc a i j:Nat)(x y:ab):aY 211 [3,0] 2 99 [0,1,4,11,12] [vL p 0 n cc,I a,fR,I i,I j]
 [bu (ji i j) O,
  .idx j n j,
  .mem (aI p (0+j*1)) y,
  .idx i n i,
  .mem (aI p (0+i*1)) x,
  .idx i n i,
  fQ,
  .mem (du p (0+i*1) y) undef,
  .idx j n j,
  fQ,
  .mem (du p (0+j*1) x) undef]
 .normal [0,1,4,11,12] [vL p 0 n cc,I a,fR,I (bU i 1),I (cf j 1)]:=cT
theorem ajl (i:Nat):cV 211 4 99 [11] [I i]
 []
 .ret [10] [I i]:=cT
section
variable {K:fE}{B:Nat->Prop}{p n cc:Nat}{rest:List ab}{m m':Mem}{d:Array El}
theorem arf (h:Sv B p n rest m d)(E:n<90000){a b q:Nat}(Ay:a<b)(hb:b<=n)(hq:q<n):
  ∃m',Ev K 211 [vL p 0 n cc,I a,I b,I q,fR] m (I ((Sort.partitionEqual cS d a b q).1:Int)) m'/\Kp m m' (λy=>y=p)/\Sv B p n rest m' (Sort.partitionEqual cS d a b q).2:=by
 have g:=h.gd;obtain⟨V,T,e1,g1,e2,k2,Q⟩:=h.swap (i:=a) (j:=q);obtain⟨L,J,H⟩:=aU (K:=K) (tm:=entry [vL p 0 n cc,I a,I b,I q,fR]) (ajo p n cc a b q d[a]!.1 d[q]!.1) rfl (.idx rfl ai<|.mem h.ld<|.idx rfl ai<|.mem h.ld<|.idx rfl ai<|.mem (aJ fS)<|.mem e1<|.idx rfl ai<|.mem (aJ fS)<|.mem e2<|.nil);rw[eQ,show cf b 1=((b-1:Nat):Int)from lJ (j:=1) ai]at H;unfold Sort.partitionEqual;generalize hr:Sort.partEqLoop cS a (a+1) (b-1) (Sort.swp d a q)=r;obtain⟨e,t1,v,he,hx,rfl,hv,k3,P⟩:=j7 (K:=K) (nt:=fp 211) (a:=cj 211 [3])
  (Inv:=λk tm m'=>∃(c:Array El) (i j:Nat),1<=i/\j<n/\k=j+1-i/\bj [0,1,4,11,12] tm=[vL p 0 n cc,I a,fR,I i,I j]/\Kp m m' (λy=>y=p)/\Sv B p n rest m' c/\Sort.partEqLoop cS a i j c=r)
  (dm:=λe tm m'=>e=.exit 0/\bj [11] tm=[I r.1]/\Kp m m' (λy=>y=p)/\Sv B p n rest m' r.2)
  (by
   rintro k tm V ⟨c,i,j,hi,F,rfl,hg,k1,R,l⟩;obtain⟨ta,ma,A,ga,X,M⟩:=NP (K:=K) R E ai F hg;have hi2:=Sort.scanUp_ge (λx=>!cS c[a]! x) c j i;rw[Sort.partEqLoop]at l;generalize Sort.scanUp (λx=>!cS c[a]! x) c j i=i2 at*;obtain⟨tb,w,z,G,W,t⟩:=NO (K:=K) M E ai ai F ga;have hj2:=Sort.scanDown_le (λx=>cS c[a]! x) c i2 j;generalize Sort.scanDown (λx=>cS c[a]! x) c i2 j=f at*;have gg:=t.gd;have C:=(k1.aX X).aX W
   by_cases D:i2>f
   .rw[bh D]at l;obtain⟨u,s,o⟩:=aU (K:=K) (m:=w) (m':=w) (ajm p n cc a i2 f) G (.cond (dT od)<|.nil);exact .inr ⟨.exit 0,u,w,iq,(aC.Pk HZ HY (aC.fC A (aC.fC z (aC.last s (af aM)))) rfl aM).code Qa,rfl,by rw[o,<-l],C,by rw[<-l];exact t⟩
   .rw[bH D,dif_pos ai]at l;obtain⟨v,S,e3,g3,e4,k4,N⟩:=t.swap (i:=i2) (j:=f);obtain⟨u,s,o⟩:=aU (ajn p n cc a i2 f c[i2]!.1 c[f]!.1) G (.cond (dF od)<|.idx rfl ai<|.mem t.ld<|.idx rfl ai<|.mem t.ld<|.idx rfl ai<|.mem (aJ fS)<|.mem e3<|.idx rfl ai<|.mem (aJ fS)<|.mem e4<|.nil);rw[eQ,show cf f 1=((f-1:Nat):Int)from lJ (j:=1) ai]at o;exact .inl ⟨_,u,S,ai,(aC.uz HZ HY (aC.fC A (aC.fC z (aC.last s (af aM)))) (.inl rfl) (aC.done (af aM))).code Qa,_,i2+1,f-1,ai,ai,rfl,o,C.trans k4 λ_ _ h=>h,N,l⟩)
  (n:=b-1+1-(a+1)) (k:=100000000000000) (tm:=L) (m:=T) ⟨_,a+1,b-1,ai,ai,rfl,H,k2,Q,hr⟩ ai
 obtain⟨u,s,o⟩:=aU (K:=K) (m:=v) (m':=v) (ajl r.1) hv .nil;exact⟨v,dE (vs:=[I r.1]) alC (aC.cut J (aC.fC hx (aC.last s So))) (.inr rfl) o,k3,P⟩
end
theorem adZ:jJ 212 5 [10,11]=U:=aM
theorem G8:(dq (bX 212)).length<=99:=af aM
theorem IM:jz 212 [3]:=aM
theorem CH:jz 212 [4]:=aM
theorem Lp:jz 212 [10]:=aM
theorem tY:jz 212 [10,0,0]:=aM
theorem qj:jz 212 [10,0,1]:=aM
theorem Fu:jD (cj 212 [10]) 0=Z (5,(cj 212 [10,0])):=aM
theorem Fq:kT (fp 212) (cj 212 [10]) (cj 212 [10,0]) 0 5=U:=aM
theorem aad (p n cc a i j:Nat)(x y:ab)(c:Int):aY 212 [3] 0 99 [0,1,4,12,13] [vL p 0 n cc,I a,fR,I i,I j]
 ((rp 4 (.bool (gu i j)) U (.idx i n i::bu (gu i j) U::.mem (aI p (0+i*1)) x::(rp 3 (.bool (gu i j)) U ([.idx a n a,
  bu (gu i j) U,
  .mem (aI p (0+a*1)) y,
  fQ,
  bu (gu i j) U,
  .bZ fR [x,y] (I c),
  bu (gu i j) U,
  bu (gu i j) U,
  bu (dx c 0) U])))))
 .normal [0,1,4,12,13] [vL p 0 n cc,I a,fR,I (bU i 1),I j]:=cT
theorem aac (p n cc a i j:Nat)(x y:ab)(c:Int):aY 212 [3] 0 99 [0,1,4,12,13] [vL p 0 n cc,I a,fR,I i,I j]
 ((rp 4 (.bool (gu i j)) U (.idx i n i::bu (gu i j) U::.mem (aI p (0+i*1)) x::(rp 3 (.bool (gu i j)) U ([.idx a n a,
  bu (gu i j) U,
  .mem (aI p (0+a*1)) y,
  fQ,
  bu (gu i j) U,
  .bZ fR [x,y] (I c),
  bu (gu i j) U,
  bu (gu i j) U,
  bu (dx c 0) O])))))
 (.exit 0) [0,1,4,12,13] [vL p 0 n cc,I a,fR,I i,I j]:=cT
theorem aab (p n cc a i j:Nat):aY 212 [3] 0 99 [0,1,4,12,13] [vL p 0 n cc,I a,fR,I i,I j]
 ((rp 9 (.bool (gu i j)) O (fQ::(rp 3 (.bool (gu i j)) O ([jT])))))
 (.exit 0) [0,1,4,12,13] [vL p 0 n cc,I a,fR,I i,I j]:=cT
theorem afg {K:fE}{B:Nat->Prop}{p n cc:Nat}{rest:List ab}{m:Mem}{d:Array El}(h:Sv B p n rest m d)(y:n<90000){a i j:Nat}(A:a<n)(z:j<n){tm:Tm}(e:bj [0,1,4,12,13] tm=[vL p 0 n cc,I a,fR,I i,I j]):
  ∃v m',uT K (fp 212) (cj 212 [3]) 100000000000000 ⟨tm,m,[]⟩ (.exit 0) ⟨v,m',[]⟩/\bj [0,1,4,12,13] v=[vL p 0 n cc,I a,fR,I (Sort.scanUp (λx=>cS x d[a]!) d j i:Int),I j]/\Kp m m' eK/\Sv B p n rest m' d:=by
 refine tT (is:=[0,1,4,12,13]) (λi=>[vL p 0 n cc,I a,fR,I i,I j]) (λi=>decide (i<=j)&&cS d[i]! d[a]!) (·+1) (λi=>Sort.scanUp (λx=>cS x d[a]!) d j i) (λi=>j+1-i) iq ?_ ?_ ?_ ?_ (i:=i) ai e h
 .intro i tm m b e h;simp only[ag,iU,Bool.not_eq_true']at b;obtain⟨c,q,t,r,o,s⟩:=h.cmp (K:=K) (i:=i) (j:=a);have g:=h.gd;obtain⟨k,l,f⟩:=aL IM (aad p n cc a i j d[i]!.1 d[a]!.1 c) e (.rp (dT gK)<|.idx rfl ai<|.cond (dT gK)<|.mem h.ld<|.rp (dT gK)<|.idx rfl ai<|.cond (dT gK)<|.mem h.ld<|.mem (aJ fS)<|.cond (dT gK)<|.bZ t<|.cond (dT gK)<|.cond (dT gK)<|.cond (bT (s.trans b.2))<|.nil);rw[eQ]at f;exact⟨k,q,l,f,r,o⟩
 .intro i tm m b e h;have g:=h.gd
  by_cases u:i<=j
  .obtain⟨c,q,t,r,o,s⟩:=h.cmp (K:=K) (i:=i) (j:=a);have w:cS d[i]! d[a]! =O:=by simpa[u]using b
   obtain⟨k,l,f⟩:=aL IM (aac p n cc a i j d[i]!.1 d[a]!.1 c) e (.rp (dT gK)<|.idx rfl ai<|.cond (dT gK)<|.mem h.ld<|.rp (dT gK)<|.idx rfl ai<|.cond (dT gK)<|.mem h.ld<|.mem (aJ fS)<|.cond (dT gK)<|.bZ t<|.cond (dT gK)<|.cond (dT gK)<|.cond (bF (s.trans w))<|.nil);exact⟨k,q,l,f,r,o⟩
  .obtain⟨k,l,f⟩:=aL (K:=K) (m:=m) (m':=m) IM (aab p n cc a i j) e (.rp (dF gK)<|.mem (aJ fS)<|.rp (dF gK)<|.cond rfl<|.nil);exact⟨k,m,l,f,.refl _ _,h⟩
 .intro i b;have u:i<=j:=by simp only[ag,iU]at b;exact b.1
  refine⟨?_,by show j+1-(i+1)<_;omega⟩
  show Sort.scanUp _ d j i=Sort.scanUp _ d j (i+1)
  conv=>lhs;rw[Sort.scanUp]
  rw[bh b]
 .intro i b
  show Sort.scanUp _ d j i=i
  rw[Sort.scanUp,bH (by rw[b];exact Bool.false_ne_true)]
theorem aaa (p n cc a i j:Nat)(x y:ab)(c:Int):aY 212 [4] 0 99 [0,1,4,12,13] [vL p 0 n cc,I a,fR,I i,I j]
 ((rp 4 (.bool (gu i j)) U (.idx j n j::bu (gu i j) U::.mem (aI p (0+j*1)) x::(rp 3 (.bool (gu i j)) U (.idx a n a::bu (gu i j) U::.mem (aI p (0+a*1)) y::fQ::bu (gu i j) U::.bZ fR [x,y] (I c)::(rp 3 (.bool (gu i j)) U ([bu (!(dx c 0)) U])))))))
 .normal [0,1,4,12,13] [vL p 0 n cc,I a,fR,I i,I (cf j 1)]:=cT
theorem Z' (p n cc a i j:Nat)(x y:ab)(c:Int):aY 212 [4] 0 99 [0,1,4,12,13] [vL p 0 n cc,I a,fR,I i,I j]
 ((rp 4 (.bool (gu i j)) U (.idx j n j::bu (gu i j) U::.mem (aI p (0+j*1)) x::(rp 3 (.bool (gu i j)) U (.idx a n a::bu (gu i j) U::.mem (aI p (0+a*1)) y::fQ::bu (gu i j) U::.bZ fR [x,y] (I c)::(rp 3 (.bool (gu i j)) U ([bu (!(dx c 0)) O])))))))
 (.exit 2) [0,1,4,12,13] [vL p 0 n cc,I a,fR,I i,I j]:=cT
theorem PR (p n cc a i j:Nat):aY 212 [4] 0 99 [0,1,4,12,13] [vL p 0 n cc,I a,fR,I i,I j]
 ((rp 9 (.bool (gu i j)) O (fQ::(rp 4 (.bool (gu i j)) O ([jT])))))
 (.exit 2) [0,1,4,12,13] [vL p 0 n cc,I a,fR,I i,I j]:=cT
theorem aff {K:fE}{B:Nat->Prop}{p n cc:Nat}{rest:List ab}{m:Mem}{d:Array El}(h:Sv B p n rest m d)(G:n<90000){a i j:Nat}(J:a<n)(L:1<=i)(e:j<n){tm:Tm}(f:bj [0,1,4,12,13] tm=[vL p 0 n cc,I a,fR,I i,I j]):
  ∃s m',uT K (fp 212) (cj 212 [4]) 100000000000000 ⟨tm,m,[]⟩ (.exit 2) ⟨s,m',[]⟩/\bj [0,1,4,12,13] s=[vL p 0 n cc,I a,fR,I i,I (Sort.scanDown (λx=>!cS x d[a]!) d i j:Int)]/\Kp m m' eK/\Sv B p n rest m' d:=by
 suffices H:∃s m',uT K (fp 212) (cj 212 [4]) 100000000000000 ⟨tm,m,[]⟩ (.exit 2) ⟨s,m',[]⟩/\bj [0,1,4,12,13] s=(λj:Nat=>[vL p 0 n cc,I a,fR,I i,I (if j<n then j else 0:Nat)]) ((λj=>if j<n then Sort.scanDown (λx=>!cS x d[a]!) d i j else j) j)/\Kp m m' eK/\Sv B p n rest m' d by
  obtain⟨t,m',F,C,E,D⟩:=H;simp only[bh e,bh (Nat.lt_of_le_of_lt (Sort.scanDown_le _ _ _ _) e)]at C;exact⟨t,m',F,C,E,D⟩
 refine tT (λj:Nat=>[vL p 0 n cc,I a,fR,I i,I (if j<n then j else 0:Nat)]) (λj=>decide (i<=j)&&decide (j<n)&&!cS d[j]! d[a]!) (· -1) (λj=>if j<n then Sort.scanDown (λx=>!cS x d[a]!) d i j else j) (λj=>j) iq ?_ ?_ ?_ ?_ (i:=j) ai (by simp only[bh e];exact f) h
 .intro j tm m b f h;simp only[ag,iU,Bool.not_eq_true']at b;obtain⟨⟨u,e⟩,r⟩:=b;rw[bh e]at f;obtain⟨c,w,A,y,v,z⟩:=h.cmp (K:=K) (i:=j) (j:=a);have g:=h.gd;obtain⟨o,q,l⟩:=aL CH (aaa p n cc a i j d[j]!.1 d[a]!.1 c) f (.rp (dT gK)<|.idx rfl ai<|.cond (dT gK)<|.mem h.ld<|.rp (dT gK)<|.idx rfl ai<|.cond (dT gK)<|.mem h.ld<|.mem (aJ fS)<|.cond (dT gK)<|.bZ A<|.rp (dT gK)<|.cond (bT (by rw[z,r];rfl))<|.nil);rw[show cf j 1=((j-1:Nat):Int)from lJ (j:=1) ai]at l;exact⟨o,w,q,by rw[bh (show j-1<n by omega)];exact l,y,v⟩
 .intro j tm m b f h;have g:=h.gd
  by_cases e:j<n
  .rw[bh e]at f⊢
   by_cases u:i<=j
   .obtain⟨c,w,A,y,v,z⟩:=h.cmp (K:=K) (i:=j) (j:=a);have r:cS d[j]! d[a]! =U:=by simpa[u,e]using b
    obtain⟨o,q,l⟩:=aL CH (Z' p n cc a i j d[j]!.1 d[a]!.1 c) f (.rp (dT gK)<|.idx rfl ai<|.cond (dT gK)<|.mem h.ld<|.rp (dT gK)<|.idx rfl ai<|.cond (dT gK)<|.mem h.ld<|.mem (aJ fS)<|.cond (dT gK)<|.bZ A<|.rp (dT gK)<|.cond (bF (by rw[z,r];rfl))<|.nil);exact⟨o,w,q,l,y,v⟩
   .obtain⟨o,q,l⟩:=aL (K:=K) (m:=m) (m':=m) CH (PR p n cc a i j) f (.rp (dF gK)<|.mem (aJ fS)<|.rp (dF gK)<|.cond rfl<|.nil);exact⟨o,m,q,l,.refl _ _,h⟩
  .rw[bH e]at f⊢;obtain⟨o,q,l⟩:=aL (K:=K) (m:=m) (m':=m) CH (PR p n cc a i 0) f (.rp (dF gK)<|.mem (aJ fS)<|.rp (dF gK)<|.cond rfl<|.nil);exact⟨o,m,q,l,.refl _ _,h⟩
 .intro j b;simp only[ag,iU]at b;obtain⟨⟨u,e⟩,r⟩:=b;obtain⟨j,rfl⟩:∃k,j=k+1:=⟨j-1,ai⟩;refine⟨?_,by show j+1-1<_;omega⟩
  show(if j+1<n then _ else _)=(if j<n then _ else _)
  rw[bh e,bh (show j<n by omega),Sort.scanDown,bh (by rw[Cb u];exact r)];rfl
 .intro j b
  show(if j<n then _ else _)=_
  split
  .rename_i e;cases j with
   |zero=>rfl
   |succ j=>
    rw[Cb e,Bool.and_true]at b;rw[Sort.scanDown,bH (by rw[b];exact Bool.false_ne_true)]
  .rfl
theorem Ix (p n cc a i j:Nat)(x y:ab)(c:Int):aY 212 [10,0,0] 0 99 [0,1,4,12,13] [vL p 0 n cc,I a,fR,I i,I j]
 ((rp 4 (.bool (gu i j)) U (.idx i n i::bu (gu i j) U::.mem (aI p (0+i*1)) x::(rp 3 (.bool (gu i j)) U ([.idx a n a,
  bu (gu i j) U,
  .mem (aI p (0+a*1)) y,
  fQ,
  bu (gu i j) U,
  .bZ fR [x,y] (I c),
  bu (gu i j) U,
  bu (gu i j) U,
  bu (dx c 0) U])))))
 .normal [0,1,4,12,13] [vL p 0 n cc,I a,fR,I (bU i 1),I j]:=cT
theorem Iw (p n cc a i j:Nat)(x y:ab)(c:Int):aY 212 [10,0,0] 0 99 [0,1,4,12,13] [vL p 0 n cc,I a,fR,I i,I j]
 ((rp 4 (.bool (gu i j)) U (.idx i n i::bu (gu i j) U::.mem (aI p (0+i*1)) x::(rp 3 (.bool (gu i j)) U ([.idx a n a,
  bu (gu i j) U,
  .mem (aI p (0+a*1)) y,
  fQ,
  bu (gu i j) U,
  .bZ fR [x,y] (I c),
  bu (gu i j) U,
  bu (gu i j) U,
  bu (dx c 0) O])))))
 (.exit 6) [0,1,4,12,13] [vL p 0 n cc,I a,fR,I i,I j]:=cT
theorem Iv (p n cc a i j:Nat):aY 212 [10,0,0] 0 99 [0,1,4,12,13] [vL p 0 n cc,I a,fR,I i,I j]
 ((rp 9 (.bool (gu i j)) O (fQ::(rp 3 (.bool (gu i j)) O ([jT])))))
 (.exit 6) [0,1,4,12,13] [vL p 0 n cc,I a,fR,I i,I j]:=cT
theorem KG {K:fE}{B:Nat->Prop}{p n cc:Nat}{rest:List ab}{m:Mem}{d:Array El}(h:Sv B p n rest m d)(y:n<90000){a i j:Nat}(A:a<n)(z:j<n){tm:Tm}(e:bj [0,1,4,12,13] tm=[vL p 0 n cc,I a,fR,I i,I j]):
  ∃v m',uT K (fp 212) (cj 212 [10,0,0]) 100000000000000 ⟨tm,m,[]⟩ (.exit 6) ⟨v,m',[]⟩/\bj [0,1,4,12,13] v=[vL p 0 n cc,I a,fR,I (Sort.scanUp (λx=>cS x d[a]!) d j i:Int),I j]/\Kp m m' eK/\Sv B p n rest m' d:=by
 refine tT (is:=[0,1,4,12,13]) (λi=>[vL p 0 n cc,I a,fR,I i,I j]) (λi=>decide (i<=j)&&cS d[i]! d[a]!) (·+1) (λi=>Sort.scanUp (λx=>cS x d[a]!) d j i) (λi=>j+1-i) iq ?_ ?_ ?_ ?_ (i:=i) ai e h
 .intro i tm m b e h;simp only[ag,iU,Bool.not_eq_true']at b;obtain⟨c,q,t,r,o,s⟩:=h.cmp (K:=K) (i:=i) (j:=a);have g:=h.gd;obtain⟨k,l,f⟩:=aL tY (Ix p n cc a i j d[i]!.1 d[a]!.1 c) e (.rp (dT gK)<|.idx rfl ai<|.cond (dT gK)<|.mem h.ld<|.rp (dT gK)<|.idx rfl ai<|.cond (dT gK)<|.mem h.ld<|.mem (aJ fS)<|.cond (dT gK)<|.bZ t<|.cond (dT gK)<|.cond (dT gK)<|.cond (bT (s.trans b.2))<|.nil);rw[eQ]at f;exact⟨k,q,l,f,r,o⟩
 .intro i tm m b e h;have g:=h.gd
  by_cases u:i<=j
  .obtain⟨c,q,t,r,o,s⟩:=h.cmp (K:=K) (i:=i) (j:=a);have w:cS d[i]! d[a]! =O:=by simpa[u]using b
   obtain⟨k,l,f⟩:=aL tY (Iw p n cc a i j d[i]!.1 d[a]!.1 c) e (.rp (dT gK)<|.idx rfl ai<|.cond (dT gK)<|.mem h.ld<|.rp (dT gK)<|.idx rfl ai<|.cond (dT gK)<|.mem h.ld<|.mem (aJ fS)<|.cond (dT gK)<|.bZ t<|.cond (dT gK)<|.cond (dT gK)<|.cond (bF (s.trans w))<|.nil);exact⟨k,q,l,f,r,o⟩
  .obtain⟨k,l,f⟩:=aL (K:=K) (m:=m) (m':=m) tY (Iv p n cc a i j) e (.rp (dF gK)<|.mem (aJ fS)<|.rp (dF gK)<|.cond rfl<|.nil);exact⟨k,m,l,f,.refl _ _,h⟩
 .intro i b;have u:i<=j:=by simp only[ag,iU]at b;exact b.1
  refine⟨?_,by show j+1-(i+1)<_;omega⟩
  show Sort.scanUp _ d j i=Sort.scanUp _ d j (i+1)
  conv=>lhs;rw[Sort.scanUp]
  rw[bh b]
 .intro i b
  show Sort.scanUp _ d j i=i
  rw[Sort.scanUp,bH (by rw[b];exact Bool.false_ne_true)]
theorem Iu (p n cc a i j:Nat)(x y:ab)(c:Int):aY 212 [10,0,1] 0 99 [0,1,4,12,13] [vL p 0 n cc,I a,fR,I i,I j]
 ((rp 4 (.bool (gu i j)) U (.idx j n j::bu (gu i j) U::.mem (aI p (0+j*1)) x::(rp 3 (.bool (gu i j)) U (.idx a n a::bu (gu i j) U::.mem (aI p (0+a*1)) y::fQ::bu (gu i j) U::.bZ fR [x,y] (I c)::(rp 3 (.bool (gu i j)) U ([bu (!(dx c 0)) U])))))))
 .normal [0,1,4,12,13] [vL p 0 n cc,I a,fR,I i,I (cf j 1)]:=cT
theorem It (p n cc a i j:Nat)(x y:ab)(c:Int):aY 212 [10,0,1] 0 99 [0,1,4,12,13] [vL p 0 n cc,I a,fR,I i,I j]
 ((rp 4 (.bool (gu i j)) U (.idx j n j::bu (gu i j) U::.mem (aI p (0+j*1)) x::(rp 3 (.bool (gu i j)) U (.idx a n a::bu (gu i j) U::.mem (aI p (0+a*1)) y::fQ::bu (gu i j) U::.bZ fR [x,y] (I c)::(rp 3 (.bool (gu i j)) U ([bu (!(dx c 0)) O])))))))
 (.exit 8) [0,1,4,12,13] [vL p 0 n cc,I a,fR,I i,I j]:=cT
theorem yQ (p n cc a i j:Nat):aY 212 [10,0,1] 0 99 [0,1,4,12,13] [vL p 0 n cc,I a,fR,I i,I j]
 ((rp 9 (.bool (gu i j)) O (fQ::(rp 4 (.bool (gu i j)) O ([jT])))))
 (.exit 8) [0,1,4,12,13] [vL p 0 n cc,I a,fR,I i,I j]:=cT
theorem KF {K:fE}{B:Nat->Prop}{p n cc:Nat}{rest:List ab}{m:Mem}{d:Array El}(h:Sv B p n rest m d)(G:n<90000){a i j:Nat}(J:a<n)(L:1<=i)(e:j<n){tm:Tm}(f:bj [0,1,4,12,13] tm=[vL p 0 n cc,I a,fR,I i,I j]):
  ∃s m',uT K (fp 212) (cj 212 [10,0,1]) 100000000000000 ⟨tm,m,[]⟩ (.exit 8) ⟨s,m',[]⟩/\bj [0,1,4,12,13] s=[vL p 0 n cc,I a,fR,I i,I (Sort.scanDown (λx=>!cS x d[a]!) d i j:Int)]/\Kp m m' eK/\Sv B p n rest m' d:=by
 suffices H:∃s m',uT K (fp 212) (cj 212 [10,0,1]) 100000000000000 ⟨tm,m,[]⟩ (.exit 8) ⟨s,m',[]⟩/\bj [0,1,4,12,13] s=(λj:Nat=>[vL p 0 n cc,I a,fR,I i,I (if j<n then j else 0:Nat)]) ((λj=>if j<n then Sort.scanDown (λx=>!cS x d[a]!) d i j else j) j)/\Kp m m' eK/\Sv B p n rest m' d by
  obtain⟨t,m',F,C,E,D⟩:=H;simp only[bh e,bh (Nat.lt_of_le_of_lt (Sort.scanDown_le _ _ _ _) e)]at C;exact⟨t,m',F,C,E,D⟩
 refine tT (λj:Nat=>[vL p 0 n cc,I a,fR,I i,I (if j<n then j else 0:Nat)]) (λj=>decide (i<=j)&&decide (j<n)&&!cS d[j]! d[a]!) (· -1) (λj=>if j<n then Sort.scanDown (λx=>!cS x d[a]!) d i j else j) (λj=>j) iq ?_ ?_ ?_ ?_ (i:=j) ai (by simp only[bh e];exact f) h
 .intro j tm m b f h;simp only[ag,iU,Bool.not_eq_true']at b;obtain⟨⟨u,e⟩,r⟩:=b;rw[bh e]at f;obtain⟨c,w,A,y,v,z⟩:=h.cmp (K:=K) (i:=j) (j:=a);have g:=h.gd;obtain⟨o,q,l⟩:=aL qj (Iu p n cc a i j d[j]!.1 d[a]!.1 c) f (.rp (dT gK)<|.idx rfl ai<|.cond (dT gK)<|.mem h.ld<|.rp (dT gK)<|.idx rfl ai<|.cond (dT gK)<|.mem h.ld<|.mem (aJ fS)<|.cond (dT gK)<|.bZ A<|.rp (dT gK)<|.cond (bT (by rw[z,r];rfl))<|.nil);rw[show cf j 1=((j-1:Nat):Int)from lJ (j:=1) ai]at l;exact⟨o,w,q,by rw[bh (show j-1<n by omega)];exact l,y,v⟩
 .intro j tm m b f h;have g:=h.gd
  by_cases e:j<n
  .rw[bh e]at f⊢
   by_cases u:i<=j
   .obtain⟨c,w,A,y,v,z⟩:=h.cmp (K:=K) (i:=j) (j:=a);have r:cS d[j]! d[a]! =U:=by simpa[u,e]using b
    obtain⟨o,q,l⟩:=aL qj (It p n cc a i j d[j]!.1 d[a]!.1 c) f (.rp (dT gK)<|.idx rfl ai<|.cond (dT gK)<|.mem h.ld<|.rp (dT gK)<|.idx rfl ai<|.cond (dT gK)<|.mem h.ld<|.mem (aJ fS)<|.cond (dT gK)<|.bZ A<|.rp (dT gK)<|.cond (bF (by rw[z,r];rfl))<|.nil);exact⟨o,w,q,l,y,v⟩
   .obtain⟨o,q,l⟩:=aL (K:=K) (m:=m) (m':=m) qj (yQ p n cc a i j) f (.rp (dF gK)<|.mem (aJ fS)<|.rp (dF gK)<|.cond rfl<|.nil);exact⟨o,m,q,l,.refl _ _,h⟩
  .rw[bH e]at f⊢;obtain⟨o,q,l⟩:=aL (K:=K) (m:=m) (m':=m) qj (yQ p n cc a i 0) f (.rp (dF gK)<|.mem (aJ fS)<|.rp (dF gK)<|.cond rfl<|.nil);exact⟨o,m,q,l,.refl _ _,h⟩
 .intro j b;simp only[ag,iU]at b;obtain⟨⟨u,e⟩,r⟩:=b;obtain⟨j,rfl⟩:∃k,j=k+1:=⟨j-1,ai⟩;refine⟨?_,by show j+1-1<_;omega⟩
  show(if j+1<n then _ else _)=(if j<n then _ else _)
  rw[bh e,bh (show j<n by omega),Sort.scanDown,bh (by rw[Cb u];exact r)];rfl
 .intro j b
  show(if j<n then _ else _)=_
  split
  .rename_i e;cases j with
   |zero=>rfl
   |succ j=>
    rw[Cb e,Bool.and_true]at b;rw[Sort.scanDown,bH (by rw[b];exact Bool.false_ne_true)]
  .rfl
theorem ajk (p n cc a b q:Nat)(x y:ab):cV 212 0 3 [0,1,2,3,4] [vL p 0 n cc,I a,I b,I q,fR]
 [.idx q n q,
  .mem (aI p (0+q*1)) y,
  .idx a n a,
  .mem (aI p (0+a*1)) x,
  .idx a n a,
  fQ,
  .mem (du p (0+a*1) y) undef,
  .idx q n q,
  fQ,
  .mem (du p (0+q*1) x) undef]
 .normal [0,1,4,12,13] [vL p 0 n cc,I a,fR,I (bU a 1),I (cf b 1)]:=cT
theorem ajh (p n cc a i j:Nat)(x y:ab):cV 212 5 99 [0,1,4,12,13] [vL p 0 n cc,I a,fR,I i,I j]
 [bu (ji i j) U,
  .idx a n a,
  .mem (aI p (0+a*1)) y,
  .idx j n j,
  .mem (aI p (0+j*1)) x,
  .idx j n j,
  fQ,
  .mem (du p (0+j*1) y) undef,
  .idx a n a,
  fQ,
  .mem (du p (0+a*1) x) undef]
 .ret [10,11] [I j,.bool U]:=cT
theorem ajg (p n cc a i j:Nat)(x y:ab):cV 212 5 10 [0,1,4,12,13] [vL p 0 n cc,I a,fR,I i,I j]
 [bu (ji i j) O,
  .idx j n j,
  .mem (aI p (0+j*1)) y,
  .idx i n i,
  .mem (aI p (0+i*1)) x,
  .idx i n i,
  fQ,
  .mem (du p (0+i*1) y) undef,
  .idx j n j,
  fQ,
  .mem (du p (0+j*1) x) undef]
 .normal [0,1,4,12,13] [vL p 0 n cc,I a,fR,I (bU i 1),I (cf j 1)]:=cT
theorem ajj (p n cc a i j:Nat):aY 212 [10,0] 2 99 [0,1,4,12,13] [vL p 0 n cc,I a,fR,I i,I j]
 [bu (ji i j) U]
 (.exit 4) [0,1,4,12,13] [vL p 0 n cc,I a,fR,I i,I j]:=cT
theorem aji (p n cc a i j:Nat)(x y:ab):aY 212 [10,0] 2 99 [0,1,4,12,13] [vL p 0 n cc,I a,fR,I i,I j]
 [bu (ji i j) O,
  .idx j n j,
  .mem (aI p (0+j*1)) y,
  .idx i n i,
  .mem (aI p (0+i*1)) x,
  .idx i n i,
  fQ,
  .mem (du p (0+i*1) y) undef,
  .idx j n j,
  fQ,
  .mem (du p (0+j*1) x) undef]
 .normal [0,1,4,12,13] [vL p 0 n cc,I a,fR,I (bU i 1),I (cf j 1)]:=cT
theorem ajf (p n cc a j:Nat)(x y:ab):cV 212 11 99 [0,1,13] [vL p 0 n cc,I a,I j]
 [.idx a n a,
  .mem (aI p (0+a*1)) y,
  .idx j n j,
  .mem (aI p (0+j*1)) x,
  .idx j n j,
  fQ,
  .mem (du p (0+j*1) y) undef,
  .idx a n a,
  fQ,
  .mem (du p (0+a*1) x) undef]
 .ret [10,11] [I j,.bool O]:=cT
section
variable {K:fE}{B:Nat->Prop}{p n cc:Nat}{rest:List ab}{m m':Mem}{d:Array El}
theorem are (h:Sv B p n rest m d)(M:n<90000){a b q:Nat}(Ay:a<b)(hb:b<=n)(hq:q<n):
  ∃m',Ev K 212 [vL p 0 n cc,I a,I b,I q,fR] m (.tuple #[I ((Sort.partition cS d a b q).1:Int),.bool (Sort.partition cS d a b q).2.1]) m'/\Kp m m' (λy=>y=p)/\Sv B p n rest m' (Sort.partition cS d a b q).2.2:=by
 have g:=h.gd;obtain⟨m1,m2,e1,g1,e2,k2,s2⟩:=h.swap (i:=a) (j:=q);obtain⟨t0,w0,e0⟩:=aU (K:=K) (tm:=entry [vL p 0 n cc,I a,I b,I q,fR]) (ajk p n cc a b q d[a]!.1 d[q]!.1) rfl (.idx rfl ai<|.mem h.ld<|.idx rfl ai<|.mem h.ld<|.idx rfl ai<|.mem (aJ fS)<|.mem e1<|.idx rfl ai<|.mem (aJ fS)<|.mem e2<|.nil);rw[eQ,show cf b 1=((b-1:Nat):Int)from lJ (j:=1) ai]at e0;unfold Sort.partition;simp only[];generalize Sort.swp d a q=d1 at*;obtain⟨ta,ma,J,V,R,P⟩:=afg (K:=K) s2 M ai ai e0;have T:=Sort.scanUp_ge (λx=>cS x d1[a]!) d1 (b-1) (a+1);generalize Sort.scanUp (λx=>cS x d1[a]!) d1 (b-1) (a+1)=i at*;obtain⟨W,z,H,E,Q,c⟩:=aff (K:=K) P M ai ai ai V;have S:=Sort.scanDown_le (λx=>!cS x d1[a]!) d1 i (b-1);generalize Sort.scanDown (λx=>!cS x d1[a]!) d1 i (b-1)=j at*;have gg:=c.gd;have v:=(k2.aX R).aX Q;have lead:∀e st,aC K (fp 212) (bX 212) 5 ⟨W,z,[]⟩ e st->aC K (fp 212) (bX 212) 0 ⟨entry [vL p 0 n cc,I a,I b,I q,fR],m,[]⟩ e st:=λe st k=>aC.cut w0 (aC.fC J (aC.fC H k))
 by_cases C:i>j
 .rw[bh C];obtain⟨X,A,G,N,F,D,w⟩:=c.swap (i:=j) (j:=a);obtain⟨u,s,l⟩:=aU (ajh p n cc a i j d1[j]!.1 d1[a]!.1) E (.cond (dT od)<|.idx rfl ai<|.mem c.ld<|.idx rfl ai<|.mem c.ld<|.idx rfl ai<|.mem (aJ fS)<|.mem G<|.idx rfl ai<|.mem (aJ fS)<|.mem F<|.nil);exact⟨A,dE (vs:=[I j,.bool U]) adZ (lead _ _ (aC.last s G8)) (.inr rfl) l,v.trans D λ_ _ h=>h,w⟩
 rw[bH C];obtain⟨X,A,G,N,F,D,w⟩:=c.swap (i:=i) (j:=j);obtain⟨tc,wc,gc⟩:=aU (ajg p n cc a i j d1[i]!.1 d1[j]!.1) E (.cond (dF od)<|.idx rfl ai<|.mem c.ld<|.idx rfl ai<|.mem c.ld<|.idx rfl ai<|.mem (aJ fS)<|.mem G<|.idx rfl ai<|.mem (aJ fS)<|.mem F<|.nil);rw[eQ,show cf j 1=((j-1:Nat):Int)from lJ (j:=1) ai]at gc;generalize hr:Sort.partLoop cS a (i+1) (j-1) (Sort.swp d1 i j)=r;obtain⟨e,t1,m5,he,hx,rfl,hv,hrn,k5,L⟩:=j7 (K:=K) (nt:=fp 212) (a:=cj 212 [10])
  (Inv:=λk tm m'=>∃(f:Array El) (i j:Nat),1<=i/\j<n/\k=j+1-i/\bj [0,1,4,12,13] tm=[vL p 0 n cc,I a,fR,I i,I j]/\Kp m m' (λy=>y=p)/\Sv B p n rest m' f/\Sort.partLoop cS a i j f=r)
  (dm:=λe tm m'=>e=.exit 4/\bj [0,1,13] tm=[vL p 0 n cc,I a,I r.1]/\r.1<n/\Kp m m' (λy=>y=p)/\Sv B p n rest m' r.2)
  (by
   rintro k tm m1 ⟨f,i,j,hi,hj,rfl,hg,k1,s1,t⟩;obtain⟨ta,ma,J,V,R,P⟩:=KG (K:=K) s1 M ai hj hg;have T:=Sort.scanUp_ge (λx=>cS x f[a]!) f j i;rw[Sort.partLoop]at t;generalize Sort.scanUp (λx=>cS x f[a]!) f j i=i2 at*;obtain⟨W,z,H,E,Q,c⟩:=KF (K:=K) P M ai ai hj V;have S:=Sort.scanDown_le (λx=>!cS x f[a]!) f i2 j;generalize Sort.scanDown (λx=>!cS x f[a]!) f i2 j=o at*;have gg:=c.gd;have v:=(k1.aX R).aX Q
   by_cases C:i2>o
   .rw[bh C]at t;obtain⟨u,s,l⟩:=aU (K:=K) (m:=z) (m':=z) (ajj p n cc a i2 o) E (.cond (dT od)<|.nil);have N:bj [0,1,13] u=[vL p 0 n cc,I a,I o]:=by
     simp only[bj,List.map_cons,List.map_nil,List.cons.injEq,and_true]at l⊢;exact⟨l.1,l.2.1,l.2.2.2.2⟩
    exact .inr ⟨.exit 4,u,z,iq,(aC.Pk Fu Fq (aC.fC J (aC.fC H (aC.last s (af aM)))) rfl aM).code Lp,rfl,by rw[N,<-t],by rw[<-t];show o<n;omega,v,by rw[<-t];exact c⟩
   .rw[bH C,dif_pos ai]at t;obtain⟨X,A,G,N,F,D,w⟩:=c.swap (i:=i2) (j:=o);obtain⟨u,s,l⟩:=aU (aji p n cc a i2 o f[i2]!.1 f[o]!.1) E (.cond (dF od)<|.idx rfl ai<|.mem c.ld<|.idx rfl ai<|.mem c.ld<|.idx rfl ai<|.mem (aJ fS)<|.mem G<|.idx rfl ai<|.mem (aJ fS)<|.mem F<|.nil);rw[eQ,show cf o 1=((o-1:Nat):Int)from lJ (j:=1) ai]at l;exact .inl ⟨_,u,A,ai,(aC.uz Fu Fq (aC.fC J (aC.fC H (aC.last s (af aM)))) (.inl rfl) (aC.done (af aM))).code Lp,_,i2+1,o-1,ai,ai,rfl,l,v.trans D λ_ _ h=>h,w,t⟩)
  (n:=j-1+1-(i+1)) (k:=100000000000000) (tm:=tc) (m:=A) ⟨_,i+1,j-1,ai,ai,rfl,gc,v.trans D λ_ _ h=>h,w,hr⟩ ai
 have g5:=L.gd;obtain⟨m6,m7,e6,g6,e7,k7,s7⟩:=L.swap (i:=r.1) (j:=a);obtain⟨u,s,l⟩:=aU (ajf p n cc a r.1 r.2[r.1]!.1 r.2[a]!.1) hv (.idx rfl ai<|.mem L.ld<|.idx rfl ai<|.mem L.ld<|.idx rfl ai<|.mem (aJ fS)<|.mem e6<|.idx rfl ai<|.mem (aJ fS)<|.mem e7<|.nil);exact⟨m7,dE (vs:=[I r.1,.bool O]) adZ (lead _ _ (aC.cut wc (aC.fC hx (aC.last s G8)))) (.inr rfl) l,k5.trans k7 λ_ _ h=>h,s7⟩
end
theorem akJ (p n cc a b gY:Nat)(d c:Bool):aY 152 [2,0] 0 99 [0,1,2,3,4,10,11] [vL p 0 n cc,I a,I b,I gY,fR,.bool d,.bool c]
 [bu (gu (cf b a) 12) U,
  .call 205 [vL p 0 n cc,I a,I b,fR] (.tuple #[])]
 .ret [] []:=cT
theorem akI (p n cc a b gY:Nat)(d c:Bool):aY 152 [2,0] 0 99 [0,1,2,3,4,10,11] [vL p 0 n cc,I a,I b,I gY,fR,.bool d,.bool c]
 [bu (gu (cf b a) 12) O,
  bu (rk gY 0) U,
  .call 206 [vL p 0 n cc,I a,I b,fR] (.tuple #[])]
 .ret [] []:=cT
theorem akH (p n cc a b gY:Nat)(c d:Bool):aY 152 [2,0] 0 7 [0,1,2,3,4,10,11] [vL p 0 n cc,I a,I b,I gY,fR,.bool c,.bool d]
 [bu (gu (cf b a) 12) O,
  bu (rk gY 0) O,
  bu (!c) U,
  .call 207 [vL p 0 n cc,I a,I b,fR] (.tuple #[])]
 .normal [0,1,2,3,4,10,11,12] [vL p 0 n cc,I a,I b,I (cf gY 1),fR,.bool c,.bool d,I (cf b a)]:=cT
theorem akG (p n cc a b gY:Nat)(c d:Bool):aY 152 [2,0] 0 7 [0,1,2,3,4,10,11] [vL p 0 n cc,I a,I b,I gY,fR,.bool c,.bool d]
 [bu (gu (cf b a) 12) O,
  bu (rk gY 0) O,
  bu (!c) O]
 .normal [0,1,2,3,4,10,11,12] [vL p 0 n cc,I a,I b,I gY,fR,.bool c,.bool d,I (cf b a)]:=cT
theorem akF (p n cc a b gY l:Nat)(d c:Bool)(q h:Nat):aY 152 [2,0] 7 10 [0,1,2,3,4,10,11,12] [vL p 0 n cc,I a,I b,I gY,fR,.bool d,.bool c,I l]
 [.call 208 [vL p 0 n cc,I a,I b,fR] (.tuple #[I q,I h]),
  bu (rk h 2) U,
  .call 209 [vL p 0 n cc,I a,I b,fR] (.tuple #[])]
 .normal [0,1,2,3,4,10,11,12,13,14] [vL p 0 n cc,I a,I b,I gY,fR,.bool d,.bool c,I l,I (cf (cf b 1) (cf q a)),I 1]:=cT
theorem akE (p n cc a b gY l:Nat)(d c:Bool)(q h:Nat):aY 152 [2,0] 7 10 [0,1,2,3,4,10,11,12] [vL p 0 n cc,I a,I b,I gY,fR,.bool d,.bool c,I l]
 [.call 208 [vL p 0 n cc,I a,I b,fR] (.tuple #[I q,I h]),
  bu (rk h 2) O]
 .normal [0,1,2,3,4,10,11,12,13,14] [vL p 0 n cc,I a,I b,I gY,fR,.bool d,.bool c,I l,I q,I h]:=cT
theorem akD (p n cc a b gY l q h:Nat)(c d:Bool)(z:Bool):aY 152 [2,0] 10 12 [0,1,2,3,4,10,11,12,13,14] [vL p 0 n cc,I a,I b,I gY,fR,.bool c,.bool d,I l,I q,I h]
 (bu c U::bu c U::(rp 3 (.bool d) U ([bu (rk h 1) U,
  .call 210 [vL p 0 n cc,I a,I b,fR] (.bool z),
  bu z O])))
 .normal [0,1,2,3,4,10,11,12,13] [vL p 0 n cc,I a,I b,I gY,fR,.bool c,.bool d,I l,I q]:=cT
theorem akC (p n cc a b gY l q h:Nat)(c d:Bool)(z:Bool):aY 152 [2,0] 10 99 [0,1,2,3,4,10,11,12,13,14] [vL p 0 n cc,I a,I b,I gY,fR,.bool c,.bool d,I l,I q,I h]
 (bu c U::bu c U::(rp 3 (.bool d) U ([bu (rk h 1) U,
  .call 210 [vL p 0 n cc,I a,I b,fR] (.bool z),
  bu z U])))
 .ret [] []:=cT
theorem akB (p n cc a b gY l q h:Nat)(c d:Bool):aY 152 [2,0] 10 12 [0,1,2,3,4,10,11,12,13,14] [vL p 0 n cc,I a,I b,I gY,fR,.bool c,.bool d,I l,I q,I h]
 (bu c O::bu c O::(rp 4 (.bool O) O ([])))
 .normal [0,1,2,3,4,10,11,12,13] [vL p 0 n cc,I a,I b,I gY,fR,.bool c,.bool d,I l,I q]:=cT
theorem akA (p n cc a b gY l q h:Nat)(c d:Bool):aY 152 [2,0] 10 12 [0,1,2,3,4,10,11,12,13,14] [vL p 0 n cc,I a,I b,I gY,fR,.bool c,.bool d,I l,I q,I h]
 (bu c U::bu c U::(rp 3 (.bool d) O ([jT])))
 .normal [0,1,2,3,4,10,11,12,13] [vL p 0 n cc,I a,I b,I gY,fR,.bool c,.bool d,I l,I q]:=cT
theorem akz (p n cc a b gY l q h:Nat)(c d:Bool):aY 152 [2,0] 10 12 [0,1,2,3,4,10,11,12,13,14] [vL p 0 n cc,I a,I b,I gY,fR,.bool c,.bool d,I l,I q,I h]
 (bu c U::bu c U::(rp 3 (.bool d) U ([bu (rk h 1) O])))
 .normal [0,1,2,3,4,10,11,12,13] [vL p 0 n cc,I a,I b,I gY,fR,.bool c,.bool d,I l,I q]:=cT
theorem aky (p n cc a b gY l q e:Nat)(d c:Bool):aY 152 [2,0] 12 14 [0,1,2,3,4,10,11,12,13] [vL p 0 n cc,I a,I b,I gY,fR,.bool d,.bool c,I l,I q]
 ((rp 10 (.bool (ji a 0)) O (fQ::(rp 4 (.bool (ji a 0)) O ([jT])))))
 .normal [0,1,2,3,4,10,11,12,13] [vL p 0 n cc,I a,I b,I gY,fR,.bool d,.bool c,I l,I q]:=cT
theorem akx (p n cc a b gY l q f:Nat)(e d:Bool)(x y:ab)(c:Int):aY 152 [2,0] 12 14 [0,1,2,3,4,10,11,12,13] [vL p 0 n cc,I a,I b,I gY,fR,.bool e,.bool d,I l,I q]
 ((rp 5 (.bool (ji a 0)) U (.idx (cf a 1) n f::bu (ji a 0) U::.mem (aI p (0+f*1)) x::(rp 3 (.bool (ji a 0)) U (.idx q n q::bu (ji a 0) U::.mem (aI p (0+q*1)) y::fQ::bu (ji a 0) U::.bZ fR [x,y] (I c)::(rp 3 (.bool (ji a 0)) U ([bu (!(dx c 0)) O])))))))
 .normal [0,1,2,3,4,10,11,12,13] [vL p 0 n cc,I a,I b,I gY,fR,.bool e,.bool d,I l,I q]:=cT
theorem akw (p n cc a b gY l q g:Nat)(e d:Bool)(x y:ab)(c:Int)(f:Nat):aY 152 [2,0] 12 99 [0,1,2,3,4,10,11,12,13] [vL p 0 n cc,I a,I b,I gY,fR,.bool e,.bool d,I l,I q]
 ((rp 5 (.bool (ji a 0)) U (.idx (cf a 1) n g::bu (ji a 0) U::.mem (aI p (0+g*1)) x::(rp 3 (.bool (ji a 0)) U (.idx q n q::bu (ji a 0) U::.mem (aI p (0+q*1)) y::fQ::bu (ji a 0) U::.bZ fR [x,y] (I c)::(rp 3 (.bool (ji a 0)) U ([bu (!(dx c 0)) U,
  .call 211 [vL p 0 n cc,I a,I b,I q,fR] (I f)])))))))
 (.exit 1) [0,1,2,3,4,10,11] [vL p 0 n cc,I f,I b,I gY,fR,.bool e,.bool d]:=cT
theorem akv (p n cc a b gY l q c d:Nat)(f e ap:Bool):aY 152 [2,0] 14 99 [0,1,2,3,4,10,11,12,13] [vL p 0 n cc,I a,I b,I gY,fR,.bool f,.bool e,I l,I q]
 [.call 212 [vL p 0 n cc,I a,I b,I q,fR] (.tuple #[I c,.bool ap]),
  .val (jk Nat.div .i64 l 8 (j5 ae .quo 3 O U (I l) (I 8))) (I d),
  bu (dx (cf c a) (cf b c)) U,
  .call 152 [vL p 0 n cc,I a,I c,I gY,fR] (.tuple #[])]
 .normal [0,1,2,3,4,10,11] [vL p 0 n cc,I (bU c 1),I b,I gY,fR,.bool (th (cf c a) d),.bool ap]:=cT
theorem aku (p n cc a b gY l q c d:Nat)(f e ap:Bool):aY 152 [2,0] 14 99 [0,1,2,3,4,10,11,12,13] [vL p 0 n cc,I a,I b,I gY,fR,.bool f,.bool e,I l,I q]
 [.call 212 [vL p 0 n cc,I a,I b,I q,fR] (.tuple #[I c,.bool ap]),
  .val (jk Nat.div .i64 l 8 (j5 ae .quo 3 O U (I l) (I 8))) (I d),
  bu (dx (cf c a) (cf b c)) O,
  .call 152 [vL p 0 n cc,I (bU c 1),I b,I gY,fR] (.tuple #[])]
 .normal [0,1,2,3,4,10,11] [vL p 0 n cc,I a,I c,I gY,fR,.bool (th (cf b c) d),.bool ap]:=cT
theorem akt (p n cc a b gY:Nat):cV 152 0 2 [0,1,2,3,4] [vL p 0 n cc,I a,I b,I gY,fR]
 []
 .normal [0,1,2,3,4,10,11] [vL p 0 n cc,I a,I b,I gY,fR,.bool U,.bool U]:=cT
theorem qH:jD (cj 152 [2]) 0=Z (1,(cj 152 [2,0])):=aM
theorem qG:kT (fp 152) (cj 152 [2]) (cj 152 [2,0]) 0 1=U:=aM
theorem afL {d d1 d2:Array El}{a b gY f q:Nat}{g i:Bool}{c:Nat×Sort.Hint}{h:Sort.Hint}{e:Array El×Bool}(s:¬b-a<=12)(j:¬gY=0)
  (r:d1=if !g then Sort.breakPatterns d a b else d)(p:f=if !g then gY-1 else gY)(o:c=Sort.choosePivot cS d1 a b)(n:d2=if c.2=.decreasing then Sort.reverseRange d1 a b else d1)
  (m:q=if c.2=.decreasing then(b-1)-(c.1-a)else c.1)(l:h=if c.2=.decreasing then Sort.Hint.increasing else c.2)(k:e=if g&&i&&h=.increasing then Sort.partialInsertionSort cS d2 a b else(d2,O)):
  Sort.pdq cS d a b gY g i=(if e.2 then e.1 else
   if a>0&&!cS e.1[a-1]! e.1[q]! then
    if _h:a<(Sort.partitionEqual cS e.1 a b q).1/\(Sort.partitionEqual cS e.1 a b q).1<=b then Sort.pdq cS (Sort.partitionEqual cS e.1 a b q).2 (Sort.partitionEqual cS e.1 a b q).1 b f g i else(Sort.partitionEqual cS e.1 a b q).2
   else
    if _h:a<=(Sort.partition cS e.1 a b q).1/\(Sort.partition cS e.1 a b q).1<b then
     if(Sort.partition cS e.1 a b q).1-a<b-(Sort.partition cS e.1 a b q).1 then
      Sort.pdq cS (Sort.pdq cS (Sort.partition cS e.1 a b q).2.2 a (Sort.partition cS e.1 a b q).1 f U U) ((Sort.partition cS e.1 a b q).1+1) b f (decide ((Sort.partition cS e.1 a b q).1-a≥(b-a) / 8)) (Sort.partition cS e.1 a b q).2.1
     else
      Sort.pdq cS (Sort.pdq cS (Sort.partition cS e.1 a b q).2.2 ((Sort.partition cS e.1 a b q).1+1) b f U U) a (Sort.partition cS e.1 a b q).1 f (decide (b-(Sort.partition cS e.1 a b q).1≥(b-a) / 8)) (Sort.partition cS e.1 a b q).2.1
    else(Sort.partition cS e.1 a b q).2.2):=by
 subst r p o n m l k;rw[Sort.pdq,bH s,bH j]
theorem IH {d:Array El}{a b q:Nat}(g:a<b)(f:b<=d.size):a<(Sort.partitionEqual cS d a b q).1/\(Sort.partitionEqual cS d a b q).1<=b:=by
 obtain⟨e,c,_⟩:=Sort.partEqLoop_spec (lt:=cS) a b _ (a+1) (b-1) (Sort.swp d a q) (aj _) ai ai ai (by rw[Sort.size_swp];exact f) (λt _ _=>by omega) (λt _ _=>by omega);exact⟨e,c⟩
theorem NX {d:Array El}{a b q:Nat}(g:a<b)(f:b<=d.size):a<=(Sort.partition cS d a b q).1/\(Sort.partition cS d a b q).1<b:=by
 obtain⟨e,c,_⟩:=Sort.partLoop_spec (lt:=cS) a b _ (a+1) (b-1) (Sort.swp d a q) (aj _) ai ai ai (by rw[Sort.size_swp];exact f) (λt _ _=>by omega) (λt _ _=>by omega);rw[Sort.partition_fst];exact⟨e,c⟩
section
variable {K:fE}{B:Nat->Prop}{p n cc:Nat}{rest:List ab}{m m':Mem}{d:Array El}
theorem arH (h:Sv B p n rest m d)(u:n<65536){a b gY:Nat}{c f:Bool}(v:b<=n)(x:∀b,B b->b<m.next)(D:¬b-a<=12)(C:¬gY=0)(A:gY<2^59){tm:Tm}(l:bj [0,1,2,3,4,10,11] tm=[vL p 0 n cc,I a,I b,I gY,fR,.bool c,.bool f]):
  ∃t e d1 k,xq K (fp 152) (vE (cj 152 [2,0]) 0 7) ⟨tm,m,[]⟩ .normal ⟨t,e,[]⟩/\bj [0,1,2,3,4,10,11,12] t=[vL p 0 n cc,I a,I b,I (k:Nat),fR,.bool c,.bool f,I (b-a:Nat)]/\Kp m e (λy=>y=p)/\Sv B p n rest e d1/\
   d1=(if !c then Sort.breakPatterns d a b else d)/\k=if !c then gY-1 else gY:=by
 have i:cf b a=((b-a:Nat):Int):=lJ ai;have q:(.bool (gu (cf b a) 12):ab)=.bool O:=by rw[i];exact dF (gK (j:=12))
 have o:(.bool (rk gY 0):ab)=.bool O:=by rw[my];exact bF (yz ai)
 cases c with
 |false=>
  obtain⟨e,z,s,r⟩:=ark (K:=K) (cc:=cc) h u (a:=a) (b:=b) ai v x;obtain⟨t,w,g⟩:=aU (akH p n cc a b gY O f) l (.cond q<|.cond o<|.cond rfl<|.call z<|.nil);rw[i,show cf gY 1=((gY-1:Nat):Int)from lJ (j:=1) ai]at g;exact⟨t,e,_,_,w,g,s,r,rfl,rfl⟩
 |true=>
  obtain⟨t,w,g⟩:=aU (K:=K) (m:=m) (m':=m) (akG p n cc a b gY U f) l (.cond q<|.cond o<|.cond rfl<|.nil);rw[i]at g;exact⟨t,m,_,_,w,g,.refl _ _,h,rfl,rfl⟩
theorem arB (h:Sv B p n rest m d)(L:n<65536){a b gY l:Nat}{i f:Bool}(C:a<b)(A:b<=n)(H:∀b,B b->b<m.next){tm:Tm}(x:bj [0,1,2,3,4,10,11,12] tm=[vL p 0 n cc,I a,I b,I gY,fR,.bool i,.bool f,I l]):
  ∃t e d2 q v,xq K (fp 152) (vE (cj 152 [2,0]) 7 10) ⟨tm,m,[]⟩ .normal ⟨t,e,[]⟩/\bj [0,1,2,3,4,10,11,12,13,14] t=[vL p 0 n cc,I a,I b,I gY,fR,.bool i,.bool f,I l,I (q:Nat),I (vx v:Nat)]/\Kp m e (λy=>y=p)/\Sv B p n rest e d2/\q<n/\
   d2=(if(Sort.choosePivot cS d a b).2=.decreasing then Sort.reverseRange d a b else d)/\q=(if(Sort.choosePivot cS d a b).2=.decreasing then(b-1)-((Sort.choosePivot cS d a b).1-a)else(Sort.choosePivot cS d a b).1)/\
   v=if(Sort.choosePivot cS d a b).2=.decreasing then Sort.Hint.increasing else(Sort.choosePivot cS d a b).2:=by
 obtain⟨e,o,u,r,z⟩:=arj (K:=K) (cc:=cc) h ai A C H;obtain⟨s,E⟩:=Sort.choosePivot_holds cS d a b C;generalize Sort.choosePivot cS d a b=c at*;obtain⟨c,k⟩:=c;simp only[]at s E o z⊢
 by_cases hd:k=.decreasing
 .obtain⟨F,J,G,D⟩:=ari (K:=K) (cc:=cc) r ai (a:=a) (b:=b) A ai ai;obtain⟨t,w,g⟩:=aU (akF p n cc a b gY l i f c (vx k)) x (.call o<|.cond (by rw[hd];rfl)<|.call J<|.nil);rw[show cf b 1=((b-1:Nat):Int)from lJ (j:=1) ai,show cf c a=((c-a:Nat):Int)from lJ s,lJ ai]at g;rw[bh hd,bh hd,bh hd];exact⟨t,F,_,_,_,w,g,u.sC.trans G λ_ _ h=>h,D,ai,rfl,rfl,rfl⟩
 .obtain⟨t,w,g⟩:=aU (akE p n cc a b gY l i f c (vx k)) x (.call o<|.cond (by rw[my];exact bF (yz (by cases k<;>first |exact absurd rfl hd|decide)))<|.nil);rw[bH hd,bH hd,bH hd];exact⟨t,e,_,_,_,w,g,u.sC,r,z,rfl,rfl,rfl⟩
theorem anX (h:Sv B p n rest m d)(C:n<65536){a b gY l q:Nat}{k f:Bool}{c:Sort.Hint}(A:a<b)(z:b<=n){tm:Tm}(j:bj [0,1,2,3,4,10,11,12,13,14] tm=[vL p 0 n cc,I a,I b,I gY,fR,.bool k,.bool f,I l,I q,I (vx c:Nat)]):
  ∃t e o,Kp m e (λy=>y=p)/\Sv B p n rest e o.1/\o=(if k&&f&&c=.increasing then Sort.partialInsertionSort cS d a b else(d,O))/\
   ((o.2=U/\aC K (fp 152) (cj 152 [2,0]) 10 ⟨tm,m,[]⟩ .ret ⟨t,e,[]⟩)\/(o.2=O/\xq K (fp 152) (vE (cj 152 [2,0]) 10 12) ⟨tm,m,[]⟩ .normal ⟨t,e,[]⟩/\bj [0,1,2,3,4,10,11,12,13] t=[vL p 0 n cc,I a,I b,I gY,fR,.bool k,.bool f,I l,I q])):=by
 cases k with
 |false=>
  obtain⟨t,w,g⟩:=aU (K:=K) (m:=m) (m':=m) (akB p n cc a b gY l q (vx c) O f) j (.cond rfl<|.cond rfl<|.rp rfl<|.nil);exact⟨t,m,(d,O),.refl _ _,h,rfl,.inr ⟨rfl,w,g⟩⟩
 |true=>
  cases f with
  |false=>
   obtain⟨t,w,g⟩:=aU (K:=K) (m:=m) (m':=m) (akA p n cc a b gY l q (vx c) U O) j (.cond rfl<|.cond rfl<|.rp rfl<|.cond rfl<|.nil);exact⟨t,m,(d,O),.refl _ _,h,rfl,.inr ⟨rfl,w,g⟩⟩
  |true=>
   by_cases i:c=.increasing
   .obtain⟨e,v,u,s⟩:=arh (K:=K) (cc:=cc) h ai A z;have x:(.bool (rk (vx c:Int) 1):ab)=.bool U:=by rw[i];rfl
    cases r:(Sort.partialInsertionSort cS d a b).2 with
    |true=>
     obtain⟨t,w,g⟩:=aU (akC p n cc a b gY l q (vx c) U U (Sort.partialInsertionSort cS d a b).2) j (.cond rfl<|.cond rfl<|.rp rfl<|.cond x<|.call v<|.cond (bT r)<|.nil);exact⟨t,e,_,u,s,by rw[i];rfl,.inl ⟨r,aC.last w (af aM)⟩⟩
    |false=>
     obtain⟨t,w,g⟩:=aU (akD p n cc a b gY l q (vx c) U U (Sort.partialInsertionSort cS d a b).2) j (.cond rfl<|.cond rfl<|.rp rfl<|.cond x<|.call v<|.cond (bF r)<|.nil);exact⟨t,e,_,u,s,by rw[i];rfl,.inr ⟨r,w,g⟩⟩
   .obtain⟨t,w,g⟩:=aU (K:=K) (m:=m) (m':=m) (akz p n cc a b gY l q (vx c) U U) j (.cond rfl<|.cond rfl<|.rp rfl<|.cond (by rw[my];exact bF (yz (by cases c<;>first |exact absurd rfl i|decide)))<|.nil);exact⟨t,m,(d,O),.refl _ _,h,by simp[i],.inr ⟨rfl,w,g⟩⟩
theorem arq:∀(N:Nat) {m:Mem}{d:Array El}{a b gY:Nat},b-a<=N->Sv B p n rest m d->n<65536->a<=b->b<=n->gY<2^59->(∀b,B b->b<m.next)->
  ∃m',Ev K 152 [vL p 0 n cc,I a,I b,I gY,fR] m (.tuple #[]) m'/\Kp m m' (λy=>y=p)/\Sv B p n rest m' (Sort.pdq cS d a b gY U U):=by
 intro N
 induction N using Nat.strongRecOn with
 |ind N ih=>
 intro m d a b gY hN h V Ay G ap7 hB;obtain⟨t0,w0,e0⟩:=aU (K:=K) (m:=m) (m':=m) (tm:=entry [vL p 0 n cc,I a,I b,I gY,fR]) (akt p n cc a b gY) rfl .nil;generalize hr:Sort.pdq cS d a b gY U U=r;obtain⟨e,t1,m3,he,hx,rfl,k3,s3⟩:=j7 (K:=K) (nt:=fp 152) (a:=cj 152 [2])
  (Inv:=λk tm m'=>∃(d':Array El) (a' b' J:Nat) (u s:Bool),k=b'-a'/\a'<=b'/\b'<=n/\b'-a'<=N/\J<2^59/\bj [0,1,2,3,4,10,11] tm=[vL p 0 n cc,I a',I b',I J,fR,.bool u,.bool s]/\Kp m m' (λy=>y=p)/\Sv B p n rest m' d'/\Sort.pdq cS d' a' b' J u s=r)
  (dm:=λe tm m'=>e=.ret/\Kp m m' (λy=>y=p)/\Sv B p n rest m' r)
  (by
   rintro k tm m1 ⟨d',a',b',J,u,s,rfl,nZ,D,hN',BJ,hg,k1,s1,l⟩;have hB1:∀b,B b->b<m1.next:=λb G=>by have :=hB b G;have :=k1.next;omega
   have e1:cf b' a'=((b'-a':Nat):Int):=lJ ai
   by_cases J7:b'-a'<=12
   .obtain⟨z,Q,M,L⟩:=arn (K:=K) (cc:=cc) s1 ai (a:=a') (b:=b') D ai;obtain⟨t,w,g⟩:=aU (akJ p n cc a' b' J u s) hg (.cond (by rw[e1];exact dT (gK (j:=12)))<|.call Q<|.nil);rw[Sort.pdq,bh J7]at l;exact .inr ⟨.ret,t,z,iq,(aC.AS qH qG (aC.last w (af aM)) aM).code tZ,rfl,k1.trans M λ_ _ h=>h,by rw[<-l];exact L⟩
   have c1:(.bool (gu (cf b' a') 12):ab)=.bool O:=by rw[e1];exact dF (gK (j:=12))
   by_cases H:J=0
   .obtain⟨z,Q,M,L⟩:=arl (K:=K) (cc:=cc) s1 ai (a:=a') (b:=b') ai D;obtain⟨t,w,g⟩:=aU (akI p n cc a' b' J u s) hg (.cond c1<|.cond (by rw[H];rfl)<|.call Q<|.nil);rw[Sort.pdq,bH J7,bh H]at l;exact .inr ⟨.ret,t,z,iq,(aC.AS qH qG (aC.last w (af aM)) aM).code tZ,rfl,k1.trans M λ_ _ h=>h,by rw[<-l];exact L⟩
   obtain⟨ta,ma,d1,v,wa,ga,ka,sa,hd1,LX⟩:=arH (K:=K) s1 V D hB1 J7 H BJ hg;have X:∀b,B b->b<ma.next:=λb G=>by have :=hB1 b G;have :=ka.next;omega
   obtain⟨tb,mb,d2,q,hh,R,gb,kb,sb,hq,X3,hqq,hhh⟩:=arB (K:=K) sa V ai D X ga;obtain⟨tc,C,f,kc,A,hpi,sZ⟩:=anX (K:=K) sb V ai D gb;have kk:=((k1.trans ka λ_ _ h=>h).trans kb λ_ _ h=>h).trans kc λ_ _ h=>h
   rw[afL J7 H hd1 LX rfl X3 hqq hhh hpi]at l;have XP:v<2^59:=by rw[LX];split<;>omega
   rcases sZ with⟨Zt,wc⟩|⟨Zt,wc,gc⟩
   .rw[bh Zt]at l;exact .inr ⟨.ret,tc,C,iq,(aC.AS qH qG (aC.cut wa (aC.cut R wc)) aM).code tZ,rfl,kk,by rw[<-l];exact A⟩
   rw[bH (by rw[Zt];exact Bool.false_ne_true)]at l
   left
   have go:∀{e st},aC K (fp 152) (cj 152 [2,0]) 12 ⟨tc,C,[]⟩ e st->aC K (fp 152) (cj 152 [2,0]) 0 ⟨tm,m1,[]⟩ e st:=λk=>aC.cut wa (aC.cut R (aC.cut wc k))
   have gcm:=A.gd;have ja:=A.sz;have pick:(∃t z,aC K (fp 152) (cj 152 [2,0]) 12 ⟨tc,C,[]⟩ (.exit 1) ⟨t,z,[]⟩/\bj [0,1,2,3,4,10,11] t=[vL p 0 n cc,I ((Sort.partitionEqual cS f.1 a' b' q).1:Int),I b',I v,fR,.bool u,.bool s]/\Kp C z (λy=>y=p)/\Sv B p n rest z (Sort.partitionEqual cS f.1 a' b' q).2/\(decide (a'>0)&&!cS f.1[a'-1]! f.1[q]!)=U)\/
     (∃t z,xq K (fp 152) (vE (cj 152 [2,0]) 12 14) ⟨tc,C,[]⟩ .normal ⟨t,z,[]⟩/\bj [0,1,2,3,4,10,11,12,13] t=[vL p 0 n cc,I a',I b',I v,fR,.bool u,.bool s,I (b'-a':Nat),I q]/\Kp C z eK/\Sv B p n rest z f.1/\(decide (a'>0)&&!cS f.1[a'-1]! f.1[q]!)=O):=by
    by_cases H:a'>0
    .obtain⟨c,z,Q,M,L,hc⟩:=A.cmp (K:=K) (i:=a'-1) (j:=q);have ea:cf a' 1=((a'-1:Nat):Int):=lJ (j:=1) ai;cases hl:cS f.1[a'-1]! f.1[q]! with
     |true=>
      obtain⟨t,w,g⟩:=aU (akx p n cc a' b' v (b'-a') q (a'-1) u s f.1[a'-1]!.1 f.1[q]!.1 c) gc (.rp (dT (od (j:=0)))<|.idx ea ai<|.cond (dT (od (j:=0)))<|.mem A.ld<|.rp (dT (od (j:=0)))<|.idx rfl ai<|.cond (dT (od (j:=0)))<|.mem A.ld<|.mem (aJ fS)<|.cond (dT (od (j:=0)))<|.bZ Q<|.rp (dT (od (j:=0)))<|.cond (bF (by rw[hc,hl];rfl))<|.nil);exact .inr ⟨t,z,w,g,M,L,dA⟩
     |false=>
      obtain⟨m3,e3,k3,s3⟩:=arf (K:=K) (cc:=cc) L ai (a:=a') (b:=b') ai D hq;obtain⟨t,w,g⟩:=aU (akw p n cc a' b' v (b'-a') q (a'-1) u s f.1[a'-1]!.1 f.1[q]!.1 c _) gc (.rp (dT (od (j:=0)))<|.idx ea ai<|.cond (dT (od (j:=0)))<|.mem A.ld<|.rp (dT (od (j:=0)))<|.idx rfl ai<|.cond (dT (od (j:=0)))<|.mem A.ld<|.mem (aJ fS)<|.cond (dT (od (j:=0)))<|.bZ Q<|.rp (dT (od (j:=0)))<|.cond (bT (by rw[hc,hl];rfl))<|.call e3<|.nil);exact .inl ⟨t,m3,aC.last w (af aM),g,M.sC.trans k3 λ_ _ h=>h,s3,by simp[H]⟩
    .obtain⟨t,w,g⟩:=aU (K:=K) (m:=C) (m':=C) (aky p n cc a' b' v (b'-a') q 0 u s) gc (.rp (dF (od (j:=0)))<|.mem (aJ fS)<|.rp (dF (od (j:=0)))<|.cond rfl<|.nil);exact .inr ⟨t,C,w,g,.refl _ _,A,by simp[H]⟩
   rcases pick with⟨td,md,wd,gd,kd,sd,F⟩|⟨td,md,wd,gd,kd,sd,F⟩
   .obtain⟨E,S⟩:=IH (d:=f.1) (q:=q) (show a'<b' by omega) ai;rw[bh F,dif_pos ⟨E,S⟩]at l;exact⟨_,td,md,ai,(aC.uz qH qG (go wd) (.inr rfl) (aC.done (af aM))).code tZ,_,_,b',v,u,s,rfl,S,D,ai,XP,gd,kk.trans kd λ_ _ h=>h,sd,l⟩
   .obtain⟨E,S⟩:=NX (d:=f.1) (q:=q) (show a'<b' by omega) ai;rw[bH (by rw[F];exact Bool.false_ne_true),dif_pos ⟨E,S⟩]at l;obtain⟨me,ee,ke,se⟩:=are (K:=K) (cc:=cc) sd ai (a:=a') (b:=b') ai D hq;have W:∀b,B b->b<me.next:=λb G=>by have :=X b G;have :=kb.next;have :=kc.next;have :=kd.next;have :=ke.next;omega
    generalize Sort.partition cS f.1 a' b' q=P at*;obtain⟨o,ap,d4⟩:=P;simp only[]at E S l ee se;have f1:cf o a'=((o-a':Nat):Int):=lJ E;have f2:cf b' o=((b'-o:Nat):Int):=lJ ai;have f3:∀x,jk Nat.div .i64 (b'-a':Nat) 8 x=Z (I (((b'-a') / 8:Nat):Int)):=λx=>VL ai (j:=8) ai
    have T:=(kk.aX kd).trans ke λ_ _ h=>h
    by_cases hm:o-a'<b'-o
    .rw[bh hm]at l;obtain⟨mf,ef,kf,sf⟩:=ih (o-a') ai (d:=d4) (a:=a') (b:=o) (gY:=v) (aj _) se V E ai XP W;obtain⟨t,w,g⟩:=aU (akv p n cc a' b' v (b'-a') q o ((b'-a') / 8) u s ap) gd (.call ee<|.val (f3 _)<|.cond (by rw[f1,f2];exact dT nX)<|.call ef<|.nil);rw[eQ,f1,zR]at g;exact⟨_,t,mf,ai,(aC.uz qH qG (go (aC.cut wd (aC.last w (af aM)))) (.inl rfl) (aC.done (af aM))).code tZ,_,o+1,b',v,_,ap,rfl,ai,D,ai,XP,g,T.trans kf λ_ _ h=>h,sf,l⟩
    .rw[bH hm]at l;obtain⟨mf,ef,kf,sf⟩:=ih (b'-(o+1)) ai (d:=d4) (a:=o+1) (b:=b') (gY:=v) (aj _) se V ai ai XP W;obtain⟨t,w,g⟩:=aU (aku p n cc a' b' v (b'-a') q o ((b'-a') / 8) u s ap) gd (.call ee<|.val (f3 _)<|.cond (by rw[f1,f2];exact dF nX)<|.call (by rw[eQ];exact ef)<|.nil);rw[f2,zR]at g;exact⟨_,t,mf,ai,(aC.uz qH qG (go (aC.cut wd (aC.last w (af aM)))) (.inl rfl) (aC.done (af aM))).code tZ,_,a',o,v,_,ap,rfl,E,ai,ai,XP,g,T.trans kf λ_ _ h=>h,sf,l⟩)
  (n:=b-a) (k:=100000000000000) (tm:=t0) (m:=m) ⟨d,a,b,gY,U,U,rfl,Ay,G,hN,ap7,e0,.refl _ _,h,hr⟩ ai
 exact⟨m3,dE (vs:=[]) ad2 (aC.cut w0 (aC.By Qp Qq hx aM)) (.inr rfl) rfl,k3,s3⟩
end
structure tF {α:Type}(f:α->α->Int):Prop where
 eq:∀{x y},f x y=0↔x=y
 TE:∀{x y},f x y<0->0<f y x
 B3:∀{x y},0<f x y->f y x<0
 trans:∀{x y z},f x y<0->f y z<0->f x z<0
theorem JH:tF pE:=⟨by intros;unfold pE;split<;>(try split)<;>omega,by intro x y;unfold pE;split<;>(try split)<;>(try split)<;>(try split)<;>omega,by intro x y;unfold pE;split<;>(try split)<;>(try split)<;>(try split)<;>omega,by intro x y z;unfold pE;split<;>(try split)<;>(try split)<;>(try split)<;>(try split)<;>(try split)<;>omega⟩
theorem Ft:∀x:List UInt8,Op.bytesLess x x=O
 | []=>rfl
 |a::x=>by simp[Op.bytesLess,Ft x]
theorem Rh:∀{x y z:List UInt8},Op.bytesLess x y=U->Op.bytesLess y z=U->Op.bytesLess x z=U
 |_,[],_,h,_=>by simp[Op.bytesLess]at h
 |_,_::_,[],_,h=>by simp[Op.bytesLess]at h
 | [],_::_,_::_,_,_=>rfl
 |a::x,b::y,c::z,e,d=>by
  simp only[Op.bytesLess,Bool.or_eq_true,iU,ag,beq_iff_eq,UInt8.lt_iff_toNat_lt]at e d⊢;rcases e with e|⟨rfl,e⟩
  .rcases d with d|⟨rfl,d⟩
   .exact .inl ai
   .exact .inl e
  .rcases d with d|⟨rfl,d⟩
   .exact .inl d
   .exact .inr ⟨rfl,Rh e d⟩
theorem YT:∀{x y:List UInt8},Op.bytesLess x y=O->Op.bytesLess y x=O->x=y
 | [],[],_,_=>rfl
 | [],_::_,h,_=>by simp[Op.bytesLess]at h
 |_::_,[],_,h=>by simp[Op.bytesLess]at h
 |a::x,b::y,d,c=>by
  simp only[Op.bytesLess,Bool.or_eq_false_iff,decide_eq_false_iff_not,UInt8.lt_iff_toNat_lt]at d c;have e:a=b:=UInt8.toNat_inj.1 ai;subst e;rw[YT (x:=x) (y:=y) (by simpa using d.2) (by simpa using c.2)]
theorem adq:tF Fa:=by
 have e:∀{a b:ByteArray},(a.toList==b.toList)=U↔a=b:=λ{a b}=>by
  rw[beq_iff_eq,ByteArray.toList_eq,ByteArray.toList_eq];exact⟨λh=>by cases a;cases b;simp_all [Array.toList_inj],λh=>by rw[h]⟩
 refine⟨λ{x y}=>?_,λ{x y} h=>?_,λ{x y} h=>?_,λ{x y z} h k=>?_⟩
 .unfold Fa
  split
  .rename_i h;exact⟨λh=>(by cases h),λk=>(by rw[k,Ft]at h;cases h)⟩
  .rename_i h;rw[Bool.not_eq_true]at h;rw[h,Bool.false_or]
   split
   .rename_i k;exact⟨λ_=>e.1 k,λ_=>rfl⟩
   .rename_i k;exact⟨λh=>(by cases h),λq=>absurd (e.2 q) k⟩
 .unfold Fa at h⊢
  split at h
  .rename_i d;rw[bH (λc=>by have :=Rh d c;rw[Ft]at this;cases this),bH (λc=>?_)]
   .decide
   .rw[Bool.or_eq_true]at c;rcases c with c|c
    .have :=Rh d c;rw[Ft]at this;cases this
    .rw[e.1 c,Ft]at d;cases d
  .split at h<;>exact absurd h eJ
 .unfold Fa at h⊢
  split at h
  .exact absurd h eJ
  .rename_i d
   split at h
   .exact absurd h eJ
   .rename_i c;rw[Bool.or_eq_true,not_or]at c;rw[bh]
    .decide
    .cases hb:Op.bytesLess y.toList x.toList with
     |true=>rfl
     |false=>exact absurd (beq_iff_eq.2 (YT (Bool.not_eq_true _▸d) hb)) c.2
 .unfold Fa at h k⊢
  split at h
  .rename_i d
   split at k
   .rename_i k1;rw[bh (Rh d k1)];decide
   .split at k<;>exact absurd k eJ
  .split at h<;>exact absurd h eJ
def lex {α β:Type}(f:α->α->Int)(g:β->β->Int)(x y:α×β):Int:=if f x.1 y.1≠0 then f x.1 y.1 else g x.2 y.2
theorem tF.refl{α:Type}{f:α->α->Int}(a:tF f){x:α}:f x x=0:=a.eq.2 rfl
theorem tF.lex{α c:Type}{f:α->α->Int}{g:c->c->Int}(a:tF f)(b:tF g):tF (AM.lex f g):=by
 refine⟨λ{x y}=>?_,λ{x y} h=>?_,λ{x y} h=>?_,λ{x y z} h k=>?_⟩
 .unfold AM.lex
  split
  .rename_i h;exact⟨λk=>absurd k h,λk=>absurd (a.eq.2 (by rw[k])) h⟩
  .rename_i h;rw[ne_eq,Decidable.not_not]at h;exact⟨λk=>Prod.ext (a.eq.1 h) (b.eq.1 k),λk=>b.eq.2 (by rw[k])⟩
 .unfold AM.lex at h⊢
  split at h
  .have :=a.TE h;rw[bh ai];exact this
  .rename_i e;rw[ne_eq,Decidable.not_not]at e;rw[bH (by rw[ne_eq,Decidable.not_not];exact a.eq.2 (a.eq.1 e).symm)];exact b.TE h
 .unfold AM.lex at h⊢
  split at h
  .have :=a.B3 h;rw[bh ai];exact this
  .rename_i e;rw[ne_eq,Decidable.not_not]at e;rw[bH (by rw[ne_eq,Decidable.not_not];exact a.eq.2 (a.eq.1 e).symm)];exact b.B3 h
 .unfold AM.lex at h k⊢
  split at h
  .split at k
   .have :=a.trans h k;rw[bh ai];exact this
   .rename_i e;rw[ne_eq,Decidable.not_not]at e;rw[<-a.eq.1 e,bh ai];exact h
  .rename_i e;rw[ne_eq,Decidable.not_not]at e;rw[a.eq.1 e]
   split at k
   .rw[bh ai];exact k
   .rename_i d;rw[bH d];exact b.trans h k
theorem tF.pull{α b:Type}{f:b->b->Int}(a:tF f){i:α->b}(hi:∀x y,i x=i y->x=y):tF λx y=>f (i x) (i y):=
 ⟨λ{x y}=>⟨λh=>hi _ _ (a.eq.1 h),λh=>a.eq.2 (by rw[h])⟩,λh=>a.TE h,λh=>a.B3 h,λh k=>a.trans h k⟩
theorem qw:tF oP:=by
 have h:=((JH.lex (JH.lex (adq.lex JH))).pull (α:=V) (i:=λv=>(v.k,v.n,v.s,w9 v.b)) λx y e=>by
  obtain⟨a,b,c,d⟩:=x;obtain⟨l,j,g,f⟩:=y;simp only[ay]at e;obtain⟨rfl,rfl,rfl,e⟩:=e;have :d=f:=by cases d<;>cases f<;>first |rfl|cases e
  rw[this])
 have e:oP=λx y=>AM.lex pE (AM.lex pE (AM.lex Fa pE)) (x.k,x.n,x.s,w9 x.b) (y.k,y.n,y.s,w9 y.b):=by
  funext x y
  simp only[oP,Sk,AM.lex]
  split
  .rfl
  .split
   .rfl
   .split
    .rfl
    .split
     .rfl
     .rename_i h;rw[ne_eq,Decidable.not_not]at h;exact h.symm
 rw[e];exact h
theorem jR:∀{x y:List V},cB x y=0↔x=y
 | [],[]=>by simp[cB]
 | [],_::_=>by simp[cB]
 |_::_,[]=>by simp[cB]
 |a::x,b::y=>by
  unfold cB
  split
  .rename_i h;exact⟨λk=>absurd k h,λk=>absurd (qw.eq.2 (by cases k;rfl)) h⟩
  .rename_i h;rw[ne_eq,Decidable.not_not]at h;rw[jR,qw.eq.1 h];simp
theorem vF:∀{x y:List V},(cB x y<0->0<cB y x)/\(0<cB x y->cB y x<0)
 | [],[]=>by simp[cB]
 | [],_::_=>by simp[cB]
 |_::_,[]=>by simp[cB]
 |a::x,b::y=>by
  have g:=qw.TE (x:=a) (y:=b);have f:=qw.B3 (x:=a) (y:=b);have e:oP a b=0->oP b a=0:=λh=>qw.eq.2 (qw.eq.1 h).symm
  obtain⟨d,c⟩:=vF (x:=x) (y:=y);simp only[cB]
  split
  .rw[bh ai];omega
  .rw[bH ai];exact⟨d,c⟩
theorem qx:∀{x y z:List V},cB x y<0->cB y z<0->cB x z<0
 | [],[],_,h,_=>by simp[cB]at h
 |_::_,[],_,h,_=>by simp[cB]at h
 |_,_::_,[],_,h=>by simp[cB]at h
 | [],_::_,_::_,_,_=>by simp[cB]
 |a::x,b::y,c::z,h,k=>by
  simp only[cB]at h k⊢
  split at h
  .split at k
   .have :=qw.trans h k;rw[bh ai];exact this
   .rename_i e;rw[ne_eq,Decidable.not_not]at e;rw[<-qw.eq.1 e,bh ai];exact h
  .rename_i e;rw[ne_eq,Decidable.not_not]at e;rw[qw.eq.1 e]
   split at k
   .rw[bh ai];exact k
   .rename_i d;rw[bH d];exact qx h k
theorem mL:tF cB:=⟨jR,vF.1,vF.2,qx⟩
theorem an6:Sort.SWO cS:=by
 have e:∀x y,cS x y=decide (cB x.2 y.2<0):=λx y=>fW _ _
 refine⟨λx=>?_,λx y z h k=>?_,λx y z h k=>?_⟩
 .rw[e,mL.refl];rfl
 .rw[e,iU]at*;exact qx h k
 .rw[e,decide_eq_false_iff_not]at*;intro q;have c:=mL.TE q;have a:cB y.2 x.2<=0:=by
   rcases Int.lt_or_le 0 (cB y.2 x.2)with r|r
   .exact absurd (mL.B3 r) h
   .exact r
  have b:cB z.2 y.2<=0:=by
   rcases Int.lt_or_le 0 (cB z.2 y.2)with r|r
   .exact absurd (mL.B3 r) k
   .exact r
  rcases Int.lt_or_eq_of_le a with a|a
  .rcases Int.lt_or_eq_of_le b with b|b
   .have :=qx b a;omega
   .rw[jR.1 b]at c;omega
  .rw[jR.1 a]at h k;rw[<-jR.1 a]at q;exact k (jR.1 a▸q)
theorem alA (p n cc k:Nat):Path 116 [vL p 0 n cc,fR]
 [.val (pu ae [I n] (convert 3 195 (I n))) (.int .u64 n),
  .call 153 [.int .u64 n] (I k),
  .call 152 [vL p 0 n cc,I 0,I n,I k,fR] (.tuple #[])]
 (.tuple #[]):=lF
theorem aiC {B:Nat->Prop}{m:Mem}:∀{l:List (List V)} {cs:List ab},cE (λx u=>bD.R B x m u/\okV 1 u) l cs->∃d:List El,d.map (·.1)=cs/\d.map (·.2)=l/\∀x∈d,bD.R B x.2 m x.1
 | [],cs,h=>⟨[],h.symm,rfl,λx f=>by cases f⟩
 |x::l,cs,h=>by
  obtain⟨u,rest,rfl,⟨q,_⟩,h⟩:=h;obtain⟨d,j,i,g⟩:=aiC h;obtain⟨b,c,rfl,e⟩:=q;exact⟨(vL b 0 x.length c,x)::d,by rw[List.map_cons,j];rfl,by rw[List.map_cons,i],λy a=>by
   rcases aN.1 a with rfl|a
   .exact⟨b,c,rfl,e⟩
   .exact g y a⟩
theorem VW (a:List El):((Sort.pdq cS a.toArray 0 a.length (Sort.bitsLen a.length) U U).toList.map (·.2)).Perm (a.map (·.2))/\((Sort.pdq cS a.toArray 0 a.length (Sort.bitsLen a.length) U U).toList.map (·.2)).Pairwise λx y=>cB x y<=0:=by
 have d:=Sort.pdq_holds Sort.insertionSort_holds Sort.heapSort_holds Sort.partialInsertionSort_holds (Sort.partition_holds _) (Sort.partitionEqual_holds _) Sort.reverseRange_holds an6 a.toArray 0 a.length (Sort.bitsLen a.length) U U (Nat.zero_le _) dA (.inl rfl);generalize Sort.pdq cS a.toArray 0 a.length (Sort.bitsLen a.length) U U=b at*;obtain⟨⟨h,_,c⟩,e⟩:=d;have n:b.size=a.length:=by simpa using h
 have c:b.toList.Perm a:=by
  rw[show b.extract 0 a.length=b by rw[<-n];simp,show a.toArray.extract 0 a.length=a.toArray by simp]at c;simpa using c
 refine⟨c.map _,?_⟩;rw[List.pairwise_iff_getElem];intro i j l k g;rw[List.getElem_map,List.getElem_map];have o:i<b.size:=by simpa using l
 have f:j<b.size:=by simpa using k
 have :=e i j (Nat.zero_le _) g ai;rw[getElem!_pos b j f,getElem!_pos b i o]at this;have m:¬cB (b[j]).2 (b[i]).2<0:=by
  have :decide (cB (b[j]).2 (b[i]).2<0)=O:=by rw[<-this];exact(fW _ _).symm
  simpa using this
 rcases Int.lt_or_le 0 (cB b.toList[i].2 b.toList[j].2)with r|r
 .exact absurd (mL.B3 r) (by simpa using m)
 .exact r
def TK (K:fE)(l:List (List V)):Prop:=∀{B:Nat->Prop}{p cc:Nat}{rest:List ab}{m:Mem}{d:Array El},d.toList.map (·.2)=l->Sv B p l.length rest m d->(∀b,B b->b<m.next)->
  ∃m' d',Ev K 152 [vL p 0 l.length cc,I (0:Nat),I (l.length:Int),I (Sort.bitsLen l.length:Int),fR] m (.tuple #[]) m'/\Kp m m' (λy=>y=p)/\Sv B p l.length rest m' d'/\(d'.toList.map (·.2)).Perm l/\(d'.toList.map (·.2)).Pairwise λx y=>cB x y<=0
theorem UP {K:fE}{l:List (List V)}(j:∀{B:Nat->Prop}{p cc:Nat}{rest:List ab}{m:Mem}{d:Array El},Sv B p l.length rest m d->(∀b,B b->b<m.next)->∃a,Ev K 152 [vL p 0 l.length cc,I ((0:Nat):Int),I (l.length:Int),I (Sort.bitsLen l.length:Int),fR] m (.tuple #[]) a/\Kp m a (λy=>y=p)/\Sv B p l.length rest a (Sort.pdq cS d 0 l.length (Sort.bitsLen l.length) U U)):TK K l:=by
 intro B p cc rest m d i h n;obtain⟨a,e,k,s⟩:=j (cc:=cc) h n;obtain⟨f,c⟩:=VW d.toList;have g:d.toList.length=l.length:=by rw[<-i,List.length_map]
 rw[g,i]at f;rw[g]at c;exact⟨a,_,e,k,s,f,c⟩
theorem UQ {K:fE}{l:List (List V)}(c:l.length<65536):TK K l:=UP λh d=>arq (K:=K) l.length (gY:=Sort.bitsLen l.length) (a:=0) (b:=l.length) ai h c (Nat.zero_le _) (aj _) (Nat.lt_of_le_of_lt ((Sort.bitsLen_le_iff _ 16).2 c) eJ) d
section
variable {K:fE}{m:Mem}
theorem anD (g:Gd m){B:Nat->Prop}{l:List (List V)}{p cc:Nat}{cs rest:List ab}(n:Obj m p 1 (cs++rest))(s:¬B p)(A:cE (λx u=>bD.R B x m u/\okV 1 u) l cs)(q:Own m p)(t:l.length<65536)(r:TK K l)(v:∀x∈l,x.length<99999)(z:∀b,B b->b<m.next):
  ∃d a,Ev K 116 [vL p 0 l.length cc,fR] m (.tuple #[]) a/\Kp m a (λy=>y=p)/\Sv B p l.length rest a d/\(d.toList.map (·.2)).Perm l/\(d.toList.map (·.2)).Pairwise λx y=>cB x y<=0:=by
 obtain⟨f,rfl,c,w⟩:=aiC A;have hlen:f.length=l.length:=by rw[<-c,List.length_map]
 have i:Sv B p l.length rest m f.toArray:=⟨g,n,q,by simpa using hlen,s,λx e=>⟨w x (by simpa using e),v _ (by rw[<-c];exact List.mem_map.2 ⟨x,by simpa using e,rfl⟩)⟩⟩;obtain⟨o,D,C,k1,j,k,h⟩:=r (cc:=cc) (by simpa using c) i z;exact⟨D,o,bg (alA p l.length cc _) (.val (cvW ai (.inl rfl))<|.call (ahZ t)<|.call C .nil),k1,j,k,h⟩
end
theorem Dx {l c:List (List V)}(h:l.Perm c)(d:l.Pairwise λx y=>cB x y<=0)(e:c.Pairwise λx y=>cB x y<=0):l=c:=
 h.eq_of_pairwise (λa b _ _ d e=>by
  rcases Int.lt_or_eq_of_le d with h|h
  .have :=mL.TE h;omega
  .exact jR.1 h) d e
def mI {α:Type}(E:pI α)(sz:Nat)(BO BE:Nat->Prop)(m:Mem)(acc:List α)(sv:ab):Prop:=
 (acc=[]/\sv=.slice Y 0 0)\/∃b cs rest,sv=vL b 0 acc.length dp/\(BO b/\¬BE b)/\Own m b/\Obj m b sz (cs++rest)/\cE (λx u=>E.R BE x m u/\okV sz u) acc cs
section
variable {α:Type}{E:pI α}{sz t n len b:Nat}{m0 m m1:Mem}{acc:List α}{sv v x:ab}{S BO BE Zf B':Nat->Prop}{y:α}{old new rest:List ab}
theorem mI.ext(h:mI E sz BO BE m acc sv)(k:Kp m m1 S)(c:∀b,BO b\/BE b->¬S b):mI E sz BO BE m1 acc sv:=by
 rcases h with h|⟨b,j,rest,e,a,g,d,i⟩
 .exact .inl h
 .exact .inr ⟨b,j,rest,e,a,g.ext k,d.ext k (c b (.inl a.1)),i.mono λx u _ w=>⟨E.ext w.1 k λy f=>c y (.inr f),w.2⟩⟩
theorem mI.form(h:mI E sz BO BE m acc sv):∃a c,sv=.slice a acc.length c:=by
 rcases h with⟨rfl,rfl⟩|⟨b,d,rest,rfl,_⟩<;>exact⟨_,_,rfl⟩
theorem mI.one(h:mI E sz BO BE m acc sv):nT sv=U:=by obtain⟨a,c,rfl⟩:=h.form;rfl
theorem mI.first(h:mI E sz BO BE m acc sv):∃a,mr m sz acc.length sv=Z a/\Gh sv=Z acc.length/\cE (λx u=>E.R BE x m u/\okV sz u) acc a:=by
 rcases h with⟨rfl,rfl⟩|⟨b,a,rest,rfl,g,f,d,c⟩
 .exact⟨[],rfl,rfl,rfl⟩
 .have e:=c.one.1;refine⟨a,?_,rfl,c⟩
  show m.dP b 0 (acc.length*sz)=Z a
  exact jP d (by simp[<-e]) (by simp;omega)
theorem MM (g:Gd m)(f:uA.contains (t,sz)=U)(i:mr m sz n x=Z new)(h:Gh x=Z n)(hlen:new.length=n*sz)(p:∀y∈new,y.oneCell'=U)(r:n≠0)(s:n<=2^30):
  ∃a,cJ ae #[t,t] (.slice Y 0 0) x m=Z (vL m.next 0 n dp,a)/\Obj a m.next sz new/\Kp m a eK/\a.next=m.next+1:=by
 obtain⟨e,o,l,u,j⟩:=vO f;have b:(new.all (·.oneCell'))=U:=aB.2 p;have q:mr m sz 0 (.slice Y 0 0)=Z []:=rfl;obtain⟨k1,d,c⟩:=iy g (k:={kind:=1,sz:=sz,cs:=new.map Z}) (cs:=new) rfl rfl rfl;refine⟨_,?_,k1,d,c⟩;unfold cJ;simp only[show(#[t,t]:Array aT)[0]?=Z t from rfl,show(#[t,t]:Array aT)[1]?=Z t from rfl,dw,o,l,h,i];rw[bH (by rw[j _ ai,hlen,b];simp),bH eJ,bH ai];simp only[q,List.length_nil,Nat.zero_mul,if_true,List.nil_append,Nat.zero_add]
theorem Fx (g:Gd m)(o:uA.contains (t,sz)=U)(c:Obj m b sz (old++rest))(z:old.length=len*sz)(l:Own m b)(q:mr m sz n x=Z new)(p:Gh x=Z n)(hlen:new.length=n*sz)(v:∀y∈new,y.oneCell'=U)(A:len+n<=2^30):
  ∃a,cJ ae #[t,t] (vL b 0 len dp) x m=Z (vL m.next 0 (len+n) dp,a)/\Obj a m.next sz (old++new)/\Kp m a (λy=>y=b)/\a.next=m.next+1:=by
 obtain⟨e,u,s,B,r⟩:=vO o;have h:(new.all (·.oneCell'))=U:=aB.2 v;have d:gG (((old++rest).map Z).drop 0) (len*sz)=Z old:=by
  rw[List.drop_zero,lI (by simp;omega),<-z];simp
 have w:Gd (m.bB b {}):=g.ext rj;obtain⟨k1,j,i⟩:=iy w (k:={kind:=1,sz:=sz,cs:=(old++new).map Z}) (cs:=old++new) rfl rfl rfl;refine⟨_,?_,k1,Kp.aX rj j,i⟩;unfold cJ;simp only[show(#[t,t]:Array aT)[0]?=Z t from rfl,show(#[t,t]:Array aT)[1]?=Z t from rfl,dw,u,s,p,q];rw[bH (by rw[r _ ai,hlen,h];simp),bh trivial];have f:(((m.blk b).cs.drop 0).all (·.isSome))=U:=by rw[c.cs];simp
 simp only[c.kind,c.sz,c.cs]at f⊢;rw[bh (by rw[f,show m.fL b=U from l];simp)];simp only[d]
theorem ML (a:uA.contains (t,sz)=U)(c:mr m sz 0 x=Z [])(b:Gh x=Z 0):cJ ae #[t,t] (.slice Y 0 0) x m=Z (.slice Y 0 0,m):=by
 obtain⟨e,g,f,h,d⟩:=vO a;unfold cJ;simp only[show(#[t,t]:Array aT)[0]?=Z t from rfl,show(#[t,t]:Array aT)[1]?=Z t from rfl,dw,g,f,b,c];rw[bH (by rw[d _ ai];simp),bH eJ,bh (aj _)]
theorem mI.add(h:mI E sz BO BE m acc sv)(g:Gd m)(B:uA.contains (t,sz)=U)(C:sz<=6)(q:E.R B' y m v)(T:∀b,BO b->¬B' b)(W:∀b,BE b->b<m.next)(V:∀b,B' b->b<m.next)(l:okV sz v)(X:acc.length<2^30):
  ∃c a z,bW ae t 1 [(0,v)] m=Z (vL m.next 0 1 1,c)/\Gd c/\Kp m c eK/\cJ ae #[t,t] sv (vL m.next 0 1 1) c=Z (z,a)/\Kp m a BO/\mI E sz (λy=>y=m.next+1) (λy=>BE y\/B' y) a (acc++[y]) z/\(nT z=U/\∃L,z=vL (m.next+1) 0 (acc.length+1) dp/\Obj a (m.next+1) sz L/\cE (λx u=>E.R (λy=>BE y\/B' y) x a u/\okV sz u) (acc++[y]) L)/\a.next=m.next+2:=by
 obtain⟨G,d,o⟩:=iy g (k:={kind:=1,sz:=sz,cs:=v.cells.toList.map Z}) (cs:=v.cells.toList) rfl rfl rfl;obtain⟨c,M⟩:∃c,c=m.alloc {kind:=1,sz:=sz,cs:=v.cells.toList.map Z}:=⟨_,rfl⟩;have F:=bs1 (m:=m) B l.1 C;rw[<-M]at F G d o;have n:=g.ext d;have s:oX c (vL m.next 0 1 1) sz 1 v.cells.toList:=G.sl (by simp[l.1]) (.inr rfl);have N:=E.ext q d λ_ _ h=>h
 have H:¬(BE c.next\/B' c.next):=λh=>by
  rcases h with h|h
  .have :=W _ h;omega
  .have :=V _ h;omega
 rcases h with⟨rfl,rfl⟩|⟨b,cs,rest,rfl,D,S,P,J⟩
 .obtain⟨a,r,i,j,Q⟩:=Rk n B s l.2 eJ eJ;have p:cE (λx u=>E.R (λy=>BE y\/B' y) x a u/\okV sz u) ([]++[y]) v.cells.toList:=⟨v,[],dA,⟨E.mono (E.ext N j λ_ _ h=>h) λy f=> .inr f,l⟩,rfl⟩;rw[o]at i r;refine⟨c,a,_,F,n,d,r,(d.aX j).sC,.inr ⟨m.next+1,_,[],rfl,⟨rfl,o▸H⟩,n.own j ai,by rw[List.append_nil];exact i,p⟩,⟨rfl,_,rfl,i,p⟩,ai⟩
 .have A:=P.a9 d;obtain⟨a,r,i,j,Q⟩:=Fx (len:=acc.length) n B A J.one.1 (S.ext d) (qD s) s.Xj s.1 l.2 ai;have K:Kp m a (λy=>y=b):=d.sC.trans j λ_ _ h=>h
  have p:cE (λx u=>E.R (λy=>BE y\/B' y) x a u/\okV sz u) (acc++[y]) (cs++v.cells.toList):=cE.snoc ⟨E.mono (E.ext q K λy f e=>T b D.1 (e▸f)) λy f=> .inr f,l⟩
   (J.mono λx u _ w=>⟨E.mono (E.ext w.1 K λy f e=>D.2 (e▸f)) λy f=> .inl f,w.2⟩)
  rw[o]at i r;refine⟨c,a,_,F,n,d,r,(d.sC.trans (j.mono λy _ h=>by rw[h];exact D.1) λ_ _ h=>h),.inr ⟨m.next+1,_,[],dA,⟨rfl,o▸H⟩,n.own j ai,by rw[List.append_nil];exact i,p⟩,⟨rfl,_,rfl,i,p⟩,ai⟩
theorem mI.jq(h:mI E sz BO BE m acc sv)(f:E.FG)(s1:uB BO m m1)(s2:uB BE m m1)(c:∀b,BO b->Own m1 b):mI E sz BO BE m1 acc sv:=by
 rcases h with h|⟨b,i,rest,e,a,j,d,g⟩
 .exact .inl h
 .exact .inr ⟨b,i,rest,e,a,c b a.1,d.pX s1 a.1,g.mono λx u _ w=>⟨f _ _ _ _ _ w.1 s2,w.2⟩⟩
end
noncomputable def aeT(t:Nat):Bool:=match ae.underlying t with
 |some (.slice e)=>(match iT ae e,eS ae e with |some z,Z s=>z.cells.size==s&&z.cells.toList.all (·.oneCell')|_,_=>O)
 |_=>O
theorem RD {t:Nat}(h:aeT t=U):∃e z s,ae.underlying t=Z (.slice e)/\iT ae e=Z z/\eS ae e=Z s/\z.cells.size=s/\∀y∈z.cells.toList,y.oneCell'=U:=by
 unfold aeT at h
 split at h
 .rename_i e c
  split at h
  .rename_i z s a b;rw[ag,beq_iff_eq,aB]at h;exact⟨e,z,s,c,a,b,h.1,h.2⟩
  .cases h
 .cases h
structure Kin (fl go sh ga em t:Nat):Prop where
 VX:∀(n cc:Nat) (a:Option Addr) (rv:ab),Path em [(.slice a n cc)] [.mem (oR ae #[t] (.slice a n cc)) (.tuple #[]),.mem (su ae t (.slice a n cc) Y (Z (I 0))) rv] rv
 afP:∀(d o fr to fs n cc:Nat) (cap:Array ab) (a:Option Addr) (sv:ab),vR (fp sh) (bX sh) 0 2 [0,1,2,3] [(vP d o),(I (fr:Int)),(I (to:Int)),(.func (.func fs) #[] cap)] [.mem (aI d o) (.slice a n cc),.call em [(.slice a n cc)] sv] .normal [0,2,3,8,9,10] [(vP d o),(I (to:Int)),(.func (.func fs) #[] cap),sv,(I 0),(I (fr:Int))]
 afO:∀(d o to i fs:Nat) (cap:Array ab) (sv TU:ab),vR (fp sh) (qk (bX sh) [2]) 0 99 [0,2,3,8,9,10] [(vP d o),(I (to:Int)),(.func (.func fs) #[] cap),sv,(I 0),(I (i:Int))] ((rp 3 (.bool (dx (i:Int) (to:Int))) U ([.cond (.bool U) U,.bZ (.func (.func fs) #[] cap) [sv,(I (i:Int))] (.tuple #[TU,(I 0)])]))) .normal [0,2,3,8,9,10] [(vP d o),(I (to:Int)),(.func (.func fs) #[] cap),TU,(I 0),(I (bU (i:Int) 1))]
 afN:∀(d o to i fs:Nat) (cap:Array ab) (sv:ab),vR (fp sh) (qk (bX sh) [2]) 0 99 [0,2,3,8,9,10] [(vP d o),(I (to:Int)),(.func (.func fs) #[] cap),sv,(I 0),(I (i:Int))] ((rp 3 (.bool (dx (i:Int) (to:Int))) O ([.cond (.bool O) O]))) (.exit 0) [0,8,9] [(vP d o),sv,(I 0)]
 afM:∀(d o n cc:Nat) (a:Option Addr),vR (fp sh) (bX sh) 3 99 [0,8,9] [(vP d o),(.slice a n cc),(I 0)] [.mem (du d o (.slice a n cc)) undef,.mem (du d (o+1) (I 0)) undef] .normal [] []
 afU:∀(d q an ac bn bc:Nat) (aa ba:Option Addr),vR (fp ga) (bX ga) 0 3 [0] [(vP d q)] [.mem (aI d (q+8)) (.slice aa an ac),.call em [(.slice aa an ac)] (.slice ba bn bc),.mem (du d (q+8) (.slice ba bn bc)) undef] .normal [0,13] [(vP d q),(I 0)]
 afR:∀(d q i:Nat),vR (fp ga) (qk (bX ga) [3]) 0 99 [0,13] [(vP d q),(I (i:Int))] [.cond (.bool (dx (i:Int) 4)) O] (.exit 0) [0] [(vP d q)]
 afT:∀(d q i an ac bn bc rn rc:Nat) (aa ba ra:Option Addr),vR (fp ga) (qk (bX ga) [3]) 0 99 [0,13] [(vP d q),(I (i:Int))] [.cond (.bool (dx (i:Int) 4)) U,.idx (i:Int) 4 i,.mem (aI d (q+i*2+1)) (I 0),.cond (.bool O) O,.mem (aI d (q+8)) (.slice aa an ac),.idx (i:Int) 4 i,.mem (aI d (q+i*2)) (.slice ba bn bc),.mem Bo undef,.mem (cJ ae #[t,t] (.slice aa an ac) (.slice ba bn bc)) (.slice ra rn rc),.mem Bo undef,.mem (du d (q+8) (.slice ra rn rc)) undef] .normal [0,13] [(vP d q),(I (bU (i:Int) 1))]
 afQ:∀(d q:Nat) (rv:ab),vR (fp ga) (bX ga) 4 99 [0] [(vP d q)] [.mem (aI d (q+8)) rv] .ret [2,3] [rv,(I 0)]
 afY:∀(d q rows fs b3 b5 b8 x:Nat) (cap:Array ab),vR (fp fl) (bX fl) 0 4 [0,1,2] [(vP d q),(I (rows:Int)),(.func (.func fs) #[] cap)] [.mem (oT [Z (vP d q)]) (vP b3 0),.mem (oT [Z (.func (.func fs) #[] cap)]) (vP b5 0),.mem (oT [Z (.int .u64 0),Z (.int .u32 0)]) (vP b8 0),.val (jk Nat.div .i64 (cf (bU (rows:Int) 4) 1) 4 (j5 ae .quo 3 O U (I (cf (bU (rows:Int) 4) 1)) (I 4))) (I (x:Int))] .normal [1,3,5,8,9,18] [(I (rows:Int)),(vP b3 0),(vP b5 0),(vP b8 0),(I (Qk U (x:Int) 8)),(I 0)]
 afX:∀(rows b3 b5 b8 i bi bf bt:Nat) (size x:Int),vR (fp fl) (qk (bX fl) [4]) 0 99 [1,3,5,8,9,18] [(I (rows:Int)),(vP b3 0),(vP b5 0),(vP b8 0),(I size),(I (i:Int))] [.cond (.bool (dx (i:Int) 4)) U,.mem (oT [Z (I 0)]) (vP bi 0),.mem (du bi 0 (I (i:Int))) undef,.mem (aI bi 0) (I (i:Int)),.mem (oT [Z (I 0)]) (vP bf 0),.mem (du bf 0 (I (Qk O (ly (i:Int) size) (rows:Int)))) undef,.mem (aI bf 0) (I x),.mem (oT [Z (I 0)]) (vP bt 0),.mem (du bt 0 (I (Qk O (bU x size) (rows:Int)))) undef,.call 137 [(vP b8 0),(.func (.func go) #[] #[(vP b3 0),(vP bi 0),(vP bf 0),(vP bt 0),(vP b5 0)])] (.tuple #[])] .normal [1,3,5,8,9,18] [(I (rows:Int)),(vP b3 0),(vP b5 0),(vP b8 0),(I size),(I (bU (i:Int) 1))]
 afW:∀(rows b3 b5 b8 i:Nat) (size:Int),vR (fp fl) (qk (bX fl) [4]) 0 99 [1,3,5,8,9,18] [(I (rows:Int)),(vP b3 0),(vP b5 0),(vP b8 0),(I size),(I (i:Int))] [.cond (.bool (dx (i:Int) 4)) O] (.exit 0) [3,8] [(vP b3 0),(vP b8 0)]
 afV:∀(b3 b8 d q:Nat) (rv:ab) (e:Int),vR (fp fl) (bX fl) 5 99 [3,8] [(vP b3 0),(vP b8 0)] [.call 140 [(vP b8 0)] (.tuple #[]),.mem (aI b3 0) (vP d q),.call ga [(vP d q)] (.tuple #[rv,(I e)])] .ret [6,7] [rv,(I e)]
 afS:∀(t0 t1 t2 t3 t4 d q i fr to fs:Nat) (cap:Array ab),Path go [(vP t0 0),(vP t1 0),(vP t2 0),(vP t3 0),(vP t4 0)] [.mem (aI t0 0) (vP d q),.mem (aI t1 0) (I (i:Int)),.idx (i:Int) 4 i,.mem (aI t2 0) (I (fr:Int)),.mem (aI t3 0) (I (to:Int)),.mem (aI t4 0) (.func (.func fs) #[] cap),.mem Bo undef,.call sh [(vP d (q+i*2)),(I (fr:Int)),(I (to:Int)),(.func (.func fs) #[] cap)] (.tuple #[])] (.tuple #[])
 age:jJ sh 4 []=U
 WU:(dq (bX sh)).length<=99
 agu:jY (bX sh) 2=Z (0,qk (bX sh) [2])
 P5:codeOk (fp sh) (qk (bX sh) [2])=U
 agy:mm (fp sh) (bX sh) (qk (bX sh) [2]) 2 0=U
 agf:jJ ga 1 [2,3]=U
 WV:(dq (bX ga)).length<=99
 agv:jY (bX ga) 3=Z (0,qk (bX ga) [3])
 P6:codeOk (fp ga) (qk (bX ga) [3])=U
 agz:mm (fp ga) (bX ga) (qk (bX ga) [3]) 3 0=U
 agh:jJ fl 3 [6,7]=U
 WW:(dq (bX fl)).length<=99
 agw:jY (bX fl) 4=Z (0,qk (bX fl) [4])
 P7:codeOk (fp fl) (qk (bX fl) [4])=U
 agA:mm (fp fl) (bX fl) (qk (bX fl) [4]) 4 0=U
 spec:ju em=O/\ju sh=O/\ju go=O/\ju ga=O/\ju fl=O
 und:aeT t=U
 fill:go=X0.HD\/go=X0.HB
theorem agF:Kin 109 138 139 141 180 29 where
 VX:=λ_ _ _ _=>⟨aM,aM⟩
 afP:=λ_ _ _ _ _ _ _ _ _ _ _=>⟨aM,aM⟩
 afO:=λ_ _ _ _ _ _ _ _ _=>⟨aM,aM⟩
 afN:=λ_ _ _ _ _ _ _ _=>⟨aM,aM⟩
 afM:=λ_ _ _ _ _ _=>⟨aM,aM⟩
 afU:=λ_ _ _ _ _ _ _ _ _=>⟨aM,aM⟩
 afR:=λ_ _ _ _=>⟨aM,aM⟩
 afT:=λ_ _ _ _ _ _ _ _ _ _ _ _ _=>⟨aM,aM⟩
 afQ:=λ_ _ _ _=>⟨aM,aM⟩
 afY:=λ_ _ _ _ _ _ _ _ _ _=>⟨aM,aM⟩
 afX:=λ_ _ _ _ _ _ _ _ _ _ _=>⟨aM,aM⟩
 afW:=λ_ _ _ _ _ _ _=>⟨aM,aM⟩
 afV:=λ_ _ _ _ _ _ _=>⟨aM,aM⟩
 afS:=λ_ _ _ _ _ _ _ _ _ _ _ _=>⟨aM,aM⟩
 age:=aM
 agu:=aM
 P5:=aM
 agy:=aM
 agf:=aM
 agv:=aM
 P6:=aM
 agz:=aM
 agh:=aM
 agw:=aM
 P7:=aM
 agA:=aM
 WU:=af aM
 WV:=af aM
 WW:=af aM
 spec:=⟨rfl,rfl,rfl,rfl,rfl⟩
 und:=aM
 fill:=.inl rfl
theorem alS:Kin 249 270 271 272 199 223 where
 VX:=λ_ _ _ _=>⟨aM,aM⟩
 afP:=λ_ _ _ _ _ _ _ _ _ _ _=>⟨aM,aM⟩
 afO:=λ_ _ _ _ _ _ _ _ _=>⟨aM,aM⟩
 afN:=λ_ _ _ _ _ _ _ _=>⟨aM,aM⟩
 afM:=λ_ _ _ _ _ _=>⟨aM,aM⟩
 afU:=λ_ _ _ _ _ _ _ _ _=>⟨aM,aM⟩
 afR:=λ_ _ _ _=>⟨aM,aM⟩
 afT:=λ_ _ _ _ _ _ _ _ _ _ _ _ _=>⟨aM,aM⟩
 afQ:=λ_ _ _ _=>⟨aM,aM⟩
 afY:=λ_ _ _ _ _ _ _ _ _ _=>⟨aM,aM⟩
 afX:=λ_ _ _ _ _ _ _ _ _ _ _=>⟨aM,aM⟩
 afW:=λ_ _ _ _ _ _ _=>⟨aM,aM⟩
 afV:=λ_ _ _ _ _ _ _=>⟨aM,aM⟩
 afS:=λ_ _ _ _ _ _ _ _ _ _ _ _=>⟨aM,aM⟩
 age:=aM
 agu:=aM
 P5:=aM
 agy:=aM
 agf:=aM
 agv:=aM
 P6:=aM
 agz:=aM
 agh:=aM
 agw:=aM
 P7:=aM
 agA:=aM
 WU:=af aM
 WV:=af aM
 WW:=af aM
 spec:=⟨rfl,rfl,rfl,rfl,rfl⟩
 und:=aM
 fill:=.inr rfl
noncomputable def aeb(nt:Nat)(rs:List ResultVar)(a t b:Nat):Bool:=match rs with
 | [.cell x y,.tmp z]=>Nat.beq x a&&Nat.beq y t&&Nat.beq z b&&Nat.blt a nt&&Nat.blt b nt
 |_=>O
noncomputable def OX(f n a t b:Nat):Bool:=xY f&&codeOk (fp f) (bX f)&&aeb (fp f) (rsT f) a t b&&Nat.ble n (fp f)&&Nat.ble n 16
theorem QW {K:fE}{f a t b q:Nat}{args:List ab}{m m':Mem}{p:Tm}{e:Exit}{v u:ab}(k:OX f args.length a t b=U)(h:aC K (fp f) (bX f) 0 ⟨entry args,m,[]⟩ e ⟨p,m',[]⟩)(w:e=.normal\/e=.ret)(i:bj [a,b] p=[vP q 0,u])
  (d:nY ae t (vP q 0) m'=Z (v,m'))(s:ju f=O:=by rfl):Ev K f args m (.tuple #[v,u]) m':=by
 unfold OX at k;simp only[ag]at k;obtain⟨⟨⟨⟨D,C⟩,c⟩,B⟩,A⟩:=k;obtain⟨n,o⟩:=GP (l:=args) (af A);have j:entry args=n:=by unfold entry;rw[o]
 rw[j]at h;refine Q1 D (tm:=n) (by rw[bh B,o]) (h.code C) w ?_ s;unfold aeb at c
 split at c
 .rename_i x y z g;simp only[ag]at c;have G:=aA c.1.1.1.1;have F:=aA c.1.1.1.2;have E:=aA c.1.1.2;subst G F E;simp only[bj,List.map_cons,List.map_nil,List.cons.injEq,and_true]at i;unfold ni;rw[g];unfold wL wL wL;rw[bh c.1.2,bh c.2,i.1,i.2];unfold nY at d
  split at d
  .rename_i H r;cases d;simp only[r]
  .cases d
 .cases c
structure CS where
 p:Nat
 on:Option X
def Mm:pI CS where
 R B x m v:=∃o,v=.agg #[vP x.p 0,o]/\jc.R B x.on m o
 mono:=by
  rintro B B' x m v ⟨o,e,h⟩ k;exact⟨o,e,jc.mono h k⟩
 ext:=by
  rintro B S x m m' v ⟨o,e,h⟩ k hs;exact⟨o,e,jc.ext h k hs⟩
structure TO where
 js:List CS
 wh:Option X
 qC:List X
def nL:pI TO where
 R B x m v:=∃a w b,v=.agg #[a,w,b]/\(aW Mm 2).R B x.js m a/\jc.R B x.wh m w/\(aW oK 1).R B x.qC m b
 mono:=by
  rintro B B' x m v ⟨a,w,b,e,h1,h2,h3⟩ k;exact⟨a,w,b,e,(aW Mm 2).mono h1 k,jc.mono h2 k,(aW oK 1).mono h3 k⟩
 ext:=by
  rintro B S x m m' v ⟨a,w,b,e,h1,h2,h3⟩ k hs;exact⟨a,w,b,e,(aW Mm 2).ext h1 k hs,jc.ext h2 k hs,(aW oK 1).ext h3 k hs⟩
theorem jc.one{B:Nat->Prop}{x:Option X}{m:Mem}{v:ab}(h:jc.R B x m v):v.oneCell'=U:=by
 cases x with
 |none=>have h:v=.nilIface:=h;rw[h];rfl
 |some x=>obtain⟨t,b,rfl⟩:=XR.form (show XR B x m v from h);rfl
structure CU where
 all:Bool
 sel:TO
def Ml:pI CU where
 R B x m v:=∃a w b,v=.agg #[.bool x.all,a,w,b]/\nL.R B x.sel m (.agg #[a,w,b])
 mono:=by
  rintro B B' x m v ⟨a,w,b,e,h⟩ k;exact⟨a,w,b,e,nL.mono h k⟩
 ext:=by
  rintro B S x m m' v ⟨a,w,b,e,h⟩ k hs;exact⟨a,w,b,e,nL.ext h k hs⟩
structure H5 where
 first :TO
 us:List CU
def jK:pI H5 where
 R B x m v:=∃a w b u,v=.agg #[a,w,b,u]/\nL.R B x.first m (.agg #[a,w,b])/\(aW Ml 4).R B x.us m u
 mono:=by
  rintro B B' x m v ⟨a,w,b,u,e,h,h'⟩ k;exact⟨a,w,b,u,e,nL.mono h k,(aW Ml 4).mono h' k⟩
 ext:=by
  rintro B S x m m' v ⟨a,w,b,u,e,h,h'⟩ k hs;exact⟨a,w,b,u,e,nL.ext h k hs,(aW Ml 4).ext h' k hs⟩
theorem nL.three{B:Nat->Prop}{x:TO}{m:Mem}{v:ab}(h:nL.R B x m v):∃a w b,v=.agg #[a,w,b]/\a.oneCell'=U/\w.oneCell'=U/\b.oneCell'=U:=by
 obtain⟨a,w,b,e,f,d,c⟩:=h;exact⟨a,w,b,e,(aW.nT f).2,jc.one d,(aW.nT c).2⟩
structure RA where
 p:Nat
 self:Bool
 b:H5
def tq:pI RA where
 R B x m v:=∃a w b u,v=.agg #[vP x.p 0,.bool x.self,a,w,b,u]/\jK.R B x.b m (.agg #[a,w,b,u])
 mono:=by
  rintro B B' x m v ⟨a,w,b,u,e,h⟩ k;exact⟨a,w,b,u,e,jK.mono h k⟩
 ext:=by
  rintro B S x m m' v ⟨a,w,b,u,e,h⟩ k hs;exact⟨a,w,b,u,e,jK.ext h k hs⟩
structure A1 where
 parts:List RA
 fe:List FI
 b:H5
def HL:pI A1 where
 R B x m v:=∃p c a w b u,v=.agg #[p,c,a,w,b,u]/\(aW tq 6).R B x.parts m p/\rZ.R B x.fe m c/\jK.R B x.b m (.agg #[a,w,b,u])
 mono:=by
  rintro B B' x m v ⟨p,c,a,w,b,u,e,h1,h2,h⟩ k;exact⟨p,c,a,w,b,u,e,(aW tq 6).mono h1 k,rZ.mono h2 k,jK.mono h k⟩
 ext:=by
  rintro B S x m m' v ⟨p,c,a,w,b,u,e,h1,h2,h⟩ k hs;exact⟨p,c,a,w,b,u,e,(aW tq 6).ext h1 k hs,rZ.ext h2 k hs,jK.ext h k hs⟩
theorem jK.four{B:Nat->Prop}{x:H5}{m:Mem}{v:ab}(h:jK.R B x m v):∃a w b u,v=.agg #[a,w,b,u]/\a.oneCell'=U/\w.oneCell'=U/\b.oneCell'=U/\u.oneCell'=U:=by
 obtain⟨a,w,b,u,e,i,g⟩:=h;obtain⟨_,_,_,j,f,d,c⟩:=nL.three i;cases j;exact⟨a,w,b,u,e,f,d,c,(aW.nT g).2⟩
def aew:pI (List ByteArray):=aW (jj Dn) 1
def aex:pI (List Int):=aW (jj I) 1
theorem agi (s:ByteArray):okV 1 (Dn s):=⟨rfl,by simp[Dn,ab.cells,ab.oneCell']⟩
theorem agk (k:Int):okV 1 (I k):=⟨rfl,by simp[ab.cells,ab.oneCell']⟩
theorem oh:zK ae 31=Z U/\eS ae 31=Z 4:=⟨aM,aM⟩
section
variable {K:fE}{m:Mem}
theorem aov (c d k cc g h:Nat)(e l i:Option Addr)(a w b:ab)(fH j f:Nat):cV 76 0 3 [0] [.agg #[.slice e c d,.slice l k cc,a,w,b,.slice i g h]]
 [jF [Z (.slice e c d),Z (.slice l k cc),Z a,Z w,Z b,Z (.slice i g h)] fH,
  jF [Z ei,Z ei,Z ei,Z (I 0)] j,
  jF [Z ei,Z (I 0),Z ei,Z (I 0),Z ei,Z (I 0),Z ei,Z (I 0),Z ei,Z ei,Z (I 0),Z ei,Z (I 0),Z ei,Z (I 0),Z ei,Z (I 0),Z ei] f,
  .mem (aI fH 0) (.slice e c d)]
 .normal [1,2,4,16,17,18] [vP fH 0,vP j 0,vP f 0,.slice e c d,I c,I 0]:=cT
theorem aot (c b d a e i:Nat)(f:Option Addr):aY 76 [3] 0 99 [1,2,4,16,17,18] [vP c 0,vP b 0,vP d 0,.slice f a e,I a,I i]
 [bu (dx i a) O]
 (.exit 0) [1,2,4] [vP c 0,vP b 0,vP d 0]:=cT
theorem aos (c b a cc i:Nat)(d:Option Addr):aY 76 [10] 0 99 [2,10,46,47,48] [vP c 0,vP b 0,.slice d a cc,I a,I i]
 [bu (dx i a) O]
 (.exit 2) [2,10] [vP c 0,vP b 0]:=cT
theorem aou (o a p n cc i d e j l:Nat)(f m:Option Addr)(c h:ab)(x:FI)(fH g b:Nat):aY 76 [10] 0 99 [2,10,46,47,48] [vP o 0,vP a 0,vL p 0 n cc,I n,I i]
 [bu (dx i n) U,
  .idx i n i,
  .mem (fN 2 p (0+i*2)) (.agg #[kI x.n,I x.k]),
  jF [Z zvE,Z (I 0)] fH,
  rJ fH 0 [kI x.n,I x.k],
  .mem (aI a 0) c,
  .mem (aI fH 0) (kI x.n),
  .mem (bW ae 28 1 [(0,(kI x.n))]) (vL g 0 1 1),
  .mem (cJ ae #[28,28] c (vL g 0 1 1)) (.slice f d e),
  .mem (du a 0 (.slice f d e)) undef,
  .mem (aI a 1) h,
  .mem (aI fH 1) (I x.k),
  .mem (bW ae 22 1 [(0,(I x.k))]) (vL b 0 1 1),
  .mem (cJ ae #[22,22] h (vL b 0 1 1)) (.slice m j l),
  .mem (du a 1 (.slice m j l)) undef]
 .normal [2,10,46,47,48] [vP o 0,vP a 0,vL p 0 n cc,I n,I (bU i 1)]:=cT
theorem aor (a c:Nat)(b d rv:ab):cV 76 11 99 [2,10] [vP a 0,vP c 0]
 [vT 4 c (.agg #[b,d,rv,I 0]),
  rJ a 0 [b,d,rv,I 0]]
 .ret [2,3] [vP a 0,I 0]:=cT
theorem alB:OX 76 1 2 31 3=U:=aM
theorem Wc:(dq (bX 76)).length<=99:=af aM
theorem agx:jY (bX 76) 3=Z (0,(cj 76 [3])):=aM
theorem N6:jz 76 [3]:=aM
theorem agB:mm (fp 76) (bX 76) (cj 76 [3]) 3 0=U:=aM
theorem P':jz 76 [10]:=aM
theorem To {B:Nat->Prop}{d:List FI}{Mp:ab}{T c:Nat}{rv:ab}{t0:Tm}{m0:Mem}(g0:Gd m0)(k0:Kp m0 m eK)(ap4:m0.next<=c)(h10:c<m.next)(o:Obj m c 0 [.slice Y 0 0,.slice Y 0 0,rv,I 0])(hc:rZ.R B d m Mp)(hBb:∀b,B b->b≠c/\b<m.next)(hl:d.length<9000)
  (h0:bj [2,10,46,47,48] t0=[vP T 0,vP c 0,Mp,I (d.length:Int),I 0]):
  ∃t1 A f i,uT K (fp 76) (cj 76 [10]) 100000000000000 ⟨t0,m,[]⟩ (.exit 2) ⟨t1,A,[]⟩/\bj [2,10] t1=[vP T 0,vP c 0]/\Kp m A (λy=>y=c)/\Obj A c 0 [f,i,rv,I 0]/\aew.R (ik m A) (d.map (·.n)) A f/\aex.R (ik m A) (d.map (·.k)) A i:=by
 obtain⟨a,cc,hA⟩:=aW.form hc;have Jk:(aW (jj FI.val) 2).R B d m Mp:=hc;obtain⟨e,t1,A,he,hx,rfl,Q,C,f,i,o1,r,q,S,s,w,H,G⟩:=eN (K:=K) (nt:=fp 76) (a:=cj 76 [10]) d.length
  (Inv:=λj tm M=>bj [2,10,46,47,48] tm=[vP T 0,vP c 0,Mp,I (d.length:Int),I j]/\Kp m M (λy=>y=c)/\∃f i,Obj M c 0 [f,i,rv,I 0]/\∃r q:Nat->Prop,(∀y,r y->¬q y)/\(∀y,r y->ik m M y)/\(∀y,q y->ik m M y)/\
   AZ (jj Dn) 1 r M ((d.take j).map (·.n)) f/\AZ (jj I) 1 q M ((d.take j).map (·.k)) i)
  (dm:=λe tm M=>e=.exit 2/\bj [2,10] tm=[vP T 0,vP c 0]/\Kp m M (λy=>y=c)/\∃f i,Obj M c 0 [f,i,rv,I 0]/\∃r q:Nat->Prop,(∀y,r y->¬q y)/\(∀y,r y->ik m M y)/\(∀y,q y->ik m M y)/\
   AZ (jj Dn) 1 r M (d.map (·.n)) f/\AZ (jj I) 1 q M (d.map (·.k)) i)
  (by
   rintro j tm M hj ⟨Q,C,f,i,oM,r,q,S,s,w,H,G⟩;refine .inl ?_;have g:Gd m:=g0.ext k0;have gM:=g.ext C;have nM:=C.next;obtain⟨p,c',u,ucs,rfl,hBp,ob,hu,hle,hE,SW⟩:=aW.get ((aW (jj FI.val) 2).ext Jk C λy D=>(hBb y D).1) hj;obtain⟨x,D⟩:∃y,d[j]=y:=⟨_,rfl⟩;rw[D]at hE;have hE:u=x.val:=hE;subst hE;have e1:fN 2 p (0+j*2) M=Z (x.val,M):=by rw[Nat.zero_add];exact cL (vs:=[.string x.n,I x.k]) ob hu hle
   obtain⟨M1,M2,e2,e3,o2,P,n2⟩:=jV gM [.string .empty,I 0] [.string x.n,I x.k] rfl rfl;have g2:=gM.ext P;have V:=oM.a9 P;have e4:aI c 0 M2=Z (f,M2):=aO V rfl;have e5:aI M.next 0 M2=Z (.string x.n,M2):=aO o2 rfl;have km2:Kp m M2 (λy=>y=c):=C.aX P;have n2':=P.next;obtain⟨M3,M4,s1,e6,g3,k3,e7,L,Qo,_,n4⟩:=(H.a9 P).add (t:=28) (v:=Dn x.n) g2 g km2 rfl eJ (λb z=>⟨(s b z).1,by have :=(s b z).2;omega⟩) (B':=eK) rfl (λ_ _ h=>h) (λ_ h=>h.elim) (agi x.n) (by simp;omega);obtain⟨na,nn,nc,XA⟩:=Qo.form;have E:∀y,r y->¬y=c:=λy D e=>by have :=(s y D).1;omega
   have Ww:∀y,q y->¬y=c:=λy D e=>by have :=(w y D).1;omega
   have arT:c<m.next:=h10;have aqH:¬r c:=λh=>E _ h rfl
   have aqG:¬q c:=λh=>Ww _ h rfl
   have oM4:=V.ext L aqH;have g4:=g2.ext L;have km4:Kp m M4 (λy=>y=c):=km2.new L (N:=m.next) (aj _) λb z=>(s b z).1
   have adV:∀{M':Mem},Kp m M' (λy=>y=c)->Own M' c:=λk=>g0.own (k0.sC.trans k λ_ _ h=>h) ap4
   obtain⟨F,e8,o5,J⟩:=gj (o:=0) s1 oM4 ((adV km4).may _ _) (af rfl) (by rw[XA];rfl);have g5:=g4.ext J;have X:Kp m F (λy=>y=c):=km4.trans J λ_ _ h=>h
   have e9:aI c 1 F=Z (i,F):=aO o5 rfl;have YC:aI M.next 1 F=Z (I x.k,F):=aO ((o2.ext L λh=>by have :=(s _ h).2;omega).ext J ai) rfl;have n5:=J.next;have n4':=L.next;have l2':=((G.a9 P).ext L λb z h=>S b h z).ext J Ww;obtain⟨M6,M7,s2,e11,g6,k6,YB,k7,Zn,_,n7⟩:=l2'.add (t:=22) (v:=I x.k) g5 g X rfl eJ (λb z=>⟨(w b z).1,by have :=(w b z).2;omega⟩) (B':=eK) rfl (λ_ _ h=>h) (λ_ h=>h.elim) (agk x.k) (by simp;omega);obtain⟨ka,kn,kc,hs2⟩:=Zn.form;have g7:=g5.ext k7;have W:Kp m M7 (λy=>y=c):=X.new k7 (N:=m.next) (aj _) λb z=>(w b z).1
   obtain⟨M8,e13,o8,k8⟩:=gj (o:=1) s2 (o5.ext k7 aqG) ((adV W).may _ _) (af rfl) (by rw[hs2];rfl);have n8:=k8.next;have n7':=k7.next;subst XA;subst hs2;obtain⟨t2,cN,cA⟩:=aL (K:=K) (m:=M) (m':=M8) P' (aou T c p d.length c' j nn nc kn kc na ka f i x M.next M2.next F.next) Q (.cond (FM hj)<|.idx rfl hj<|.mem e1<|.mem e2<|.mem e3<|.mem e4<|.mem e5<|.mem e6<|.mem e7<|.mem e8<|.mem e9<|.mem YC<|.mem e11<|.mem YB<|.mem e13 .nil);have htk:d.take (j+1)=d.take j++[x]:=by rw[List.take_add_one,List.getElem?_eq_getElem hj,D];rfl
   refine⟨t2,M8,cN,by rw[cA,add1 ai],W.trans k8 λ_ _ h=>h,_,_,o8,(λy=>r y\/eK y\/y=M2.next+1),(λy=>q y\/eK y\/y=F.next+1),?_,?_,?_,?_,?_⟩
   .rintro y (h|h|h) l
    .rcases l with l|l|l
     .exact S y h l
     .exact l
     .have :=(s y h).2;omega
    .exact h
    .rcases l with l|l|l
     .have :=(w y l).2;omega
     .exact l
     .omega
   .rintro y (h|h|h)
    .exact⟨(s y h).1,by have :=(s y h).2;omega⟩
    .exact h.elim
    .exact⟨ai,ai⟩
   .rintro y (h|h|h)
    .exact⟨(w y h).1,by have :=(w y h).2;omega⟩
    .exact h.elim
    .exact⟨ai,ai⟩
   .rw[htk,List.map_append];refine((Qo.ext J ?_).ext k7 ?_).ext k8 ?_
    .rintro y (h|h|h) e
     .exact E y h e
     .exact h
     .omega
    .rintro y (h|h|h) l
     .exact S y h l
     .exact h
     .have :=(w y l).2;omega
    .rintro y (h|h|h) e
     .exact E y h e
     .exact h
     .omega
   .rw[htk,List.map_append];refine Zn.ext k8 ?_;rintro y (h|h|h) e
    .exact Ww y h e
    .exact h
    .omega)
  (by
   rintro tm M ⟨Q,C,f,i,oM,r,q,S,s,w,H,G⟩;rw[hA]at Q;obtain⟨t2,cN,cA⟩:=aL (K:=K) (m:=M) (m':=M) P' (aos T c d.length cc d.length a) Q (.cond (SF _) .nil);rw[List.take_length]at H G;exact⟨_,t2,M,iq,cN,rfl,cA,C,f,i,oM,r,q,S,s,w,H,G⟩)
  (tm:=t0) (m:=m) ⟨h0,Kp.refl _ _,_,_,o,eK,eK,λ_ h=>h.elim,λ_ h=>h.elim,λ_ h=>h.elim,AZ.nil,AZ.nil⟩ ai
 exact⟨t1,A,f,i,hx,Q,C,o1,(aW (jj Dn) 1).mono H.fin s,(aW (jj I) 1).mono G.fin w⟩
end
def anH:ab:=.agg #[.slice Y 0 0,.slice Y 0 0,.slice Y 0 0,I 0]
def ZD (m:Mem)(k:Nat):Mem:={m with deaf:=k}
theorem Ns:ae.underlying 139=Z (.pointer 63)/\ae.underlying 143=Z .unsafePointer/\eS ae 63=Z 2:=⟨aM,aM,aM⟩
theorem HE (a:cH)(args:List ab)(m:Mem):(kX ae X0 64).body a args m=vB X0 64 args m/\(kX ae X0 65).body a args m=vB X0 65 args m/\(kX ae X0 66).body a args m=vB X0 66 args m/\
  (kX ae X0 67).body a args m=vB X0 67 args m/\(kX ae X0 69).body a args m=vB X0 69 args m/\(kX ae X0 70).body a args m=vB X0 70 args m:=by
 refine⟨?_,?_,?_,?_,?_,?_⟩<;>kernel_rfl
section
variable {K:fE}{m:Mem}
theorem AJ {f:Nat}{args:List ab}{v:ab}{m':Mem}(b:ju f=O)(a:∀c,(kX ae X0 f).body c args m=vB X0 f args m)(h:vB X0 f args m=Z (v,m')):Ev K f args m v m':=by
 refine⟨1,λM n _ d=>?_⟩;obtain⟨n,rfl⟩:∃k,n=k+1:=⟨n-1,ai⟩;rw[K.step M n f args m b,a];exact h
theorem c64:Ev K 64 [] m (.tuple #[]) (ZD m (m.deaf+1)):=AJ rfl (λa=>(HE a [] m).1) rfl
theorem c66:Ev K 66 [] m (.tuple #[]) (ZD m (m.deaf-1)):=AJ rfl (λa=>(HE a [] m).2.2.1) rfl
theorem c67 {b o:Nat}:Ev K 67 [vP b o] m (.tuple #[]) m:=AJ rfl (λa=>(HE a [vP b o] m).2.2.2.1) rfl
theorem c69 {b o:Nat}:Ev K 69 [vP b o] m (.tuple #[]) m:=AJ rfl (λa=>(HE a [vP b o] m).2.2.2.2.1) rfl
theorem zZ {b sz o:Nat}{cs:List ab}(vs:List ab)(h:Obj m b sz cs)(d:m.dh b o vs.length=U)(g:o+vs.length<=cs.length)(f:vs.all (·.oneCell')=U):
  ∃a,m.dW b o vs=Z a/\Obj a b sz (vd cs o vs)/\Kp m a (λx=>x=b):=by
 obtain⟨a,e,c,k⟩:=jW vs h d g f;unfold Im at e
 split at e
 .rename_i j i;cases e;exact⟨_,i,c,k⟩
 .cases e
theorem c65 {b sz:Nat}{x y:Int}{rest:List ab}(h:Obj m b sz (.int .i32 x::rest))(d:m.dh b 0 1=U):∃a,Ev K 65 [vP b 0,.int .i32 x,.int .i32 y] m (.bool U) a/\Obj a b sz (.int .i32 y::rest)/\Kp m a (λx=>x=b):=by
 obtain⟨a,e,c,k⟩:=zZ (o:=0) [.int .i32 y] h d dA rfl;refine⟨a,AJ rfl (λg=>(HE g _ m).2.1) ?_,c,k⟩;have f:m.dP b 0 1=Z [.int .i32 x]:=jP h rfl dA
 show(match m.dP b 0 1 with |some [.int .i32 v]=>if v=x then(m.dW b 0 [.int .i32 y]).map λa=>(ab.bool U,a)else if m.base<=b then Z (.bool O,m)else Y|_=>Y)=_
 rw[f]
 show(if x=x then _ else _)=_
 rw[bh rfl,e];rfl
theorem c70 {b sz:Nat}{x y:Int}{rest:List ab}(h:Obj m b sz (.int .i32 x::rest))(d:m.dh b 0 1=U):∃a,Ev K 70 [vP b 0,.int .i32 y] m (.int .i32 (bY.i32.wrap (x+y))) a/\Obj a b sz (.int .i32 (bY.i32.wrap (x+y))::rest)/\Kp m a (λx=>x=b):=by
 obtain⟨a,e,c,k⟩:=zZ (o:=0) [.int .i32 (bY.i32.wrap (x+y))] h d dA rfl;refine⟨a,AJ rfl (λg=>(HE g _ m).2.2.2.2.2) ?_,c,k⟩;have f:m.dP b 0 1=Z [.int .i32 x]:=jP h rfl dA
 show(match m.dP b 0 1 with |some [.int .i32 v]=>(m.dW b 0 [.int .i32 (bY.i32.wrap (v+y))]).map λa=>(ab.int .i32 (bY.i32.wrap (v+y)),a)|_=>Y)=_
 rw[f]
 show(m.dW b 0 [.int .i32 (bY.i32.wrap (x+y))]).map _=_
 rw[e];rfl
theorem Q8 {b sz:Nat}{c:ab}{cs:List ab}(h:Obj m b sz (c::cs)):gp ae 139 143 (vP b 0) m=Z (vP b 0,m):=by
 unfold gp;simp only[Ns.1,Ns.2.1,Ns.2.2,h.kind,h.cs];rfl
theorem Obj.df{b sz k:Nat}{cs:List ab}(h:Obj m b sz cs):Obj (ZD m k) b sz cs:=⟨h.lt,h.kind,h.sz,h.cs,h.Dh⟩
theorem Kp.df{m':Mem}{S:Nat->Prop}{k l:Nat}(h:Kp (ZD m k) m' S)(a:l=m.deaf):Kp m (ZD m' l) S:=⟨h.next,h.bI,h.opn,h.base,h.home,h.floor,h.wg,h.pend,a,h.blk⟩
theorem p24 (b:Nat):Path 24 [vP b 0]
 [.call 36 [vP b 0] (.tuple #[])]
 (.tuple #[]):=lF
theorem p36 (b:Nat):Path 36 [vP b 0]
 [.call 64 [] (.tuple #[]),
  .call 65 [vP b 0,.int .i32 0,.int .i32 1] (.bool U),
  yp,
  yp,
  .call 66 [] (.tuple #[]),
  .mem (gp ae 139 143 (vP b 0)) (vP b 0),
  .call 67 [vP b 0] (.tuple #[])]
 (.tuple #[]):=lF
theorem p25 (b:Nat):Path 25 [vP b 0]
 [.call 37 [vP b 0] (.tuple #[])]
 (.tuple #[]):=lF
theorem p37 (b:Nat):Path 37 [vP b 0]
 [yp,
  .mem (aI b 0) (.int .i32 1),
  .mem (gp ae 139 143 (vP b 0)) (vP b 0),
  .call 69 [vP b 0] (.tuple #[]),
  .call 64 [] (.tuple #[]),
  .call 70 [vP b 0,.int .i32 (-1)] (.int .i32 0),
  jT,
  .call 66 [] (.tuple #[])]
 (.tuple #[]):=lF
theorem p40 (v t:Nat)(o:Bool)(p q:Nat)(r:Option Addr)(a b w u n m l k j i h g f d:ab)(e:Int)(fH s c x:Nat):Path 40 [vP v 0,.agg #[.bool o,.slice r p q,a,b,w,u]]
 [jF [Z (.bool o),Z (.slice r p q),Z a,Z b,Z w,Z u] fH,
  jF [Z ei,Z ei,Z ei,Z (I 0)] s,
  .mem (aI v 2) (.map (Z t)),
  vT 6 fH (.agg #[.bool o,.slice r p q,a,b,w,u]),
  jF [Z ei,Z ei,Z ei,Z .nilIface,Z ei,Z ei] c,
  .mem (iW (vP c 0)) (I x),
  fQ,
  .call 75 [.map (Z t),.agg #[.bool o,.slice r p q,a,b,w,u]] (.tuple #[.agg #[n,m,l,k,j,i],I 0]),
  .mem (dH (I x) (vP c 0) (oJ (vP c 0))) undef,
  fQ,
  rJ c 0 [n,m,l,k,j,i],
  jT,
  vT 6 c (.agg #[n,m,l,k,j,i]),
  .call 76 [.agg #[n,m,l,k,j,i]] (.tuple #[.agg #[h,g,f,d],I e]),
  rJ s 0 [h,g,f,d],
  TQ 31 s (.agg #[h,g,f,d])]
 (.tuple #[.agg #[h,g,f,d],I e]):=lF
theorem aoR (m:Nat)(h:Bool)(i j:Nat)(k:Option Addr)(a b w u g f d c:ab)(e:Int)(fH l:Nat):Path 26 [vP m 0,.iface 108 (.agg #[.bool h,.slice k i j,a,b,w,u])]
 [jF [Z ei,Z ei,Z ei,Z (I 0)] fH,
  jT,
  jT,
  yp,
  jF [Z (.bool O),Z ei,Z ei,Z ei,Z .nilIface,Z ei] l,
  rJ l 0 [.bool h,.slice k i j,a,b,w,u],
  vT 6 l (.agg #[.bool h,.slice k i j,a,b,w,u]),
  .call 40 [vP m 0,.agg #[.bool h,.slice k i j,a,b,w,u]] (.tuple #[.agg #[g,f,d,c],I e]),
  rJ fH 0 [g,f,d,c],
  TQ 31 fH (.agg #[g,f,d,c])]
 (.tuple #[.agg #[g,f,d,c],I e]):=lF
theorem p12 (f:Nat)(t:ByteArray)(sv d c b a:ab)(e:Int)(fH g:Nat):Path 12 [vP f 0,kI t]
 [jF [Z ei,Z ei,Z ei,Z (I 0)] fH,
  .call 22 [kI t] (.tuple #[sv,I 0,I 0]),
  jT,
  .call 24 [vP f 0] (.tuple #[]),
  .call 26 [vP f 0,sv] (.tuple #[.agg #[d,c,b,a],I e]),
  jF [Z ei,Z ei,Z ei,Z (I 0)] g,
  rJ g 0 [d,c,b,a],
  vT 4 g (.agg #[d,c,b,a]),
  rJ fH 0 [d,c,b,a],
  .call 25 [vP f 0] (.tuple #[]),
  TQ 31 fH (.agg #[d,c,b,a])]
 (.tuple #[.agg #[d,c,b,a],I e,I 0]):=lF
theorem c24 {b sz:Nat}{rest:List ab}(f:m.deaf=0)(h:Obj m b sz (.int .i32 0::rest))(i:m.dh b 0 1=U):∃c,Ev K 24 [vP b 0] m (.tuple #[]) c/\Obj c b sz (.int .i32 1::rest)/\Kp m c (λx=>x=b):=by
 obtain⟨a,j,g,k1⟩:=c65 (K:=K) (m:=ZD m (m.deaf+1)) (y:=1) h.df i;have d:a.deaf=1:=by rw[k1.deaf];show m.deaf+1=1;rw[f]
 have e:Obj (ZD a (a.deaf-1)) b sz (.int .i32 1::rest):=g.df;refine⟨ZD a (a.deaf-1),bg (p24 b) (.call (bg (p36 b) (.call c64<|.call j<|.cond rfl<|.cond rfl<|.call c66<|.mem (Q8 e)<|.call c67 .nil)) .nil),e,k1.df (by rw[d,f])⟩
theorem c25 {b sz:Nat}{rest:List ab}(f:m.deaf=0)(h:Obj m b sz (.int .i32 1::rest))(k:m.dh b 0 1=U):∃c,Ev K 25 [vP b 0] m (.tuple #[]) c/\Obj c b sz (.int .i32 0::rest)/\Kp m c (λx=>x=b):=by
 obtain⟨a,g,e,k1⟩:=c70 (K:=K) (m:=ZD m (m.deaf+1)) (y:= -1) h.df k;have i:bY.i32.wrap (1+ -1)=0:=eJ;rw[i]at g e;have d:a.deaf=1:=by rw[k1.deaf];show m.deaf+1=1;rw[f]
 have j:aI b 0 m=Z (.int .i32 1,m):=aO h rfl;refine⟨ZD a (a.deaf-1),bg (p25 b) (.call (bg (p37 b) (.cond rfl<|.mem j<|.mem (Q8 h)<|.call c69<|.call c64<|.call g<|.cond rfl<|.call c66 .nil)) .nil),e.df,k1.df (by rw[d,f])⟩
end
def Room (sz:Nat)(m:Mem)(sv:ab)(o:Option Nat):Prop:=(o=Y/\sv=.slice Y 0 0)\/∃b l xs,o=Z b/\sv=vL b 0 l dp/\RO m b sz xs/\l*sz<=xs.length
theorem aiD {a:Array ab}{n:Nat}(h:∀y∈a.toList,y.oneCell'=U):(Builtin.zeroCells a n).toList.length=n*a.size/\((Builtin.zeroCells a n).toList.all (·.oneCell'))=U:=by
 unfold Builtin.zeroCells;refine⟨dA,?_⟩;rw[aB];intro y b;simp only[Array.toList_map,Array.toList_range,List.mem_map,List.mem_range]at b;obtain⟨i,c,rfl⟩:=b;have d:0<a.size:=by
  rcases Nat.eq_zero_or_pos a.size with e|e
  .rw[e]at c;simp at c
  .exact e
 rw[getElem!_pos a _ (Nat.mod_lt _ d)];exact h _ (Array.getElem_mem_toList _)
def gI {α:Type}(st:Nat->List α):Nat->Nat->List α->List α
 |0,_,acc=>acc
 |n+1,i,acc=>gI st n (i+1) (acc++st i)
structure B5 (K:fE)(m0:Mem)(X:Nat->Prop)(fs:Nat)(cap:Array ab){α:Type}(E:pI α)(sz:Nat)(st:Nat->List α)(hi:Nat):Prop where
 one:∀i,(st i).length<=1
 run:∀(mw:Mem) (BO BE:Nat->Prop) (acc:List α) (sv:ab) (i:Nat),i<hi->Gd mw->uB (λb=>¬X b) m0 mw->mI E sz BO BE mw acc sv->(∀b,BO b->(X b\/m0.next<=b)/\b<mw.next)->(∀b,BE b->m0.next<=b/\b<mw.next)->acc.length<2^29->
  ∃zX m' Zf J1,Ev K fs ([sv,I (i:Int)]++cap.toList) mw (.tuple #[zX,I 0]) m'/\Kp mw m' BO/\mI E sz Zf J1 m' (acc++st i) zX/\(∀b,Zf b->BO b\/ik mw m' b)/\(∀b,J1 b->BE b\/ik mw m' b)
section
variable {K:fE}{m:Mem}{fl go sh ga em t sz:Nat}
theorem adt (L:Kin fl go sh ga em t)(F:uA.contains (t,sz)=U){α:Type}{E:pI α}{sv:ab}{o:Option Nat}(h:Room sz m sv o)(g:∀b,o=Z b->Own m b):
  ∃p a,Ev K em [sv] m p a/\Kp m a (λy=>o=Z y)/\mI E sz (λy=>o=Z y) eK a [] p:=by
 obtain⟨e,z,s,c,D,k,i,j⟩:=RD L.und;obtain⟨M,w,v,J,_⟩:=vO F;rw[c]at w;cases w;rw[k]at v;cases v;rcases h with⟨rfl,rfl⟩|⟨b,l,r,rfl,rfl,ro,H⟩
 .have d:oR ae #[t] (.slice Y 0 0) m=Z (.tuple #[],m):=by
   unfold oR
   show(match ae.underlying t,(ab.slice Y 0 0)with |some (.slice e),.slice base n _=>_|_,_=>Y)=_
   rw[c]
  have B:su ae t (.slice Y 0 0) Y (Z (I 0)) m=Z (.slice Y 0 0,m):=by
   unfold su jv;simp only[c,k,ky];simp[dp]
  exact⟨.slice Y 0 0,m,bg (L.VX 0 0 Y _) (.mem d<|.mem B .nil) L.spec.1,.refl _ _,.inl ⟨rfl,rfl⟩⟩
 .have u:Obj m b sz r:=ro.obj (by
   have :=g b rfl;unfold Own Mem.fL at this;simp only[ag,Bool.not_eq_true']at this;exact this.1.1)
  have q:∀a,su ae t (vL b 0 l dp) Y (Z (I 0)) a=Z (vL b 0 0 dp,a):=λa=>by
   unfold su jv;simp only[c,k,ky];simp[dp]
  by_cases f:l=0
  .subst f;have d:oR ae #[t] (vL b 0 0 dp) m=Z (.tuple #[],m):=by
    unfold oR
    show(match ae.underlying t,(vL b 0 0 dp)with |some (.slice e),.slice base n _=>_|_,_=>Y)=_
    rw[c];simp
   exact⟨vL b 0 0 dp,m,bg (L.VX 0 dp (Z ⟨b,0,Y⟩) _) (.mem d<|.mem (q m) .nil) L.spec.1,.refl _ _,.inr ⟨b,[],r,rfl,⟨rfl,id⟩,g b rfl,u,rfl⟩⟩
  .obtain⟨A,x⟩:=aiD (n:=l) j;rw[i]at A;obtain⟨a,G,C,k1⟩:=zZ (o:=0) (Builtin.zeroCells z.cells l).toList u ((g b rfl).may _ _) ai x;have d:oR ae #[t] (vL b 0 l dp) m=Z (.tuple #[],a):=by
    unfold oR
    show(match ae.underlying t,(vL b 0 l dp)with |some (.slice e),.slice base n _=>_|_,_=>Y)=_
    rw[c];simp only[f,if_false,D,dw,G,dk]
   exact⟨vL b 0 0 dp,a,bg (L.VX l dp (Z ⟨b,0,Y⟩) _) (.mem d<|.mem (q a) .nil) L.spec.1,k1.mono λy _ h=>by rw[h],.inr ⟨b,[],_,rfl,⟨rfl,id⟩,(g b rfl).ext k1,C,rfl⟩⟩
theorem aqZ (L:Kin fl go sh ga em t)(ht:uA.contains (t,sz)=U){α:Type}{E:pI α}{m0:Mem}{X:Nat->Prop}{fs fr to hi d o B:Nat}{l:Array ab}{st:Nat->List α}{r:Option Nat}{v:ab}{cs:List ab}(fA:B5 K m0 X fs l E sz st hi)(g:Gd m)(G:uB (λb=>¬X b) m0 m)(ro:RO m d B cs)(h0:cs[o]?=Z v)(h1:o+1<cs.length)
  (sY:Room sz m v r)(wQ:∀b,r=Z b->Own m b)(H:∀b,r=Z b->X b/\b≠d/\b<m.next)(hm:meets m.bI d o 1=O)(hw0:m.dh d o 1=U)(QC:m.dh d (o+1) 1=U)(hf:fr<=to)(hh:to<=hi)(hs:to<90000):
  ∃i m' BO q,Ev K sh [vP d o,I fr,I to,.func (.func fs) #[] l] m (.tuple #[]) m'/\Kp m m' (λy=>y=d\/r=Z y)/\RO m' d B ((cs.set o i).set (o+1) (I 0))/\
   mI E sz BO q m' (gI st (to-fr) fr []) i/\(∀b,BO b->r=Z b\/ik m m' b)/\∀b,q b->ik m m' b:=by
 obtain⟨Q,hQ⟩:∃Q,Q=gI st (to-fr) fr []:=⟨_,rfl⟩;rw[<-hQ];obtain⟨F,S⟩:∃F:ab,F=.func (.func fs) #[] l:=⟨_,rfl⟩;obtain⟨TV,m1,e1,k1,Qo⟩:=adt (K:=K) L ht (E:=E) sY wQ;obtain⟨a0,n0,c0,rfl⟩:∃a n c,v=.slice a n c:=by rcases sY with⟨_,rfl⟩|⟨_,_,_,_,rfl,_⟩<;>exact⟨_,_,_,rfl⟩
 have hXm:∀{m'},Kp m m' (λy=>r=Z y)->uB (λb=>¬X b) m0 m':=λk=>G.trans (k.same λb f e=>f (H b e).1)
 obtain⟨t0,w0,e0⟩:=aU (K:=K) (m:=m) (m':=m1) (tm:=entry [vP d o,I fr,I to,.func (.func fs) #[] l]) (L.afP d o fr to fs n0 c0 l a0 TV) rfl (.mem (ro.ld1 h0 hm)<|.call e1 .nil);obtain⟨e,t1,u,he,hx,rfl,i,s,q,x,D,Zn,M,z⟩:=eN (K:=K) (nt:=fp sh) (a:=qk (bX sh) [2]) (to-fr)
  (Inv:=λj tm m'=>∃i s q p,bj [0,2,3,8,9,10] tm=[vP d o,I to,F,i,I 0,I (fr+j:Nat)]/\Kp m m' (λy=>r=Z y)/\mI E sz s q m' p i/\(∀b,s b->r=Z b\/ik m m' b)/\(∀b,q b->ik m m' b)/\p.length<=j/\gI st (to-fr-j) (fr+j) p=Q)
  (dm:=λe tm m'=>e=.exit 0/\∃i s q,bj [0,8,9] tm=[vP d o,i,I 0]/\Kp m m' (λy=>r=Z y)/\mI E sz s q m' Q i/\(∀b,s b->r=Z b\/ik m m' b)/\∀b,q b->ik m m' b)
  (by
   rintro j tm u hj ⟨i,s,q,p,x,A,ls,N,J,T3,w⟩;rw[S]at x;have nk:=A.next;have nh:=G.next;obtain⟨T,R,BA',J1,e3,C,W,hB3,hE3⟩:=fA.run u s q p i (fr+j) ai (g.ext A) (hXm A) ls (λb f=>by
    rcases N b f with h|h
    .exact⟨.inl (H b h).1,by have :=(H b h).2.2;omega⟩
    .exact⟨.inr (by have :=h.1;omega),h.2⟩) (λb f=>⟨by have :=(J b f).1;omega,(J b f).2⟩) ai
   have e3':Ev K fs ((#[]:Array ab).toList++[i,I (fr+j:Nat)]++l.toList) u (.tuple #[T,I 0]) R:=e3;obtain⟨P,cN,cA⟩:=aL (K:=K) (m:=u) (m':=R) L.P5 (L.afO d o to (fr+j) fs l i T) x (.rp (FM ai)<|.cond rfl<|.bZ e3' .nil);rw[show to-fr-j=(to-fr-(j+1))+1 by omega]at w;have nx:=C.next;refine .inl ⟨P,R,cN,T,BA',J1,p++st (fr+j),by rw[cA,add1 ai,S];rfl,?_,W,λb f=>?_,λb f=>?_,by have :=fA.one (fr+j);simp;omega,w⟩
   .exact A.trans C λb f h=>by
     rcases N b h with h|h
     .exact h
     .exact absurd h.1 ai
   .rcases hB3 b f with h|h
    .rcases N b h with h|h
     .exact .inl h
     .exact .inr ⟨h.1,by have :=h.2;omega⟩
    .exact .inr ⟨by have :=h.1;omega,h.2⟩
   .rcases hE3 b f with h|h
    .have :=J b h;exact⟨this.1,by have :=this.2;omega⟩
    .exact⟨by have :=h.1;omega,h.2⟩)
  (by
   rintro tm u ⟨i,s,q,p,x,A,ls,N,J,T3,w⟩;rw[S,show fr+(to-fr)=to by omega]at x;rw[Nat.sub_self]at w;have w:p=Q:=w;subst w;obtain⟨P,cN,cA⟩:=aL (K:=K) (m:=u) (m':=u) L.P5 (L.afN d o to to fs l i) x (.rp (SF _)<|.cond rfl .nil);exact⟨_,P,u,iq,cN,rfl,i,s,q,cA,A,ls,N,J⟩)
  (tm:=t0) (m:=m1) ⟨TV,_,eK,[],by rw[e0,S];rfl,k1,Qo,λb h=> .inl h,λb h=>h.elim,aj _,by rw[hQ];rfl⟩ ai
 have ho:o<cs.length:=ai;have hd:¬r=Z d:=λe=>(H d e).2.1 rfl
 obtain⟨a,cc,vw⟩:=Zn.form;obtain⟨R,e3,r3,C,n3⟩:=(ro.ext D hd).jf (o:=o) i (IU D hw0) ho Zn.one;obtain⟨V,e4,r4,k4,n4⟩:=r3.jf (o:=o+1) (I 0) (IU C (IU D QC)) (by simpa using h1) rfl;subst vw;obtain⟨P,h2,e2⟩:=aU (K:=K) (m:=u) (m':=V) (L.afM d o Q.length cc a) x (.mem e3<|.mem e4 .nil);have Xc:Kp u V (λy=>y=d):=C.trans k4 λ_ _ h=>h
 have n24:=Xc.next;have n02:=D.next;have M0:=ro.lt;refine⟨_,V,s,q,dE L.age (aC.cut w0 (aC.Bz L.agu L.agy hx rfl (aC.last h2 L.WU))) (.inl rfl) e2 L.spec.2.1,?_,r4,Zn.ext Xc λb f e=>?_,λb f=>?_,λb f=>⟨(z b f).1,by have :=(z b f).2;omega⟩⟩
 .exact(D.mono λ_ _ h=> .inr h).trans Xc λ_ _ h=> .inl h
 .rcases f with f|f
  .rcases M b f with h|h
   .exact(H b h).2.1 e
   .have :=h.1;omega
  .have :=(z b f).1;omega
 .rcases M b f with h|h
  .exact .inl h
  .exact .inr ⟨h.1,by have :=h.2;omega⟩
end
structure BoP (d N:Nat)(bo:Nat->Option Nat):Prop where
 ne:∀{j b},bo j=Z b->b≠d/\b<N
 inj:∀{i j b},bo i=Z b->bo j=Z b->i=j
def wK (d q:Nat)(bo:Nat->Option Nat)(j:Nat):List Span:=sp d (q+2*j)::sp d (q+2*j+1)::(match bo j with |none=>[] |some b=>[(b,b+1,Y)])
def vf (d q:Nat)(bo:Nat->Option Nat):Nat->List Span
 |0=>wK d q bo 3++(wK d q bo 2++(wK d q bo 1++wK d q bo 0))
 |1=>wK d q bo 3++(wK d q bo 2++wK d q bo 1)
 |2=>wK d q bo 3++wK d q bo 2
 |3=>wK d q bo 3
 |_=>[]
def apS (s t:Span):Bool:=s.1 !=t.1||(match s.2.2,t.2.2 with |some x,Z y=>x !=y|_,_=>O)
section
variable {d q N:Nat}{bo:Nat->Option Nat}
theorem o0 {j:Nat}{s:Span}:s∈wK d q bo j↔s=sp d (q+2*j)\/s=sp d (q+2*j+1)\/∃b,bo j=Z b/\s=(b,b+1,Y):=by
 unfold wK;cases h:bo j<;>simp
theorem Pt (a:BoP d N bo){i j:Nat}(h:i≠j){s t:Span}(l:s∈wK d q bo i)(k:t∈wK d q bo j):apS s t=U:=by
 rcases o0.1 l with rfl|rfl|⟨b,g,rfl⟩<;>rcases o0.1 k with rfl|rfl|⟨c,f,rfl⟩<;>simp only[apS,sp]
 .simp;omega
 .simp;omega
 .simp;exact λe=>(a.ne f).1 e.symm
 .simp;omega
 .simp;omega
 .simp;exact λe=>(a.ne f).1 e.symm
 .simp;exact(a.ne g).1
 .simp;exact(a.ne g).1
 .simp;exact λe=>h (a.inj g (e▸f))
theorem ady {s:Span}(h:apS s s=U):False:=by
 unfold apS at h;obtain⟨a,b,c⟩:=s;cases c<;>simp at h
theorem zJ:∀{A B:List Span},j0 A=U->j0 B=U->(∀s∈A,∀t∈B,apS s t=U)->j0 (A++B)=U
 | [],B,_,h,_=>h
 |s::A,B,h,b,k=>by
  have h:((A.all λt=>apS s t)&&j0 A)=U:=h;rw[ag]at h
  show(((A++B).all λt=>apS s t)&&j0 (A++B))=U
  rw[ag,List.all_append,ag];exact⟨⟨h.1,aB.2 (k s (List.mem_cons_self ..))⟩,zJ h.2 b λt a=>k t (List.mem_cons_of_mem _ a)⟩
theorem H0 (a:BoP d N bo)(j:Nat):j0 (wK d q bo j)=U:=by
 unfold wK;cases h:bo j with
 |none=>simp[j0,sp]
 |some b=>
  have :=(a.ne h).1;simp[j0,sp,this.symm]
theorem v7 {j:Nat}(a:j<4):vf d q bo j=vf d q bo (j+1)++wK d q bo j:=by
 match j,a with
 |0,_=>simp[vf]
 |1,_=>simp[vf]
 |2,_=>simp[vf]
 |3,_=>simp[vf]
theorem y0 {j:Nat}(e:j<=4){s:Span}(h:s∈vf d q bo j):∃k,j<=k/\k<4/\s∈wK d q bo k:=by
 induction k:4-j generalizing j with
 |zero=>
  have :j=4:=ai;subst this;cases h
 |succ k a=>
  rw[v7 ai]at h;rcases List.mem_append.1 h with h|h
  .obtain⟨x,f,c,b⟩:=a ai h ai;exact⟨x,ai,c,b⟩
  .exact⟨j,aj _,ai,h⟩
theorem Fy (a:BoP d N bo):∀(k:Nat) {j:Nat},j+k=4->j0 (vf d q bo j)=U
 |0,j,h=>by
  have :j=4:=ai;subst this;rfl
 |k+1,j,h=>by
  rw[v7 ai];refine zJ (Fy a k ai) (H0 a j) λs c t b=>?_
  obtain⟨x,g,f,e⟩:=y0 ai c;exact Pt a ai e b
theorem Mf (e:BoP d N bo){j:Nat}(b:j<4):((vf d q bo j).filter λs=> !(wK d q bo j).contains s)=vf d q bo (j+1):=by
 rw[v7 b,List.filter_append,List.filter_eq_self.2,List.filter_eq_nil_iff.2,List.append_nil]
 .intro s a;simpa using a
 .intro s a;obtain⟨x,h,g,f⟩:=y0 ai a;rw[Bool.not_eq_true',Bool.eq_false_iff];intro c;exact ady (Pt e (show x≠j by omega) f (by simpa using c))
theorem Di {j:Nat}{s:Span}(h:s∈wK d q bo j):s.2.1=s.1+1:=by
 rcases o0.1 h with rfl|rfl|⟨b,a,rfl⟩<;>rfl
theorem TD {s t:Span}(h:apS s t=U)(b:s.2.1=s.1+1)(a:t.2.1=t.1+1):yj s t=U:=by
 unfold apS at h;unfold yj;rw[Bool.or_eq_true]at h;rcases h with h|h
 .have h:s.1≠t.1:=by simpa using h
  rcases Nat.lt_or_gt_of_ne h with h|h
  .rw[Nat.ble_eq_true_of_le ai];rfl
  .rw[show Nat.ble t.2.1 s.1=U from Nat.ble_eq_true_of_le ai];simp
 .rw[Bool.or_eq_true];exact .inr h
theorem y7 (e:BoP d N bo)(a:d<N){j:Nat}{s:Span}(h:s∈wK d q bo j):s.2.1<=N:=by
 rcases o0.1 h with rfl|rfl|⟨b,c,rfl⟩
 .exact a
 .exact a
 .exact(e.ne c).2
theorem EO {j b:Nat}(f:b≠d)(i:bo j≠Z b){s:Span}(h:s∈wK d q bo j)(e:s.1<=b)(a:b<s.2.1):False:=by
 rcases o0.1 h with rfl|rfl|⟨c,g,rfl⟩
 .exact f (by unfold sp at e a;simp at e a;omega)
 .exact f (by unfold sp at e a;simp at e a;omega)
 .simp at e a;have :b=c:=ai;exact i (this▸g)
end
structure Ka (S:Nat->Prop)(M M':Mem):Prop where
 next:M.next<=M'.next
 blk:∀b,b<M.next->¬S b->M'.blk b=M.blk b
theorem Ka.trans{S:Nat->Prop}{M d M2:Mem}(h:Ka S M d)(k:Ka S d M2):Ka S M M2:=⟨bV h.next k.next,λb c a=>(k.blk b (aZ c h.next) a).trans (h.blk b c a)⟩
theorem Ka.mono{S S':Nat->Prop}{M c:Mem}(h:Ka S M c)(k:∀b,b<M.next->S b->S' b):Ka S' M c:=⟨h.next,λb a d=>h.blk b a λx=>d (k b a x)⟩
theorem Kp.Zj{M a:Mem}{S:Nat->Prop}(k:Kp M a S):Ka S M a:=⟨k.next,k.blk⟩
structure FH (M:Mem)(w d q N0 Np j:Nat)(bo:Nat->Option Nat):Prop where
 sd:Sd M
 wg:M.wg=Z w
 pend:M.pend.length=j
 bd:M.base<=d/\∀k b,bo k=Z b->M.base<=b
 opn:M.opn=vf d q bo j
 bI:∀t∈M.bI,(∃k,k<j/\t∈wK d q bo k)\/(t.2.2=Y/\N0<=t.1/\t.2.1<=Np)
 dn:d<N0
 bp:BoP d N0 bo
 n0:N0<=Np
 np:Np<=M.next
theorem FH.ext{M e:Mem}{w d q c b j:Nat}{a:Nat->Option Nat}(h:FH M w d q c b j a)(k:Kp M e eK):FH e w d q c b j a:=
 ⟨h.sd.ext k,k.wg.trans h.wg,by rw[k.pend];exact h.pend,by rw[k.base];exact h.bd,k.opn.trans h.opn,by rw[k.bI];exact h.bI,h.dn,h.bp,h.n0,bV h.np k.next⟩
theorem FH.Dh{M:Mem}{w d q f e j b:Nat}{c:Nat->Option Nat}(h:FH M w d q f e j c)(i:b≠d)(n:∀k,k<j->c k≠Z b)(o:b<f\/e<=b):aP M.bI b=O:=by
 refine iC λx a m l=>?_
 rcases h.bI x a with⟨k,g,a⟩|⟨s,r,p⟩
 .exact EO i (n k g) a m l
 .omega
section
variable {K:fE}{fl go sh ga em t sz:Nat}
theorem Yi (L:Kin fl go sh ga em t)(a:uA.contains (t,sz)=U){α:Type}{E:pI α}{X:Nat->Prop}{fs hi szd:Nat}{cap:Array ab}{st:Nat->List α}{m0 M f:Mem}{w d q N0 Np j t0 R V W S fr to:Nat}{z:Nat->Option Nat}{cs:List ab}{sv0:ab}(hK:B9 K)(fA:B5 KW m0 X fs cap E sz st hi)(hXd:X d)(hXb:∀k b,z k=Z b->X b)
  (hm0:m0.next<=N0)(hv0:m0.bI=[])(h0:∀b,b<m0.next->¬X b->f.blk b=m0.blk b)(hgr:mo w d q M=Z f)(hj:j<4)(C:FH f w d q N0 Np j z)
  (gh:tS X0 (.func (.func go) #[] #[vP t0 0,vP V 0,vP W 0,vP S 0,vP R 0]) M=Z (d,q,j))(ro:RO f d szd cs)(hlen:q+8<cs.length)(vw:cs[q+2*j]?=Z sv0)(sY:Room sz f sv0 (z j))
  (r0:RO f t0 0 [vP d q])(ri:RO f V 0 [I (j:Int)])(rf:RO f W 0 [I (fr:Int)])(rt:RO f S 0 [I (to:Int)])(r5:RO f R 0 [.func (.func fs) #[] cap])
  (XY:∀x,x=t0\/x=V\/x=W\/x=S\/x=R->x≠d/\(∀k,z k≠Z x)/\(x<N0\/Np<=x))(hf:fr<=to)(hh:to<=hi)(p:to<90000):
  ∃sv m A BA BE v,Ev K 137 [vP w 0,.func (.func go) #[] #[vP t0 0,vP V 0,vP W 0,vP S 0,vP R 0]] M (.tuple #[]) v/\FH v w d q N0 v.next (j+1) z/\v.base=f.base/\v.home=f.home/\RO v d szd ((cs.set (q+2*j) sv).set (q+2*j+1) (I 0))/\
   mI E sz BA BE A (gI st (to-fr) fr []) sv/\(∀b,BA b->z j=Z b\/ik m A b)/\(∀b,BE b->ik m A b)/\(∀b,v.blk b=A.blk b)/\v.next=A.next/\f.next<=m.next/\Ka (λb=>b=d\/z j=Z b) f v:=by
 have D:=C.sd;have F:=C.bp;obtain⟨dR,Jl⟩:∃dR:ab,dR=.func (.func go) #[] #[vP t0 0,vP V 0,vP W 0,vP S 0,vP R 0]:=⟨_,rfl⟩;obtain⟨n,H⟩:∃n,n=mU f w dR:=⟨_,rfl⟩;have nb:n.next=f.next+2:=by rw[H];rfl
 have hbh:n.bI=f.bI:=by rw[H];rfl
 have Na:n.opn=f.opn:=by rw[H];rfl
 have ph:n.base=f.base:=by rw[H];rfl
 have aqn:n.home=f.home:=by rw[H];rfl
 have hbw:n.wg=f.wg:=by rw[H];rfl
 have hbp:n.pend=f.pend:=by rw[H];rfl
 have s8:n.deaf=f.deaf:=by rw[H];rfl
 have lC:∀b,b<f.next->n.blk b=f.blk b:=λb u=>by rw[H];exact adu u
 have P:∀{b sz:Nat}{xs:List ab},RO f b sz xs->RO n b sz xs:=λh=>by
  have e:=lC _ h.lt;exact⟨by have :=h.lt;omega,by rw[e];exact h.kind,by rw[e];exact h.sz,by rw[e];exact h.cs⟩
 obtain⟨l,J⟩:∃l,l=wK d q z j:=⟨_,rfl⟩;obtain⟨rest,iF⟩:∃r,r=vf d q z (j+1):=⟨_,rfl⟩;have G:=C.dn;have hnN:=C.n0;have hnp:=C.np;have QJ:∀(T:List Span) x,(x=q+2*j\/x=q+2*j+1)->(∀t∈T,(∃k,k≠j/\t∈wK d q z k)\/(t.2.2=Y/\N0<=t.1/\t.2.1<=Np))->meets T d x 1=O:=by
  intro T x B hT;unfold meets;rw[List.any_eq_false];intro t a;rcases hT t a with⟨k,hk,p⟩|⟨g,y,Q⟩
  .rcases o0.1 p with rfl|rfl|⟨c,hc,rfl⟩
   .simp only[sp,ag,iU];rintro⟨_,h5,h6⟩;omega
   .simp only[sp,ag,iU];rintro⟨_,h5,h6⟩;omega
   .simp only[ag,iU];rintro⟨⟨h5,h6⟩,_⟩;exact(F.ne hc).1 ai
  .simp only[ag,iU];rintro⟨⟨h5,_⟩,_⟩;omega
 have acQ:∀t∈f.bI,(∃k,k≠j/\t∈wK d q z k)\/(t.2.2=Y/\N0<=t.1/\t.2.1<=Np):=λt a=>by
  rcases C.bI t a with⟨k,hk,h⟩|h
  .exact .inl ⟨k,ai,h⟩
  .exact .inr h
 have KS:∀t∈rest,∃k,k≠j/\k<4/\t∈wK d q z k:=λt a=>by
  rw[iF]at a;obtain⟨k,g,y,Q⟩:=y0 ai a;exact⟨k,ai,y,Q⟩
 have aha:∀x,x=q+2*j\/x=q+2*j+1->meets f.bI d x 1=O:=λx B=>QJ _ x B acQ
 have hle:∀t∈f.bI,t.2.1<=Np:=by
  intro t a;rcases C.bI t a with⟨k,hk,h⟩|⟨g,y,Q⟩
  .have :=y7 F G h;omega
  .exact Q
 have amw:BD n d q j=Z l:=by
  unfold BD;rw[(P ro).I4 vw (by rw[hbh];exact aha _ (.inl rfl)),J];unfold wK;rcases sY with⟨g,rfl⟩|⟨b,lb,xs,g,rfl,_⟩
  .rw[g];rfl
  .rw[g];rfl
 obtain⟨m,QI⟩:∃m,m=dK n l rest:=⟨_,rfl⟩;have nw:m.next=n.next:=by rw[QI];rfl
 have hwh:m.bI=rest++f.bI:=by rw[QI];show rest++n.bI=_;rw[hbh]
 have hwo:m.opn=l:=by rw[QI];rfl
 have hwb:m.base=f.base:=by rw[QI];exact ph
 have FP:m.floor=n.next:=by rw[QI];rfl
 have Xr:∀b,m.blk b=n.blk b:=λb=>by rw[QI];rfl
 have row:∀{b sz:Nat}{xs:List ab},RO f b sz xs->RO m b sz xs:=λh=>by
  have h:=P h;have e:=Xr;exact⟨by have :=h.lt;omega,by rw[e];exact h.kind,by rw[e];exact h.sz,by rw[e];exact h.cs⟩
 have Dh:∀b,b≠d->(∀k,k≠j->z k≠Z b)->(b<N0\/Np<=b)->aP m.bI b=O:=by
  intro b u hk hc;rw[hwh];refine iC λx B g y=>?_
  rcases List.mem_append.1 B with B|B
  .obtain⟨k,OM,_,p⟩:=KS x B;exact EO u (hk k OM) p g y
  .rcases acQ x B with⟨k,OM,p⟩|⟨Q,h4,h5⟩
   .exact EO u (hk k OM) p g y
   .omega
 have gw:Gd m:=by
  refine⟨by rw[QI];rfl,by rw[QI];exact s8.trans D.deaf,by rw[hwb,FP];have :=D.bf;have :=D.fn;omega,by rw[FP,nw];exact aj _,by rw[QI];exact aj _,λs p=>?_⟩;rw[hwh]at p;rcases List.mem_append.1 p with p|p
  .obtain⟨k,_,_,h⟩:=KS s p;have :=y7 F G h;omega
  .have :=hle s p;omega
 have fJ:uB (λb=>¬X b) m0 m:=by
  refine⟨ai,λb u J=>⟨?_,λ_=>Dh b (λe=>u (e▸hXd)) (λk _ e=>u (hXb k b e)) (.inl ai)⟩⟩;rw[Xr,lC b ai,h0 b J u]
 have amr:∀x,x=q+2*j\/x=q+2*j+1->meets m.bI d x 1=O:=by
  intro x B;rw[hwh];refine QJ _ x B λt a=>?_
  rcases List.mem_append.1 a with a|a
  .obtain⟨k,g,_,y⟩:=KS t a;exact .inl ⟨k,g,y⟩
  .exact acQ t a
 have hww:∀x,x=q+2*j\/x=q+2*j+1->m.dh d x 1=U:=by
  intro x B;unfold Mem.dh;rw[amr x B,hwo,hwb];have L0:bL l d (x+0)=U:=by
   unfold bL;rw[J,List.any_eq_true];exact⟨sp d x,o0.2 (by rcases B with rfl|rfl<;>simp),by simp[sp]⟩
  have s8:=C.bd.1;simp only[Bool.not_false,Bool.true_and,ag,Bool.or_eq_true,iU];refine⟨s8,.inr ?_⟩
  show((List.range 1).all λi=>bL l d (x+i))=U
  rw[aB];intro i hi;have :i=0:=by simpa using hi
  subst this;exact L0
 have wQ:∀b,z j=Z b->Own m b:=by
  intro b u;unfold Own Mem.fL;rw[Dh b (F.ne u).1 (λk hk e=>hk (F.inj e u)) (.inl (F.ne u).2),hwo,hwb];have g:=C.bd.2 j b u;have y:ix l b=U:=by
   unfold ix;rw[J,List.any_eq_true];exact⟨(b,b+1,Y),o0.2 (.inr (.inr ⟨b,u,rfl⟩)),dA⟩
  rw[y];simp[g]
 have agX:Room sz m sv0 (z j):=by
  rcases sY with h|⟨b,lb,xs,g,y,Q,h4⟩
  .exact .inl h
  .exact .inr ⟨b,lb,xs,g,y,row Q,h4⟩
 have rod:=row ro;obtain⟨sv,A,BA,BE,aqQ,k2,ro2,At,Az,Hu⟩:=aqZ (K:=KW) (fr:=fr) (to:=to) (d:=d) (o:=q+2*j) L a fA gw fJ rod vw ai agX wQ (λb u=>⟨hXb j b u,(F.ne u).1,by have :=(F.ne u).2;omega⟩) (amr _ (.inl rfl)) (hww _ (.inl rfl)) (hww _ (.inr rfl)) hf hh p;have Uk:∀x,x=t0\/x=V\/x=W\/x=S\/x=R->aP m.bI x=O:=λx B=>Dh x (XY x B).1 (λk _=>(XY x B).2.1 k) (XY x B).2.2
 have l0:=aO (o:=0) ((row r0).obj (Uk _ dA)) rfl;have l1:=aO (o:=0) ((row ri).obj (Uk _ dA)) rfl;have l2:=aO (o:=0) ((row rf).obj (Uk _ dA)) rfl;have l3:=aO (o:=0) ((row rt).obj (Uk _ dA)) rfl;have l4:=aO (o:=0) ((row r5).obj (Uk _ dA)) rfl;have aqR:Ev KW go [vP t0 0,vP V 0,vP W 0,vP S 0,vP R 0] m (.tuple #[]) A:=
  bg (L.afS t0 V W S R d q j fr to fs cap) (.mem l0<|.mem l1<|.idx rfl hj<|.mem l2<|.mem l3<|.mem l4<|.mem (aJ gw)<|.call (by rw[show q+j*2=q+2*j by omega];exact aqQ) .nil) L.spec.2.2.1
 obtain⟨v,N⟩:∃v,v=km n A l rest:=⟨_,rfl⟩;have hY:Ev KW go (#[vP t0 0,vP V 0,vP W 0,vP S 0,vP R 0]:Array ab).toList (dK (mU f w (.func (.func go) #[] #[vP t0 0,vP V 0,vP W 0,vP S 0,vP R 0])) l rest) (.tuple #[]) A:=by
  rw[<-Jl,<-H,<-QI];exact aqR
 have X3:A.deaf=0:=by rw[k2.deaf];exact gw.deaf
 have hgo:=UG hK gh hgr (by rw[<-Jl,<-H];exact amw) (rest:=rest) (by rw[iF,J,C.opn,Mf F hj]) D.deaf (by rw[C.pend];exact hj)
  (by
   rw[aB,J];intro s p;rw[C.opn,v7 hj];simp[p])
  (by rw[J];exact H0 F j)
  (by
   rw[aB,J];intro s p;rw[aB];intro t a;have :(∃k,k≠j/\t∈wK d q z k)\/(t.2.2=Y/\N0<=t.1/\t.2.1<=Np):=by
    rcases List.mem_append.1 a with a|a
    .obtain⟨k,g,_,y⟩:=KS t a;exact .inl ⟨k,g,y⟩
    .exact acQ t a
   rcases this with⟨k,g,y⟩|⟨g,y,Q⟩
   .exact TD (Pt F (λe=>g e.symm) p y) (Di p) (Di y)
   .unfold yj;have :=y7 F G p;rw[show Nat.ble s.2.1 t.1=U from Nat.ble_eq_true_of_le ai];rfl)
  (by
   rw[aB];intro t a;refine Nat.ble_eq_true_of_le ?_;have :∃k,t∈wK d q z k:=by
    rcases List.mem_append.1 a with a|a
    .obtain⟨k,_,_,y⟩:=KS t a;exact⟨k,y⟩
    .exact⟨j,J▸a⟩
   obtain⟨k,h⟩:=this;have :=y7 F G h;omega)
  (by
   rw[aB,J];intro s p;rw[<-Jl,<-H,Di p];have :(n.blk s.1).kind=1:=by
    rcases o0.1 p with rfl|rfl|⟨b,u,rfl⟩
    .exact(P ro).kind
    .exact(P ro).kind
    .rcases sY with⟨h,_⟩|⟨b',lb,xs,g,_,Q,_⟩
     .rw[u]at h;cases h
     .rw[u]at g;cases g;exact(P Q).kind
   rw[this,Nat.beq_refl];rfl)
  hY X3
 rw[<-Jl,<-H,<-N]at hgo;have nM:v.next=A.next:=by rw[N];rfl
 have Ma:∀b,v.blk b=A.blk b:=λb=>by rw[N];rfl
 have n2:=k2.next;have QU:v.bI=(n.next,A.next,Y)::(l++f.bI):=by rw[N,<-hbh];rfl
 have Mb:v.base=f.base:=by rw[N];exact k2.base.trans hwb
 have amR:v.home=f.home:=by rw[N];exact aqn
 have amC:∀t∈v.bI,(∃k,k<j+1/\t∈wK d q z k)\/(t.2.2=Y/\N0<=t.1/\t.2.1<=v.next):=by
  intro t a;rw[QU]at a;rcases aN.1 a with rfl|a
  .exact .inr ⟨rfl,by show N0<=n.next;omega,by show A.next<=v.next;omega⟩
  .rcases List.mem_append.1 a with a|a
   .exact .inl ⟨j,ai,J▸a⟩
   .rcases C.bI t a with⟨k,hk,h⟩|⟨g,y,Q⟩
    .exact .inl ⟨k,ai,h⟩
    .exact .inr ⟨g,y,ai⟩
 refine⟨sv,m,A,BA,BE,v,by rw[<-Jl];exact hgo,⟨⟨by rw[N];exact X3,?_,?_,?_,?_⟩,?_,?_,by rw[Mb];exact C.bd,by rw[N];exact iF,amC,G,F,ai,aj _⟩,Mb,amR,?_,At,Az,Hu,Ma,nM,ai,⟨ai,?_⟩⟩
 .rw[Mb,show v.floor=A.next by rw[N];rfl];have :=D.bf;have :=D.fn;omega
 .rw[show v.floor=A.next by rw[N];rfl];omega
 .rw[amR];have :=D.hn;omega
 .intro t a;rcases amC t a with⟨k,hk,h⟩|⟨_,_,h⟩
  .have :=y7 F G h;omega
  .exact h
 .rw[N];exact hbw.trans C.wg
 .rw[N]
  show(_::n.pend).length=j+1
  rw[List.length_cons,hbp,C.pend]
 .exact⟨by have :=ro2.lt;omega,by rw[Ma];exact ro2.kind,by rw[Ma];exact ro2.sz,by rw[Ma];exact ro2.cs⟩
 .intro b u hd;rw[Ma,k2.blk b ai hd,Xr,lC b u]
end
end Go.AM
