/-
  What the claim stands on, part 12.
-/
import Derived.Test.YtgfppohfgconeaaGreatDoorP11
set_option linter.unusedVariables false
set_option linter.unusedSimpArgs false
open Option renaming some → Z
open Bool renaming true → U, false → O
open Go renaming Value → ab
open Go.Proofs.Tryz renaming prog → ae
open Nat renaming le_of_ble_eq_true → af, le_refl → aj, le_trans → bV
open List renaming mem_cons → aN
namespace Go.AM
set_option maxRecDepth 1000000
open Go Go.Conc Go.Proofs
def TW:List UInt8:=[87,73,84,72,32,82,69,67,85,82,83,73,86,69,32,115,40,122,41,32,65,83,32,40,83,69,76,69,67,84,32]
def Zk:List UInt8:=[32,85,78,73,79,78,32,65,76,76,32,83,69,76,69,67,84,32]
def pT3:List UInt8:=[41,44,32]++pR
theorem r6a (a b:Nat)(c:Option Addr)(x y:Int):cV 6 0 3 [0,1,2] [.slice c a b,I x,I y]
 []
 .normal [0,1,2,7,8] [.slice c a b,I x,I y,ei,I 0]:=cT
theorem r6u (d c l h i j a b:Nat)(k:Option Addr)(x y z:Int)(e f:Nat)(g:Option Addr)(m:Nat):aY 6 [3] 0 99 [0,1,2,7,8] [vL d 0 c l,I x,I y,.slice k h i,I j]
 [bu (dx j c) U,
  .idx j c j,
  .mem (aI d (0+j*1)) (I z),
  .call 18 [I z] (.tuple #[I a,I b]),
  bu (dx a b) U,
  .mem (bW ae 22 1 [(0,(I (bU (ly 12 a) b)))]) (vL m 0 1 1),
  .mem (cJ ae #[22,22] (.slice k h i) (vL m 0 1 1)) (.slice g e f)]
 .normal [0,1,2,7,8] [vL d 0 c l,I x,I y,.slice g e f,I (bU j 1)]:=cT
theorem r6v (d c h e f j a b:Nat)(g:Option Addr)(x y z:Int):aY 6 [3] 0 99 [0,1,2,7,8] [vL d 0 c h,I x,I y,.slice g e f,I j]
 [bu (dx j c) U,
  .idx j c j,
  .mem (aI d (0+j*1)) (I z),
  .call 18 [I z] (.tuple #[I a,I b]),
  bu (dx a b) O]
 .normal [0,1,2,7,8] [vL d 0 c h,I x,I y,.slice g e f,I (bU j 1)]:=cT
theorem r6w (d e a b j:Nat)(f c:Option Addr)(x y:Int):aY 6 [3] 0 99 [0,1,2,7,8] [.slice f d e,I x,I y,.slice c a b,I j]
 [bu (dx j d) O]
 (.exit 0) [1,2,7] [I x,I y,.slice c a b]:=cT
theorem r6b (a b d q s t:Nat)(c:Option Addr)(x y f e:Int):cV 6 4 11 [1,2,7] [I x,I y,.slice c a b]
 [.call 10 [.slice c a b] (vP d 0),
  jT,
  jF [Z (I 0),Z (I 0),Z (I 0),Z (I 0),Z (I 0),Z (I 0),Z (I 0),Z (I 0),Z (I 0),Z (I 0),Z (I 0),Z (I 0)] q,
  .call 15 [I x,I 12] (I s),
  .idx s 12 s,
  .mem (aI q (0+s*1)) (I f),
  .idx s 12 s,
  .mem (du q (0+s*1) (I (bU f 1))) undef,
  .call 15 [I y,I 12] (I t),
  .idx t 12 t,
  .mem (aI q (0+t*1)) (I e),
  .idx t 12 t,
  .mem (du q (0+t*1) (I (bU e 1))) undef]
 .normal [1,2,7,11,12,13] [I x,I y,.slice c a b,vP d 0,vP q 0,I 0]:=cT
theorem r6c (a b d q r:Nat)(c:Option Addr)(x y:Int):aY 6 [11] 0 2 [1,2,7,11,12,13] [I x,I y,.slice c a b,vP d 0,vP q 0,I r]
 [bu (dx r 12) U]
 .normal [1,2,7,11,12,13] [I x,I y,.slice c a b,vP d 0,vP q 0,I r]:=cT
theorem r6d (a b d q r:Nat)(c:Option Addr)(x y:Int):aY 6 [11] 0 99 [1,2,7,11,12,13] [I x,I y,.slice c a b,vP d 0,vP q 0,I r]
 [bu (dx r 12) O]
 (.exit 2) [1,2,7,11,12] [I x,I y,.slice c a b,vP d 0,vP q 0]:=cT
theorem r6e (a b d q r:Nat)(c:Option Addr)(x y:Int):aY 6 [11,2] 0 1 [1,2,7,11,12,13] [I x,I y,.slice c a b,vP d 0,vP q 0,I r]
 []
 .normal [1,2,7,11,12,13,14] [I x,I y,.slice c a b,vP d 0,vP q 0,I r,I 0]:=cT
theorem r6f (d c e f q r j a b:Nat)(x y z:Int)(h g:Int):aY 6 [11,2,1] 0 99 [1,2,7,11,12,13,14] [I x,I y,vL d 0 c e,vP f 0,vP q 0,I r,I j]
 ((rp 3 (.bool (dx j c)) U ([bu (dx j 60) U,
  .idx j c j,
  .mem (aI d (0+j*1)) (I z),
  .call 18 [I z] (.tuple #[I a,I b]),
  bu (rk a r) U,
  .idx b 12 b,
  .mem (aI q (0+b*1)) (I h),
  .idx r 12 r,
  .mem (aI q (0+r*1)) (I g),
  .idx b 12 b,
  fQ,
  .mem (du q (0+b*1) (I (bU h g))) undef])))
 .normal [1,2,7,11,12,13,14] [I x,I y,vL d 0 c e,vP f 0,vP q 0,I r,I (bU j 1)]:=cT
theorem r6g (d c e f q r j a b:Nat)(x y z:Int):aY 6 [11,2,1] 0 99 [1,2,7,11,12,13,14] [I x,I y,vL d 0 c e,vP f 0,vP q 0,I r,I j]
 ((rp 3 (.bool (dx j c)) U ([bu (dx j 60) U,
  .idx j c j,
  .mem (aI d (0+j*1)) (I z),
  .call 18 [I z] (.tuple #[I a,I b]),
  bu (rk a r) O])))
 .normal [1,2,7,11,12,13,14] [I x,I y,vL d 0 c e,vP f 0,vP q 0,I r,I (bU j 1)]:=cT
theorem r6h (a b d q r j:Nat)(c:Option Addr)(x y:Int):aY 6 [11,2,1] 0 99 [1,2,7,11,12,13,14] [I x,I y,.slice c a b,vP d 0,vP q 0,I r,I j]
 ((rp 3 (.bool (dx j a)) O ([jT])))
 (.exit 4) [1,2,7,11,12,13] [I x,I y,.slice c a b,vP d 0,vP q 0,I r]:=cT
theorem r6i (a b d q r j:Nat)(c:Option Addr)(x y:Int):aY 6 [11,2,1] 0 99 [1,2,7,11,12,13,14] [I x,I y,.slice c a b,vP d 0,vP q 0,I r,I j]
 ((rp 3 (.bool (dx j a)) U ([bu (dx j 60) O])))
 (.exit 4) [1,2,7,11,12,13] [I x,I y,.slice c a b,vP d 0,vP q 0,I r]:=cT
theorem r6j (a b d q r:Nat)(c:Option Addr)(x y:Int):aY 6 [11] 3 99 [1,2,7,11,12,13] [I x,I y,.slice c a b,vP d 0,vP q 0,I r]
 []
 .normal [1,2,7,11,12,13] [I x,I y,.slice c a b,vP d 0,vP q 0,I (bU r 1)]:=cT
theorem r6k (a b d q:Nat)(c:Option Addr)(x y:Int):cV 6 12 14 [1,2,7,11,12] [I x,I y,.slice c a b,vP d 0,vP q 0]
 []
 .normal [1,2,7,11,12,17,18] [I x,I y,.slice c a b,vP d 0,vP q 0,I 0,I 0]:=cT
theorem r6l (a b e q j:Nat)(d:Option Addr)(x y n c:Int):aY 6 [14] 0 99 [1,2,7,11,12,17,18] [I x,I y,.slice d a b,vP e 0,vP q 0,I n,I j]
 [bu (dx j 12) U,
  .idx j 12 j,
  .mem (aI q (0+j*1)) (I c)]
 .normal [1,2,7,11,12,17,18] [I x,I y,.slice d a b,vP e 0,vP q 0,I (bU n c),I (bU j 1)]:=cT
theorem r6m (a b d q j:Nat)(c:Option Addr)(x y n:Int):aY 6 [14] 0 99 [1,2,7,11,12,17,18] [I x,I y,.slice c a b,vP d 0,vP q 0,I n,I j]
 [bu (dx j 12) O]
 (.exit 6) [1,2,7,11,12,17] [I x,I y,.slice c a b,vP d 0,vP q 0,I n]:=cT
theorem r6n (c d b q a:Nat)(e:Option Addr)(x y n:Int):cV 6 15 18 [1,2,7,11,12,17] [I x,I y,.slice e c d,vP b 0,vP q 0,I n]
 (.call 12 [vP b 0,kI ⟨pT0.toArray⟩] (.tuple #[.agg #[ei,ei,ei,I 0],I 3,I 0])::jF [Z ei,Z ei,Z ei,Z (I 0)] a::rJ a 0 [ei,ei,ei,I 0]::jT::jT::.mem (aI a 2) ei::(rp 4 (.bool O) O ([])))
 .normal [1,2,7,11,12,17,19] [I x,I y,.slice e c d,vP b 0,vP q 0,I n,vP a 0]:=cT
theorem r6o (b c h q a s t:Nat)(d:Option Addr)(x y n er:Int)(sd l k e j i:ByteArray)(f g rv:ab):cV 6 18 19 [1,2,7,11,12,17,19] [I x,I y,.slice d b c,vP h 0,vP q 0,I n,vP a 0]
 [.call 15 [I x,I 12] (I s),
  .call 16 [I s] (kI sd),
  .val (AL ⟨TW.toArray⟩ sd) (kI l),
  .val (AL l ⟨Zk.toArray⟩) (kI k),
  .call 15 [I y,I 12] (I t),
  .call 16 [I t] (kI e),
  .val (AL k e) (kI j),
  .val (AL j ⟨pT3.toArray⟩) (kI i),
  .call 12 [vP h 0,kI i] (.tuple #[.agg #[f,g,rv,I 0],I er,I 0]),
  rJ a 0 [f,g,rv,I 0]]
 .normal [7,12,17,19,20] [.slice d b c,vP q 0,I n,vP a 0,I er]:=cT
theorem r6p (a b q d:Nat)(c:Option Addr)(n er:Int):cV 6 19 99 [7,12,17,19,20] [.slice c a b,vP q 0,I n,vP d 0,I er]
 [bu (ji n 1000) U]
 .ret [6] [.bool (rk er 9)]:=cT
theorem r6q (a b q d:Nat)(c:Option Addr)(n er:Int):cV 6 19 99 [7,12,17,19,20] [.slice c a b,vP q 0,I n,vP d 0,I er]
 [bu (ji n 1000) O,
  bu (rk er 9) U]
 .ret [6] [.bool (ji (ly n (Qk O a 60)) 20000)]:=cT
theorem r6r (g h q f a b:Nat)(i c:Option Addr)(n er:Int)(d e rv:ab):cV 6 19 27 [7,12,17,19,20] [.slice i g h,vP q 0,I n,vP f 0,I er]
 (bu (ji n 1000) O::bu (rk er 9) O::vT 4 f (.agg #[d,e,rv,I 0])::.call 17 [.agg #[d,e,rv,I 0],I er] (.tuple #[.slice c a b,.bool U])::(rp 5 (.bool O) O ([bu (xL a n) O])))
 .normal [12,22,24] [vP q 0,.slice c a b,I 0]:=cT
theorem r6s (q b a d j v:Nat)(c:Int):aY 6 [27] 0 99 [12,22,24] [vP q 0,vL b 0 a d,I j]
 (bu (dx j a) U::.idx j a j::.mem (aI b (0+j*1)) (I v)::(rp 3 (.bool (dx v 0)) O (.idx j a j::bu (dx v 0) O::.mem (aI b (0+j*1)) (I v)::bu (dx v 0) O::bu (dx v 0) O::(rp 3 (.bool (ji v 11)) O ((rp 10 (.bool (ji j 0)) O ([bu (ji v 11) O,
  bu (ji j 0) O,
  bu (ji v 11) O,
  jT,
  .idx j a j,
  .mem (aI b (0+j*1)) (I v),
  .idx v 12 v,
  .mem (aI q (0+v*1)) (I c),
  .idx v 12 v,
  .mem (du q (0+v*1) (I (cf c 1))) undef])))))))
 .normal [12,22,24] [vP q 0,vL b 0 a d,I (bU j 1)]:=cT
theorem r6t (q b a d j v u:Nat)(c:Int)(e:Nat):aY 6 [27] 0 99 [12,22,24] [vP q 0,vL b 0 a d,I j]
 (bu (dx j a) U::.idx j a j::.mem (aI b (0+j*1)) (I v)::(rp 3 (.bool (dx v 0)) O (.idx j a j::bu (dx v 0) O::.mem (aI b (0+j*1)) (I v)::bu (dx v 0) O::bu (dx v 0) O::(rp 3 (.bool (ji v 11)) O ((rp 4 (.bool (ji j 0)) U (.idx (cf j 1) a e::bu (ji j 0) U::.mem (aI b (0+e*1)) (I u)::(rp 3 (.bool (ji j 0)) U ([.idx j a j,
  bu (ji j 0) U,
  .mem (aI b (0+j*1)) (I v),
  bu (ji j 0) U,
  bu (ji v 11) O,
  bu (ji j 0) U,
  bu (ji v 11) O,
  bu (ji u v) O,
  .idx j a j,
  .mem (aI b (0+j*1)) (I v),
  .idx v 12 v,
  .mem (aI q (0+v*1)) (I c),
  .idx v 12 v,
  .mem (du q (0+v*1) (I (cf c 1))) undef])))))))))
 .normal [12,22,24] [vP q 0,vL b 0 a d,I (bU j 1)]:=cT
theorem r6y (q a b j:Nat)(c:Option Addr):aY 6 [27] 0 99 [12,22,24] [vP q 0,.slice c a b,I j]
 [bu (dx j a) O]
 (.exit 8) [12] [vP q 0]:=cT
theorem r6z (q:Nat):cV 6 28 29 [12] [vP q 0]
 []
 .normal [12,25] [vP q 0,I 0]:=cT
theorem r6A (q j:Nat):aY 6 [29] 0 99 [12,25] [vP q 0,I j]
 [bu (dx j 12) U,
  .idx j 12 j,
  .mem (aI q (0+j*1)) (I 0),
  jT]
 .normal [12,25] [vP q 0,I (bU j 1)]:=cT
theorem r6B (q j:Nat):aY 6 [29] 0 99 [12,25] [vP q 0,I j]
 [bu (dx j 12) O]
 (.exit 10) [12] [vP q 0]:=cT
theorem r6C (q:Nat):cV 6 30 99 [12] [vP q 0]
 []
 .ret [6] [.bool U]:=cT
theorem ok6:jJ 6 3 [6]=U:=aM
theorem IK:(dq (bX 6)).length<=99:=af aM
theorem Wd:jz 6 [3]:=aM
theorem Wi:jz 6 [11]:=aM
theorem Wh:jz 6 [14]:=aM
theorem N7:jz 6 [27]:=aM
theorem We:jz 6 [29]:=aM
theorem tX:jz 6 [11,2,1]:=aM
theorem YU:jD (cj 6 [11]) 2=Z (3,(cj 6 [11,2])):=aM
theorem YR:kT (fp 6) (cj 6 [11]) (cj 6 [11,2]) 2 3=U:=aM
def sumTo (c:Nat->Nat):Nat->Nat
 |0=>0
 |k+1=>sumTo c k+c k
def Gv (E:List (Nat×Nat))(k:Nat):Nat:=(E.filter λe=>e.2==k).length
theorem le_sumTo {c:Nat->Nat}{x:Nat}:∀{k:Nat},x<k->c x<=sumTo c k
 |k+1,h=>by
  show c x<=sumTo c k+c k
  by_cases a:x=k
  .rw[a];omega
  .have :=le_sumTo (c:=c) (x:=x) (k:=k) ai;omega
theorem YE {c:Nat->Nat}{k M:Nat}:∀{E:List (Nat×Nat)},(∀e∈E,e.2=k->c e.1<=M)->(E.map λe=>if e.2=k then c e.1 else 0).sum<=Gv E k*M
 | [],_=>Nat.zero_le _
 |e::E,h=>by
  have a:=YE (c:=c) (k:=k) (M:=M) (E:=E) λx b=>h x (List.mem_cons_of_mem _ b)
  rw[List.map_cons,List.sum_cons];unfold Gv at a⊢;rw[List.filter_cons]
  by_cases he:e.2=k
  .have :=h e List.mem_cons_self he;rw[bh he,bh (by simpa using he),List.length_cons,Nat.add_mul,Nat.one_mul];omega
  .rw[bH he,bH (by simpa using he)];omega
theorem YF:∀{E:List (Nat×Nat)} (k:Nat),sumTo (Gv E) k<=E.length
 | [],k=>by
  induction k with
  |zero=>exact aj _
  |succ k a=>exact a
 |e::E,k=>by
  have h:∀k,sumTo (Gv (e::E)) k=sumTo (Gv E) k+if e.2<k then 1 else 0:=by
   intro k
   induction k with
   |zero=>rfl
   |succ k a=>
    have d:Gv (e::E) k=Gv E k+if e.2=k then 1 else 0:=by
     unfold Gv;rw[List.filter_cons]
     by_cases he:e.2=k
     .rw[bh he,bh (by simpa using he)];rfl
     .rw[bH he,bH (by simpa using he)];rfl
    show sumTo (Gv (e::E)) k+Gv (e::E) k=sumTo (Gv E) k+Gv E k+_
    rw[a,d]
    by_cases c:e.2=k
    .rw[bh c,bH ai,bh ai];omega
    .rw[bH c]
     by_cases b:e.2<k
     .rw[bh b,bh ai];omega
     .rw[bH b,bH ai];omega
  have a:=YF (E:=E) k;rw[h,List.length_cons]
  split<;>omega
theorem GV {E:List (Nat×Nat)}{c i:Nat->Nat}(a:∀b,c b=i b+(E.map λe=>if e.2=b then c e.1 else 0).sum)(d:∀e∈E,e.1<e.2):∀k,sumTo c k<=sumTo i k*2^sumTo (Gv E) k
 |0=>Nat.zero_le _
 |k+1=>by
  have f:=GV a d k;have m:=YE (c:=c) (k:=k) (M:=sumTo c k) (E:=E) λe j h=>le_sumTo (by have :=d e j;omega)
  have l:Gv E k+1<=2^Gv E k:=Nat.lt_two_pow_self
  show sumTo c k+c k<=(sumTo i k+i k)*2^(sumTo (Gv E) k+Gv E k)
  rw[a k,Nat.pow_add];generalize 2^Gv E k=q at*;generalize g:2^sumTo (Gv E) k=p at*;have hp1:1<=p:=by rw[<-g];exact Nat.one_le_two_pow
  calc sumTo c k+(i k+_)<=sumTo c k+(i k+Gv E k*sumTo c k):=ai
   _=(Gv E k+1)*sumTo c k+i k:=by rw[Nat.add_mul,Nat.one_mul];omega
   _<=q*(sumTo i k*p)+i k*(p*q):=Nat.add_le_add (Nat.mul_le_mul l f) (Nat.le_mul_of_pos_right _ (Nat.mul_pos hp1 ai))
   _=(sumTo i k+i k)*(p*q):=by rw[Nat.add_mul,Nat.mul_comm q,Nat.mul_assoc]
theorem u9 (c:Nat->Nat):((List.range 12).map c).sum=sumTo c 12:=by
 show c 0+(c 1+(c 2+(c 3+(c 4+(c 5+(c 6+(c 7+(c 8+(c 9+(c 10+(c 11+0)))))))))))=0+c 0+c 1+c 2+c 3+c 4+c 5+c 6+c 7+c 8+c 9+c 10+c 11
 omega
theorem TF {E:List (Nat×Nat)}{f:List Nat}(a:∀e∈E,e.1<e.2/\e.2<12)(h:∀x∈f,x<12)(j:f.length<=2)(g:E.length<=60):(iw E 12 f).length<=2^61:=by
 have d:=GV (c:=λb=>(iw E 12 f).count b) (i:=λb=>f.count b) (HR a h) (λe k=>(a e k).1) 12;rw[<-u9,<-u9,vY (JR a h),vY h]at d;have l:=Nat.pow_le_pow_right (n:=2) eJ (bV (YF (E:=E) 12) g);exact bV d (bV (Nat.mul_le_mul j l) eJ)
def FL (c:Nat->Nat):List ab:=(List.range 12).map λi=>I (c i:Int)
theorem uf {c:Nat->Nat}{i:Nat}(h:i<12):(FL c)[i]?=Z (I (c i:Int)):=by
 unfold FL;rw[List.getElem?_map,List.getElem?_range h];rfl
theorem yZ {c:Nat->Nat}:(FL c).length=12:=by unfold FL;simp
theorem CL {c:Nat->Nat}{b z:Nat}:(FL c).set b (I z)=FL λi=>if i=b then z else c i:=by
 refine List.ext_getElem (by simp[yZ]) λk d a=>?_
 simp only[List.getElem_set,FL,List.getElem_map,List.getElem_range]
 by_cases e:b=k
 .rw[bh e,bh e.symm]
 .rw[bH e,bH λh=>e h.symm]
theorem uE.ext{B S:Nat->Prop}{m m':Mem}{xs:List Int}{v:ab}(h:uE B xs m v)(k:Kp m m' S)(a:∀b,B b->¬S b):uE B xs m' v:=h.imp id λh=>(aW (jj I) 1).ext h k a
def eO (us:List Int):List (Nat×Nat):=(us.take 60).map im
section
variable {K:fE}{m:Mem}{BU:Nat->Prop}
theorem ZT {a:List Int}{j:Nat}(h:j<(eO a).length):j<a.length/\j<60:=by
 unfold eO at h;rw[List.length_map,List.length_take]at h;omega
theorem ae8 (cm:Calm m){g:List Int}{u:Option Addr}{k s q A:Nat}{x y:Int}{c i:Nat->Nat}{t0:Tm}(hx:uE BU g m (.slice u g.length k))(mS:∀z∈g,Eu z)(hB:∀b,BU b->b≠q)(hw:Own m q)(W:A<12)(hc:∀b,c b=i b+((eO g).map λe=>if e.2=b then c e.1 else 0).sum)(hE:∀e∈eO g,e.1<e.2/\e.2<12)(Gs:∀b,b<12->c b<=2^61)
  (R:∀b j,b<12->nP (eO g) c i A j b<=2^61)
  (ob:Obj m q 0 (FL (nP (eO g) c i A 0)))(h0:bj [1,2,7,11,12,13,14] t0=[I x,I y,.slice u g.length k,vP s 0,vP q 0,I (A:Int),I 0]):
  ∃J F,uT K (fp 6) (cj 6 [11,2,1]) 100000000000000 ⟨t0,m,[]⟩ (.exit 4) ⟨J,F,[]⟩/\bj [1,2,7,11,12,13] J=[I x,I y,.slice u g.length k,vP s 0,vP q 0,I A]/\Kp m F (λb=>b=q)/\Obj F q 0 (FL (nP (eO g) c i A (eO g).length)):=by
 have hel:(eO g).length=min g.length 60:=by unfold eO;rw[List.length_map,List.length_take];omega
 obtain⟨e,J,F,he,wN,rfl,n,k1,o1⟩:=eN (K:=K) (nt:=fp 6) (a:=cj 6 [11,2,1]) (eO g).length
  (Inv:=λj tm M=>bj [1,2,7,11,12,13,14] tm=[I x,I y,.slice u g.length k,vP s 0,vP q 0,I A,I j]/\Kp m M (λb=>b=q)/\Obj M q 0 (FL (nP (eO g) c i A j)))
  (dm:=λe tm M=>e=.exit 4/\bj [1,2,7,11,12,13] tm=[I x,I y,.slice u g.length k,vP s 0,vP q 0,I A]/\Kp m M (λb=>b=q)/\Obj M q 0 (FL (nP (eO g) c i A (eO g).length)))
  (by
   rintro j tm M L ⟨n,t,r⟩
   left
   obtain⟨D,G⟩:=ZT L;obtain⟨pl,c',ex,lx⟩:=(hx.ext t hB).ld D;cases ex;have T:(eO g)[j]=im g[j]:=(List.getElem_map (f:=im) (l:=g.take 60) (h:=L)).trans (congrArg im List.getElem_take);obtain⟨a,b,Ay⟩:∃a b,im g[j]=(a,b):=⟨_,_,rfl⟩;have cF:=hE _ (List.getElem_mem L);have ZC:=c18 (K:=K) (m:=M) (mS _ (List.getElem_mem D));have P:=λd=>Tp (E:=eO g) (c:=c) (i:=i) (A:=A) (b:=d) L
   rw[T,Ay]at cF P;rw[Ay]at ZC;have H:b<12:=cF.2
   by_cases w:a=A
   .obtain⟨Q,N⟩:∃Q,Q=nP (eO g) c i A j:=⟨_,rfl⟩;have V:Q A=c A:=by rw[N];exact ado hc hE
    have B:(λd=>if d=b then Q b+c A else Q d)=nP (eO g) c i A (j+1):=by
     funext d
     rw[P d,<-N]
     by_cases hd:d=b
     .rw[bh hd,bh ⟨hd.symm,w⟩,hd]
     .rw[bH hd,bH λh=>hd h.1.symm];rfl
    have hQb:Q b<=2^61:=by rw[N];exact R b j H
    have hcA:=Gs A W;rw[<-N]at r;have lb:aI q (0+b*1) M=Z (I (Q b:Int),M):=by rw[Nat.zero_add,Nat.mul_one];exact aO r (uf H)
    have lA:aI q (0+A*1) M=Z (I (Q A:Int),M):=by rw[Nat.zero_add,Nat.mul_one];exact aO r (uf W)
    obtain⟨M2,e2,o2,k2⟩:=gj (o:=b) (I (Q b+c A:Nat)) r ((hw.ext t).may _ _) (by rw[yZ];exact H);have X:bU (Q b:Int) (Q A:Int)=((Q b+c A:Nat):Int):=by rw[V,qy ⟨ai,ai⟩];omega
    have HO:du q (0+b*1) (I (bU (Q b:Int) (Q A:Int))) M=Z (undef,M2):=by rw[X,Nat.zero_add,Nat.mul_one];exact e2
    rw[CL,B]at o2;obtain⟨v,C,p⟩:=aL (K:=K) (m:=M) (m':=M2) tX (r6f pl g.length k s q A j a b x y g[j] (Q b) (Q A)) n (.rp (FM D)<|.cond (dT (nX (j:=60)) G)<|.idx rfl D<|.mem lx<|.call ZC<|.cond (by rw[w];exact congrArg ab.bool (by rw[my];exact Cb rfl))<|.idx rfl H<|.mem lb<|.idx rfl W<|.mem lA<|.idx rfl H<|.mem (aJ (cm.ext t).gd)<|.mem HO .nil);rw[add1 ai]at p;exact⟨v,M2,C,p,t.trans k2 λ_ _ h=>h,o2⟩
   .have B:nP (eO g) c i A (j+1)=nP (eO g) c i A j:=by
     funext d
     rw[P d,bH λh=>w h.2];rfl
    obtain⟨v,C,p⟩:=aL (K:=K) (m:=M) (m':=M) tX (r6g pl g.length k s q A j a b x y g[j]) n (.rp (FM D)<|.cond (dT (nX (j:=60)) G)<|.idx rfl D<|.mem lx<|.call ZC<|.cond (congrArg ab.bool (by rw[my];exact yz ai)) .nil);rw[add1 ai]at p;exact⟨v,M,C,p,t,B▸r⟩)
  (by
   rintro tm M ⟨n,t,r⟩
   by_cases h:g.length<=60
   .have S:(eO g).length=g.length:=ai;rw[S]at n;obtain⟨v,C,p⟩:=aL (K:=K) (m:=M) (m':=M) tX (r6h g.length k s q A g.length u x y) n (.rp (SF _)<|.cond rfl .nil);exact⟨_,v,M,iq,C,rfl,p,t,r⟩
   .have S:(eO g).length=60:=ai;rw[S]at n;obtain⟨v,C,p⟩:=aL (K:=K) (m:=M) (m':=M) tX (r6i g.length k s q A 60 u x y) n (.rp (FM ai)<|.cond (dF (nX (j:=60))) .nil);exact⟨_,v,M,iq,C,rfl,p,t,r⟩)
  (tm:=t0) (m:=m) ⟨h0,.refl _ _,ob⟩ ai
 exact⟨J,F,wN,n,k1,o1⟩
theorem ZX (cm:Calm m){d:List Int}{g:Option Addr}{f k q:Nat}{x y:Int}{c i:Nat->Nat}{t0:Tm}(W:uE BU d m (.slice g d.length f))(T:∀z∈d,Eu z)(E:∀b,BU b->b≠q)(X:Own m q)(C:∀b,c b=i b+((eO d).map λe=>if e.2=b then c e.1 else 0).sum)(D:∀e∈eO d,e.1<e.2/\e.2<12)(Gs:∀b,b<12->c b<=2^61)
  (u:∀A b j,b<12->nP (eO d) c i A j b<=2^61)(Q:Obj m q 0 (FL i))(h0:bj [1,2,7,11,12,13] t0=[I x,I y,.slice g d.length f,vP k 0,vP q 0,I 0]):
  ∃p n,uT K (fp 6) (cj 6 [11]) 100000000000000 ⟨t0,m,[]⟩ (.exit 2) ⟨p,n,[]⟩/\bj [1,2,7,11,12] p=[I x,I y,.slice g d.length f,vP k 0,vP q 0]/\Kp m n (λb=>b=q)/\Obj n q 0 (FL c):=by
 have v:nP (eO d) c i 0 0=i:=funext λb=>ahK
 have J7:nP (eO d) c i 12 0=c:=funext λb=>YK C D
 obtain⟨e,p,n,he,L,rfl,o,k1,S⟩:=eN (K:=K) (nt:=fp 6) (a:=cj 6 [11]) 12
  (Inv:=λr tm M=>bj [1,2,7,11,12,13] tm=[I x,I y,.slice g d.length f,vP k 0,vP q 0,I r]/\Kp m M (λb=>b=q)/\Obj M q 0 (FL (nP (eO d) c i r 0)))
  (dm:=λe tm M=>e=.exit 2/\bj [1,2,7,11,12] tm=[I x,I y,.slice g d.length f,vP k 0,vP q 0]/\Kp m M (λb=>b=q)/\Obj M q 0 (FL c))
  (by
   rintro r tm M B ⟨o,l,s⟩
   left
   obtain⟨ta,J,ea⟩:=aU (K:=K) (m:=M) (m':=M) (r6c d.length f k q r g x y) o (.cond (dT (nX (j:=12)) B) .nil);obtain⟨tb,H,eb⟩:=aU (K:=K) (m:=M) (m':=M) (r6e d.length f k q r g x y) ea .nil;obtain⟨tc,M2,t,ec,V,R⟩:=ae8 (K:=K) (cm.ext l) (W.ext l E) T E (X.ext l) B C D Gs (u r) s eb;obtain⟨N,G,F⟩:=aU (K:=K) (m:=M2) (m':=M2) (r6j d.length f k q r g x y) ec .nil;rw[add1 ai]at F;have w:nP (eO d) c i r (eO d).length=nP (eO d) c i (r+1) 0:=funext λb=>YJ
   exact⟨N,M2,(aC.cut J (aC.uz YU YR (aC.cut H (aC.fC t (aC.done (af aM)))) (.inl rfl) (aC.last G (af aM)))).code Wi,F,l.trans V λ_ _ h=>h,w▸R⟩)
  (by
   rintro tm M ⟨o,l,s⟩;obtain⟨P,cN,cA⟩:=aL (K:=K) (m:=M) (m':=M) Wi (r6d d.length f k q 12 g x y) o (.cond (dF (nX (j:=12)) ai) .nil);exact⟨_,P,M,iq,cN,rfl,cA,l,J7▸s⟩)
  (tm:=t0) (m:=m) ⟨h0,.refl _ _,v.symm▸Q⟩ ai
 exact⟨p,n,L,o,k1,S⟩
theorem ZW {b:List Int}{g:Option Addr}{f i q:Nat}{x y:Int}{c:Nat->Nat}{t0:Tm}(C:sumTo c 12<=2^61)(v:Obj m q 0 (FL c))(A:bj [1,2,7,11,12,17,18] t0=[I x,I y,.slice g b.length f,vP i 0,vP q 0,I 0,I 0]):
  ∃l,uT K (fp 6) (cj 6 [14]) 100000000000000 ⟨t0,m,[]⟩ (.exit 6) ⟨l,m,[]⟩/\bj [1,2,7,11,12,17] l=[I x,I y,.slice g b.length f,vP i 0,vP q 0,I (sumTo c 12:Int)]:=by
 have s:∀{j:Nat},j<=12->sumTo c j<=sumTo c 12:=λ{j} h=>by
  obtain⟨d,t⟩:∃d,12=j+d:=⟨12-j,ai⟩;rw[t];clear t h
  induction d with
  |zero=>exact aj _
  |succ d z=>exact bV z (Nat.le_add_right _ _)
 obtain⟨e,l,B,D,u,rfl,rfl,k⟩:=eN (K:=K) (nt:=fp 6) (a:=cj 6 [14]) 12
  (Inv:=λj tm M=>M=m/\bj [1,2,7,11,12,17,18] tm=[I x,I y,.slice g b.length f,vP i 0,vP q 0,I (sumTo c j:Int),I j])
  (dm:=λe tm M=>e=.exit 6/\M=m/\bj [1,2,7,11,12,17] tm=[I x,I y,.slice g b.length f,vP i 0,vP q 0,I (sumTo c 12:Int)])
  (by
   rintro j tm M p ⟨rfl,k⟩
   left
   have w:aI q (0+j*1) M=Z (I (c j:Int),M):=by rw[Nat.zero_add,Nat.mul_one];exact aO v (uf p)
   obtain⟨o,r,n⟩:=aL (K:=K) (m:=M) (m':=M) Wh (r6l b.length f i q j g x y (sumTo c j) (c j)) k (.cond (dT (nX (j:=12)) p)<|.idx rfl p<|.mem w .nil);have F:=s (show j+1<=12 by omega);have E:sumTo c (j+1)=sumTo c j+c j:=rfl;rw[add1 ai,qy ⟨ai,ai⟩]at n;exact⟨o,M,r,rfl,n⟩)
  (by
   rintro tm M ⟨rfl,k⟩;obtain⟨o,r,n⟩:=aL (K:=K) (m:=M) (m':=M) Wh (r6m b.length f i q 12 g x y (sumTo c 12)) k (.cond (dF (nX (j:=12)) ai) .nil);exact⟨_,o,M,iq,r,rfl,rfl,n⟩)
  (tm:=t0) (m:=m) ⟨rfl,A⟩ ai
 exact⟨l,u,k⟩
end
def GN (xs:List Int):List Int:=(xs.filter λx=>decide ((im x).1<(im x).2)).map λx=>((12*(im x).1+(im x).2:Nat):Int)
theorem Td {a b:Nat}(d:a<12)(c:b<12):im (12*a+b:Nat)=(a,b):=by
 have h:pY (12*a+b:Nat) 144=12*a+b:=by unfold pY;rw[bH ai,Int.toNat_natCast];omega
 unfold im;rw[h];exact Prod.ext (by show _=a;omega) (by show _=b;omega)
theorem PE {xs:List Int}{z:Int}(h:z∈GN xs):∃a b,a<b/\b<12/\z=((12*a+b:Nat):Int):=by
 obtain⟨x,c,rfl⟩:=List.mem_map.1 h;exact⟨_,_,by simpa using(List.mem_filter.1 c).2,(EY x).2,rfl⟩
theorem ae0 {xs:List Int}:∀z∈GN xs,Eu z:=λz h=>by
 obtain⟨a,b,d,c,rfl⟩:=PE h;exact⟨ai,ai⟩
theorem RH {xs:List Int}:∀e∈eO (GN xs),e.1<e.2/\e.2<12:=λe h=>by
 obtain⟨z,d,rfl⟩:=List.mem_map.1 h;obtain⟨a,b,f,c,rfl⟩:=PE (List.mem_of_mem_take d);rw[Td ai c];exact⟨f,c⟩
theorem ZN {xs:List Int}:(GN xs).length<=xs.length:=by
 unfold GN;rw[List.length_map];exact List.length_filter_le ..
theorem Ul {xs:List Int}{j:Nat}(h:j<xs.length):GN (xs.take (j+1))=GN (xs.take j)++if(im xs[j]).1<(im xs[j]).2 then[((12*(im xs[j]).1+(im xs[j]).2:Nat):Int)]else[]:=by
 unfold GN;rw[List.take_succ_eq_append_getElem h,List.filter_append,List.map_append]
 congr 1
 by_cases hd:(im xs[j]).1<(im xs[j]).2
 .rw[bh hd,List.filter_cons,bh (by simpa using hd)];rfl
 .rw[bH hd,List.filter_cons,bH (by simpa using hd)];rfl
section
variable {K:fE}{m:Mem}{BX:Nat->Prop}
theorem ZM (g:Gd m){xs:List Int}{D:Option Addr}{u:Nat}{x y:Int}{t0:Tm}(hx:uE BX xs m (.slice D xs.length u))(V:∀x∈xs,Eu x)(hl:xs.length<2^44)(h0:bj [0,1,2,7,8] t0=[.slice D xs.length u,I x,I y,.slice none 0 0,I 0]):
  ∃C o k i,uT K (fp 6) (cj 6 [3]) 100000000000000 ⟨t0,m,[]⟩ (.exit 0) ⟨C,o,[]⟩/\bj [1,2,7] C=[I x,I y,.slice k (GN xs).length i]/\Kp m o eK/\uE (ik m o) (GN xs) o (.slice k (GN xs).length i):=by
 obtain⟨e,C,o,he,Q,rfl,l,w,k1,f,q,n⟩:=eN (K:=K) (nt:=fp 6) (a:=cj 6 [3]) xs.length
  (Inv:=λj tm M=>∃l,bj [0,1,2,7,8] tm=[.slice D xs.length u,I x,I y,l,I j]/\Kp m M eK/\∃f:Nat->Prop,(∀b,f b->m.next<=b/\b<M.next)/\AZ (jj I) 1 f M (GN (xs.take j)) l)
  (dm:=λe tm M=>e=.exit 0/\∃l,bj [1,2,7] tm=[I x,I y,l]/\Kp m M eK/\∃f:Nat->Prop,(∀b,f b->m.next<=b/\b<M.next)/\AZ (jj I) 1 f M (GN xs) l)
  (by
   rintro j tm M r ⟨l,w,p,f,q,n⟩
   left
   have gM:=g.ext p;obtain⟨G,c',ex,H⟩:=(hx.a9 p).ld r;cases ex;have F:=c18 (K:=K) (m:=M) (V _ (List.getElem_mem r));have E:=EY xs[j];have c:=Ul r;obtain⟨a,b,Ay⟩:∃a b,im xs[j]=(a,b):=⟨_,_,rfl⟩;rw[Ay]at F E c;have ha:a<12:=E.1;have d:b<12:=E.2;obtain⟨k,B,i,rfl⟩:=n.form
   by_cases h:a<b
   .have c:GN (xs.take (j+1))=GN (xs.take j)++[((12*a+b:Nat):Int)]:=by rw[c];show _++(if a<b then[((12*a+b:Nat):Int)]else[])=_;rw[bh h]
    have hz:bU (ly 12 a) b=((12*a+b:Nat):Int):=by
     rw[IT ⟨ai,ai⟩,qy ⟨ai,ai⟩];omega
    have hlen:(GN (xs.take j)).length<2^44:=by
     have h1:=ZN (xs:=xs.take j);rw[List.length_take]at h1;omega
    obtain⟨m3,W,TU,L,g6,k6,e7,X,P,vw,n7⟩:=n.add (t:=22) (x:=((12*a+b:Nat):Int)) (v:=I (12*a+b:Nat)) (B':=eK) gM g p rfl eJ q rfl (λ_ _ h=>h) (λ_ h=>h.elim) ⟨rfl,by simp[ab.cells,ab.oneCell']⟩ (.inr ⟨rfl,hlen⟩);obtain⟨T,R,S,rfl⟩:=P.form;rw[<-hz]at L;obtain⟨z,A,s⟩:=aL (K:=K) Wd (r6u G xs.length u B i j a b k x y xs[j] R S T M.next) w (.cond (FM r)<|.idx rfl r<|.mem H<|.call F<|.cond (FM h)<|.mem L<|.mem e7 .nil);rw[add1 ai]at s;refine⟨z,W,A,_,s,p.new X (N:=m.next) (aj _) λb d=>(q b d).1,λy=>f y\/eK y\/y=M.next+1,λb d=>?_,c▸P⟩;have n0:=p.next;rcases d with d|d|d
    .have :=q b d;omega
    .exact d.elim
    .omega
   .have c:GN (xs.take (j+1))=GN (xs.take j):=by rw[c];show _++(if a<b then[((12*a+b:Nat):Int)]else[])=_;rw[bH h,List.append_nil]
    obtain⟨z,A,s⟩:=aL (K:=K) (m:=M) (m':=M) Wd (r6v G xs.length u B i j a b k x y xs[j]) w (.cond (FM r)<|.idx rfl r<|.mem H<|.call F<|.cond (by rw[ah8,yz h]) .nil);rw[add1 ai]at s;exact⟨z,M,A,_,s,p,f,q,c▸n⟩)
  (by
   rintro tm M ⟨l,w,p,f,q,n⟩;rw[List.take_length]at n;obtain⟨k,B,i,rfl⟩:=n.form;obtain⟨z,A,s⟩:=aL (K:=K) (m:=M) (m':=M) Wd (r6w xs.length u B i xs.length D k x y) w (.cond (SF _) .nil);exact⟨_,z,M,iq,A,rfl,_,s,p,f,q,n⟩)
  (tm:=t0) (m:=m) ⟨_,h0,.refl _ _,eK,λ_ h=>h.elim,AZ.nil⟩ ai
 have J:uE (ik m o) (GN xs) o l:=.inr ((aW (jj I) 1).mono n.fin λb d=>q b d);obtain⟨k,i,rfl⟩:=J.form;exact⟨C,o,k,i,Q,w,k1,J⟩
end
theorem ab4 (l:List Nat):∃d:List Nat,af7 l=d.map ir/\d.Perm l/\d.Pairwise (·<=·):=by
 have f:=List.mergeSort_perm l λx y=>decide (x<=y)
 have e:(l.mergeSort λx y=>decide (x<=y)).Pairwise (·<=·):=by
  have :=List.pairwise_mergeSort (le:=λx y:Nat=>decide (x<=y)) (λa b c i g=>by
   have :=of_decide_eq_true i;have :=of_decide_eq_true g;exact Cb ai) (λa b=>by
   rw[Bool.or_eq_true,iU,iU];omega) l
  exact this.imp λh=>by simpa using h
 refine⟨l.mergeSort λx y=>decide (x<=y),?_,f,e⟩;refine Dx ((Dy _).1.trans (f.symm.map ir)) (Dy _).2 ?_;rw[List.pairwise_map];exact e.imp λh=>ab8 h
section
variable {K:fE}{m:Mem}{BS:Nat->Prop}
theorem YZ (g:Gd m){d:List Nat}{q r t:Nat}{t0:Tm}(hs:∀b∈d,b<12)(SU:d.Pairwise (·<=·))(hn:d.length<9000)(hL:(aW (jj I) 1).R BS (d.map Int.ofNat) m (vL r 0 d.length t))(hB:∀b,BS b->b≠q)(hw:Own m q)(ob:Obj m q 0 (FL λb=>d.count b))(h0:bj [12,22,24] t0=[vP q 0,vL r 0 d.length t,I 0]):
  ∃D B,uT K (fp 6) (cj 6 [27]) 100000000000000 ⟨t0,m,[]⟩ (.exit 8) ⟨D,B,[]⟩/\bj [12] D=[vP q 0]/\Kp m B (λb=>b=q)/\Obj B q 0 (FL λ_=>0):=by
 obtain⟨e,D,B,he,X,rfl,u,k1,o1⟩:=eN (K:=K) (nt:=fp 6) (a:=cj 6 [27]) d.length
  (Inv:=λj tm M=>bj [12,22,24] tm=[vP q 0,vL r 0 d.length t,I j]/\Kp m M (λb=>b=q)/\Obj M q 0 (FL λb=>(d.drop j).count b))
  (dm:=λe tm M=>e=.exit 8/\bj [12] tm=[vP q 0]/\Kp m M (λb=>b=q)/\Obj M q 0 (FL λ_=>0))
  (by
   rintro j tm M l ⟨u,y,A⟩
   left
   have N:=(aW (jj I) 1).ext hL y hB;have hlen:(d.map Int.ofNat).length=d.length:=List.length_map _;have ld:∀k (h:k<d.length),aI r (0+k*1) M=Z (I (d[k]:Int),M):=λk h=>by
    obtain⟨b,c,S,F⟩:=Jv N (λ_=>rfl) (j:=k) ai;rw[hlen]at S;cases S;rw[List.getElem_map]at F;exact F
   have p:=ld j l;obtain⟨v,E⟩:∃v,v=d[j]:=⟨_,rfl⟩;have w:v<12:=E▸hs _ (List.getElem_mem l);have T:d.drop j=v::d.drop (j+1):=by rw[E];exact List.drop_eq_getElem_cons l
   rw[<-E]at p;obtain⟨c,L⟩:∃c,c=(d.drop (j+1)).count v:=⟨_,rfl⟩;have Jk:(d.drop j).count v=c+1:=by rw[T,List.count_cons_self,L]
   have S4:c<=d.length:=by
    rw[L];exact bV List.count_le_length (by rw[List.length_drop];omega)
   have hQ:(λb=>if b=v then c else(d.drop j).count b)=λb=>(d.drop (j+1)).count b:=by
    funext b
    by_cases h:b=v
    .rw[bh h,h,L]
    .rw[bH h,T,List.count_cons_of_ne (λe=>h e.symm)]
   have P:aI q (0+v*1) M=Z (I (c+1:Nat),M):=by
    rw[Nat.zero_add,Nat.mul_one,<-Jk];exact aO A (uf w)
   obtain⟨M2,F,G,Q⟩:=gj (o:=v) (I c) A ((hw.ext y).may _ _) (by rw[yZ];exact w);have W:cf (c+1:Nat) 1=(c:Int):=by rw[yK ⟨ai,ai⟩];omega
   have V:du q (0+v*1) (I (cf (c+1:Nat) 1)) M=Z (undef,M2):=by rw[W,Nat.zero_add,Nat.mul_one];exact F
   rw[CL,hQ]at G;have f:(.bool (dx v 0):ab)=.bool O:=dF (nX (j:=0)) ai;have x:(.bool (ji v 11):ab)=.bool O:=dF (od (j:=11)) ai;rcases j with _|k
   .have n:(.bool (ji (0:Nat) 0):ab)=.bool O:=dF (od (i:=0) (j:=0)) ai;obtain⟨z,C,s⟩:=aL (K:=K) (m:=M) (m':=M2) N7 (r6s q r d.length t 0 v (c+1:Nat)) u
     (.cond (FM l)<|.idx rfl l<|.mem p<|.rp f<|.idx rfl l<|.cond f<|.mem p<|.cond f<|.cond f<|.rp x<|.rp n<|.cond x<|.cond n<|.cond x<|.cond rfl<|.idx rfl l<|.mem p<|.idx rfl w<|.mem P<|.idx rfl w<|.mem V .nil)
    rw[add1 ai]at s;exact⟨z,M2,C,s,y.trans Q λ_ _ h=>h,G⟩
   .have n:(.bool (ji (k+1:Nat) 0):ab)=.bool U:=dT (od (j:=0)) ai;have J:cf (k+1:Nat) 1=(k:Int):=by rw[yK ⟨ai,ai⟩];omega
    have H:k<d.length:=ai;have lk:=ld k H;have hle:d[k]<=v:=by rw[E];exact List.pairwise_iff_getElem.1 SU k (k+1) H l (Nat.lt_succ_self k)
    have hu:(.bool (ji (d[k]:Int) v):ab)=.bool O:=dF od ai;obtain⟨z,C,s⟩:=aL (K:=K) (m:=M) (m':=M2) N7 (r6t q r d.length t (k+1) v d[k] ((c+1:Nat):Int) k) u
     (.cond (FM l)<|.idx rfl l<|.mem p<|.rp f<|.idx rfl l<|.cond f<|.mem p<|.cond f<|.cond f<|.rp x<|.rp n<|.idx J H<|.cond n<|.mem lk<|.rp n<|.idx rfl l<|.cond n<|.mem p<|.cond n<|.cond x<|.cond n<|.cond x<|.cond hu<|.idx rfl l<|.mem p<|.idx rfl w<|.mem P<|.idx rfl w<|.mem V .nil)
    rw[add1 ai]at s;exact⟨z,M2,C,s,y.trans Q λ_ _ h=>h,G⟩)
  (by
   rintro tm M ⟨u,y,A⟩;rw[List.drop_length]at A;obtain⟨z,C,s⟩:=aL (K:=K) (m:=M) (m':=M) N7 (r6y q d.length t d.length (Z ⟨r,0,none⟩)) u (.cond (SF _) .nil);exact⟨_,z,M,iq,C,rfl,s,y,A⟩)
  (tm:=t0) (m:=m) ⟨h0,.refl _ _,ob⟩ ai
 exact⟨D,B,X,u,k1,o1⟩
theorem YA {q:Nat}{t0:Tm}(k:Obj m q 0 (FL λ_=>0))(n:bj [12,25] t0=[vP q 0,I 0]):
  ∃c,uT K (fp 6) (cj 6 [29]) 100000000000000 ⟨t0,m,[]⟩ (.exit 10) ⟨c,m,[]⟩/\bj [12] c=[vP q 0]:=by
 obtain⟨e,c,o,p,i,rfl,rfl,b⟩:=eN (K:=K) (nt:=fp 6) (a:=cj 6 [29]) 12
  (Inv:=λj tm M=>M=m/\bj [12,25] tm=[vP q 0,I j])
  (dm:=λe tm M=>e=.exit 10/\M=m/\bj [12] tm=[vP q 0])
  (by
   rintro j tm M g ⟨rfl,b⟩
   left
   have l:aI q (0+j*1) M=Z (I 0,M):=by rw[Nat.zero_add,Nat.mul_one];exact aO k (uf g)
   obtain⟨f,h,d⟩:=aL (K:=K) (m:=M) (m':=M) We (r6A q j) b (.cond (dT (nX (j:=12)) g)<|.idx rfl g<|.mem l<|.cond rfl .nil);rw[add1 ai]at d;exact⟨f,M,h,rfl,d⟩)
  (by
   rintro tm M ⟨rfl,b⟩;obtain⟨f,h,d⟩:=aL (K:=K) (m:=M) (m':=M) We (r6B q 12) b (.cond (dF (nX (j:=12)) ai) .nil);exact⟨_,f,M,iq,h,rfl,rfl,d⟩)
  (tm:=t0) (m:=m) ⟨rfl,n⟩ ai
 exact⟨c,i,b⟩
end
def tP (i j:Nat):List UInt8:=TW++iO i++Zk++iO j++pT3
theorem pSv (i j lo:Nat):∃e h f g d c a b,bO (sh lo) 20 (pD i j).sv=.agg #[.bool e,.slice h f g,d,c,a,b]/\bO (sh lo) 20 (.iface 108 (pD i j).sv)=.iface 108 (.agg #[.bool e,.slice h f g,d,c,a,b])/\([.bool e,.slice h f g,d,c,a,b].all (·.oneCell'))=U:=⟨_,_,_,_,_,_,_,_,rfl,rfl,rfl⟩
theorem aoK (lo:Nat):∃e h f g d c a b,bO (sh lo) 20 Gc.sv=.agg #[.bool e,.slice h f g,d,c,a,b]/\bO (sh lo) 20 (.iface 108 Gc.sv)=.iface 108 (.agg #[.bool e,.slice h f g,d,c,a,b])/\([.bool e,.slice h f g,d,c,a,b].all (·.oneCell'))=U:=⟨_,_,_,_,_,_,_,_,rfl,rfl,rfl⟩
section
variable {K:fE}{m:Mem}
theorem arD (Cv:∀d,QPs d->CkP K d)(Gm:∀i j,i<12->j<12->TL K ⟨(tP i j).toArray⟩ (pD i j).A (.iface 108 (pD i j).sv))(ag2:TL K ⟨pT0.toArray⟩ Gc.A (.iface 108 Gc.sv))(hK:B9 K)(k:Calm m)(hG:Gl m){W:Nat->Prop}{f mp pe pg cg q T V s t:Nat}{X:Option Addr}{x y n:Int}{es:List (Nat×Nat)}(hi:Eu x)(hy:Eu y)(L:s=pY x 12)(J:t=pY y 12)(hE:∀e∈es,e.1<e.2/\e.2<12)(hel:es.length<=60)
  (qB:uC m f mp)(hh:m.home<=f)(D:Kb W m mp pe pg cg (es.map gH))(EJ:¬W f){t0:Tm}(h0:bj [1,2,7,11,12,17] t0=[I x,I y,.slice X T V,vP f 0,vP q 0,I n]):
  ∃(B:Tm) (ma:Mem) (t1:Tm) (C:Mem) (b er:Nat) (p u rv:ab),xq K (fp 6) (vE (bX 6) 15 18) ⟨t0,m,[]⟩ .normal ⟨B,ma,[]⟩/\xq K (fp 6) (vE (bX 6) 18 19) ⟨B,ma,[]⟩ .normal ⟨t1,C,[]⟩/\bj [7,12,17,19,20] t1=[.slice X T V,vP q 0,I n,vP b 0,I er]/\Kp m C (λy=>y=f)/\
   ((er=0/\(iw es 12 [s,t]).length<=1000)\/(er=9/\(1000<(iw es 12 [s,t]).length\/20000<(iw es 12 [s,t]).length*es.length)))/\
   Obj C b 0 [p,u,rv,I 0]/\(er=0->CA (ik m C) (pCq s t).fe (af7 (iw es 12 [s,t])) 0 C (.agg #[p,u,rv,I 0])):=by
 have hs:s<12:=by rw[L];exact Nat.mod_lt _ eJ
 have ht:t<12:=by rw[J];exact Nat.mod_lt _ eJ
 have M0:=qB.1.lt;have ahG:∀M,Ev K 15 [I x,I 12] M (I s) M:=λM=>by rw[L];exact c15 (K:=K) (n:=12) hi eJ
 have ahF:∀M,Ev K 15 [I y,I 12] M (I t) M:=λM=>by rw[J];exact c15 (K:=K) (n:=12) hy eJ
 obtain⟨v,mA,eA,F,R,AA⟩:=anC (K:=K) (aq2 (YL (Cv _ (.inr rfl)) hG k D EJ) [] []) k hG qB hh ag2 aoK;have hv:=AA.2 eJ;subst hv;have nA:=F.next;obtain⟨mB0,g,P,eB,oB,E,nB⟩:=jV (k.ext F).gd [.slice none 0 0,.slice none 0 0,.slice none 0 0,I 0] [.slice none 0 0,.slice none 0 0,.slice none 0 0,I 0] rfl rfl;obtain⟨b,z⟩:∃b,b=mA.next:=⟨_,rfl⟩;rw[<-z]at P eB oB;have lB:aI b 2 g=Z (.slice none 0 0,g):=aO oB rfl;obtain⟨B,wa,ga⟩:=aU (K:=K) (m:=m) (m':=g) (tm:=t0) (r6n T V f q b X x y n) h0 (.call eA<|.mem P<|.mem eB<|.cond rfl<|.cond rfl<|.mem lB<|.rp rfl .nil);have KB:=F.aX E;have Q:=k.ext KB;have H:=(hG.ext F λc e=>by rw[show c=f from e];exact hh).a9 E;have hwB:Own g b:=(k.ext F).gd.own E ai;obtain⟨mC,eC,kC⟩:=c16 (K:=K) s Q.gd ai;obtain⟨mD,eD,kD⟩:=c16 (K:=K) t (Q.ext kC).gd ai;have a:=kC.aX kD;have S:=KB.aX a;have nD:=a.next;have ds:=C0 hs;have dt:=C0 ht;have l1:TW.length=31:=rfl;have l2:Zk.length=18:=rfl;have l3:pT3.length<99:=af rfl;have v1:=uw (l:=TW) (r:=iO s) ai;have v2:=uw (l:=TW++iO s) (r:=Zk) (by rw[List.length_append];omega);have v3:=uw (l:=TW++iO s++Zk) (r:=iO t) (by rw[List.length_append,List.length_append];omega);have v4:=uw (l:=TW++iO s++Zk++iO t) (r:=pT3) (by rw[List.length_append,List.length_append,List.length_append];omega);have apj:uC mD f mp:=⟨(R.1.a9 E).a9 a,by rw[a.base,E.base];exact R.2⟩;have DD:Kb W mD mp pe pg cg (es.map gH):=D.ext S λb z e=>EJ (e▸z)
 have hpg:=D.lt _ D.w.2.1;obtain⟨er,Zv,hq⟩:=afK (K:=K) (pg:=pg) (n:=mD.next) hs ht hel hE ai;obtain⟨v,mE,eE,kE,arU,AE⟩:=aru (K:=K) hK (YL (Cv _ (.inl ⟨s,t,rfl⟩)) (H.a9 a) (k.ext S) DD EJ) (ak9 hs ht) (k.ext S) (H.a9 a) apj (by rw[S.home];exact hh) (Gm s t hs ht) DD.at (λb z=>⟨DD.lt b z,λe=>EJ (e▸z)⟩) hq (pSv s t);obtain⟨p,u,rv,rfl,hy4⟩:=AE.form;have s8:b≠f:=ai;obtain⟨mF,eF,oF,kF⟩:=jW (o:=0) [p,u,rv,I 0] ((oB.a9 a).ext kE s8) (((hwB.ext a).ext kE).may _ _) (af rfl) hy4;obtain⟨t1,w1,g1⟩:=aU (K:=K) (m:=g) (m':=mF) (tm:=B) (r6o T V f q b s t X x y n er ⟨(iO s).toArray⟩ ⟨(TW++iO s).toArray⟩ ⟨(TW++iO s++Zk).toArray⟩ ⟨(iO t).toArray⟩ ⟨(TW++iO s++Zk++iO t).toArray⟩ ⟨(tP s t).toArray⟩ p u rv) ga
  (.call (ahG g)<|.call eC<|.val v1<|.val v2<|.call (ahF mC)<|.call eD<|.val v3<|.val v4<|.call eE<|.mem eF .nil)
 have nE:=kE.next;have nF:=kF.next;exact⟨B,g,t1,mF,b,er,p,u,rv,wa,w1,g1,(S.trans kE λ_ _ h=>h).new kF (N:=m.next) (aj _) (λc G=>by omega),Zv,oF,λh=>CA.mono (CA.ext (AE.1 h) kF λc G e=>by have :=G.1;omega) λc G=>⟨by have :=G.1;omega,by have :=G.2;omega⟩⟩
end
theorem UA {f:Nat×Nat->Nat}(E:List (Nat×Nat))(j:Nat):((E.take j).map f).sum<=(E.map f).sum:=by
 have h:((E.take j++E.drop j).map f).sum=(E.map f).sum:=by rw[List.take_append_drop]
 rw[List.map_append,List.sum_append]at h;omega
theorem UB {f g:Nat×Nat->Nat}(h:∀e,f e<=g e):∀E:List (Nat×Nat),(E.map f).sum<=(E.map g).sum
 | []=>aj _
 |e::E=>by
  have :=UB h E;have :=h e;simp only[List.map_cons,List.sum_cons];omega
theorem adn {E:List (Nat×Nat)}{c i:Nat->Nat}{A j b:Nat}(d:∀b,c b=i b+(E.map λe=>if e.2=b then c e.1 else 0).sum):nP E c i A j b<=c b:=by
 have a:=UA (f:=λe=>if e.2=b/\e.1=A then c A else 0) E j;have l:=ae9 (f:=λe=>if e.2=b/\e.1<A then c e.1 else 0) (g:=λe=>if e.2=b/\e.1=A then c A else 0) (E:=E);have k:=UB (f:=λe=>(if e.2=b/\e.1<A then c e.1 else 0)+if e.2=b/\e.1=A then c A else 0) (g:=λe=>if e.2=b then c e.1 else 0) (λe=>by
  by_cases h:e.2=b
  .by_cases a:e.1=A
   .rw[bH ai,bh ⟨h,a⟩,bh h,a];omega
   .rw[bH (show¬(e.2=b/\e.1=A)from λx=>a x.2),bh h]
    split<;>omega
  .rw[bH (λx=>h x.1),bH (λx=>h x.1)];omega) E
 unfold nP;rw[d b];omega
theorem RI (s t:Nat):(λb=>if b=t then(if t=s then 1 else 0)+1 else if b=s then 1 else 0)=λb=>[s,t].count b:=by
 funext b
 rw[List.count_cons,List.count_cons,List.count_nil]
 by_cases c:b=t
 .subst c
  by_cases a:b=s
  .subst a;simp
  .have d:¬s=b:=λe=>a e.symm
   simp[a,d]
 .have f:¬t=b:=λe=>c e.symm
  by_cases a:b=s
  .subst a;simp[c,f]
  .have d:¬s=b:=λe=>a e.symm
   simp[c,a,d,f]
section
variable {K:fE}{m:Mem}{BX:Nat->Prop}
set_option maxHeartbeats 1000000 in
theorem c6(hB:GK K)(Cv:∀d,QPs d->CkP K d)(Gm:∀i j,i<12->j<12->TL K ⟨(tP i j).toArray⟩ (pD i j).A (.iface 108 (pD i j).sv))(ag2:TL K ⟨pT0.toArray⟩ Gc.A (.iface 108 Gc.sv))(C:Calm m)(hG:Gl m){xs:List Int}{xv:ab}{x y:Int}(hx:uE BX xs m xv)(mS:∀x∈xs,Eu x)(hi:Eu x)(hy:Eu y)(hl:xs.length<2^44):
  ∃m',Ev K 6 [xv,I x,I y] m (.bool U) m'/\Calm m':=by
 obtain⟨la,lc,hxv⟩:=hx.form;subst hxv;obtain⟨s,hs⟩:∃s,s=pY x 12:=⟨_,rfl⟩;obtain⟨t,ht⟩:∃t,t=pY y 12:=⟨_,rfl⟩;have Xz:s<12:=by rw[hs];exact Nat.mod_lt _ eJ
 have Xv:t<12:=by rw[ht];exact Nat.mod_lt _ eJ
 obtain⟨t0,w0,g0⟩:=aU (K:=K) (m:=m) (m':=m) (tm:=entry [.slice la xs.length lc,I x,I y]) (r6a xs.length lc la x y) rfl .nil;obtain⟨t1,m1,R,Q,wN,g1,k1,hU⟩:=ZM (K:=K) C.gd hx mS hl g0;have E:=ae0 (xs:=xs);have M:=RH (xs:=xs);obtain⟨a,hus⟩:∃a,a=GN xs:=⟨_,rfl⟩;rw[<-hus]at g1 hU E M;obtain⟨m2,db,mp,pe,pg,cg,W,YC,k2,Lq,D2,aqi,uV,j8⟩:=c10 (K:=K) hB (C.ext k1) (hG.a9 k1) hU E;have D2:Kb W m2 mp pe pg cg ((eO a).map gH):=D2;have n1:=k1.next;have n2:=k2.next;have M0:=Lq.1.lt;have nR:=k1.aX k2;obtain⟨q,hq⟩:∃q,q=m2.next:=⟨_,rfl⟩;obtain⟨L,e3,o3,k3,n3,_⟩:=bz (C.ext nR).gd (FL λ_=>0);rw[<-hq]at e3 o3;have B:Own L q:=(C.ext nR).gd.own k3 ai;have ahG:Ev K 15 [I x,I 12] L (I (s:Int)) L:=by rw[hs];exact c15 (K:=K) (n:=12) hi eJ
 have ls:aI q (0+s*1) L=Z (I 0,L):=by rw[Nat.zero_add,Nat.mul_one];exact aO o3 (uf Xz)
 obtain⟨J,e4,o4,k4⟩:=gj (o:=s) (I ((1:Nat):Int)) o3 (B.may _ _) (by rw[yZ];exact Xz);rw[CL]at o4;have e4':du q (0+s*1) (I (bU 0 1)) L=Z (undef,J):=by rw[Nat.zero_add,Nat.mul_one];exact e4
 have ahF:Ev K 15 [I y,I 12] J (I (t:Int)) J:=by rw[ht];exact c15 (K:=K) (n:=12) hy eJ
 obtain⟨D,Jm⟩:∃D,D=if t=s then 1 else 0:=⟨_,rfl⟩;have ar9:D<=1:=by rw[Jm];split<;>omega
 have lt:aI q (0+t*1) J=Z (I (D:Int),J):=by rw[Nat.zero_add,Nat.mul_one,Jm];exact aO o4 (uf Xv)
 obtain⟨S,e5,o5,k5⟩:=gj (o:=t) (I ((D+1:Nat):Int)) o4 ((B.ext k4).may _ _) (by rw[yZ];exact Xv);rw[CL,Jm,RI]at o5;have e5':du q (0+t*1) (I (bU (D:Int) 1)) J=Z (undef,S):=by rw[add1 ai,Nat.zero_add,Nat.mul_one];exact e5
 obtain⟨t2,w2,g2⟩:=aU (K:=K) (m:=m1) (m':=S) (tm:=t1) (r6b a.length Q db q s t R x y 0 (D:Int)) g1
  (.call YC<|.cond rfl<|.mem e3<|.call ahG<|.idx rfl Xz<|.mem ls<|.idx rfl Xz<|.mem e4'<|.call ahF<|.idx rfl Xv<|.mem lt<|.idx rfl Xv<|.mem e5' .nil)
 have T:Kp m2 S (λb=>b=q):=k3.sC.trans (k4.trans k5 λ_ _ h=>h) λ_ _ h=>h
 have V:Kp m1 S eK:=k2.new T (N:=m1.next) (aj _) λb u=>by omega
 have CR:=k1.aX V;have hBq:∀b,ik m m1 b->b≠q:=λb u=>by have :=u.2;omega
 have X:Own S q:=(B.ext k4).ext k5;have hf:∀z∈[s,t],z<12:=λz hz=>by
  rcases aN.1 hz with rfl|hz
  .exact Xz
  .rw[List.mem_singleton.1 hz];exact Xv
 have hel:(eO a).length=min a.length 60:=by unfold eO;rw[List.length_map,List.length_take];omega
 have mn:=TF M hf (aj 2) ai;have sZ:=HR M hf;have cF:=JR M (k:=12) hf;have F:=(u9 λb=>(iw (eO a) 12 [s,t]).count b).symm.trans (vY cF);have h2:2<=(iw (eO a) 12 [s,t]).length:=by
  show 2<=([s,t]++iw (eO a) 11 _).length
  rw[List.length_append]
  show 2<=2+_
  omega
 obtain⟨l,hL⟩:∃l,l=iw (eO a) 12 [s,t]:=⟨_,rfl⟩;rw[<-hL]at mn sZ cF F h2;obtain⟨t3,H,hx3,g3,k6,o6⟩:=ZX (K:=K) (C.ext CR) (hU.a9 V) E hBq X (c:=λb=>l.count b) (i:=λb=>[s,t].count b) sZ M (λb _=>bV List.count_le_length mn) (λA b j _=>bV (adn sZ) (bV List.count_le_length mn)) o5 g2;obtain⟨t4,w4,g4⟩:=aU (K:=K) (m:=H) (m':=H) (r6k a.length Q db q R x y) g3 .nil;obtain⟨t5,hx5,g5⟩:=ZW (K:=K) (by rw[F];exact mn) o6 g4;rw[F]at g5;have f:Kp m2 H (λb=>b=q):=T.trans k6 λ_ _ h=>h
 have xh:Kp m H eK:=nR.new f (N:=m.next) (aj _) λb u=>by omega
 have hdq:db≠q:=ai;have hh:=hG.hn;have ab7:uC H db mp:=⟨Lq.1.ext f hdq,by rw[f.base];exact Lq.2⟩;obtain⟨ta,ma,t6,r,b,er,nv,kv,rv,wa,wb,g6,k7,Zv,o7,hA⟩:=arD (K:=K) Cv Gm ag2 hB.gi (C.ext xh) (hG.a9 xh) hi hy hs ht M ai ab7 (by rw[xh.home];omega) (D2.ext f λb u e=>by have :=D2.lt b u;omega) aqi g5;rw[<-hL]at Zv hA;have g:=(C.ext xh).ext k7;have fin:∀{m':Mem}{G:Tm},Calm m'->aC K (fp 6) (bX 6) 19 ⟨t6,r,[]⟩ .ret ⟨G,m',[]⟩->bj [6] G=[.bool U]->∃m',Ev K 6 [.slice la xs.length lc,I x,I y] m (.bool U) m'/\Calm m':=λ{m'} {G} hc hw hg=>⟨m',dE (vs:=[.bool U]) ok6 (aC.cut w0 (aC.fC wN (aC.cut w2 (aC.fC hx3 (aC.cut w4 (aC.fC hx5 (aC.cut wa (aC.cut wb hw)))))))) (.inr rfl) hg,hc⟩
 by_cases Gs:1000<l.length
 .have he9:er=9:=ai;obtain⟨G,P,gz⟩:=aU (K:=K) (m:=r) (m':=r) (r6p a.length Q q b R (l.length:Int) (er:Int)) g6 (.cond (dT (od (j:=1000)) Gs) .nil);exact fin g (aC.last P IK) (by rw[gz,he9,my];rfl)
 have nK:(.bool (ji (l.length:Int) 1000):ab)=.bool O:=dF (od (j:=1000)) Gs;rcases Zv with⟨rfl,_⟩|⟨rfl,Zv⟩
 .obtain⟨w,hns,qd,SU⟩:=ab4 l;have hnl:w.length=l.length:=qd.length_eq;have hlm:(w.map Int.ofNat).length=w.length:=List.length_map _;have A7:=hA rfl;rw[hns]at A7;have A7:CA (ik H r) (pCq s t).fe ((w.map Int.ofNat).map Ep) 0 r (.agg #[nv,kv,rv,I 0]):=by rw[List.map_map];exact A7
  have l7:fN 4 b 0 r=Z (.agg #[nv,kv,rv,I 0],r):=cL (vs:=[nv,kv,rv,I 0]) o7 rfl (af rfl);obtain⟨m8,sv,e8,k8,L8⟩:=c17 (K:=K) g.gd A7 ai;obtain⟨lp,c,rfl,_⟩:=Jv L8 (λ_=>rfl) (j:=0) ai;rw[hlm]at e8 L8;have n6:=f.next;have n7:=k7.next;have hql:=o6.lt;have ep:(.bool (xL (w.length:Int) (l.length:Int)):ab)=.bool O:=by rw[hnl,xK];simp
  obtain⟨t8,w8,g8⟩:=aU (K:=K) (m:=r) (m':=m8) (r6r a.length Q q b w.length c R (Z ⟨lp,0,none⟩) (l.length:Int) ((0:Nat):Int) nv kv rv) g6 (.cond nK<|.cond rfl<|.mem l7<|.call e8<|.rp rfl<|.cond ep .nil);have aql:(λb=>l.count b)=λb=>w.count b:=funext λb=>(qd.count_eq b).symm
  rw[aql]at o6;have hwq:=((X.ext k6).ext k7).ext k8;obtain⟨t9,m9,hx9,g9,k9,o9⟩:=YZ (K:=K) (g.ext k8).gd (λb u=>cF b (qd.mem_iff.1 u)) SU ai L8 (λb u e=>by have :=u.1;omega) hwq ((o6.ext k7 λe=>hdq e.symm).a9 k8) g8;obtain⟨tx,wx,gx⟩:=aU (K:=K) (m:=m9) (m':=m9) (r6z q) g9 .nil;obtain⟨ty,J3,gy⟩:=YA (K:=K) o9 gx;obtain⟨G,P,gz⟩:=aU (K:=K) (m:=m9) (m':=m9) (r6C q) gy .nil;exact fin ((g.ext k8).ext k9) (aC.cut w8 (aC.fC hx9 (aC.cut wx (aC.fC J3 (aC.last P IK))))) gz
 .have hmm:Qk O (a.length:Int) 60=((eO a).length:Int):=by rw[hel];exact Od a.length 60
  have arP:l.length*(eO a).length<=1000*60:=Nat.mul_le_mul ai ai;have hmul:ly (l.length:Int) ((eO a).length:Int)=((l.length*(eO a).length:Nat):Int):=by
   have h:=Int.natCast_mul l.length (eO a).length;generalize l.length*(eO a).length=p at*;rw[IT (by rw[<-h];exact⟨ai,ai⟩),h]
  obtain⟨G,P,gz⟩:=aU (K:=K) (m:=r) (m':=r) (r6q a.length Q q b R (l.length:Int) ((9:Nat):Int)) g6 (.cond nK<|.cond rfl .nil);exact fin g (aC.last P IK) (by rw[gz,hmm,hmul];exact congrArg (λv=>[v]) (dT (od (j:=20000)) (Zv.resolve_left Gs)))
end
end Go.AM
