/-
  What the claim stands on, part 8.
-/
import Derived.Test.YtgfppohfgconeaaGreatDoorG7
set_option linter.unusedVariables false
set_option linter.unusedSimpArgs false
open Go.Proofs.Tryz renaming prog → ae
open Go renaming Value → af, TypeId → aW
open Nat renaming le_of_ble_eq_true → ag, le_refl → ai, le_trans → cM
open Bool renaming and_eq_true → aj, false_eq_true → bu
open Option renaming map_eq_some_iff → ar, bind_eq_some_iff → ay, bind_some → cz, map_some → cR, isSome_iff_exists → qF
open List renaming all_eq_true → aV
namespace Go.AM
set_option maxRecDepth 1000000
open Go Go.Conc Go.Proofs
def uI (p:RS->Option (E×RS))(T:ByteArray)(ks:List Int):Nat->E->RS->Option (E×RS)
 |0,_,_=>none
 |n+1,l,s=>match lK T ks s with
  |some ((w,true),s1)=>match p s1 with
   |some (x,s2)=>uI p T ks n (.bin w.k l x) s2
   |none=>none
  |some ((_,false),s1)=>some (l,s1)
  |none=>none
def nS (p:RS->Option (E×RS))(T:ByteArray)(ks:List Int)(n:Nat)(s:RS):Option (E×RS):=match p s with
 |some (x,s1)=>uI p T ks n x s1
 |none=>none
def YZ (s:RS):Prop:=0<=s.d/\s.d<100
instance ai8 (s:RS):Decidable (YZ s):=by unfold YZ;infer_instance
def l8 (T:ByteArray)(ex fa:RS->Option (E×RS))(s:RS):Option (E×RS):=match lz T 18 s with
 |some (true,s1)=>match fa s1 with
  |some (x,s2)=>if YZ s2 then some (.pre 18 x,nu s2)else none
  |none=>none
 |some (false,s1)=>match lz T 5 s1 with
  |some (true,s2)=>match ex s2 with
   |some (x,s3)=>match iq T [6] w0 s3 with
    |some (_,s4)=>if YZ s4 then some (x,nu s4)else none
    |none=>none
   |none=>none
  |some (false,s2)=>match lK T [2,3,4,42,27,35] s2 with
   |some ((w,false),s3)=>some (.nil,DN 1 s3)
   |some ((w,true),s3)=>if w.k=2 then ZE T w.s s3 else some (.lit (Ng w),s3)
   |none=>none
  |none=>none
 |none=>none
def Ty (T:ByteArray)(p:RS->Option (E×RS))(s:RS):Option (E×RS):=match p s with
 |some (x,s1)=>match jq T [32] s1 with
  |some (true,s2)=>match jq T [34] s2 with
   |some (no,s3)=>match iq T [35] w0 s3 with
    |some (_,s4)=>some (.Dt x no,s4)
    |none=>none
   |none=>none
  |some (false,s2)=>match lK T [11,12,13,14,15,16] s2 with
   |some ((w,false),s3)=>some (x,s3)
   |some ((w,true),s3)=>match p s3 with
    |some (y,s4)=>some (.bin w.k x y,s4)
    |none=>none
   |none=>none
  |none=>none
 |none=>none
def Hg (T:ByteArray)(p:RS->Option (E×RS)):Nat->RS->Option (E×RS)
 |0,_=>none
 |n+1,s=>match lz T 34 s with
  |some (false,s1)=>p s1
  |some (true,s1)=>match Hg T p n s1 with
   |some (x,s2)=>if YZ s2 then some (.pre 34 x,nu s2)else none
   |none=>none
  |none=>none
def UK (T:ByteArray)(fa:RS->Option (E×RS))(n:Nat):RS->Option (E×RS):=nS (nS fa T [10,19,20] n) T [17,18,21] n
def DQ (T:ByteArray)(fa:RS->Option (E×RS))(n:Nat):RS->Option (E×RS):=nS (nS (Hg T (Ty T (UK T fa n)) n) T [23] n) T [37] n
def iJ (T:ByteArray):Nat->RS->Option (E×RS)
 |0,_=>none
 |n+1,s=>l8 T (DQ T (iJ T n) n) (iJ T n) s
def BH (T:ByteArray)(n:Nat)(s:RS):Option (E×RS):=DQ T (iJ T n) n s
section
variable {K:iK}{m:Mem}{r:Nat}{T:ByteArray}{s s':RS}
theorem ad9 (r q n c f:Nat)(x:af):bF (bN 164) (ax 164) 0 2 [0,1,2] [(vP r 0),(.func (.func f) #[(vP r 0)] #[]),(vL q 0 n c)]
 [.fT (.func (.func f) #[(vP r 0)] #[]) [] x]
 .normal [0,1,2,7] [(vP r 0),(.func (.func f) #[(vP r 0)] #[]),(vL q 0 n c),x]:=eF
theorem ad8 (r q n c f:Nat)(w:W)(x y:af)(aH so:Nat):bF (bN 164) (bh (ax 164) [2]) 0 99 [0,1,2,7] [(vP r 0),(.func (.func f) #[(vP r 0)] #[]),(vL q 0 n c),x]
 [.call 52 [(vP r 0),(vL q 0 n c)] (.tuple #[(mV w),(.bool true)]),
  cp yL aH,
  dV aH 0 (yM w),
  bm,
  .mem (aI aH 0) (vI w.k),
  .mem (fe (vP aH 0)) (vI (so:Int)),
  .mem di undef,
  .fT (.func (.func f) #[(vP r 0)] #[]) [] y,
  .mem (bS (vI (so:Int)) (vP aH 0) (dw ae 74 (vP aH 0))) undef,
  .val (fH ae 304 [(0,(vI w.k)),(1,x),(2,y)]) (.agg #[(vI w.k),x,y])]
 .normal [0,1,2,7] [(vP r 0),(.func (.func f) #[(vP r 0)] #[]),(vL q 0 n c),(.iface 304 (.agg #[(vI w.k),x,y]))]:=eF
theorem ad7 (r q n c f:Nat)(w:W)(x:af)(aH:Nat):bF (bN 164) (bh (ax 164) [2]) 0 99 [0,1,2,7] [(vP r 0),(.func (.func f) #[(vP r 0)] #[]),(vL q 0 n c),x]
 [.call 52 [(vP r 0),(vL q 0 n c)] (.tuple #[(mV w),(.bool false)]),
  cp yL aH,
  dV aH 0 (yM w),
  bV]
 .ret [6] [x]:=eF
theorem agH:jR 164 3 [6]=true:=bp
theorem VW:dT (ax 164) 2=some (0,(bh (ax 164) [2])):=bp
theorem LG:codeOk (bN 164) (bh (ax 164) [2])=true:=bp
theorem V':eI (bN 164) (ax 164) (bh (ax 164) [2]) 2 0=true:=bp
theorem akr (r:Nat)(x:af)(aH:Nat):Path 283 [(vP r 0)]
 [.mem (ao ae 120 3 [(0,(vI 10)),(1,(vI 19)),(2,(vI 20))]) (vL aH 0 3 3),
  .call 164 [(vP r 0),(.func (.func 291) #[(vP r 0)] #[]),(vL aH 0 3 3)] x]
 x:=cg
theorem akt (r:Nat)(x:af)(aH:Nat):Path 276 [(vP r 0)]
 [.mem (ao ae 120 3 [(0,(vI 17)),(1,(vI 18)),(2,(vI 21))]) (vL aH 0 3 3),
  .call 164 [(vP r 0),(.func (.func 283) #[(vP r 0)] #[]),(vL aH 0 3 3)] x]
 x:=cg
theorem akI (r:Nat)(x:af)(aH:Nat):Path 165 [(vP r 0)]
 [.mem (ao ae 120 1 [(0,(vI 23))]) (vL aH 0 1 1),
  .call 164 [(vP r 0),(.func (.func 227) #[(vP r 0)] #[]),(vL aH 0 1 1)] x]
 x:=cg
theorem akQ (r:Nat)(x:af)(aH:Nat):Path 124 [(vP r 0)]
 [.mem (ao ae 120 1 [(0,(vI 37))]) (vL aH 0 1 1),
  .call 164 [(vP r 0),(.func (.func 165) #[(vP r 0)] #[]),(vL aH 0 1 1)] x]
 x:=cg
theorem afI (r:Nat)(x:af):Path 291 [(vP r 0)]
 [.call 262 [(vP r 0),(vI 18)] (.bool true),
  bV,
  .call 291 [(vP r 0)] x,
  .call 264 [(vP r 0)] (.tuple #[]),
  .val (fH ae 310 [(0,(vI 18)),(1,x)]) (.agg #[(vI 18),x])]
 (.iface 310 (.agg #[(vI 18),x])):=cg
theorem afJ (r:Nat)(x:af)(w:W)(aH:Nat):Path 291 [(vP r 0)]
 [.call 262 [(vP r 0),(vI 18)] (.bool false),
  bm,
  .call 262 [(vP r 0),(vI 5)] (.bool true),
  bV,
  .call 124 [(vP r 0)] x,
  .mem (ao ae 120 1 [(0,(vI 6))]) (vL aH 0 1 1),
  .call 31 [(vP r 0),(vL aH 0 1 1)] (mV w),
  .call 264 [(vP r 0)] (.tuple #[])]
 x:=cg
theorem afL (r:Nat)(w:W)(aH a0:Nat):Path 291 [(vP r 0)]
 [.call 262 [(vP r 0),(vI 18)] (.bool false),
  bm,
  .call 262 [(vP r 0),(vI 5)] (.bool false),
  bm,
  .mem (ao ae 120 6 [(0,(vI 2)),(1,(vI 3)),(2,(vI 4)),(3,(vI 42)),(4,(vI 27)),(5,(vI 35))]) (vL aH 0 6 6),
  .call 52 [(vP r 0),(vL aH 0 6 6)] (.tuple #[(mV w),(.bool false)]),
  cp yL a0,
  dV a0 0 (yM w),
  bV,
  .call 53 [(vP r 0),(vI 1)] (.tuple #[])]
 .nilIface:=cg
theorem afK (r:Nat)(w:W)(x:af)(aH a0:Nat):Path 291 [(vP r 0)]
 [.call 262 [(vP r 0),(vI 18)] (.bool false),
  bm,
  .call 262 [(vP r 0),(vI 5)] (.bool false),
  bm,
  .mem (ao ae 120 6 [(0,(vI 2)),(1,(vI 3)),(2,(vI 4)),(3,(vI 42)),(4,(vI 27)),(5,(vI 35))]) (vL aH 0 6 6),
  .call 52 [(vP r 0),(vL aH 0 6 6)] (.tuple #[(mV w),(.bool true)]),
  cp yL a0,
  dV a0 0 (yM w),
  bm,
  .mem (aI a0 0) (vI w.k),
  aD (aZ w.k 2) true,
  .mem (aI a0 3) (aY w.s),
  .call 298 [(vP r 0),(aY w.s)] x]
 x:=cg
theorem afH (r:Nat)(w:W)(x:V)(aH a0:Nat):Path 291 [(vP r 0)]
 [.call 262 [(vP r 0),(vI 18)] (.bool false),
  bm,
  .call 262 [(vP r 0),(vI 5)] (.bool false),
  bm,
  .mem (ao ae 120 6 [(0,(vI 2)),(1,(vI 3)),(2,(vI 4)),(3,(vI 42)),(4,(vI 27)),(5,(vI 35))]) (vL aH 0 6 6),
  .call 52 [(vP r 0),(vL aH 0 6 6)] (.tuple #[(mV w),(.bool true)]),
  cp yL a0,
  dV a0 0 (yM w),
  bm,
  .mem (aI a0 0) (vI w.k),
  aD (aZ w.k 2) false,
  ie 5 a0 (mV w),
  .call 299 [(mV w)] (ck x)]
 (.iface 316 (ck x)):=cg
theorem afO (r:Nat)(x:af)(w:W)(no:Bool)(aH a0 cf:Nat):Path 263 [(vP r 0)]
 [.call 276 [(vP r 0)] x,
  .mem (ao ae 120 1 [(0,(vI 32))]) (vL aH 0 1 1),
  .call 30 [(vP r 0),(vL aH 0 1 1)] (.bool true),
  bV,
  .mem (ao ae 120 1 [(0,(vI 34))]) (vL a0 0 1 1),
  .call 30 [(vP r 0),(vL a0 0 1 1)] (.bool no),
  .mem (ao ae 120 1 [(0,(vI 35))]) (vL cf 0 1 1),
  .call 31 [(vP r 0),(vL cf 0 1 1)] (mV w),
  .val (fH ae 313 [(0,x),(1,(.bool no))]) (.agg #[x,(.bool no)])]
 (.iface 313 (.agg #[x,(.bool no)])):=cg
theorem afM (r:Nat)(x:af)(w:W)(aH a0 cf:Nat):Path 263 [(vP r 0)]
 [.call 276 [(vP r 0)] x,
  .mem (ao ae 120 1 [(0,(vI 32))]) (vL aH 0 1 1),
  .call 30 [(vP r 0),(vL aH 0 1 1)] (.bool false),
  bm,
  .mem (ao ae 120 6 [(0,(vI 11)),(1,(vI 12)),(2,(vI 13)),(3,(vI 14)),(4,(vI 15)),(5,(vI 16))]) (vL a0 0 6 6),
  .call 52 [(vP r 0),(vL a0 0 6 6)] (.tuple #[(mV w),(.bool false)]),
  cp yL cf,
  dV cf 0 (yM w),
  bV]
 x:=cg
theorem afN (r:Nat)(x y:af)(w:W)(aH a0 cf so:Nat):Path 263 [(vP r 0)]
 [.call 276 [(vP r 0)] x,
  .mem (ao ae 120 1 [(0,(vI 32))]) (vL aH 0 1 1),
  .call 30 [(vP r 0),(vL aH 0 1 1)] (.bool false),
  bm,
  .mem (ao ae 120 6 [(0,(vI 11)),(1,(vI 12)),(2,(vI 13)),(3,(vI 14)),(4,(vI 15)),(5,(vI 16))]) (vL a0 0 6 6),
  .call 52 [(vP r 0),(vL a0 0 6 6)] (.tuple #[(mV w),(.bool true)]),
  cp yL cf,
  dV cf 0 (yM w),
  bm,
  .mem (aI cf 0) (vI w.k),
  .mem (fe (vP cf 0)) (vI (so:Int)),
  .mem di undef,
  .call 276 [(vP r 0)] y,
  .mem (bS (vI (so:Int)) (vP cf 0) (dw ae 74 (vP cf 0))) undef,
  .val (fH ae 304 [(0,(vI w.k)),(1,x),(2,y)]) (.agg #[(vI w.k),x,y])]
 (.iface 304 (.agg #[(vI w.k),x,y])):=cg
theorem af1 (r:Nat)(x:af):Path 227 [(vP r 0)]
 [.call 262 [(vP r 0),(vI 34)] (.bool false),
  bV,
  .call 263 [(vP r 0)] x]
 x:=cg
theorem af2 (r:Nat)(x:af):Path 227 [(vP r 0)]
 [.call 262 [(vP r 0),(vI 34)] (.bool true),
  bm,
  .call 227 [(vP r 0)] x,
  .call 264 [(vP r 0)] (.tuple #[]),
  .val (fH ae 310 [(0,(vI 34)),(1,x)]) (.agg #[(vI 34),x])]
 (.iface 310 (.agg #[(vI 34),x])):=cg
theorem aiN (g:Gd m)(hG:iU m)(hr:lI m r T s){f:Nat}{p:RS->Option (E×RS)}(hp:Rd K T r f p E.val){q c:Nat}{ks:List Int}(hk:Obj m q 1 (ks.map vI))(hq:q≠r)(hl:ks.length<90000){n:Nat}(hn:n<90000){x:E}(h:nS p T ks n s=some (x,s')):
  ∃m',Ev K 164 [vP r 0,.func (.func f) #[vP r 0] #[],vL q 0 ks.length c] m x.val m'/\Kp m m' (atR r)/\lI m' r T s':=by
 unfold nS at h;rcases h1:p s with _|⟨x1,s1⟩<;>simp only[h1]at h
 ·cases h
 obtain⟨m1,e1,k1,yk⟩:=hp m s x1 s1 g hG hr h1;obtain⟨st,fp⟩:∃F0:E->List af,F0=fun y=>[vP r 0,.func (.func f) #[vP r 0] #[],vL q 0 ks.length c,y.val]:=⟨_,rfl⟩
 obtain⟨t0,h0,e0⟩:=bQ (K:=K) (m:=m) (m':=m1) (tm:=entry [vP r 0,.func (.func f) #[vP r 0] #[],vL q 0 ks.length c]) (ad9 r q ks.length c f x1.val) rfl (.fT (by exact e1) .nil);obtain⟨e,t1,m2,he,hx,kk,pA,rfl,hg⟩:=jP (K:=K) (nt:=bN 164) (a:=bh (ax 164) [2])
  (Inv:=fun n tm m'=>∃y s2,cH [0,1,2,7] tm=st y/\Kp m m' (atR r)/\lI m' r T s2/\uI p T ks n y s2=some (x,s'))
  (dA:=fun e tm m'=>Kp m m' (atR r)/\lI m' r T s'/\e= .ret/\cH [6] tm=[x.val])
  (by
   rintro n tm m2 ⟨y,s2,hg,kk,pA,hm⟩;rw[fp]at hg;have g2:=g.ext kk;have hG2:=hG.l9 kk hr.pos;cases n with
   |zero=>unfold uI at hm;cases hm
   |succ n=>
    unfold uI at hm;rcases h2:lK T ks s2 with _|⟨⟨w,b⟩,s3⟩<;>simp only[h2]at hm
    ·cases hm
    obtain⟨m3,e3,k3,oH⟩:=c52 (K:=K) (c:=c) g2 hG2 pA (hk.ext kk hq) hl h2;have g3:=g2.ext k3;obtain⟨m4,m5,e4,e5,o5,k5,n5⟩:=eH g3 w0.cells w.cells rfl rfl;have g5:=g3.ext k5;have zR:=oH.aM k5;have Ud:Kp m m5 (atR r):=(kk.trans k3 fun _ _ h=>h).aN k5;cases b with
    |false=>
     cases hm;obtain⟨t2,dk,dm⟩:=aU (K:=K) (m:=m2) (m':=m5) LG (ad7 r q ks.length c f w x.val _) hg (.call e3<| .mem e4<| .mem e5<| .cond rfl<| .nil);exact .inr ⟨.ret,t2,m5,(fun h=>by cases h),dk,Ud,zR,rfl,dm⟩
    |true=>
     rcases h3:p s3 with _|⟨z,s4⟩<;>simp only[h3]at hm
     ·cases hm
     obtain⟨m6,e6,k6,Po⟩:=hp m5 s3 z s4 g5 (hG.l9 Ud hr.pos) zR h3;have o6:=o5.ext k6 (fun e=>by have e:m3.next=r:=e;have :=oH.obj.lt;omega);have b6:(m6.blk m3.next).bw=(m5.blk m3.next).bw:=by rw[k6.blk _ o5.lt (fun e=>by have e:m3.next=r:=e;have :=oH.obj.lt;omega)]
     have e6':Ev K f ((#[vP r 0]:Array af).toList++[]++(#[]:Array af).toList) m5 z.val m6:=e6;have e8:=vw (o:=0) (t:=74) (v:=vI w.k) o6 rfl b6;have e9:=TL w.k y z;obtain⟨t2,dk,dm⟩:=aU (K:=K) (m:=m2) (m':=m6) LG (ad8 r q ks.length c f w y.val z.val _ _) hg (.call e3<| .mem e4<| .mem e5<| .cond rfl<| .mem (aJ fP rfl)<| .mem (dh _ _)<| .mem (bW fP)<| .fT e6'<| .mem e8<| .val e9<| .nil);exact .inl ⟨n,t2,m6,av,dk,.bin w.k y z,s4,by rw[dm,fp];rfl,Ud.trans k6 fun _ _ h=>h,Po,hm⟩)
  (n:=n) (k:=100000) (tm:=t0) (m:=m1) ⟨x1,s1,by rw[e0,fp],k1,yk,h⟩ av
 exact⟨m2,fg agH (aX.cut h0 (aX.sY VW V' hx bp)) (.inr rfl) hg,kk,pA⟩
theorem bP {m m1 m':Mem}{r:Nat}(k:Kp m m1 (atR r))(k':Kp m1 m' (atR r)):Kp m m' (atR r):=k.trans k' fun _ _ h=>h
theorem ag5 {f0 f:Nat}{p:RS->Option (E×RS)}(hp:Rd K T r f p E.val){k1 k2 k3:Int}{n:Nat}(hn:n<90000)
  (hP:∀x β,Path f0 [vP r 0] [.mem (ao ae 120 3 [(0,vI k1),(1,vI k2),(2,vI k3)]) (vL β 0 3 3),.call 164 [vP r 0,.func (.func f) #[vP r 0] #[],vL β 0 3 3] x] x)(hs:ig f0=false:=by rfl):Rd K T r f0 (nS p T [k1,k2,k3] n) E.val:=by
 intro m s x s' g hG hr h;obtain⟨m1,e1,o1,kk⟩:=ks3 g k1 k2 k3;obtain⟨m2,e2,IF,pA⟩:=aiN (K:=K) (c:=3) (g.ext kk) (hG.aM kk) (hr.aM kk) hp o1 (fun e=>by have :=hr.obj.lt;omega) cK hn h;exact⟨m2,ak (hP x.val m.next) (.mem e1<| .call e2 .nil) hs,kk.mo.trans IF fun _ _ h=>h,pA⟩
theorem zK {f0 f:Nat}{p:RS->Option (E×RS)}(hp:Rd K T r f p E.val){k1:Int}{n:Nat}(hn:n<90000)
  (hP:∀x β,Path f0 [vP r 0] [.mem (ao ae 120 1 [(0,vI k1)]) (vL β 0 1 1),.call 164 [vP r 0,.func (.func f) #[vP r 0] #[],vL β 0 1 1] x] x)(hs:ig f0=false:=by rfl):Rd K T r f0 (nS p T [k1] n) E.val:=by
 intro m s x s' g hG hr h;obtain⟨m1,e1,o1,kk⟩:=ks1 g k1;obtain⟨m2,e2,IF,pA⟩:=aiN (K:=K) (c:=1) (g.ext kk) (hG.aM kk) (hr.aM kk) hp o1 (fun e=>by have :=hr.obj.lt;omega) cK hn h;exact⟨m2,ak (hP x.val m.next) (.mem e1<| .call e2 .nil) hs,kk.mo.trans IF fun _ _ h=>h,pA⟩
theorem amI {fa:RS->Option (E×RS)}(hp:Rd K T r 291 fa E.val){n:Nat}(hn:n<90000):Rd K T r 276 (UK T fa n) E.val:=
 ag5 (ag5 hp hn (akr r)) hn (akt r)
theorem amK {p:RS->Option (E×RS)}(hp:Rd K T r 276 p E.val):Rd K T r 263 (Ty T p) E.val:=by
 intro m s x s' g hG hr h;unfold Ty at h;rcases h1:p s with _|⟨x1,s1⟩<;>simp only[h1]at h
 ·cases h
 obtain⟨m1,e1,k1,yk⟩:=hp m s x1 s1 g hG hr h1;have g1:=g.ext k1;have CK:=hG.l9 k1 hr.pos;rcases h2:jq T [32] s1 with _|⟨b,s2⟩<;>simp only[h2]at h
 ·cases h
 obtain⟨q2,m2,m3,e2,e3,k3,oH⟩:=rX (K:=K) g1 CK yk h2;have g3:=g1.ext k3;have S3:=CK.l9 k3 hr.pos;cases b with
 |true=>
  simp only at h;rcases h3:jq T [34] s2 with _|⟨no,s3⟩<;>simp only[h3]at h
  ·cases h
  obtain⟨q4,m4,m5,e4,e5,k5,zR⟩:=rX (K:=K) g3 S3 oH h3;have g5:=g3.ext k5;have hG5:=S3.l9 k5 hr.pos;rcases h4:iq T [35] w0 s3 with _|⟨w,s4⟩<;>simp only[h4]at h
  ·cases h
  obtain⟨q6,m6,m7,e6,e7,k7,Fl⟩:=Dp (K:=K) g5 hG5 zR h4;cases h;have e8:=acA no x1;exact⟨m7,ak (afO r x1.val w no q2 q4 q6) (.call e1<| .mem e2<| .call e3<| .cond rfl<| .mem e4<| .call e5<| .mem e6<| .call e7<| .val e8<| .nil),bP (bP (bP k1 k3) k5) k7,Fl⟩
 |false=>
  simp only at h;rcases h3:lK T [11,12,13,14,15,16] s2 with _|⟨⟨w,b⟩,s3⟩<;>simp only[h3]at h
  ·cases h
  obtain⟨q4,m4,m5,e4,e5,k5,zR⟩:=XJ (K:=K) g3 S3 oH h3;have g5:=g3.ext k5;have hG5:=S3.l9 k5 hr.pos;obtain⟨m6,m7,e6,e7,o7,k7,n7⟩:=eH g5 w0.cells w.cells rfl rfl;have Fl:=zR.aM k7;have OA:Kp m m7 (atR r):=(bP (bP k1 k3) k5).aN k7;have g7:=g5.ext k7;cases b with
  |false=>
   cases h;exact⟨m7,ak (afM r x.val w q2 q4 _) (.call e1<| .mem e2<| .call e3<| .cond rfl<| .mem e4<| .call e5<| .mem e6<| .mem e7<| .cond rfl<| .nil),OA,Fl⟩
  |true=>
   simp only at h;rcases h4:p s3 with _|⟨y,s4⟩<;>simp only[h4]at h
   ·cases h
   obtain⟨m8,e8,k8,hr8⟩:=hp m7 s3 y s4 (g5.ext k7) (hG5.aM k7) Fl h4;cases h;have dx:¬atR r m5.next:=fun e=>by have e:m5.next=r:=e;have :=zR.obj.lt;omega
   have o8:=o7.ext k8 dx;have b8:(m8.blk m5.next).bw=(m7.blk m5.next).bw:=by rw[k8.blk _ o7.lt dx]
   have e9:=vw (o:=0) (t:=74) (v:=vI w.k) o8 rfl b8;have pY:=TL w.k x1 y;exact⟨m8,ak (afN r x1.val y.val w q2 q4 _ _) (.call e1<| .mem e2<| .call e3<| .cond rfl<| .mem e4<| .call e5<| .mem e6<| .mem e7<| .cond rfl<| .mem (aJ fP rfl)<| .mem (dh _ _)<| .mem (bW fP)<| .call e8<| .mem e9<| .val pY<| .nil),bP OA k8,hr8⟩
theorem TF (g:Gd m)(hr:lI m r T s)(h:YZ s):∃m',Ev K 264 [vP r 0] m (.tuple #[]) m'/\Kp m m' (atR r)/\lI m' r T (nu s):=amJ g hr h
theorem aiD {p:RS->Option (E×RS)}(hp:Rd K T r 263 p E.val):∀n,Rd K T r 227 (Hg T p n) E.val
 |0=>by intro m s x s' g hG hr h;unfold Hg at h;cases h
 |n+1=>by
  intro m s x s' g hG hr h;unfold Hg at h;rcases h1:lz T 34 s with _|⟨b,s1⟩<;>simp only[h1]at h
  ·cases h
  obtain⟨m1,e1,k1,yk⟩:=acb (K:=K) g hG hr h1;have g1:=g.ext k1;have CK:=hG.l9 k1 hr.pos;cases b with
  |false=>
   obtain⟨m2,e2,k2,pA⟩:=hp m1 s1 x s' g1 CK yk h;exact⟨m2,ak (af1 r x.val) (.call e1<| .cond rfl<| .call e2<| .nil),bP k1 k2,pA⟩
  |true=>
   simp only at h;rcases h2:Hg T p n s1 with _|⟨y,s2⟩<;>simp only[h2]at h
   ·cases h
   obtain⟨m2,e2,k2,pA⟩:=aiD hp n m1 s1 y s2 g1 CK yk h2
   split at h
   ·rename_i hd;cases h;obtain⟨m3,e3,k3,oH⟩:=TF (K:=K) (g1.ext k2) pA hd;have e4:=TJ 34 y;exact⟨m3,ak (af2 r y.val) (.call e1<| .cond rfl<| .call e2<| .call e3<| .val e4<| .nil),bP (bP k1 k2) k3,oH⟩
   ·cases h
theorem aiQ {fa:RS->Option (E×RS)}(hp:Rd K T r 291 fa E.val){n:Nat}(hn:n<90000):Rd K T r 124 (DQ T fa n) E.val:=
 zK (zK (aiD (amK (amI hp hn)) n) hn (akI r)) hn (akQ r)
theorem aiA {ex fa:RS->Option (E×RS)}(hx:Rd K T r 124 ex E.val)(hp:Rd K T r 291 fa E.val):Rd K T r 291 (l8 T ex fa) E.val:=by
 intro m s x s' g hG hr h;unfold l8 at h;rcases h1:lz T 18 s with _|⟨b,s1⟩<;>simp only[h1]at h
 ·cases h
 obtain⟨m1,e1,k1,yk⟩:=acb (K:=K) g hG hr h1;have g1:=g.ext k1;have CK:=hG.l9 k1 hr.pos;cases b with
 |true=>
  simp only at h;rcases h2:fa s1 with _|⟨y,s2⟩<;>simp only[h2]at h
  ·cases h
  obtain⟨m2,e2,k2,pA⟩:=hp m1 s1 y s2 g1 CK yk h2
  split at h
  ·rename_i hd;cases h;obtain⟨m3,e3,k3,oH⟩:=TF (K:=K) (g1.ext k2) pA hd;have e4:=TJ 18 y;exact⟨m3,ak (afI r y.val) (.call e1<| .cond rfl<| .call e2<| .call e3<| .val e4<| .nil),bP (bP k1 k2) k3,oH⟩
  ·cases h
 |false=>
  simp only at h;rcases h2:lz T 5 s1 with _|⟨b,s2⟩<;>simp only[h2]at h
  ·cases h
  obtain⟨m2,e2,k2,pA⟩:=acb (K:=K) g1 CK yk h2;have g2:=g1.ext k2;have hG2:=CK.l9 k2 hr.pos;cases b with
  |true=>
   simp only at h;rcases h3:ex s2 with _|⟨y,s3⟩<;>simp only[h3]at h
   ·cases h
   obtain⟨m3,e3,k3,oH⟩:=hx m2 s2 y s3 g2 hG2 pA h3;have g3:=g2.ext k3;have S3:=hG2.l9 k3 hr.pos;rcases h4:iq T [6] w0 s3 with _|⟨w,s4⟩<;>simp only[h4]at h
   ·cases h
   obtain⟨q,m4,m5,e4,e5,k5,zR⟩:=Dp (K:=K) g3 S3 oH h4
   split at h
   ·rename_i hd;cases h;obtain⟨m6,e6,k6,Po⟩:=TF (K:=K) (g3.ext k5) zR hd;exact⟨m6,ak (afJ r x.val w q) (.call e1<| .cond rfl<| .call e2<| .cond rfl<| .call e3<| .mem e4<| .call e5<| .call e6<| .nil),bP (bP (bP (bP k1 k2) k3) k5) k6,Po⟩
   ·cases h
  |false=>
   simp only at h;rcases h3:lK T [2,3,4,42,27,35] s2 with _|⟨⟨w,b⟩,s3⟩<;>simp only[h3]at h
   ·cases h
   obtain⟨q,m3,m4,e3,e4,k4,WM⟩:=XJ (K:=K) g2 hG2 pA h3;have g4:=g2.ext k4;obtain⟨m5,m6,e5,e6,o6,k6,n6⟩:=eH g4 w0.cells w.cells rfl rfl;have g6:=g4.ext k6;have Po:=WM.aM k6;have kk6:Kp m m6 (atR r):=(bP (bP k1 k2) k4).aN k6;cases b with
   |false=>
    cases h;obtain⟨m7,e7,k7,Fl⟩:=c53 (K:=K) g6 Po 1;exact⟨m7,ak (afL r w q _) (.call e1<| .cond rfl<| .call e2<| .cond rfl<| .mem e3<| .call e4<| .mem e5<| .mem e6<| .cond rfl<| .call e7<| .nil),bP kk6 k7,Fl⟩
   |true=>
    simp only at h
    split at h
    ·rename_i hw;have b1:(.bool (aZ w.k 2):af)= .bool true:=by rw[cu,dZ hw]
     obtain⟨m7,e7,k7,Fl⟩:=amH (K:=K) g6 (hG.l9 kk6 hr.pos) Po h;exact⟨m7,ak (afK r w x.val q _) (.call e1<| .cond rfl<| .call e2<| .cond rfl<| .mem e3<| .call e4<| .mem e5<| .mem e6<| .cond rfl<| .mem (aJ fP rfl)<| .cond b1<| .mem (aJ fP rfl)<| .call e7<| .nil),bP kk6 k7,Fl⟩
    ·rename_i hw;have b1:(.bool (aZ w.k 2):af)= .bool false:=by rw[cu,eO hw]
     cases h;obtain⟨m7,e7,k7⟩:=amG (K:=K) g6 w;have e8:eJ 5 m4.next 0 m6=some (w.val,m6):=bY (vs:=w.cells) o6 rfl (ag rfl);have e9:=ak (K:=K) (m:=m) (m':=m7) (afH r w (Ng w) q m4.next) (.call e1<| .cond rfl<| .call e2<| .cond rfl<| .mem e3<| .call e4<| .mem e5<| .mem e6<| .cond rfl<| .mem (aJ fP rfl)<| .cond b1<| .mem e8<| .call e7<| .nil);exact⟨m7,e9,kk6.aN k7,Po.aM k7⟩
theorem aca:∀n,n<90000->Rd K T r 291 (iJ T n) E.val
 |0,_=>by intro m s x s' g hG hr h;unfold iJ at h;cases h
 |n+1,hn=>by
  intro m s x s' g hG hr h;unfold iJ at h;exact aiA (aiQ (aca n av) av) (aca n av) m s x s' g hG hr h
theorem MT {n:Nat}(hn:n<90000):Rd K T r 124 (BH T n) E.val:=aiQ (aca n hn) hn
end
end Go.AM
namespace Go.AM
set_option maxRecDepth 1000000
open Go Go.Conc Go.Proofs
theorem W4 (l:List af):∀(k:Nat) (arr:Array af),k+l.length<=arr.size->((l.zipIdx k).foldl (fun cs (x:af×Nat)=>cs.setIfInBounds x.2 x.1) arr).size=arr.size/\
  ∀i:Nat,((l.zipIdx k).foldl (fun cs (x:af×Nat)=>cs.setIfInBounds x.2 x.1) arr)[i]?=if k<=i/\i<k+l.length then l[i-k]? else arr[i]?:=by
 induction l with
 |nil=>intro k arr h;exact⟨rfl,fun i=>by rw[bT (by simp only[List.length_nil];omega)];rfl⟩
 |cons v l ih=>
  intro k arr h;simp only[List.length_cons]at h;rw[List.zipIdx_cons,List.foldl_cons];obtain⟨h1,h2⟩:=ih (k+1) (arr.setIfInBounds k v) (by simp;omega);refine⟨by rw[h1];simp,fun i=>?_⟩;rw[h2 i,Array.getElem?_setIfInBounds];simp only[List.length_cons]
  by_cases hk:k=i
  ·subst hk;rw[bT av,bL rfl,bL av,bL av];simp
  ·by_cases hi:k+1<=i/\i<k+1+l.length
   ·rw[bL hi,bL av];obtain⟨j,rfl⟩:∃j,i=k+1+j:=⟨i-(k+1),av⟩;rw[show k+1+j-(k+1)=j by omega,show k+1+j-k=j+1 by omega];rfl
   ·rw[bT hi,bT hk,bT av]
theorem bs1 {m:Mem}{t sz:Nat}{v:af}(ht:yH.contains (t,sz)=true)(hv:v.cells.size=sz)(hs:sz<=6):ao ae t 1 [(0,v)] m=some (vL m.next 0 1 1,m.alloc {kind:=1,sz:=sz,cs:=v.cells.toList.map some}):=by
 have :=aV.1 MV (t,sz) (by simpa using ht);unfold acE at this
 split at this
 ·rename_i e he;rw[aj,aj]at this;obtain⟨⟨h1,h0⟩,h2⟩:=this;have h1:dq ae e=some sz:=by simpa using h1
  split at h2
  ·rename_i i hi;rw[aj]at h2;obtain⟨z,hz⟩:=qF.1 h2.2;unfold ao;simp only[he,h1,hz];rw[bT (by rw[Nat.one_mul];intro h;exact h.elim (fun h=>by omega) (fun h=>absurd h dB))];unfold Instr.fill;simp only[Nat.zero_mul,Nat.zero_add,Nat.one_mul];rw[bT (by simp[hv])];unfold Instr.fill;simp only[cR];have key:=W4 v.cells.toList 0 ((Array.range sz).map (z.cells[·%z.cells.size]!)) (by simp[hv]);have e3:(Array.foldl (fun cs (x:af×Nat)=>match x with |(c,j)=>cs.setIfInBounds j c) ((Array.range sz).map (z.cells[·%z.cells.size]!)) v.cells.zipIdx)=v.cells:=by
    rw[show v.cells.zipIdx=(v.cells.toList.zipIdx).toArray from by apply Array.toList_inj.1;rw[Array.toList_zipIdx],List.foldl_toArray];apply Array.ext_getElem?;intro i;refine(key.2 i).trans ?_
    by_cases hi:i<sz
    ·rw[bL ⟨av,by simp[hv];omega⟩];simp
    ·rw[bT (by simp[hv];omega),Array.getElem?_eq_none (by simp;omega),Array.getElem?_eq_none av]
   exact congrArg (fun c:Array af=>some (vL m.next 0 1 1,m.alloc {kind:=1,sz:=sz,cs:=c.toList.map some})) e3
  ·cases h2
 ·cases this
theorem xx {m:Mem}(g:Gd m){t sz n b len:Nat}{x:af}{old new:List af}(ht:yH.contains (t,sz)=true)(ho:Obj m b sz old)(hol:old.length=len*sz)(hn:n≠0)(hx:oE m x sz n new)
  (h1:∀y∈new,y.oneCell'=true)(hb:len+n<=2^30):
  ∃m',cV ae #[t,t] (vL b 0 len len) x m=some (vL m.next 0 (len+n) eP,m')/\Obj m' m.next sz (old++new)/\Kp m m' eU/\m'.next=m.next+1:=by
 obtain⟨e,h3,h4,h0,h5⟩:=tE ht;have hf:=qW hx;have hl:=hx.Wy;have hlen:new.length=n*sz:=hx.1;have qt:(new.all (·.oneCell'))=true:=aV.2 h1;have e0:rL m sz len (vL b 0 len len)=some old:=qW (ho.sl hol (.inr rfl));obtain⟨k1,k2,k3⟩:=dC g (k:={kind:=1,sz:=sz,cs:=(old++new).map some}) (cs:=old++new) rfl rfl rfl;refine⟨_,?_,k1,k2,k3⟩;unfold cV;simp only[show(#[t,t]:Array aW)[0]?=some t from rfl,show(#[t,t]:Array aW)[1]?=some t from rfl,cz,h3,h4,hl,hf];have hI:len≠eP:=fun e=>absurd hb (by rw[e];intro h;exact absurd (cM (Nat.le_add_right _ _) h) dB)
 rw[bT (by rw[h5 _ av,hlen,qt];simp),bT hI,bT av];simp only[e0];rw[bL hol]
end Go.AM
namespace Go.AM
set_option maxRecDepth 1000000
open Go Go.Conc Go.Proofs
structure j6 (α:Type) where
 R:(Nat->Prop)->α->Mem->af->Prop
 mono:∀{B B':Nat->Prop}{x:α}{m:Mem}{v:af},R B x m v->(∀b,B b->B' b)->R B' x m v
 ext:∀{B S:Nat->Prop}{x:α}{m m':Mem}{v:af},R B x m v->Kp m m' S->(∀b,B b->¬S b)->R B x m' v
def fY (m m':Mem)(b:Nat):Prop:=m.next<=b/\b<m'.next
def jj {α:Type}(val:α->af):j6 α:=⟨fun _ x _ v=>v=val x,fun h _=>h,fun h _ _=>h⟩
def fq {α:Type}(Q:α->af->Prop):List α->List af->Prop
 | [],cs=>cs=[]
 |x::l,cs=>∃v rest,cs=v.cells.toList++rest/\Q x v/\fq Q l rest
theorem fq.mono{α:Type}{Q Q':α->af->Prop}:∀{l:List α}{cs:List af},fq Q l cs->(∀x v,x∈l->Q x v->Q' x v)->fq Q' l cs
 | [],cs,h,_=>h
 |x::l,cs,h,k=>by
  obtain⟨v,rest,e,q,h⟩:=h;exact⟨v,rest,e,k x v (List.mem_cons_self ..) q,h.mono fun x v hx=>k x v (List.mem_cons_of_mem _ hx)⟩
theorem fq.snoc{α:Type}{Q:α->af->Prop}{x:α}{v:af}(hq:Q x v):∀{l:List α}{cs:List af},fq Q l cs->fq Q (l++[x]) (cs++v.cells.toList)
 | [],cs,h=>by
  have h:cs=[]:=h;subst h;exact⟨v,[],cK,hq,rfl⟩
 |y::l,cs,h=>by
  obtain⟨u,rest,rfl,q,h⟩:=h;exact⟨u,rest++v.cells.toList,by rw[List.append_assoc],q,h.snoc hq⟩
def okV (sz:Nat)(v:af):Prop:=v.cells.size=sz/\∀y∈v.cells.toList,y.oneCell'=true
theorem fq.one{α:Type}{Q:α->af->Prop}{sz:Nat}:∀{l:List α}{cs:List af},fq (fun x v=>Q x v/\okV sz v) l cs->cs.length=l.length*sz/\∀y∈cs,y.oneCell'=true
 | [],cs,h=>by have h:cs=[]:=h;subst h;simp
 |x::l,cs,h=>by
  obtain⟨u,rest,rfl,q,h⟩:=h;obtain⟨h1,h2⟩:=h.one;refine⟨by simp[h1,q.2.1,Nat.add_mul];omega,fun y hy=>?_⟩;rcases List.mem_append.1 hy with hy|hy
  ·exact q.2.2 y hy
  ·exact h2 y hy
def bj {α:Type}(E:j6 α)(sz:Nat):j6 (List α) where
 R B l m v:=∃cs,oE m v sz l.length cs/\(∀b o n c,v=vL b o n c->B b)/\fq (fun x u=>E.R B x m u/\okV sz u) l cs
 mono:=by
  rintro B B' x m v ⟨cs,h1,h2,h3⟩ k;exact⟨cs,h1,fun b o n c e=>k b (h2 b o n c e),h3.mono fun x u _ q=>⟨E.mono q.1 k,q.2⟩⟩
 ext:=by
  rintro B S x m m' v ⟨cs,h1,h2,h3⟩ k hs;exact⟨cs,h1.ext k fun b o n c e=>hs b (h2 b o n c e),h2,h3.mono fun x u _ q=>⟨E.ext q.1 k hs,q.2⟩⟩
def Pj (K:iK)(T:ByteArray)(r:Nat)(f:Nat){α:Type}(p:RS->Option (α×RS))(E:j6 α):Prop:=
 ∀(m:Mem) (s:RS) (x:α) (s':RS),Gd m->iU m->lI m r T s->p s=some (x,s')->∃v m',Ev K f [vP r 0] m v m'/\Kp m m' (atR r)/\lI m' r T s'/\E.R (fY m m') x m' v
theorem Rd.toM{K:iK}{T:ByteArray}{r f:Nat}{α:Type}{p:RS->Option (α×RS)}{val:α->af}(h:Rd K T r f p val):Pj K T r f p (jj val):=by
 intro m s x s' g hG hr hp;obtain⟨m',e,k,Dv⟩:=h m s x s' g hG hr hp;exact⟨_,m',e,k,Dv,rfl⟩
def A4 {α:Type}(p:RS->Option (α×RS))(T:ByteArray):Nat->List α->RS->Option (List α×RS)
 |0,_,_=>none
 |n+1,acc,s=>match jq T [7] s with
  |some (true,s1)=>match p s1 with
   |some (x,s2)=>A4 p T n (acc++[x]) s2
   |none=>none
  |some (false,s1)=>some (acc,s1)
  |none=>none
def r7 {α:Type}(p:RS->Option (α×RS))(T:ByteArray)(n:Nat)(s:RS):Option (List α×RS):=match p s with
 |some (x,s1)=>A4 p T n [x] s1
 |none=>none
structure zz (f t:Nat):Prop where
 a:∀(r g:Nat) (v:af) (aH:Nat),bF (bN f) (ax f) 0 2 [0,1] [(vP r 0),(.func (.func g) #[(vP r 0)] #[])] [.fT (.func (.func g) #[(vP r 0)] #[]) [] v,.mem (ao ae t 1 [(0,v)]) (vL aH 0 1 1)] .normal [0,1,5] [(vP r 0),(.func (.func g) #[(vP r 0)] #[]),(vL aH 0 1 1)]
 x:∀(r g:Nat) (s:af) (aH:Nat),bF (bN f) (bh (ax f) [2]) 0 99 [0,1,5] [(vP r 0),(.func (.func g) #[(vP r 0)] #[]),s] [.mem (ao ae 120 1 [(0,(vI 7))]) (vL aH 0 1 1),.call 30 [(vP r 0),(vL aH 0 1 1)] (.bool false),.cond (.bool false) false] (.exit 0) [5] [s]
 n:∀(r g:Nat) (s s2 v:af) (aH a0:Nat),bF (bN f) (bh (ax f) [2]) 0 99 [0,1,5] [(vP r 0),(.func (.func g) #[(vP r 0)] #[]),s] [.mem (ao ae 120 1 [(0,(vI 7))]) (vL aH 0 1 1),.call 30 [(vP r 0),(vL aH 0 1 1)] (.bool true),.cond (.bool true) true,.fT (.func (.func g) #[(vP r 0)] #[]) [] v,.mem (ao ae t 1 [(0,v)]) (vL a0 0 1 1),.mem (cV ae #[t,t] s (vL a0 0 1 1)) s2] .normal [0,1,5] [(vP r 0),(.func (.func g) #[(vP r 0)] #[]),s2]
 e:∀(s:af),bF (bN f) (ax f) 3 99 [5] [s] [] .ret [4] [s]
 ok:jR f 2 [4]=true
 len:(du (ax f)).length<=99
 lp:dT (ax f) 2=some (0,(bh (ax f) [2]))
 ok2:codeOk (bN f) (bh (ax f) [2])=true
 lo:eI (bN f) (ax f) (bh (ax f) [2]) 2 0=true
 sp:ig f=false
theorem ag2:zz 166 98:=⟨fun _ _ _ _ _=>⟨bp,bp⟩,fun _ _ _ _ _=>⟨bp,bp⟩,fun _ _ _ _ _ _ _ _=>⟨bp,bp⟩,fun _ _=>⟨bp,bp⟩,bp,ag bp,bp,bp,bp,rfl⟩
theorem ag4:zz 123 131:=⟨fun _ _ _ _ _=>⟨bp,bp⟩,fun _ _ _ _ _=>⟨bp,bp⟩,fun _ _ _ _ _ _ _ _=>⟨bp,bp⟩,fun _ _=>⟨bp,bp⟩,bp,ag bp,bp,bp,bp,rfl⟩
theorem ag3:zz 125 28:=⟨fun _ _ _ _ _=>⟨bp,bp⟩,fun _ _ _ _ _=>⟨bp,bp⟩,fun _ _ _ _ _ _ _ _=>⟨bp,bp⟩,fun _ _=>⟨bp,bp⟩,bp,ag bp,bp,bp,bp,rfl⟩
theorem alj:zz 84 89:=⟨fun _ _ _ _ _=>⟨bp,bp⟩,fun _ _ _ _ _=>⟨bp,bp⟩,fun _ _ _ _ _ _ _ _=>⟨bp,bp⟩,fun _ _=>⟨bp,bp⟩,bp,ag bp,bp,bp,bp,rfl⟩
theorem ali:zz 86 93:=⟨fun _ _ _ _ _=>⟨bp,bp⟩,fun _ _ _ _ _=>⟨bp,bp⟩,fun _ _ _ _ _ _ _ _=>⟨bp,bp⟩,fun _ _=>⟨bp,bp⟩,bp,ag bp,bp,bp,bp,rfl⟩
theorem alh:zz 88 97:=⟨fun _ _ _ _ _=>⟨bp,bp⟩,fun _ _ _ _ _=>⟨bp,bp⟩,fun _ _ _ _ _ _ _ _=>⟨bp,bp⟩,fun _ _=>⟨bp,bp⟩,bp,ag bp,bp,bp,bp,rfl⟩
section
variable {K:iK}{m:Mem}{r:Nat}{T:ByteArray}{s s':RS}
theorem TE {α:Type}{E:j6 α}{f t sz g:Nat}{p:RS->Option (α×RS)}(L:zz f t)(ht:yH.contains (t,sz)=true)(Ui:sz<=6)(hp:Pj K T r g p E)(hE:∀{B x m v},E.R B x m v->okV sz v)(gd:Gd m)(hG:iU m)(hr:lI m r T s){n:Nat}(hn:n<90000){l:List α}(h:r7 p T n s=some (l,s')):
  ∃v m',Ev K f [vP r 0,.func (.func g) #[vP r 0] #[]] m v m'/\Kp m m' (atR r)/\lI m' r T s'/\(bj E sz).R (fY m m') l m' v/\0<l.length:=by
 unfold r7 at h;rcases h1:p s with _|⟨x1,s1⟩<;>simp only[h1]at h
 ·cases h
 obtain⟨v1,m1,e1,k1,yk,q1⟩:=hp m s x1 s1 gd hG hr h1;have g1:=gd.ext k1;have ov:=hE q1;have e2:=bs1 (m:=m1) ht ov.1 Ui;obtain⟨o2,k2,n2⟩:=dC g1 (k:={kind:=1,sz:=sz,cs:=v1.cells.toList.map some}) (cs:=v1.cells.toList) rfl rfl rfl;obtain⟨m2,xC⟩:∃m2,m2=m1.alloc {kind:=1,sz:=sz,cs:=v1.cells.toList.map some}:=⟨_,rfl⟩;rw[<-xC]at e2 o2 k2 n2;have e1':Ev K g ((#[vP r 0]:Array af).toList++[]++(#[]:Array af).toList) m v1 m1:=e1;obtain⟨F,hF⟩:∃F:af,F= .func (.func g) #[vP r 0] #[]:=⟨_,rfl⟩;obtain⟨t0,h0,e0⟩:=bQ (K:=K) (m:=m) (m':=m2) (tm:=entry [vP r 0,.func (.func g) #[vP r 0] #[]]) (L.a r g v1 m1.next) rfl (.fT e1'<| .mem e2 .nil);have Sq:=hr.obj.lt;have Dy:=k1.next;obtain⟨e,t1,m3,he,hx,kk,oH,rfl,v3,hg,q3,hl3⟩:=jP (K:=K) (nt:=bN f) (a:=bh (ax f) [2])
  (Inv:=fun n tm m'=>∃acc s2 sv b cs c,cH [0,1,5] tm=[vP r 0,F,sv]/\sv=vL b 0 acc.length c/\(c=eP\/c=acc.length)/\0<acc.length/\acc.length+n<=90001/\Kp m m' (atR r)/\lI m' r T s2/\fY m m' b/\Obj m' b sz cs/\
   fq (fun x u=>E.R (fun y=>fY m m' y/\y≠b) x m' u/\okV sz u) acc cs/\A4 p T n acc s2=some (l,s'))
  (dA:=fun e tm m'=>Kp m m' (atR r)/\lI m' r T s'/\e= .exit 0/\∃v,cH [5] tm=[v]/\(bj E sz).R (fY m m') l m' v/\0<l.length)
  (by
   rintro n tm m3 ⟨acc,s2,sv,b,cs,c,hg,rfl,hc,iV,hn,kk,oH,hb,ob,jB,hm⟩;rw[hF]at hg;have g3:=gd.ext kk;have S3:=hG.l9 kk hr.pos;cases n with
   |zero=>unfold A4 at hm;cases hm
   |succ n=>
    unfold A4 at hm;rcases h2:jq T [7] s2 with _|⟨bo,s3⟩<;>simp only[h2]at hm
    ·cases hm
    obtain⟨q,m4,m5,e4,e5,k5,zR⟩:=rX (K:=K) g3 S3 oH h2;have Ud:=bP kk k5;have Pt:¬atR r b:=fun e=>by have e:b=r:=e;have :=hb.1;omega
    have n35:=k5.next;cases bo with
    |false=>
     cases hm;obtain⟨t2,dk,dm⟩:=aU (K:=K) (m:=m3) (m':=m5) L.ok2 (L.x r g _ q) hg (.mem e4<| .call e5<| .cond rfl .nil);refine .inr ⟨.exit 0,t2,m5,(fun h=>by cases h),dk,Ud,zR,rfl,_,dm,?_,iV⟩;refine⟨cs,(ob.ext k5 Pt).sl jB.one.1 hc,fun b' o' n' c' e=>(by cases e;exact⟨hb.1,by have :=hb.2;omega⟩),jB.mono fun x u _ w=>⟨E.mono (E.ext w.1 k5 ?_) ?_,w.2⟩⟩
     ·rintro y ⟨hy,_⟩ e;have e:y=r:=e;have :=hy.1;omega
     ·rintro y ⟨hy,_⟩;exact⟨hy.1,by have :=hy.2;omega⟩
    |true=>
     simp only at hm;rcases h3:p s3 with _|⟨x,s4⟩<;>simp only[h3]at hm
     ·cases hm
     have g5:=g3.ext k5;obtain⟨v6,m6,e6,k6,Po,q6⟩:=hp m5 s3 x s4 g5 (S3.l9 k5 hr.pos) zR h3;have g6:=g5.ext k6;have ov:=hE q6;have e7:=bs1 (m:=m6) ht ov.1 Ui;obtain⟨o7,k7,n7⟩:=dC g6 (k:={kind:=1,sz:=sz,cs:=v6.cells.toList.map some}) (cs:=v6.cells.toList) rfl rfl rfl;obtain⟨m7,hm7⟩:∃m7,m7=m6.alloc {kind:=1,sz:=sz,cs:=v6.cells.toList.map some}:=⟨_,rfl⟩;rw[<-hm7]at e7 o7 k7 n7;have g7:=g6.ext k7;have e6':Ev K g ((#[vP r 0]:Array af).toList++[]++(#[]:Array af).toList) m5 v6 m6:=e6;have n56:=k6.next;have kk6:=bP Ud k6;have OA:Kp m m7 (atR r):=kk6.aN k7;have ob5:=ob.ext k5 Pt;have ob6:=ob5.ext k6 Pt;have ob7:=ob6.aM k7;have zP:oE m7 (vL m6.next 0 1 1) sz 1 v6.cells.toList:=o7.sl (by simp[ov.1]) (.inr rfl);have Bx:∃m8,cV ae #[t,t] (vL b 0 acc.length c) (vL m6.next 0 1 1) m7=some (vL m7.next 0 (acc.length+1) eP,m8)/\Obj m8 m7.next sz (cs++v6.cells.toList)/\Kp m7 m8 (fun y=>y=b)/\m8.next=m7.next+1:=by
      rcases hc with rfl|rfl
      ·exact Al (rest:=[]) g7 ht (by simpa using ob7) jB.one.1 (gd.own OA hb.1) zP ov.2 av
      ·obtain⟨m8,x1,x2,x3,x4⟩:=xx g7 ht ob7 jB.one.1 dB zP ov.2 av;exact⟨m8,x1,x2,x3.mo,x4⟩
     obtain⟨m8,e8,o8,k8,n8⟩:=Bx;have j8:=hb.1;have iW:=hb.2;have kk8:Kp m m8 (atR r):=OA.new k8 (ai _) fun y hy=>by rw[hy];exact j8
     have hr8:lI m8 r T s4:=(Po.aM k7).ext k8 (fun e=>by have e:r=b:=e;omega);obtain⟨t2,dk,dm⟩:=aU (K:=K) (m:=m3) (m':=m8) L.ok2 (L.n r g _ _ _ q m6.next) hg (.mem e4<| .call e5<| .cond rfl<| .fT e6'<| .mem e7<| .mem e8 .nil);have k38:Kp m3 m8 (fun y=>y=r\/y=b):=((k5.mono fun _ _ h=> .inl h).trans (k6.mono fun _ _ h=> .inl h) fun _ _ h=>h).aN k7|>.trans (k8.mono fun _ _ h=> .inr h) fun _ _ h=>h
     have OC:Kp m6 m8 (fun y=>y=b):=k7.mo.trans k8 fun _ _ h=>h
     have qn:E.R (fun y=>fY m m8 y/\y≠m7.next) x m8 v6:=by
      refine E.mono (E.ext q6 OC ?_) ?_
      ·rintro y ⟨y1,y2⟩ e;have e:y=b:=e;omega
      ·rintro y ⟨y1,y2⟩;exact⟨⟨av,av⟩,av⟩
     have qo:∀x u,E.R (fun y=>fY m m3 y/\y≠b) x m3 u->E.R (fun y=>fY m m8 y/\y≠m7.next) x m8 u:=by
      intro x u w;refine E.mono (E.ext w k38 ?_) ?_
      ·rintro y ⟨⟨y1,y2⟩,y3⟩ e;rcases e with e|e
       ·omega
       ·exact y3 e
      ·rintro y ⟨⟨y1,y2⟩,y3⟩;exact⟨⟨av,av⟩,av⟩
     exact .inl ⟨n,t2,m8,av,dk,acc++[x],s4,_,m7.next,_,eP,by rw[dm,hF],cK,.inl rfl,cK,by simp;omega,kk8,hr8,⟨av,av⟩,o8,fq.snoc (v:=v6) ⟨qn,ov⟩ (jB.mono fun x u _ w=>⟨qo x u w.1,w.2⟩),hm⟩)
  (n:=n) (k:=100000) (tm:=t0) (m:=m2) ⟨[x1],s1,_,m1.next,_,1,by rw[e0,hF];rfl,rfl,.inr rfl,cK,by simp;omega,k1.aN k2,yk.aM k2,⟨Dy,av⟩,o2,⟨v1,[],cK,⟨E.mono (E.ext q1 k2 fun _ _ h=>h) fun y ⟨y1,y2⟩=>⟨⟨y1,av⟩,av⟩,ov⟩,rfl⟩,h⟩ av
 obtain⟨t2,h2,H0⟩:=bQ (K:=K) (m:=m3) (m':=m3) (L.e v3) hg .nil;exact⟨v3,m3,fg L.ok (aX.cut h0 (aX.iH L.lp L.lo hx rfl (aX.last h2 L.len))) (.inr rfl) H0 L.sp,kk,oH,q3,hl3⟩
end
end Go.AM
namespace Go.AM
set_option maxRecDepth 1000000
open Go Go.Conc Go.Proofs
theorem E.gy(x:E):gy x.val=true:=by cases x<;>rfl
theorem E.one(x:E):x.val.oneCell'=true:=by cases x<;>rfl
theorem oE.gy{m:Mem}{v:af}{sz n:Nat}{cs:List af}(h:oE m v sz n cs):gy v=true/\v.oneCell'=true:=by
 rcases h with⟨hl,⟨rfl,rfl⟩|⟨b,c,rfl,ho,_⟩⟩<;>exact⟨rfl,rfl⟩
theorem bj.gy{α:Type}{E:j6 α}{sz:Nat}{B:Nat->Prop}{l:List α}{m:Mem}{v:af}(h:(bj E sz).R B l m v):Go.AM.gy v=true/\v.oneCell'=true:=by
 obtain⟨cs,h,_⟩:=h;exact h.gy
theorem bj.nil{α:Type}{E:j6 α}{sz:Nat}{B:Nat->Prop}{m:Mem}:(bj E sz).R B [] m (.slice none 0 0):=⟨[],oE.nil,fun b o n c e=>(by cases e),rfl⟩
theorem bj.akW{α:Type}{E:j6 α}{sz:Nat}{B:Nat->Prop}{l:List α}{m:Mem}{v:af}(h:(bj E sz).R B l m v):okV 1 v:=by
 obtain⟨cs,⟨hl,⟨rfl,_⟩|⟨b,c,rfl,ho,_⟩⟩,_⟩:=h<;>exact⟨rfl,by simp[af.cells,af.oneCell']⟩
theorem j6.up{α:Type}(E:j6 α){m m1 m2:Mem}{S:Nat->Prop}{x:α}{v:af}(h:E.R (fY m m1) x m1 v)(k:Kp m1 m2 S)(hS:∀b,S b->b<m.next\/m1.next<=b):E.R (fY m m2) x m2 v:=
 E.mono (E.ext h k fun b hb hs=>by have :=hS b hs;have :=hb.1;have :=hb.2;omega) fun b hb=>⟨hb.1,by have :=hb.2;have :=k.next;omega⟩
theorem j6.upR{α:Type}(E:j6 α){m m1 m2:Mem}{r:Nat}{x:α}{v:af}(h:E.R (fY m m1) x m1 v)(k:Kp m1 m2 (atR r))(hr:r<m.next):E.R (fY m m2) x m2 v:=
 E.up h k fun b e=> .inl (by have e:b=r:=e;omega)
theorem j6.up0{α:Type}(E:j6 α){m m1 m2:Mem}{x:α}{v:af}(h:E.R (fY m m1) x m1 v)(k:Kp m1 m2 eU):E.R (fY m m2) x m2 v:=E.up h k fun b e=>e.elim
theorem j6.down{α:Type}(E:j6 α){m m1 m2:Mem}{S:Nat->Prop}{x:α}{v:af}(h:E.R (fY m1 m2) x m2 v)(k:Kp m m1 S):E.R (fY m m2) x m2 v:=
 E.mono h fun b hb=>⟨by have :=hb.1;have :=k.next;omega,hb.2⟩
structure It where
 e:E
 n:ByteArray
abbrev It.val(x:It):af:= .agg #[x.e.val,.string x.n]
structure So where
 t:ByteArray
 a:ByteArray
 on:E
abbrev So.val(x:So):af:= .agg #[.string x.t,.string x.a,x.on.val]
structure Sel where
 items:List It
 src:List So
 wh:E
theorem It.ok{B:Nat->Prop}{x:It}{m:Mem}{v:af}(h:(jj It.val).R B x m v):okV 2 v:=by
 have h:v=x.val:=h;subst h;obtain⟨e,n⟩:=x;cases e<;>exact⟨rfl,by simp[It.val,E.val,af.cells,af.oneCell']⟩
theorem So.ok{B:Nat->Prop}{x:So}{m:Mem}{v:af}(h:(jj So.val).R B x m v):okV 3 v:=by
 have h:v=x.val:=h;subst h;obtain⟨a,b,e⟩:=x;cases e<;>exact⟨rfl,by simp[So.val,E.val,af.cells,af.oneCell']⟩
def iF:j6 (List It):=bj (jj It.val) 2
def rO:j6 (List So):=bj (jj So.val) 3
def j4:j6 Sel where
 R B x m v:=∃a b,v= .agg #[a,b,x.wh.val]/\iF.R B x.items m a/\rO.R B x.src m b
 mono:=by
  rintro B B' x m v ⟨a,b,e,h1,h2⟩ k;exact⟨a,b,e,iF.mono h1 k,rO.mono h2 k⟩
 ext:=by
  rintro B S x m m' v ⟨a,b,e,h1,h2⟩ k hs;exact⟨a,b,e,iF.ext h1 k hs,rO.ext h2 k hs⟩
theorem acC (x:E)(n:ByteArray):fH ae 247 [(0,x.val),(1,.string n)]=some (.agg #[x.val,.string n]):=by cases x<;>kernel_rfl
theorem acB (a n:ByteArray):fH ae 250 [(0,.string a),(1,.string n)]=some (.agg #[.string a,.string n,.nilIface]):=bp
theorem TS:mT ae 247=some true/\dq ae 247=some 2:=⟨bp,bp⟩
theorem TR:mT ae 250=some true/\dq ae 250=some 3:=⟨bp,bp⟩
theorem TY:mT ae 103=some true/\dq ae 103=some 3:=⟨bp,bp⟩
def asP (T:ByteArray)(s:RS):Option (ByteArray×RS):=(jq T [24] s).bind fun b=>if b.1=true then wG T b.2 else some (.empty,b.2)
def Ds (T:ByteArray)(n:Nat)(s:RS):Option (It×RS):=(BH T n s).bind fun x=>(asP T x.2).map fun a=>(⟨x.1,a.1⟩,a.2)
def EA (T:ByteArray)(s:RS):Option (So×RS):=(wG T s).bind fun x=>(asP T x.2).map fun a=>(⟨x.1,a.1,.nil⟩,a.2)
def xU (T:ByteArray)(k:Nat):Nat->List So->RS->Option (List So×RS)
 |0,_,_=>none
 |n+1,acc,s=>(lK T [7,33] s).bind fun x=>
  if x.1.2=true then(EA T x.2).bind fun y=>
   if x.1.1.k=33 then(iq T [36] w0 y.2).bind fun z=>(BH T k z.2).bind fun e=>xU T k n (acc++[{y.1 with on:=e.1}]) e.2
   else xU T k n (acc++[y.1]) y.2
  else some (acc,x.2)
def Gs (T:ByteArray)(n:Nat)(s:RS):Option (List So×RS):=(EA T s).bind fun x=>xU T n n [x.1] x.2
section
variable {K:iK}{m:Mem}{r:Nat}{T:ByteArray}{s s':RS}
theorem af0 (r:Nat)(aH:Nat):Path 228 [(vP r 0)]
 [.mem (ao ae 120 1 [(0,(vI 24))]) (vL aH 0 1 1),
  .call 30 [(vP r 0),(vL aH 0 1 1)] (.bool false),
  bV]
 dU:=cg
theorem afZ (r:Nat)(x:ByteArray)(aH:Nat):Path 228 [(vP r 0)]
 [.mem (ao ae 120 1 [(0,(vI 24))]) (vL aH 0 1 1),
  .call 30 [(vP r 0),(vL aH 0 1 1)] (.bool true),
  bm,
  .call 83 [(vP r 0)] (aY x)]
 (aY x):=cg
theorem akH (r:Nat)(x:af)(n:ByteArray)(aH:Nat):Path 167 [(vP r 0)]
 [cp [some .nilIface,some dU] aH,
  .call 124 [(vP r 0)] x,
  .call 228 [(vP r 0)] (aY n),
  .val (fH ae 247 [(0,x),(1,(aY n))]) (.agg #[x,(aY n)]),
  dV aH 0 [x,(aY n)],
  lJ 247 aH (.agg #[x,(aY n)])]
 (.agg #[x,(aY n)]):=cg
theorem akA (r:Nat)(a n:ByteArray)(aH:Nat):Path 229 [(vP r 0)]
 [cp [some dU,some dU,some .nilIface] aH,
  .call 83 [(vP r 0)] (aY a),
  .call 228 [(vP r 0)] (aY n),
  .val (fH ae 250 [(0,(aY a)),(1,(aY n))]) (.agg #[(aY a),(aY n),.nilIface]),
  dV aH 0 [(aY a),(aY n),.nilIface],
  lJ 250 aH (.agg #[(aY a),(aY n),.nilIface])]
 (.agg #[(aY a),(aY n),.nilIface]):=cg
theorem aiC:Rd K T r 228 (asP T) rE:=by
 intro m s x s' g hG hr h;obtain⟨⟨b,s1⟩,h1,h⟩:=ay.1 h;obtain⟨q,m1,m2,e1,e2,k2,pA⟩:=rX (K:=K) g hG hr h1;cases b with
 |false=>
  cases h;exact⟨m2,ak (af0 r q) (.mem e1<| .call e2<| .cond rfl<| .nil),k2,pA⟩
 |true=>
  obtain⟨m3,e3,k3,oH⟩:=Y2 (K:=K) m2 _ _ _ (g.ext k2) (hG.l9 k2 hr.pos) pA h;exact⟨m3,ak (afZ r x q) (.mem e1<| .call e2<| .cond rfl<| .call e3<| .nil),bP k2 k3,oH⟩
theorem amX {n:Nat}(hn:n<90000):Rd K T r 167 (Ds T n) It.val:=by
 intro m s x s' g hG hr h;obtain⟨⟨x1,s1⟩,h1,h⟩:=ay.1 h;obtain⟨⟨a,s2⟩,h2,h⟩:=ar.1 h;cases h;obtain⟨m1,e1,o1,k1,n1,_⟩:=aQ g [.nilIface,.string .empty];have g1:=g.ext k1;have yk:=hr.aM k1;have CK:=hG.aM k1;obtain⟨m2,e2,k2,pA⟩:=MT (K:=K) hn m1 _ _ _ g1 CK yk h1;obtain⟨m3,e3,k3,oH⟩:=aiC (K:=K) m2 _ _ _ (g1.ext k2) (CK.l9 k2 hr.pos) pA h2;have Yn:=bP k2 k3;have cN:=hr.obj.lt;have dx:¬atR r m.next:=fun e=>by have e:m.next=r:=e;omega
 have kk:Kp m m3 (atR r):=k1.mo.trans Yn fun _ _ h=>h
 obtain⟨m4,e4,o4,k4⟩:=dO (o:=0) [x1.val,.string a] (o1.ext Yn dx) ((g.own kk (ai _)).may _ _) (ag rfl) (by cases x1<;>rfl);have e5:=acC x1 a;have e6:fV ae 247 (vP m.next 0) m4=some (It.val ⟨x1,a⟩,m4):=dK o4 rfl TS.1 TS.2;exact⟨m4,ak (akH r x1.val a m.next) (.mem e1<| .call e2<| .call e3<| .val e5<| .mem e4<| .mem e6<| .nil),kk.new k4 (ai _) fun b hb=>av,oH.ext k4 av⟩
theorem aiB:Rd K T r 229 (EA T) So.val:=by
 intro m s x s' g hG hr h;obtain⟨⟨x1,s1⟩,h1,h⟩:=ay.1 h;obtain⟨⟨a,s2⟩,h2,h⟩:=ar.1 h;cases h;obtain⟨m1,e1,o1,k1,n1,_⟩:=aQ g [.string .empty,.string .empty,.nilIface];have g1:=g.ext k1;have yk:=hr.aM k1;have CK:=hG.aM k1;obtain⟨m2,e2,k2,pA⟩:=Y2 (K:=K) m1 _ _ _ g1 CK yk h1;obtain⟨m3,e3,k3,oH⟩:=aiC (K:=K) m2 _ _ _ (g1.ext k2) (CK.l9 k2 hr.pos) pA h2;have Yn:=bP k2 k3;have cN:=hr.obj.lt;have dx:¬atR r m.next:=fun e=>by have e:m.next=r:=e;omega
 have kk:Kp m m3 (atR r):=k1.mo.trans Yn fun _ _ h=>h
 obtain⟨m4,e4,o4,k4⟩:=dO (o:=0) [.string x1,.string a,.nilIface] (o1.ext Yn dx) ((g.own kk (ai _)).may _ _) (ag rfl) rfl;have e5:=acB x1 a;have e6:fV ae 250 (vP m.next 0) m4=some (So.val ⟨x1,a,.nil⟩,m4):=dK o4 rfl TR.1 TR.2;exact⟨m4,ak (akA r x1 a m.next) (.mem e1<| .call e2<| .call e3<| .val e5<| .mem e4<| .mem e6<| .nil),kk.new k4 (ai _) fun b hb=>av,oH.ext k4 av⟩
end
end Go.AM
namespace Go.AM
set_option maxRecDepth 1000000
open Go Go.Conc Go.Proofs
def LS {α:Type}(E:j6 α)(sz:Nat)(m0 m:Mem)(acc:List α)(sv:af):Prop:=
 (acc=[]/\sv= .slice none 0 0)\/∃b cs c,sv=vL b 0 acc.length c/\(c=eP\/c=acc.length)/\0<acc.length/\fY m0 m b/\Obj m b sz cs/\fq (fun x u=>E.R (fun y=>fY m0 m y/\y≠b) x m u/\okV sz u) acc cs
section
variable {α:Type}{E:j6 α}{sz t:Nat}{m0 m m1:Mem}{acc:List α}{sv v:af}{S:Nat->Prop}{x:α}
theorem LS.ext(h:LS E sz m0 m acc sv)(k:Kp m m1 S)(hS:∀b,S b->b<m0.next\/m.next<=b):LS E sz m0 m1 acc sv:=by
 rcases h with h|⟨b,cs,c,e,hc,hp,hb,ob,jB⟩
 ·exact .inl h
 ·have hn:=k.next;refine .inr ⟨b,cs,c,e,hc,hp,⟨hb.1,by have :=hb.2;omega⟩,ob.ext k fun hs=>(by have :=hS b hs;have :=hb.1;have :=hb.2;omega),jB.mono fun x u _ w=>⟨E.mono (E.ext w.1 k ?_) ?_,w.2⟩⟩
  ·rintro y ⟨⟨y1,y2⟩,_⟩ hs;have :=hS y hs;omega
  ·rintro y ⟨⟨y1,y2⟩,y3⟩;exact⟨⟨y1,av⟩,y3⟩
theorem LS.fin(h:LS E sz m0 m acc sv):(bj E sz).R (fY m0 m) acc m sv:=by
 rcases h with⟨rfl,rfl⟩|⟨b,cs,c,rfl,hc,hp,hb,ob,jB⟩
 ·exact bj.nil
 ·exact⟨cs,ob.sl jB.one.1 hc,fun b' o' n' c' e=>(by cases e;exact hb),jB.mono fun x u _ w=>⟨E.mono w.1 fun y hy=>hy.1,w.2⟩⟩
theorem LS.nil:LS E sz m0 m [] (.slice none 0 0):= .inl ⟨rfl,rfl⟩
theorem LS.one(g:Gd m)(ht:yH.contains (t,sz)=true)(Ui:sz<=6)(q:E.R (fY m0 m) x m v)(ov:okV sz v)(hn:m0.next<=m.next):∃m1,ao ae t 1 [(0,v)] m=some (vL m.next 0 1 1,m1)/\Kp m m1 eU/\LS E sz m0 m1 [x] (vL m.next 0 1 1)/\Obj m1 m.next sz v.cells.toList/\m1.next=m.next+1:=by
 obtain⟨o2,k2,n2⟩:=dC g (k:={kind:=1,sz:=sz,cs:=v.cells.toList.map some}) (cs:=v.cells.toList) rfl rfl rfl;refine⟨_,bs1 ht ov.1 Ui,k2,.inr ⟨m.next,_,1,rfl,.inr rfl,cK,⟨hn,av⟩,o2,⟨v,[],cK,⟨E.mono (E.ext q k2 fun _ _ h=>h) fun y ⟨y1,y2⟩=>⟨⟨y1,av⟩,av⟩,ov⟩,rfl⟩⟩,o2,n2⟩
theorem LS.add(h:LS E sz m0 m acc sv)(g:Gd m)(g0:Gd m0)(h0:Kp m0 m S)(ht:yH.contains (t,sz)=true)(Ui:sz<=6){m1:Mem}{S1:Nat->Prop}(k:Kp m m1 S1)(hS:∀b,S1 b->b<m0.next\/m.next<=b)(q:E.R (fY m m1) x m1 v)(ov:okV sz v)(hl:acc.length<2^30):
  ∃m2 m3 s',ao ae t 1 [(0,v)] m1=some (vL m1.next 0 1 1,m2)/\Gd m2/\Kp m1 m2 eU/\cV ae #[t,t] sv (vL m1.next 0 1 1) m2=some (s',m3)/\Kp m1 m3 (fY m0 m)/\LS E sz m0 m3 (acc++[x]) s'/\gy s'=true:=by
 have hn0:=h0.next;have hn1:=k.next;have g1:=g.ext k;obtain⟨m2,e2,k2,_,o2,n2⟩:=LS.one (t:=t) (m0:=m) g1 ht Ui q ov hn1;have g2:=g1.ext k2;have zP:oE m2 (vL m1.next 0 1 1) sz 1 v.cells.toList:=o2.sl (by simp[ov.1]) (.inr rfl);have hx:=(h.ext k hS).ext k2 fun _ h=>h.elim
 have fin:∀(m3:Mem) (b:Nat) (cs:List af),Obj m3 m2.next sz (cs++v.cells.toList)->Kp m2 m3 (fun y=>y=b)->m3.next=m2.next+1->(b<m.next)->fq (fun x u=>E.R (fun y=>fY m0 m1 y/\y≠b/\y<m.next) x m1 u/\okV sz u) acc cs->
   LS E sz m0 m3 (acc++[x]) (vL m2.next 0 (acc.length+1) eP):=by
  intro m3 b cs o3 k3 n3 hb jB;have tS:Kp m1 m3 (fun y=>y=b):=k2.mo.trans k3 fun _ _ h=>h
  refine .inr ⟨m2.next,_,eP,cK,.inl rfl,cK,⟨av,av⟩,o3,fq.snoc ⟨E.mono (E.ext q tS ?_) ?_,ov⟩ (jB.mono fun x u _ w=>⟨E.mono (E.ext w.1 tS ?_) ?_,w.2⟩)⟩
  ·rintro y ⟨⟨y1,y2⟩,y3,y4⟩ e;exact y3 e
  ·rintro y ⟨⟨y1,y2⟩,y3,y4⟩;exact⟨⟨y1,av⟩,av⟩
  ·rintro y ⟨y1,y2⟩ e;have e:y=b:=e;omega
  ·rintro y ⟨y1,y2⟩;exact⟨⟨av,av⟩,av⟩
 rcases h with⟨rfl,rfl⟩|⟨b,cs,c,rfl,hc,hp,hb,ob,jB⟩
 ·obtain⟨m3,e3,o3,k3,n3⟩:=Ak g2 ht zP ov.2 dB dB;refine⟨m2,m3,_,e2,g2,k2,e3,(k2.aN k3).mo,?_,rfl⟩;refine .inr ⟨m2.next,_,eP,rfl,.inl rfl,cK,⟨av,av⟩,o3,⟨v,[],cK,⟨E.mono (E.ext (E.ext q k2 fun _ _ h=>h) k3 fun _ _ h=>h) fun y ⟨y1,y2⟩=>⟨⟨av,av⟩,av⟩,ov⟩,rfl⟩⟩
 ·have j8:=hb.1;have iW:=hb.2;have hnS:¬S1 b:=fun hs=>by have :=hS b hs;omega
  have NY:=(ob.ext k hnS).aM k2;have al9:fq (fun x u=>E.R (fun y=>fY m0 m1 y/\y≠b/\y<m.next) x m1 u/\okV sz u) acc cs:=jB.mono fun x u _ w=>⟨E.mono (E.ext (E.mono w.1 (B':=fun y=>fY m0 m y/\y≠b) fun _ h=>h) k (by
   rintro y ⟨⟨y1,y2⟩,y3⟩ hs;have :=hS y hs;omega)) (by rintro y ⟨⟨y1,y2⟩,y3⟩;exact⟨⟨y1,av⟩,y3,y2⟩),w.2⟩
  have kk:Kp m0 m2 (fun y=>S y\/S1 y):=((h0.mono fun _ _ h=> .inl h).trans (k.mono fun _ _ h=> .inr h) fun _ _ h=>h).aN k2;have Bx:∃m3,cV ae #[t,t] (vL b 0 acc.length c) (vL m1.next 0 1 1) m2=some (vL m2.next 0 (acc.length+1) eP,m3)/\Obj m3 m2.next sz (cs++v.cells.toList)/\Kp m2 m3 (fun y=>y=b)/\m3.next=m2.next+1:=by
   rcases hc with rfl|rfl
   ·exact Al (rest:=[]) g2 ht (by simpa using NY) jB.one.1 (g0.own kk j8) zP ov.2 av
   ·obtain⟨m3,x1,x2,x3,x4⟩:=xx g2 ht NY jB.one.1 dB zP ov.2 av;exact⟨m3,x1,x2,x3.mo,x4⟩
  obtain⟨m3,e3,o3,k3,n3⟩:=Bx;exact⟨m2,m3,_,e2,g2,k2,e3,(k2.mo.trans (k3.mono fun y _ h=>by rw[h];exact hb) fun _ _ h=>h),fin m3 b cs o3 k3 n3 av al9,rfl⟩
end
theorem Xx {m:Mem}(a b:Int):ao ae 120 2 [(0,vI a),(1,vI b)] m=some (vL m.next 0 2 2,m.alloc {kind:=1,sz:=1,cs:=[some (vI a),some (vI b)]}):=bp
theorem adk {K:iK}{m:Mem}{r:Nat}{T:ByteArray}{s s':RS}(g:Gd m)(hG:iU m)(hr:lI m r T s){k1 k2:Int}{w:W}{b:Bool}(h:lK T [k1,k2] s=some ((w,b),s')):
  ∃q m1 m',ao ae 120 2 [(0,vI k1),(1,vI k2)] m=some (vL q 0 2 2,m1)/\Ev K 52 [vP r 0,vL q 0 2 2] m1 (.tuple #[w.val,.bool b]) m'/\Kp m m' (atR r)/\lI m' r T s':=by
 obtain⟨o1,kk,_⟩:=dC g (k:={kind:=1,sz:=1,cs:=[some (vI k1),some (vI k2)]}) (cs:=[k1,k2].map vI) rfl rfl rfl;obtain⟨m2,e2,IF,pA⟩:=c52 (K:=K) (c:=2) (g.ext kk) (hG.aM kk) (hr.aM kk) o1 cK h;exact⟨_,_,_,Xx k1 k2,e2,kk.mo.trans IF fun _ _ h=>h,pA⟩
section
variable {K:iK}{m:Mem}{r:Nat}{T:ByteArray}{s s':RS}
theorem ad6 (r:Nat)(x:So)(aH:Nat):bF (bN 168) (ax 168) 0 2 [0] [(vP r 0)]
 [.call 229 [(vP r 0)] (.agg #[(aY x.t),(aY x.a),x.on.val]),
  .mem (ao ae 99 1 [(0,(.agg #[(aY x.t),(aY x.a),x.on.val]))]) (vL aH 0 1 1)]
 .normal [0,3] [(vP r 0),(vL aH 0 1 1)]:=eF
theorem ad3 (r:Nat)(s:af)(w:W)(aH a0:Nat):bF (bN 168) (bh (ax 168) [2]) 0 99 [0,3] [(vP r 0),s]
 [.mem (ao ae 120 2 [(0,(vI 7)),(1,(vI 33))]) (vL aH 0 2 2),
  .call 52 [(vP r 0),(vL aH 0 2 2)] (.tuple #[(mV w),(.bool false)]),
  cp yL a0,
  dV a0 0 (yM w),
  bV]
 .ret [2] [s]:=eF
theorem ad4 (r:Nat)(s s2:af)(w:W)(x:So)(aH a0 cf rq:Nat):bF (bN 168) (bh (ax 168) [2]) 0 99 [0,3] [(vP r 0),s]
 [.mem (ao ae 120 2 [(0,(vI 7)),(1,(vI 33))]) (vL aH 0 2 2),
  .call 52 [(vP r 0),(vL aH 0 2 2)] (.tuple #[(mV w),(.bool true)]),
  cp yL a0,
  dV a0 0 (yM w),
  bm,
  .call 229 [(vP r 0)] (.agg #[(aY x.t),(aY x.a),x.on.val]),
  cp [some dU,some dU,some .nilIface] cf,
  dV cf 0 [(aY x.t),(aY x.a),x.on.val],
  .mem (aI a0 0) (vI w.k),
  aD (aZ w.k 33) false,
  ie 3 cf (.agg #[(aY x.t),(aY x.a),x.on.val]),
  .mem (ao ae 99 1 [(0,(.agg #[(aY x.t),(aY x.a),x.on.val]))]) (vL rq 0 1 1),
  .mem (cV ae #[99,99] s (vL rq 0 1 1)) s2]
 .normal [0,3] [(vP r 0),s2]:=eF
theorem ad5 (r:Nat)(s s2:af)(w w2:W)(x:So)(e:E)(aH a0 cf rq XF:Nat):bF (bN 168) (bh (ax 168) [2]) 0 99 [0,3] [(vP r 0),s]
 [.mem (ao ae 120 2 [(0,(vI 7)),(1,(vI 33))]) (vL aH 0 2 2),
  .call 52 [(vP r 0),(vL aH 0 2 2)] (.tuple #[(mV w),(.bool true)]),
  cp yL a0,
  dV a0 0 (yM w),
  bm,
  .call 229 [(vP r 0)] (.agg #[(aY x.t),(aY x.a),x.on.val]),
  cp [some dU,some dU,some .nilIface] cf,
  dV cf 0 [(aY x.t),(aY x.a),x.on.val],
  .mem (aI a0 0) (vI w.k),
  aD (aZ w.k 33) true,
  .mem (ao ae 120 1 [(0,(vI 36))]) (vL rq 0 1 1),
  .call 31 [(vP r 0),(vL rq 0 1 1)] (mV w2),
  .call 124 [(vP r 0)] e.val,
  .mem (jo cf 2 e.val) undef,
  ie 3 cf (.agg #[(aY x.t),(aY x.a),e.val]),
  .mem (ao ae 99 1 [(0,(.agg #[(aY x.t),(aY x.a),e.val]))]) (vL XF 0 1 1),
  .mem (cV ae #[99,99] s (vL XF 0 1 1)) s2]
 .normal [0,3] [(vP r 0),s2]:=eF
theorem agG:jR 168 1 [2]=true:=bp
theorem VV:dT (ax 168) 2=some (0,(bh (ax 168) [2])):=bp
theorem EU:codeOk (bN 168) (bh (ax 168) [2])=true:=bp
theorem V9:eI (bN 168) (ax 168) (bh (ax 168) [2]) 2 0=true:=bp
theorem amW {k:Nat}(hk:k<90000)(g:Gd m)(hG:iU m)(hr:lI m r T s){l:List So}(h:Gs T k s=some (l,s')):
  ∃v m',Ev K 168 [vP r 0] m v m'/\Kp m m' (atR r)/\lI m' r T s'/\rO.R (fY m m') l m' v:=by
 obtain⟨⟨x1,s1⟩,h1,h⟩:=ay.1 h;obtain⟨m1,e1,k1,yk⟩:=aiB (K:=K) m s x1 s1 g hG hr h1;have g1:=g.ext k1;have q1:(jj So.val).R (fY m m1) x1 m1 x1.val:=rfl;obtain⟨m2,e2,k2,Uc,_,_⟩:=LS.one (t:=99) g1 rfl dB q1 (So.ok q1) k1.next;obtain⟨t0,h0,e0⟩:=bQ (K:=K) (m:=m) (m':=m2) (tm:=entry [vP r 0]) (ad6 r x1 m1.next) rfl (.call e1<| .mem e2 .nil);have Sq:=hr.obj.lt;obtain⟨e,t1,m3,he,hx,kk,oH,rfl,v3,hg,q3⟩:=jP (K:=K) (nt:=bN 168) (a:=bh (ax 168) [2])
  (Inv:=fun n tm m'=>∃acc s2 sv,cH [0,3] tm=[vP r 0,sv]/\acc.length+n<=90001/\Kp m m' (atR r)/\lI m' r T s2/\LS (jj So.val) 3 m m' acc sv/\xU T k n acc s2=some (l,s'))
  (dA:=fun e tm m'=>Kp m m' (atR r)/\lI m' r T s'/\e= .ret/\∃v,cH [2] tm=[v]/\rO.R (fY m m') l m' v)
  (by
   rintro n tm m3 ⟨acc,s2,sv,hg,hn,kk,oH,ls,hm⟩;have g3:=g.ext kk;have S3:=hG.l9 kk hr.pos;have n3:=kk.next;cases n with
   |zero=>unfold xU at hm;cases hm
   |succ n=>
    unfold xU at hm;obtain⟨⟨⟨w,b⟩,s3⟩,h2,hm⟩:=ay.1 hm;obtain⟨q,m4,m5,e4,e5,k5,zR⟩:=adk (K:=K) g3 S3 oH h2;have g5:=g3.ext k5;obtain⟨m6,m7,e6,e7,o7,k7,n7⟩:=eH g5 w0.cells w.cells rfl rfl;have Fl:=zR.aM k7;have k37:Kp m3 m7 (atR r):=k5.aN k7;have OA:=bP kk k37;have g7:=g5.ext k7;have hG7:=hG.l9 OA hr.pos;have nn7:=k37.next;cases b with
    |false=>
     cases hm;obtain⟨t2,dk,dm⟩:=aU (K:=K) (m:=m3) (m':=m7) EU (ad3 r sv w q m5.next) hg (.mem e4<| .call e5<| .mem e6<| .mem e7<| .cond rfl<| .nil);exact .inr ⟨.ret,t2,m7,(fun h=>by cases h),dk,OA,Fl,rfl,sv,dm,(ls.ext k37 fun b e=> .inl (by have e:b=r:=e;omega)).fin⟩
    |true=>
     simp only[if_true]at hm;obtain⟨⟨x,s4⟩,h3,hm⟩:=ay.1 hm;obtain⟨m8,e8,k8,hr8⟩:=aiB (K:=K) m7 s3 x s4 g7 hG7 Fl h3;have g8:=g7.ext k8;have n8:=k8.next;have alS:¬atR r m5.next:=fun e=>by have e:m5.next=r:=e;have :=k5.next;omega
     have o8:=o7.ext k8 alS;obtain⟨m9,fM,e9,pY,IB,kh,n10⟩:=eH g8 [.string .empty,.string .empty,.nilIface] [.string x.t,.string x.a,x.on.val] rfl (by cases x with |mk a b c=>cases c<;>rfl);have o8':=o8.aM kh;have Ky:=hr8.aM kh;have YU:=g8.ext kh;have abh:Kp m3 fM (atR r):=(bP k37 k8).aN kh;have abf:=bP kk abh
     by_cases hw:w.k=33
     ·rw[bL hw]at hm;have b1:(.bool (aZ w.k 33):af)= .bool true:=by rw[cu,dZ hw]
      obtain⟨⟨w2,s5⟩,h4,hm⟩:=ay.1 hm;obtain⟨⟨ex,s6⟩,h5,hm⟩:=ay.1 hm;obtain⟨q4,LR,y8,xg,zv,vM,alI⟩:=Dp (K:=K) YU (hG.l9 abf hr.pos) Ky h4;have g12:=YU.ext vM;obtain⟨LQ,FC,tS,alH⟩:=MT (K:=K) hk y8 s5 ex s6 g12 (hG.l9 (bP abf vM) hr.pos) alI h5;have R6:=bP vM tS;have aha:=bP abh R6;have alR:¬atR r m8.next:=fun e=>by have e:m8.next=r:=e;have :=k5.next;omega
      obtain⟨IC,Pw,Ub,r8⟩:=gu (o:=2) ex.val (IB.ext R6 alR) ((g8.own ((kh.mo (S:=atR r)).trans R6 fun _ _ h=>h) (ai _)).may _ _) (ag rfl) ex.gy;have ag9:Kp m3 IC (fun y=>y=r\/y=m8.next):=(aha.mono fun _ _ h=> .inl h).trans (r8.mono fun _ _ h=> .inr h) fun _ _ h=>h
      have g14:=g3.ext ag9;have qx:(jj So.val).R (fY m3 IC) {x with on:=ex} IC (So.val {x with on:=ex}):=rfl;obtain⟨Yg,VO,s',Pv,g15,_,e16,Yo,aa1,_⟩:=ls.add (t:=99) g3 g kk rfl dB ag9 (fun b hb=>by rcases hb with hb|hb<;>omega) qx (So.ok qx) av;have ahb:Kp m VO (atR r):=(kk.trans (aha.trans (r8.mono fun y _ h=>h) fun y hy e=>absurd e (by have :=k5.next;omega)) fun _ _ h=>h).new Yo (ai _) fun b hb=>hb.1
      obtain⟨t2,dk,dm⟩:=aU (K:=K) (m:=m3) (m':=VO) EU (ad5 r sv s' w w2 x ex q m5.next m8.next q4 IC.next) hg (.mem e4<| .call e5<| .mem e6<| .mem e7<| .cond rfl<| .call e8<| .mem e9<| .mem pY<| .mem (aJ fP rfl)<| .cond b1<| .mem xg<| .call zv<| .call FC<| .mem Pw<| .mem (bY fP rfl (ag rfl))<| .mem Pv<| .mem e16<| .nil);have hb8:r≠m8.next:=by have :=k5.next;omega
      refine .inl ⟨n,t2,VO,av,dk,acc++[{x with on:=ex}],s6,s',dm,by simp;omega,ahb,(alH.ext r8 hb8).ext Yo (fun e=>by have :=e.1;omega),aa1,hm⟩
     ·rw[bT hw]at hm;have b1:(.bool (aZ w.k 33):af)= .bool false:=by rw[cu,eO hw]
      have qx:(jj So.val).R (fY m3 fM) x fM x.val:=rfl;obtain⟨Yg,VO,s',Pv,g15,_,e16,Yo,aa1,_⟩:=ls.add (t:=99) g3 g kk rfl dB abh (fun b hb=> .inl (by have e:b=r:=hb;omega)) qx (So.ok qx) av;obtain⟨t2,dk,dm⟩:=aU (K:=K) (m:=m3) (m':=VO) EU (ad4 r sv s' w x q m5.next m8.next fM.next) hg (.mem e4<| .call e5<| .mem e6<| .mem e7<| .cond rfl<| .call e8<| .mem e9<| .mem pY<| .mem (aJ fP rfl)<| .cond b1<| .mem (bY fP rfl (ag rfl))<| .mem Pv<| .mem e16<| .nil);refine .inl ⟨n,t2,VO,av,dk,acc++[x],s4,s',dm,by simp;omega,abf.new Yo (ai _) fun b hb=>hb.1,Ky.ext Yo (fun e=>by have :=e.1;omega),aa1,hm⟩)
  (n:=k) (k:=100000) (tm:=t0) (m:=m2) ⟨[x1],s1,_,e0,by simp;omega,k1.aN k2,yk.aM k2,Uc,h⟩ av
 exact⟨v3,m3,fg agG (aX.cut h0 (aX.sY VV V9 hx bp)) (.inr rfl) hg,kk,oH,q3⟩
end
end Go.AM
namespace Go.AM
set_option maxRecDepth 1000000
open Go Go.Conc Go.Proofs
def P9 (T:ByteArray)(n:Nat)(s:RS):Option (Sel×RS):=
 (iq T [39] w0 s).bind fun a=>(jq T [10] a.2).bind fun st=>(if st.1=true then some ([],st.2)else r7 (Ds T n) T n st.2).bind fun dj=>
 (jq T [28] dj.2).bind fun fr=>(if fr.1=true then Gs T n fr.2 else some ([],fr.2)).bind fun src=>
 (jq T [45] src.2).bind fun wh=>(if wh.1=true then BH T n wh.2 else some (.nil,wh.2)).map fun e=>(⟨dj.1,src.1,e.1⟩,e.2)
structure Un where
 all:Bool
 sel:Sel
structure Body where
 first :Sel
 us:List Un
def tq:j6 Un where
 R B x m v:=∃a b c,v= .agg #[.bool x.all,a,b,c]/\j4.R B x.sel m (.agg #[a,b,c])
 mono:=by
  rintro B B' x m v ⟨a,b,c,e,h⟩ k;exact⟨a,b,c,e,j4.mono h k⟩
 ext:=by
  rintro B S x m m' v ⟨a,b,c,e,h⟩ k hs;exact⟨a,b,c,e,j4.ext h k hs⟩
def gG:j6 Body where
 R B x m v:=∃a b c d,v= .agg #[a,b,c,d]/\j4.R B x.first m (.agg #[a,b,c])/\(bj tq 4).R B x.us m d
 mono:=by
  rintro B B' x m v ⟨a,b,c,d,e,h,h2⟩ k;exact⟨a,b,c,d,e,j4.mono h k,(bj tq 4).mono h2 k⟩
 ext:=by
  rintro B S x m m' v ⟨a,b,c,d,e,h,h2⟩ k hs;exact⟨a,b,c,d,e,j4.ext h k hs,(bj tq 4).ext h2 k hs⟩
theorem j4.three{B:Nat->Prop}{x:Sel}{m:Mem}{v:af}(h:j4.R B x m v):∃a b c,v= .agg #[a,b,c]/\a.oneCell'=true/\b.oneCell'=true/\c.oneCell'=true:=by
 obtain⟨a,b,e,h1,h2⟩:=h;exact⟨a,b,_,e,(bj.gy h1).2,(bj.gy h2).2,x.wh.one⟩
theorem tq.ok{B:Nat->Prop}{x:Un}{m:Mem}{v:af}(h:tq.R B x m v):okV 4 v:=by
 obtain⟨a,b,c,rfl,h⟩:=h;obtain⟨a',b',c',e,h1,h2,h3⟩:=j4.three h;cases e;exact⟨rfl,by simp[af.cells,h1,h2,h3];rfl⟩
def xT (T:ByteArray)(k:Nat):Nat->List Un->RS->Option (List Un×RS)
 |0,_,_=>none
 |n+1,acc,s=>(jq T [43] s).bind fun x=>
  if x.1=true then(jq T [22] x.2).bind fun al=>(P9 T k al.2).bind fun y=>xT T k n (acc++[⟨al.1,y.1⟩]) y.2
  else some (acc,x.2)
def D9 (T:ByteArray)(n:Nat)(s:RS):Option (Body×RS):=(P9 T n s).bind fun x=>(xT T n n [] x.2).map fun u=>(⟨x.1,u.1⟩,u.2)
section
variable {K:iK}{m:Mem}{r:Nat}{T:ByteArray}{s s':RS}
theorem aeJ (r:Nat)(w:W)(aH a0 cf:Nat):bF (bN 126) (ax 126) 0 3 [0] [(vP r 0)]
 [cp [some (.slice none 0 0),some (.slice none 0 0),some .nilIface] aH,
  cp [some (.slice none 0 0),some (.slice none 0 0),some .nilIface] a0,
  .mem (ao ae 120 1 [(0,(vI 39))]) (vL cf 0 1 1),
  .call 31 [(vP r 0),(vL cf 0 1 1)] (mV w)]
 .normal [0,2,3] [(vP r 0),(vP aH 0),(vP a0 0)]:=eF
theorem ZP (r b1 b2:Nat)(aH:Nat):bF (bN 126) (ax 126) 3 5 [0,2,3] [(vP r 0),(vP b1 0),(vP b2 0)]
 [.mem (ao ae 120 1 [(0,(vI 10))]) (vL aH 0 1 1),
  .call 30 [(vP r 0),(vL aH 0 1 1)] (.bool true),
  bm]
 .normal [0,2,3] [(vP r 0),(vP b1 0),(vP b2 0)]:=eF
theorem ZO (r b1 b2:Nat)(v:af)(aH:Nat):bF (bN 126) (ax 126) 3 5 [0,2,3] [(vP r 0),(vP b1 0),(vP b2 0)]
 [.mem (ao ae 120 1 [(0,(vI 10))]) (vL aH 0 1 1),
  .call 30 [(vP r 0),(vL aH 0 1 1)] (.bool false),
  bV,
  .call 166 [(vP r 0),(.func (.func 167) #[(vP r 0)] #[])] v,
  .mem (jo b2 0 v) undef]
 .normal [0,2,3] [(vP r 0),(vP b1 0),(vP b2 0)]:=eF
theorem ZN (r b1 b2:Nat)(aH:Nat):bF (bN 126) (ax 126) 5 7 [0,2,3] [(vP r 0),(vP b1 0),(vP b2 0)]
 [.mem (ao ae 120 1 [(0,(vI 28))]) (vL aH 0 1 1),
  .call 30 [(vP r 0),(vL aH 0 1 1)] (.bool false),
  bm]
 .normal [0,2,3] [(vP r 0),(vP b1 0),(vP b2 0)]:=eF
theorem ZM (r b1 b2:Nat)(v:af)(aH:Nat):bF (bN 126) (ax 126) 5 7 [0,2,3] [(vP r 0),(vP b1 0),(vP b2 0)]
 [.mem (ao ae 120 1 [(0,(vI 28))]) (vL aH 0 1 1),
  .call 30 [(vP r 0),(vL aH 0 1 1)] (.bool true),
  bV,
  .call 168 [(vP r 0)] v,
  .mem (jo b2 1 v) undef]
 .normal [0,2,3] [(vP r 0),(vP b1 0),(vP b2 0)]:=eF
theorem ZL (r b1 b2:Nat)(aH:Nat):bF (bN 126) (ax 126) 7 9 [0,2,3] [(vP r 0),(vP b1 0),(vP b2 0)]
 [.mem (ao ae 120 1 [(0,(vI 45))]) (vL aH 0 1 1),
  .call 30 [(vP r 0),(vL aH 0 1 1)] (.bool false),
  bm]
 .normal [2,3] [(vP b1 0),(vP b2 0)]:=eF
theorem ZK (r b1 b2:Nat)(v:af)(aH:Nat):bF (bN 126) (ax 126) 7 9 [0,2,3] [(vP r 0),(vP b1 0),(vP b2 0)]
 [.mem (ao ae 120 1 [(0,(vI 45))]) (vL aH 0 1 1),
  .call 30 [(vP r 0),(vL aH 0 1 1)] (.bool true),
  bV,
  .call 124 [(vP r 0)] v,
  .mem (jo b2 2 v) undef]
 .normal [2,3] [(vP b1 0),(vP b2 0)]:=eF
theorem aeI (b1 b2:Nat)(v1 v2 v3:af):bF (bN 126) (ax 126) 9 99 [2,3] [(vP b1 0),(vP b2 0)]
 [ie 3 b2 (.agg #[v1,v2,v3]),
  dV b1 0 [v1,v2,v3]]
 .ret [2] [(vP b1 0)]:=eF
theorem agO:BD 126 1 2 103=true:=bp
theorem NT:(du (ax 126)).length<=99:=ag bp
theorem ajt (r:Nat)(v1 v2 v3:af)(aH a0:Nat):bF (bN 90) (ax 90) 0 2 [0] [(vP r 0)]
 [cp [some (.slice none 0 0),some (.slice none 0 0),some .nilIface,some (.slice none 0 0)] aH,
  .call 126 [(vP r 0)] (.agg #[v1,v2,v3]),
  cp [some (.slice none 0 0),some (.slice none 0 0),some .nilIface,some (.slice none 0 0)] a0,
  dV a0 0 [v1,v2,v3,(.slice none 0 0)]]
 .normal [0,2,3] [(vP r 0),(vP aH 0),(vP a0 0)]:=eF
theorem ajq (r b1 b2:Nat)(aH:Nat):bF (bN 90) (bh (ax 90) [2]) 0 99 [0,2,3] [(vP r 0),(vP b1 0),(vP b2 0)]
 [.mem (ao ae 120 1 [(0,(vI 43))]) (vL aH 0 1 1),
  .call 30 [(vP r 0),(vL aH 0 1 1)] (.bool false),
  bm]
 (.exit 0) [2,3] [(vP b1 0),(vP b2 0)]:=eF
theorem ajr (r b1 b2:Nat)(al:Bool)(s s2 v1 v2 v3:af)(aH a0 so cf:Nat):bF (bN 90) (bh (ax 90) [2]) 0 99 [0,2,3] [(vP r 0),(vP b1 0),(vP b2 0)]
 [.mem (ao ae 120 1 [(0,(vI 43))]) (vL aH 0 1 1),
  .call 30 [(vP r 0),(vL aH 0 1 1)] (.bool true),
  bV,
  .mem (ao ae 120 1 [(0,(vI 22))]) (vL a0 0 1 1),
  .call 30 [(vP r 0),(vL a0 0 1 1)] (.bool al),
  .mem (aI b2 3) s,
  .mem (fe (vP b2 3)) (vI (so:Int)),
  .mem di undef,
  .call 126 [(vP r 0)] (.agg #[v1,v2,v3]),
  .mem (bS (vI (so:Int)) (vP b2 3) (dw ae 104 (vP b2 3))) undef,
  .mem (ao ae 104 1 [(0,(.agg #[(.bool al),v1,v2,v3]))]) (vL cf 0 1 1),
  .mem di undef,
  .mem (cV ae #[104,104] s (vL cf 0 1 1)) s2,
  .mem di undef,
  .mem (jo b2 3 s2) undef]
 .normal [0,2,3] [(vP r 0),(vP b1 0),(vP b2 0)]:=eF
theorem ajs (b1 b2:Nat)(v1 v2 v3 v4:af):bF (bN 90) (ax 90) 3 99 [2,3] [(vP b1 0),(vP b2 0)]
 [ie 4 b2 (.agg #[v1,v2,v3,v4]),
  dV b1 0 [v1,v2,v3,v4]]
 .ret [2] [(vP b1 0)]:=eF
theorem akX:BD 90 1 2 106=true:=bp
theorem QJ:(du (ax 90)).length<=99:=ag bp
theorem aa2:dT (ax 90) 2=some (0,(bh (ax 90) [2])):=bp
theorem QK:codeOk (bN 90) (bh (ax 90) [2])=true:=bp
theorem aa6:eI (bN 90) (ax 90) (bh (ax 90) [2]) 2 0=true:=bp
theorem TX:mT ae 106=some true/\dq ae 106=some 4:=⟨bp,bp⟩
theorem alk {n:Nat}(hn:n<90000)(g:Gd m)(hG:iU m)(hr:lI m r T s){l:List It}(h:r7 (Ds T n) T n s=some (l,s')):
  ∃v m',Ev K 166 [vP r 0,.func (.func 167) #[vP r 0] #[]] m v m'/\Kp m m' (atR r)/\lI m' r T s'/\iF.R (fY m m') l m' v:=by
 obtain⟨v,m',e,k,Dv,q,_⟩:=TE (K:=K) ag2 rfl dB (amX hn).toM It.ok g hG hr hn h;exact⟨v,m',e,k,Dv,q⟩
theorem aiP {n:Nat}(hn:n<90000):Pj K T r 126 (P9 T n) j4:=by
 intro m s x s' g hG hr h;obtain⟨⟨w,s1⟩,h1,h⟩:=ay.1 h;obtain⟨⟨star,s2⟩,h2,h⟩:=ay.1 h;obtain⟨⟨dj,s3⟩,h3,h⟩:=ay.1 h;obtain⟨⟨fr,s4⟩,h4,h⟩:=ay.1 h;obtain⟨⟨src,s5⟩,h5,h⟩:=ay.1 h;obtain⟨⟨wh,s6⟩,h6,h⟩:=ay.1 h;obtain⟨⟨ex,s7⟩,h7,h⟩:=ar.1 h;cases h;have Sq:=hr.obj.lt;obtain⟨m1,e1,o1,k1,n1,_⟩:=aQ g [.slice none 0 0,.slice none 0 0,.nilIface];have g1:=g.ext k1;obtain⟨m2,e2,o2,k2,n2,_⟩:=aQ g1 [.slice none 0 0,.slice none 0 0,.nilIface];have g2:=g1.ext k2;have lM:=k1.aN k2;obtain⟨b1,j8⟩:∃b,b=m.next:=⟨_,rfl⟩;obtain⟨b2,iW⟩:∃b,b=m1.next:=⟨_,rfl⟩;rw[<-j8]at e1 o1;rw[<-iW]at e2 o2;have r1:¬atR r b1:=fun e=>by have e:b1=r:=e;omega
 have r2:¬atR r b2:=fun e=>by have e:b2=r:=e;omega
 have Ir:b1≠b2:=av;have own:∀{m':Mem}{S:Nat->Prop}{b:Nat},Kp m m' S->m.next<=b->Own m' b:=fun k hb=>g.own k hb
 obtain⟨q3,m3,m4,e3,e4,k4,WM⟩:=Dp (K:=K) g2 (hG.aM lM) (hr.aM lM) h1;have kA:Kp m m4 (atR r):=lM.mo.trans k4 fun _ _ h=>h
 have gA:=g.ext kA;have oA1:=(o1.aM k2).ext k4 r1;have oA2:=o2.ext k4 r2;obtain⟨t0,w0,e0⟩:=bQ (K:=K) (m:=m) (m':=m4) (tm:=entry [vP r 0]) (aeJ r w b1 b2 q3) rfl (.mem e1<| .mem e2<| .mem e3<| .call e4<| .nil);obtain⟨q5,m5,m6,e5,e6,k6,Po⟩:=rX (K:=K) gA (hG.l9 kA hr.pos) WM h2;have kB:=bP kA k6;have gB:=g.ext kB;have oB1:=oA1.ext k6 r1;have oB2:=oA2.ext k6 r2;have adq:∃t m' v,Ck K (bN 126) (vu (ax 126) 3 5) ⟨t0,m4,[]⟩ .normal ⟨t,m',[]⟩/\cH [0,2,3] t=[vP r 0,vP b1 0,vP b2 0]/\Kp m6 m' (fun y=>y=r\/y=b2)/\lI m' r T s3/\Obj m' b2 0 [v,.slice none 0 0,.nilIface]/\iF.R (fY m6 m') dj m' v:=by
  cases star with
  |true=>
   cases h3;obtain⟨t,x1,x2⟩:=bQ (K:=K) (m:=m4) (m':=m6) (ZP r b1 b2 q5) e0 (.mem e5<| .call e6<| .cond rfl<| .nil);exact⟨t,m6,_,x1,x2,Kp.refl _ _,Po,oB2,bj.nil⟩
  |false=>
   obtain⟨v,m7,e7,k7,Fl,q7⟩:=alk (K:=K) hn gB (hG.l9 kB hr.pos) Po h3;obtain⟨m8,e8,o8,k8⟩:=gu (o:=0) v (oB2.ext k7 r2) ((own (bP kB k7) av).may _ _) (ag rfl) (bj.gy q7).1;obtain⟨t,x1,x2⟩:=bQ (K:=K) (m:=m4) (m':=m8) (ZO r b1 b2 v q5) e0 (.mem e5<| .call e6<| .cond rfl<| .call e7<| .mem e8<| .nil);refine⟨t,m8,v,x1,x2,(k7.mono fun _ _ h=> .inl h).trans (k8.mono fun _ _ h=> .inr h) fun _ _ h=>h,Fl.ext k8 (fun e=>r2 e.symm),o8,iF.up q7 k8 fun b hb=> .inl ?_⟩;have :=k6.next;have :=k4.next;omega
 obtain⟨t1,mB,va,wB,eB,kB',hrB,oB2,qa⟩:=adq;have ak5:=oB1.ext kB' (fun h=>h.elim r1 Ir);have kC:Kp m mB (fun y=>y=r\/y=b2):=(kB.mono fun _ _ h=> .inl h).trans kB' fun _ _ h=>h
 have gC:=g.ext kC;have gl:∀{m':Mem},Kp m m' (fun y=>y=r\/y=b2)->iU m':=fun k=>hG.ext k (by rintro(e|e)<;>have :=hr.pos<;>omega)
 have nB:m4.next<=m6.next:=k6.next;have nB':=kB'.next;have n4:=k4.next;obtain⟨q9,m9,fM,e9,pY,kh,Ky⟩:=rX (K:=K) gC (gl kC) hrB h4;have kD:Kp m fM (fun y=>y=r\/y=b2):=kC.trans kh fun _ _ h=> .inl h
 have gD:=g.ext kD;have oD1:=ak5.ext kh r1;have oD2:=oB2.ext kh r2;have n10:=kh.next;have adp:∃t m' v,Ck K (bN 126) (vu (ax 126) 5 7) ⟨t1,mB,[]⟩ .normal ⟨t,m',[]⟩/\cH [0,2,3] t=[vP r 0,vP b1 0,vP b2 0]/\Kp fM m' (fun y=>y=r\/y=b2)/\lI m' r T s5/\Obj m' b2 0 [va,v,.nilIface]/\rO.R (fY fM m') src m' v:=by
  cases fr with
  |false=>
   cases h5;obtain⟨t,x1,x2⟩:=bQ (K:=K) (m:=mB) (m':=fM) (ZN r b1 b2 q9) eB (.mem e9<| .call pY<| .cond rfl<| .nil);exact⟨t,fM,_,x1,x2,Kp.refl _ _,Ky,oD2,bj.nil⟩
  |true=>
   obtain⟨v,LR,xg,Hw,alJ,q11⟩:=amW (K:=K) hn gD (gl kD) Ky h5;obtain⟨y8,zv,Yd,vM⟩:=gu (o:=1) v (oD2.ext Hw r2) ((own (kD.trans Hw fun _ _ h=> .inl h) av).may _ _) (ag rfl) (bj.gy q11).1;obtain⟨t,x1,x2⟩:=bQ (K:=K) (m:=mB) (m':=y8) (ZM r b1 b2 v q9) eB (.mem e9<| .call pY<| .cond rfl<| .call xg<| .mem zv<| .nil);refine⟨t,y8,v,x1,x2,(Hw.mono fun _ _ h=> .inl h).trans (vM.mono fun _ _ h=> .inr h) fun _ _ h=>h,alJ.ext vM (fun e=>r2 e.symm),Yd,rO.up q11 vM fun b hb=> .inl ?_⟩;omega
 obtain⟨t2,mC,vb,wC,eC,kC',hrC,oC2,qb⟩:=adp;have oC1:=oD1.ext kC' (fun h=>h.elim r1 Ir);have kE:Kp m mC (fun y=>y=r\/y=b2):=kD.trans kC' fun _ _ h=>h
 have gE:=g.ext kE;have nC:=kC'.next;obtain⟨XW,LQ,IC,FC,Pw,r8,aht⟩:=rX (K:=K) gE (gl kE) hrC h6;have kF:Kp m IC (fun y=>y=r\/y=b2):=kE.trans r8 fun _ _ h=> .inl h
 have gF:=g.ext kF;have oF1:=oC1.ext r8 r1;have oF2:=oC2.ext r8 r2;have n14:=r8.next;have ado:∃t m',Ck K (bN 126) (vu (ax 126) 7 9) ⟨t2,mC,[]⟩ .normal ⟨t,m',[]⟩/\cH [2,3] t=[vP b1 0,vP b2 0]/\Kp IC m' (fun y=>y=r\/y=b2)/\lI m' r T s7/\Obj m' b2 0 [va,vb,ex.val]:=by
  cases wh with
  |false=>
   cases h7;obtain⟨t,x1,x2⟩:=bQ (K:=K) (m:=mC) (m':=IC) (ZL r b1 b2 XW) eC (.mem FC<| .call Pw<| .cond rfl<| .nil);exact⟨t,IC,x1,x2,Kp.refl _ _,aht,oF2⟩
  |true=>
   obtain⟨Yg,Pv,Yp,alG⟩:=MT (K:=K) hn IC s6 ex s7 gF (gl kF) aht h7;obtain⟨VO,e16,NZ,Yo⟩:=gu (o:=2) ex.val (oF2.ext Yp r2) ((own (kF.trans Yp fun _ _ h=> .inl h) av).may _ _) (ag rfl) ex.gy;obtain⟨t,x1,x2⟩:=bQ (K:=K) (m:=mC) (m':=VO) (ZK r b1 b2 ex.val XW) eC (.mem FC<| .call Pw<| .cond rfl<| .call Pv<| .mem e16<| .nil);exact⟨t,VO,x1,x2,(Yp.mono fun _ _ h=> .inl h).trans (Yo.mono fun _ _ h=> .inr h) fun _ _ h=>h,alG.ext Yo (fun e=>r2 e.symm),NZ⟩
 obtain⟨t3,mD,wD,eD,kD',hrD,ak3⟩:=ado;have ak4:=oF1.ext kD' (fun h=>h.elim r1 Ir);have kG:Kp m mD (fun y=>y=r\/y=b2):=kF.trans kD' fun _ _ h=>h
 have nD:=kD'.next;have qa1:=(bj.gy qa).2;have qb1:=(bj.gy qb).2;obtain⟨m17,e17,Ua,k17⟩:=dO (o:=0) [va,vb,ex.val] ak4 ((own kG av).may _ _) (ag rfl) (by simp[qa1,qb1,ex.one]);have eL:eJ 3 b2 0 mD=some (.agg #[va,vb,ex.val],mD):=bY (vs:=[va,vb,ex.val]) ak3 rfl (ag rfl);obtain⟨t4,w4,e4'⟩:=bQ (K:=K) (m:=mD) (m':=m17) (aeI b1 b2 va vb ex.val) eD (.mem eL<| .mem e17 .nil);have eR:fV ae 103 (vP b1 0) m17=some (.agg #[va,vb,ex.val],m17):=dK Ua rfl TY.1 TY.2;refine⟨_,m17,Af agO (aX.cut w0 (aX.cut wB (aX.cut wC (aX.cut wD (aX.last w4 NT))))) (.inr rfl) e4' eR,?_,hrD.ext k17 (fun e=>r1 e.symm),va,vb,rfl,?_,?_⟩
 ·exact(kG.mono fun b hb h=>h.elim id fun e=>absurd e av).new k17 (ai _) fun b hb=>by omega
 ·have kk:Kp mB m17 (fun y=>y=r\/y=b2\/y=b1):=((((kh.mono fun _ _ h=> .inl h).trans (kC'.mono fun _ _ h=>h.imp id .inl) fun _ _ h=>h).trans (r8.mono fun _ _ h=> .inl h) fun _ _ h=>h).trans (kD'.mono fun _ _ h=>h.imp id .inl) fun _ _ h=>h).trans (k17.mono fun _ _ h=> .inr (.inr h)) fun _ _ h=>h
  exact iF.down (iF.up qa kk fun b hb=> .inl (by rcases hb with hb|hb|hb<;>omega)) kB
 ·have kk:Kp mC m17 (fun y=>y=r\/y=b2\/y=b1):=((r8.mono fun _ _ h=> .inl h).trans (kD'.mono fun _ _ h=>h.imp id .inl) fun _ _ h=>h).trans (k17.mono fun _ _ h=> .inr (.inr h)) fun _ _ h=>h
  exact rO.down (rO.up qb kk fun b hb=> .inl (by rcases hb with hb|hb|hb<;>omega)) kD
theorem c90 {n:Nat}(hn:n<90000):Pj K T r 90 (D9 T n) gG:=by
 intro m s x s' g hG hr h;obtain⟨⟨x1,s1⟩,h1,h⟩:=ay.1 h;obtain⟨⟨us,s2⟩,h2,h⟩:=ar.1 h;cases h;have Sq:=hr.obj.lt;obtain⟨m1,e1,o1,k1,n1,_⟩:=aQ g [.slice none 0 0,.slice none 0 0,.nilIface,.slice none 0 0];have g1:=g.ext k1;obtain⟨v1,m2,e2,k2,pA,q2⟩:=aiP (K:=K) hn m1 s x1 s1 g1 (hG.aM k1) (hr.aM k1) h1;obtain⟨va,vb,vc,rfl,ca,cb,cc⟩:=j4.three q2;have g2:=g1.ext k2;have lM:Kp m m2 (atR r):=k1.mo.trans k2 fun _ _ h=>h
 obtain⟨m3,m4,e3,e4,o4,k4,n4⟩:=eH g2 [.slice none 0 0,.slice none 0 0,.nilIface,.slice none 0 0] [va,vb,vc,.slice none 0 0] rfl (by simp[ca,cb,cc];rfl);obtain⟨b1,j8⟩:∃b,b=m.next:=⟨_,rfl⟩;obtain⟨b2,iW⟩:∃b,b=m2.next:=⟨_,rfl⟩;rw[<-j8]at e1 o1;rw[<-iW]at e3 e4 o4;have nn2:=k2.next;have r1:¬atR r b1:=fun e=>by have e:b1=r:=e;omega
 have r2:¬atR r b2:=fun e=>by have e:b2=r:=e;omega
 have Ir:b1≠b2:=av;have Ub:=(o1.ext k2 r1).aM k4;have q4:=j4.up0 q2 k4;have jV:=lM.aN k4;obtain⟨t0,w0,e0⟩:=bQ (K:=K) (m:=m) (m':=m4) (tm:=entry [vP r 0]) (ajt r va vb vc b1 b2) rfl (.mem e1<| .call e2<| .mem e3<| .mem e4 .nil);obtain⟨P2,hP2⟩:∃P:Nat->Prop,P=fun y=>y=r\/y=b2:=⟨_,rfl⟩
 have Y':∀y,y=r->P2 y:=fun y h=>by rw[hP2];exact .inl h
 have P2b:∀y,y=b2->P2 y:=fun y h=>by rw[hP2];exact .inr h
 have P2e:∀y,P2 y->y=r\/y=b2:=fun y h=>by rw[hP2]at h;exact h
 obtain⟨e,t1,m5,he,hx,rfl,hg5,Ud,zR,vd,q5,od5⟩:=jP (K:=K) (nt:=bN 90) (a:=bh (ax 90) [2])
  (Inv:=fun k tm m'=>∃acc s3 sv,cH [0,2,3] tm=[vP r 0,vP b1 0,vP b2 0]/\acc.length+k<=90001/\Kp m4 m' P2/\lI m' r T s3/\Obj m' b2 0 [va,vb,vc,sv]/\LS tq 4 m4 m' acc sv/\xT T n k acc s3=some (us,s2))
  (dA:=fun e tm m'=>e= .exit 0/\cH [2,3] tm=[vP b1 0,vP b2 0]/\Kp m4 m' P2/\lI m' r T s2/\∃vd,Obj m' b2 0 [va,vb,vc,vd]/\(bj tq 4).R (fY m4 m') us m' vd)
  (by
   rintro k tm m5 ⟨acc,s3,sv,hg,hl,kk,zR,o5,ls,hm⟩;have pD:Kp m m5 P2:=(jV.mono fun y _ h=>Y' y h).trans kk fun _ _ h=>h
   have gl:∀{m':Mem},Kp m m' P2->iU m':=fun k=>hG.ext k (fun e=>by rcases P2e _ e with e|e<;>have :=hr.pos<;>omega)
   have g5:=g.ext pD;cases k with
   |zero=>unfold xT at hm;cases hm
   |succ k=>
    unfold xT at hm;obtain⟨⟨bo,s4⟩,h4,hm⟩:=ay.1 hm;obtain⟨q6,m6,m7,e6,e7,k7,Fl⟩:=rX (K:=K) g5 (gl pD) zR h4;have o7:=o5.ext k7 r2;have nn5:=kk.next;have nn7:=k7.next;have hPr:∀(y:Nat),atR r y->P2 y:=Y';cases bo with
    |false=>
     cases hm;obtain⟨t2,dk,dm⟩:=aU (K:=K) (m:=m5) (m':=m7) QK (ajq r b1 b2 q6) hg (.mem e6<| .call e7<| .cond rfl<| .nil);exact .inr ⟨.exit 0,t2,m7,(fun h=>by cases h),dk,rfl,dm,kk.trans k7 fun y _ h=>Y' y h,Fl,sv,o7,(ls.ext k7 fun b e=> .inl (by have e:b=r:=e;omega)).fin⟩
    |true=>
     simp only[if_true]at hm;obtain⟨⟨al,s5⟩,h5,hm⟩:=ay.1 hm;obtain⟨⟨y,s6⟩,h6,hm⟩:=ay.1 hm;have yb:Kp m m7 P2:=pD.trans k7 fun y _ h=>Y' y h
     have g7:=g.ext yb;obtain⟨q8,m8,m9,e8,e9,k9,hr9⟩:=rX (K:=K) g7 (gl yb) Fl h5;have F6:Kp m m9 P2:=yb.trans k9 fun y _ h=>Y' y h
     have g9:=g.ext F6;have o9:=o7.ext k9 r2;obtain⟨v10,fM,pY,kh,Ky,q10⟩:=aiP (K:=K) hn m9 s5 y s6 g9 (gl F6) hr9 h6;obtain⟨wa,wb,wc,rfl,da,db,dc⟩:=j4.three q10;have IB:=o9.ext kh r2;have YU:=g9.ext kh;have nn9:=k9.next;have aaO:=kh.next;have ag8:=bP (bP k7 k9) kh;have fp:(fM.blk b2).bw=(m9.blk b2).bw:=by rw[kh.blk b2 o9.lt r2]
     have xg:=vw (o:=3) (t:=104) (v:=sv) IB rfl fp;have qn:tq.R (fY m5 fM) ⟨al,y⟩ fM (.agg #[.bool al,wa,wb,wc]):=⟨wa,wb,wc,rfl,j4.down q10 (bP k7 k9)⟩;obtain⟨y8,LQ,Iz,zv,g12,_,FC,tS,alf,ov⟩:=ls.add (t:=104) g5 (g.ext jV) kk rfl dB ag8 (fun b hb=> .inl (by have e:b=r:=hb;omega)) qn (tq.ok qn) av;have g13:=YU.ext tS;have nb2:¬fY m4 m5 b2:=fun e=>by have :=e.1;omega
     have ahc:Kp m LQ P2:=(F6.trans kh fun y _ h=>Y' y h).new tS (ai _) fun b hb=>(by have :=hb.1;omega)
     obtain⟨IC,Pw,aaM,r8⟩:=gu (o:=3) Iz (IB.ext tS nb2) ((g.own ahc av).may _ _) (ag rfl) ov;have e9':=dh (m:=m9) b2 3;obtain⟨t2,dk,dm⟩:=aU (K:=K) (m:=m5) (m':=IC) QK (ajr r b1 b2 al sv Iz wa wb wc q6 q8 (m9.blk b2).bw fM.next) hg (.mem e6<| .call e7<| .cond rfl<| .mem e8<| .call e9<| .mem (aJ fP rfl)<| .mem (dh _ _)<| .mem (bW fP)<| .call pY<| .mem xg<| .mem zv<| .mem (bW fP)<| .mem FC<| .mem (bW fP)<| .mem Pw<| .nil);refine .inl ⟨k,t2,IC,av,dk,acc++[⟨al,y⟩],s6,Iz,dm,by simp;omega,?_,?_,aaM,alf.ext r8 (fun b e=> .inl av),hm⟩
     ·exact((kk.trans ag8 fun y _ h=>Y' y h).new tS (ai _) fun b hb=>hb.1).trans r8 fun y _ h=>P2b y h
     ·exact(Ky.ext tS (fun e=>by have :=e.1;omega)).ext r8 (fun e=>r2 e.symm))
  (n:=n) (k:=100000) (tm:=t0) (m:=m4) ⟨[],s1,_,e0,by simp;omega,Kp.refl _ _,pA.aM k4,o4,LS.nil,h2⟩ av
 have pD:Kp m m5 P2:=(jV.mono fun y _ h=>Y' y h).trans Ud fun _ _ h=>h
 have oV:=(bj.gy od5).2;have o15:=Ub.ext Ud (fun e=>by rcases P2e _ e with e|e;exact r1 e;exact Ir e);obtain⟨m6,e6,o6,k6⟩:=dO (o:=0) [va,vb,vc,vd] o15 ((g.own pD av).may _ _) (ag rfl) (by simp[ca,cb,cc,oV]);have eL:eJ 4 b2 0 m5=some (.agg #[va,vb,vc,vd],m5):=bY (vs:=[va,vb,vc,vd]) q5 rfl (ag rfl);obtain⟨t2,w2,H0⟩:=bQ (K:=K) (m:=m5) (m':=m6) (ajs b1 b2 va vb vc vd) hg5 (.mem eL<| .mem e6 .nil);have eR:fV ae 106 (vP b1 0) m6=some (.agg #[va,vb,vc,vd],m6):=dK o6 rfl TX.1 TX.2;have nn4:=k4.next;have k46:Kp m4 m6 (fun y=>P2 y\/y=b1):=(Ud.mono fun _ _ h=> .inl h).trans (k6.mono fun _ _ h=> .inr h) fun _ _ h=>h
 refine⟨_,m6,Af akX (aX.cut w0 (aX.iH aa2 aa6 hx rfl (aX.last w2 QJ))) (.inr rfl) H0 eR,?_,zR.ext k6 (fun e=>r1 e.symm),va,vb,vc,vd,rfl,?_,?_⟩
 ·exact(pD.mono fun b hb h=>(P2e b h).elim id fun e=>absurd e av).new k6 (ai _) fun b hb=>by omega
 ·refine j4.down (j4.up q2 (k4.mo.trans k46 fun _ _ h=>h) ?_) k1;rintro b (hb|hb)
  ·rcases P2e _ hb with hb|hb
   ·exact .inl av
   ·exact .inr av
  ·exact .inl av
 ·refine(bj tq 4).down ((bj tq 4).up od5 k6 fun b hb=> .inl av) jV
end
end Go.AM
namespace Go.AM
set_option maxRecDepth 1000000
open Go Go.Conc Go.Proofs
structure St (m:Mem)(r:Nat)(T:ByteArray)(s:RS):Prop where
 g:Gd m
 G:iU m
 r:lI m r T s
section
variable {K:iK}{m m':Mem}{r:Nat}{T:ByteArray}{s s':RS}
theorem St.aM(h:St m r T s)(k:Kp m m' eU):St m' r T s:=⟨h.g.ext k,h.G.aM k,h.r.aM k⟩
theorem St.ext{S:Nat->Prop}(h:St m r T s)(k:Kp m m' S)(hS:∀b,b<m.next->S b->b≠r/\b≠0):St m' r T s:=
 ⟨h.g.ext k,h.G.ext k fun e=>(hS _ h.G.lt e).2 rfl,h.r.ext k fun e=>(hS _ h.r.obj.lt e).1 rfl⟩
theorem St.wH(h:St m r T s){k:Int}{w:W}(hp:iq T [k] w0 s=some (w,s')):
  ∃q m1 m',ao ae 120 1 [(0,vI k)] m=some (vL q 0 1 1,m1)/\Ev K 31 [vP r 0,vL q 0 1 1] m1 w.val m'/\Kp m m' (atR r)/\St m' r T s':=by
 obtain⟨q,m1,m',e1,e2,k,hr⟩:=Dp (K:=K) h.g h.G h.r hp;exact⟨q,m1,m',e1,e2,k,h.g.ext k,h.G.l9 k h.r.pos,hr⟩
theorem St.agX(h:St m r T s){k1 k2 k3:Int}{w:W}(hp:iq T [k1,k2,k3] w0 s=some (w,s')):
  ∃q m1 m',ao ae 120 3 [(0,vI k1),(1,vI k2),(2,vI k3)] m=some (vL q 0 3 3,m1)/\Ev K 31 [vP r 0,vL q 0 3 3] m1 w.val m'/\Kp m m' (atR r)/\St m' r T s':=by
 obtain⟨m1,e1,o1,kk⟩:=ks3 h.g k1 k2 k3;obtain⟨m2,e2,k2,pA⟩:=c31 (K:=K) (c:=3) (h.g.ext kk) (h.G.aM kk) (h.r.aM kk) o1 (fun e=>by have :=h.r.obj.lt;omega) cK hp;have k:Kp m m2 (atR r):=kk.mo.trans k2 fun _ _ h=>h
 exact⟨_,_,_,e1,e2,k,h.g.ext k,h.G.l9 k h.r.pos,pA⟩
theorem St.skip(h:St m r T s){k:Int}{b:Bool}(hp:jq T [k] s=some (b,s')):
  ∃q m1 m',ao ae 120 1 [(0,vI k)] m=some (vL q 0 1 1,m1)/\Ev K 30 [vP r 0,vL q 0 1 1] m1 (.bool b) m'/\Kp m m' (atR r)/\St m' r T s':=by
 obtain⟨q,m1,m',e1,e2,k,hr⟩:=rX (K:=K) h.g h.G h.r hp;exact⟨q,m1,m',e1,e2,k,h.g.ext k,h.G.l9 k h.r.pos,hr⟩
theorem Pj.go{α:Type}{f:Nat}{p:RS->Option (α×RS)}{E:j6 α}(hp:Pj K T r f p E)(h:St m r T s){x:α}(hx:p s=some (x,s')):
  ∃v m',Ev K f [vP r 0] m v m'/\Kp m m' (atR r)/\St m' r T s'/\E.R (fY m m') x m' v:=by
 obtain⟨v,m',e,k,hr,q⟩:=hp m s x s' h.g h.G h.r hx;exact⟨v,m',e,k,⟨h.g.ext k,h.G.l9 k h.r.pos,hr⟩,q⟩
theorem Rd.go{α:Type}{f:Nat}{p:RS->Option (α×RS)}{val:α->af}(hp:Rd K T r f p val)(h:St m r T s){x:α}(hx:p s=some (x,s')):
  ∃m',Ev K f [vP r 0] m (val x) m'/\Kp m m' (atR r)/\St m' r T s':=by
 obtain⟨m',e,k,hr⟩:=hp m s x s' h.g h.G h.r hx;exact⟨m',e,k,h.g.ext k,h.G.l9 k h.r.pos,hr⟩
theorem St.list(h:St m r T s){α:Type}{E:j6 α}{f t sz g:Nat}{p:RS->Option (α×RS)}(L:zz f t)(hp:Pj K T r g p E)(hE:∀{B x m v},E.R B x m v->okV sz v){n:Nat}(hn:n<90000){l:List α}(hx:r7 p T n s=some (l,s'))
  (ht:yH.contains (t,sz)=true:=by rfl)(Ui:sz<=6:=by decide):
  ∃v m',Ev K f [vP r 0,.func (.func g) #[vP r 0] #[]] m v m'/\Kp m m' (atR r)/\St m' r T s'/\(bj E sz).R (fY m m') l m' v:=by
 obtain⟨v,m',e,k,hr,q,_⟩:=TE (K:=K) L ht Ui hp hE h.g h.G h.r hn hx;exact⟨v,m',e,k,⟨h.g.ext k,h.G.l9 k h.r.pos,hr⟩,q⟩
end
structure pM where
 n:ByteArray
 k:Int
abbrev pM.val(c:pM):af:= .agg #[.string c.n,vI c.k]
theorem pM.ok{B:Nat->Prop}{x:pM}{m:Mem}{v:af}(h:(jj pM.val).R B x m v):okV 2 v:=by
 have h:v=x.val:=h;subst h;exact⟨rfl,by simp[af.cells,af.oneCell']⟩
theorem Zq {B:Nat->Prop}{x:ByteArray}{m:Mem}{v:af}(h:(jj rE).R B x m v):okV 1 v:=by
 have h:v=rE x:=h;subst h;exact⟨rfl,by simp[af.cells,af.oneCell']⟩
theorem E.ok1{B:Nat->Prop}{x:E}{m:Mem}{v:af}(h:(jj E.val).R B x m v):okV 1 v:=by
 have h:v=x.val:=h;subst h;cases x<;>exact⟨rfl,by simp[E.val,af.cells,af.oneCell']⟩
structure Part where
 n:ByteArray
 cF:List ByteArray
 b:Body
structure Query where
 rc:Bool
 parts:List Part
 b:Body
def xf:j6 (List ByteArray):=bj (jj rE) 1
def oC:j6 Part where
 R B x m v:=∃c a b d e,v= .agg #[.string x.n,c,a,b,d,e]/\xf.R B x.cF m c/\gG.R B x.b m (.agg #[a,b,d,e])
 mono:=by
  rintro B B' x m v ⟨c,a,b,d,e,h,h1,h2⟩ k;exact⟨c,a,b,d,e,h,xf.mono h1 k,gG.mono h2 k⟩
 ext:=by
  rintro B S x m m' v ⟨c,a,b,d,e,h,h1,h2⟩ k hs;exact⟨c,a,b,d,e,h,xf.ext h1 k hs,gG.ext h2 k hs⟩
def q0:j6 Query where
 R B x m v:=∃c a b d e,v= .agg #[.bool x.rc,c,a,b,d,e]/\(bj oC 6).R B x.parts m c/\gG.R B x.b m (.agg #[a,b,d,e])
 mono:=by
  rintro B B' x m v ⟨c,a,b,d,e,h,h1,h2⟩ k;exact⟨c,a,b,d,e,h,(bj oC 6).mono h1 k,gG.mono h2 k⟩
 ext:=by
  rintro B S x m m' v ⟨c,a,b,d,e,h,h1,h2⟩ k hs;exact⟨c,a,b,d,e,h,(bj oC 6).ext h1 k hs,gG.ext h2 k hs⟩
theorem gG.four{B:Nat->Prop}{x:Body}{m:Mem}{v:af}(h:gG.R B x m v):∃a b c d,v= .agg #[a,b,c,d]/\a.oneCell'=true/\b.oneCell'=true/\c.oneCell'=true/\d.oneCell'=true:=by
 obtain⟨a,b,c,d,e,h1,h2⟩:=h;obtain⟨_,_,_,e',x1,x2,x3⟩:=j4.three h1;cases e';exact⟨a,b,c,d,e,x1,x2,x3,(bj.gy h2).2⟩
theorem oC.ok{B:Nat->Prop}{x:Part}{m:Mem}{v:af}(h:oC.R B x m v):okV 6 v:=by
 obtain⟨c,a,b,d,e,rfl,h1,h2⟩:=h;obtain⟨_,_,_,_,e',x1,x2,x3,x4⟩:=gG.four h2;cases e';exact⟨rfl,by simp[af.cells,(bj.gy h1).2,x1,x2,x3,x4];rfl⟩
inductive Sen where
 |create(n:ByteArray)(cF:List pM)
 |insert(n:ByteArray)(rows:List (List E))
 |query(q:Query)
def cU:j6 (List pM):=bj (jj pM.val) 2
def vq:j6 (List E):=bj (jj E.val) 1
def oB:j6 (List (List E)):=bj vq 1
def yy:j6 Sen where
 R B x m v:=match x with
  | .create n cF=>∃a,v= .iface 91 (.agg #[.string n,a])/\cU.R B cF m a
  | .insert n rows=>∃a,v= .iface 95 (.agg #[.string n,a])/\oB.R B rows m a
  | .query q=>∃a,v= .iface 108 a/\q0.R B q m a
 mono:=by
  rintro B B' x m v h k;cases x with
  |create n cF=>obtain⟨a,e,h⟩:=h;exact⟨a,e,cU.mono h k⟩
  |insert n rows=>obtain⟨a,e,h⟩:=h;exact⟨a,e,oB.mono h k⟩
  |query q=>obtain⟨a,e,h⟩:=h;exact⟨a,e,q0.mono h k⟩
 ext:=by
  rintro B S x m m' v h k hs;cases x with
  |create n cF=>obtain⟨a,e,h⟩:=h;exact⟨a,e,cU.ext h k hs⟩
  |insert n rows=>obtain⟨a,e,h⟩:=h;exact⟨a,e,oB.ext h k hs⟩
  |query q=>obtain⟨a,e,h⟩:=h;exact⟨a,e,q0.ext h k hs⟩
def Yk (T:ByteArray)(s:RS):Option (Int×RS):=(lK T [30,41,25] s).map fun x=>
 (if x.1.1.k=30 then 1 else if x.1.1.k=41 then 2 else if x.1.1.k=25 then 3 else 0,if x.1.2=true then x.2 else DN 1 x.2)
def ain (T:ByteArray)(s:RS):Option (pM×RS):=(wG T s).bind fun x=>(Yk T x.2).map fun k=>(⟨x.1,k.1⟩,k.2)
def adz (T:ByteArray)(n:Nat)(s:RS):Option (List E×RS):=(iq T [5] w0 s).bind fun a=>(r7 (BH T n) T n a.2).bind fun l=>(iq T [6] w0 l.2).map fun b=>(l.1,b.2)
def XZ (T:ByteArray)(n:Nat)(s:RS):Option (Part×RS):=(wG T s).bind fun x=>(iq T [5] w0 x.2).bind fun a=>(r7 (wG T) T n a.2).bind fun l=>(iq T [6,24,5] w0 l.2).bind fun b=>
 (D9 T n b.2).bind fun y=>(iq T [6] w0 y.2).map fun c=>(⟨x.1,l.1,y.1⟩,c.2)
def Jt (T:ByteArray)(n:Nat)(s:RS):Option (Query×RS):=(jq T [46] s).bind fun w=>
 if w.1=true then(jq T [38] w.2).bind fun rc=>(r7 (XZ T n) T n rc.2).bind fun l=>(D9 T n l.2).map fun y=>(⟨rc.1,l.1,y.1⟩,y.2)
 else(D9 T n w.2).map fun y=>(⟨false,[],y.1⟩,y.2)
def ML (T:ByteArray)(n:Nat)(s:RS):Option ((ByteArray×List pM)×RS):=(iq T [40] w0 s).bind fun a=>(wG T a.2).bind fun x=>(iq T [5] w0 x.2).bind fun b=>(r7 (ain T) T n b.2).bind fun l=>(iq T [6] w0 l.2).map fun c=>((x.1,l.1),c.2)
def Mc (T:ByteArray)(n:Nat)(s:RS):Option ((ByteArray×List (List E))×RS):=(iq T [31] w0 s).bind fun a=>(wG T a.2).bind fun x=>(iq T [44] w0 x.2).bind fun b=>(r7 (adz T n) T n b.2).map fun l=>((x.1,l.1),l.2)
def Zw (T:ByteArray)(n:Nat)(s:RS):Option (Sen×RS):=(jq T [26] s).bind fun a=>
 if a.1=true then(ML T n a.2).map fun x=>(.create x.1.1 x.1.2,x.2)
 else(jq T [29] a.2).bind fun b=>if b.1=true then(Mc T n b.2).map fun x=>(.insert x.1.1 x.1.2,x.2)else(Jt T n b.2).map fun x=>(.query x.1,x.2)
def OW:j6 (ByteArray×List pM) where
 R B x m v:=∃a,v= .agg #[.string x.1,a]/\cU.R B x.2 m a
 mono:=by rintro B B' x m v ⟨a,e,h⟩ k;exact⟨a,e,cU.mono h k⟩
 ext:=by rintro B S x m m' v ⟨a,e,h⟩ k hs;exact⟨a,e,cU.ext h k hs⟩
def OV:j6 (ByteArray×List (List E)) where
 R B x m v:=∃a,v= .agg #[.string x.1,a]/\oB.R B x.2 m a
 mono:=by rintro B B' x m v ⟨a,e,h⟩ k;exact⟨a,e,oB.mono h k⟩
 ext:=by rintro B S x m m' v ⟨a,e,h⟩ k hs;exact⟨a,e,oB.ext h k hs⟩
section
variable {K:iK}{m:Mem}{r:Nat}{T:ByteArray}{s s':RS}
theorem p85 (r:Nat)(n:ByteArray)(k:Int)(aH:Nat):Path 85 [(vP r 0)]
 [cp [some dU,some (vI 0)] aH,
  .call 83 [(vP r 0)] (aY n),
  .call 122 [(vP r 0)] (vI k),
  dV aH 0 [(aY n),(vI k)],
  lJ 128 aH (.agg #[(aY n),(vI k)])]
 (.agg #[(aY n),(vI k)]):=cg
theorem aaA (r:Nat)(w:W)(aH a0:Nat):Path 122 [(vP r 0)]
 [.mem (ao ae 120 3 [(0,(vI 30)),(1,(vI 41)),(2,(vI 25))]) (vL aH 0 3 3),
  .call 52 [(vP r 0),(vL aH 0 3 3)] (.tuple #[(mV w),(.bool false)]),
  cp yL a0,
  dV a0 0 (yM w),
  bV,
  .call 53 [(vP r 0),(vI 1)] (.tuple #[]),
  .mem (aI a0 0) (vI w.k),
  aD (aZ w.k 30) false,
  aD (aZ w.k 41) false,
  aD (aZ w.k 25) false]
 (vI 0):=cg
theorem U9 (r:Nat)(w:W)(aH a0:Nat):Path 122 [(vP r 0)]
 [.mem (ao ae 120 3 [(0,(vI 30)),(1,(vI 41)),(2,(vI 25))]) (vL aH 0 3 3),
  .call 52 [(vP r 0),(vL aH 0 3 3)] (.tuple #[(mV w),(.bool false)]),
  cp yL a0,
  dV a0 0 (yM w),
  bV,
  .call 53 [(vP r 0),(vI 1)] (.tuple #[]),
  .mem (aI a0 0) (vI w.k),
  aD (aZ w.k 30) true]
 (vI 1):=cg
theorem U8 (r:Nat)(w:W)(aH a0:Nat):Path 122 [(vP r 0)]
 [.mem (ao ae 120 3 [(0,(vI 30)),(1,(vI 41)),(2,(vI 25))]) (vL aH 0 3 3),
  .call 52 [(vP r 0),(vL aH 0 3 3)] (.tuple #[(mV w),(.bool false)]),
  cp yL a0,
  dV a0 0 (yM w),
  bV,
  .call 53 [(vP r 0),(vI 1)] (.tuple #[]),
  .mem (aI a0 0) (vI w.k),
  aD (aZ w.k 30) false,
  aD (aZ w.k 41) true]
 (vI 2):=cg
theorem U7 (r:Nat)(w:W)(aH a0:Nat):Path 122 [(vP r 0)]
 [.mem (ao ae 120 3 [(0,(vI 30)),(1,(vI 41)),(2,(vI 25))]) (vL aH 0 3 3),
  .call 52 [(vP r 0),(vL aH 0 3 3)] (.tuple #[(mV w),(.bool false)]),
  cp yL a0,
  dV a0 0 (yM w),
  bV,
  .call 53 [(vP r 0),(vI 1)] (.tuple #[]),
  .mem (aI a0 0) (vI w.k),
  aD (aZ w.k 30) false,
  aD (aZ w.k 41) false,
  aD (aZ w.k 25) true]
 (vI 3):=cg
theorem aaz (r:Nat)(w:W)(aH a0:Nat):Path 122 [(vP r 0)]
 [.mem (ao ae 120 3 [(0,(vI 30)),(1,(vI 41)),(2,(vI 25))]) (vL aH 0 3 3),
  .call 52 [(vP r 0),(vL aH 0 3 3)] (.tuple #[(mV w),(.bool true)]),
  cp yL a0,
  dV a0 0 (yM w),
  bm,
  .mem (aI a0 0) (vI w.k),
  aD (aZ w.k 30) false,
  aD (aZ w.k 41) false,
  aD (aZ w.k 25) false]
 (vI 0):=cg
theorem U6 (r:Nat)(w:W)(aH a0:Nat):Path 122 [(vP r 0)]
 [.mem (ao ae 120 3 [(0,(vI 30)),(1,(vI 41)),(2,(vI 25))]) (vL aH 0 3 3),
  .call 52 [(vP r 0),(vL aH 0 3 3)] (.tuple #[(mV w),(.bool true)]),
  cp yL a0,
  dV a0 0 (yM w),
  bm,
  .mem (aI a0 0) (vI w.k),
  aD (aZ w.k 30) true]
 (vI 1):=cg
theorem U5 (r:Nat)(w:W)(aH a0:Nat):Path 122 [(vP r 0)]
 [.mem (ao ae 120 3 [(0,(vI 30)),(1,(vI 41)),(2,(vI 25))]) (vL aH 0 3 3),
  .call 52 [(vP r 0),(vL aH 0 3 3)] (.tuple #[(mV w),(.bool true)]),
  cp yL a0,
  dV a0 0 (yM w),
  bm,
  .mem (aI a0 0) (vI w.k),
  aD (aZ w.k 30) false,
  aD (aZ w.k 41) true]
 (vI 2):=cg
theorem U4 (r:Nat)(w:W)(aH a0:Nat):Path 122 [(vP r 0)]
 [.mem (ao ae 120 3 [(0,(vI 30)),(1,(vI 41)),(2,(vI 25))]) (vL aH 0 3 3),
  .call 52 [(vP r 0),(vL aH 0 3 3)] (.tuple #[(mV w),(.bool true)]),
  cp yL a0,
  dV a0 0 (yM w),
  bm,
  .mem (aI a0 0) (vI w.k),
  aD (aZ w.k 30) false,
  aD (aZ w.k 41) false,
  aD (aZ w.k 25) true]
 (vI 3):=cg
theorem p87 (r:Nat)(w w2:W)(v:af)(aH a0:Nat):Path 87 [(vP r 0)]
 [.mem (ao ae 120 1 [(0,(vI 5))]) (vL aH 0 1 1),
  .call 31 [(vP r 0),(vL aH 0 1 1)] (mV w),
  .call 123 [(vP r 0),(.func (.func 124) #[(vP r 0)] #[])] v,
  .mem (ao ae 120 1 [(0,(vI 6))]) (vL a0 0 1 1),
  .call 31 [(vP r 0),(vL a0 0 1 1)] (mV w2)]
 v:=cg
theorem p89 (r:Nat)(n:ByteArray)(w w2 w3:W)(v a b c d:af)(aH a0 cf rq XF:Nat):Path 89 [(vP r 0)]
 [cp [some dU,some (.slice none 0 0),some (.slice none 0 0),some (.slice none 0 0),some .nilIface,some (.slice none 0 0)] aH,
  .call 83 [(vP r 0)] (aY n),
  cp [some dU,some (.slice none 0 0),some (.slice none 0 0),some (.slice none 0 0),some .nilIface,some (.slice none 0 0)] a0,
  dV a0 0 [(aY n),(.slice none 0 0),(.slice none 0 0),(.slice none 0 0),.nilIface,(.slice none 0 0)],
  .mem (ao ae 120 1 [(0,(vI 5))]) (vL cf 0 1 1),
  .call 31 [(vP r 0),(vL cf 0 1 1)] (mV w),
  .call 125 [(vP r 0),(.func (.func 83) #[(vP r 0)] #[])] v,
  .mem (jo a0 1 v) undef,
  .mem (ao ae 120 3 [(0,(vI 6)),(1,(vI 24)),(2,(vI 5))]) (vL rq 0 3 3),
  .call 31 [(vP r 0),(vL rq 0 3 3)] (mV w2),
  .call 90 [(vP r 0)] (.agg #[a,b,c,d]),
  dV a0 2 [a,b,c,d],
  .mem (ao ae 120 1 [(0,(vI 6))]) (vL XF 0 1 1),
  .call 31 [(vP r 0),(vL XF 0 1 1)] (mV w3),
  ie 6 a0 (.agg #[(aY n),v,a,b,c,d]),
  dV aH 0 [(aY n),v,a,b,c,d],
  lJ 135 aH (.agg #[(aY n),v,a,b,c,d])]
 (.agg #[(aY n),v,a,b,c,d]):=cg
theorem aj8 (r:Nat)(a b c d:af)(aH a0 cf:Nat):Path 51 [(vP r 0)]
 [cp [some (.bool false),some (.slice none 0 0),some (.slice none 0 0),some (.slice none 0 0),some .nilIface,some (.slice none 0 0)] aH,
  cp [some (.bool false),some (.slice none 0 0),some (.slice none 0 0),some (.slice none 0 0),some .nilIface,some (.slice none 0 0)] a0,
  .mem (ao ae 120 1 [(0,(vI 46))]) (vL cf 0 1 1),
  .call 30 [(vP r 0),(vL cf 0 1 1)] (.bool false),
  bm,
  .call 90 [(vP r 0)] (.agg #[a,b,c,d]),
  dV a0 2 [a,b,c,d],
  ie 6 a0 (.agg #[(.bool false),(.slice none 0 0),a,b,c,d]),
  dV aH 0 [(.bool false),(.slice none 0 0),a,b,c,d],
  lJ 108 aH (.agg #[(.bool false),(.slice none 0 0),a,b,c,d])]
 (.agg #[(.bool false),(.slice none 0 0),a,b,c,d]):=cg
theorem aj7 (r:Nat)(rc:Bool)(v a b c d:af)(aH a0 cf rq:Nat):Path 51 [(vP r 0)]
 [cp [some (.bool false),some (.slice none 0 0),some (.slice none 0 0),some (.slice none 0 0),some .nilIface,some (.slice none 0 0)] aH,
  cp [some (.bool false),some (.slice none 0 0),some (.slice none 0 0),some (.slice none 0 0),some .nilIface,some (.slice none 0 0)] a0,
  .mem (ao ae 120 1 [(0,(vI 46))]) (vL cf 0 1 1),
  .call 30 [(vP r 0),(vL cf 0 1 1)] (.bool true),
  bV,
  .mem (ao ae 120 1 [(0,(vI 38))]) (vL rq 0 1 1),
  .call 30 [(vP r 0),(vL rq 0 1 1)] (.bool rc),
  .mem (jo a0 0 (.bool rc)) undef,
  .call 88 [(vP r 0),(.func (.func 89) #[(vP r 0)] #[])] v,
  .mem (jo a0 1 v) undef,
  .call 90 [(vP r 0)] (.agg #[a,b,c,d]),
  dV a0 2 [a,b,c,d],
  ie 6 a0 (.agg #[(.bool rc),v,a,b,c,d]),
  dV aH 0 [(.bool rc),v,a,b,c,d],
  lJ 108 aH (.agg #[(.bool rc),v,a,b,c,d])]
 (.agg #[(.bool rc),v,a,b,c,d]):=cg
theorem p49 (r:Nat)(n:ByteArray)(w w2 w3:W)(v:af)(aH a0 cf rq XF:Nat):Path 49 [(vP r 0)]
 [cp [some dU,some (.slice none 0 0)] aH,
  .mem (ao ae 120 1 [(0,(vI 40))]) (vL a0 0 1 1),
  .call 31 [(vP r 0),(vL a0 0 1 1)] (mV w),
  .call 83 [(vP r 0)] (aY n),
  cp [some dU,some (.slice none 0 0)] cf,
  dV cf 0 [(aY n),(.slice none 0 0)],
  .mem (ao ae 120 1 [(0,(vI 5))]) (vL rq 0 1 1),
  .call 31 [(vP r 0),(vL rq 0 1 1)] (mV w2),
  .call 84 [(vP r 0),(.func (.func 85) #[(vP r 0)] #[])] v,
  .mem (jo cf 1 v) undef,
  .mem (ao ae 120 1 [(0,(vI 6))]) (vL XF 0 1 1),
  .call 31 [(vP r 0),(vL XF 0 1 1)] (mV w3),
  ie 2 cf (.agg #[(aY n),v]),
  dV aH 0 [(aY n),v],
  lJ 91 aH (.agg #[(aY n),v])]
 (.agg #[(aY n),v]):=cg
theorem p50 (r:Nat)(n:ByteArray)(w w2:W)(v:af)(aH a0 cf rq:Nat):Path 50 [(vP r 0)]
 [cp [some dU,some (.slice none 0 0)] aH,
  .mem (ao ae 120 1 [(0,(vI 31))]) (vL a0 0 1 1),
  .call 31 [(vP r 0),(vL a0 0 1 1)] (mV w),
  .call 83 [(vP r 0)] (aY n),
  cp [some dU,some (.slice none 0 0)] cf,
  dV cf 0 [(aY n),(.slice none 0 0)],
  .mem (ao ae 120 1 [(0,(vI 44))]) (vL rq 0 1 1),
  .call 31 [(vP r 0),(vL rq 0 1 1)] (mV w2),
  .call 86 [(vP r 0),(.func (.func 87) #[(vP r 0)] #[])] v,
  .mem (jo cf 1 v) undef,
  ie 2 cf (.agg #[(aY n),v]),
  dV aH 0 [(aY n),v],
  lJ 95 aH (.agg #[(aY n),v])]
 (.agg #[(aY n),v]):=cg
theorem akm (r:Nat)(n:ByteArray)(v:af)(aH:Nat):Path 29 [(vP r 0)]
 [.mem (ao ae 120 1 [(0,(vI 26))]) (vL aH 0 1 1),
  .call 30 [(vP r 0),(vL aH 0 1 1)] (.bool true),
  bV,
  .call 49 [(vP r 0)] (.agg #[(aY n),v])]
 (.iface 91 (.agg #[(aY n),v])):=cg
theorem akl (r:Nat)(n:ByteArray)(v:af)(aH a0:Nat):Path 29 [(vP r 0)]
 [.mem (ao ae 120 1 [(0,(vI 26))]) (vL aH 0 1 1),
  .call 30 [(vP r 0),(vL aH 0 1 1)] (.bool false),
  bm,
  .mem (ao ae 120 1 [(0,(vI 29))]) (vL a0 0 1 1),
  .call 30 [(vP r 0),(vL a0 0 1 1)] (.bool true),
  bV,
  .call 50 [(vP r 0)] (.agg #[(aY n),v])]
 (.iface 95 (.agg #[(aY n),v])):=cg
theorem akk (r:Nat)(rc:Bool)(v a b c d:af)(aH a0:Nat):Path 29 [(vP r 0)]
 [.mem (ao ae 120 1 [(0,(vI 26))]) (vL aH 0 1 1),
  .call 30 [(vP r 0),(vL aH 0 1 1)] (.bool false),
  bm,
  .mem (ao ae 120 1 [(0,(vI 29))]) (vL a0 0 1 1),
  .call 30 [(vP r 0),(vL a0 0 1 1)] (.bool false),
  bm,
  .call 51 [(vP r 0)] (.agg #[(.bool rc),v,a,b,c,d])]
 (.iface 108 (.agg #[(.bool rc),v,a,b,c,d])):=cg
theorem TW:mT ae 128=some true/\dq ae 128=some 2:=⟨bp,bp⟩
theorem TV:mT ae 135=some true/\dq ae 135=some 6:=⟨bp,bp⟩
theorem FU:mT ae 108=some true/\dq ae 108=some 6:=⟨bp,bp⟩
theorem Y9:mT ae 91=some true/\dq ae 91=some 2:=⟨bp,bp⟩
theorem Y8:mT ae 95=some true/\dq ae 95=some 2:=⟨bp,bp⟩
theorem am7:Rd K T r 122 (Yk T) vI:=by
 intro m s x s' g hG hr h;obtain⟨⟨⟨w,b⟩,s1⟩,h1,h⟩:=ar.1 h;obtain⟨q,m1,m2,e1,e2,k2,pA⟩:=adj (K:=K) g hG hr h1;have g2:=g.ext k2;obtain⟨m3,m4,e3,e4,o4,k4,n4⟩:=eH g2 w0.cells w.cells rfl rfl;have WM:=pA.aM k4;have jV:=k2.aN k4;have dx:¬atR r m2.next:=fun e=>by have e:m2.next=r:=e;have :=pA.obj.lt;omega
 have b1:(.bool (aZ w.k 30):af)= .bool (decide (w.k=30)):=by rw[cu]
 have b2:(.bool (aZ w.k 41):af)= .bool (decide (w.k=41)):=by rw[cu]
 have b3:(.bool (aZ w.k 25):af)= .bool (decide (w.k=25)):=by rw[cu]
 have hx:=congrArg Prod.fst h;have hs:=congrArg Prod.snd h;clear h;simp only at hx hs;subst hx;cases b with
 |true=>
  rw[bL rfl]at hs;subst hs;refine⟨m4,?_,jV,WM⟩
  by_cases h1:w.k=30
  ·rw[dZ h1]at b1;rw[bL h1];exact ak (U6 r w q m2.next) (.mem e1<| .call e2<| .mem e3<| .mem e4<| .cond rfl<| .mem (aJ fP rfl)<| .cond b1<| .nil)
  rw[bT h1];rw[eO h1]at b1
  by_cases h2:w.k=41
  ·rw[dZ h2]at b2;rw[bL h2];exact ak (U5 r w q m2.next) (.mem e1<| .call e2<| .mem e3<| .mem e4<| .cond rfl<| .mem (aJ fP rfl)<| .cond b1<| .cond b2<| .nil)
  rw[bT h2];rw[eO h2]at b2
  by_cases h3:w.k=25
  ·rw[dZ h3]at b3;rw[bL h3];exact ak (U4 r w q m2.next) (.mem e1<| .call e2<| .mem e3<| .mem e4<| .cond rfl<| .mem (aJ fP rfl)<| .cond b1<| .cond b2<| .cond b3<| .nil)
  rw[bT h3];rw[eO h3]at b3;exact ak (aaz r w q m2.next) (.mem e1<| .call e2<| .mem e3<| .mem e4<| .cond rfl<| .mem (aJ fP rfl)<| .cond b1<| .cond b2<| .cond b3<| .nil)
 |false=>
  rw[bT dB]at hs;subst hs;obtain⟨m5,e5,k5,zR⟩:=c53 (K:=K) (g2.ext k4) WM 1;have o5:=o4.ext k5 dx;refine⟨m5,?_,bP jV k5,zR⟩
  by_cases h1:w.k=30
  ·rw[dZ h1]at b1;rw[bL h1];exact ak (U9 r w q m2.next) (.mem e1<| .call e2<| .mem e3<| .mem e4<| .cond rfl<| .call e5<| .mem (aJ fP rfl)<| .cond b1<| .nil)
  rw[bT h1];rw[eO h1]at b1
  by_cases h2:w.k=41
  ·rw[dZ h2]at b2;rw[bL h2];exact ak (U8 r w q m2.next) (.mem e1<| .call e2<| .mem e3<| .mem e4<| .cond rfl<| .call e5<| .mem (aJ fP rfl)<| .cond b1<| .cond b2<| .nil)
  rw[bT h2];rw[eO h2]at b2
  by_cases h3:w.k=25
  ·rw[dZ h3]at b3;rw[bL h3];exact ak (U7 r w q m2.next) (.mem e1<| .call e2<| .mem e3<| .mem e4<| .cond rfl<| .call e5<| .mem (aJ fP rfl)<| .cond b1<| .cond b2<| .cond b3<| .nil)
  rw[bT h3];rw[eO h3]at b3;exact ak (aaA r w q m2.next) (.mem e1<| .call e2<| .mem e3<| .mem e4<| .cond rfl<| .call e5<| .mem (aJ fP rfl)<| .cond b1<| .cond b2<| .cond b3<| .nil)
theorem c85:Rd K T r 85 (ain T) pM.val:=by
 intro m s x s' g hG hr h;obtain⟨⟨n,s1⟩,h1,h⟩:=ay.1 h;obtain⟨⟨k,s2⟩,h2,h⟩:=ar.1 h;cases h;have h0:St m r T s:=⟨g,hG,hr⟩;have Sq:=hr.obj.lt;obtain⟨m1,e1,o1,k1,n1,_⟩:=aQ g [.string .empty,vI 0];obtain⟨m2,e2,k2,t2⟩:=(Y2 (K:=K)).go (h0.aM k1) h1;obtain⟨m3,e3,k3,t3⟩:=(am7 (K:=K)).go t2 h2;have dx:¬atR r m.next:=fun e=>by have e:m.next=r:=e;omega
 have Yn:=bP k2 k3;have kk:Kp m m3 (atR r):=k1.mo.trans Yn fun _ _ h=>h
 obtain⟨m4,e4,o4,k4⟩:=dO (o:=0) [.string n,vI k] (o1.ext Yn dx) ((g.own kk (ai _)).may _ _) (ag rfl) rfl;have e5:fV ae 128 (vP m.next 0) m4=some (pM.val ⟨n,k⟩,m4):=dK o4 rfl TW.1 TW.2;exact⟨m4,ak (p85 r n k m.next) (.mem e1<| .call e2<| .call e3<| .mem e4<| .mem e5<| .nil),kk.new k4 (ai _) fun b hb=>av,t3.r.ext k4 av⟩
theorem c87 {n:Nat}(hn:n<90000):Pj K T r 87 (adz T n) vq:=by
 intro m s x s' g hG hr h;obtain⟨⟨w,s1⟩,h1,h⟩:=ay.1 h;obtain⟨⟨l,s2⟩,h2,h⟩:=ay.1 h;obtain⟨⟨w2,s3⟩,h3,h⟩:=ar.1 h;cases h;have h0:St m r T s:=⟨g,hG,hr⟩;have Sq:=hr.obj.lt;obtain⟨q1,m1,m2,e1,e2,k2,t2⟩:=h0.wH (K:=K) h1;obtain⟨v,m3,e3,k3,t3,q3⟩:=t2.list (K:=K) ag4 (MT hn).toM E.ok1 hn h2;obtain⟨q4,m4,m5,e4,e5,k5,t5⟩:=t3.wH (K:=K) h3;exact⟨v,m5,ak (p87 r w w2 v q1 q4) (.mem e1<| .call e2<| .call e3<| .mem e4<| .call e5<| .nil),bP (bP k2 k3) k5,t5.r,vq.down (vq.upR q3 k5 (by have :=k2.next;omega)) k2⟩
end
end Go.AM
namespace Go.AM
set_option maxRecDepth 1000000
open Go Go.Conc Go.Proofs
section
variable {K:iK}{m:Mem}{r:Nat}{T:ByteArray}{s s':RS}
theorem c89 {n:Nat}(hn:n<90000):Pj K T r 89 (XZ T n) oC:=by
 intro m s x s' g hG hr h;obtain⟨⟨nm,s1⟩,h1,h⟩:=ay.1 h;obtain⟨⟨w,s2⟩,h2,h⟩:=ay.1 h;obtain⟨⟨l,s3⟩,h3,h⟩:=ay.1 h;obtain⟨⟨w2,s4⟩,h4,h⟩:=ay.1 h;obtain⟨⟨y,s5⟩,h5,h⟩:=ay.1 h;obtain⟨⟨w3,s6⟩,h6,h⟩:=ar.1 h;cases h;have t0:St m r T s:=⟨g,hG,hr⟩;have Sq:=hr.obj.lt;have Sv:=hr.pos;obtain⟨m1,e1,o1,k1,n1,_⟩:=aQ g [.string .empty,.slice none 0 0,.slice none 0 0,.slice none 0 0,.nilIface,.slice none 0 0];obtain⟨m2,e2,k2,t2⟩:=(Y2 (K:=K)).go (t0.aM k1) h1;obtain⟨m3,m4,e3,e4,o4,k4,n4⟩:=eH t2.g [.string .empty,.slice none 0 0,.slice none 0 0,.slice none 0 0,.nilIface,.slice none 0 0] [.string nm,.slice none 0 0,.slice none 0 0,.slice none 0 0,.nilIface,.slice none 0 0] rfl rfl;obtain⟨b1,j8⟩:∃b,b=m.next:=⟨_,rfl⟩;obtain⟨b2,iW⟩:∃b,b=m2.next:=⟨_,rfl⟩;rw[<-j8]at e1 o1;rw[<-iW]at e3 e4 o4;have nn2:=k2.next;have r1:¬atR r b1:=fun e=>by have e:b1=r:=e;omega
 have r2:¬atR r b2:=fun e=>by have e:b2=r:=e;omega
 have Ir:b1≠b2:=av;have Ub:=(o1.ext k2 r1).aM k4;have t4:=t2.aM k4;have jV:Kp m m4 (atR r):=(k1.mo.trans k2 fun _ _ h=>h).aN k4;obtain⟨q5,m5,m6,e5,e6,k6,t6⟩:=t4.wH (K:=K) h2;obtain⟨va,m7,e7,k7,t7,qa⟩:=t6.list (K:=K) ag3 (Y2.toM) Zq hn h3;have k46:=k6;have Yl:=bP k6 k7;have yb:=bP jV Yl;have o7:=o4.ext Yl r2;have Ua:=Ub.ext Yl r1;have nn7:=Yl.next;have anv:=k6.next;have anu:=k7.next;obtain⟨m8,e8,o8,k8⟩:=gu (o:=1) va o7 ((g.own yb av).may _ _) (ag rfl) (bj.gy qa).1;have t8:St m8 r T s3:=t7.ext k8 fun b _ e=>by omega
 have o18:=Ua.ext k8 Ir;have P:∀{m':Mem},Kp m m' (fun y=>y=r\/y=b2)->Kp m m' (atR r):=fun k=>k.mono fun b hb h=>h.elim id fun e=>absurd e av
 have zg:Kp m m8 (atR r):=yb.new k8 (ai _) fun b hb=>by omega
 obtain⟨q9,m9,fM,e9,pY,kh,t10⟩:=t8.agX (K:=K) h4;obtain⟨vb,LR,xg,Hw,t11,qb⟩:=(c90 (K:=K) hn).go t10 h5;obtain⟨a,b,c,d,rfl,ca,cb,cc,cd⟩:=gG.four qb;have Wx:=bP kh Hw;have o11:=o8.ext Wx r2;have Fc:=bP zg Wx;have anl:=kh.next;have ak8:=Hw.next;have nn8:=k8.next;obtain⟨y8,zv,Yd,vM⟩:=dO (o:=2) [a,b,c,d] o11 ((g.own Fc av).may _ _) (ag rfl) (by simp[ca,cb,cc,cd]);have t12:St y8 r T s5:=t11.ext vM fun b _ e=>by omega
 have QR:=(o18.ext Wx r1).ext vM Ir;have Kn:Kp m y8 (atR r):=Fc.new vM (ai _) fun b hb=>by omega
 obtain⟨XW,LQ,IC,FC,Pw,r8,t14⟩:=t12.wH (K:=K) h6;have aaM:=Yd.ext r8 r2;have ahd:=bP Kn r8;have ak7:=vM.next;have anw:=r8.next;obtain⟨Yg,Pv,o15,Yp⟩:=dO (o:=0) [.string nm,va,a,b,c,d] (QR.ext r8 r1) ((g.own ahd av).may _ _) (ag rfl) (by simp[ca,cb,cc,cd,(bj.gy qa).2];rfl);have eL:eJ 6 b2 0 IC=some (.agg #[.string nm,va,a,b,c,d],IC):=bY (vs:=[.string nm,va,a,b,c,d]) aaM rfl (ag rfl);have eR:fV ae 135 (vP b1 0) Yg=some (.agg #[.string nm,va,a,b,c,d],Yg):=dK o15 rfl TV.1 TV.2;refine⟨_,Yg,ak (p89 r nm w w2 w3 va a b c d b1 b2 q5 q9 XW) (.mem e1<| .call e2<| .mem e3<| .mem e4<| .mem e5<| .call e6<| .call e7<| .mem e8<| .mem e9<| .call pY<| .call xg<| .mem zv<| .mem FC<| .call Pw<| .mem eL<| .mem Pv<| .mem eR .nil),ahd.new Yp (ai _) fun b hb=>by omega,t14.r.ext Yp av,va,a,b,c,d,rfl,?_,?_⟩
 ·have kk:Kp m7 Yg (fun y=>y=r\/y=b2\/y=b1):=((((k8.mono fun _ _ h=> .inr (.inl h)).trans (Wx.mono fun _ _ h=> .inl h) fun _ _ h=>h).trans (vM.mono fun _ _ h=> .inr (.inl h)) fun _ _ h=>h).trans (r8.mono fun _ _ h=> .inl h) fun _ _ h=>h).trans (Yp.mono fun _ _ h=> .inr (.inr h)) fun _ _ h=>h
  exact xf.down (xf.up qa kk fun b hb=> .inl (by rcases hb with hb|hb|hb<;>omega)) (bP jV k46)
 ·have kk:Kp LR Yg (fun y=>y=r\/y=b2\/y=b1):=((vM.mono fun _ _ h=> .inr (.inl h)).trans (r8.mono fun _ _ h=> .inl h) fun _ _ h=>h).trans (Yp.mono fun _ _ h=> .inr (.inr h)) fun _ _ h=>h
  exact gG.down (gG.up qb kk fun b hb=> .inl (by rcases hb with hb|hb|hb<;>omega)) (bP zg kh)
theorem c51 {n:Nat}(hn:n<90000):Pj K T r 51 (Jt T n) q0:=by
 intro m s x s' g hG hr h;obtain⟨⟨wi,s1⟩,h1,h⟩:=ay.1 h;have t0:St m r T s:=⟨g,hG,hr⟩;have Sq:=hr.obj.lt;have Sv:=hr.pos;obtain⟨m1,e1,o1,k1,n1,_⟩:=aQ g [.bool false,.slice none 0 0,.slice none 0 0,.slice none 0 0,.nilIface,.slice none 0 0];obtain⟨m2,e2,o2,k2,n2,_⟩:=aQ (g.ext k1) [.bool false,.slice none 0 0,.slice none 0 0,.slice none 0 0,.nilIface,.slice none 0 0];obtain⟨b1,j8⟩:∃b,b=m.next:=⟨_,rfl⟩;obtain⟨b2,iW⟩:∃b,b=m1.next:=⟨_,rfl⟩;rw[<-j8]at e1 o1;rw[<-iW]at e2 o2;have r1:¬atR r b1:=fun e=>by have e:b1=r:=e;omega
 have r2:¬atR r b2:=fun e=>by have e:b2=r:=e;omega
 have Ir:b1≠b2:=av;have lM:=k1.aN k2;obtain⟨q3,m3,m4,e3,e4,k4,t4⟩:=((t0.aM k1).aM k2).skip (K:=K) h1;have jV:Kp m m4 (atR r):=lM.mo.trans k4 fun _ _ h=>h
 have Ub:=(o1.aM k2).ext k4 r1;have o24:=o2.ext k4 r2;have nn4:=k4.next;cases wi with
 |false=>
  obtain⟨⟨y,s2⟩,h2,h⟩:=ar.1 h;cases h;obtain⟨vb,m5,e5,k5,t5,qb⟩:=(c90 (K:=K) hn).go t4 h2;obtain⟨a,b,c,d,rfl,ca,cb,cc,cd⟩:=gG.four qb;have pD:=bP jV k5;have nn5:=k5.next;obtain⟨m6,e6,o6,k6⟩:=dO (o:=2) [a,b,c,d] (o24.ext k5 r2) ((g.own pD av).may _ _) (ag rfl) (by simp[ca,cb,cc,cd]);have NZ:=(Ub.ext k5 r1).ext k6 Ir;have qH:Kp m m6 (atR r):=pD.new k6 (ai _) fun b hb=>by omega
  obtain⟨m7,e7,o7,k7⟩:=dO (o:=0) [.bool false,.slice none 0 0,a,b,c,d] NZ ((g.own qH av).may _ _) (ag rfl) (by simp[ca,cb,cc,cd];exact⟨rfl,rfl⟩);have eL:eJ 6 b2 0 m6=some (.agg #[.bool false,.slice none 0 0,a,b,c,d],m6):=bY (vs:=[.bool false,.slice none 0 0,a,b,c,d]) o6 rfl (ag rfl);have eR:fV ae 108 (vP b1 0) m7=some (.agg #[.bool false,.slice none 0 0,a,b,c,d],m7):=dK o7 rfl FU.1 FU.2;refine⟨_,m7,ak (aj8 r a b c d b1 b2 q3) (.mem e1<| .mem e2<| .mem e3<| .call e4<| .cond rfl<| .call e5<| .mem e6<| .mem eL<| .mem e7<| .mem eR .nil),qH.new k7 (ai _) fun b hb=>by omega,(t5.r.ext k6 av).ext k7 av,_,a,b,c,d,rfl,bj.nil,?_⟩;have kk:Kp m5 m7 (fun y=>y=b2\/y=b1):=(k6.mono fun _ _ h=> .inl h).trans (k7.mono fun _ _ h=> .inr h) fun _ _ h=>h
  exact gG.down (gG.up qb kk fun b hb=> .inl (by rcases hb with hb|hb<;>omega)) jV
 |true=>
  simp only[if_true]at h;obtain⟨⟨rc,s2⟩,h2,h⟩:=ay.1 h;obtain⟨⟨l,s3⟩,h3,h⟩:=ay.1 h;obtain⟨⟨y,s4⟩,h4,h⟩:=ar.1 h;cases h;obtain⟨q5,m5,m6,e5,e6,k6,t6⟩:=t4.skip (K:=K) h2;have qH:=bP jV k6;have nn6:=k6.next;obtain⟨m7,e7,o7,k7⟩:=gu (o:=0) (.bool rc) (o24.ext k6 r2) ((g.own qH av).may _ _) (ag rfl) rfl;have yb:Kp m m7 (atR r):=qH.new k7 (ai _) fun b hb=>by omega
  have t7:St m7 r T s2:=t6.ext k7 fun b _ e=>by omega
  have Ua:=(Ub.ext k6 r1).ext k7 Ir;have nn7:=k7.next;obtain⟨va,m8,e8,k8,t8,qa⟩:=t7.list (K:=K) alh (c89 hn) oC.ok hn h3;have zg:=bP yb k8;have nn8:=k8.next;obtain⟨m9,e9,o9,k9⟩:=gu (o:=1) va (o7.ext k8 r2) ((g.own zg av).may _ _) (ag rfl) (bj.gy qa).1;have F6:Kp m m9 (atR r):=zg.new k9 (ai _) fun b hb=>by omega
  have t9:St m9 r T s3:=t8.ext k9 fun b _ e=>by omega
  have o19:=(Ua.ext k8 r1).ext k9 Ir;have nn9:=k9.next;obtain⟨vb,fM,pY,kh,t10,qb⟩:=(c90 (K:=K) hn).go t9 h4;obtain⟨a,b,c,d,rfl,ca,cb,cc,cd⟩:=gG.four qb;have wN:=bP F6 kh;have aaO:=kh.next;obtain⟨LR,xg,o11,Hw⟩:=dO (o:=2) [a,b,c,d] (o9.ext kh r2) ((g.own wN av).may _ _) (ag rfl) (by simp[ca,cb,cc,cd]);have ak6:=(o19.ext kh r1).ext Hw Ir;have Fc:Kp m LR (atR r):=wN.new Hw (ai _) fun b hb=>by omega
  obtain⟨y8,zv,Yd,vM⟩:=dO (o:=0) [.bool rc,va,a,b,c,d] ak6 ((g.own Fc av).may _ _) (ag rfl) (by simp[ca,cb,cc,cd,(bj.gy qa).2];rfl);have eL:eJ 6 b2 0 LR=some (.agg #[.bool rc,va,a,b,c,d],LR):=bY (vs:=[.bool rc,va,a,b,c,d]) o11 rfl (ag rfl);have eR:fV ae 108 (vP b1 0) y8=some (.agg #[.bool rc,va,a,b,c,d],y8):=dK Yd rfl FU.1 FU.2;refine⟨_,y8,ak (aj7 r rc va a b c d b1 b2 q3 q5) (.mem e1<| .mem e2<| .mem e3<| .call e4<| .cond rfl<| .mem e5<| .call e6<| .mem e7<| .call e8<| .mem e9<| .call pY<| .mem xg<| .mem eL<| .mem zv<| .mem eR .nil),Fc.new vM (ai _) fun b hb=>by omega,(t10.r.ext Hw av).ext vM av,va,a,b,c,d,rfl,?_,?_⟩
  ·have kk:Kp m8 y8 (fun y=>y=r\/y=b2\/y=b1):=(((k9.mono fun _ _ h=> .inr (.inl h)).trans (kh.mono fun _ _ h=> .inl h) fun _ _ h=>h).trans (Hw.mono fun _ _ h=> .inr (.inl h)) fun _ _ h=>h).trans (vM.mono fun _ _ h=> .inr (.inr h)) fun _ _ h=>h
   exact(bj oC 6).down ((bj oC 6).up qa kk fun b hb=> .inl (by rcases hb with hb|hb|hb<;>omega)) yb
  ·have kk:Kp fM y8 (fun y=>y=b2\/y=b1):=(Hw.mono fun _ _ h=> .inl h).trans (vM.mono fun _ _ h=> .inr h) fun _ _ h=>h
   exact gG.down (gG.up qb kk fun b hb=> .inl (by rcases hb with hb|hb<;>omega)) F6
theorem c49 {n:Nat}(hn:n<90000):Pj K T r 49 (ML T n) OW:=by
 intro m s x s' g hG hr h;obtain⟨⟨w,s1⟩,h1,h⟩:=ay.1 h;obtain⟨⟨nm,s2⟩,h2,h⟩:=ay.1 h;obtain⟨⟨w2,s3⟩,h3,h⟩:=ay.1 h;obtain⟨⟨l,s4⟩,h4,h⟩:=ay.1 h;obtain⟨⟨w3,s5⟩,h5,h⟩:=ar.1 h;cases h;have t0:St m r T s:=⟨g,hG,hr⟩;have Sq:=hr.obj.lt;have Sv:=hr.pos;obtain⟨m1,e1,o1,k1,n1,_⟩:=aQ g [.string .empty,.slice none 0 0];obtain⟨q2,m2,m3,e2,e3,k3,t3⟩:=(t0.aM k1).wH (K:=K) h1;obtain⟨m4,e4,k4,t4⟩:=(Y2 (K:=K)).go t3 h2;obtain⟨m5,m6,e5,e6,o6,k6,n6⟩:=eH t4.g [.string .empty,.slice none 0 0] [.string nm,.slice none 0 0] rfl rfl;have r8:=bP k3 k4;have nn4:=r8.next;obtain⟨b1,j8⟩:∃b,b=m.next:=⟨_,rfl⟩;obtain⟨b2,iW⟩:∃b,b=m4.next:=⟨_,rfl⟩;rw[<-j8]at e1 o1;rw[<-iW]at e5 e6 o6;have r1:¬atR r b1:=fun e=>by have e:b1=r:=e;omega
 have r2:¬atR r b2:=fun e=>by have e:b2=r:=e;omega
 have Ir:b1≠b2:=av;have NZ:=(o1.ext r8 r1).aM k6;have qH:Kp m m6 (atR r):=(k1.mo.trans r8 fun _ _ h=>h).aN k6;obtain⟨q7,m7,m8,e7,e8,k8,t8⟩:=(t4.aM k6).wH (K:=K) h3;obtain⟨va,m9,e9,k9,t9,qa⟩:=t8.list (K:=K) alj (c85.toM) pM.ok hn h4;have Ue:=bP k8 k9;have F6:=bP qH Ue;have nn8:=k8.next;have nn9:=k9.next;obtain⟨fM,pY,IB,kh⟩:=gu (o:=1) va (o6.ext Ue r2) ((g.own F6 av).may _ _) (ag rfl) (bj.gy qa).1;have t10:St fM r T s4:=t9.ext kh fun b _ e=>by omega
 have wN:Kp m fM (atR r):=F6.new kh (ai _) fun b hb=>by omega
 obtain⟨q11,LR,y8,xg,zv,vM,t12⟩:=t10.wH (K:=K) h5;have QR:=((NZ.ext Ue r1).ext kh Ir).ext vM r1;have Kn:=bP wN vM;have aaO:=kh.next;have ak7:=vM.next;obtain⟨LQ,FC,Vl,tS⟩:=dO (o:=0) [.string nm,va] QR ((g.own Kn av).may _ _) (ag rfl) (by simp[(bj.gy qa).2];rfl);have eL:eJ 2 b2 0 y8=some (.agg #[.string nm,va],y8):=bY (vs:=[.string nm,va]) (IB.ext vM r2) rfl (ag rfl);have eR:fV ae 91 (vP b1 0) LQ=some (.agg #[.string nm,va],LQ):=dK Vl rfl Y9.1 Y9.2;refine⟨_,LQ,ak (p49 r nm w w2 w3 va b1 q2 b2 q7 q11) (.mem e1<| .mem e2<| .call e3<| .call e4<| .mem e5<| .mem e6<| .mem e7<| .call e8<| .call e9<| .mem pY<| .mem xg<| .call zv<| .mem eL<| .mem FC<| .mem eR .nil),Kn.new tS (ai _) fun b hb=>by omega,t12.r.ext tS av,va,rfl,?_⟩;have kk:Kp m9 LQ (fun y=>y=r\/y=b2\/y=b1):=((kh.mono fun _ _ h=> .inr (.inl h)).trans (vM.mono fun _ _ h=> .inl h) fun _ _ h=>h).trans (tS.mono fun _ _ h=> .inr (.inr h)) fun _ _ h=>h
 exact cU.down (cU.up qa kk fun b hb=> .inl (by rcases hb with hb|hb|hb<;>omega)) (bP qH k8)
theorem vq.ok{B:Nat->Prop}{x:List E}{m:Mem}{v:af}(h:Go.AM.vq.R B x m v):okV 1 v:=bj.akW h
theorem c50 {n:Nat}(hn:n<90000):Pj K T r 50 (Mc T n) OV:=by
 intro m s x s' g hG hr h;obtain⟨⟨w,s1⟩,h1,h⟩:=ay.1 h;obtain⟨⟨nm,s2⟩,h2,h⟩:=ay.1 h;obtain⟨⟨w2,s3⟩,h3,h⟩:=ay.1 h;obtain⟨⟨l,s4⟩,h4,h⟩:=ar.1 h;cases h;have t0:St m r T s:=⟨g,hG,hr⟩;have Sq:=hr.obj.lt;have Sv:=hr.pos;obtain⟨m1,e1,o1,k1,n1,_⟩:=aQ g [.string .empty,.slice none 0 0];obtain⟨q2,m2,m3,e2,e3,k3,t3⟩:=(t0.aM k1).wH (K:=K) h1;obtain⟨m4,e4,k4,t4⟩:=(Y2 (K:=K)).go t3 h2;obtain⟨m5,m6,e5,e6,o6,k6,n6⟩:=eH t4.g [.string .empty,.slice none 0 0] [.string nm,.slice none 0 0] rfl rfl;have r8:=bP k3 k4;have nn4:=r8.next;obtain⟨b1,j8⟩:∃b,b=m.next:=⟨_,rfl⟩;obtain⟨b2,iW⟩:∃b,b=m4.next:=⟨_,rfl⟩;rw[<-j8]at e1 o1;rw[<-iW]at e5 e6 o6;have r1:¬atR r b1:=fun e=>by have e:b1=r:=e;omega
 have r2:¬atR r b2:=fun e=>by have e:b2=r:=e;omega
 have Ir:b1≠b2:=av;have NZ:=(o1.ext r8 r1).aM k6;have qH:Kp m m6 (atR r):=(k1.mo.trans r8 fun _ _ h=>h).aN k6;obtain⟨q7,m7,m8,e7,e8,k8,t8⟩:=(t4.aM k6).wH (K:=K) h3;obtain⟨va,m9,e9,k9,t9,qa⟩:=t8.list (K:=K) ali (c87 hn) vq.ok hn h4;have Ue:=bP k8 k9;have F6:=bP qH Ue;have nn8:=k8.next;have nn9:=k9.next;obtain⟨fM,pY,IB,kh⟩:=gu (o:=1) va (o6.ext Ue r2) ((g.own F6 av).may _ _) (ag rfl) (bj.gy qa).1;have t10:St fM r T s4:=t9.ext kh fun b _ e=>by omega
 have wN:Kp m fM (atR r):=F6.new kh (ai _) fun b hb=>by omega
 have QR:=(NZ.ext Ue r1).ext kh Ir;have aaO:=kh.next;obtain⟨LQ,FC,Vl,tS⟩:=dO (o:=0) [.string nm,va] QR ((g.own wN av).may _ _) (ag rfl) (by simp[(bj.gy qa).2];rfl);have eL:eJ 2 b2 0 fM=some (.agg #[.string nm,va],fM):=bY (vs:=[.string nm,va]) IB rfl (ag rfl);have eR:fV ae 95 (vP b1 0) LQ=some (.agg #[.string nm,va],LQ):=dK Vl rfl Y8.1 Y8.2;refine⟨_,LQ,ak (p50 r nm w w2 va b1 q2 b2 q7) (.mem e1<| .mem e2<| .call e3<| .call e4<| .mem e5<| .mem e6<| .mem e7<| .call e8<| .call e9<| .mem pY<| .mem eL<| .mem FC<| .mem eR .nil),wN.new tS (ai _) fun b hb=>by omega,t10.r.ext tS av,va,rfl,?_⟩;have kk:Kp m9 LQ (fun y=>y=b2\/y=b1):=(kh.mono fun _ _ h=> .inl h).trans (tS.mono fun _ _ h=> .inr h) fun _ _ h=>h
 exact oB.down (oB.up qa kk fun b hb=> .inl (by rcases hb with hb|hb<;>omega)) (bP qH k8)
theorem c29 {n:Nat}(hn:n<90000):Pj K T r 29 (Zw T n) yy:=by
 intro m s x s' g hG hr h;obtain⟨⟨a,s1⟩,h1,h⟩:=ay.1 h;have t0:St m r T s:=⟨g,hG,hr⟩;obtain⟨q1,m1,m2,e1,e2,k2,t2⟩:=t0.skip (K:=K) h1;cases a with
 |true=>
  obtain⟨⟨⟨nm,cF⟩,s2⟩,h2,h⟩:=ar.1 h;cases h;obtain⟨v,m3,e3,k3,t3,a,rfl,q⟩:=(c49 (K:=K) hn).go t2 h2;exact⟨_,m3,ak (akm r nm a q1) (.mem e1<| .call e2<| .cond rfl<| .call e3 .nil),bP k2 k3,t3.r,a,rfl,cU.down q k2⟩
 |false=>
  simp only[bu,if_false]at h;obtain⟨⟨b,s2⟩,h2,h⟩:=ay.1 h;obtain⟨q3,m3,m4,e3,e4,k4,t4⟩:=t2.skip (K:=K) h2;have jV:=bP k2 k4;cases b with
  |true=>
   obtain⟨⟨⟨nm,rows⟩,s3⟩,h3,h⟩:=ar.1 h;cases h;obtain⟨v,m5,e5,k5,t5,a,rfl,q⟩:=(c50 (K:=K) hn).go t4 h3;exact⟨_,m5,ak (akl r nm a q1 q3) (.mem e1<| .call e2<| .cond rfl<| .mem e3<| .call e4<| .cond rfl<| .call e5 .nil),bP jV k5,t5.r,a,rfl,oB.down q jV⟩
  |false=>
   obtain⟨⟨y,s3⟩,h3,h⟩:=ar.1 h;cases h;obtain⟨v,m5,e5,k5,t5,q⟩:=(c51 (K:=K) hn).go t4 h3;have q':=q;obtain⟨c,a,b,d,e,rfl,_,_⟩:=q;exact⟨_,m5,ak (akk r y.rc c a b d e q1 q3) (.mem e1<| .call e2<| .cond rfl<| .mem e3<| .call e4<| .cond rfl<| .call e5 .nil),bP jV k5,t5.r,_,rfl,q0.down q' jV⟩
end
def AQ (T:ByteArray)(n:Nat):Option (Option Sen×Int×Int):=
 if 4000<T.size then some (none,1,0)else
 (wE T 0).bind fun w=>(Zw T n ⟨w,0,0,0⟩).bind fun x=>(jq T [9] x.2).bind fun y=>(iq T [1] w0 y.2).map fun z=>
  if z.2.e=0 then(some x.1,0,0)else(none,z.2.e,z.2.p)
def Xf:j6 (Option Sen×Int×Int) where
 R B x m v:=∃a,v= .tuple #[a,vI x.2.1,vI x.2.2]/\match x.1 with |some y=>yy.R B y m a|none=>a= .nilIface
 mono:=by
  rintro B B' ⟨x,e,p⟩ m v ⟨a,h1,h⟩ k;cases x with
  |none=>exact⟨a,h1,h⟩
  |some y=>exact⟨a,h1,yy.mono h k⟩
 ext:=by
  rintro B S ⟨x,e,p⟩ m m' v ⟨a,h1,h⟩ k hs;cases x with
  |none=>exact⟨a,h1,h⟩
  |some y=>exact⟨a,h1,yy.ext h k hs⟩
section
variable {K:iK}{m:Mem}{T:ByteArray}
theorem aky (T:ByteArray):Path 22 [(aY T)]
 [aD (fD (T.size:Int) 4000) true]
 (.tuple #[.nilIface,(vI 1),(vI 0)]):=cg
theorem akz (T:ByteArray)(w w2:W)(x:af)(b:Bool)(e p:Int)(aH a0 cf:Nat):Path 22 [(aY T)]
 [aD (fD (T.size:Int) 4000) false,
  .call 28 [(aY T),(vI 0)] (mV w),
  cp [some (aY T),some (vI w.k),some (vI (w.a:Int)),some (vI (w.z:Int)),some (aY w.s),some (vI w.n),some (vI 0),some (vI 0),some (vI 0)] aH,
  .call 29 [(vP aH 0)] x,
  .mem (ao ae 120 1 [(0,(vI 9))]) (vL a0 0 1 1),
  .call 30 [(vP aH 0),(vL a0 0 1 1)] (.bool b),
  .mem (ao ae 120 1 [(0,(vI 1))]) (vL cf 0 1 1),
  .call 31 [(vP aH 0),(vL cf 0 1 1)] (mV w2),
  .mem (aI aH 7) (vI e),
  aD (hY e 0) true,
  .mem (aI aH 7) (vI e),
  .mem (aI aH 8) (vI p)]
 (.tuple #[.nilIface,(vI e),(vI p)]):=cg
theorem p22 (T:ByteArray)(w w2:W)(x:af)(b:Bool)(e:Int)(aH a0 cf:Nat):Path 22 [(aY T)]
 [aD (fD (T.size:Int) 4000) false,
  .call 28 [(aY T),(vI 0)] (mV w),
  cp [some (aY T),some (vI w.k),some (vI (w.a:Int)),some (vI (w.z:Int)),some (aY w.s),some (vI w.n),some (vI 0),some (vI 0),some (vI 0)] aH,
  .call 29 [(vP aH 0)] x,
  .mem (ao ae 120 1 [(0,(vI 9))]) (vL a0 0 1 1),
  .call 30 [(vP aH 0),(vL a0 0 1 1)] (.bool b),
  .mem (ao ae 120 1 [(0,(vI 1))]) (vL cf 0 1 1),
  .call 31 [(vP aH 0),(vL cf 0 1 1)] (mV w2),
  .mem (aI aH 7) (vI e),
  aD (hY e 0) false]
 (.tuple #[x,(vI 0),(vI 0)]):=cg
theorem c22 {n:Nat}(hn:n<90000)(g:Gd m)(hG:iU m)(hm:0<m.next){x:Option Sen×Int×Int}(h:AQ T n=some x):
  ∃v m',Ev K 22 [.string T] m v m'/\Kp m m' eU/\Xf.R (fY m m') x m' v:=by
 unfold AQ at h
 split at h
 ·rename_i hl;cases h;have b1:(.bool (fD (T.size:Int) 4000):af)= .bool true:=by rw[gX,dZ av]
  exact⟨_,m,ak (aky T) (.cond b1 .nil),Kp.refl _ _,.nilIface,rfl,rfl⟩
 ·rename_i hl;obtain⟨w,h1,h⟩:=ay.1 h;obtain⟨⟨sn,s1⟩,h2,h⟩:=ay.1 h;obtain⟨⟨b,s2⟩,h3,h⟩:=ay.1 h;obtain⟨⟨w2,s3⟩,h4,h⟩:=ar.1 h;have b1:(.bool (fD (T.size:Int) 4000):af)= .bool false:=by rw[gX,eO av]
  obtain⟨m1,e1,k1⟩:=c28 (K:=K) g hG av h1;have g1:=g.ext k1;obtain⟨m2,e2,o2,k2,n2,_⟩:=aQ g1 (Jr T ⟨w,0,0,0⟩);have lM:=k1.aN k2;have nn1:=k1.next;have t2:St m2 m1.next T ⟨w,0,0,0⟩:=⟨g1.ext k2,hG.aM lM,o2,g1.own k2 (ai _),av,av⟩;obtain⟨v3,m3,e3,k3,t3,q3⟩:=(c29 (K:=K) hn).go t2 h2;obtain⟨q4,m4,m5,e4,e5,k5,t5⟩:=t3.skip (K:=K) h3;obtain⟨q6,m6,m7,e6,e7,k7,t7⟩:=t5.wH (K:=K) h4;have F8:=t7.r.obj;have e8:aI m1.next 7 m7=some (vI s3.e,m7):=aJ F8 rfl;have e9:aI m1.next 8 m7=some (vI s3.p,m7):=aJ F8 rfl;have kk:Kp m m7 eU:=lM.new (bP (bP k3 k5) k7) (ai _) fun b hb=>by have e:b=m1.next:=hb;omega
  by_cases he:s3.e=0
  ·have b2:(.bool (hY s3.e 0):af)= .bool false:=by rw[jg,eO (by simpa using he)]
   simp only[he,if_true]at h;subst h;exact⟨_,m7,ak (p22 T w w2 v3 b s3.e m1.next q4 q6) (.cond b1<| .call e1<| .mem e2<| .call e3<| .mem e4<| .call e5<| .mem e6<| .call e7<| .mem e8<| .cond b2 .nil),kk,v3,rfl,yy.down (yy.upR q3 (bP k5 k7) av) lM⟩
  ·have b2:(.bool (hY s3.e 0):af)= .bool true:=by rw[jg,dZ he]
   simp only[he,if_false]at h;subst h;exact⟨_,m7,ak (akz T w w2 v3 b s3.e s3.p m1.next q4 q6) (.cond b1<| .call e1<| .mem e2<| .call e3<| .mem e4<| .call e5<| .mem e6<| .call e7<| .mem e8<| .cond b2<| .mem e8<| .mem e9 .nil),kk,.nilIface,rfl,rfl⟩
end
end Go.AM
namespace Go.AM
set_option maxRecDepth 1000000
open Go Go.Conc Go.Proofs
inductive X where
 |bin(op:Int)(l r:X)
 |no(x:X)
 |Dt(x:X)
 |lit(v:V)
 |Px(p:Nat)(i j:Int)
def XR (B:Nat->Prop):X->Mem->af->Prop
 | .bin op l r,m,v=>∃b lv rv,v= .iface 305 (vP b 0)/\B b/\Obj m b 0 [vI op,lv,rv]/\XR B l m lv/\XR B r m rv
 | .no x,m,v=>∃b xv,v= .iface 390 (vP b 0)/\B b/\Obj m b 0 [xv]/\XR B x m xv
 | .Dt x,m,v=>∃b xv,v= .iface 393 (vP b 0)/\B b/\Obj m b 0 [xv]/\XR B x m xv
 | .lit u,m,v=>∃b,v= .iface 317 (vP b 0)/\B b/\Obj m b 0 u.cells
 | .Px p i j,m,v=>∃b,v= .iface 396 (vP b 0)/\B b/\Obj m b 0 [vP p 0,vI i,vI j]
theorem XR.mono{B B':Nat->Prop}(k:∀b,B b->B' b):∀{x:X}{m:Mem}{v:af},XR B x m v->XR B' x m v
 | .bin ..,_,_,⟨b,lv,rv,e,hb,o,h1,h2⟩=>⟨b,lv,rv,e,k b hb,o,XR.mono k h1,XR.mono k h2⟩
 | .no ..,_,_,⟨b,xv,e,hb,o,h⟩=>⟨b,xv,e,k b hb,o,XR.mono k h⟩
 | .Dt ..,_,_,⟨b,xv,e,hb,o,h⟩=>⟨b,xv,e,k b hb,o,XR.mono k h⟩
 | .lit ..,_,_,⟨b,e,hb,o⟩=>⟨b,e,k b hb,o⟩
 | .Px ..,_,_,⟨b,e,hb,o⟩=>⟨b,e,k b hb,o⟩
theorem XR.ext{B S:Nat->Prop}{m m':Mem}(k:Kp m m' S)(hs:∀b,B b->¬S b):∀{x:X}{v:af},XR B x m v->XR B x m' v
 | .bin ..,_,⟨b,lv,rv,e,hb,o,h1,h2⟩=>⟨b,lv,rv,e,hb,o.ext k (hs b hb),XR.ext k hs h1,XR.ext k hs h2⟩
 | .no ..,_,⟨b,xv,e,hb,o,h⟩=>⟨b,xv,e,hb,o.ext k (hs b hb),XR.ext k hs h⟩
 | .Dt ..,_,⟨b,xv,e,hb,o,h⟩=>⟨b,xv,e,hb,o.ext k (hs b hb),XR.ext k hs h⟩
 | .lit ..,_,⟨b,e,hb,o⟩=>⟨b,e,hb,o.ext k (hs b hb)⟩
 | .Px ..,_,⟨b,e,hb,o⟩=>⟨b,e,hb,o.ext k (hs b hb)⟩
def mL:j6 X:=⟨XR,fun h k=>XR.mono k h,fun h k hs=>XR.ext k hs h⟩
theorem XR.form{B:Nat->Prop}{x:X}{m:Mem}{v:af}(h:XR B x m v):∃t b,v= .iface t (vP b 0):=by
 cases x with
 |bin op l r=>obtain⟨b,_,_,e,_⟩:=h;exact⟨_,b,e⟩
 |no x=>obtain⟨b,_,e,_⟩:=h;exact⟨_,b,e⟩
 |Dt x=>obtain⟨b,_,e,_⟩:=h;exact⟨_,b,e⟩
 |lit v=>obtain⟨b,e,_⟩:=h;exact⟨_,b,e⟩
 |Px p i j=>obtain⟨b,e,_⟩:=h;exact⟨_,b,e⟩
theorem XR.ok{B:Nat->Prop}{x:X}{m:Mem}{v:af}(h:mL.R B x m v):okV 1 v:=by
 obtain⟨t,b,rfl⟩:=XR.form h;exact⟨rfl,by simp[af.cells,af.oneCell']⟩
structure gW (m:Mem)(c:Nat)(M1 M2:af)(f:Int):Prop where
 obj:Obj m c 0 [M1,M2,vI f]
 own:Own m c
theorem gW.ext{m m':Mem}{c:Nat}{M1 M2:af}{f:Int}{S:Nat->Prop}(h:gW m c M1 M2 f)(k:Kp m m' S)(hs:¬S c):gW m' c M1 M2 f:=⟨h.obj.ext k hs,h.own.ext k⟩
theorem gW.aM{m m':Mem}{c:Nat}{M1 M2:af}{f:Int}(h:gW m c M1 M2 f)(k:Kp m m' eU):gW m' c M1 M2 f:=h.ext k id
def nE (f:Int)(b:Bool)(k:Int):Int:=if b=false/\f=0 then k else f
def fits (a b:Int):Bool:=decide (a=b)||decide (a=0)
def fJ (op:Int):Int×Int:=
 if op=17\/op=18\/op=10\/op=19\/op=20 then(1,1)else if op=21 then(2,2)else if op=23\/op=37\/op=34 then(3,3)else(0,3)
def Va:Int->List Int->Int->Int
 |_,[],f=>f
 |w,k::ks,f=>let w':=if w=0 then k else w;Va w' ks (nE f (fits k w') 5)
theorem QD (w k:Int)(ks:List Int)(f:Int):Va w (k::ks) f=Va (if w=0 then k else w) ks (nE f (fits k (if w=0 then k else w)) 5):=rfl
def Z0 (op:Int)(x:X):X:=if op=34 then .no x else .bin 18 (.lit ⟨1,0,.empty,false⟩) x
def abi (x:X)(no:Bool):X:=if no=true then .no (.Dt x)else .Dt x
section
variable {K:iK}{m:Mem}{c:Nat}{M1 M2:af}{f:Int}
theorem X1 (c:Nat)(k:Int):Path 105 [(vP c 0),(.bool true),(vI k)]
 [bm,
  bm,
  bm,
  bm,
  bm,
  bm,
  bm]
 (.tuple #[]):=cg
theorem agx (c:Nat)(k f:Int):Path 105 [(vP c 0),(.bool false),(vI k)]
 [bV,
  bV,
  bV,
  bV,
  .mem (aI c 2) (vI f),
  bV,
  bV,
  aD (aZ f 0) true,
  .mem (jo c 2 (vI k)) undef]
 (.tuple #[]):=cg
theorem agy (c:Nat)(k f:Int):Path 105 [(vP c 0),(.bool false),(vI k)]
 [bV,
  bV,
  bV,
  bV,
  .mem (aI c 2) (vI f),
  bV,
  bV,
  aD (aZ f 0) false]
 (.tuple #[]):=cg
theorem agp (a b:Int):Path 136 [(vI a),(vI b)]
 [aD (aZ a b) true,
  aD (aZ a b) true,
  aD (aZ a b) true]
 (.bool true):=cg
theorem agq (a b:Int):Path 136 [(vI a),(vI b)]
 [aD (aZ a b) false,
  aD (aZ a b) false,
  aD (aZ a b) false]
 (.bool (aZ a 0)):=cg
theorem aas (a:Int):Path 235 [(vI a)]
 [aD (aZ a 17) true,
  aD (aZ a 17) true]
 (.tuple #[(vI 1),(vI 1)]):=cg
theorem aar (a:Int):Path 235 [(vI a)]
 [aD (aZ a 17) false,
  aD (aZ a 18) true,
  aD (aZ a 18) true]
 (.tuple #[(vI 1),(vI 1)]):=cg
theorem aaq (a:Int):Path 235 [(vI a)]
 [aD (aZ a 17) false,
  aD (aZ a 18) false,
  aD (aZ a 10) true,
  aD (aZ a 10) true]
 (.tuple #[(vI 1),(vI 1)]):=cg
theorem aap (a:Int):Path 235 [(vI a)]
 [aD (aZ a 17) false,
  aD (aZ a 18) false,
  aD (aZ a 10) false,
  aD (aZ a 19) true,
  aD (aZ a 19) true]
 (.tuple #[(vI 1),(vI 1)]):=cg
theorem aao (a:Int):Path 235 [(vI a)]
 [aD (aZ a 17) false,
  aD (aZ a 18) false,
  aD (aZ a 10) false,
  aD (aZ a 19) false,
  aD (aZ a 20) true]
 (.tuple #[(vI 1),(vI 1)]):=cg
theorem aan (a:Int):Path 235 [(vI a)]
 [aD (aZ a 17) false,
  aD (aZ a 18) false,
  aD (aZ a 10) false,
  aD (aZ a 19) false,
  aD (aZ a 20) false,
  aD (aZ a 21) true]
 (.tuple #[(vI 2),(vI 2)]):=cg
theorem aam (a:Int):Path 235 [(vI a)]
 [aD (aZ a 17) false,
  aD (aZ a 18) false,
  aD (aZ a 10) false,
  aD (aZ a 19) false,
  aD (aZ a 20) false,
  aD (aZ a 21) false,
  aD (aZ a 23) true,
  aD (aZ a 23) true]
 (.tuple #[(vI 3),(vI 3)]):=cg
theorem aal (a:Int):Path 235 [(vI a)]
 [aD (aZ a 17) false,
  aD (aZ a 18) false,
  aD (aZ a 10) false,
  aD (aZ a 19) false,
  aD (aZ a 20) false,
  aD (aZ a 21) false,
  aD (aZ a 23) false,
  aD (aZ a 37) true,
  aD (aZ a 37) true]
 (.tuple #[(vI 3),(vI 3)]):=cg
theorem aak (a:Int):Path 235 [(vI a)]
 [aD (aZ a 17) false,
  aD (aZ a 18) false,
  aD (aZ a 10) false,
  aD (aZ a 19) false,
  aD (aZ a 20) false,
  aD (aZ a 21) false,
  aD (aZ a 23) false,
  aD (aZ a 37) false,
  aD (aZ a 34) true]
 (.tuple #[(vI 3),(vI 3)]):=cg
theorem aat (a:Int):Path 235 [(vI a)]
 [aD (aZ a 17) false,
  aD (aZ a 18) false,
  aD (aZ a 10) false,
  aD (aZ a 19) false,
  aD (aZ a 20) false,
  aD (aZ a 21) false,
  aD (aZ a 23) false,
  aD (aZ a 37) false,
  aD (aZ a 34) false]
 (.tuple #[(vI 0),(vI 3)]):=cg
theorem agn (k:Int)(x:af)(aH:Nat):Path 173 [(vI k),x]
 [aD (aZ k 34) true,
  .val (fH ae 392 [(0,x)]) (.agg #[x]),
  cp [some x] aH]
 (.iface 390 (vP aH 0)):=cg
theorem ago (k:Int)(x:af)(aH a0:Nat):Path 173 [(vI k),x]
 [aD (aZ k 34) false,
  cp [some (vI 1),some (vI 0),some dU,some (.bool false)] aH,
  .val (fH ae 307 [(0,(vI 18)),(1,(.iface 317 (vP aH 0))),(2,x)]) (.agg #[(vI 18),(.iface 317 (vP aH 0)),x]),
  cp [some (vI 18),some (.iface 317 (vP aH 0)),some x] a0]
 (.iface 305 (vP a0 0)):=cg
theorem agl (x:af)(aH a0:Nat):Path 174 [x,(.bool true)]
 [bV,
  .val (fH ae 394 [(0,x)]) (.agg #[x]),
  cp [some x] aH,
  .val (fH ae 392 [(0,(.iface 393 (vP aH 0)))]) (.agg #[(.iface 393 (vP aH 0))]),
  cp [some (.iface 393 (vP aH 0))] a0]
 (.iface 390 (vP a0 0)):=cg
theorem agm (x:af)(aH:Nat):Path 174 [x,(.bool false)]
 [bm,
  .val (fH ae 394 [(0,x)]) (.agg #[x]),
  cp [some x] aH]
 (.iface 393 (vP aH 0)):=cg
theorem ad2 (c q n cc:Nat)(op w res:Int):bF (bN 172) (ax 172) 0 3 [0,1,2] [(vP c 0),(vI op),(vL q 0 n cc)]
 [.call 235 [(vI op)] (.tuple #[(vI w),(vI res)])]
 .normal [0,7,8,16,17,18] [(vP c 0),(vI w),(vI res),(vL q 0 n cc),(vI (n:Int)),(vI 0)]:=eF
theorem adZ (c q n cc i:Nat)(w res:Int):bF (bN 172) (bh (ax 172) [3]) 0 99 [0,7,8,16,17,18] [(vP c 0),(vI w),(vI res),(vL q 0 n cc),(vI (n:Int)),(vI (i:Int))]
 [aD (br (i:Int) (n:Int)) false]
 (.exit 0) [8] [(vI res)]:=eF
theorem adY (c q n cc i:Nat)(w res k:Int)(b:Bool):bF (bN 172) (bh (ax 172) [3]) 0 99 [0,7,8,16,17,18] [(vP c 0),(vI w),(vI res),(vL q 0 n cc),(vI (n:Int)),(vI (i:Int))]
 [aD (br (i:Int) (n:Int)) true,
  .idx (i:Int) n i,
  .mem (aI q (0+i*1)) (vI k),
  aD (aZ w 0) true,
  .call 136 [(vI k),(vI k)] (.bool b),
  .call 105 [(vP c 0),(.bool b),(vI 5)] (.tuple #[])]
 .normal [0,7,8,16,17,18] [(vP c 0),(vI k),(vI res),(vL q 0 n cc),(vI (n:Int)),(vI (bB (i:Int) 1))]:=eF
theorem ad0 (c q n cc i:Nat)(w res k:Int)(b:Bool):bF (bN 172) (bh (ax 172) [3]) 0 99 [0,7,8,16,17,18] [(vP c 0),(vI w),(vI res),(vL q 0 n cc),(vI (n:Int)),(vI (i:Int))]
 [aD (br (i:Int) (n:Int)) true,
  .idx (i:Int) n i,
  .mem (aI q (0+i*1)) (vI k),
  aD (aZ w 0) false,
  .call 136 [(vI k),(vI w)] (.bool b),
  .call 105 [(vP c 0),(.bool b),(vI 5)] (.tuple #[])]
 .normal [0,7,8,16,17,18] [(vP c 0),(vI w),(vI res),(vL q 0 n cc),(vI (n:Int)),(vI (bB (i:Int) 1))]:=eF
theorem ad1 (res:Int):bF (bN 172) (ax 172) 4 99 [8] [(vI res)]
 []
 .ret [6] [(vI res)]:=eF
theorem agF:jR 172 3 [6]=true:=bp
theorem NK:(du (ax 172)).length<=99:=ag bp
theorem VU:dT (ax 172) 3=some (0,(bh (ax 172) [3])):=bp
theorem ET:codeOk (bN 172) (bh (ax 172) [3])=true:=bp
theorem V8:eI (bN 172) (ax 172) (bh (ax 172) [3]) 3 0=true:=bp
theorem aiR (c:Nat)(k:Int):Ev K 105 [vP c 0,.bool true,vI k] m (.tuple #[]) m:=ak (X1 c k) (.cond rfl<| .cond rfl<| .cond rfl<| .cond rfl<| .cond rfl<| .cond rfl<| .cond rfl<| .nil)
theorem Pa (g:Gd m)(hc:gW m c M1 M2 f)(b:Bool)(k:Int):∃m',Ev K 105 [vP c 0,.bool b,vI k] m (.tuple #[]) m'/\Kp m m' (fun y=>y=c)/\gW m' c M1 M2 (nE f b k):=by
 have hco:=hc.obj;cases b with
 |true=>exact⟨m,ak (X1 c k) (.cond rfl<| .cond rfl<| .cond rfl<| .cond rfl<| .cond rfl<| .cond rfl<| .cond rfl<| .nil),Kp.refl _ _,by unfold nE;rw[bT cK];exact hc⟩
 |false=>
  unfold nE
  by_cases hf:f=0
  ·rw[bL ⟨rfl,hf⟩];have b1:(.bool (aZ f 0):af)= .bool true:=by rw[cu,dZ hf]
   obtain⟨m1,e1,o1,k1⟩:=gu (o:=2) (vI k) hco (hc.own.may _ _) (ag rfl);exact⟨m1,ak (agx c k f) (.cond rfl<| .cond rfl<| .cond rfl<| .cond rfl<| .mem (aJ fP rfl)<| .cond rfl<| .cond rfl<| .cond b1<| .mem e1<| .nil),k1,o1,hc.own.ext k1⟩
  ·rw[bT (fun h=>hf h.2)];have b1:(.bool (aZ f 0):af)= .bool false:=by rw[cu,eO hf]
   exact⟨m,ak (agy c k f) (.cond rfl<| .cond rfl<| .cond rfl<| .cond rfl<| .mem (aJ fP rfl)<| .cond rfl<| .cond rfl<| .cond b1<| .nil),Kp.refl _ _,hc⟩
theorem ack (a b:Int):Ev K 136 [vI a,vI b] m (.bool (fits a b)) m:=by
 unfold fits
 by_cases h:a=b
 ·have b1:(.bool (aZ a b):af)= .bool true:=by rw[cu,dZ h]
  rw[dZ h];exact ak (agp a b) (.cond b1<| .cond b1<| .cond b1<| .nil)
 ·have b1:(.bool (aZ a b):af)= .bool false:=by rw[cu,eO h]
  have :=ak (K:=K) (m:=m) (m':=m) (agq a b) (.cond b1<| .cond b1<| .cond b1<| .nil);rw[cu a 0]at this;rw[eO h,Bool.false_or];exact this
theorem amM (a:Int):Ev K 235 [vI a] m (.tuple #[vI (fJ a).1,vI (fJ a).2]) m:=by
 have b1:∀k:Int,(.bool (aZ a k):af)= .bool (decide (a=k)):=fun k=>by rw[cu]
 unfold fJ
 by_cases h1:a=17
 ·have c1:=b1 17;rw[dZ h1]at c1;rw[bL (by simp[h1])];exact ak (aas a) (.cond c1<| .cond c1<| .nil)
 have c1:=b1 17;rw[eO h1]at c1
 by_cases h2:a=18
 ·have c2:=b1 18;rw[dZ h2]at c2;rw[bL (by simp[h2])];exact ak (aar a) (.cond c1<| .cond c2<| .cond c2<| .nil)
 have c2:=b1 18;rw[eO h2]at c2
 by_cases h3:a=10
 ·have c3:=b1 10;rw[dZ h3]at c3;rw[bL (by simp[h3])];exact ak (aaq a) (.cond c1<| .cond c2<| .cond c3<| .cond c3<| .nil)
 have c3:=b1 10;rw[eO h3]at c3
 by_cases h4:a=19
 ·have c4:=b1 19;rw[dZ h4]at c4;rw[bL (by simp[h4])];exact ak (aap a) (.cond c1<| .cond c2<| .cond c3<| .cond c4<| .cond c4<| .nil)
 have c4:=b1 19;rw[eO h4]at c4
 by_cases h5:a=20
 ·have c5:=b1 20;rw[dZ h5]at c5;rw[bL (by simp[h5])];exact ak (aao a) (.cond c1<| .cond c2<| .cond c3<| .cond c4<| .cond c5<| .nil)
 have c5:=b1 20;rw[eO h5]at c5;rw[bT (by simp[h1,h2,h3,h4,h5])]
 by_cases h6:a=21
 ·have c6:=b1 21;rw[dZ h6]at c6;rw[bL h6];exact ak (aan a) (.cond c1<| .cond c2<| .cond c3<| .cond c4<| .cond c5<| .cond c6<| .nil)
 have c6:=b1 21;rw[eO h6]at c6;rw[bT h6]
 by_cases h7:a=23
 ·have c7:=b1 23;rw[dZ h7]at c7;rw[bL (by simp[h7])];exact ak (aam a) (.cond c1<| .cond c2<| .cond c3<| .cond c4<| .cond c5<| .cond c6<| .cond c7<| .cond c7<| .nil)
 have c7:=b1 23;rw[eO h7]at c7
 by_cases h8:a=37
 ·have c8:=b1 37;rw[dZ h8]at c8;rw[bL (by simp[h8])];exact ak (aal a) (.cond c1<| .cond c2<| .cond c3<| .cond c4<| .cond c5<| .cond c6<| .cond c7<| .cond c8<| .cond c8<| .nil)
 have c8:=b1 37;rw[eO h8]at c8
 by_cases h9:a=34
 ·have c9:=b1 34;rw[dZ h9]at c9;rw[bL (by simp[h9])];exact ak (aak a) (.cond c1<| .cond c2<| .cond c3<| .cond c4<| .cond c5<| .cond c6<| .cond c7<| .cond c8<| .cond c9<| .nil)
 have c9:=b1 34;rw[eO h9]at c9;rw[bT (by simp[h7,h8,h9])];exact ak (aat a) (.cond c1<| .cond c2<| .cond c3<| .cond c4<| .cond c5<| .cond c6<| .cond c7<| .cond c8<| .cond c9<| .nil)
theorem aiM (g:Gd m)(hc:gW m c M1 M2 f)(op:Int){q cc:Nat}{ks:List Int}(hk:Obj m q 1 (ks.map vI))(hq:q≠c)(hl:ks.length<90000):
  ∃m',Ev K 172 [vP c 0,vI op,vL q 0 ks.length cc] m (vI (fJ op).2) m'/\Kp m m' (fun y=>y=c)/\gW m' c M1 M2 (Va (fJ op).1 ks f):=by
 obtain⟨A,hA⟩:∃A,A=vL q 0 ks.length cc:=⟨_,rfl⟩;have c1:=amM (K:=K) (m:=m) op;obtain⟨t0,h0,e0⟩:=bQ (K:=K) (m:=m) (m':=m) (tm:=entry [vP c 0,vI op,vL q 0 ks.length cc]) (ad2 c q ks.length cc op (fJ op).1 (fJ op).2) rfl (.call c1<| .nil);obtain⟨e,t1,m1,he,hx,rfl,hg,kk,Mz⟩:=jP (K:=K) (nt:=bN 172) (a:=bh (ax 172) [3])
  (Inv:=fun n tm m'=>∃j w f',n=ks.length-j/\j<=ks.length/\cH [0,7,8,16,17,18] tm=[vP c 0,vI w,vI (fJ op).2,A,vI (ks.length:Int),vI (j:Int)]/\Kp m m' (fun y=>y=c)/\gW m' c M1 M2 f'/\Va w (ks.drop j) f'=Va (fJ op).1 ks f)
  (dA:=fun e tm m'=>e= .exit 0/\cH [8] tm=[vI (fJ op).2]/\Kp m m' (fun y=>y=c)/\gW m' c M1 M2 (Va (fJ op).1 ks f))
  (by
   rintro n tm m1 ⟨j,w,f',rfl,hj,hg,kk,Mz,hf⟩;rw[hA]at hg
   by_cases h1:j<ks.length
   ·have c1:(.bool (br (j:Int) (ks.length:Int)):af)= .bool true:=by rw[sB,dZ h1]
    obtain⟨y,hy⟩:∃y,ks[j]=y:=⟨_,rfl⟩;have hd:ks.drop j=y::ks.drop (j+1):=by rw[List.drop_eq_getElem_cons h1,hy]
    have OH:aI q (0+j*1) m1=some (vI y,m1):=by
     rw[Nat.zero_add,Nat.mul_one];exact aJ (hk.ext kk hq) (by rw[List.getElem?_map,List.getElem?_eq_getElem h1,hy];rfl)
    rw[hd]at hf;rw[QD]at hf
    by_cases h2:w=0
    ·have c2:(.bool (aZ w 0):af)= .bool true:=by rw[cu,dZ h2]
     simp only[bL h2]at hf;have c3:=ack (K:=K) (m:=m1) y y;obtain⟨m2,e2,k2,sf⟩:=Pa (K:=K) (g.ext kk) Mz (fits y y) 5;obtain⟨t2,dk,dm⟩:=aU (K:=K) (m:=m1) (m':=m2) ET (adY c q ks.length cc j w (fJ op).2 y (fits y y)) hg (.cond c1<| .idx rfl av<| .mem OH<| .cond c2<| .call c3<| .call e2<| .nil);exact .inl ⟨_,t2,m2,av,dk,j+1,y,_,rfl,h1,by rw[dm,gH ⟨av,av⟩,hA];rfl,kk.trans k2 fun _ _ h=>h,sf,hf⟩
    ·have c2:(.bool (aZ w 0):af)= .bool false:=by rw[cu,eO h2]
     simp only[bT h2]at hf;have c3:=ack (K:=K) (m:=m1) y w;obtain⟨m2,e2,k2,sf⟩:=Pa (K:=K) (g.ext kk) Mz (fits y w) 5;obtain⟨t2,dk,dm⟩:=aU (K:=K) (m:=m1) (m':=m2) ET (ad0 c q ks.length cc j w (fJ op).2 y (fits y w)) hg (.cond c1<| .idx rfl av<| .mem OH<| .cond c2<| .call c3<| .call e2<| .nil);exact .inl ⟨_,t2,m2,av,dk,j+1,w,_,rfl,h1,by rw[dm,gH ⟨av,av⟩,hA];rfl,kk.trans k2 fun _ _ h=>h,sf,hf⟩
   ·have c1:(.bool (br (j:Int) (ks.length:Int)):af)= .bool false:=by rw[sB,eO h1]
    obtain⟨t2,dk,dm⟩:=aU (K:=K) (m:=m1) (m':=m1) ET (adZ c q ks.length cc j w (fJ op).2) hg (.cond c1 .nil);rw[List.drop_of_length_le av]at hf;exact .inr ⟨_,t2,m1,(fun h=>by cases h),dk,rfl,dm,kk,by rw[<-hf];exact Mz⟩)
  (n:=ks.length) (k:=100000) (tm:=t0) (m:=m) ⟨0,_,f,av,av,by rw[e0,hA];rfl,Kp.refl _ _,hc,rfl⟩ av
 obtain⟨t2,h2,e2⟩:=bQ (K:=K) (m:=m1) (m':=m1) (ad1 (fJ op).2) hg .nil;exact⟨m1,fg agF (aX.cut h0 (aX.iH VU V8 hx rfl (aX.last h2 NK))) (.inr rfl) e2,kk,Mz⟩
theorem TH (t b:Nat):fH ae 392 [(0,.iface t (vP b 0))]=some (.agg #[.iface t (vP b 0)]):=bp
theorem acz (t b:Nat):fH ae 394 [(0,.iface t (vP b 0))]=some (.agg #[.iface t (vP b 0)]):=bp
theorem TK (op:Int)(t b t' b':Nat):fH ae 307 [(0,vI op),(1,.iface t (vP b 0)),(2,.iface t' (vP b' 0))]=some (.agg #[vI op,.iface t (vP b 0),.iface t' (vP b' 0)]):=bp
theorem amV (g:Gd m)(op:Int){B:Nat->Prop}{x:X}{xv:af}(hx:XR B x m xv):∃v m',Ev K 173 [vI op,xv] m v m'/\Kp m m' eU/\XR (fun y=>B y\/fY m m' y) (Z0 op x) m' v:=by
 obtain⟨t,b,rfl⟩:=hx.form;unfold Z0
 by_cases h:op=34
 ·have b1:(.bool (aZ op 34):af)= .bool true:=by rw[cu,dZ h]
  rw[bL h];have e1:=TH t b;obtain⟨m1,e2,o2,k2,n2,_⟩:=aQ g [.iface t (vP b 0)];exact⟨_,m1,ak (agn op _ m.next) (.cond b1<| .val e1<| .mem e2<| .nil),k2,_,_,rfl,.inr ⟨ai _,av⟩,o2,XR.mono (fun _ h=> .inl h) (XR.ext k2 (fun _ _ h=>h) hx)⟩
 ·have b1:(.bool (aZ op 34):af)= .bool false:=by rw[cu,eO h]
  rw[bT h];obtain⟨m1,e1,o1,k1,n1,_⟩:=aQ g [vI 1,vI 0,.string .empty,.bool false];have e2:=TK 18 317 m.next t b;obtain⟨m2,e3,o3,k3,n3,_⟩:=aQ (g.ext k1) [vI 18,.iface 317 (vP m.next 0),.iface t (vP b 0)];exact⟨_,m2,ak (ago op _ m.next m1.next) (.cond b1<| .mem e1<| .val e2<| .mem e3<| .nil),k1.aN k3,_,_,_,rfl,.inr ⟨av,av⟩,o3,⟨_,rfl,.inr ⟨ai _,av⟩,o1.aM k3⟩,XR.mono (fun _ h=> .inl h) (XR.ext (k1.aN k3) (fun _ _ h=>h) hx)⟩
theorem amU (g:Gd m)(no:Bool){B:Nat->Prop}{x:X}{xv:af}(hx:XR B x m xv):∃v m',Ev K 174 [xv,.bool no] m v m'/\Kp m m' eU/\XR (fun y=>B y\/fY m m' y) (abi x no) m' v:=by
 obtain⟨t,b,rfl⟩:=hx.form;have e1:=acz t b;obtain⟨m1,e2,o2,k2,n2,_⟩:=aQ g [.iface t (vP b 0)];unfold abi;cases no with
 |false=>exact⟨_,m1,ak (agm _ m.next) (.cond rfl<| .val e1<| .mem e2<| .nil),k2,_,_,rfl,.inr ⟨ai _,av⟩,o2,XR.mono (fun _ h=> .inl h) (XR.ext k2 (fun _ _ h=>h) hx)⟩
 |true=>
  have e3:=TH 393 m.next;obtain⟨m2,e4,o4,k4,n4,_⟩:=aQ (g.ext k2) [.iface 393 (vP m.next 0)];exact⟨_,m2,ak (agl _ m.next m1.next) (.cond rfl<| .val e1<| .mem e2<| .val e3<| .mem e4<| .nil),k2.aN k4,_,_,rfl,.inr ⟨av,av⟩,o4,_,_,rfl,.inr ⟨ai _,av⟩,o2.aM k4,XR.mono (fun _ h=> .inl h) (XR.ext (k2.aN k4) (fun _ _ h=>h) hx)⟩
end
end Go.AM
