/-
  What the claim stands on, part 10.
-/
import Derived.Test.YtgfppohfgconeaaGreatDoorH9
set_option linter.unusedVariables false
set_option linter.unusedSimpArgs false
open Go.Proofs.Tryz renaming prog → ab
open Go renaming Value → ae, World → ao, Program → aC, IntKind → bU
open Nat renaming le_of_ble_eq_true → af, le_refl → aj, eq_of_beq_eq_true → ay, lt_of_lt_of_le → aW
open Bool renaming and_eq_true → ag
open Option.some renaming injEq → ah
open Prod.mk renaming injEq → au
open Option renaming map_eq_some_iff → az, bind_eq_some_iff → bC
open List renaming all_eq_true → aB, mem_cons → aL
namespace Go.AM
set_option maxRecDepth 1000000
open Go Go.Conc Go.Proofs
theorem p74 (rn rc b1 d:Nat)(ra:Option Addr)(rv:ae):Path 74 [.slice ra rn rc]
 [mB [some (.slice ra rn rc)] b1,
  mB [some fq,some (vI 0),some fq,some (vI 0),some fq,some (vI 0),some fq,some (vI 0),some fq] d,
  .mem (aD b1 0) (.slice ra rn rc),
  .call 109 [vP d 0,vI rn,.func (.func 110) #[] #[vP b1 0]] (.tuple #[rv,vI 0])]
 (.tuple #[rv,vI 0]):=lV
noncomputable def cv0:Nat->Int->Int->V:=yE (fun _=>none) gL
noncomputable def TM(xs:List X):List V:=(mK cv0 xs []).1
theorem B3 {α β:Type}[Inhabited α]{f:α->β}{l:List α}:∀(n i:Nat) (acc:List β),i+n=l.length->ij (fun k=>[f (l[k]!)]) n i acc=acc++(l.drop i).map f
 |0,i,acc,h=>by
  unfold ij;rw[List.drop_of_length_le ai];simp
 |n+1,i,acc,h=>by
  unfold ij;rw[B3 n (i+1) _ ai,List.drop_eq_getElem_cons (i:=i) ai,getElem!_pos l i ai,List.map_cons,List.append_assoc];rfl
section
variable {K:fZ}{m:Mem}{B:Nat->Prop}
theorem RR {m0:Mem}{X:Nat->Prop}{rows:List (List AM.X)}{rl:ae}{t2:Nat}(h1:Obj m0 t2 0 [rl])(h2:(aX (aX nG 1) 1).R B rows m0 rl)(hX:∀b,b=t2\/B b->¬X b/\b<m0.next)(eZ:∀xs∈rows,(∀x∈xs,YT cv0 x)/\(mK cv0 xs []).2=0/\xs.length<9000):
  Av KW m0 X 110 #[vP t2 0] cR 1 (fun k=>[TM (rows[k]!)]) rows.length:=by
 refine⟨fun i=>by simp,?_⟩;intro mw BO BE acc sv k hk g hs ls hBO HW ha;have s1:=h1.og hs (hX _ (.inl rfl)).1;have s2:=aX.iG (sz:=1) (aX.iG (sz:=1) nG.iG) _ _ _ _ _ h2 (hs.mono fun b hb=>(hX b (.inr hb)).1);obtain⟨b,c,u,cs,rfl,_,o,hu,hle,hr,ov⟩:=aX.get s2 hk;have hrm:rows[k]∈rows:=List.getElem_mem hk;rw[getElem!_pos rows k hk];obtain⟨a1,a2,a3⟩:=eZ _ hrm;have e1:aD b (0+k*1) mw=some (u,mw):=by
  rw[Nat.zero_add,Nat.mul_one];rw[Nat.mul_one]at hu;refine aS o ?_;obtain⟨ua,uc,rfl⟩:=aX.form hr;rw[show(ae.slice ua rows[k].length uc).cells.toList=[.slice ua rows[k].length uc]from rfl]at hu;have :=congrArg (·[0]?) hu;simpa using this
 obtain⟨m1,e2,o2,k2,n2,_⟩:=cA g [.int .i32 0,.int .i32 0,.int .i32 0,.int .i32 0,.int .i32 0,.int .i32 0];have g1:=g.ext k2;have hsc:FJ fu (fun _=>none) gL mw.next 0 0 m1:=⟨⟨_,o2,rfl,af rfl⟩,fun p rows h=>by cases h⟩;have Oa:=ls.ext k2 fun _ _ h=>h
 obtain⟨vD,m',QW,Ky,e3,k3,ls3,x1,x2⟩:=Z5 (K:=KW) (R1 (BT:=fu) (sz:=0)) g1 hsc Oa (fun b hb=>by have :=(hBO b hb).2;omega) (fun b hb=>by have :=(HW b hb).2;omega) ((aX nG 1).ext hr k2 fun _ _ h=>h) a1 a3 ai a2;exact⟨vD,m',QW,Ky,aY (ajN k t2 b rows.length c mw.next sv vD u) (.mem (aS s1 rfl)<| .idx rfl hk<| .mem e1<| .mem e2<| .call e3 .nil),k2.vl.trans k3 fun _ _ h=>h,ls3,fun b h=> .inr (by have :=x1 b h;exact⟨by have :=this.1;omega,this.2⟩),fun b h=>(x2 b h).imp id fun h=>⟨by have :=h.1;omega,h.2⟩⟩
theorem c74 (hK:FL K)(cm:Calm m){rows:List (List X)}{rv:ae}(q:(aX (aX nG 1) 1).R B rows m rv)(hB:∀b,B b->b<m.next)(eZ:∀xs∈rows,(∀x∈xs,YT cv0 x)/\(mK cv0 xs []).2=0/\xs.length<9000)(hn:rows.length<9000):
  ∃rv' m',Ev K 74 [rv] m (.tuple #[rv',vI 0]) m'/\Kp m m' fu/\(aX cR 1).R (jD m m') (rows.map TM) m' rv':=by
 obtain⟨ra,rc,rfl⟩:=aX.form q;obtain⟨b1,nN⟩:∃b,b=m.next:=⟨_,rfl⟩;obtain⟨m1,e1,o1,k1,n1,_⟩:=cA cm.gd [.slice ra rows.length rc];rw[<-nN]at e1 o1;have J4:=cm.ext k1;obtain⟨d,hd⟩:∃b,b=m1.next:=⟨_,rfl⟩;obtain⟨m2,e2,o2,k2,n2,_⟩:=cA J4.gd [.slice none 0 0,vI 0,.slice none 0 0,vI 0,.slice none 0 0,vI 0,.slice none 0 0,vI 0,.slice none 0 0];rw[<-hd]at e2 o2;have pS:=k1.aZ k2;have OW:=cm.ext pS;have sS:m2.base<=d:=by
  have h1:=OW.gd.bf;have h2:=cm.gd.fn;have h3:=pS.floor;have h4:=pS.base;have :=cm.gd.bf;omega
 have alf:j4 m2 d 0 1 [.slice none 0 0,vI 0,.slice none 0 0,vI 0,.slice none 0 0,vI 0,.slice none 0 0,vI 0,.slice none 0 0] (fun _=>none) none:=by
  refine⟨af rfl,fun j hj=>⟨.slice none 0 0,?_,.inl ⟨rfl,rfl⟩⟩,fun _ _=>rfl,g8,g8,⟨.slice none 0 0,rfl,.inl ⟨rfl,rfl⟩⟩,g8⟩;obtain rfl|rfl|rfl|rfl:j=0\/j=1\/j=2\/j=3:=ai
  all_goals rfl
 have fp:=RR (B:=B) (X:=fun b=>b=d) (o1.cf k2) ((aX (aX nG 1) 1).ext q pS fun _ _ h=>h) (fun b hb=>hb.elim (fun e=>⟨ai,ai⟩) fun h=>by have :=hB b h;exact⟨ai,ai⟩) eZ;obtain⟨rv',m3,ys,Et,u9,e3,k3,o3,Xn,Zi,Re,amD,VH,hy8,q3,_⟩:=acR (K:=K) TC (t:=29) (sz:=1) rfl hK fp cR.iG rfl (fun k b h=>by cases h) OW o2 sS alf hn;rw[B3 _ _ _ ai]at q3;have n3:=k3.next;refine⟨rv',m3,aY (p74 rows.length rc b1 d ra rv') (.mem e1<| .mem e2<| .mem (aS (o1.cf k2) rfl)<| .call e3 .nil),pS.new k3 (N:=m.next) (aj _) fun b hb=>?_,by
  rw[List.drop_zero,List.nil_append]at q3;exact(aX cR 1).mono q3 fun b hb=>⟨by have :=hb.1;omega,hb.2⟩⟩
 rcases hb with h|⟨i,h⟩|h
 ·omega
 ·cases h
 ·cases h
end
end Go.AM
namespace Go.AM
set_option maxRecDepth 1000000
open Go Go.Conc Go.Proofs
def nZ (n:Nat):List UInt8:=if h:n<10 then[UInt8.ofNat (48+n)]else nZ (n / 10)++[UInt8.ofNat (48+n%10)]
 termination_by n
 decreasing_by omega
theorem Hi {n:Nat}(h:n<10):nZ n=[UInt8.ofNat (48+n)]:=by rw[nZ,dif_pos h]
theorem Hj {n:Nat}(h:¬n<10):nZ n=nZ (n / 10)++[UInt8.ofNat (48+n%10)]:=by rw[nZ,dif_neg h]
theorem als {k:Nat}(h:k<10):(UInt8.ofNat (48+k)).toNat=48+k:=by
 rw[UInt8.toNat_ofNat'];omega
end Go.AM
namespace Go.AM
set_option maxRecDepth 1000000
open Go Go.Conc Go.Proofs
theorem ajX (a:Int):pu ab [vI a] (Op.unary .neg (vI a))=some (vI (bU.i64.wrap (-a))):=by
 have h:(Op.unary .neg (vI a)).aM ab=some (vI (bU.i64.wrap (0-a))):=rfl;rw[Int.zero_sub]at h;exact tK rfl h rfl
end Go.AM
namespace Go.AM
set_option maxRecDepth 1000000
open Go Go.Conc Go.Proofs
theorem Yi:pu ab [vI 48] (convert 3 5 (vI 48))=some (.int .u8 48):=aU
theorem Yh:pu ab [vI 49] (convert 3 5 (vI 49))=some (.int .u8 49):=aU
theorem Yg:pu ab [vI 50] (convert 3 5 (vI 50))=some (.int .u8 50):=aU
theorem Yf:pu ab [vI 51] (convert 3 5 (vI 51))=some (.int .u8 51):=aU
theorem Ye:pu ab [vI 52] (convert 3 5 (vI 52))=some (.int .u8 52):=aU
theorem Yd:pu ab [vI 53] (convert 3 5 (vI 53))=some (.int .u8 53):=aU
theorem Yc:pu ab [vI 54] (convert 3 5 (vI 54))=some (.int .u8 54):=aU
theorem Yb:pu ab [vI 55] (convert 3 5 (vI 55))=some (.int .u8 55):=aU
theorem Ya:pu ab [vI 56] (convert 3 5 (vI 56))=some (.int .u8 56):=aU
theorem X9:pu ab [vI 57] (convert 3 5 (vI 57))=some (.int .u8 57):=aU
theorem ahQ {k:Nat}(hk:k<10):pu ab [vI (48+k:Nat)] (convert 3 5 (vI (48+k:Nat)))=some (.int .u8 (48+k:Nat)):=by
 have h:k=0\/k=1\/k=2\/k=3\/k=4\/k=5\/k=6\/k=7\/k=8\/k=9:=ai;rcases h with rfl|rfl|rfl|rfl|rfl|rfl|rfl|rfl|rfl|rfl
 ·exact Yi
 ·exact Yh
 ·exact Yg
 ·exact Yf
 ·exact Ye
 ·exact Yd
 ·exact Yc
 ·exact Yb
 ·exact Ya
 ·exact X9
theorem al4 {m:Mem}(x:Int):bY ab 72 1 [(0,.int .u8 x)] m=some (vL m.next 0 1 1,m.alloc {kind:=1,sz:=1,cs:=[some (.int .u8 x)]}):=aU
theorem U6 (l r:List UInt8):(⟨l.toArray⟩++⟨r.toArray⟩:ByteArray)=⟨(l++r).toArray⟩:=by
 apply ByteArray.ext;rw[ByteArray.data_append];simp
theorem Dg {l r:List UInt8}(h:l.length+r.length<9223372036854775808):Hy ⟨l.toArray⟩ ⟨r.toArray⟩=some (.string ⟨(l++r).toArray⟩):=by
 unfold Hy;have e1:(⟨l.toArray⟩:ByteArray).size=l.length:=by show l.toArray.size=_;simp
 have e2:(⟨r.toArray⟩:ByteArray).size=r.length:=by show r.toArray.size=_;simp
 rw[e1,e2];have :Nat.blt (l.length+r.length) 9223372036854775808=true:=Nat.ble_eq_true_of_le ai;rw[this,U6]
theorem JX:∀(k n:Nat),n<10^(k+1)->(nZ n).length<=k+1
 |0,n,h=>by rw[Hi (by simpa using h)];simp
 |k+1,n,h=>by
  by_cases h1:n<10
  ·rw[Hi h1];simp
  ·rw[Hj h1];have h2:n<10^(k+1)*10:=by rw[<-Nat.pow_succ];exact h
   have :=JX k (n / 10) ai;simp;omega
theorem MG {n:Nat}(h:n<9223372036854775808):(nZ n).length<=19:=JX 18 n (Nat.lt_trans h eS)
section
variable {K:fZ}{m:Mem}
theorem ajH (n:Int)(x1 x2:Int)(gD:Nat)(s1:ByteArray):Path 16 [vI n]
 [aP (cO n 0) false,
  .val (ik Nat.mod .i64 n 10 (gE ab .rem 3 false true (vI n) (vI 10))) (vI x1),
  .val (pu ab [vI (bL 48 x1)] (convert 3 5 (vI (bL 48 x1)))) (.int .u8 x2),
  .mem (bY ab 72 1 [(0,(.int .u8 x2))]) (vL gD 0 1 1),
  .mem (fK ab 72 9 (vL gD 0 1 1)) (jX s1),
  aP (cO n 10) true]
 (jX s1):=lV
theorem ajG (n:Int)(x1 x2 x3:Int)(gD:Nat)(s1 s2:ByteArray):Path 16 [vI n]
 [aP (cO n 0) false,
  .val (ik Nat.mod .i64 n 10 (gE ab .rem 3 false true (vI n) (vI 10))) (vI x1),
  .val (pu ab [vI (bL 48 x1)] (convert 3 5 (vI (bL 48 x1)))) (.int .u8 x2),
  .mem (bY ab 72 1 [(0,(.int .u8 x2))]) (vL gD 0 1 1),
  .mem (fK ab 72 9 (vL gD 0 1 1)) (jX s1),
  aP (cO n 10) false,
  .val (ik Nat.div .i64 n 10 (gE ab .quo 3 false true (vI n) (vI 10))) (vI x3),
  .call 16 [vI x3] (jX s2),
  .val (Hy s2 s1) (jX (s2++s1))]
 (jX (s2++s1)):=lV
theorem ZW (cy:Bool)(a b:Int)(hb:b≠0):ik Nat.mod .i64 a b (gE ab .rem 3 false cy (vI a) (vI b))=some (vI (Se a b)):=by
 cases cy with
 |false=>exact UO a b hb
 |true=>rw[(aaR false true a b hb).trans (aaR false false a b hb).symm];exact UO a b hb
theorem ZX (cy:Bool)(a b:Int)(hb:b≠0):ik Nat.div .i64 a b (gE ab .quo 3 false cy (vI a) (vI b))=some (vI (Lv a b)):=by
 cases cy with
 |false=>exact ahN a b hb
 |true=>rw[(aaU false true a b hb).trans (aaU false false a b hb).symm];exact ahN a b hb
theorem Sc (a:Nat)(b:Nat):Se a b=((a%b:Nat):Int):=rfl
theorem IJ {a:Nat}(b:Nat)(ha:a<9223372036854775808):Lv a b=((a / b:Nat):Int):=by
 unfold Lv;rw[show Int.tdiv a b=((a / b:Nat):Int)from rfl];have :=Nat.div_le_self a b;generalize a / b=q at this;exact qf ⟨ai,ai⟩
theorem c16 (n:Nat):∀{m:Mem},Gd m->n<9223372036854775808->∃m',Ev K 16 [vI n] m (.string ⟨(nZ n).toArray⟩) m'/\Kp m m' fu:=by
 induction n using Nat.strongRecOn with
 |ind n ih=>
  intro m g hn;have b0:(.bool (cO n 0):ae)= .bool false:=by rw[fG,yA ai]
  have r1:ik Nat.mod .i64 n 10 (gE ab .rem 3 false true (vI n) (vI 10))=some (vI (n%10:Nat)):=ZW true n 10 eS;have hk:n%10<10:=Nat.mod_lt _ eS;have a1:bL 48 (n%10:Nat)=((48+n%10:Nat):Int):=by rw[vd ⟨ai,ai⟩];omega
  have r2:pu ab [vI (bL 48 (n%10:Nat))] (convert 3 5 (vI (bL 48 (n%10:Nat))))=some (.int .u8 (48+n%10:Nat)):=by rw[a1];exact ahQ hk
  obtain⟨o1,k1,n1⟩:=gJ g (k:={kind:=1,sz:=1,cs:=[some (.int .u8 (48+n%10:Nat))]}) (cs:=[.int .u8 (48+n%10:Nat)]) (sz:=1) rfl rfl rfl;have e1:=al4 (m:=m) ((48+n%10:Nat):Int);generalize m.alloc {kind:=1,sz:=1,cs:=[some (.int .u8 (48+n%10:Nat))]}=m1 at o1 k1 n1 e1;have hb:([.int .u8 (48+n%10:Nat)]:List ae)=wM [UInt8.ofNat (48+n%10)]:=by
   show _=[ae.int .u8 ((UInt8.ofNat (48+n%10)).toNat:Int)]
   rw[als hk]
  rw[hb]at o1;have e2:fK ab 72 9 (vL m.next 0 1 1) m1=some (.string ⟨#[UInt8.ofNat (48+n%10)]⟩,m1):=RF (l:=[UInt8.ofNat (48+n%10)]) o1
  by_cases h:n<10
  ·have b1:(.bool (cO n 10):ae)= .bool true:=by rw[fG,AA ai]
   have hd:nZ n=[UInt8.ofNat (48+n%10)]:=by rw[Hi h,Nat.mod_eq_of_lt h]
   rw[hd];exact⟨m1,aY (ajH n ..) (.cond b0<| .val r1<| .val r2<| .mem e1<| .mem e2<| .cond b1 .nil),k1⟩
  ·have b1:(.bool (cO n 10):ae)= .bool false:=by rw[fG,yA ai]
   obtain⟨m2,e3,k2⟩:=ih (n / 10) ai (g.ext k1) ai;have r3:ik Nat.div .i64 n 10 (gE ab .quo 3 false true (vI n) (vI 10))=some (vI (n / 10:Nat)):=by
    rw[ZX true n 10 eS];have :=IJ 10 hn;exact congrArg (fun x=>some (vI x)) this
   have r4:=Dg (l:=nZ (n / 10)) (r:=[UInt8.ofNat (48+n%10)]) (by have :=MG (n:=n / 10) ai;simp;omega);rw[<-Hj h]at r4;have Ql:(⟨(nZ (n / 10)).toArray⟩++⟨#[UInt8.ofNat (48+n%10)]⟩:ByteArray)=⟨(nZ n).toArray⟩:=by
    rw[Hj h];exact U6 _ [UInt8.ofNat (48+n%10)]
   refine⟨m2,?_,k1.aZ k2⟩;have :=aY (K:=K) (ajG n (gD:=m.next) (s1:=⟨#[UInt8.ofNat (48+n%10)]⟩) (s2:=⟨(nZ (n / 10)).toArray⟩) ..) (.cond b0<| .val r1<| .val r2<| .mem e1<| .mem e2<| .cond b1<| .val r3<| .call e3<| .val (by rw[Ql];exact r4) .nil);rwa[Ql]at this
end
end Go.AM
namespace Go.AM
set_option maxRecDepth 1000000
open Go Go.Conc Go.Proofs
def txG:ByteArray:=⟨#[67,82,69,65,84,69,32,84,65,66,76,69,32,103,40,97,32,73,78,84,44,32,98,32,73,78,84,41]⟩
def tx1:ByteArray:=⟨#[83,69,76,69,67,84,32,42,32,70,82,79,77,32,103]⟩
def tx2:ByteArray:=⟨#[83,69,76,69,67,84,32,42,32,70,82,79,77,32,103,32,85,78,73,79,78,32,65,76,76,32,83,69,76,69,67,84,32,98,44,32,97,32,70,82,79,77,32,103]⟩
def tx3:ByteArray:=⟨#[83,69,76,69,67,84,32,98,32,65,83,32,97,44,32,97,32,65,83,32,98,32,70,82,79,77,32,103,32,85,78,73,79,78,32,65,76,76,32,83,69,76,69,67,84,32,42,32,70,82,79,77,32,103]⟩
def tx4:ByteArray:=⟨#[83,69,76,69,67,84,32,42,32,70,82,79,77,32,103,32,85,78,73,79,78,32,83,69,76,69,67,84,32,42,32,70,82,79,77,32,103]⟩
def bA:ByteArray:=⟨#[97]⟩
def bB:ByteArray:=⟨#[98]⟩
def bE:ByteArray:=⟨#[101]⟩
def bG:ByteArray:=⟨#[103]⟩
def sA:List FN:=[⟨bA,1⟩,⟨bB,1⟩]
def agN (a b:Nat):List UInt8:=[73,78,83,69,82,84,32,73,78,84,79,32,103,32,86,65,76,85,69,83,32,40]++nZ a++[44,32]++nZ b++[41]
def xa (p:Nat):X:= .Aq p 0 0
def xb (p:Nat):X:= .Aq p 0 1
def UY (pg:Nat):Kx:=⟨[⟨pg,none⟩],none,[xa pg,xb pg]⟩
def ah7 (pg:Nat):Kx:=⟨[⟨pg,none⟩],none,[xb pg,xa pg]⟩
def Rp (s:Kx):AS:=(s.mG.map fun x=>(x.p,x.on),s.wh,s.rO)
def sL (b:pR):Kt:=(Rp b.first,b.us.map fun u=>(u.all,Rp u.sel))
theorem cJ.map'{α β:Type}{f:α->β}{Q:α->ae->Prop}{Q':β->ae->Prop}(h:∀x v,Q x v->Q' (f x) v):∀{l:List α}{cs:List ae},cJ Q l cs->cJ Q' (l.map f) cs
 | [],cs,q=>q
 |x::l,cs,q=>by
  obtain⟨v,r,e,q1,q2⟩:=q;exact⟨v,r,e,h _ _ q1,cJ.map' h q2⟩
theorem aX.map'{α β:Type}{E:oD α}{E':oD β}{f:α->β}{sz:Nat}{B:Nat->Prop}{m:Mem}(h:∀x v,E.R B x m v->E'.R B (f x) m v){l:List α}{v:ae}(q:(aX E sz).R B l m v):(aX E' sz).R B (l.map f) m v:=by
 obtain⟨cs,h1,h2,h3⟩:=q;exact⟨cs,by rw[List.length_map];exact h1,h2,h3.map' fun x v w=>⟨h x v w.1,w.2⟩⟩
theorem H3 {B:Nat->Prop}{m:Mem}{s:Kx}{v:ae}(h:lS.R B s m v):vQ.R B (Rp s) m v:=by
 obtain⟨a,w,b,e,h1,h2,h3⟩:=h;exact⟨a,w,b,e,aX.map' (E:=JU) (E':=vR) (fun x v ⟨o,e,h⟩=>⟨o,e,h⟩) h1,h2,h3⟩
theorem Pj {B:Nat->Prop}{m:Mem}{s:pR}{v:ae}(h:iY.R B s m v):OS.R B (sL s) m v:=by
 obtain⟨a,w,b,u,e,h1,h2⟩:=h;exact⟨a,w,b,u,e,H3 h1,aX.map' (E:=JS) (E':=JR) (fun x v ⟨a,w,b,e,h⟩=>⟨a,w,b,e,H3 h⟩) h2⟩
def tR (n:Nat):V:=⟨1,(n:Int),.empty,false⟩
def eA (x:Nat×Nat):List V:=[tR x.1,tR x.2]
def RL (x:Nat×Nat):Nat×Nat:=(x.2,x.1)
theorem sg (n:Nat):pz (tR n):=by show(ByteArray.empty).size<_;decide
theorem NL {α:Type}{st:Nat->List α}{f:Nat->α}:∀(n i:Nat) (acc:List α),(∀k,i<=k->k<i+n->st k=[f k])->ij st n i acc=acc++(List.range' i n).map f
 |0,i,acc,h=>by unfold ij;simp
 |n+1,i,acc,h=>by
  unfold ij;rw[NL n (i+1) _ (fun k h1 h2=>h k ai ai),h i ai ai,List.range'_succ,List.map_cons,List.append_assoc];rfl
section
variable {Tb:Nat->Option (List (List V))}{p:Nat}{ps:List (Nat×Nat)}
theorem y6 {rows:List (List V)}(h:Tb p=some rows):mh Tb [(p,none)] 0 [gL]=(List.range rows.length).map fun k=>gL.set 0 k:=by
 unfold mh mh;rw[h];simp only[Option.getD_some,List.length_singleton,Nat.one_mul];rw[NL (f:=fun k=>gL.set 0 k) rows.length 0 [] (fun k _ hk=>?_),List.nil_append,List.range_eq_range'];unfold QO;rw[bj (by rfl),Nat.div_eq_of_lt ai,Nat.mod_eq_of_lt ai];rfl
theorem Jo {rO:List X}{R:List (List Nat)}:Ac Tb rO R=R.map fun r=>(mK (yE Tb r) rO []).1:=by
 unfold Ac;rw[show(fun k=>[(mK (yE Tb (R[k]!)) rO []).1])=fun k=>[(fun r=>(mK (yE Tb r) rO []).1) (R[k]!)]from rfl,B3 (f:=fun r=>(mK (yE Tb r) rO []).1) R.length 0 [] ai];simp
theorem UQ {k:Nat}(h:Tb p=some (ps.map eA))(hk:k<ps.length):yE Tb (gL.set 0 k) p 0 0=tR ps[k].1/\yE Tb (gL.set 0 k) p 0 1=tR ps[k].2:=by
 have e:(ps.map eA)[k]?=some (eA ps[k]):=by rw[List.getElem?_map,List.getElem?_eq_getElem hk];rfl
 have e0:(gL.set 0 k)[(0:Int).toNat]?=some k:=rfl
 constructor
 ·unfold yE;simp only[h,e0,e];rfl
 ·unfold yE;simp only[h,e0,e];rfl
def vg (p:Nat):AS:=([(p,none)],none,[xa p,xb p])
def FU (p:Nat):AS:=([(p,none)],none,[xb p,xa p])
theorem abK {cv:Nat->Int->Int->V}{i j i' j':Int}:mK cv [.Aq p i j,.Aq p i' j'] []=([cv p i j,cv p i' j'],0):=by
 simp[mK,DI]
theorem qK (h:Tb p=some (ps.map eA)):iL Tb (vg p)=ps.map eA:=by
 unfold iL vg kL;rw[y6 h,Jo,List.map_map,List.length_map];refine List.ext_getElem du fun k h1 h2=>?_
 have hk:k<ps.length:=by simpa using h2
 obtain⟨c1,c2⟩:=UQ h hk;simp only[List.getElem_map,List.getElem_range,Function.comp]
 show(mK (yE Tb (gL.set 0 k)) [.Aq p 0 0,.Aq p 0 1] []).1=_
 rw[abK,c1,c2];rfl
theorem yL (h:Tb p=some (ps.map eA)):iL Tb (FU p)=ps.map fun x=>eA (RL x):=by
 unfold iL FU kL;rw[y6 h,Jo,List.map_map,List.length_map];refine List.ext_getElem du fun k h1 h2=>?_
 have hk:k<ps.length:=by simpa using h2
 obtain⟨c1,c2⟩:=UQ h hk;simp only[List.getElem_map,List.getElem_range,Function.comp]
 show(mK (yE Tb (gL.set 0 k)) [.Aq p 0 1,.Aq p 0 0] []).1=_
 rw[abK,c1,c2];rfl
theorem ok2 {j j':Int}(hj:j=0\/j=1)(qO:j'=0\/j'=1)(h:Tb p=some (ps.map eA))(hn:ps.length<=1000):Aw Tb ([(p,none)],none,[.Aq p 0 j,.Aq p 0 j']):=by
 have Qf:=y6 (p:=p) h;rw[List.length_map]at Qf;have hc:∀{k:Nat}{j:Int},k<ps.length->j=0\/j=1->pz (yE Tb (gL.set 0 k) p 0 j):=fun hk hj=>by
  obtain⟨c1,c2⟩:=UQ h hk;rcases hj with rfl|rfl
  ·rw[c1];exact sg _
  ·rw[c2];exact sg _
 refine⟨af rfl,⟨⟨_,h⟩,?_,rfl,trivial⟩,?_,rfl,?_,fun r hr=>?_,af rfl⟩
 ·rw[h];simp only[Option.getD_some,List.length_singleton,List.length_map];omega
 ·rw[Qf];simp;omega
 ·unfold kL;rw[Qf];simp;omega
 ·unfold kL at hr;simp only[]at hr;rw[Qf]at hr;obtain⟨k,hk,rfl⟩:=List.mem_map.1 hr;have hk:=List.mem_range.1 hk;refine⟨fun x hx=>?_,by rw[show mK _ [X.Aq p 0 j,X.Aq p 0 j'] []=_ from abK]⟩;rcases aL.1 hx with rfl|hx
  ·exact hc hk hj
  ·rw[List.mem_singleton.1 hx];exact hc hk qO
end
theorem agM (u v:V):TM [.lit u,.lit v]=[u,v]:=by simp[TM,mK,DI]
theorem abP {a b:Nat}{xs:List X}(h:xs=[.lit (tR a),.lit (tR b)]):(∀x∈xs,YT cv0 x)/\(mK cv0 xs []).2=0/\xs.length<9000:=by
 subst h;refine⟨fun x hx=>?_,by simp[mK,DI],af rfl⟩;rcases aL.1 hx with rfl|hx
 ·exact sg a
 ·rw[List.mem_singleton.1 hx];exact sg b
section
variable {m:Mem}
theorem mz.row{BO BE:Nat->Prop}{l:List (List V)}{sv:ae}(h:mz cR 1 BO BE m l sv){j:Nat}(hj:j<l.length):
  ∃b bx c,sv=vL b 0 l.length cH/\(BO b/\BE bx)/\aD b j m=some (vL bx 0 l[j].length c,m)/\Obj m bx 4 (fh l[j]):=by
 rcases h with⟨rfl,rfl⟩|⟨b,cs,rest,rfl,hb,hw,ob,gT⟩
 ·simp at hj
 ·obtain⟨u,h1,h3,_⟩:=cJ.get (Q:=fun x u=>cR.R BE x m u) (sz:=1) gT hj;obtain⟨bx,c,rfl,hbx,ox,_⟩:=h3;have e:cs[j]?=some (vL bx 0 l[j].length c):=by
   rw[Nat.mul_one]at h1;rw[show(vL bx 0 l[j].length c).cells.toList=[vL bx 0 l[j].length c]from rfl]at h1;have :=congrArg (·[0]?) h1;simpa using this
  refine⟨b,bx,c,rfl,⟨hb.1,hbx⟩,aS ob ?_,ox⟩;rw[List.getElem?_append_left (List.getElem?_eq_some_iff.1 e).1];exact e
end
end Go.AM
namespace Go.AM
open Go Go.Conc Go.Proofs
def bO (π:Nat->Nat):Nat->ae->ae
 |0,v=>v
 |n+1,v=>match v with
  | .pointer (some a)=> .pointer (some ⟨π a.block,a.off,a.spot⟩)
  | .slice (some a) l c=> .slice (some ⟨π a.block,a.off,a.spot⟩) l c
  | .map (some r)=> .map (some (π r))
  | .func fn f c=> .func fn (f.toList.map (bO π n)).toArray (c.toList.map (bO π n)).toArray
  | .iface t x=> .iface t (bO π n x)
  | .agg cs=> .agg (cs.toList.map (bO π n)).toArray
  | .tuple cs=> .tuple (cs.toList.map (bO π n)).toArray
  |v=>v
def nj:Nat->ae->Bool
 |0,v=>de v
 |n+1,v=>match v with
  | .pointer (some _)=>true
  | .slice (some _) _ _=>true
  | .map (some _)=>true
  | .func _ f c=>f.toList.all (nj n)&&c.toList.all (nj n)
  | .iface _ x=>nj n x
  | .agg cs=>cs.toList.all (nj n)
  | .tuple cs=>cs.toList.all (nj n)
  |v=>de v
theorem rZ {π:Nat->Nat}{n:Nat}{v:ae}(h:de v=true):bO π n v=v:=by
 cases n with
 |zero=>rfl
 |succ n=>cases v with
  |pointer a=>cases a<;>first |rfl|cases h
  |slice a l c=>cases a<;>first |rfl|cases h
  |map a=>cases a<;>first |rfl|cases h
  |_=>first |rfl|cases h
theorem q8 {ρ:dw}{π:Nat->Nat}{n:Nat}(ih:∀{v w:ae},nj n v=true->(aQ ρ (bO π n v) w↔aQ (fun b=>ρ (π b)) v w)):∀{l r:List ae},l.all (nj n)=true->(bH (aQ ρ) (l.map (bO π n)) r↔bH (aQ fun b=>ρ (π b)) l r)
 | [],r,_=>by cases r<;>exact Iff.rfl
 |a::l,[],_=>Iff.rfl
 |a::l,b::r,h=>by
  simp only[List.all_cons,ag]at h;exact and_congr (ih h.1) (q8 ih h.2)
theorem qX {ρ:dw}{π:Nat->Nat}:∀{n:Nat}{v w:ae},nj n v=true->(aQ ρ (bO π n v) w↔aQ (fun b=>ρ (π b)) v w):=by
 intro n
 induction n with
 |zero=>intro v w h;exact(aF h).trans (aF h).symm
 |succ n ih=>
  intro v w h;cases v with
  |pointer a=>cases a with
   |none=>exact(aF rfl).trans (aF rfl).symm
   |some a=>exact(cP (a:=⟨π a.block,a.off,a.spot⟩)).trans (cP (ρ:=fun b=>ρ (π b)) (a:=a)).symm
  |slice a l c=>cases a with
   |none=>exact(aF rfl).trans (aF rfl).symm
   |some a=>exact(bZ (a:=⟨π a.block,a.off,a.spot⟩)).trans (bZ (ρ:=fun b=>ρ (π b)) (a:=a)).symm
  |map r=>cases r with
   |none=>exact(aF rfl).trans (aF rfl).symm
   |some r=>exact(iV (r:=π r)).trans (iV (ρ:=fun b=>ρ (π b)) (r:=r)).symm
  |func fn f c=>
   have h:(f.toList.all (nj n)&&c.toList.all (nj n))=true:=h;rw[ag]at h;refine Iff.trans fN (Iff.trans ?_ fN.symm);exact exists_congr fun f'=>exists_congr fun c'=>and_congr_right fun _=>and_congr (q8 ih h.1) (q8 ih h.2)
  |iface t x=>exact fO.trans ((exists_congr fun x'=>and_congr_right fun _=>ih h).trans fO.symm)
  |agg cs=>exact gN.trans ((exists_congr fun x'=>and_congr_right fun _=>q8 ih h).trans gN.symm)
  |tuple cs=>exact eQ.trans ((exists_congr fun x'=>and_congr_right fun _=>q8 ih h).trans eQ.symm)
  |_=>first |exact(aF (by exact h)).trans (aF (by exact h)).symm|cases h
def Sb (π:Nat->Nat)(x:Option ae):Option ae:=match x with |some v=>some (bO π 20 v)|none=>none
def aaQ (π:Nat->Nat)(e:MapEntry):MapEntry:={e with key:=bO π 20 e.key,val:=bO π 20 e.val}
def mH (π:Nat->Nat)(k:dZ):dZ:={k with cs:=k.cs.map (Sb π),es:=(k.es.toList.map (aaQ π)).toArray}
def okC (x:Option ae):Bool:=match x with |some v=>nj 20 v|none=>false
def okE (e:MapEntry):Bool:=nj 20 e.key&&nj 20 e.val
def okB (k:dZ):Bool:=k.cs.all okC&&k.es.toList.all okE
theorem C2 {ρ:dw}{π:Nat->Nat}:∀{l es:List MapEntry},l.all okE=true->(bH (yy ρ) (l.map (aaQ π)) es↔bH (yy fun b=>ρ (π b)) l es)
 | [],r,_=>by cases r<;>exact Iff.rfl
 |a::l,[],_=>Iff.rfl
 |a::l,b::r,h=>by
  simp only[List.all_cons,ag]at h;have h1:=h.1;unfold okE at h1;rw[ag]at h1;exact and_congr (and_congr (qX h1.1) (and_congr (qX h1.2) Iff.rfl)) (C2 h.2)
structure vz (π:Nat->Nat)(k k':dZ):Prop where
 kind:k'.kind=k.kind
 cells:k.kind=1->k'.sz=k.sz/\k'.cs=k.cs.map (Sb π)
 map:k.kind=2->k'.es.toList=k.es.toList.map (aaQ π)/\k'.clock=k.clock
 iter:k.kind=3->k'.pos=k.pos/\k'.str=k.str
structure nI (G:Nat)(mi m:Mem)(π:Nat->Nat):Prop where
 wf:Wf mi
 fi:mi.floor=mi.base
 hnI:mi.home<=mi.next
 fm:m.floor=m.base
 hn:m.home<=m.next
 XH:mi.bh=[]
 bh:m.bh=[]
 abg:mi.opn=[]
 opn:m.opn=[]
 wgI:mi.wg=none
 wg:m.wg=none
 YP:mi.pend=[]
 pend:m.pend=[]
 ahO:mi.deaf=0
 deaf:m.deaf=0
 gl:∀b,b<G->π b=b
 lt:∀b,b<mi.next->π b<m.next
 ge:∀b,mi.next<=b->π b=m.next+(b-mi.next)
 inj:∀b b',(mi.blk b).kind≠0->(mi.blk b').kind≠0->π b=π b'->b=b'
 same:∀b,(mi.blk b).kind≠0->vz π (mi.blk b) (m.blk (π b))
 okb:∀b,okB (mi.blk b)=true
 pos:∀b,(mi.blk b).kind=1->(mi.blk b).pos=1->(m.blk (π b)).pos=1
 base:∀b,(mi.blk b).kind≠0->(mi.base<=b↔m.base<=π b)
 home:∀b,(mi.blk b).kind≠0->(mi.home<=b↔m.home<=π b)
 low:∀b,b<m.home->(m.blk b).kind<=1
def Ax (mi:Mem)(π:Nat->Nat)(y:Nat):Prop:=∀b,(mi.blk b).kind≠0->π b≠y
def zQ (ρ:dw)(mi m:Mem)(π:Nat->Nat)(E:Perm):Perm where
 rd c x:=(∃b p,ρ b=some p/\Ax mi π b/\p.c=c/\p.d<=x/\x<p.d+p.room/\m.nC b (x-p.d))\/E.rd c x
 wr c x:=(∃b p,ρ b=some p/\Ax mi π b/\p.c=c/\p.d<=x/\x<p.d+p.room/\m.okW b (x-p.d))\/E.wr c x
 ob c:=(∃b p,ρ b=some p/\Ax mi π b/\p.c=c/\((m.blk b).kind=2\/(m.blk b).kind=3)/\m.bI b=true)\/E.ob c
 deaf:=E.deaf
theorem jP {m:Mem}(h:m.bh=[]){b o:Nat}:m.nC b o↔(m.blk b).kind=1/\(o<(m.blk b).cs.length->∃v,(m.blk b).cs[o]?=some (some v)):=by
 unfold Mem.nC;rw[h];exact⟨fun h=>⟨h.1,h.2.2⟩,fun h=>⟨h.1,rfl,h.2⟩⟩
theorem lL {m:Mem}(h:m.opn=[]){b o:Nat}:m.okW b o↔m.nC b o/\m.floor<=b:=by
 unfold Mem.okW;rw[h];exact⟨fun h=>⟨h.1,h.2.resolve_right g8⟩,fun h=>⟨h.1,.inl h.2⟩⟩
theorem NR {π:Nat->Nat}{m m':Mem}{b b' o:Nat}(hh:m.bh=[])(Ud:m'.bh=[])(s:vz π (m.blk b) (m'.blk b')):m.nC b o↔m'.nC b' o:=by
 rw[jP hh,jP Ud,s.kind];refine and_congr_right fun hk=>?_
 rw[(s.cells hk).2,List.length_map,List.getElem?_map];refine imp_congr_right fun ho=>?_
 rw[List.getElem?_eq_getElem ho];cases(m.blk b).cs[o]with
 |none=>exact⟨fun⟨v,h⟩=>(by cases h),fun⟨v,h⟩=>(by cases h)⟩
 |some v=>exact⟨fun _=>⟨_,rfl⟩,fun _=>⟨_,rfl⟩⟩
section
variable {P:aC}{G:Nat}{E:Perm}{bl w:ao}{ρ:dw}{mi m:Mem}{π:Nat->Nat}
theorem nI.nC(h:nI G mi m π){b o:Nat}(hk:(mi.blk b).kind≠0):mi.nC b o↔m.nC (π b) o:=NR h.XH h.bh (h.same b hk)
theorem nI.okW(h:nI G mi m π){b o:Nat}(hk:(mi.blk b).kind≠0):mi.okW b o↔m.okW (π b) o:=by
 rw[lL h.abg,lL h.opn,h.fi,h.fm];exact and_congr (h.nC hk) (h.base b hk)
theorem nI.own(h:nI G mi m π){b:Nat}(hk:(mi.blk b).kind≠0):mi.bI b=true↔m.bI (π b)=true:=by
 rw[zV h.XH,zV h.bh];exact h.home b hk
theorem P9 (h:nI P.globals.size mi m π)(H:dk P E bl .idle ρ m w):dk P (zQ ρ mi m π E) w .idle (fun b=>ρ (π b)) mi w:=by
 have hs:=H.jM;have kn:∀{b o},mi.nC b o->(mi.blk b).kind≠0:=fun k=>by rw[((jP h.XH).1 k).1];decide
 have aaz:∀{b b' c x:Nat}{p p':Pl},b≠b'->ρ b=some p->ρ b'=some p'->p.c=c->p'.c=c->p.d<=x->x<p.d+p.room->p'.d<=x->x<p'.d+p'.room->(m.blk b).kind=1->(m.blk b').kind=1->False:=
  fun dQ h1 h2 e1 e2 r1 r2 r3 r4 k1 k2=>by
   have :=(hs.sep _ _ _ _ dQ h1 h2 (by rw[k1];simp) (by rw[k2];simp) (e1.trans e2.symm)).2.2;omega
 refine⟨⟨fun b p hp=>?_,fun b p hp hk=>?_,fun b p o v hp hc=>?_,fun b p o hp ho hk hb=>?_,fun b p hp hk ho=>?_,fun b p hp hk ho=>?_,
  fun b b' p p' dQ hp dG hk gh hc=>?_,fun b p hp=>hs.rB (π b) p hp,fun b p hp hk iC=>?_⟩,bg.refl _ _,⟨fun c x he=>⟨?_,?_⟩,fun c he=>⟨?_,?_,?_⟩,fun c x he=>?_⟩,fun g hg=>?_,⟨h.wgI,h.YP,h.hnI⟩,h.wf,fun b p x hp hb h1 h2 h3 he=>?_,fun c x he hr=>?_⟩
 ·rcases Nat.lt_or_ge b mi.next with h1|h1
  ·exact h1
  ·have :=hs.mo (π b) p hp;have :=h.ge b h1;omega
 ·have Ah:(mi.blk b).kind≠0:=by rw[hk];decide
  have s:=h.same b Ah;obtain⟨a1,a2,a3⟩:=hs.cells (π b) p hp (s.kind.trans hk);rw[(s.cells hk).2,List.length_map]at a2;exact⟨a1.trans (s.cells hk).1,a2,a3⟩
 ·obtain⟨c1,c2,c3⟩:=rI hc;have s:=h.same b (by rw[c1];decide);have kY:m.cell (π b) o=some (bO π 20 v):=sE (s.kind.trans c1) (by rw[h.bh];rfl) (by rw[(s.cells c1).2,List.getElem?_map,c3];rfl);obtain⟨v',e1,e2⟩:=hs.kN (π b) p o _ hp kY;have hb:=h.okb b;unfold okB at hb;rw[ag]at hb;have hv:=aB.1 hb.1 _ (List.mem_of_getElem? c3);exact⟨v',e1,(qX hv).1 e2⟩
 ·have Ah:(mi.blk b).kind≠0:=by rw[hk];decide
  exact hs.thaw (π b) p o hp ho ((h.same b Ah).kind.trans hk) ((h.base b Ah).1 hb)
 ·have Ah:(mi.blk b).kind≠0:=by rw[hk];decide
  have s:=h.same b Ah;obtain⟨lp,a1,a2⟩:=hs.maps (π b) p hp (s.kind.trans hk) ((h.own Ah).1 ho);rw[(s.map hk).2]at a1;rw[(s.map hk).1]at a2;have hb:=h.okb b;unfold okB at hb;rw[ag]at hb;exact⟨lp,a1,(C2 hb.2).1 a2⟩
 ·have Ah:(mi.blk b).kind≠0:=by rw[hk];decide
  have s:=h.same b Ah;obtain⟨a1,a2⟩:=hs.kX (π b) p hp (s.kind.trans hk) ((h.own Ah).1 ho);rw[(s.iter hk).1,(s.iter hk).2]at a2;exact⟨a1,a2⟩
 ·have s:=(h.same b hk).kind;have s':=(h.same b' gh).kind;have :=hs.sep (π b) (π b') p p' (fun e=>dQ (h.inj b b' hk gh e)) hp dG (by rw[s];exact hk) (by rw[s'];exact gh) hc;rw[s,s']at this;exact this
 ·have Ah:(mi.blk b).kind≠0:=by rw[hk];decide
  exact hs.vars (π b) p hp ((h.same b Ah).kind.trans hk) (h.pos b hk iC)
 ·rcases he with⟨b,p,h1,_,rfl,_⟩|he
  ·exact hs.rB b p h1
  ·exact(H.apart.cell c x he).1
 ·rintro⟨b',p',f1,f2,f3,f4,f5⟩;have hk:=kn ((lL h.abg).1 f5).1;have f5':=(h.okW hk).1 f5;rcases he with⟨b,p,h1,h0,h2,h3,h4,h5⟩|he
  ·exact aaz (fun e=>h0 b' hk e.symm) h1 f1 h2 f2 h3 h4 f3 f4 ((jP h.bh).1 h5).1 ((jP h.bh).1 ((lL h.opn).1 f5').1).1
  ·exact(H.apart.cell c x he).2 ⟨π b',p',f1,f2,f3,f4,f5'⟩
 ·rcases he with⟨b,p,h1,_,rfl,_⟩|he
  ·exact hs.rB b p h1
  ·exact(H.apart.obj c he).1
 ·rintro⟨b',p',f1,f2,f3,f4⟩;have hk:(mi.blk b').kind≠0:=ai;have VJ:(m.blk (π b')).kind=2\/(m.blk (π b')).kind=3:=by rw[(h.same b' hk).kind];exact f3
  rcases he with⟨b,p,h1,h0,h2,h3,h4⟩|he
  ·have :=hs.sep b (π b') p p' (fun e=>h0 b' hk e.symm) h1 f1 ai ai (h2.trans f2.symm);omega
  ·exact(H.apart.obj c he).2.1 ⟨π b',p',f1,f2,VJ,(h.own hk).1 f4⟩
 ·rcases he with⟨b,p,h1,_,h2,h3,h4⟩|he
  ·exact(hs.low.ob c ⟨b,p,h1,h2,h3,h4⟩).2
  ·exact(H.apart.obj c he).2.2
 ·rcases he with⟨b,p,h1,h0,h2,h3,h4,h5⟩|he
  ·exact .inl ⟨b,p,h1,h0,h2,h3,h4,h5.1⟩
  ·exact .inr (H.apart.wf c x he)
 ·obtain⟨p,h1,h2⟩:=H.nW g hg;exact⟨p,by show ρ (π g)=some p;rw[h.gl g hg];exact h1,h2⟩
 ·have hk:=kn h3;have h3':=(h.nC hk).1 h3;rcases he with⟨b',p',f1,f0,f2,f3,f4,f5⟩|he
  ·exact aaz (fun e=>f0 b hk e) hp f1 rfl f2 h1 h2 f3 f4 ((jP h.bh).1 h3').1 ((jP h.bh).1 f5).1
  ·exact H.M9 (π b) p x hp ((h.base b hk).1 hb) h1 h2 h3' he
 ·obtain⟨b',p',f1,f2,f3,f4,f5⟩:=hr;have hk:=kn f5;have f5':=(h.nC hk).1 f5;rcases he with⟨b,p,h1,h0,h2,h3,h4,h5⟩|he
  ·exact aaz (fun e=>h0 b' hk e.symm) h1 f1 h2 f2 h3 h4 f3 f4 ((jP h.bh).1 ((lL h.opn).1 h5).1).1 ((jP h.bh).1 f5').1
  ·exact H.ew c x he ⟨π b',p',f1,f2,f3,f4,f5'⟩
end
end Go.AM
namespace Go.AM
open Go Go.Conc Go.Proofs
def iW (π:Nat->Nat)(mi m:Mem)(L:List (Nat×dZ))(nx:Nat):Mem:=Ef m (L.map fun x=>(π x.1,mH π x.2)) (m.next+(nx-mi.next))
structure Nc (mi mq:Mem)(L:List (Nat×dZ))(nx:Nat):Prop where
 base:mq.base=mi.base
 home:mq.home=mi.home
 floor:mq.floor=mi.floor
 bh:mq.bh=[]
 opn:mq.opn=[]
 wg:mq.wg=none
 deaf:mq.deaf=0
 aiE:∀b,(mi.blk b).kind≠0->(∃k,(b,k)∈L)\/iI (mq.blk b) (mi.blk b)
 next:mq.next<=nx
 nx0:mi.next<=nx
 new:∀x∈L,(mi.next<=x.1\/(mi.blk x.1).kind≠0/\x.2.kind=(mi.blk x.1).kind)/\x.1<nx/\iI x.2 (mq.blk x.1)/\x.2.live/\okB x.2=true
def D8 (ρ yF:dw)(m:Mem)(N:Nat):dw:=fun y=>if y<m.next then ρ y else yF (N+(y-m.next))
section
variable {P:aC}{G:Nat}{E:Perm}{bl w w':ao}{ρ yF:dw}{mi m mq:Mem}{π:Nat->Nat}{L:List (Nat×dZ)}{nx:Nat}
theorem NG (h:nI G mi m π)(hold:∀b,b<mi.next->yF b=ρ (π b))(b:Nat):D8 ρ yF m mi.next (π b)=yF b:=by
 unfold D8;rcases Nat.lt_or_ge b mi.next with hb|hb
 ·rw[bj (h.lt b hb),hold b hb]
 ·have :=h.ge b hb;rw[bW ai]
  congr 1
  omega
theorem Im {π:Nat->Nat}{k k' k'':dZ}(h:iI k k')(s:vz π k' k''):vz π k k'':=by
 obtain⟨h1,h2,h3,h4,h5,h6,h7⟩:=h;refine⟨s.kind.trans h1.symm,fun hk=>?_,fun hk=>?_,fun hk=>?_⟩
 ·rw[h1]at hk;rw[h2,h4];exact s.cells hk
 ·rw[h1]at hk;rw[h5,h6];exact s.map hk
 ·rw[h1]at hk;rw[h3,h7];exact s.iter hk
theorem Wb {π:Nat->Nat}{k:dZ}{t:Nat}:vz π k {mH π k with bK:=t}:=⟨rfl,fun _=>⟨rfl,rfl⟩,fun _=>⟨rfl,rfl⟩,fun _=>⟨rfl,rfl⟩⟩
theorem E6 (h:nI G mi m π)(hw:Wf m)(q:Nc mi mq L nx){y:Nat}(hk:((iW π mi m L nx).blk y).kind≠0):
  (∃b,y=π b/\vz π (mq.blk b) ((iW π mi m L nx).blk y)/\okB (mq.blk b)=true/\(mi.next<=b\/(mi.blk b).kind≠0/\(mq.blk b).kind=(mi.blk b).kind)/\(((iW π mi m L nx).blk y).pos=(mq.blk b).pos\/(iW π mi m L nx).blk y=m.blk y/\b<mi.next))\/((iW π mi m L nx).blk y=m.blk y/\Ax mi π y/\y<m.next):=by
 rcases fX (m:=m) (L:=L.map fun x=>(π x.1,mH π x.2)) (nx:=m.next+(nx-mi.next)) y with⟨e,hn⟩|⟨k,hm,e⟩
 ·have e:(iW π mi m L nx).blk y=m.blk y:=e;have hy:y<m.next:=by
   rcases Nat.lt_or_ge y m.next with hy|hy
   ·exact hy
   ·rw[e,hw.x8 y hy]at hk;exact absurd rfl hk
  by_cases hi:∃b,(mi.blk b).kind≠0/\π b=y
  ·obtain⟨b,hb,rfl⟩:=hi;have ZM:b<mi.next:=by
    rcases Nat.lt_or_ge b mi.next with h1|h1
    ·exact h1
    ·exact absurd (h.wf.x8 b h1) hb
   rcases q.aiE b hb with⟨k,hkL⟩|hs
   ·exact absurd rfl (hn (π b,mH π k) (List.mem_map.2 ⟨(b,k),hkL,rfl⟩))
   ·refine .inl ⟨b,rfl,?_,?_,.inr ⟨hb,hs.1⟩,.inr ⟨e,ZM⟩⟩
    ·rw[e];exact Im hs (h.same b hb)
    ·have :=h.okb b;unfold okB at this⊢;rw[hs.2.2.2.1,hs.2.2.2.2.1];exact this
  ·exact .inr ⟨e,fun b hb he=>hi ⟨b,hb,he⟩,hy⟩
 ·obtain⟨x,hx,ex⟩:=List.mem_map.1 hm;cases ex;obtain⟨n1,n2,n3,n4,n5⟩:=q.new x hx;have e:(iW π mi m L nx).blk (π x.1)={mH π x.2 with bK:=m.tick}:=e;refine .inl ⟨x.1,rfl,?_,?_,n1.imp id fun n=>⟨n.1,n3.1.symm.trans n.2⟩,.inl ?_⟩
  ·rw[e];obtain⟨h1,h2,h3,h4,h5,h6,h7⟩:=n3;exact Im ⟨h1.symm,h2.symm,h3.symm,h4.symm,h5.symm,h6.symm,h7.symm⟩ Wb
  ·unfold okB at n5⊢;rw[<-n3.2.2.2.1,<-n3.2.2.2.2.1];exact n5
  ·rw[e];exact n3.2.2.1
theorem Ma (h:nI P.globals.size mi m π)(H:dk P E bl .idle ρ m w)(Hq:dk P (zQ ρ mi m π E) w .idle yF mq w')(hle:dw.le (fun b=>ρ (π b)) yF)(hold:∀b,b<mi.next->yF b=ρ (π b))(q:Nc mi mq L nx):
  dk P E bl .idle (D8 ρ yF m mi.next) (iW π mi m L nx) w'/\jv ((ax (D8 ρ yF m mi.next) (iW π mi m L nx)).or E) ((ax yF mq).or (zQ ρ mi m π E)):=by
 have hs:=H.jM;have sq:=Hq.jM;have K:=Hq.rest;have KE:bg E w w':=K.sub (fun _ _=> .inr) fun _=> .inr
 obtain⟨M,hM⟩:∃M,M=iW π mi m L nx:=⟨_,rfl⟩;obtain⟨U,hU⟩:∃U,U=D8 ρ yF m mi.next:=⟨_,rfl⟩;have Kz:∀b,U (π b)=yF b:=fun b=>by rw[hU];exact NG h hold b
 have adJ:(fun b=>U (π b))=yF:=funext Kz;have tB:∀{y},y<m.next->U y=ρ y:=fun hy=>by rw[hU];exact bj hy
 have ule:ρ.le U:=fun b p hp=>by rw[tB (hs.mo b p hp)];exact hp
 have src:=fun{y:Nat} (hk:(M.blk y).kind≠0)=>by
  have :=E6 (y:=y) h H.wf q (by rw[<-hM];exact hk);rw[<-hM]at this;exact this
 have QU:M.bh=[]:=by rw[hM];exact h.bh
 have ado:M.opn=[]:=by rw[hM];exact h.opn
 have Pb:M.base=m.base:=by rw[hM];rfl
 have Vj:M.home=m.home:=by rw[hM];rfl
 have Mfl:M.floor=m.floor:=by rw[hM];rfl
 have Pa:M.next=m.next+(nx-mi.next):=by rw[hM];rfl
 rw[<-hM,<-hU];have bn:mi.base<=mi.next:=by have :=h.wf.fl;rw[h.fi]at this;exact this
 have bm:m.base<=m.next:=by have :=H.wf.fl;rw[h.fm]at this;exact this
 have Sk:∀{b},(mi.next<=b\/(mi.blk b).kind≠0/\(mq.blk b).kind=(mi.blk b).kind)->(mq.base<=b↔m.base<=π b):=fun{b} hb=>by
  rw[q.base];rcases hb with hb|hb
  ·have :=h.ge b hb
   constructor<;>intro _<;>omega
  ·exact h.base b hb.1
 have Sj:∀{b},(mi.next<=b\/(mi.blk b).kind≠0/\(mq.blk b).kind=(mi.blk b).kind)->(mq.bI b=true↔M.bI (π b)=true):=fun{b} hb=>by
  rw[zV q.bh,zV QU,q.home,Vj];rcases hb with hb|hb
  ·have :=h.ge b hb;have :=h.hnI;have :=h.hn
   constructor<;>intro _<;>omega
  ·exact h.home b hb.1
 have qR:∀{b y o},vz π (mq.blk b) (M.blk y)->(mq.nC b o↔M.nC y o):=fun s=>NR q.bh QU s
 have qW:∀{b o},vz π (mq.blk b) (M.blk (π b))->(mi.next<=b\/(mi.blk b).kind≠0/\(mq.blk b).kind=(mi.blk b).kind)->(mq.okW b o↔M.okW (π b) o):=fun s hb=>by
  rw[lL q.opn,lL ado,q.floor,h.fi,<-q.base,Mfl,h.fm];exact and_congr (qR s) (Sk hb)
 have mR:∀{y o},M.blk y=m.blk y->(M.nC y o↔m.nC y o):=fun e=>by rw[jP QU,jP h.bh,e]
 have mW:∀{y o},M.blk y=m.blk y->(M.okW y o↔m.okW y o):=fun e=>by rw[lL ado,lL h.opn,Mfl,mR e]
 have mO:∀y,(M.bI y=true↔m.bI y=true):=fun y=>by rw[zV QU,zV h.bh,Vj]
 have kR:∀{y o},M.nC y o->(M.blk y).kind≠0:=fun k=>by rw[((jP QU).1 k).1];decide
 have rrd:∀{b p x},ρ b=some p->Ax mi π b->p.d<=x->x<p.d+p.room->m.nC b (x-p.d)->(zQ ρ mi m π E).rd p.c x:=fun h1 h2 h3 h4 h5=> .inl ⟨_,_,h1,h2,rfl,h3,h4,h5⟩
 have Zu:∀c x,(ax U M).rd c x->(ax yF mq).rd c x\/(zQ ρ mi m π E).rd c x:=by
  rintro c x ⟨y,p,h1,h2,h3,h4,h5⟩;rcases src (kR h5)with⟨b,rfl,s,_⟩|⟨e,h0,hy⟩
  ·exact .inl ⟨b,p,by rw[<-Kz];exact h1,h2,h3,h4,(qR s).2 h5⟩
  ·exact .inr (.inl ⟨y,p,by rw[<-tB hy];exact h1,h0,h2,h3,h4,(mR e).1 h5⟩)
 have tY:∀c x,(ax U M).wr c x->(ax yF mq).wr c x\/∃b p,ρ b=some p/\Ax mi π b/\p.c=c/\p.d<=x/\x<p.d+p.room/\m.okW b (x-p.d):=by
  rintro c x ⟨y,p,h1,h2,h3,h4,h5⟩;rcases src (kR ((lL ado).1 h5).1)with⟨b,rfl,s,_,hb,_⟩|⟨e,h0,hy⟩
  ·exact .inl ⟨b,p,by rw[<-Kz];exact h1,h2,h3,h4,(qW s hb).2 h5⟩
  ·exact .inr ⟨y,p,by rw[<-tB hy];exact h1,h0,h2,h3,h4,(mW e).1 h5⟩
 have Bf:∀c,(ax U M).ob c->(ax yF mq).ob c\/∃b p,ρ b=some p/\Ax mi π b/\p.c=c/\((m.blk b).kind=2\/(m.blk b).kind=3)/\m.bI b=true:=by
  rintro c ⟨y,p,h1,h2,h3,h4⟩;rcases src (y:=y) ai with⟨b,rfl,s,_,hb,_⟩|⟨e,h0,hy⟩
  ·exact .inl ⟨b,p,by rw[<-Kz];exact h1,h2,by rw[<-s.kind];exact h3,(Sj hb).2 h4⟩
  ·exact .inr ⟨y,p,by rw[<-tB hy];exact h1,h0,h2,by rw[<-e];exact h3,(mO y).1 h4⟩
 have JZ:∀{b y' p p'},yF b=some p->U y'=some p'->vz π (mq.blk b) (M.blk (π b))->(mi.next<=b\/(mi.blk b).kind≠0/\(mq.blk b).kind=(mi.blk b).kind)->M.blk y'=m.blk y'->Ax mi π y'->y'<m.next->
   (M.blk (π b)).kind≠0->(m.blk y').kind≠0->p.c=p'.c->(M.blk (π b)).kind=1/\(m.blk y').kind=1/\(p.room=0\/p'.room=0\/p.d+p.room<=p'.d\/p'.d+p'.room<=p.d):=by
  intro b y' p p' hp dG s hb e h0 DJ hk gh hc;rw[tB DJ]at dG;rcases hb with hb|⟨hi,OC⟩
  ·have k3:=(Hq.wf.live b).2;have k3':=(H.wf.live y').2;rw[<-s.kind]at k3;have fl:mq.floor<=b:=by rw[q.floor];have :=h.wf.fl;omega
   have oq:mq.bI b=true:=(zV q.bh b).2 (by rw[q.home];have :=h.hnI;omega);have alive:∀{k:dZ},k.live->∀o,o<k.cs.length->∃v,k.cs[o]?=some (some v):=fun{k} hk o ho=>by
    have h1:=List.getElem?_eq_getElem ho;cases hv:k.cs[o]with
    |none=>exact absurd hv (hk.1 _ (List.getElem_mem ho))
    |some v=>exact⟨v,by rw[h1,hv]⟩
   have shk:(M.blk (π b)).kind=1->∃y,w'.shape? p.c=some y:=fun h=>by
    obtain⟨_,_,e,n,h,_⟩:=sq.cells b p hp (by rw[<-s.kind];exact h);exact⟨_,h⟩
   have aax:(m.blk y').kind=1->∃y,w'.shape? p'.c=some y:=fun h=>by
    obtain⟨_,_,e,n,h,_⟩:=hs.cells y' p' dG h;exact⟨_,by rw[K.shape _ (hs.rB y' p' dG)];exact h⟩
   have ob':(m.blk y').kind=2\/(m.blk y').kind=3->(zQ ρ mi m π E).ob p'.c:=fun Jy=> .inl ⟨y',p',dG,h0,rfl,Jy,(zV h.bh y').2 (by
    by_cases cB:y'<m.home
    ·have :=h.low y' cB;omega
    ·omega)⟩
   by_cases e1:(M.blk (π b)).kind=1
   ·by_cases e2:(m.blk y').kind=1
    ·refine⟨e1,e2,Classical.byContradiction fun hn=>?_⟩;have hy1:(ax yF mq).wr p.c (max p.d p'.d):=
      ⟨b,p,hp,rfl,ai,ai,⟨by rw[<-s.kind];exact e1,by rw[q.bh];rfl,alive (Hq.wf.live b) _⟩,.inl fl⟩
     have hy2:(zQ ρ mi m π E).rd p.c (max p.d p'.d):=by
      rw[hc];exact rrd dG h0 ai ai ⟨e2,by rw[h.bh];rfl,alive (H.wf.live y') _⟩
     exact(Hq.apart.cell _ _ hy2).2 hy1
    ·exfalso
     obtain⟨y,hy⟩:=shk e1;have :=(Hq.apart.obj _ (ob' ai)).2.2;rw[<-hc,hy]at this;cases this
   ·exfalso
    have o1:(ax yF mq).ob p.c:=⟨b,p,hp,rfl,by rw[<-s.kind];omega,oq⟩
    by_cases e2:(m.blk y').kind=1
    ·obtain⟨y,hy⟩:=aax e2;have :=(sq.low.ob _ o1).2;rw[hc,hy]at this;cases this
    ·have :=(Hq.apart.obj _ (ob' ai)).2.1;rw[<-hc]at this;exact this o1
  ·have ZM:b<mi.next:=by
    rcases Nat.lt_or_ge b mi.next with h1|h1
    ·exact h1
    ·exact absurd (h.wf.x8 b h1) hi
   have e1:(M.blk (π b)).kind=(m.blk (π b)).kind:=s.kind.trans (OC.trans (h.same b hi).kind.symm);rw[e1]at hk⊢;rw[hold b ZM]at hp;exact hs.sep (π b) y' p p' (h0 b hi) hp dG hk gh hc
 refine⟨⟨⟨fun y p hp=>?_,fun y p hp hk=>?_,fun y p o v hp hc=>?_,fun y p o hp ho hk hb=>?_,fun y p hp hk ho=>?_,fun y p hp hk ho=>?_,
  fun y y' p p' dQ hp dG hk gh hc=>?_,fun y p hp=>?_,fun y p hp hk iC=>?_⟩,H.rest.trans KE,⟨fun c x he=>⟨aW (H.apart.cell c x he).1 K.size,fun hx=>?_⟩,fun c he=>⟨aW (H.apart.obj c he).1 K.size,fun hx=>?_,?_⟩,H.apart.wf⟩,
  fun g hg=>let⟨p,a,b⟩:=H.nW g hg;⟨p,ule _ _ a,b⟩,⟨by rw[hM];exact h.wg,by rw[hM];exact h.pend,?_⟩,?_,fun y p x hp hb h1 h2 h3 he=>?_,fun c x he hr=>?_⟩,⟨fun c x hx=>?_,fun c x hx=>?_,fun c hx=>?_⟩⟩
 ·rw[Pa];rcases Nat.lt_or_ge y m.next with hy|hy
  ·omega
  ·rw[hU]at hp;unfold D8 at hp;rw[bW ai]at hp;have :=sq.mo _ p hp;have :=q.next;omega
 ·rcases src (y:=y) (by rw[hk];decide)with⟨b,rfl,s,_⟩|⟨e,h0,hy⟩
  ·have xX:=s.kind.symm.trans hk;obtain⟨a1,a2,a3⟩:=sq.cells b p (by rw[<-Kz];exact hp) xX;exact⟨a1.trans (s.cells xX).1.symm,by rw[(s.cells xX).2,List.length_map];exact a2,a3⟩
  ·rw[e]at hk⊢;rw[tB hy]at hp;obtain⟨a1,a2,e',n,a3,a4⟩:=hs.cells y p hp hk;exact⟨a1,a2,e',n,by rw[K.shape _ (hs.rB y p hp)];exact a3,a4⟩
 ·obtain⟨c1,c2,c3⟩:=rI hc;rcases src (y:=y) (by rw[c1];decide)with⟨b,rfl,s,eZ,_⟩|⟨e,h0,hy⟩
  ·have xX:=s.kind.symm.trans c1;rw[(s.cells xX).2,List.getElem?_map]at c3;obtain⟨z,hz,ez⟩:=az.1 c3;unfold okB at eZ;rw[ag]at eZ;have hv:=aB.1 eZ.1 _ (List.mem_of_getElem? hz);cases z with
   |none=>cases ez
   |some u=>
    cases ez;obtain⟨v',a1,a2⟩:=sq.kN b p o u (by rw[<-Kz];exact hp) (sE xX (by rw[q.bh];rfl) hz);exact⟨v',a1,(qX hv).2 (by rw[adJ];exact a2)⟩
  ·rw[e]at c1 c3;rw[tB hy]at hp;have kY:m.cell y o=some v:=sE c1 (by rw[h.bh];rfl) c3;obtain⟨v',a1,a2⟩:=hs.kN y p o v hp kY;have Zt:=iM hs hp kY;refine⟨v',?_,a2.jN ule⟩;rw[K.cell _ _ (rrd hp h0 ai ai (by rw[Nat.add_sub_cancel_left];exact Mem.eE kY))];exact a1
 ·rcases src (y:=y) (by rw[hk];decide)with⟨b,rfl,s,_,ny,_⟩|⟨e,h0,hy⟩
  ·exact sq.thaw b p o (by rw[<-Kz];exact hp) ho (s.kind.symm.trans hk) ((Sk ny).2 (by rw[<-Pb];exact hb))
  ·rw[e]at hk;rw[tB hy]at hp;rw[uh (K.qQ _ _ (hs.rB y p hp))];exact hs.thaw y p o hp ho hk (by rw[<-Pb];exact hb)
 ·rcases src (y:=y) (by rw[hk];decide)with⟨b,rfl,s,eZ,ny,_⟩|⟨e,h0,hy⟩
  ·have xX:=s.kind.symm.trans hk;obtain⟨lp,a1,a2⟩:=sq.maps b p (by rw[<-Kz];exact hp) xX ((Sj ny).2 ho);unfold okB at eZ;rw[ag]at eZ;rw[(s.map xX).2,(s.map xX).1];exact⟨lp,a1,(C2 eZ.2).2 (by rw[adJ];exact a2)⟩
  ·rw[e]at hk⊢;rw[tB hy]at hp;obtain⟨lp,a1,a2⟩:=hs.maps y p hp hk ((mO y).1 ho);refine⟨lp,?_,a2.mono fun _ _ x=>⟨x.1.jN ule,x.2.1.jN ule,x.2.2⟩⟩;rw[K.obj _ (.inl ⟨y,p,hp,h0,rfl,.inl hk,(mO y).1 ho⟩)];exact a1
 ·rcases src (y:=y) (by rw[hk];decide)with⟨b,rfl,s,eZ,ny,_⟩|⟨e,h0,hy⟩
  ·have xX:=s.kind.symm.trans hk;rw[(s.iter xX).1,(s.iter xX).2];exact sq.kX b p (by rw[<-Kz];exact hp) xX ((Sj ny).2 ho)
  ·rw[e]at hk⊢;rw[tB hy]at hp;obtain⟨a1,a2⟩:=hs.kX y p hp hk ((mO y).1 ho);exact⟨a1,by rw[K.obj _ (.inl ⟨y,p,hp,h0,rfl,.inr hk,(mO y).1 ho⟩)];exact a2⟩
 ·rcases src hk with⟨b,rfl,s,_,hb,_⟩|⟨e,h0,hy⟩<;>rcases src gh with⟨b',rfl,s',_,gA,_⟩|⟨e',h0',DJ⟩
  ·rw[s.kind]at hk⊢;rw[s'.kind]at gh⊢;exact sq.sep b b' p p' (fun e=>dQ (by rw[e])) (by rw[<-Kz];exact hp) (by rw[<-Kz];exact dG) hk gh hc
  ·rw[e']at gh⊢;exact JZ (by rw[<-Kz];exact hp) dG s hb e' h0' DJ hk gh hc
  ·rw[e]at hk⊢;obtain⟨a1,a2,a3⟩:=JZ (by rw[<-Kz];exact dG) hp s' gA e h0 hy gh hk hc.symm;exact⟨a2,a1,ai⟩
  ·rw[e]at hk⊢;rw[e']at gh⊢;exact hs.sep y y' p p' dQ (by rw[<-tB hy];exact hp) (by rw[<-tB DJ];exact dG) hk gh hc
 ·rcases Nat.lt_or_ge y m.next with hy|hy
  ·rw[tB hy]at hp;exact aW (hs.rB y p hp) K.size
  ·rw[hU]at hp;unfold D8 at hp;rw[bW ai]at hp;exact sq.rB _ p hp
 ·rcases src (y:=y) (by rw[hk];decide)with⟨b,rfl,s,_,ny,⟨e⟩|⟨e,ZM⟩⟩|⟨e,h0,hy⟩
  ·exact sq.vars b p (by rw[<-Kz];exact hp) (s.kind.symm.trans hk) (by rw[<-e];exact iC)
  ·rw[e]at hk iC;exact hs.vars (π b) p (by rw[<-tB (h.lt b ZM)];exact hp) hk iC
  ·rw[e]at hk iC;exact hs.vars y p (by rw[<-tB hy];exact hp) hk iC
 ·rcases tY c x hx with hx|⟨b,p,h1,_,h2,h3,h4,h5⟩
  ·exact(Hq.apart.cell c x (.inr he)).2 hx
  ·exact(H.apart.cell c x he).2 ⟨b,p,h1,h2,h3,h4,h5⟩
 ·rcases Bf c hx with hx|⟨b,p,h1,_,h2,h3,h4⟩
  ·exact(Hq.apart.obj c (.inr he)).2.1 hx
  ·exact(H.apart.obj c he).2.1 ⟨b,p,h1,h2,h3,h4⟩
 ·exact(Hq.apart.obj c (.inr he)).2.2
 ·rw[Vj,Pa];have :=h.hn;omega
 ·refine⟨fun y=>?_,fun y hy=>?_,fun s s9=>?_,?_,fun y=>?_⟩
  ·rw[hM]
   show _<m.tick+1
   rcases fX (m:=m) (L:=L.map fun x=>(π x.1,mH π x.2)) (nx:=m.next+(nx-mi.next)) y with⟨e,_⟩|⟨k,_,e⟩
   ·have e:(iW π mi m L nx).blk y=m.blk y:=e;rw[e];exact Nat.lt_succ_of_lt (H.wf.bK y)
   ·have e:(iW π mi m L nx).blk y={k with bK:=m.tick}:=e;rw[e];exact Nat.lt_succ_self _
  ·rw[Pa]at hy;refine Classical.byContradiction fun hk=>?_
   rcases src hk with⟨b,rfl,s,_,hb,_⟩|⟨e,h0,DJ⟩
   ·have hkq:(mq.blk b).kind≠0:=by rw[<-s.kind];exact hk
    have hbq:b<mq.next:=by
     rcases Nat.lt_or_ge b mq.next with h1|h1
     ·exact h1
     ·exact absurd (Hq.wf.x8 b h1) hkq
    have :=q.next;rcases Nat.lt_or_ge b mi.next with h1|h1
    ·have :=h.lt b h1;omega
    ·have :=h.ge b h1;omega
   ·omega
  ·rw[QU]at s9;cases s9
  ·rw[Mfl,Pa];have :=H.wf.fl;omega
  ·rw[hM];rcases fX (m:=m) (L:=L.map fun x=>(π x.1,mH π x.2)) (nx:=m.next+(nx-mi.next)) y with⟨e,_⟩|⟨k,hm,e⟩
   ·have e:(iW π mi m L nx).blk y=m.blk y:=e;rw[e];exact H.wf.live y
   ·have e:(iW π mi m L nx).blk y={k with bK:=m.tick}:=e;rw[e];obtain⟨x,hx,ex⟩:=List.mem_map.1 hm;cases ex;obtain⟨_,_,_,n4,n5⟩:=q.new x hx;refine⟨fun z hz=>?_,n4.2⟩;obtain⟨u,hu,rfl⟩:=List.mem_map.1 hz;cases u with
    |none=>exact absurd rfl (n4.1 _ hu)
    |some u=>exact fun e=>by cases e
 ·rcases src (kR h3)with⟨b,rfl,s,_,ny,_⟩|⟨e,h0,hy⟩
  ·exact Hq.M9 b p x (by rw[<-Kz];exact hp) ((Sk ny).2 (by rw[<-Pb];exact hb)) h1 h2 ((qR s).2 h3) (.inr he)
  ·exact H.M9 y p x (by rw[<-tB hy];exact hp) (by rw[<-Pb];exact hb) h1 h2 ((mR e).1 h3) he
 ·obtain⟨y,p,h1,h2,h3,h4,h5⟩:=hr;rcases src (kR h5)with⟨b,rfl,s,_,ny,_⟩|⟨e,h0,hy⟩
  ·exact Hq.ew c x (.inr he) ⟨b,p,by rw[<-Kz];exact h1,h2,h3,h4,(qR s).2 h5⟩
  ·exact H.ew c x he ⟨y,p,by rw[<-tB hy];exact h1,h2,h3,h4,(mR e).1 h5⟩
 ·rcases hx with hx|hx
  ·exact(Zu c x hx).imp id id
  ·exact .inr (.inr hx)
 ·rcases hx with hx|hx
  ·exact(tY c x hx).imp id .inl
  ·exact .inr (.inr hx)
 ·rcases hx with hx|hx
  ·exact(Bf c hx).imp id .inl
  ·exact .inr (.inr hx)
end
end Go.AM
namespace Go.AM
open Go Go.Conc Go.Proofs
section
variable {mi m mq:Mem}{π:Nat->Nat}{L:List (Nat×dZ)}{nx G:Nat}
theorem WO (h:nI G mi m π)(q:Nc mi mq L nx)(x8:∀b,mq.next<=b->(mq.blk b).kind=0):Mv m (iW π mi m L nx):=by
 refine⟨Nat.le_add_right _ _,Nat.le_succ _,fun hw=>?_,fun y=>?_,fun s hs=> .inl hs⟩
 ·refine⟨fun y=>?_,fun y hy=>?_,fun s s9=>?_,?_,fun y=>?_⟩
  ·show _<m.tick+1
   rcases fX (m:=m) (L:=L.map fun x=>(π x.1,mH π x.2)) (nx:=m.next+(nx-mi.next)) y with⟨e,_⟩|⟨k,_,e⟩
   ·have e:(iW π mi m L nx).blk y=m.blk y:=e;rw[e];exact Nat.lt_succ_of_lt (hw.bK y)
   ·have e:(iW π mi m L nx).blk y={k with bK:=m.tick}:=e;rw[e];exact Nat.lt_succ_self _
  ·have hy:m.next+(nx-mi.next)<=y:=hy;refine Classical.byContradiction fun hk=>?_
   rcases E6 h hw q hk with⟨b,rfl,s,_,hb,_⟩|⟨e,h0,DJ⟩
   ·have hkq:(mq.blk b).kind≠0:=by rw[<-s.kind];exact hk
    have hbq:b<mq.next:=by
     rcases Nat.lt_or_ge b mq.next with h1|h1
     ·exact h1
     ·exact absurd (x8 b h1) hkq
    have :=q.next;rcases Nat.lt_or_ge b mi.next with h1|h1
    ·have :=h.lt b h1;omega
    ·have :=h.ge b h1;omega
   ·omega
  ·have s9:s∈m.bh:=s9;rw[h.bh]at s9;cases s9
  ·show m.floor<=m.next+_
   have :=hw.fl;omega
  ·rcases fX (m:=m) (L:=L.map fun x=>(π x.1,mH π x.2)) (nx:=m.next+(nx-mi.next)) y with⟨e,_⟩|⟨k,hm,e⟩
   ·have e:(iW π mi m L nx).blk y=m.blk y:=e;rw[e];exact hw.live y
   ·have e:(iW π mi m L nx).blk y={k with bK:=m.tick}:=e;rw[e];obtain⟨x,hx,ex⟩:=List.mem_map.1 hm;cases ex;obtain⟨_,_,_,n4,n5⟩:=q.new x hx;refine⟨fun z hz=>?_,n4.2⟩;obtain⟨u,hu,rfl⟩:=List.mem_map.1 hz;cases u with
    |none=>exact absurd rfl (n4.1 _ hu)
    |some u=>exact fun e=>by cases e
 ·rcases fX (m:=m) (L:=L.map fun x=>(π x.1,mH π x.2)) (nx:=m.next+(nx-mi.next)) y with⟨e,_⟩|⟨k,_,e⟩
  ·exact .inl e
  ·exact .inr (by
    have e:(iW π mi m L nx).blk y={k with bK:=m.tick}:=e;rw[e];exact aj _)
end
theorem Jj {Fin:ae->ao->Prop}{call:cE}(C:fT ab X0 true (Jn Fin) Mv call){mi mq m:Mem}{π:Nat->Nat}{f:Nat}{args:List ae}{v:ae}{L:List (Nat×dZ)}{nx:Nat}(gu:call f args mi=some (v,mq))(hb:dY ab f=true)
  (h:nI ab.globals.size mi m π)(q:Nc mi mq L nx)(ha:args.all (nj 20)=true)(hv:nj 20 v=true):
  Mv m (iW π mi m L nx)/\∃c,∀{E:Perm}{bl:ao}{σ:nz}{ρ:dw}{w:ao} (bJ:Array ae) (fr:Frame) (cs:List Frame) (n:Nat) (kind:CallKind),
   dk ab E bl σ ρ m w->bH (aQ ρ) (args.map (bO π 20)) bJ.toList->(kind= .normal\/(kind= .deferred/\fr.mode= .returning/\f≠X0.KX/\f≠X0.vV))->
   (∀gj bq v' w',ρ.le bq->rK m ρ bq->dk ab E bl gj bq (iW π mi m L nx) w'->aQ bq (bO π 20 v) v'->Jn Fin gj n ((ax bq (iW π mi m L nx)).or E) (G (if kind= .normal then fr.finish v' else fr) cs) w')->
   Jn Fin σ (n+c) ((ax ρ m).or E) (G (Frame.enter ab f bJ kind) (fr::cs)) w:=by
 obtain⟨hmv,_,tj⟩:=C f args mi v mq h.wf gu;refine⟨WO h q (hmv.wf h.wf).x8,?_⟩;obtain⟨c,tj⟩:=tj hb;refine⟨c,fun{E bl σ ρ w} bJ fr cs n kind H hr hk Uk=>?_⟩;cases σ with
 |Br=>trivial
 |fD gr=>
  obtain⟨_,_,_,wa,k1,_⟩:=H.fD;rw[h.wg]at k1;cases k1
 |idle=>
  have HI:=P9 h H;have key:=tj bJ fr cs n kind HI ((q8 (fun h=>qX h) ha).1 hr) hk fun gj yF v' w' hle hold Hq Oq=>by
   cases gj with
   |Br=>trivial
   |fD gr=>
    obtain⟨_,_,_,wa,k1,_⟩:=Hq.fD;rw[q.wg]at k1;cases k1
   |idle=>
    have j0:∀b,b<mi.next->yF b=ρ (π b):=fun b hb=>hold b hb fun s hs=>by rw[h.YP]at hs;cases hs
    obtain⟨Ho,zd⟩:=Ma h H Hq hle j0 q;have ule:ρ.le (D8 ρ yF m mi.next):=fun b p hp=>(bj (H.jM.mo b p hp)).trans hp
    have :=Uk .idle (D8 ρ yF m mi.next) v' w' ule (.of fun b hb=>bj hb) Ho ((qX hv).2 (by
     have :(fun b=>D8 ρ yF m mi.next (π b))=yF:=funext fun b=>NG h j0 b
     rw[this];exact Oq))
    exact JM.perm zd Ho.low.wr (h.deaf.trans q.deaf.symm) this
  have kn:∀{b o},mi.nC b o->(mi.blk b).kind≠0:=fun k=>by rw[((jP h.XH).1 k).1];decide
  have zd:jv ((ax (fun b=>ρ (π b)) mi).or (zQ ρ mi m π E)) ((ax ρ m).or E):=by
   refine⟨fun c x hx=>?_,fun c x hx=>?_,fun c hx=>?_⟩
   ·rcases hx with⟨b,p,h1,h2,h3,h4,h5⟩|⟨b,p,h1,_,h2,h3,h4,h5⟩|hx
    ·exact .inl ⟨π b,p,h1,h2,h3,h4,(h.nC (kn h5)).1 h5⟩
    ·exact .inl ⟨b,p,h1,h2,h3,h4,h5⟩
    ·exact .inr hx
   ·rcases hx with⟨b,p,h1,h2,h3,h4,h5⟩|⟨b,p,h1,_,h2,h3,h4,h5⟩|hx
    ·exact .inl ⟨π b,p,h1,h2,h3,h4,(h.okW (kn ((lL h.abg).1 h5).1)).1 h5⟩
    ·exact .inl ⟨b,p,h1,h2,h3,h4,h5⟩
    ·exact .inr hx
   ·rcases hx with⟨b,p,h1,h2,h3,h4⟩|⟨b,p,h1,_,h2,h3,h4⟩|hx
    ·have hk:(mi.blk b).kind≠0:=ai;exact .inl ⟨π b,p,h1,h2,by rw[(h.same b hk).kind];exact h3,(h.own hk).1 h4⟩
    ·exact .inl ⟨b,p,h1,h2,h3,h4⟩
    ·exact .inr hx
  exact JM.perm zd HI.low.wr (h.ahO.trans h.deaf.symm) key
end Go.AM
namespace Go.AM
set_option maxRecDepth 1000000
open Go Go.Conc Go.Proofs
structure iE where
 f:Nat
 args:List ae
 mi:Mem
 v:ae
 L:List (Nat×dZ)
 nx:Nat
def iE.at(r:iE)(f:Nat)(args:List ae)(m:Mem)(π:Nat->Nat):Prop:=r.f=f/\args=r.args.map (bO π 20)/\nI ab.globals.size r.mi m π
def iE.out(r:iE)(m:Mem)(π:Nat->Nat):Mem:=iW π r.mi m r.L r.nx
open Classical in
noncomputable def twR(RS:iE→Prop):cE:=fun f args m=>
 if h:∃x:iE×(Nat→Nat),RS x.1∧x.1.at f args m x.2 then some (bO (Classical.choose h).2 20 (Classical.choose h).1.v,(Classical.choose h).1.out m (Classical.choose h).2)else none
theorem aaq {RS:iE->Prop}{r:iE}{f:Nat}{args:List ae}{m:Mem}{π:Nat->Nat}(hr:RS r)(h:r.at f args m π)(hu:∀r' rR,RS r'->r'.at f args m rR->r'=r/\rR=π):twR RS f args m=some (bO π 20 r.v,r.out m π):=by
 have hx:∃x:iE×(Nat->Nat),RS x.1/\x.1.at f args m x.2:=⟨(r,π),hr,h⟩;unfold twR;rw[dif_pos hx];obtain⟨e1,e2⟩:=hu _ _ (Classical.choose_spec hx).1 (Classical.choose_spec hx).2;rw[e1,e2]
theorem Bw {RS:iE->Prop}{f:Nat}{args:List ae}{m:Mem}(h:∀r,RS r->r.f≠f):twR RS f args m=none:=by
 unfold twR;exact dif_neg fun⟨x,h1,h2,_⟩=>h _ h1 h2
structure Vh (call:cE)(r:iE):Prop where
 call:∃mq,call r.f r.args r.mi=some (r.v,mq)/\Nc r.mi mq r.L r.nx
 bod:dY ab r.f=true
 args:r.args.all (nj 20)=true
 val:nj 20 r.v=true
theorem aap {Fin:ae->ao->Prop}{call:cE}(C:fT ab X0 true (Jn Fin) Mv call){RS:iE->Prop}(h:∀r,RS r->Vh call r):fT ab X0 true (Jn Fin) Mv (twR RS):=by
 intro f args m v m' hw ht;unfold twR at ht
 split at ht
 ·rename_i hx;have hs:=Classical.choose_spec hx;simp only[ah,au]at ht;obtain⟨rfl,rfl⟩:=ht;generalize Classical.choose hx=x at hs;obtain⟨r,π⟩:=x;obtain⟨hr,rfl,rfl,ml⟩:=hs;obtain⟨⟨mq,hc,hq⟩,hb,ha,hv⟩:=h r hr;obtain⟨k1,k2⟩:=Jj (Fin:=Fin) C hc hb ml hq ha hv;exact⟨k1,fun h'=>(by rw[hb]at h';cases h'),fun _=>k2⟩
 ·cases ht
structure Gl (m:Mem):Prop where
 nW:Vm m
 base:0<m.base
 home:0<m.home
 hn:m.home<=m.next
 nx:12<=m.next
 low:∀b,b<m.home->(m.blk b).kind<=1
theorem Gl.ext{m m':Mem}{S:Nat->Prop}(h:Gl m)(k:Kp m m' S)(hs:∀b,S b->m.home<=b):Gl m':=by
 have h1:=h.home;have h2:=h.hn;have h3:=h.nx;have h4:=k.next;refine⟨h.nW.ext k fun h0=>by have :=hs 0 h0;omega,by rw[k.base];exact h.base,by rw[k.home];exact h1,by rw[k.home];omega,ai,fun b hb=>?_⟩;rw[k.home]at hb;rw[k.blk b ai fun h0=>by have :=hs b h0;omega];exact h.low b hb
theorem Gl.cf{m m':Mem}(h:Gl m)(k:Kp m m' fu):Gl m':=h.ext k fun _ h=>h.elim
def uK (m:Mem)(b:Nat):Nat:=if b<12 then b else m.next+(b-12)
theorem BI (π:Nat->Nat):cM.map (Sb π)=cM:=by
 have lQ:(cM.all fun x=>match x with |some y=>de y|none=>false)=true:=aU
 conv=>rhs;rw[<-List.map_id cM]
 refine List.map_congr_left fun x hx=>?_
 have :=aB.1 lQ x hx
 split at this
 ·exact congrArg some (rZ this)
 ·cases this
theorem agP {m:Mem}(cm:Calm m)(hG:Gl m):nI ab.globals.size s8 m (uK m):=by
 have k0:s8.blk 0={kind:=1,cs:=cM}:=by rw[ir,bj rfl]
 have kn:∀b,(s8.blk b).kind≠0->b=0:=fun b hb=>by
  rw[ir]at hb
  split at hb
  ·rename_i h;exact h.symm
  ·exact absurd rfl hb
 have s0:uK m 0=0:=rfl;have g:=hG.nW;refine⟨FT,rfl,aj _,cm.floor,hG.hn,rfl,cm.bh,rfl,cm.opn,rfl,cm.wg,rfl,cm.gd.pend,rfl,cm.gd.deaf,fun b hb=>?_,fun b hb=>?_,fun b hb=>?_,fun b b' h1 h2 _=>by rw[kn b h1,kn b' h2],fun b hb=>?_,fun b=>?_,fun b hb hp=>?_,fun b hb=>?_,fun b hb=>?_,hG.low⟩
 ·rw[globals_size]at hb;exact bj hb
 ·have hb:b<12:=hb;have :=hG.nx;unfold uK;rw[bj hb];omega
 ·have hb:12<=b:=hb;exact bW ai
 ·rw[kn b hb,s0,k0];refine⟨g.kind,fun _=>⟨g.sz,?_⟩,fun h=>(by cases h),fun h=>by cases h⟩;rw[show(({kind:=1,cs:=cM}:dZ).cs)=cM from rfl,BI,g.cs]
  kernel_rfl
 ·rw[ir]
  split
  ·kernel_rfl
  ·rfl
 ·rw[kn b (by rw[hb];decide),k0]at hp;cases hp
 ·rw[kn b hb,s0];have :=hG.base;exact⟨fun h=>absurd h eS,fun h=>by omega⟩
 ·rw[kn b hb,s0];have :=hG.home;exact⟨fun h=>absurd h eS,fun h=>by omega⟩
theorem P' {m:Mem}{π:Nat->Nat}(h:nI ab.globals.size s8 m π):π=uK m:=by
 funext b
 unfold uK;rw[<-globals_size]
 split
 ·rename_i hb;exact h.gl b hb
 ·rename_i hb;rw[globals_size]at hb⊢;exact h.ge b (by show 12<=b;omega)
section
variable {m:Mem}{L:List (Nat×dZ)}{nx:Nat}
theorem TA (hL:∀x∈L,12<=x.1):Kp m (iW (uK m) s8 m L nx) fu:=by
 refine⟨Nat.le_add_right _ _,rfl,rfl,rfl,rfl,rfl,rfl,rfl,rfl,fun b hb _=>?_⟩;rcases fX (m:=m) (L:=L.map fun x=>(uK m x.1,mH (uK m) x.2)) (nx:=m.next+(nx-s8.next)) b with⟨e,_⟩|⟨k,hm,_⟩
 ·exact e
 ·obtain⟨x,hx,ex⟩:=List.mem_map.1 hm;cases ex;have :=hL x hx
  exfalso
  unfold uK at hb;rw[bW ai]at hb;omega
theorem rz {t:Nat}:∀{L:List (Nat×dZ)} {h:iU}{x:Nat×dZ},(L.map (·.1)).Nodup->x∈L->(LZ t L h).get x.1={x.2 with bK:=t}
 | [],_,x,_,hx=>by cases hx
 |y::l,h,x,hn,hx=>by
  rw[List.map_cons,List.nodup_cons]at hn;unfold LZ;rw[iU.get_put];rcases aL.1 hx with rfl|hx
  ·rw[bj rfl]
  ·rw[bW fun e=>hn.1 (List.mem_map.2 ⟨x,hx,e.symm⟩)];exact rz hn.2 hx
theorem Of (hn:(L.map (·.1)).Nodup){b:Nat}{k:dZ}(hx:(b,k)∈L)(hL:∀x∈L,12<=x.1):(iW (uK m) s8 m L nx).blk (uK m b)={mH (uK m) k with bK:=m.tick}:=by
 have XA:((L.map fun x=>(uK m x.1,mH (uK m) x.2)).map (·.1)).Nodup:=by
  rw[List.map_map];have :(L.map ((fun x=>x.1)∘fun x=>(uK m x.1,mH (uK m) x.2)))=(L.map (·.1)).map (uK m):=by rw[List.map_map];rfl
  rw[this,List.Nodup,List.pairwise_map];refine List.Pairwise.imp_of_mem ?_ hn;intro a c ha hc dQ e;obtain⟨x,hx,rfl⟩:=List.mem_map.1 ha;obtain⟨y,hy,rfl⟩:=List.mem_map.1 hc;have :=hL x hx;have :=hL y hy;unfold uK at e;rw[bW ai,bW ai]at e;omega
 exact rz (x:=(uK m b,mH (uK m) k)) XA (List.mem_map.2 ⟨(b,k),hx,rfl⟩)
theorem Oe (cm:Calm m)(hn:(L.map (·.1)).Nodup){b:Nat}{k:dZ}{cs:List ae}(hx:(b,k)∈L)(hb:12<=b)(HU:b<nx)(hL:∀x∈L,12<=x.1)(hk:k.kind=1)(hc:k.cs=cs.map some):Obj (iW (uK m) s8 m L nx) (uK m b) k.sz (cs.map (bO (uK m) 20)):=by
 have e:=Of (m:=m) (nx:=nx) hn hx hL;have hs:uK m b=m.next+(b-12):=bW ai;refine⟨?_,by rw[e];exact hk,by rw[e];rfl,?_,?_⟩
 ·rw[hs]
  show _<m.next+(nx-12)
  omega
 ·rw[e]
  show k.cs.map (Sb (uK m))=_
  rw[hc,List.map_map,List.map_map];rfl
 ·show aJ m.bh _=false
  rw[cm.bh];rfl
end
end Go.AM
namespace Go.AM
set_option maxRecDepth 1000000
open Go Go.Conc Go.Proofs
theorem uL {π:Nat->Nat}:∀{n:Nat}{v:ae},nj n v=true->bO π (n+1) v=bO π n v:=by
 have key:∀{n:Nat},(∀{v:ae},nj n v=true->bO π (n+1) v=bO π n v)->∀{l:List ae},l.all (nj n)=true->l.map (bO π (n+1))=l.map (bO π n):=fun ih l h=>List.map_congr_left fun x hx=>ih (aB.1 h x hx)
 intro n
 induction n with
 |zero=>intro v h;exact rZ h
 |succ n ih=>
  intro v h;cases v with
  |func fn f c=>
   have h:(f.toList.all (nj n)&&c.toList.all (nj n))=true:=h;rw[ag]at h
   show ae.func fn (f.toList.map (bO π (n+1))).toArray (c.toList.map (bO π (n+1))).toArray=ae.func fn (f.toList.map (bO π n)).toArray (c.toList.map (bO π n)).toArray
   rw[key ih h.1,key ih h.2]
  |iface t x=>exact congrArg (ae.iface t) (ih h)
  |agg cs=>
   show ae.agg (cs.toList.map (bO π (n+1))).toArray=ae.agg (cs.toList.map (bO π n)).toArray
   rw[key ih h]
  |tuple cs=>
   show ae.tuple (cs.toList.map (bO π (n+1))).toArray=ae.tuple (cs.toList.map (bO π n)).toArray
   rw[key ih h]
  |pointer a=>cases a<;>rfl
  |slice a l c=>cases a<;>rfl
  |map a=>cases a<;>rfl
  |_=>rfl
theorem lD {π:Nat->Nat}{l:List ae}(h:l.all (nj 19)=true):bO π 20 (.agg l.toArray)= .agg (l.map (bO π 20)).toArray:=by
 show ae.agg (l.map (bO π 19)).toArray=_
 congr 2
 exact List.map_congr_left fun x hx=>(uL (aB.1 h x hx)).symm
theorem Sa {π:Nat->Nat}{n:Nat}{v:ae}:(bO π n v).oneCell'=v.oneCell':=by
 cases n with
 |zero=>rfl
 |succ n=>cases v with
  |pointer a=>cases a<;>rfl
  |slice a l c=>cases a<;>rfl
  |map a=>cases a<;>rfl
  |_=>rfl
def EG:List (Option ae)->Option (List ae)
 | []=>some []
 |some v::l=>match EG l with |some r=>some (v::r)|none=>none
 |none::_=>none
theorem xj:∀{l:List (Option ae)} {r:List ae},EG l=some r->l=r.map some
 | [],r,h=>by cases h;rfl
 |some v::l,r,h=>by
  unfold EG at h
  split at h
  ·rename_i s hs;cases h;rw[xj hs];rfl
  ·cases h
 |none::l,r,h=>by cases h
def tT:List (Nat×dZ)->Nat->Option (Nat×List ae)
 | [],_=>none
 |x::l,b=>if Nat.beq x.1 b then(if Nat.beq x.2.kind 1 then(match EG x.2.cs with |some cs=>some (x.2.sz,cs)|none=>none)else none)else tT l b
theorem Cx:∀{L:List (Nat×dZ)} {b sz:Nat}{cs:List ae},tT L b=some (sz,cs)->∃k,(b,k)∈L/\k.kind=1/\k.sz=sz/\k.cs=cs.map some
 | [],_,_,_,h=>by cases h
 |x::l,b,sz,cs,h=>by
  unfold tT at h
  split at h
  ·rename_i hb
   split at h
   ·rename_i hk
    split at h
    ·rename_i r hr;cases h;exact⟨x.2,by rw[<-ay hb];exact List.mem_cons_self ..,ay hk,rfl,xj hr⟩
    ·cases h
   ·cases h
  ·obtain⟨k,h1,h2⟩:=Cx h;exact⟨k,List.mem_cons_of_mem _ h1,h2⟩
def uC (π:Nat->Nat)(L:List (Nat×dZ))(m:Mem)(B:Nat->Prop):Prop:=∀b sz cs,tT L b=some (sz,cs)->B (π b)/\Obj m (π b) sz (cs.map (bO π 20))
structure Tel {α:Type}(E:oD α) where
 uZ:List (Nat×dZ)->α->ae->Bool
 ok:∀{π:Nat->Nat}{L:List (Nat×dZ)} {m:Mem}{B:Nat->Prop},uC π L m B->∀{x:α}{v:ae},uZ L x v=true->E.R B x m (bO π 20 v)
def aiF {α:Type}(val:α->ae)(hv:∀(π:Nat->Nat) x,bO π 20 (val x)=val x):Tel (iX val):=
 ⟨fun _ x v=>JP 20 (val x) v,fun{π} _ _ _ _ {x v} h=>by rw[<-nY h];exact hv π x⟩
def PM (sz:Nat)(v:ae):Bool:=nj 20 v&&match sz with
 |1=>(match v with | .agg _=>false|v=>v.oneCell')
 |sz=>(match v with | .agg cs=>Nat.beq cs.toList.length sz&&cs.toList.all fun x=>nj 19 x&&x.oneCell'|_=>false)
def zK {α:Type}(sz:Nat)(c:α->ae->Bool):List α->List ae->Bool
 | [],cs=>cs.isEmpty
 |x::l,cs=>(match sz,cs with
  |1,v::r=>PM 1 v&&c x v&&zK sz c l r
  |1,[]=>false
  |RK,cs=>Nat.ble RK cs.length&&PM RK (.agg (cs.take RK).toArray)&&c x (.agg (cs.take RK).toArray)&&zK sz c l (cs.drop RK))
theorem SF {v:ae}(h:PM 1 v=true):v.cells.toList=[v]/\∀π:Nat->Nat,(bO π 20 v).cells.toList=[bO π 20 v]/\okV 1 (bO π 20 v):=by
 unfold PM at h;rw[ag]at h;have h1:=h.2;have key:∀u:ae,(match u with | .agg _=>false|u=>u.oneCell')=true->u.cells=#[u]/\u.oneCell'=true:=fun u hu=>by
  cases u<;>first |exact⟨rfl,hu⟩|cases hu
 obtain⟨e1,e2⟩:=key v h1;refine⟨by rw[e1],fun π=>?_⟩;have e3:(match bO π 20 v with | .agg _=>false|u=>u.oneCell')=true:=by
  cases v with
  |agg cs=>cases h1
  |pointer a=>cases a<;>exact e2
  |slice a l c=>cases a<;>exact e2
  |map a=>cases a<;>exact e2
  |_=>exact e2
 obtain⟨e4,e5⟩:=key _ e3;refine⟨by rw[e4],by rw[e4];rfl,fun y hy=>?_⟩;rw[e4]at hy;rw[List.mem_singleton.1 hy];exact e5
theorem SG {sz:Nat}{l:List ae}(h1:sz≠1)(h:PM sz (.agg l.toArray)=true):l.length=sz/\(∀x∈l,nj 19 x=true/\x.oneCell'=true):=by
 unfold PM at h;rw[ag]at h;have h2:=h.2
 split at h2
 ·exact absurd rfl h1
 ·simp only[ag]at h2;exact⟨ay h2.1,fun x hx=>by
   have :=aB.1 h2.2 x hx;rwa[ag]at this⟩
theorem xq {α:Type}{sz:Nat}{c:α->ae->Bool}{Q:α->ae->Prop}{π:Nat->Nat}(hc:∀x v,c x v=true->Q x (bO π 20 v)):∀{l:List α}{cs:List ae},zK sz c l cs=true->cJ (fun x u=>Q x u/\okV sz u) l (cs.map (bO π 20))
 | [],cs,h=>by
  unfold zK at h;rw[List.isEmpty_iff.1 h];rfl
 |x::l,cs,h=>by
  unfold zK at h
  split at h
  ·rename_i v r;simp only[ag]at h;obtain⟨⟨h1,h2⟩,h3⟩:=h;obtain⟨_,hk⟩:=SF h1;exact⟨bO π 20 v,r.map (bO π 20),by rw[(hk π).1];rfl,⟨hc _ _ h2,(hk π).2⟩,xq hc h3⟩
  ·cases h
  ·rename_i JJ ali;simp only[ag]at h;obtain⟨⟨⟨h0,h1⟩,h2⟩,h3⟩:=h;have ig:sz≠1:=by
    rintro rfl;cases cs with
    |nil=>exact ali rfl rfl
    |cons v r=>exact JJ v r rfl rfl
   obtain⟨e1,e2⟩:=SG ig h1;have hr:=lD (π:=π) (l:=cs.take sz) (aB.2 fun x hx=>(e2 x hx).1);refine⟨bO π 20 (.agg (cs.take sz).toArray),(cs.drop sz).map (bO π 20),?_,⟨hc _ _ h2,?_⟩,xq hc h3⟩
   ·rw[hr]
    show cs.map _=(cs.take sz).map _++_
    rw[<-List.map_append,List.take_append_drop]
   ·rw[hr];refine⟨by show((cs.take sz).map (bO π 20)).length=sz;rw[List.length_map,e1],fun y hy=>?_⟩;obtain⟨z,hz,rfl⟩:=List.mem_map.1 (show y∈(cs.take sz).map (bO π 20)from hy);rw[Sa];exact(e2 z hz).2
def aiG {α:Type}{E:oD α}(c:Tel E)(sz:Nat):Tel (aX E sz) where
 uZ L l v:=match v with
  | .slice none n cap=>Nat.beq n 0&&Nat.beq cap 0&&l.isEmpty
  | .slice (some a) n cap=>Nat.beq a.off 0&&a.spot.isNone&&Nat.beq n l.length&&(Nat.beq cap cH||Nat.beq cap n)&&(match tT L a.block with
   |some (RK,cs)=>Nat.beq RK sz&&zK sz (c.uZ L) l cs
   |none=>false)
  |_=>false
 ok:=by
  intro π L m B hL l v h
  split at h
  ·rename_i n cap;simp only[ag]at h;obtain⟨⟨h1,h2⟩,h3⟩:=h;rw[ay h1,ay h2,List.isEmpty_iff.1 h3];exact aX.nil
  ·rename_i a n cap;simp only[ag]at h;obtain⟨⟨⟨⟨h1,h2⟩,h3⟩,h4⟩,h5⟩:=h
   split at h5
   ·rename_i RK cs hg;rw[ag]at h5;obtain⟨hb,ho⟩:=hL _ _ _ hg;have gT:=xq (π:=π) (fun x v=>c.ok hL (x:=x) (v:=v)) h5.2;obtain⟨b,o,sp⟩:=a;have e1:o=0:=ay h1;have e2:sp=none:=Option.isNone_iff_eq_none.1 h2;subst e1 e2;have e3:=ay h3;subst e3;rw[ay h5.1]at ho;refine⟨cs.map (bO π 20),⟨gT.one.1,.inr ⟨π b,cap,rfl,ho,?_⟩⟩,fun b' o' n' c' e=>by cases e;exact hb,gT⟩;rw[Bool.or_eq_true]at h4;exact h4.imp ay ay
   ·cases h5
  ·cases h
def Z2:Tel qz:=aiG (aiF FN.val fun π x=>by
 show ae.agg #[bO π 19 (.string x.n),bO π 19 (vI x.k)]=_
 rw[rZ rfl,rZ rfl]) 2
def Vu (l:List ae):Bool:=l.all (nj 19)
end Go.AM
namespace Go.AM
set_option maxRecDepth 1000000
open Go Go.Conc Go.Proofs
def Hk (m:Mem)(v:ae)(k:Nat):Option ae:=match v with
 | .pointer (some a)=>if(m.blk a.block).kind=1 then((m.blk a.block).cs[a.off+k]?).join else none
 | .slice (some a) _ _=>if(m.blk a.block).kind=1 then((m.blk a.block).cs[a.off+k]?).join else none
 | .map (some r)=>if(m.blk r).kind=2 then((m.blk r).es.toList[k]?).map (·.val)else none
 |_=>none
def S7 (m:Mem):ae->List Nat->Option ae
 |v,[]=>some v
 |v,k::l=>match Hk m v k with |some u=>S7 m u l|none=>none
def rq (m:Mem)(args:List ae)(l:List Nat):Option ae:=match l with
 |i::j::l=>((args[i]?).bind fun a=>a.cells.toList[j]?).bind fun v=>S7 m v l
 |_=>none
def IM:ae->Option Nat
 | .pointer (some a)=>some a.block
 | .slice (some a) _ _=>some a.block
 | .map (some r)=>some r
 |_=>none
theorem IL {π:Nat->Nat}{v:ae}:IM (bO π 20 v)=(IM v).map π:=by
 cases v with
 |pointer a=>cases a<;>rfl
 |slice a l c=>cases a<;>rfl
 |map a=>cases a<;>rfl
 |_=>rfl
section
variable {G:Nat}{mi m:Mem}{π:Nat->Nat}
theorem Qu (h:nI G mi m π){v u:ae}{k:Nat}(e:Hk mi v k=some u):Hk m (bO π 20 v) k=some (bO π 20 u):=by
 have cell:∀{b o:Nat},(if(mi.blk b).kind=1 then((mi.blk b).cs[o]?).join else none)=some u->(if(m.blk (π b)).kind=1 then((m.blk (π b)).cs[o]?).join else none)=some (bO π 20 u):=fun{b o} e=>by
  split at e
  ·rename_i hk;have s:=h.same b (by rw[hk];decide);rw[bj (s.kind.trans hk),(s.cells hk).2,List.getElem?_map];cases hc:(mi.blk b).cs[o]? with
   |none=>rw[hc]at e;cases e
   |some x=>
    rw[hc]at e;cases x with
    |none=>cases e
    |some y=>cases e;rfl
  ·cases e
 cases v with
 |pointer a=>cases a with
  |none=>cases e
  |some a=>exact cell e
 |slice a l c=>cases a with
  |none=>cases e
  |some a=>exact cell e
 |map r=>cases r with
  |none=>cases e
  |some r=>
   unfold Hk at e;simp only at e
   split at e
   ·rename_i hk;have s:=h.same r (by rw[hk];decide)
    show(if(m.blk (π r)).kind=2 then((m.blk (π r)).es.toList[k]?).map (·.val)else none)=_
    rw[bj (s.kind.trans hk),(s.map hk).1,List.getElem?_map];cases hc:(mi.blk r).es.toList[k]? with
    |none=>rw[hc]at e;cases e
    |some x=>rw[hc]at e;cases e;rfl
   ·cases e
 |_=>cases e
theorem N3 (h:nI G mi m π):∀{l:List Nat}{v u:ae},S7 mi v l=some u->S7 m (bO π 20 v) l=some (bO π 20 u)
 | [],v,u,e=>by cases e;rfl
 |k::l,v,u,e=>by
  unfold S7 at e⊢
  split at e
  ·rename_i x hx;rw[Qu h hx];exact N3 h e
  ·cases e
theorem QB {a v:ae}{j:Nat}(hd:nj 20 a=true)(hv:a.cells.toList[j]?=some v):(bO π 20 a).cells.toList[j]?=some (bO π 20 v):=by
 cases a with
 |agg cs=>
  have lQ:cs.toList.all (nj 19)=true:=hd;have hv:cs.toList[j]?=some v:=hv
  show((cs.toList.map (bO π 19)))[j]?=_
  rw[List.getElem?_map,hv];exact congrArg some (uL (aB.1 lQ _ (List.mem_of_getElem? hv))).symm
 |pointer p=>
  have hv:[ae.pointer p][j]?=some v:=hv;cases j with
  |zero=>cases hv;cases p<;>rfl
  |succ j=>cases hv
 |slice p n c=>
  have hv:[ae.slice p n c][j]?=some v:=hv;cases j with
  |zero=>cases hv;cases p<;>rfl
  |succ j=>cases hv
 |map p=>
  have hv:[ae.map p][j]?=some v:=hv;cases j with
  |zero=>cases hv;cases p<;>rfl
  |succ j=>cases hv
 |_=>cases j with
  |zero=>cases hv;rfl
  |succ j=>cases hv
theorem I5 (h:nI G mi m π){args:List ae}(ha:args.all (nj 20)=true){l:List Nat}{u:ae}(e:rq mi args l=some u):rq m (args.map (bO π 20)) l=some (bO π 20 u):=by
 unfold rq at e⊢
 split at e
 ·rename_i i j l;obtain⟨v,h1,h2⟩:=bC.1 e;obtain⟨a,h3,h4⟩:=bC.1 h1;refine bC.2 ⟨bO π 20 v,bC.2 ⟨bO π 20 a,by rw[List.getElem?_map,h3];rfl,?_⟩,N3 h h2⟩;exact QB (aB.1 ha _ (List.mem_of_getElem? h3)) h4
 ·cases e
theorem I4 {G':Nat}{mi':Mem}{rR:Nat->Nat}{args bJ xs:List ae}(h:nI G mi m π)(h':nI G' mi' m rR)(ha:args.all (nj 20)=true)(mn:bJ.all (nj 20)=true)(e:xs=args.map (bO π 20))(e':xs=bJ.map (bO rR 20)){l:List Nat}{u u':ae}(n:rq mi args l=some u)(n':rq mi' bJ l=some u'):bO π 20 u=bO rR 20 u':=by
 have h1:=I5 h ha n;have h2:=I5 h' mn n';rw[<-e]at h1;rw[<-e',h1]at h2;exact Option.some.inj h2
theorem WM {G':Nat}{mi':Mem}{rR:Nat->Nat}{args bJ xs:List ae}(h:nI G mi m π)(h':nI G' mi' m rR)(ha:args.all (nj 20)=true)(mn:bJ.all (nj 20)=true)(e:xs=args.map (bO π 20))(e':xs=bJ.map (bO rR 20)){l:List Nat}{u u':ae}{b b':Nat}(n:rq mi args l=some u)(n':rq mi' bJ l=some u')(p:IM u=some b)(p':IM u'=some b'):π b=rR b':=by
 have :=I4 h h' ha mn e e' n n';have h1:IM (bO π 20 u)=some (π b):=by rw[IL,p];rfl
 have h2:IM (bO rR 20 u')=some (rR b'):=by rw[IL,p'];rfl
 rw[this,h2]at h1;exact(Option.some.inj h1).symm
end
def DH (N nx:Nat)(l:List (Nat×Nat))(b:Nat):Nat:=if b<12 then b else if b<N then(match l.find? fun x=>Nat.beq x.1 b with |some x=>x.2|none=>0)else nx+(b-N)
def kOk (K:List (Nat×dZ))(N:Nat):Bool:=K.all fun x=>Nat.ble 12 x.1&&Nat.blt x.1 N&&Nat.blt 0 x.2.kind&&Nat.ble x.2.kind 3&&okB x.2&&Nat.beq x.2.pos 0&&x.2.cs.all (·.isSome)
theorem N6 {K:List (Nat×dZ)}{N:Nat}(hK:kOk K N=true)(b:Nat):((Ef s8 K N).blk b).kind≠0->b=0\/∃k,(b,k)∈K/\(Ef s8 K N).blk b={k with bK:=1}:=fun hb=>by
 rcases fX (m:=s8) (L:=K) (nx:=N) b with⟨e,_⟩|⟨k,hm,e⟩
 ·rw[e,ir]at hb
  split at hb
  ·rename_i h;exact .inl h.symm
  ·exact absurd rfl hb
 ·exact .inr ⟨k,hm,e⟩
theorem tU {K:List (Nat×dZ)}{N:Nat}(h:kOk K N=true){x:Nat×dZ}(hx:x∈K):12<=x.1/\x.1<N/\0<x.2.kind/\x.2.kind<=3/\okB x.2=true/\x.2.pos=0/\∀y∈x.2.cs,y≠none:=by
 have :=aB.1 h x hx;simp only[ag]at this;obtain⟨⟨⟨⟨⟨⟨h1,h2⟩,h3⟩,h4⟩,h5⟩,h6⟩,h7⟩:=this;exact⟨af h1,af h2,af h3,af h4,h5,ay h6,fun y hy e=>by
  have :=aB.1 h7 y hy;rw[e]at this;cases this⟩
structure Emb (m:Mem)(π:Nat->Nat)(K:List (Nat×dZ)):Prop where
 lt:∀x∈K,π x.1<m.next
 base:∀x∈K,m.base<=π x.1/\m.home<=π x.1
 jM:∀x∈K,vz π x.2 (m.blk (π x.1))
 inj:∀x∈K,∀y∈K,π x.1=π y.1->x.1=y.1
theorem agO {m:Mem}(cm:Calm m)(hG:Gl m){K:List (Nat×dZ)}{N:Nat}{l:List (Nat×Nat)}(hK:kOk K N=true)(hN:12<=N)(hl:∀x∈l,x.2<m.next)(hE:Emb m (DH N m.next l) K):nI ab.globals.size (Ef s8 K N) m (DH N m.next l):=by
 have kn:=fun b=>N6 (b:=b) hK
 have s0:DH N m.next l 0=0:=rfl;have k0:(Ef s8 K N).blk 0={kind:=1,cs:=cM}:=by
  rcases fX (m:=s8) (L:=K) (nx:=N) 0 with⟨e,_⟩|⟨k,hm,_⟩
  ·rw[e,ir,bj rfl]
  ·have h1:12<=0:=(tU hK hm).1;omega
 have g:=hG.nW;refine⟨aam FT rfl hN fun x hx=>?_,rfl,hN,cm.floor,hG.hn,rfl,cm.bh,rfl,cm.opn,rfl,cm.wg,rfl,cm.gd.pend,rfl,cm.gd.deaf,fun b hb=>?_,fun b hb=>?_,fun b hb=>?_,fun b b' h1 h2 he=>?_,fun b hb=>?_,fun b=>?_,fun b hb hp=>?_,fun b hb=>?_,fun b hb=>?_,hG.low⟩
 ·obtain⟨_,h2,_,h4,_,_,h7⟩:=tU hK hx;exact⟨h2,h7,h4⟩
 ·rw[globals_size]at hb;exact bj hb
 ·have hb:b<N:=hb;have :=hG.nx;unfold DH
  by_cases KJ:b<12
  ·rw[bj KJ];omega
  ·rw[bW KJ,bj hb]
   split
   ·rename_i x hx;exact hl x (List.mem_of_find?_eq_some hx)
   ·omega
 ·have hb:N<=b:=hb;unfold DH;rw[bW ai,bW ai];rfl
 ·have sS:=hG.base;rcases kn b h1 with rfl|⟨k,hk,_⟩<;>rcases kn b' h2 with rfl|⟨k',gh,_⟩
  ·rfl
  ·rw[s0]at he;have :=(hE.base _ gh).1;rw[<-he]at this;omega
  ·rw[s0]at he;have :=(hE.base _ hk).1;rw[he]at this;omega
  ·exact hE.inj _ hk _ gh he
 ·rcases kn b hb with rfl|⟨k,hk,e⟩
  ·rw[s0,k0];refine⟨g.kind,fun _=>⟨g.sz,?_⟩,fun h=>(by cases h),fun h=>by cases h⟩;rw[show(({kind:=1,cs:=cM}:dZ).cs)=cM from rfl,BI,g.cs]
   kernel_rfl
  ·rw[e];have s:=hE.jM _ hk;exact⟨s.kind,s.cells,s.map,s.iter⟩
 ·rcases fX (m:=s8) (L:=K) (nx:=N) b with⟨e,_⟩|⟨k,hm,e⟩
  ·rw[e,ir]
   split
   ·kernel_rfl
   ·rfl
  ·rw[e];exact(tU hK hm).2.2.2.2.1
 ·rcases kn b (by rw[hb];decide)with rfl|⟨k,hk,e⟩
  ·rw[k0]at hp;cases hp
  ·rw[e]at hp;have hp:k.pos=1:=hp;rw[(tU hK hk).2.2.2.2.2.1]at hp;cases hp
 ·have :=hG.base;rcases kn b hb with rfl|⟨k,hk,_⟩
  ·rw[s0];exact⟨fun h=>absurd (show 12<=0 from h) eS,fun h=>by omega⟩
  ·have h1:=(tU hK hk).1;exact⟨fun _=>(hE.base _ hk).1,fun _=>h1⟩
 ·have :=hG.home;rcases kn b hb with rfl|⟨k,hk,_⟩
  ·rw[s0];exact⟨fun h=>absurd (show 12<=0 from h) eS,fun h=>by omega⟩
  ·have h1:=(tU hK hk).1;exact⟨fun _=>(hE.base _ hk).2,fun _=>h1⟩
end Go.AM
namespace Go.AM
set_option maxRecDepth 1000000
open Go Go.Conc Go.Proofs
def SK (mq:Mem)(L:List (Nat×dZ))(nx:Nat):Bool:=
 Nat.beq mq.base 12&&Nat.beq mq.home 12&&Nat.beq mq.floor 12&&mq.bh.isEmpty&&mq.opn.isEmpty&&mq.wg.isNone&&Nat.beq mq.deaf 0&&Nat.ble mq.next nx&&Nat.ble 12 nx&&Ft (mq.blk 0) (s8.blk 0)&&
 L.all fun x=>Nat.ble 12 x.1&&Nat.blt x.1 nx&&Nat.ble x.2.kind 3&&Ft x.2 (mq.blk x.1)&&okB x.2
theorem SJ {mq:Mem}{L:List (Nat×dZ)}{nx:Nat}(h:SK mq L nx=true):Nc s8 mq L nx/\∀x∈L,12<=x.1/\x.1<nx:=by
 unfold SK at h;simp only[ag]at h;obtain⟨⟨⟨⟨⟨⟨⟨⟨⟨⟨h1,h2⟩,h3⟩,h4⟩,h5⟩,h6⟩,h7⟩,h8⟩,h9⟩,h10⟩,h11⟩:=h;have h11:=aB.1 h11;have key:∀x∈L,12<=x.1/\x.1<nx/\iI x.2 (mq.blk x.1)/\x.2.live/\okB x.2=true:=fun x hx=>by
  have :=h11 x hx;simp only[ag]at this;obtain⟨⟨⟨⟨a1,a2⟩,a3⟩,a4⟩,a5⟩:=this;exact⟨af a1,af a2,C3 a4,⟨ME a4,af a3⟩,a5⟩
 refine⟨⟨ay h1,ay h2,ay h3,List.isEmpty_iff.1 h4,List.isEmpty_iff.1 h5,Option.isNone_iff_eq_none.1 h6,ay h7,fun b hb=> .inr ?_,af h8,af h9,fun x hx=>⟨.inl (key x hx).1,(key x hx).2⟩⟩,fun x hx=>⟨(key x hx).1,(key x hx).2.1⟩⟩;rw[ir]at hb
 split at hb
 ·rename_i e;subst e;exact C3 h10
 ·exact absurd rfl hb
noncomputable def iE.fact(r:iE):Bool:=(match Ct r.f r.args s8 with |some (v',mq)=>JP 20 r.v v'&&SK mq r.L r.nx|none=>false)&&r.args.all (nj 20)&&nj 20 r.v
theorem iE.dR{r:iE}(h:r.fact=true)(hm:r.mi=s8)(hb:dY ab r.f=true):Vh Ct r/\∀x∈r.L,12<=x.1/\x.1<r.nx:=by
 unfold iE.fact at h;rw[ag,ag]at h;obtain⟨⟨h,ha⟩,hv⟩:=h
 split at h
 ·rename_i v' mq hc;rw[ag]at h;obtain⟨q1,q2⟩:=SJ h.2;refine⟨⟨⟨mq,?_,by rw[hm];exact q1⟩,hb,ha,hv⟩,q2⟩;rw[hm,hc,nY h.1]
 ·cases h
def EP (T:List UInt8)(v:ae)(L:List (Nat×dZ))(nx:Nat):iE:=⟨22,[.string ⟨T.toArray⟩],s8,v,L,nx⟩
def vN (n:Nat):ae:= .iface 316 (.agg #[vI 1,vI n,.string .empty,.bool false])
def dg (n:Nat):List UInt8:=if Nat.blt n 10 then[UInt8.ofNat (48+n)]else[UInt8.ofNat (48+n / 10),UInt8.ofNat (48+n%10)]
def Gk (a b:Nat):iE:=EP ([73,78,83,69,82,84,32,73,78,84,79,32,103,32,86,65,76,85,69,83,32,40]++dg a++[44,32]++dg b++[41]) (.tuple #[.iface 95 (.agg #[.string ⟨#[103]⟩,vL 137 0 1 1]),vI 0,vI 0])
 [(125,{kind:=1,sz:=1,cs:=[some (vN a),some (vN b)]}),(137,{kind:=1,sz:=1,cs:=[some (vL 125 0 2 cH)]})] 152
noncomputable def qj(a:Nat):Bool:=(List.range 12).all fun b=>(Gk a b).fact
end Go.AM
namespace Go.AM
set_option maxRecDepth 1000000
open Go Go.Conc Go.Proofs
structure iT where
 f:Nat
 args:List ae
 K:List (Nat×dZ)
 N:Nat
 c:List (Nat×List Nat)
 v:ae
 L:List (Nat×dZ)
 nx:Nat
noncomputable def iT.mi(r:iT):Mem:=Ef s8 r.K r.N
def iT.at(r:iT)(f:Nat)(args:List ae)(m:Mem)(π:Nat->Nat):Prop:=r.f=f/\args=r.args.map (bO π 20)/\(∃l,l.map (·.1)=r.c.map (·.1)/\π=DH r.N m.next l)/\nI ab.globals.size r.mi m π
noncomputable def iT.out(r:iT)(m:Mem)(π:Nat->Nat):Mem:=iW π r.mi m r.L r.nx
open Classical in
noncomputable def Vs(RS:iT→Prop):cE:=fun f args m=>
 if h:∃x:iT×(Nat→Nat),RS x.1∧x.1.at f args m x.2 then some (bO (Classical.choose h).2 20 (Classical.choose h).1.v,(Classical.choose h).1.out m (Classical.choose h).2)else none
theorem aas {RS:iT->Prop}{r:iT}{f:Nat}{args:List ae}{m:Mem}{π:Nat->Nat}(hr:RS r)(h:r.at f args m π)(hu:∀r' rR,RS r'->r'.at f args m rR->r'.v=r.v/\r'.L=r.L/\r'.nx=r.nx/\r'.N=r.N/\rR=π):Vs RS f args m=some (bO π 20 r.v,r.out m π):=by
 have hx:∃x:iT×(Nat->Nat),RS x.1/\x.1.at f args m x.2:=⟨(r,π),hr,h⟩;unfold Vs;rw[dif_pos hx];obtain⟨e1,e2,e3,e4,e5⟩:=hu _ _ (Classical.choose_spec hx).1 (Classical.choose_spec hx).2;unfold iT.out iW;rw[e1,e2,e3,e5,show(iT.mi (Classical.choose hx).1).next=(iT.mi r).next from e4]
theorem H8 {RS:iT->Prop}{f:Nat}{args:List ae}{m:Mem}(h:∀r,RS r->r.f≠f):Vs RS f args m=none:=by
 unfold Vs;exact dif_neg fun⟨x,h1,h2,_⟩=>h _ h1 h2
structure HN (call:cE)(r:iT):Prop where
 call:∃mq,call r.f r.args r.mi=some (r.v,mq)/\Nc r.mi mq r.L r.nx
 bod:dY ab r.f=true
 args:r.args.all (nj 20)=true
 val:nj 20 r.v=true
theorem aar {Fin:ae->ao->Prop}{call:cE}(C:fT ab X0 true (Jn Fin) Mv call){RS:iT->Prop}(h:∀r,RS r->HN call r):fT ab X0 true (Jn Fin) Mv (Vs RS):=by
 intro f args m v m' hw ht;unfold Vs at ht
 split at ht
 ·rename_i hx;have hs:=Classical.choose_spec hx;simp only[ah,au]at ht;obtain⟨rfl,rfl⟩:=ht;generalize Classical.choose hx=x at hs;obtain⟨r,π⟩:=x;obtain⟨hr,rfl,rfl,_,ml⟩:=hs;obtain⟨⟨mq,hc,hq⟩,hb,ha,hv⟩:=h r hr;obtain⟨k1,k2⟩:=Jj (Fin:=Fin) C hc hb ml hq ha hv;exact⟨k1,fun h'=>(by rw[hb]at h';cases h'),fun _=>k2⟩
 ·cases ht
def OY (mi:Mem)(args:List ae)(c:List (Nat×List Nat)):Bool:=c.all fun x=>match rq mi args x.2 with
 |some v=>(match IM v with |some b=>Nat.beq b x.1|none=>false)
 |none=>false
theorem J7 {mi:Mem}{args:List ae}{c:List (Nat×List Nat)}(h:OY mi args c=true){x:Nat×List Nat}(hx:x∈c):∃v,rq mi args x.2=some v/\IM v=some x.1:=by
 have :=aB.1 h x hx
 split at this
 ·rename_i v hv
  split at this
  ·rename_i b hb;exact⟨v,hv,by rw[hb,ay this]⟩
  ·cases this
 ·cases this
theorem IQ {N nx:Nat}:∀{l:List (Nat×Nat)},(l.map (·.1)).Nodup->(∀x∈l,12<=x.1/\x.1<N)->∀x∈l,DH N nx l x.1=x.2:=by
 intro l hn hb x hx;obtain⟨h1,h2⟩:=hb x hx;unfold DH;rw[bW ai,bj h2];have :∀{l:List (Nat×Nat)},(l.map (·.1)).Nodup->x∈l->l.find? (fun y=>Nat.beq y.1 x.1)=some x:=by
  intro l
  induction l with
  |nil=>intro _ h;cases h
  |cons y l ih=>
   intro hn hx;rw[List.map_cons,List.nodup_cons]at hn;rw[List.find?_cons];rcases aL.1 hx with rfl|hx
   ·rw[Nat.beq_refl]
   ·have :Nat.beq y.1 x.1=false:=by
     cases hb:Nat.beq y.1 x.1 with
     |false=>rfl
     |true=>exact absurd (List.mem_map.2 ⟨x,hx,(ay hb).symm⟩) hn.1
    rw[this];exact ih hn.2 hx
 rw[this hn hx]
theorem xO {N nx:Nat}:∀{l l':List (Nat×Nat)} {ks:List Nat},l.map (·.1)=ks->l'.map (·.1)=ks->(∀x∈l,∀y∈l',x.1=y.1->x.2=y.2)->l=l'
 | [],[],_,_,_,_=>rfl
 | [],y::l',ks,h,h',_=>by rw[<-h]at h';cases h'
 |x::l,[],ks,h,h',_=>by rw[<-h']at h;cases h
 |x::l,y::l',ks,h,h',hv=>by
  rw[<-h',List.map_cons,List.map_cons]at h
  injection h with e1 e2
  have e3:=hv x (List.mem_cons_self ..) y (List.mem_cons_self ..) e1;rw[xO (N:=N) (nx:=nx) (ks:=l'.map (·.1)) e2 rfl fun a ha b hb=>hv a (List.mem_cons_of_mem _ ha) b (List.mem_cons_of_mem _ hb)]
  congr 1
  exact Prod.ext e1 e3
theorem E1 {r r':iT}{f:Nat}{args:List ae}{m:Mem}{π rR:Nat->Nat}(h:r.at f args m π)(h':r'.at f args m rR)(hc:r'.c=r.c)(hN:r'.N=r.N)(ha:r.args.all (nj 20)=true)(mn:r'.args.all (nj 20)=true)(q:OY r.mi r.args r.c=true)(q':OY r'.mi r'.args r'.c=true)(hk:(r.c.map (·.1)).Nodup/\∀x∈r.c,12<=x.1/\x.1<r.N):rR=π:=by
 obtain⟨_,e,⟨l,el,rfl⟩,hi⟩:=h;obtain⟨_,e',⟨l',el',rfl⟩,Ej⟩:=h';rw[hc]at el' q';have hb:∀{l:List (Nat×Nat)},l.map (·.1)=r.c.map (·.1)->∀x∈l,12<=x.1/\x.1<r.N:=fun{l} el x hx=>by
  have :x.1∈r.c.map (·.1):=el▸List.mem_map.2 ⟨x,hx,rfl⟩;obtain⟨y,hy,ey⟩:=List.mem_map.1 this;rw[<-ey];exact hk.2 y hy
 have :l'=l:=xO (N:=0) (nx:=0) el' el fun x hx y hy exy=>by
  have h1:=IQ (N:=r.N) (nx:=m.next) (by rw[el'];exact hk.1) (hb el') x hx;have h2:=IQ (N:=r.N) (nx:=m.next) (by rw[el];exact hk.1) (hb el) y hy;have :x.1∈r.c.map (·.1):=el'▸List.mem_map.2 ⟨x,hx,rfl⟩;obtain⟨z,hz,ez⟩:=List.mem_map.1 this;obtain⟨v,n1,p1⟩:=J7 q hz;obtain⟨v',n2,p2⟩:=J7 q' hz;have :=WM hi Ej ha mn e e' n1 n2 p1 p2;rw[hN,ez]at this;rw[<-h1,<-h2,<-exy];exact this.symm
 rw[this,hN]
def kP (k:dZ):Nat×Nat×Nat×List (Option ae)×List MapEntry×Nat×List UInt8:=(k.kind,k.sz,k.pos,k.cs,k.es.toList,k.clock,k.str.data.toList)
theorem Xk {k k':dZ}(h:kP k=kP k'):iI k k':=by
 unfold kP at h;simp only[au]at h;obtain⟨h1,h2,h3,h4,h5,h6,h7⟩:=h;refine⟨h1,h2,h3,h4,Array.toList_inj.1 h5,h6,?_⟩;cases hs:k.str;cases s9:k'.str;rw[hs,s9]at h7;simp only[Array.toList_inj]at h7;rw[h7]
def aby (ids:List Nat)(p:ae×Mem):ae×(Nat×Nat×Nat)×(List Span×List Span)×Bool×Nat×Nat×List (Nat×Nat×Nat×List (Option ae)×List MapEntry×Nat×List UInt8):=
 (p.1,(p.2.base,p.2.home,p.2.floor),(p.2.bh,p.2.opn),p.2.wg.isNone,p.2.deaf,p.2.next,ids.map fun b=>kP (p.2.blk b))
theorem Wq {r:iT}{J:List (Nat×dZ)}{nq:Nat}(h:(Ct r.f r.args r.mi).map (aby (J.map (·.1)))=some (r.v,(12,12,12),([],[]),true,0,nq,J.map fun x=>kP x.2))
  (hJ0:∃k,(0,k)∈J/\iI k (s8.blk 0))(hJK:∀x∈r.K,∃k,(x.1,k)∈J/\((x.1,k)∈r.L\/iI k x.2))(hL:∀x∈r.L,x∈J/\(r.N<=x.1\/∃k,(x.1,k)∈r.K/\x.2.kind=k.kind)/\x.1<r.nx/\x.2.live/\okB x.2=true)(hK:kOk r.K r.N=true)(hKn:(r.K.map (·.1)).Nodup)(hn:nq<=r.nx/\r.N<=r.nx)
  (hb:dY ab r.f=true)(ha:r.args.all (nj 20)=true)(hv:nj 20 r.v=true):HN Ct r:=by
 obtain⟨⟨v,mq⟩,hc,hp⟩:=az.1 h;unfold aby at hp;simp only[au]at hp;obtain⟨rfl,⟨p1,p2,p3⟩,⟨p4,p5⟩,p6,p7,p8,p9⟩:=hp;have at':∀{b:Nat}{k:dZ},(b,k)∈J->iI k (mq.blk b):=fun{b k} hx=>by
  rw[List.map_map]at p9;have :∀{l:List (Nat×dZ)},(l.map ((fun b=>kP (mq.blk b))∘fun x=>x.1))=l.map (fun x=>kP x.2)->(b,k)∈l->kP (mq.blk b)=kP k:=by
   intro l
   induction l with
   |nil=>intro _ h;cases h
   |cons y l ih=>
    intro h hm;rw[List.map_cons,List.map_cons]at h
    injection h with e1 e2
    rcases aL.1 hm with rfl|hm
    ·exact e1
    ·exact ih e2 hm
  exact Xk (this p9 hx).symm
 have sy:∀{k k':dZ},iI k k'->iI k' k:=fun h=>h.symm
 have ajP:∀{b:Nat}{k:dZ},(b,k)∈r.K->(Ef s8 r.K r.N).blk b={k with bK:=1}:=fun{b k} hx=>rz (x:=(b,k)) hKn hx
 refine⟨⟨mq,hc,⟨p1,p2,p3,p4,p5,Option.isNone_iff_eq_none.1 p6,p7,fun b HV=>?_,by rw[p8];exact hn.1,hn.2,fun x hx=>?_⟩⟩,hb,ha,hv⟩
 ·rcases N6 hK b HV with rfl|⟨k,hk,e⟩
  ·obtain⟨k0,h1,h2⟩:=hJ0;refine .inr ((sy (at' h1)).trans (h2.trans ?_));rcases fX (m:=s8) (L:=r.K) (nx:=r.N) 0 with⟨e,_⟩|⟨k,hm,_⟩
   ·have e:r.mi.blk 0=s8.blk 0:=e;rw[e];exact iI.R7
   ·have h1:12<=0:=(tU hK hm).1;omega
  ·obtain⟨k',h1,h2|h2⟩:=hJK _ hk
   ·exact .inl ⟨k',h2⟩
   ·refine .inr ((sy (at' h1)).trans (h2.trans ?_));have e:r.mi.blk b={k with bK:=1}:=e;rw[e];exact⟨rfl,rfl,rfl,rfl,rfl,rfl,rfl⟩
 ·obtain⟨h1,h2,h3,h4,h5⟩:=hL x hx;refine⟨h2.imp id fun⟨k,hk,ek⟩=>?_,h3,at' h1,h4,h5⟩;have e:r.mi.blk x.1={k with bK:=1}:=ajP hk;rw[e];exact⟨fun h=>by have h2:0<k.kind:=(tU hK hk).2.2.1;have h:k.kind=0:=h;omega,ek⟩
end Go.AM
namespace Go.AM
set_option maxRecDepth 1000000
open Go Go.Conc Go.Proofs
def PD:iE:=EP [67,82,69,65,84,69,32,84,65,66,76,69,32,103,40,97,32,73,78,84,44,32,98,32,73,78,84,41] (.tuple #[.iface 91 (.agg #[.string ⟨#[103]⟩,vL 93 0 2 cH]),vI 0,vI 0])
 [(93,{kind:=1,sz:=2,cs:=[some (.string ⟨#[97]⟩),some (vI 1),some (.string ⟨#[98]⟩),some (vI 1)]})] 116
def Wu:iE:=EP [83,69,76,69,67,84,32,42,32,70,82,79,77,32,103] (.tuple #[.iface 108 (.agg #[.bool false,.slice none 0 0,.slice none 0 0,vL 63 0 1 1,.nilIface,.slice none 0 0]),vI 0,vI 0])
 [(63,{kind:=1,sz:=3,cs:=[some (.string ⟨#[103]⟩),some (.string .empty),some (.nilIface)]})] 85
def Wt:iE:=EP [83,69,76,69,67,84,32,42,32,70,82,79,77,32,103,32,85,78,73,79,78,32,65,76,76,32,83,69,76,69,67,84,32,98,44,32,97,32,70,82,79,77,32,103] (.tuple #[.iface 108 (.agg #[.bool false,.slice none 0 0,.slice none 0 0,vL 64 0 1 1,.nilIface,vL 201 0 1 cH]),vI 0,vI 0])
 [(64,{kind:=1,sz:=3,cs:=[some (.string ⟨#[103]⟩),some (.string .empty),some (.nilIface)]}),(170,{kind:=1,sz:=2,cs:=[some (.iface 320 (.agg #[.string .empty,.string ⟨#[98]⟩])),some (.string .empty),some (.iface 320 (.agg #[.string .empty,.string ⟨#[97]⟩])),some (.string .empty)]}),(193,{kind:=1,sz:=3,cs:=[some (.string ⟨#[103]⟩),some (.string .empty),some (.nilIface)]}),(201,{kind:=1,sz:=4,cs:=[some (.bool true),some (vL 170 0 2 cH),some (vL 193 0 1 1),some (.nilIface)]})] 216
def Ws:iE:=EP [83,69,76,69,67,84,32,98,32,65,83,32,97,44,32,97,32,65,83,32,98,32,70,82,79,77,32,103,32,85,78,73,79,78,32,65,76,76,32,83,69,76,69,67,84,32,42,32,70,82,79,77,32,103] (.tuple #[.iface 108 (.agg #[.bool false,.slice none 0 0,vL 139 0 2 cH,vL 163 0 1 1,.nilIface,vL 227 0 1 cH]),vI 0,vI 0])
 [(139,{kind:=1,sz:=2,cs:=[some (.iface 320 (.agg #[.string .empty,.string ⟨#[98]⟩])),some (.string ⟨#[97]⟩),some (.iface 320 (.agg #[.string .empty,.string ⟨#[97]⟩])),some (.string ⟨#[98]⟩)]}),(163,{kind:=1,sz:=3,cs:=[some (.string ⟨#[103]⟩),some (.string .empty),some (.nilIface)]}),(219,{kind:=1,sz:=3,cs:=[some (.string ⟨#[103]⟩),some (.string .empty),some (.nilIface)]}),(227,{kind:=1,sz:=4,cs:=[some (.bool true),some (.slice none 0 0),some (vL 219 0 1 1),some (.nilIface)]})] 242
def Wr:iE:=EP [83,69,76,69,67,84,32,42,32,70,82,79,77,32,103,32,85,78,73,79,78,32,83,69,76,69,67,84,32,42,32,70,82,79,77,32,103] (.tuple #[.iface 108 (.agg #[.bool false,.slice none 0 0,.slice none 0 0,vL 64 0 1 1,.nilIface,vL 125 0 1 cH]),vI 0,vI 0])
 [(64,{kind:=1,sz:=3,cs:=[some (.string ⟨#[103]⟩),some (.string .empty),some (.nilIface)]}),(117,{kind:=1,sz:=3,cs:=[some (.string ⟨#[103]⟩),some (.string .empty),some (.nilIface)]}),(125,{kind:=1,sz:=4,cs:=[some (.bool false),some (.slice none 0 0),some (vL 117 0 1 1),some (.nilIface)]})] 140
theorem PB:(PD.fact&&Wu.fact&&Wt.fact&&Ws.fact&&Wr.fact)=true:=aU
def BS:iE:=⟨14,[],s8,vP 13 0,KL,1225⟩
theorem Lu:BS.fact=true:=aU
end Go.AM
namespace Go.AM
set_option maxRecDepth 1000000
open Go Go.Conc Go.Proofs
def bk (b sz:Nat)(cs:List ae):Nat×dZ:=(b,{kind:=1,sz:=sz,cs:=cs.map some})
def vk (b:Nat)(cs:List ae):Nat×dZ:=(b,{kind:=1,pos:=1,cs:=cs.map some})
def sB (l:List UInt8):ae:= .string ⟨l.toArray⟩
def qA:List ae:=[sB [97],vI 1,sB [98],vI 1]
def Ze:Nat×dZ:=(1000,{kind:=2,clock:=1,es:=#[⟨sB [101],vP 1001 0,0⟩]})
def TF:Nat×dZ:=(1000,{kind:=2,clock:=2,es:=#[⟨sB [101],vP 1001 0,0⟩,⟨sB [103],vP 1002 0,1⟩]})
def wV:Option Nat->ae
 |none=> .slice none 0 0
 |some n=>vL 1006 0 n cH
def cW:Option Nat->List (Nat×List Nat)
 |none=>[]
 |some _=>[(1006,[0,0,1,1])]
def kG (o:Option Nat):List (Nat×dZ):=[TF,bk 1002 0 [vL 1004 0 2 cH,wV o],bk 1004 2 qA]
def cG (o:Option Nat):List (Nat×List Nat):=[(1000,[0,0]),(1001,[0,0,0]),(1002,[0,0,1]),(1004,[0,0,1,0])]++cW o
def ql:iT:={f:=38,args:=[vP 1010 0,.agg #[sB [103],vL 93 0 2 cH]],K:=[bk 93 2 qA,Ze,bk 1010 0 [.int .i32 1,.int .u32 0,.map (some 1000)]],N:=1100,c:=[(93,[1,1]),(1010,[0,0]),(1000,[0,0,2]),(1001,[0,0,2,0])],v:=vI 0,L:=[(1000,{kind:=2,clock:=2,es:=#[⟨sB [101],vP 1001 0,0⟩,⟨sB [103],vP 1108 0,1⟩]}),vk 1108 [vL 93 0 2 cH,.slice none 0 0]],nx:=1109}
structure CD where
 f:Nat
 A:List (Nat×dZ)
 c:List (Nat×List Nat)
 sv:ae
 qv:ae
 L:List (Nat×dZ)
 nx:Nat
def kq (d:CD)(o:Option Nat):iT:={f:=d.f,args:=[.map (some 1000),d.sv],K:=d.A++kG o,N:=1100,c:=d.c++cG o,v:= .tuple #[d.qv,vI 0],L:=d.L,nx:=d.nx}
def iD (a b:Nat):CD:={f:=73,sv:= .agg #[sB [103],vL 137 0 1 1],A:=(Gk a b).L,c:=[(125,[1,1,0]),(137,[1,1])],qv:=vL 1112 0 1 cH,L:=[vk 1104 [vI 1,vI a,.string .empty,.bool false],vk 1108 [vI 1,vI b,.string .empty,.bool false],bk 1110 1 [.iface 317 (vP 1104 0),.iface 317 (vP 1108 0)],bk 1112 1 [vL 1110 0 2 cH]],nx:=1113}
def Wx:CD:={f:=75,sv:= .agg #[.bool false,.slice none 0 0,.slice none 0 0,vL 63 0 1 1,.nilIface,.slice none 0 0],A:=Wu.L,c:=[(63,[1,3])],qv:= .agg #[.slice none 0 0,vL 1129 0 2 cH,vL 1116 0 1 cH,.nilIface,vL 1127 0 2 cH,.slice none 0 0],L:=[bk 1116 2 [vP 1002 0,.nilIface],vk 1119 [vP 1002 0,vI 0,vI 0],vk 1125 [vP 1002 0,vI 0,vI 1],bk 1127 1 [.iface 396 (vP 1119 0),.iface 396 (vP 1125 0)],bk 1129 2 qA],nx:=1132}
def Sp:CD:={f:=75,sv:= .agg #[.bool false,.slice none 0 0,.slice none 0 0,vL 64 0 1 1,.nilIface,vL 201 0 1 cH],A:=Wt.L,c:=[(64,[1,3]),(170,[1,5,1]),(193,[1,5,2]),(201,[1,5])],qv:= .agg #[.slice none 0 0,vL 1129 0 2 cH,vL 1116 0 1 cH,.nilIface,vL 1127 0 2 cH,vL 1186 0 1 cH],L:=[bk 1116 2 [vP 1002 0,.nilIface],vk 1119 [vP 1002 0,vI 0,vI 0],vk 1125 [vP 1002 0,vI 0,vI 1],bk 1127 1 [.iface 396 (vP 1119 0),.iface 396 (vP 1125 0)],bk 1129 2 qA,bk 1142 2 [vP 1002 0,.nilIface],vk 1150 [vP 1002 0,vI 0,vI 1],vk 1166 [vP 1002 0,vI 0,vI 0],bk 1170 1 [.iface 396 (vP 1150 0),.iface 396 (vP 1166 0)],bk 1186 4 [.bool true,vL 1142 0 1 cH,.nilIface,vL 1170 0 2 cH]],nx:=1188}
def Ww:CD:={f:=75,sv:= .agg #[.bool false,.slice none 0 0,vL 139 0 2 cH,vL 163 0 1 1,.nilIface,vL 227 0 1 cH],A:=Ws.L,c:=[(139,[1,2]),(163,[1,3]),(219,[1,5,2]),(227,[1,5])],qv:= .agg #[.slice none 0 0,vL 1149 0 2 cH,vL 1116 0 1 cH,.nilIface,vL 1144 0 2 cH,vL 1186 0 1 cH],L:=[bk 1116 2 [vP 1002 0,.nilIface],vk 1124 [vP 1002 0,vI 0,vI 1],vk 1140 [vP 1002 0,vI 0,vI 0],bk 1144 1 [.iface 396 (vP 1124 0),.iface 396 (vP 1140 0)],bk 1149 2 qA,bk 1162 2 [vP 1002 0,.nilIface],vk 1165 [vP 1002 0,vI 0,vI 0],vk 1171 [vP 1002 0,vI 0,vI 1],bk 1173 1 [.iface 396 (vP 1165 0),.iface 396 (vP 1171 0)],bk 1186 4 [.bool true,vL 1162 0 1 cH,.nilIface,vL 1173 0 2 cH]],nx:=1188}
def Sm:CD:={f:=75,sv:= .agg #[.bool false,.slice none 0 0,.slice none 0 0,vL 64 0 1 1,.nilIface,vL 125 0 1 cH],A:=Wr.L,c:=[(64,[1,3]),(117,[1,5,2]),(125,[1,5])],qv:= .agg #[.slice none 0 0,vL 1129 0 2 cH,vL 1116 0 1 cH,.nilIface,vL 1127 0 2 cH,vL 1166 0 1 cH],L:=[bk 1116 2 [vP 1002 0,.nilIface],vk 1119 [vP 1002 0,vI 0,vI 0],vk 1125 [vP 1002 0,vI 0,vI 1],bk 1127 1 [.iface 396 (vP 1119 0),.iface 396 (vP 1125 0)],bk 1129 2 qA,bk 1142 2 [vP 1002 0,.nilIface],vk 1145 [vP 1002 0,vI 0,vI 0],vk 1151 [vP 1002 0,vI 0,vI 1],bk 1153 1 [.iface 396 (vP 1145 0),.iface 396 (vP 1151 0)],bk 1166 4 [.bool false,vL 1142 0 1 cH,.nilIface,vL 1153 0 2 cH]],nx:=1168}
def Oh:Nat×dZ:=(0,{kind:=1,cs:=cM})
def lOk (K L:List (Nat×dZ))(N nx:Nat):Bool:=L.all fun x=>(Nat.ble N x.1||K.any fun y=>Nat.beq y.1 x.1&&Nat.beq x.2.kind y.2.kind)&&Nat.blt x.1 nx&&Nat.ble x.2.kind 3&&(x.2.cs.all (·.isSome))&&okB x.2
def ndB:List Nat->Bool
 | []=>true
 |x::l=>l.all (fun y=>!Nat.beq x y)&&ndB l
def iT.uZ(r:iT):Bool:=lOk r.K r.L r.N r.nx&&kOk r.K r.N&&ndB (r.K.map (·.1))&&ndB (r.c.map (·.1))&&(r.c.all fun x=>Nat.ble 12 x.1&&Nat.blt x.1 r.N)&&Nat.ble r.N r.nx&&r.args.all (nj 20)&&nj 20 r.v&&ndB (r.L.map (·.1))
def iT.J(r:iT):List (Nat×dZ):=Oh::r.K++r.L
structure iT.Fact(r:iT)(J:List (Nat×dZ)):Prop where
 run:(Ct r.f r.args r.mi).map (aby (J.map (·.1)))=some (r.v,(12,12,12),([],[]),true,0,r.nx,J.map fun x=>kP x.2)
 uZ:r.uZ=true
 cert:OY r.mi r.args r.c=true
theorem pB:ql.Fact (Oh::bk 93 2 qA::bk 1010 0 [.int .i32 1,.int .u32 0,.map (some 1000)]::ql.L):=⟨aU,aU,aU⟩
theorem Xm (a b:Nat)(o:Option Nat):(kq (iD a b) o).Fact (kq (iD a b) o).J:=by cases o<;>exact⟨aU,aU,aU⟩
theorem Sq (o:Option Nat):(kq Wx o).Fact (kq Wx o).J:=by cases o<;>exact⟨aU,aU,aU⟩
theorem So (o:Option Nat):(kq Sp o).Fact (kq Sp o).J:=by cases o<;>exact⟨aU,aU,aU⟩
theorem Sn (o:Option Nat):(kq Ww o).Fact (kq Ww o).J:=by cases o<;>exact⟨aU,aU,aU⟩
theorem Sl (o:Option Nat):(kq Sm o).Fact (kq Sm o).J:=by cases o<;>exact⟨aU,aU,aU⟩
end Go.AM
namespace Go.AM
set_option maxRecDepth 1000000
open Go Go.Conc Go.Proofs
def sh (lo b:Nat):Nat:=if b<12 then b else lo+(b-12)
theorem EM {lo b:Nat}(h:12<=b):sh lo b=lo+(b-12):=bW ai
def uD (lo:Nat)(L:List (Nat×dZ))(m:Mem):Prop:=∀b sz cs,tT L b=some (sz,cs)->12<=b/\Obj m (sh lo b) sz (cs.map (bO (sh lo) 20))
theorem uD.ext{lo:Nat}{L:List (Nat×dZ)}{m m':Mem}{S:Nat->Prop}(h:uD lo L m)(k:Kp m m' S)(hS:∀b,S b->b<lo):uD lo L m':=fun b sz cs e=>by
 obtain⟨h1,h2⟩:=h b sz cs e;refine⟨h1,h2.ext k fun hb=>?_⟩;have :=hS _ hb;rw[EM h1]at this;omega
structure Yu (m:Mem)(mp pe pg:Nat):Prop where
 lt:mp<m.next
 kind:(m.blk mp).kind=2
 es:(m.blk mp).es.toList=[⟨sB [101],vP pe 0,0⟩,⟨sB [103],vP pg 0,1⟩]
 clock:(m.blk mp).clock=2
 Bu:aJ m.bh mp=false
 home:m.home<=mp
theorem Yu.ext{m m':Mem}{mp pe pg:Nat}{S:Nat->Prop}(h:Yu m mp pe pg)(k:Kp m m' S)(hs:¬S mp):Yu m' mp pe pg:=by
 have e:=k.blk mp h.lt hs;exact⟨aW h.lt k.next,by rw[e];exact h.kind,by rw[e];exact h.es,by rw[e];exact h.clock,by rw[k.bh];exact h.Bu,by rw[k.home];exact h.home⟩
structure GX (m:Mem)(mp pe pg cg:Nat)(rl:ae):Prop where
 map:Yu m mp pe pg
 g:Obj m pg 0 [vL cg 0 2 cH,rl]
 c:Obj m cg 2 qA
 w:rl= .slice none 0 0\/∃rb n,rl=vL rb 0 n cH/\rb<m.next
 pe:pe<m.next
 base:(m.base<=mp/\m.base<=pg/\m.base<=cg)/\m.home<=mp/\m.home<=pg/\m.home<=cg
structure HQ (m:Mem)(lo mp pg cg:Nat):Prop where
 lt:mp<lo/\pg<lo/\cg<lo
 lo:m.base<=lo/\m.home<=lo
theorem HQ.ext{m m':Mem}{lo mp pg cg:Nat}{S:Nat->Prop}(h:HQ m lo mp pg cg)(k:Kp m m' S):HQ m' lo mp pg cg:=⟨h.lt,by rw[k.base,k.home];exact h.lo⟩
theorem GX.ext{m m':Mem}{mp pe pg cg:Nat}{rl:ae}{S:Nat->Prop}(h:GX m mp pe pg cg rl)(k:Kp m m' S)(hs:¬S mp/\¬S pg/\¬S cg):GX m' mp pe pg cg rl:=by
 have n:=k.next;refine⟨h.map.ext k hs.1,h.g.ext k hs.2.1,h.c.ext k hs.2.2,h.w.imp id fun⟨rb,n',e,hl⟩=>⟨rb,n',e,ai⟩,aW h.pe n,?_⟩;rw[k.base,k.home];exact h.base
def oW (rl:ae):Option Nat:=match rl with | .slice (some _) n _=>some n|_=>none
def lW (rl:ae):List (Nat×Nat):=match rl with | .slice (some a) _ _=>[(1006,a.block)] |_=>[]
def lG (mp pe pg cg:Nat)(rl:ae):List (Nat×Nat):=[(1000,mp),(1001,pe),(1002,pg),(1004,cg)]++lW rl
def lA (lo:Nat)(A:List (Nat×dZ))(mp pe pg cg:Nat)(rl:ae):List (Nat×Nat):=A.map (fun x=>(x.1,sh lo x.1))++lG mp pe pg cg rl
def aOk:Nat->List (Nat×dZ)->Bool
 |_,[]=>true
 |lo,x::l=>Nat.ble lo x.1&&Nat.blt x.1 1000&&Nat.beq x.2.kind 1&&(match EG x.2.cs with |some cs=>cs.all (nj 20)|none=>false)&&aOk (x.1+1) l
theorem Dz:∀{lo:Nat}{A:List (Nat×dZ)},aOk lo A=true->(∀x∈A,lo<=x.1/\x.1<1000/\x.2.kind=1/\∃cs,EG x.2.cs=some cs/\tT A x.1=some (x.2.sz,cs))/\(A.map (·.1)).Nodup
 |_,[],_=>⟨fun x hx=>(by cases hx),List.nodup_nil⟩
 |lo,x::l,h=>by
  unfold aOk at h;simp only[ag]at h;obtain⟨⟨⟨⟨h1,h2⟩,h3⟩,h4⟩,h5⟩:=h;have h1:=af h1;have h2:x.1<1000:=af h2;have h3:=ay h3;obtain⟨q1,q2⟩:=Dz h5;refine⟨fun y hy=>?_,?_⟩
  ·rcases aL.1 hy with rfl|hy
   ·split at h4
    ·rename_i cs gT;refine⟨h1,h2,h3,cs,gT,?_⟩;unfold tT;rw[bj (Nat.beq_refl _),h3,bj (by rfl),gT]
    ·cases h4
   ·obtain⟨a1,a2,a3,cs,a4,a5⟩:=q1 y hy;refine⟨ai,a2,a3,cs,a4,?_⟩;have :Nat.beq x.1 y.1=false:=by
     cases hb:Nat.beq x.1 y.1 with
     |false=>rfl
     |true=>have :=ay hb;omega
    unfold tT;rw[this];exact a5
  ·rw[List.map_cons,List.nodup_cons];refine⟨fun hm=>?_,q2⟩;obtain⟨y,hy,e⟩:=List.mem_map.1 hm;have :=(q1 y hy).1;omega
def TO (p:Nat->Bool):Nat->ae->Bool
 |0,v=>true
 |n+1,v=>match v with
  | .pointer (some a)=>p a.block
  | .slice (some a) _ _=>p a.block
  | .map (some r)=>p r
  | .func _ f c=>f.toList.all (TO p n)&&c.toList.all (TO p n)
  | .iface _ x=>TO p n x
  | .agg cs=>cs.toList.all (TO p n)
  | .tuple cs=>cs.toList.all (TO p n)
  |_=>true
theorem NF {π rR:Nat->Nat}{p:Nat->Bool}(hp:∀b,p b=true->π b=rR b):∀{n:Nat}{v:ae},TO p n v=true->bO π n v=bO rR n v:=by
 intro n
 induction n with
 |zero=>intro v _;rfl
 |succ n ih=>
  have ihL:∀{l:List ae},l.all (TO p n)=true->l.map (bO π n)=l.map (bO rR n):=fun h=>List.map_congr_left fun v hv=>ih (aB.1 h v hv)
  intro v h;cases v with
  |pointer a=>cases a with
   |none=>rfl
   |some a=>show ae.pointer (some ⟨π a.block,a.off,a.spot⟩)=_;rw[hp _ h];rfl
  |slice a l c=>cases a with
   |none=>rfl
   |some a=>show ae.slice (some ⟨π a.block,a.off,a.spot⟩) l c=_;rw[hp _ h];rfl
  |map r=>cases r with
   |none=>rfl
   |some r=>show ae.map (some (π r))=_;rw[hp _ h];rfl
  |func fn f c=>
   have h:(f.toList.all (TO p n)&&c.toList.all (TO p n))=true:=h;rw[ag]at h
   show ae.func fn (f.toList.map (bO π n)).toArray (c.toList.map (bO π n)).toArray=_
   rw[ihL h.1,ihL h.2];rfl
  |iface t x=>show ae.iface t (bO π n x)=_;rw[ih h];rfl
  |agg cs=>show ae.agg (cs.toList.map (bO π n)).toArray=_;rw[ihL h];rfl
  |tuple cs=>show ae.tuple (cs.toList.map (bO π n)).toArray=_;rw[ihL h];rfl
  |_=>rfl
def aIn (A:List (Nat×dZ)):Bool:=A.all fun x=>x.2.cs.all fun c=>match c with |some v=>TO (fun b=>Nat.blt b 12||A.any fun y=>Nat.beq y.1 b) 20 v|none=>true
section
variable {m:Mem}{lo mp pe pg cg:Nat}{rl:ae}{A:List (Nat×dZ)}
theorem YO (hA:aOk 12 A=true){x:Nat×dZ}(hx:x∈A):DH 1100 m.next (lA lo A mp pe pg cg rl) x.1=sh lo x.1:=by
 obtain⟨q1,q2⟩:=Dz hA;obtain⟨h1,h2,_⟩:=q1 x hx;unfold DH lA;rw[bW ai,bj ai,List.find?_append];have :∀{A:List (Nat×dZ)},(A.map (·.1)).Nodup->x∈A->(A.map fun y=>(y.1,sh lo y.1)).find? (fun y=>Nat.beq y.1 x.1)=some (x.1,sh lo x.1):=by
  intro A
  induction A with
  |nil=>intro _ h;cases h
  |cons y l ih=>
   intro hn hx;rw[List.map_cons,List.nodup_cons]at hn;rw[List.map_cons,List.find?_cons];rcases aL.1 hx with rfl|hx
   ·simp only[Nat.beq_refl]
   ·have :Nat.beq y.1 x.1=false:=by
     cases hb:Nat.beq y.1 x.1 with
     |false=>rfl
     |true=>exact absurd (List.mem_map.2 ⟨x,hx,(ay hb).symm⟩) hn.1
    simp only[this];exact ih hn.2 hx
 rw[this q2 hx];rfl
theorem BZ (hA:aOk 12 A=true){b:Nat}(hb:1000<=b)(gA:b<1100):DH 1100 m.next (lA lo A mp pe pg cg rl) b=DH 1100 m.next (lG mp pe pg cg rl) b:=by
 obtain⟨q1,_⟩:=Dz hA;unfold DH lA;rw[bW ai,bj gA,bW ai,bj gA,List.find?_append];have :(A.map fun y=>(y.1,sh lo y.1)).find? (fun y=>Nat.beq y.1 b)=none:=by
  rw[List.find?_eq_none];intro y hy h;obtain⟨x,hx,rfl⟩:=List.mem_map.1 hy;have :=ay h;have :=(q1 x hx).2.1;simp only at*;omega
 rw[this];rfl
theorem Wz {b:Nat}(hb:1100<=b):DH 1100 m.next (lA lo A mp pe pg cg rl) b=m.next+(b-1100):=by
 unfold DH;rw[bW ai,bW ai]
theorem alm (hA:aOk 12 A=true)(hI:aIn A=true)(X:GX m mp pe pg cg rl)(jd:HQ m lo mp pg cg)(hL:uD lo A m):Emb m (DH 1100 m.next (lA lo A mp pe pg cg rl)) (A++kG (oW rl)):=by
 obtain⟨q1,q2⟩:=Dz hA;obtain⟨π,tX⟩:∃π,π=DH 1100 m.next (lA lo A mp pe pg cg rl):=⟨_,rfl⟩;rw[<-tX];have pA:∀{x:Nat×dZ},x∈A->π x.1=sh lo x.1:=fun hx=>by rw[tX];exact YO hA hx
 have p0:π 1000=mp:=by rw[tX,BZ hA eS eS];rfl
 have p1:π 1001=pe:=by rw[tX,BZ hA eS eS];rfl
 have p2:π 1002=pg:=by rw[tX,BZ hA eS eS];rfl
 have p4:π 1004=cg:=by rw[tX,BZ hA eS eS];rfl
 have hgk:=X.g.kind;have OI:=X.c.kind;have AK:=X.map.kind;have ne1:mp≠pg:=fun e=>by rw[e,hgk]at AK;cases AK
 have ne2:mp≠cg:=fun e=>by rw[e,OI]at AK;cases AK
 have ne3:pg≠cg:=fun e=>by
  have h1:=X.g.sz;have h2:=X.c.sz;rw[e,h2]at h1;cases h1
 have hw:bO π 20 (wV (oW rl))=rl:=by
  rcases X.w with rfl|⟨rb,n,rfl,_⟩
  ·rfl
  ·show vL (π 1006) 0 n cH=_
   rw[tX,BZ hA eS eS];rfl
 have mem:∀{x:Nat×dZ},x∈A++kG (oW rl)->x∈A\/x=TF\/x=bk 1002 0 [vL 1004 0 2 cH,wV (oW rl)]\/x=bk 1004 2 qA:=fun hx=>by
  rcases List.mem_append.1 hx with h|h
  ·exact .inl h
  ·right
   simpa[kG]using h
 have ge:∀{x:Nat×dZ},x∈A->lo<=π x.1:=fun hx=>by
  rw[pA hx,EM (q1 _ hx).1];omega
 refine⟨fun x hx=>?_,fun x hx=>?_,fun x hx=>?_,fun x hx y hy e=>?_⟩
 ·rcases mem hx with h|rfl|rfl|rfl
  ·obtain⟨_,_,_,cs,_,h5⟩:=q1 x h;rw[pA h];exact(hL _ _ _ h5).2.lt
  ·show π 1000<_;rw[p0];exact X.map.lt
  ·show π 1002<_;rw[p2];exact X.g.lt
  ·show π 1004<_;rw[p4];exact X.c.lt
 ·rcases mem hx with h|rfl|rfl|rfl
  ·have :=ge h;have :=jd.lo;omega
  ·show m.base<=π 1000/\_<=π 1000;rw[p0];exact⟨X.base.1.1,X.base.2.1⟩
  ·show m.base<=π 1002/\_<=π 1002;rw[p2];exact⟨X.base.1.2.1,X.base.2.2.1⟩
  ·show m.base<=π 1004/\_<=π 1004;rw[p4];exact⟨X.base.1.2.2,X.base.2.2.2⟩
 ·rcases mem hx with h|rfl|rfl|rfl
  ·obtain⟨_,_,h3,cs,h4,h5⟩:=q1 x h;have o:=(hL _ _ _ h5).2;rw[pA h];refine⟨o.kind.trans h3.symm,fun _=>⟨o.sz,?_⟩,fun hk=>(by rw[h3]at hk;cases hk),fun hk=>by rw[h3]at hk;cases hk⟩;rw[o.cs,xj h4,List.map_map,List.map_map];refine List.map_congr_left fun v hv=>?_
   show some (bO (sh lo) 20 v)=some (bO π 20 v)
   refine congrArg some (NF (p:=fun b=>Nat.blt b 12||A.any fun y=>Nat.beq y.1 b) (fun b hb=>?_) ?_)
   ·rw[Bool.or_eq_true]at hb;rcases hb with hb|hb
    ·have hb:b<12:=af hb;rw[tX];unfold sh DH;rw[bj hb,bj hb]
    ·obtain⟨y,hy,e⟩:=List.any_eq_true.1 hb;rw[<-ay e,pA hy]
   ·have h1:=aB.1 (aB.1 hI x h) (some v) (by rw[xj h4];exact List.mem_map.2 ⟨v,hv,rfl⟩);exact h1
  ·show vz π TF.2 (m.blk (π 1000))
   rw[p0];refine⟨AK,fun h=>(by cases h),fun _=>⟨?_,X.map.clock⟩,fun h=>by cases h⟩;rw[X.map.es]
   show _=([⟨sB [101],vP (π 1001) 0,0⟩,⟨sB [103],vP (π 1002) 0,1⟩]:List MapEntry)
   rw[p1,p2]
  ·show vz π (bk 1002 0 [vL 1004 0 2 cH,wV (oW rl)]).2 (m.blk (π 1002))
   rw[p2];refine⟨hgk,fun _=>⟨X.g.sz,?_⟩,fun h=>(by cases h),fun h=>by cases h⟩;rw[X.g.cs]
   show _=[some (vL (π 1004) 0 2 cH),some (bO π 20 (wV (oW rl)))]
   rw[p4,hw];rfl
  ·show vz π (bk 1004 2 qA).2 (m.blk (π 1004))
   rw[p4];refine⟨OI,fun _=>⟨X.c.sz,?_⟩,fun h=>(by cases h),fun h=>by cases h⟩;rw[X.c.cs];rfl
 ·have lt:=jd.lt;rcases mem hx with h|rfl|rfl|rfl<;>rcases mem hy with h'|rfl|rfl|rfl
  ·rw[pA h,pA h',EM (q1 _ h).1,EM (q1 _ h').1]at e;have :=(q1 _ h).1;have :=(q1 _ h').1;omega
  ·have :=ge h;have e:π x.1=π 1000:=e;rw[p0]at e;omega
  ·have :=ge h;have e:π x.1=π 1002:=e;rw[p2]at e;omega
  ·have :=ge h;have e:π x.1=π 1004:=e;rw[p4]at e;omega
  ·have :=ge h';have e:π 1000=π y.1:=e;rw[p0]at e;omega
  ·rfl
  ·have e:π 1000=π 1002:=e;rw[p0,p2]at e;exact absurd e ne1
  ·have e:π 1000=π 1004:=e;rw[p0,p4]at e;exact absurd e ne2
  ·have :=ge h';have e:π 1002=π y.1:=e;rw[p2]at e;omega
  ·have e:π 1002=π 1000:=e;rw[p0,p2]at e;exact absurd e.symm ne1
  ·rfl
  ·have e:π 1002=π 1004:=e;rw[p2,p4]at e;exact absurd e ne3
  ·have :=ge h';have e:π 1004=π y.1:=e;rw[p4]at e;omega
  ·have e:π 1004=π 1000:=e;rw[p4,p0]at e;exact absurd e.symm ne2
  ·have e:π 1004=π 1002:=e;rw[p4,p2]at e;exact absurd e.symm ne3
  ·rfl
end
end Go.AM
namespace Go.AM
set_option maxRecDepth 1000000
open Go Go.Conc Go.Proofs
def DZ (π:Nat->Nat):X->X
 | .bin op l r=> .bin op (DZ π l) (DZ π r)
 | .no x=> .no (DZ π x)
 | .TJ x=> .TJ (DZ π x)
 | .lit v=> .lit v
 | .Aq p i j=> .Aq (π p) i j
def MM (L:List (Nat×dZ))(t:Nat)(v:ae):Option (List ae):=match v with
 | .iface u (.pointer (some a))=>if Nat.beq u t&&Nat.beq a.off 0&&a.spot.isNone then(match tT L a.block with |some (sz,cs)=>if Nat.beq sz 0 then some cs else none|none=>none)else none
 |_=>none
theorem yn {π:Nat->Nat}{L:List (Nat×dZ)}{m:Mem}{B:Nat->Prop}(hL:uC π L m B){t:Nat}{v:ae}{cs:List ae}(h:MM L t v=some cs):∃b,bO π 20 v= .iface t (vP b 0)/\B b/\Obj m b 0 (cs.map (bO π 20)):=by
 unfold MM at h
 split at h
 ·rename_i u a
  split at h
  ·rename_i hc;simp only[ag]at hc
   split at h
   ·rename_i sz jf hg
    split at h
    ·rename_i hz;cases h;obtain⟨hb,ho⟩:=hL _ _ _ hg;obtain⟨b,o,sp⟩:=a;have e1:o=0:=ay hc.1.2;have e2:sp=none:=Option.isNone_iff_eq_none.1 hc.2;subst e1 e2;rw[ay hz]at ho;rw[ay hc.1.1];exact⟨π b,rfl,hb,ho⟩
    ·cases h
   ·cases h
  ·cases h
 ·cases h
def AD (L:List (Nat×dZ)):X->ae->Bool
 | .bin op l r,v=>(match MM L 305 v with |some [o,a,b]=>JP 20 (vI op) o&&AD L l a&&AD L r b|_=>false)
 | .no x,v=>(match MM L 390 v with |some [a]=>AD L x a|_=>false)
 | .TJ x,v=>(match MM L 393 v with |some [a]=>AD L x a|_=>false)
 | .lit u,v=>(match MM L 317 v with |some cs=>UJ (JP 20) u.cells cs|none=>false)
 | .Aq p i j,v=>(match MM L 396 v with |some cs=>UJ (JP 20) [vP p 0,vI i,vI j] cs|none=>false)
theorem uI {π:Nat->Nat}{L:List (Nat×dZ)}{m:Mem}{B:Nat->Prop}(hL:uC π L m B):∀{x:X}{v:ae},AD L x v=true->XR B (DZ π x) m (bO π 20 v)
 | .bin op l r,v,h=>by
  unfold AD at h
  split at h
  ·rename_i o a b hc;simp only[ag]at h;obtain⟨b',e,hb,ho⟩:=yn hL hc;rw[<-nY h.1.1]at ho;exact⟨b',_,_,e,hb,ho,uI hL h.1.2,uI hL h.2⟩
  ·cases h
 | .no x,v,h=>by
  unfold AD at h
  split at h
  ·rename_i a hc;obtain⟨b',e,hb,ho⟩:=yn hL hc;exact⟨b',_,e,hb,ho,uI hL h⟩
  ·cases h
 | .TJ x,v,h=>by
  unfold AD at h
  split at h
  ·rename_i a hc;obtain⟨b',e,hb,ho⟩:=yn hL hc;exact⟨b',_,e,hb,ho,uI hL h⟩
  ·cases h
 | .lit u,v,h=>by
  unfold AD at h
  split at h
  ·rename_i cs hc;obtain⟨b',e,hb,ho⟩:=yn hL hc;rw[<-wH (fun a b=>nY) h]at ho;exact⟨b',e,hb,ho⟩
  ·cases h
 | .Aq p i j,v,h=>by
  unfold AD at h
  split at h
  ·rename_i cs hc;obtain⟨b',e,hb,ho⟩:=yn hL hc;rw[<-wH (fun a b=>nY) h]at ho;exact⟨b',e,hb,ho⟩
  ·cases h
structure Ew {α:Type}(E:oD α) where
 jN:(Nat->Nat)->α->α
 uZ:List (Nat×dZ)->α->ae->Bool
 ok:∀{π:Nat->Nat}{L:List (Nat×dZ)} {m:Mem}{B:Nat->Prop},uC π L m B->∀{x:α}{v:ae},uZ L x v=true->E.R B (jN π x) m (bO π 20 v)
theorem Pr {α:Type}{sz:Nat}{c:α->ae->Bool}{Q:α->ae->Prop}{f:α->α}{π:Nat->Nat}(hc:∀x v,c x v=true->Q (f x) (bO π 20 v)){l:List α}{cs:List ae}(h:zK sz c l cs=true):cJ (fun x u=>Q x u/\okV sz u) (l.map f) (cs.map (bO π 20)):=by
 have :=xq (Q:=fun x v=>Q (f x) v) hc h;have key:∀{l:List α}{cs:List ae},cJ (fun x u=>Q (f x) u/\okV sz u) l cs->cJ (fun x u=>Q x u/\okV sz u) (l.map f) cs:=by
  intro l
  induction l with
  |nil=>intro cs h;exact h
  |cons x l ih=>
   rintro cs ⟨v,r,e,q,h⟩;exact⟨v,r,e,q,ih h⟩
 exact key this
def zJ {α:Type}{E:oD α}(c:Ew E)(sz:Nat):Ew (aX E sz) where
 jN π l:=l.map (c.jN π)
 uZ L l v:=match v with
  | .slice none n cap=>Nat.beq n 0&&Nat.beq cap 0&&l.isEmpty
  | .slice (some a) n cap=>Nat.beq a.off 0&&a.spot.isNone&&Nat.beq n l.length&&(Nat.beq cap cH||Nat.beq cap n)&&(match tT L a.block with
   |some (RK,cs)=>Nat.beq RK sz&&zK sz (c.uZ L) l cs
   |none=>false)
  |_=>false
 ok:=by
  intro π L m B hL l v h
  split at h
  ·rename_i n cap;simp only[ag]at h;obtain⟨⟨h1,h2⟩,h3⟩:=h;rw[ay h1,ay h2,List.isEmpty_iff.1 h3];exact aX.nil
  ·rename_i a n cap;simp only[ag]at h;obtain⟨⟨⟨⟨h1,h2⟩,h3⟩,h4⟩,h5⟩:=h
   split at h5
   ·rename_i RK cs hg;rw[ag]at h5;obtain⟨hb,ho⟩:=hL _ _ _ hg;have gT:=Pr (Q:=fun x u=>E.R B x m u) (π:=π) (f:=c.jN π) (fun x v=>c.ok hL (x:=x) (v:=v)) h5.2;obtain⟨b,o,sp⟩:=a;have e1:o=0:=ay h1;have e2:sp=none:=Option.isNone_iff_eq_none.1 h2;subst e1 e2;have e3:=ay h3;subst e3;rw[ay h5.1]at ho;refine⟨cs.map (bO π 20),⟨gT.one.1,.inr ⟨π b,cap,by rw[List.length_map];rfl,ho,?_⟩⟩,fun b' o' n' c' e=>by cases e;exact hb,gT⟩;rw[Bool.or_eq_true]at h4;rw[List.length_map];exact h4.imp ay ay
   ·cases h5
  ·cases h
def tlX:Ew nG where
 jN:=DZ
 uZ:=AD
 ok:=by
  intro π L m B hL x v h;exact uI hL h
def tXo:Ew iH where
 jN π x:=x.map (DZ π)
 uZ L x v:=match x,v with
  |none,.nilIface=>true
  |some x,v=>AD L x v
  |_,_=>false
 ok:=by
  intro π L m B hL x v h
  split at h
  ·rfl
  ·exact uI hL h
  ·cases h
def tCS:Ew JU where
 jN π x:=⟨π x.p,x.on.map (DZ π)⟩
 uZ L x v:=match v with
  | .agg cs=>(match cs.toList with | [p,o]=>Vu [p,o]&&JP 20 (vP x.p 0) p&&tXo.uZ L x.on o|_=>false)
  |_=>false
 ok:=by
  intro π L m B hL x v h
  split at h
  ·rename_i cs
   split at h
   ·rename_i p o gT;simp only[ag]at h;have e:cs=[p,o].toArray:=by rw[<-gT]
    rw[e,lD h.1.1];refine⟨bO π 20 o,?_,tXo.ok hL h.2⟩;rw[<-nY h.1.2];rfl
   ·cases h
  ·cases h
def Ps:Ew lS where
 jN π x:=⟨x.mG.map (tCS.jN π),x.wh.map (DZ π),x.rO.map (DZ π)⟩
 uZ L x v:=match v with
  | .agg cs=>(match cs.toList with | [a,w,b]=>Vu [a,w,b]&&(zJ tCS 2).uZ L x.mG a&&tXo.uZ L x.wh w&&(zJ tlX 1).uZ L x.rO b|_=>false)
  |_=>false
 ok:=by
  intro π L m B hL x v h
  split at h
  ·rename_i cs
   split at h
   ·rename_i a w b gT;simp only[ag]at h;have e:cs=[a,w,b].toArray:=by rw[<-gT]
    rw[e,lD h.1.1.1];exact⟨_,_,_,rfl,(zJ tCS 2).ok hL h.1.1.2,tXo.ok hL h.1.2,(zJ tlX 1).ok hL h.2⟩
   ·cases h
  ·cases h
def tCU:Ew JS where
 jN π x:=⟨x.all,Ps.jN π x.sel⟩
 uZ L x v:=match v with
  | .agg cs=>(match cs.toList with | [z,a,w,b]=>Vu [z,a,w,b]&&Vu [a,w,b]&&JP 20 (.bool x.all) z&&Ps.uZ L x.sel (.agg [a,w,b].toArray)|_=>false)
  |_=>false
 ok:=by
  intro π L m B hL x v h
  split at h
  ·rename_i cs
   split at h
   ·rename_i z a w b gT;simp only[ag]at h;have e:cs=[z,a,w,b].toArray:=by rw[<-gT]
    have q:=Ps.ok hL h.2;rw[lD h.1.1.2]at q;rw[e,lD h.1.1.1];refine⟨_,_,_,?_,q⟩;rw[<-nY h.1.2];rfl
   ·cases h
  ·cases h
def zL:Ew iY where
 jN π x:=⟨Ps.jN π x.first,x.us.map (tCU.jN π)⟩
 uZ L x v:=match v with
  | .agg cs=>(match cs.toList with | [a,w,b,u]=>Vu [a,w,b,u]&&Vu [a,w,b]&&Ps.uZ L x.first (.agg [a,w,b].toArray)&&(zJ tCU 4).uZ L x.us u|_=>false)
  |_=>false
 ok:=by
  intro π L m B hL x v h
  split at h
  ·rename_i cs
   split at h
   ·rename_i a w b u gT;simp only[ag]at h;have e:cs=[a,w,b,u].toArray:=by rw[<-gT]
    have q:=Ps.ok hL h.1.2;rw[lD h.1.1.2]at q;rw[e,lD h.1.1.1];exact⟨_,_,_,_,rfl,q,(zJ tCU 4).ok hL h.2⟩
   ·cases h
  ·cases h
def RJ:Ew yg where
 jN π x:=⟨π x.p,x.self,zL.jN π x.b⟩
 uZ L x v:=match v with
  | .agg cs=>(match cs.toList with | [p,z,a,w,b,u]=>Vu [p,z,a,w,b,u]&&Vu [a,w,b,u]&&JP 20 (vP x.p 0) p&&JP 20 (.bool x.self) z&&zL.uZ L x.b (.agg [a,w,b,u].toArray)|_=>false)
  |_=>false
 ok:=by
  intro π L m B hL x v h
  split at h
  ·rename_i cs
   split at h
   ·rename_i p z a w b u gT;simp only[ag]at h;have e:cs=[p,z,a,w,b,u].toArray:=by rw[<-gT]
    have q:=zL.ok hL h.2;rw[lD h.1.1.1.2]at q;rw[e,lD h.1.1.1.1];refine⟨_,_,_,_,?_,q⟩;rw[<-nY h.1.1.2,<-nY h.1.2];rfl
   ·cases h
  ·cases h
def K8:Ew Fv where
 jN π x:=⟨x.parts.map (RJ.jN π),x.dN,zL.jN π x.b⟩
 uZ L x v:=match v with
  | .agg cs=>(match cs.toList with | [p,c,a,w,b,u]=>Vu [p,c,a,w,b,u]&&Vu [a,w,b,u]&&(zJ RJ 6).uZ L x.parts p&&Z2.uZ L x.dN c&&zL.uZ L x.b (.agg [a,w,b,u].toArray)|_=>false)
  |_=>false
 ok:=by
  intro π L m B hL x v h
  split at h
  ·rename_i cs
   split at h
   ·rename_i p c a w b u gT;simp only[ag]at h;have e:cs=[p,c,a,w,b,u].toArray:=by rw[<-gT]
    have q:=zL.ok hL h.2;rw[lD h.1.1.1.2]at q;rw[e,lD h.1.1.1.1];exact⟨_,_,_,_,_,_,rfl,(zJ RJ 6).ok hL h.1.1.2,Z2.ok hL h.1.2,q⟩
   ·cases h
  ·cases h
end Go.AM
namespace Go.AM
set_option maxRecDepth 1000000
open Go Go.Conc Go.Proofs
theorem GD:∀{l:List Nat},ndB l=true->l.Nodup
 | [],_=>List.nodup_nil
 |x::l,h=>by
  unfold ndB at h;rw[ag]at h;rw[List.nodup_cons];refine⟨fun hm=>?_,GD h.2⟩;have :=aB.1 h.1 x hm;rw[Nat.beq_refl]at this;cases this
structure Vi (r:iT):Prop where
 l:∀x∈r.L,(r.N<=x.1\/∃k,(x.1,k)∈r.K/\x.2.kind=k.kind)/\x.1<r.nx/\x.2.live/\okB x.2=true
 k:kOk r.K r.N=true
 kn:(r.K.map (·.1)).Nodup
 cn:(r.c.map (·.1)).Nodup/\∀x∈r.c,12<=x.1/\x.1<r.N
 nx:r.N<=r.nx
 args:r.args.all (nj 20)=true
 val:nj 20 r.v=true
 ln:(r.L.map (·.1)).Nodup
theorem iT.Fact.at{r:iT}{J:List (Nat×dZ)}(h:r.Fact J):Vi r:=by
 have :=h.uZ;unfold iT.uZ at this;simp only[ag]at this;obtain⟨⟨⟨⟨⟨⟨⟨⟨h1,h2⟩,h3⟩,h4⟩,h5⟩,h6⟩,h7⟩,h8⟩,h9⟩:=this;refine⟨fun x hx=>?_,h2,GD h3,⟨GD h4,fun x hx=>?_⟩,af h6,h7,h8,GD h9⟩
 ·have :=aB.1 h1 x hx;simp only[ag,Bool.or_eq_true]at this;obtain⟨⟨⟨⟨a1,a2⟩,a3⟩,a4⟩,a5⟩:=this;refine⟨a1.imp af fun a1=>?_,af a2,⟨fun y hy e=>?_,af a3⟩,a5⟩
  ·obtain⟨y,hy,e⟩:=List.any_eq_true.1 a1;rw[ag]at e;exact⟨y.2,(ay e.1)▸hy,ay e.2⟩
  ·have :=aB.1 a4 y hy;rw[e]at this;cases this
 ·have :=aB.1 h5 x hx;rw[ag]at this;exact⟨af this.1,af this.2⟩
theorem iT.Fact.ok{r:iT}{J:List (Nat×dZ)}(h:r.Fact J)(hJ0:Oh∈J)(hJK:∀x∈r.K,∃k,(x.1,k)∈J/\((x.1,k)∈r.L\/iI k x.2))(hJL:∀x∈r.L,x∈J)(hb:dY ab r.f=true):HN Ct r:=by
 have c:=h.at;refine Wq h.run ⟨Oh.2,hJ0,?_⟩ hJK (fun x hx=>⟨hJL x hx,c.l x hx⟩) c.k c.kn ⟨aj _,c.nx⟩ hb c.args c.val;rw[ir,bj rfl];exact iI.R7
def VO (d:CD):Prop:=(∃a b,d=iD a b)\/d=Wx\/d=Sp\/d=Ww\/d=Sm
theorem sF {d:CD}(h:VO d)(o:Option Nat):(kq d o).Fact (kq d o).J:=by
 rcases h with⟨a,b,rfl⟩|rfl|rfl|rfl|rfl
 ·exact Xm a b o
 ·exact Sq o
 ·exact So o
 ·exact Sn o
 ·exact Sl o
def Yt (r:iT):Prop:=r=ql\/∃d o,VO d/\r=kq d o
theorem zv:dY ab 38=true/\dY ab 73=true/\dY ab 75=true:=⟨aU,aU,aU⟩
theorem MN {d:CD}(h:VO d):d.f=73/\(∃a b,d=iD a b)\/d.f=75/\(d=Wx\/d=Sp\/d=Ww\/d=Sm):=by
 rcases h with⟨a,b,rfl⟩|h
 ·exact .inl ⟨rfl,a,b,rfl⟩
 ·refine .inr ⟨?_,h⟩;rcases h with rfl|rfl|rfl|rfl<;>rfl
theorem aaD (r:iT)(h:Yt r):HN Ct r:=by
 rcases h with rfl|⟨d,o,hd,rfl⟩
 ·refine pB.ok (.head _) (fun x hx=>?_) (fun x hx=> .tail _ (.tail _ (.tail _ hx))) zv.1;simp only[ql,aL,List.not_mem_nil,or_false]at hx;rcases hx with rfl|rfl|rfl
  ·exact⟨_,.tail _ (.head _),.inr iI.R7⟩
  ·exact⟨_,.tail _ (.tail _ (.tail _ (.head _))),.inl (.head _)⟩
  ·exact⟨_,.tail _ (.tail _ (.head _)),.inr iI.R7⟩
 ·refine(sF hd o).ok (.head _) (fun x hx=>⟨x.2,.tail _ (List.mem_append_left _ hx),.inr iI.R7⟩) (fun x hx=> .tail _ (List.mem_append_right _ hx)) ?_
  show dY ab d.f=true
  rcases MN hd with⟨e,_⟩|⟨e,_⟩<;>rw[e]
  ·exact zv.2.1
  ·exact zv.2.2
def V4:ae->Nat
 | .slice none _ _=>0
 | .slice (some _) n _=>n+1
 | .bool b=>b.toNat
 |_=>0
theorem Nn {π:Nat->Nat}{v:ae}:V4 (bO π 20 v)=V4 v:=by
 cases v with
 |pointer a=>cases a<;>rfl
 |slice a l c=>cases a<;>rfl
 |map a=>cases a<;>rfl
 |_=>rfl
section
variable {r r':iT}{f:Nat}{args:List ae}{m:Mem}{π rR:Nat->Nat}
theorem HE (h:r.at f args m π)(h':r'.at f args m rR)(c:Vi r)(c':Vi r'){l:List Nat}{u u':ae}(n:rq r.mi r.args l=some u)(n':rq r'.mi r'.args l=some u'):bO π 20 u=bO rR 20 u':=I4 h.2.2.2 h'.2.2.2 c.args c'.args h.2.1 h'.2.1 n n'
theorem ac3 (h:r.at f args m π)(h':r'.at f args m rR)(c:Vi r)(c':Vi r'){l:List Nat}{u u':ae}(n:rq r.mi r.args l=some u)(n':rq r'.mi r'.args l=some u'):V4 u=V4 u':=by
 rw[<-Nn (π:=π),HE h h' c c' n n',Nn]
end
theorem Y8 {d:CD}(h:VO d)(o:Option Nat):rq (kq d o).mi (kq d o).args [0,0,1,1]=some (wV o):=by
 rcases h with⟨a,b,rfl⟩|rfl|rfl|rfl|rfl<;>cases o<;>kernel_rfl
theorem S6 (o:Option Nat):rq (kq Sp o).mi (kq Sp o).args [1,5,0]=some (.bool true):=by cases o<;>kernel_rfl
theorem S5 (o:Option Nat):rq (kq Sm o).mi (kq Sm o).args [1,5,0]=some (.bool false):=by cases o<;>kernel_rfl
theorem Y7 (a b:Nat)(o:Option Nat):rq (kq (iD a b) o).mi (kq (iD a b) o).args [1,1,0,0]=some (vN a):=by cases o<;>kernel_rfl
theorem Y6 (a b:Nat)(o:Option Nat):rq (kq (iD a b) o).mi (kq (iD a b) o).args [1,1,0,1]=some (vN b):=by cases o<;>kernel_rfl
theorem Rv {a b:Nat}(h:vN a=vN b):a=b:=by
 unfold vN at h;simp only[ae.iface.injEq,ae.agg.injEq,true_and,Array.mk.injEq,List.cons.injEq,ae.int.injEq]at h;omega
theorem acM {d d':CD}{o o':Option Nat}{f:Nat}{args:List ae}{m:Mem}{π rR:Nat->Nat}(hd:VO d)(yD:VO d')(h:(kq d o).at f args m π)(h':(kq d' o').at f args m rR):d'=d/\o'=o:=by
 have c:=(sF hd o).at;have c':=(sF yD o').at;have tg:=fun{l:List Nat}{u u':ae} (n:rq (kq d o).mi (kq d o).args l=some u) (n':rq (kq d' o').mi (kq d' o').args l=some u')=>ac3 h h' c c' n n'
 have ho:o'=o:=by
  have :=tg (Y8 hd o) (Y8 yD o');cases o<;>cases o'
  ·rfl
  ·cases this
  ·cases this
  ·exact congrArg some (Nat.succ.inj this).symm
 refine⟨?_,ho⟩;have hf:d.f=f:=h.1;have AO:d'.f=f:=h'.1;rcases MN hd with⟨e,a,b,rfl⟩|⟨e,hq⟩<;>rcases MN yD with⟨e',a',b',rfl⟩|⟨e',xU⟩
 ·have h1:vN a=vN a':=HE h h' c c' (Y7 a b o) (Y7 a' b' o');have h2:vN b=vN b':=HE h h' c c' (Y6 a b o) (Y6 a' b' o');rw[Rv h1,Rv h2]
 ·omega
 ·omega
 ·rcases hq with rfl|rfl|rfl|rfl<;>rcases xU with rfl|rfl|rfl|rfl
  ·rfl
  ·exact absurd (tg (l:=[1,5]) rfl rfl) eS
  ·exact absurd (tg (l:=[1,5]) rfl rfl) eS
  ·exact absurd (tg (l:=[1,5]) rfl rfl) eS
  ·exact absurd (tg (l:=[1,5]) rfl rfl) eS
  ·rfl
  ·exact absurd (tg (l:=[1,2]) rfl rfl) eS
  ·exact absurd (tg (S6 o) (S5 o')) eS
  ·exact absurd (tg (l:=[1,5]) rfl rfl) eS
  ·exact absurd (tg (l:=[1,2]) rfl rfl) eS
  ·rfl
  ·exact absurd (tg (l:=[1,2]) rfl rfl) eS
  ·exact absurd (tg (l:=[1,5]) rfl rfl) eS
  ·exact absurd (tg (S5 o) (S6 o')) eS
  ·exact absurd (tg (l:=[1,2]) rfl rfl) eS
  ·rfl
theorem Wm {r r':iT}{f:Nat}{args:List ae}{m:Mem}{π rR:Nat->Nat}(hr:Yt r)(HT:Yt r')(h:r.at f args m π)(h':r'.at f args m rR):r'=r/\rR=π:=by
 have e:r'=r:=by
  have hf:=h.1;have AO:=h'.1;rcases hr with rfl|⟨d,o,hd,rfl⟩<;>rcases HT with rfl|⟨d',o',yD,rfl⟩
  ·rfl
  ·have AO:d'.f=f:=AO;have hf:38=f:=hf;rcases MN yD with⟨e,_⟩|⟨e,_⟩<;>omega
  ·have hf:d.f=f:=hf;have AO:38=f:=AO;rcases MN hd with⟨e,_⟩|⟨e,_⟩<;>omega
  ·obtain⟨rfl,rfl⟩:=acM hd yD h h';rfl
 subst e;refine⟨rfl,?_⟩;rcases hr with rfl|⟨d,o,hd,rfl⟩
 ·have c:=pB.at;exact E1 h h' rfl rfl c.args c.args pB.cert pB.cert c.cn
 ·have c:=(sF hd o).at;exact E1 h h' rfl rfl c.args c.args (sF hd o).cert (sF hd o).cert c.cn
theorem Nm {r:iT}{f:Nat}{args:List ae}{m:Mem}{π:Nat->Nat}(hr:Yt r)(h:r.at f args m π):Vs Yt f args m=some (bO π 20 r.v,r.out m π):=aas hr h fun r' rR h1 h2=>by
 obtain⟨rfl,rfl⟩:=Wm hr h1 h h2;exact⟨rfl,rfl,rfl,rfl,rfl⟩
section
variable {m mi:Mem}{π:Nat->Nat}{N nx:Nat}{L:List (Nat×dZ)}
theorem Xh (tX:∀b,N<=b->π b=m.next+(b-N))(hL:∀x∈L,N<=x.1):Kp m (iW π mi m L nx) fu:=by
 refine⟨Nat.le_add_right _ _,rfl,rfl,rfl,rfl,rfl,rfl,rfl,rfl,fun b hb _=>?_⟩;rcases fX (m:=m) (L:=L.map fun x=>(π x.1,mH π x.2)) (nx:=m.next+(nx-mi.next)) b with⟨e,_⟩|⟨k,hm,_⟩
 ·exact e
 ·obtain⟨x,hx,ex⟩:=List.mem_map.1 hm;cases ex;rw[tX _ (hL x hx)]at hb;omega
theorem P5 (cm:Calm m)(hN:mi.next=N)(tX:∀b,N<=b->π b=m.next+(b-N))(hL:∀x∈L,N<=x.1/\x.1<nx)(hn:(L.map (·.1)).Nodup):uC π L (iW π mi m L nx) (jD m (iW π mi m L nx)):=by
 intro b sz cs hg;obtain⟨k,hx,hk,rfl,hc⟩:=Cx hg;obtain⟨h1,h2⟩:=hL _ hx;have hs:=tX b h1;have HU:(iW π mi m L nx).next=m.next+(nx-N):=by rw[<-hN];rfl
 have XA:((L.map fun x=>(π x.1,mH π x.2)).map (·.1)).Nodup:=by
  rw[List.map_map];have :(L.map ((fun x=>x.1)∘fun x=>(π x.1,mH π x.2)))=(L.map (·.1)).map π:=by rw[List.map_map];rfl
  rw[this,List.Nodup,List.pairwise_map];refine List.Pairwise.imp_of_mem ?_ hn;intro a c ha hc dQ e;obtain⟨x,hx,rfl⟩:=List.mem_map.1 ha;obtain⟨y,hy,rfl⟩:=List.mem_map.1 hc;have h3:=(hL x hx).1;have h4:=(hL y hy).1;rw[tX _ h3,tX _ h4]at e;omega
 have e:(iW π mi m L nx).blk (π b)={mH π k with bK:=m.tick}:=rz (x:=(π b,mH π k)) XA (List.mem_map.2 ⟨(b,k),hx,rfl⟩);have cB:π b<(iW π mi m L nx).next:=by rw[HU,hs];omega
 refine⟨⟨ai,cB⟩,cB,by rw[e];exact hk,by rw[e];rfl,?_,?_⟩
 ·rw[e]
  show k.cs.map (Sb π)=_
  rw[hc,List.map_map,List.map_map];rfl
 ·show aJ m.bh _=false
  rw[cm.bh];rfl
end
def CD.ok(d:CD):Bool:=aOk 12 d.A&&aIn d.A&&TO (fun b=>Nat.blt b 12||d.A.any fun y=>Nat.beq y.1 b) 20 d.sv
theorem ah1 {d:CD}(h:VO d):d.ok=true/\d.c.map (·.1)=d.A.map (·.1)/\∀x∈d.L,1100<=x.1/\x.1<d.nx:=by
 have key:∀{d:CD},d.ok=true->d.c.map (·.1)=d.A.map (·.1)->(d.L.all fun x=>Nat.ble 1100 x.1&&Nat.blt x.1 d.nx)=true->d.ok=true/\d.c.map (·.1)=d.A.map (·.1)/\∀x∈d.L,1100<=x.1/\x.1<d.nx:=fun{d} h1 h2 h3=>⟨h1,h2,fun x hx=>by
  have :=aB.1 h3 x hx;rw[ag]at this;exact⟨af this.1,af this.2⟩⟩
 rcases h with⟨a,b,rfl⟩|rfl|rfl|rfl|rfl
 ·exact key aU rfl aU
 ·exact key aU rfl aU
 ·exact key aU rfl aU
 ·exact key aU rfl aU
 ·exact key aU rfl aU
theorem ahU {d:CD}{m:Mem}{lo mp pe pg cg:Nat}{rl:ae}(hd:VO d)(cm:Calm m)(hG:Gl m)(X:GX m mp pe pg cg rl)(jd:HQ m lo mp pg cg)(hL:uD lo d.A m):
  ∃π m',Vs Yt d.f [.map (some mp),bO (sh lo) 20 d.sv] m=some (.tuple #[bO π 20 d.qv,vI 0],m')/\Kp m m' fu/\uC π d.L m' (jD m m')/\π 1002=pg:=by
 obtain⟨h1,h2,h3⟩:=ah1 hd;unfold CD.ok at h1;simp only[ag]at h1;obtain⟨⟨hA,hI⟩,hv⟩:=h1;obtain⟨q1,q2⟩:=Dz hA;obtain⟨π,tX⟩:∃π,π=DH 1100 m.next (lA lo d.A mp pe pg cg rl):=⟨_,rfl⟩;have p0:π 1000=mp:=by rw[tX,BZ hA eS eS];rfl
 have p2:π 1002=pg:=by rw[tX,BZ hA eS eS];rfl
 have hE:=alm hA hI X jd hL;have c:=(sF hd (oW rl)).at;have ml:nI ab.globals.size (kq d (oW rl)).mi m π:=by
  rw[tX];refine agO cm hG c.k (show 12<=1100 by decide) (fun x hx=>?_) hE;rcases List.mem_append.1 hx with hx|hx
  ·obtain⟨y,hy,rfl⟩:=List.mem_map.1 hx;obtain⟨_,_,_,cs,_,h5⟩:=q1 y hy;exact(hL _ _ _ h5).2.lt
  ·rcases List.mem_append.1 hx with hx|hx
   ·simp only[aL,List.not_mem_nil,or_false]at hx;rcases hx with rfl|rfl|rfl|rfl
    ·exact X.map.lt
    ·exact X.pe
    ·exact X.g.lt
    ·exact X.c.lt
   ·rcases X.w with rfl|⟨rb,n,rfl,hrb⟩
    ·cases hx
    ·have hx:x∈[(1006,rb)]:=hx;rw[List.mem_singleton.1 hx];exact hrb
 have Qk:(kq d (oW rl)).at d.f [.map (some mp),bO (sh lo) 20 d.sv] m π:=by
  refine⟨rfl,?_,⟨lA lo d.A mp pe pg cg rl,?_,tX⟩,ml⟩
  ·show _=[ae.map (some (π 1000)),bO π 20 d.sv]
   rw[p0,NF (p:=fun b=>Nat.blt b 12||d.A.any fun y=>Nat.beq y.1 b) (π:=π) (rR:=sh lo) (fun b hb=>?_) hv];rw[Bool.or_eq_true]at hb;rcases hb with hb|hb
   ·have hb:b<12:=af hb;rw[tX];unfold sh DH;rw[bj hb,bj hb]
   ·obtain⟨y,hy,e⟩:=List.any_eq_true.1 hb;rw[<-ay e,tX,YO hA hy]
  ·show(d.A.map (fun x:Nat×dZ=>(x.1,sh lo x.1))++([(1000,mp),(1001,pe),(1002,pg),(1004,cg)]++lW rl)).map (fun x:Nat×Nat=>x.1)=(d.c++([(1000,[0,0]),(1001,[0,0,0]),(1002,[0,0,1]),(1004,[0,0,1,0])]++cW (oW rl))).map (fun x:Nat×List Nat=>x.1)
   simp only[List.map_append];rw[h2,List.map_map];refine congrArg (_++·) ?_;rcases X.w with rfl|⟨rb,n,rfl,hrb⟩<;>rfl
 have ht:=Nm (.inr ⟨d,_,hd,rfl⟩) Qk;have hdq:nj 19 d.qv=true:=by
  have h:(nj 19 d.qv&&(nj 19 (vI 0)&&true))=true:=c.val;rw[ag]at h;exact h.1
 rw[show bO π 20 (kq d (oW rl)).v= .tuple #[bO π 20 d.qv,vI 0] by
  show ae.tuple #[bO π 19 d.qv,vI 0]=_
  rw[uL hdq]]at ht
 have hg:∀b,1100<=b->π b=m.next+(b-1100):=fun b hb=>by rw[tX];exact Wz hb
 refine⟨π,_,ht,?_,?_,p2⟩
 ·exact Xh hg fun x hx=>(h3 x hx).1
 ·exact P5 cm rfl hg h3 c.ln
end Go.AM
namespace Go.AM
set_option maxRecDepth 1000000
open Go Go.Conc Go.Proofs
theorem p39 (db mp rn rc b3 b4 p vn vc nn nc on oc sn sc:Nat)(ra va na oa sa:Option Addr)(nm:ByteArray):Path 39 [vP db 0,.agg #[jX nm,.slice ra rn rc]]
 [mB [some (jX nm),some (.slice ra rn rc)] b3,
  mB [some fq,some fq,some fq,some (vI 0)] b4,
  .mem (aD db 2) (.map (some mp)),
  uF 2 b3 (.agg #[jX nm,.slice ra rn rc]),
  gp,
  .call 73 [.map (some mp),.agg #[jX nm,.slice ra rn rc]] (.tuple #[.slice va vn vc,vI 0]),
  dx,
  .call 74 [.slice va vn vc] (.tuple #[.slice na nn nc,vI 0]),
  dx,
  .mem (aD db 2) (.map (some mp)),
  .mem (aD b3 0) (jX nm),
  .mem (uR ab 67 (.map (some mp)) (jX nm) false) (vP p 0),
  .mem (aD p 1) (.slice oa on oc),
  aP (nV (bL on nn) 1000) false,
  .mem (aD p 1) (.slice oa on oc),
  .mem (cZ ab #[29,29] (.slice oa on oc) (.slice na nn nc)) (.slice sa sn sc),
  .mem (eH p 1 (.slice sa sn sc)) undef,
  uE b4 0 [fq,fq,fq,vI nn],
  Yx 31 b4 (.agg #[fq,fq,fq,vI nn])]
 (.tuple #[.agg #[fq,fq,fq,vI nn],vI 0]):=lV
def Ck (K:fZ)(d:CD):Prop:=∀m lo mp pe pg cg rl,Calm m->Gl m->GX m mp pe pg cg rl->HQ m lo mp pg cg->uD lo d.A m->∃π m',Ev K d.f [.map (some mp),bO (sh lo) 20 d.sv] m (.tuple #[bO π 20 d.qv,vI 0]) m'/\Kp m m' fu/\uC π d.L m' (jD m m')/\π 1002=pg
structure FM (W:Nat->Prop)(m:Mem)(mp pe pg cg:Nat)(rows:List (List V)):Prop where
 x:∃rl,GX m mp pe pg cg rl/\∃BO BE:Nat->Prop,mz cR 1 BO BE m rows rl/\(aX cR 1).R (fun y=>BO y\/BE y) rows m rl/\∀b,BO b\/BE b->W b/\b≠mp/\b≠pg/\b≠cg
 w:W mp/\W pg/\W cg
 lt:∀b,W b->b<m.next
theorem FM.ext{W S:Nat->Prop}{m m':Mem}{mp pe pg cg:Nat}{rows:List (List V)}(h:FM W m mp pe pg cg rows)(k:Kp m m' S)(hs:∀b,W b->¬S b):FM W m' mp pe pg cg rows:=by
 obtain⟨rl,X,BO,BE,L,q,hB⟩:=h.x;exact⟨⟨rl,X.ext k ⟨hs _ h.w.1,hs _ h.w.2.1,hs _ h.w.2.2⟩,BO,BE,L.ext k fun b hb=>hs b (hB b hb).1,(aX cR 1).ext q k fun b hb=>hs b (hB b hb).1,hB⟩,h.w,fun b hb=>aW (h.lt b hb) k.next⟩
def EJ (pg:Nat)(rows:List (List V))(p:Nat):Option (List (List V)):=if p=pg then some rows else none
theorem FM.at{W:Nat->Prop}{m:Mem}{mp pe pg cg:Nat}{rows:List (List V)}(h:FM W m mp pe pg cg rows):ju W (EJ pg rows) m:=fun p NB hp=>by
 unfold EJ at hp
 split at hp
 ·rename_i e;cases hp;subst e;obtain⟨rl,X,BO,BE,_,q,hB⟩:=h.x;exact⟨h.w.2.1,_,rl,X.g,(aX cR 1).mono q fun b hb=>(hB b hb).1⟩
 ·cases hp
structure QD (d:CD)(q:Nat->pR):Prop where
 f:d.f=75
 uZ:K8.uZ d.L ⟨[],sA,q 1002⟩ d.qv=true
 jN:∀π,zL.jN π (q 1002)=q (π 1002)
structure QOk (Tb:Nat->Option (List (List V)))(q:pR):Prop where
 sel:Aw Tb (Rp q.first)
 uni:H7 Tb (sL q).2 (iL Tb (Rp q.first))
 ul:q.us.length<90000
 rl:(oC Tb (sL q)).length<65536
 xl:∀x∈oC Tb (sL q),x.length<99999
section
variable {K:fZ}{m:Mem}{W:Nat->Prop}{db mp pe pg cg lo:Nat}{rows:List (List V)}
theorem alB (hK:FL K){d:CD}{q:Nat->pR}{rc:Bool}{x0 x1 xi xs xw xu:ae}{rest:List ae}(OI:Ck K d)(hd:QD d q)(cm:Calm m)(hG:Gl m)(rN:Obj m db 0 (x0::x1:: .map (some mp)::rest))(D:FM W m mp pe pg cg rows)(jd:HQ m lo mp pg cg)(hL:uD lo d.A m)(hl:lo<=m.next)(xT:bO (sh lo) 20 d.sv= .agg #[.bool rc,.slice none 0 0,xi,xs,xw,xu])(hq:QOk (EJ pg rows) (q pg)):
  ∃v m',Ev K 40 [vP db 0,.agg #[.bool rc,.slice none 0 0,xi,xs,xw,xu]] m (.tuple #[v,vI 0]) m'/\Kp m m' fu/\qe (jD m m') sA (py (oC (EJ pg rows) (sL (q pg)))) 0 m' v:=by
 have g:=cm.gd;have Em:=rN.lt;obtain⟨b1,nN⟩:∃b,b=m.next:=⟨_,rfl⟩;obtain⟨m1,e1,o1,k1,n1,_⟩:=cA g [.bool rc,.slice none 0 0,xi,xs,xw,xu];obtain⟨b2,nU⟩:∃b,b=m1.next:=⟨_,rfl⟩;obtain⟨m2,e2,o2,k2,n2,_⟩:=cA (g.ext k1) [.slice none 0 0,.slice none 0 0,.slice none 0 0,vI 0];have pS:=k1.aZ k2;have g2:=g.ext pS;rw[<-nN]at e1 o1;rw[<-nU]at e2 o2;have l1:aD db 2 m2=some (.map (some mp),m2):=aS (rN.cf pS) rfl;have l2:eU 6 b1 0 m2=some (.agg #[.bool rc,.slice none 0 0,xi,xs,xw,xu],m2):=dX (vs:=[.bool rc,.slice none 0 0,xi,xs,xw,xu]) (o1.cf k2) rfl (af rfl);obtain⟨b3,hb3⟩:∃b,b=m2.next:=⟨_,rfl⟩;obtain⟨m3,e3,o3,k3,n3,_⟩:=cA g2 [.slice none 0 0,.slice none 0 0,.slice none 0 0,.nilIface,.slice none 0 0,.slice none 0 0];rw[<-hb3]at e3 o3;have qN:=pS.aZ k3;have g3:=g.ext qN;have D3:=D.ext qN fun _ _ h=>h
 obtain⟨rl,X3,_⟩:=D3.x;obtain⟨π,m4,e4,k4,La,tX⟩:=OI m3 lo mp pe pg cg rl (cm.ext qN) (hG.cf qN) X3 (jd.ext qN) (hL.ext qN fun _ h=>h.elim);have q4:=K8.ok La hd.uZ;obtain⟨v,hv⟩:∃v,v=bO π 20 d.qv:=⟨_,rfl⟩;rw[<-hv]at e4 q4;rw[xT,hd.f]at e4;have q4:Fv.R (jD m3 m4) ⟨[],sA,q pg⟩ m4 v:=by
  have e:K8.jN π ⟨[],sA,q 1002⟩=⟨[],sA,q pg⟩:=by
   show(⟨[],sA,zL.jN π (q 1002)⟩:Vn)=_
   rw[hd.jN,tX]
  rw[e]at q4;exact q4
 obtain⟨p,JY,a,w,y,u,rfl,qp,qc,qb⟩:=q4;obtain⟨pa',pc',hp⟩:=aX.form qp;have hp:p= .slice pa' 0 pc':=hp;subst hp;have qb4:=qb;obtain⟨_,_,_,_,he,z1,z2,z3,z4⟩:=iY.four qb4;cases he;have E7:=qN.aZ k4;have HZ:=cm.ext E7;have n4:=k4.next;have OI:fS (vI ((m3.blk b3).bK:Int)) (vP b3 0) (wF (vP b3 0)) m4=some (undef,m4):=ahV (b:=b3) g E7 ai rfl (aaw k4 o3.lt);obtain⟨ca,cc,akV⟩:=aX.form qc;obtain⟨m5,e5,o5,k5⟩:=mF (o:=0) [.slice pa' 0 pc',JY,a,w,y,u] (o3.cf k4) ((g.own E7 ai).may _ _) (af rfl) (by rw[akV];simp[z1,z2,z3,z4];exact⟨rfl,rfl⟩);have n5:=k5.next;have Zf:Kp m m5 fu:=E7.new k5 (N:=m.next) (aj _) fun b hb=>by omega
 have cm5:=cm.ext Zf;have l3:eU 6 b3 0 m5=some (.agg #[.slice pa' 0 pc',JY,a,w,y,u],m5):=dX (vs:=[.slice pa' 0 pc',JY,a,w,y,u]) o5 rfl (af rfl);have nb3:∀y,jD m3 m4 y->¬y=b3:=fun y hy e=>by have :=hy.1;omega
 have o25:=(((o2.cf k3).cf k4).ext k5 (show¬b2=b3 by omega));have D5:=D.ext Zf fun _ _ h=>h
 obtain⟨v6,m6,e6,k6,q6⟩:=alA (K:=K) (B:=jD m3 m4) (pa:=pa') (pc:=pc') hK cm5 (qz.ext qc k5 nb3) (Pj (iY.ext qb k5 nb3)) D5.at (fun b hb=>hb.elim (fun hb=>by have :=hb.2;omega) (D5.lt b)) (af rfl) hq.sel hq.uni (by show(((q pg).us.map _).length)<_;rw[List.length_map];exact hq.ul) hq.rl hq.xl;obtain⟨nv,kv,rv,rfl,q1,q2,BO,BE,q3,q4⟩:=q6;have hy:([nv,kv,rv,vI 0].all (·.oneCell'))=true:=by
  obtain⟨_,_,e⟩:=q3.form;subst e;simp[(aX.lj q1).2,(aX.lj q2).2];exact⟨rfl,rfl⟩
 have n6:=k6.next;have Ab:=Zf.aZ k6;obtain⟨m7,e7,o7,k7⟩:=mF (o:=0) [nv,kv,rv,vI 0] (o25.cf k6) ((g.own Ab ai).may _ _) (af rfl) hy;have n7:=k7.next;have eR:oh ab 31 (vP b2 0) m7=some (.agg #[nv,kv,rv,vI 0],m7):=lO o7 rfl qD.1 qD.2;exact⟨_,m7,aY (p40 db mp rc 0 0 none xi xs xw xu (.slice pa' 0 pc') JY a w y u nv kv rv (vI 0) 0 b1 b2 b3 _)
  (.mem e1<| .mem e2<| .mem l1<| .mem l2<| .mem e3<| .mem (km _ _)<| .mem (aK g3)<| .call e4<| .mem OI<| .mem (aK HZ.gd)<| .mem e5<| .cond rfl<| .mem l3<| .call e6<| .mem e7<| .mem eR .nil),Ab.new k7 (N:=m.next) (aj _) fun b hb=>by omega,
  qe.mono (qe.ext ⟨nv,kv,rv,rfl,q1,q2,BO,BE,q3,q4⟩ k7 fun b hb h=>by have :=hb.1;omega) fun b hb=>⟨by have :=hb.1;omega,by have :=hb.2;omega⟩⟩
theorem abR {π:Nat->Nat}{a b:Nat}{B:Nat->Prop}(h:uC π (iD a b).L m B):(aX (aX nG 1) 1).R B [[.lit (tR a),.lit (tR b)]] m (bO π 20 (iD a b).qv):=by
 obtain⟨ha,oa⟩:=h 1104 0 [vI 1,vI a,.string .empty,.bool false] rfl;obtain⟨hb,ob⟩:=h 1108 0 [vI 1,vI b,.string .empty,.bool false] rfl;obtain⟨hr,hor⟩:=h 1110 1 [.iface 317 (vP 1104 0),.iface 317 (vP 1108 0)] rfl;obtain⟨hs,os⟩:=h 1112 1 [vL 1110 0 2 cH] rfl;have ok1:∀v:ae,v.cells.toList=[v]->v.oneCell'=true->okV 1 v:=fun v h1 h2=>⟨by rw[<-Array.length_toList,h1];rfl,fun y hy=>by rw[h1]at hy;rw[List.mem_singleton.1 hy];exact h2⟩
 have x1:XR B (.lit (tR a)) m (.iface 317 (vP (π 1104) 0)):=⟨_,rfl,ha,oa⟩;have x2:XR B (.lit (tR b)) m (.iface 317 (vP (π 1108) 0)):=⟨_,rfl,hb,ob⟩;have ml:(aX nG 1).R B [.lit (tR a),.lit (tR b)] m (vL (π 1110) 0 2 cH):=⟨_,⟨rfl,.inr ⟨_,_,rfl,hor,.inl rfl⟩⟩,fun b o n c e=>by cases e;exact hr,⟨_,_,rfl,⟨x1,ok1 _ rfl rfl⟩,_,_,rfl,⟨x2,ok1 _ rfl rfl⟩,rfl⟩⟩;exact⟨_,⟨rfl,.inr ⟨_,_,rfl,os,.inl rfl⟩⟩,fun b o n c e=>by cases e;exact hs,⟨_,_,rfl,⟨ml,ok1 _ rfl rfl⟩,rfl⟩⟩
theorem TL (a b:Nat):[[X.lit (tR a),.lit (tR b)]].map TM=[eA (a,b)]:=by
 simp only[List.map_cons,List.map_nil,agM];rfl
theorem alC (hK:FL K){a b:Nat}{x0 x1:ae}{rest:List ae}(OI:Ck K (iD a b))(cm:Calm m)(hG:Gl m)(rN:Obj m db 0 (x0::x1:: .map (some mp)::rest))(D:FM W m mp pe pg cg rows)(Em:¬W db)(jd:HQ m lo mp pg cg)(hL:uD lo (iD a b).A m)(XB:rows.length<1000):
  ∃m' W',Ev K 39 [vP db 0,.agg #[.string bG,vL (sh lo 137) 0 1 1]] m (.tuple #[.agg #[.slice none 0 0,.slice none 0 0,.slice none 0 0,vI 1],vI 0]) m'/\Kp m m' W/\FM W' m' mp pe pg cg (rows++[eA (a,b)])/\∀b,W' b->W b\/jD m m' b:=by
 have g:=cm.gd;have VD:=rN.lt;obtain⟨b3,hb3⟩:∃b,b=m.next:=⟨_,rfl⟩;obtain⟨m1,e1,o1,k1,n1,_⟩:=cA g [.string bG,vL (sh lo 137) 0 1 1];rw[<-hb3]at e1 o1;have g1:=g.ext k1;obtain⟨b4,hb4⟩:∃b,b=m1.next:=⟨_,rfl⟩;obtain⟨m2,e2,o2,k2,n2,_⟩:=cA g1 [.slice none 0 0,.slice none 0 0,.slice none 0 0,vI 0];rw[<-hb4]at e2 o2;have pS:=k1.aZ k2;have g2:=g.ext pS;have l1:aD db 2 m2=some (.map (some mp),m2):=aS (rN.cf pS) rfl;have l2:eU 2 b3 0 m2=some (.agg #[.string bG,vL (sh lo 137) 0 1 1],m2):=dX (vs:=[.string bG,vL (sh lo 137) 0 1 1]) (o1.cf k2) rfl (af rfl);have D2:=D.ext pS fun _ _ h=>h
 obtain⟨_,X2,_⟩:=D2.x;obtain⟨π,m3,e3,k3,La,_⟩:=OI m2 lo mp pe pg cg _ (cm.ext pS) (hG.cf pS) X2 (jd.ext pS) (hL.ext pS fun _ h=>h.elim);have e3:Ev K 73 [.map (some mp),.agg #[.string bG,vL (sh lo 137) 0 1 1]] m2 (.tuple #[vL (π 1112) 0 1 cH,vI 0]) m3:=e3;have q3:(aX (aX nG 1) 1).R (jD m2 m3) [[.lit (tR a),.lit (tR b)]] m3 (vL (π 1112) 0 1 cH):=abR La;have qN:=pS.aZ k3;have w8:=cm.ext qN;obtain⟨v4,m4,e4,k4,q4⟩:=c74 (K:=K) hK w8 q3 (fun b hb=>hb.2) (fun xs ss=>abP (a:=a) (b:=b) (List.mem_singleton.1 ss)) (af rfl);rw[TL]at q4;obtain⟨na,nc,rfl⟩:=aX.form q4;have E7:=qN.aZ k4;have HZ:=cm.ext E7;have n3:=k3.next;have n4:=k4.next;have D4:=D.ext E7 fun _ _ h=>h
 obtain⟨rl,X4,BO,BE,L4,qr,hB⟩:=D4.x;have l3:aD db 2 m4=some (.map (some mp),m4):=aS (rN.cf E7) rfl;have l4:aD b3 0 m4=some (.string bG,m4):=aS (((o1.cf k2).cf k3).cf k4) rfl;have hM:aad m4 mp [(bE,pe),(bG,pg)]:=⟨X4.map.lt,X4.map.kind,by rw[X4.map.es];rfl,X4.map.Bu,X4.map.home⟩;have l5:uR ab 67 (.map (some mp)) (.string bG) false m4=some (vP pg 0,m4):=WZ (.inr ⟨mp,rfl,hM⟩:aiq m4 (.map (some mp)) _) bG;obtain⟨oa,oc,rfl⟩:=L4.form;have l6:aD pg 1 m4=some (.slice oa rows.length oc,m4):=aS X4.g rfl;have xW:∀b,W b->b<m.next:=D.lt;obtain⟨s5,m5,e5,k5,L5,q5⟩:=L4.cat (t:=29) HZ.gd rfl q4 (fun b hb h=>by have :=xW b (hB b (.inl hb)).1;have :=h.1;omega) (fun b hb=>by have :=xW b (hB b (.inr hb)).1;omega) (fun b h=>h.2) (by show rows.length+1<2^30;omega);have hn5:(∃rb n,s5=vL rb 0 n cH/\rb<m5.next)/\m4.next<m5.next:=by
  rcases id L5 with⟨h,_⟩|⟨rb,cs,rest,e,hb,_,ob,_⟩
  ·simp at h
  ·have hb:rb=m4.next:=hb.1;exact⟨⟨rb,_,e,ob.lt⟩,by have :=ob.lt;omega⟩
 obtain⟨sa,sc,rfl⟩:=L5.form;have n5:=k5.next;have htl:=xW _ D.w.2.1;obtain⟨m6,e6,o6,k6⟩:=jF (o:=1) (.slice sa (rows++[eA (a,b)]).length sc) (X4.g.ext k5 fun h=>(hB _ (.inl h)).2.2.1 rfl) ((HZ.own X4.base.1.2.1|>.ext k5).may _ _) (af rfl) rfl;have n6:=k6.next;have k46:Kp m4 m6 W:=(k5.mono fun b _ h=>(hB b (.inl h)).1).trans (k6.mono fun b _ h=>by rw[h];exact D.w.2.1) fun _ _ h=>h
 have Ab:Kp m m6 W:=E7.vl.trans k46 fun _ _ h=>h
 have b4W:¬W b4:=fun h=>by have :=xW _ h;omega
 obtain⟨m7,e7,o7,k7⟩:=mF (o:=0) [.slice none 0 0,.slice none 0 0,.slice none 0 0,vI 1] (((o2.cf k3).cf k4).ext k46 b4W) ((g.own Ab ai).may _ _) (af rfl) rfl;have n7:=k7.next;have k07:Kp m m7 W:=Ab.new k7 (N:=m.next) (aj _) fun b hb=>by omega
 have eR:oh ab 31 (vP b4 0) m7=some (.agg #[.slice none 0 0,.slice none 0 0,.slice none 0 0,vI 1],m7):=lO o7 rfl qD.1 qD.2;have c9:(.bool (nV (bL (rows.length:Int) ((1:Nat):Int)) 1000):ae)= .bool false:=by
  rw[lZ ai];exact dF (qP (j:=1000)) ai
 have ev:Ev K 39 _ m _ m7:=aY (p39 db mp 1 1 b3 b4 pg 1 cH 1 nc rows.length oc _ sc (some ⟨sh lo 137,0,none⟩) (some ⟨π 1112,0,none⟩) na oa sa bG) (.mem e1<| .mem e2<| .mem l1<| .mem l2<| .mem (aK g2)<| .call e3<| .cond rfl<| .call e4<| .cond rfl<| .mem l3<| .mem l4<| .mem l5<| .mem l6<| .cond c9<| .mem l6<| .mem e5<| .mem e6<| .mem e7<| .mem eR .nil);have k57:Kp m5 m7 (fun y=>y=pg\/y=b4):=(k6.mono fun _ _ h=> .inl h).trans (k7.mono fun _ _ h=> .inr h) fun _ _ h=>h
 have k47:Kp m4 m7 (fun y=>BO y\/y=pg\/y=b4):=(k5.mono fun _ _ h=> .inl h).trans (k57.mono fun _ _ h=> .inr h) fun _ _ h=>h
 have no:∀{y},W y->y≠pg->¬BO y->¬(BO y\/y=pg\/y=b4):=fun{y} h1 h2 h3 h=>by
  rcases h with h|h|h
  ·exact h3 h
  ·exact h2 h
  ·have :=xW _ h1;omega
 have oc7:=X4.c.ext k47 (no D.w.2.2 (fun e=>by
  have h1:=X4.g.sz;have h2:=X4.c.sz;rw[e,h1]at h2;cases h2) fun h=>(hB _ (.inl h)).2.2.2 rfl)
 have om7:=X4.map.ext k47 (no D.w.1 (fun e=>by
  have h1:=X4.g.kind;have h2:=X4.map.kind;rw[e,h1]at h2;cases h2) fun h=>(hB _ (.inl h)).2.1 rfl)
 have oN:∀{y},BE y\/jD m3 m4 y\/jD m4 m5 y->y<m7.next/\(W y\/jD m m7 y)/\y≠mp/\y≠pg/\y≠cg:=fun{y} h=>by
  rcases h with h|h|h
  ·have h1:=hB _ (.inr h);have :=xW _ h1.1;exact⟨ai,.inl h1.1,h1.2⟩
  ·have h1:=h.1;have h2:=h.2;have :=xW _ D.w.1;have :=xW _ D.w.2.1;have :=xW _ D.w.2.2;exact⟨ai,.inr ⟨ai,ai⟩,ai,ai,ai⟩
  ·have h1:=h.1;have h2:=h.2;have :=xW _ D.w.1;have :=xW _ D.w.2.1;have :=xW _ D.w.2.2;exact⟨ai,.inr ⟨ai,ai⟩,ai,ai,ai⟩
 have hs5:∀y,y=m4.next\/BE y\/jD m3 m4 y->¬(y=pg\/y=b4):=fun y h e=>by
  have h':BE y\/jD m3 m4 y\/jD m4 m5 y:=h.elim (fun h=> .inr (.inr ⟨ai,ai⟩)) fun h=>h.elim .inl fun h=> .inr (.inl h)
  rcases e with e|e
  ·exact(oN h').2.2.2.1 e
  ·rcases h' with h|h|h
   ·have :=xW _ (hB _ (.inr h)).1;omega
   ·have :=h.1;omega
   ·have :=h.1;omega
 obtain⟨⟨rb,n,es,hrb⟩,amx⟩:=hn5;refine⟨m7,fun y=>W y\/jD m m7 y,ev,k07,⟨⟨_,⟨om7,o6.ext k7 ai,oc7,.inr ⟨rb,n,es,ai⟩,by have :=X4.pe;omega,by rw[k47.base,k47.home];exact X4.base⟩,_,_,L5.ext k57 hs5,(aX cR 1).ext q5 k57 hs5,fun y hy=>?_⟩,⟨.inl D.w.1,.inl D.w.2.1,.inl D.w.2.2⟩,fun y hy=>hy.elim (fun h=>by have :=xW y h;omega) fun h=>h.2⟩,fun y hy=>hy⟩;exact(oN (hy.elim (fun h=> .inr (.inr ⟨ai,ai⟩)) fun h=>h.elim .inl fun h=> .inr (.inl h))).2
end
end Go.AM
