/-
  What the claim stands on, part 8.
-/
import Derived.Test.YtgfppohfgconeaaGreatDoorK7
set_option linter.unusedVariables false
set_option linter.unusedSimpArgs false
open Go.Proofs.Tryz renaming prog → ab
open Go renaming Value → ae, IntKind → cf
open Nat renaming le_of_ble_eq_true → af, le_refl → ai, lt_of_lt_of_le → aW, le_trans → cp
open Bool renaming and_eq_true → ag
open List renaming all_eq_true → aB, mem_cons → aI
open Option renaming bind_some → a9, map_some → cN
namespace Go.AM
set_option maxRecDepth 1000000
open Go Go.Conc Go.Proofs
def aaO:nU (List ByteArray):=aT (jq Bz) 1
def aaP:nU (List Int):=aT (jq vI) 1
theorem acA (s:ByteArray):okV 1 (Bz s):=⟨rfl,by simp[Bz,ae.cells,ae.oneCell']⟩
theorem acC (k:Int):okV 1 (vI k):=⟨rfl,by simp[ae.cells,ae.oneCell']⟩
theorem qJ:yv ab 31=some true/\ep ab 31=some 4:=⟨aY,aY⟩
section
variable {K:gS}{m:Mem}
theorem ajA (pn pc cn cc un uc:Nat)(pa ca ua:Option Addr)(a w b:ae)(bZ dG im:Nat):gN 76 0 3 [0] [.agg #[.slice pa pn pc,.slice ca cn cc,a,w,b,.slice ua un uc]]
 [dN [some (.slice pa pn pc),some (.slice ca cn cc),some a,some w,some b,some (.slice ua un uc)] bZ,
  dN [some fE,some fE,some fE,some (vI 0)] dG,
  dN [some fE,some (vI 0),some fE,some (vI 0),some fE,some (vI 0),some fE,some (vI 0),some fE,some fE,some (vI 0),some fE,some (vI 0),some fE,some (vI 0),some fE,some (vI 0),some fE] im,
  .mem (aP bZ 0) (.slice pa pn pc)]
 .normal [1,2,4,16,17,18] [vP bZ 0,vP dG 0,vP im 0,.slice pa pn pc,vI pn,vI 0]:=jz
theorem ajy (b1 b2 d pn pc i:Nat)(pa:Option Addr):dX 76 [3] 0 99 [1,2,4,16,17,18] [vP b1 0,vP b2 0,vP d 0,.slice pa pn pc,vI pn,vI i]
 [bP (gB i pn) false]
 (.exit 0) [1,2,4] [vP b1 0,vP b2 0,vP d 0]:=jz
theorem ajx (b2 nX cn cc i:Nat)(ca:Option Addr):dX 76 [10] 0 99 [2,10,46,47,48] [vP b2 0,vP nX 0,.slice ca cn cc,vI cn,vI i]
 [bP (gB i cn) false]
 (.exit 2) [2,10] [vP b2 0,vP nX 0]:=jz
theorem ajz (b2 nX p n cc i nn nc kn kc:Nat)(na ka:Option Addr)(nv kv:ae)(x:KY)(bZ dG im:Nat):dX 76 [10] 0 99 [2,10,46,47,48] [vP b2 0,vP nX 0,vL p 0 n cc,vI n,vI i]
 [bP (gB i n) true,
  .idx i n i,
  .mem (eW 2 p (0+i*2)) (.agg #[iF x.n,vI x.k]),
  dN [some qZ,some (vI 0)] bZ,
  jK bZ 0 [iF x.n,vI x.k],
  .mem (aP nX 0) nv,
  .mem (aP bZ 0) (iF x.n),
  .mem (bh ab 28 1 [(0,(iF x.n))]) (vL dG 0 1 1),
  .mem (cK ab #[28,28] nv (vL dG 0 1 1)) (.slice na nn nc),
  .mem (gJ nX 0 (.slice na nn nc)) undef,
  .mem (aP nX 1) kv,
  .mem (aP bZ 1) (vI x.k),
  .mem (bh ab 22 1 [(0,(vI x.k))]) (vL im 0 1 1),
  .mem (cK ab #[22,22] kv (vL im 0 1 1)) (.slice ka kn kc),
  .mem (gJ nX 1 (.slice ka kn kc)) undef]
 .normal [2,10,46,47,48] [vP b2 0,vP nX 0,vL p 0 n cc,vI n,vI (fg i 1)]:=jz
theorem ajw (b2 nX:Nat)(nv kv rv:ae):gN 76 11 99 [2,10] [vP b2 0,vP nX 0]
 [iR 4 nX (.agg #[nv,kv,rv,vI 0]),
  jK b2 0 [nv,kv,rv,vI 0]]
 .ret [2,3] [vP b2 0,vI 0]:=jz
theorem akk:MN 76 1 2 31 3=true:=aY
theorem TG:(dZ (cI 76)).length<=99:=af aY
theorem TH:vl 76 [3]:=aY
theorem Og:vl 76 [10]:=aY
theorem Q6 {B:Nat->Prop}{gR:List KY}{J':ae}{b2 nX:Nat}{rv:ae}{t0:Tm}{m0:Mem}(g0:Gd m0)(k0:Kp m0 m fu)(ak0:m0.next<=nX)(h10:nX<m.next)(o:Obj m nX 0 [.slice none 0 0,.slice none 0 0,rv,vI 0])(hc:qF.R B gR m J')(hBb:∀b,B b->b≠nX/\b<m.next)(hl:gR.length<9000)
  (h0:dL [2,10,46,47,48] t0=[vP b2 0,vP nX 0,J',vI (gR.length:Int),vI 0]):
  ∃t1 m1 nv kv,ET K (j0 76) (iy 76 [10]) 100000 ⟨t0,m,[]⟩ (.exit 2) ⟨t1,m1,[]⟩/\dL [2,10] t1=[vP b2 0,vP nX 0]/\Kp m m1 (fun y=>y=nX)/\Obj m1 nX 0 [nv,kv,rv,vI 0]/\aaO.R (iS m m1) (gR.map (·.n)) m1 nv/\aaP.R (iS m m1) (gR.map (·.k)) m1 kv:=by
 obtain⟨a,cc,hA⟩:=aT.form hc;have JL:(aT (jq KY.val) 2).R B gR m J':=hc;obtain⟨e,t1,m1,he,hx,rfl,hg,kk,nv,kv,o1,B1,B2,hd,nD,my,l1,l2⟩:=fL (K:=K) (nt:=j0 76) (a:=iy 76 [10]) gR.length
  (Inv:=fun j tm M=>dL [2,10,46,47,48] tm=[vP b2 0,vP nX 0,J',vI (gR.length:Int),vI j]/\Kp m M (fun y=>y=nX)/\∃nv kv,Obj M nX 0 [nv,kv,rv,vI 0]/\∃B1 B2:Nat->Prop,(∀y,B1 y->¬B2 y)/\(∀y,B1 y->iS m M y)/\(∀y,B2 y->iS m M y)/\
   Bl (jq Bz) 1 B1 M ((gR.take j).map (·.n)) nv/\Bl (jq vI) 1 B2 M ((gR.take j).map (·.k)) kv)
  (dQ:=fun e tm M=>e= .exit 2/\dL [2,10] tm=[vP b2 0,vP nX 0]/\Kp m M (fun y=>y=nX)/\∃nv kv,Obj M nX 0 [nv,kv,rv,vI 0]/\∃B1 B2:Nat->Prop,(∀y,B1 y->¬B2 y)/\(∀y,B1 y->iS m M y)/\(∀y,B2 y->iS m M y)/\
   Bl (jq Bz) 1 B1 M (gR.map (·.n)) nv/\Bl (jq vI) 1 B2 M (gR.map (·.k)) kv)
  (by
   rintro j tm M hj ⟨hg,kk,nv,kv,oM,B1,B2,hd,nD,my,l1,l2⟩;refine .inl ?_;have g:Gd m:=g0.ext k0;have gM:=g.ext kk;have nM:=kk.next;obtain⟨p,c',u,ucs,rfl,hBp,ob,hu,hle,hE,YT⟩:=aT.get ((aT (jq KY.val) 2).ext JL kk fun y hy=>(hBb y hy).1) hj;obtain⟨x,hy⟩:∃y,gR[j]=y:=⟨_,rfl⟩;rw[hy]at hE;have hE:u=x.val:=hE;subst hE;have e1:eW 2 p (0+j*2) M=some (x.val,M):=by rw[Nat.zero_add];exact bW (vs:=[.string x.n,vI x.k]) ob hu hle
   obtain⟨M1,M2,e2,e3,o2,k2,n2⟩:=iX gM [.string .empty,vI 0] [.string x.n,vI x.k] rfl rfl;have g2:=gM.ext k2;have oM2:=oM.aR k2;have e4:aP nX 0 M2=some (nv,M2):=aN oM2 rfl;have e5:aP M.next 0 M2=some (.string x.n,M2):=aN o2 rfl;have km2:Kp m M2 (fun y=>y=nX):=kk.aS k2;have n2':=k2.next;obtain⟨M3,M4,s1,e6,g3,k3,e7,k4,Ow,_,n4⟩:=(l1.aR k2).add (t:=28) (v:=Bz x.n) g2 g km2 rfl eS (fun b hb=>⟨(nD b hb).1,by have :=(nD b hb).2;omega⟩) (B':=fu) rfl (fun _ _ h=>h) (fun _ h=>h.elim) (acA x.n) (by simp;omega);obtain⟨na,nn,nc,UP⟩:=Ow.form;have acE:∀y,B1 y->¬y=nX:=fun y hy e=>by have :=(nD y hy).1;omega
   have TT:∀y,B2 y->¬y=nX:=fun y hy e=>by have :=(my y hy).1;omega
   have amK:nX<m.next:=h10;have alC:¬B1 nX:=fun h=>acE _ h rfl
   have alB:¬B2 nX:=fun h=>TT _ h rfl
   have oM4:=oM2.ext k4 alC;have g4:=g2.ext k4;have km4:Kp m M4 (fun y=>y=nX):=km2.new k4 (N:=m.next) (ai _) fun b hb=>(nD b hb).1
   have aah:∀{M':Mem},Kp m M' (fun y=>y=nX)->Own M' nX:=fun k=>g0.own (k0.tA.trans k fun _ _ h=>h) ak0
   obtain⟨M5,e8,o5,k5⟩:=iZ (o:=0) s1 oM4 ((aah km4).may _ _) (af rfl) (by rw[UP];rfl);have g5:=g4.ext k5;have km5:Kp m M5 (fun y=>y=nX):=km4.trans k5 fun _ _ h=>h
   have e9:aP nX 1 M5=some (kv,M5):=aN o5 rfl;have MT:aP M.next 1 M5=some (vI x.k,M5):=aN ((o2.ext k4 fun h=>by have :=(nD _ h).2;omega).ext k5 aj) rfl;have n5:=k5.next;have n4':=k4.next;have l2':=((l2.aR k2).ext k4 fun b hb h=>hd b h hb).ext k5 TT;obtain⟨M6,M7,s2,e11,g6,k6,VF,k7,Wt,_,n7⟩:=l2'.add (t:=22) (v:=vI x.k) g5 g km5 rfl eS (fun b hb=>⟨(my b hb).1,by have :=(my b hb).2;omega⟩) (B':=fu) rfl (fun _ _ h=>h) (fun _ h=>h.elim) (acC x.k) (by simp;omega);obtain⟨ka,kn,kc,hs2⟩:=Wt.form;have g7:=g5.ext k7;have km7:Kp m M7 (fun y=>y=nX):=km5.new k7 (N:=m.next) (ai _) fun b hb=>(my b hb).1
   obtain⟨M8,e13,o8,k8⟩:=iZ (o:=1) s2 (o5.ext k7 alB) ((aah km7).may _ _) (af rfl) (by rw[hs2];rfl);have n8:=k8.next;have n7':=k7.next;subst UP;subst hs2;obtain⟨t2,fO,gp⟩:=bK (K:=K) (m:=M) (m':=M8) Og (ajz b2 nX p gR.length c' j nn nc kn kc na ka nv kv x M.next M2.next M5.next) hg (.cond (Jf hj)<| .idx rfl hj<| .mem e1<| .mem e2<| .mem e3<| .mem e4<| .mem e5<| .mem e6<| .mem e7<| .mem e8<| .mem e9<| .mem MT<| .mem e11<| .mem VF<| .mem e13 .nil);have htk:gR.take (j+1)=gR.take j++[x]:=by rw[List.take_add_one,List.getElem?_eq_getElem hj,hy];rfl
   refine⟨t2,M8,fO,by rw[gp,add1 aj],km7.trans k8 fun _ _ h=>h,_,_,o8,(fun y=>B1 y\/fu y\/y=M2.next+1),(fun y=>B2 y\/fu y\/y=M5.next+1),?_,?_,?_,?_,?_⟩
   ·rintro y (h|h|h) h'
    ·rcases h' with h'|h'|h'
     ·exact hd y h h'
     ·exact h'
     ·have :=(nD y h).2;omega
    ·exact h
    ·rcases h' with h'|h'|h'
     ·have :=(my y h').2;omega
     ·exact h'
     ·omega
   ·rintro y (h|h|h)
    ·exact⟨(nD y h).1,by have :=(nD y h).2;omega⟩
    ·exact h.elim
    ·exact⟨aj,aj⟩
   ·rintro y (h|h|h)
    ·exact⟨(my y h).1,by have :=(my y h).2;omega⟩
    ·exact h.elim
    ·exact⟨aj,aj⟩
   ·rw[htk,List.map_append];refine((Ow.ext k5 ?_).ext k7 ?_).ext k8 ?_
    ·rintro y (h|h|h) e
     ·exact acE y h e
     ·exact h
     ·omega
    ·rintro y (h|h|h) h'
     ·exact hd y h h'
     ·exact h
     ·have :=(my y h').2;omega
    ·rintro y (h|h|h) e
     ·exact acE y h e
     ·exact h
     ·omega
   ·rw[htk,List.map_append];refine Wt.ext k8 ?_;rintro y (h|h|h) e
    ·exact TT y h e
    ·exact h
    ·omega)
  (by
   rintro tm M ⟨hg,kk,nv,kv,oM,B1,B2,hd,nD,my,l1,l2⟩;rw[hA]at hg;obtain⟨t2,fO,gp⟩:=bK (K:=K) (m:=M) (m':=M) Og (ajx b2 nX gR.length cc gR.length a) hg (.cond (T9 _) .nil);rw[List.take_length]at l1 l2;exact⟨_,t2,M,lQ,fO,rfl,gp,kk,nv,kv,oM,B1,B2,hd,nD,my,l1,l2⟩)
  (tm:=t0) (m:=m) ⟨h0,Kp.refl _ _,_,_,o,fu,fu,fun _ h=>h.elim,fun _ h=>h.elim,fun _ h=>h.elim,Bl.nil,Bl.nil⟩ aj
 exact⟨t1,m1,nv,kv,hx,hg,kk,o1,(aT (jq Bz) 1).mono l1.fin nD,(aT (jq vI) 1).mono l2.fin my⟩
end
end Go.AM
namespace Go.AM
set_option maxRecDepth 1000000
open Go Go.Conc Go.Proofs
def aiP:ae:= .agg #[.slice none 0 0,.slice none 0 0,.slice none 0 0,vI 0]
end Go.AM
namespace Go.AM
set_option maxRecDepth 1000000
open Go Go.Conc Go.Proofs
def WK (m:Mem)(k:Nat):Mem:={m with deaf:=k}
theorem Lg:ab.underlying 139=some (.pointer 63)/\ab.underlying 143=some .unsafePointer/\ep ab 63=some 2:=⟨aY,aY,aY⟩
theorem FR (cl:cB)(args:List ae)(m:Mem):(j8 ab X0 64).body cl args m=uz X0 64 args m/\(j8 ab X0 65).body cl args m=uz X0 65 args m/\(j8 ab X0 66).body cl args m=uz X0 66 args m/\
  (j8 ab X0 67).body cl args m=uz X0 67 args m/\(j8 ab X0 69).body cl args m=uz X0 69 args m/\(j8 ab X0 70).body cl args m=uz X0 70 args m:=by
 refine⟨?_,?_,?_,?_,?_,?_⟩<;>kernel_rfl
section
variable {K:gS}{m:Mem}
theorem zz {f:Nat}{args:List ae}{v:ae}{m':Mem}(hf:ja f=false)(ht:∀cl,(j8 ab X0 f).body cl args m=uz X0 f args m)(h:uz X0 f args m=some (v,m')):Ev K f args m v m':=by
 refine⟨1,fun M n _ hn=>?_⟩;obtain⟨n,rfl⟩:∃k,n=k+1:=⟨n-1,aj⟩;rw[K.step M n f args m hf,ht];exact h
theorem c64:Ev K 64 [] m (.tuple #[]) (WK m (m.deaf+1)):=zz rfl (fun cl=>(FR cl [] m).1) rfl
theorem c66:Ev K 66 [] m (.tuple #[]) (WK m (m.deaf-1)):=zz rfl (fun cl=>(FR cl [] m).2.2.1) rfl
theorem c67 {b o:Nat}:Ev K 67 [vP b o] m (.tuple #[]) m:=zz rfl (fun cl=>(FR cl [vP b o] m).2.2.2.1) rfl
theorem c69 {b o:Nat}:Ev K 69 [vP b o] m (.tuple #[]) m:=zz rfl (fun cl=>(FR cl [vP b o] m).2.2.2.2.1) rfl
theorem yO {b sz o:Nat}{cs:List ae}(vs:List ae)(h:Obj m b sz cs)(hw:m.cS b o vs.length=true)(hn:o+vs.length<=cs.length)(hv:vs.all (·.oneCell')=true):
  ∃m',m.dK b o vs=some m'/\Obj m' b sz (tN cs o vs)/\Kp m m' (fun x=>x=b):=by
 obtain⟨m',e,o',k⟩:=kq vs h hw hn hv;unfold Eb at e
 split at e
 ·rename_i m1 h1;cases e;exact⟨_,h1,o',k⟩
 ·cases e
theorem c65 {b sz:Nat}{x y:Int}{rest:List ae}(h:Obj m b sz (.int .i32 x::rest))(hw:m.cS b 0 1=true):∃m',Ev K 65 [vP b 0,.int .i32 x,.int .i32 y] m (.bool true) m'/\Obj m' b sz (.int .i32 y::rest)/\Kp m m' (fun x=>x=b):=by
 obtain⟨m',e,o',k⟩:=yO (o:=0) [.int .i32 y] h hw de rfl;refine⟨m',zz rfl (fun cl=>(FR cl _ m).2.1) ?_,o',k⟩;have hl:m.dB b 0 1=some [.int .i32 x]:=jx h rfl de
 show(match m.dB b 0 1 with |some [.int .i32 v]=>if v=x then(m.dK b 0 [.int .i32 y]).map fun m'=>(ae.bool true,m')else if m.base<=b then some (.bool false,m)else none|_=>none)=_
 rw[hl]
 show(if x=x then _ else _)=_
 rw[bC rfl,e];rfl
theorem c70 {b sz:Nat}{x y:Int}{rest:List ae}(h:Obj m b sz (.int .i32 x::rest))(hw:m.cS b 0 1=true):∃m',Ev K 70 [vP b 0,.int .i32 y] m (.int .i32 (cf.i32.wrap (x+y))) m'/\Obj m' b sz (.int .i32 (cf.i32.wrap (x+y))::rest)/\Kp m m' (fun x=>x=b):=by
 obtain⟨m',e,o',k⟩:=yO (o:=0) [.int .i32 (cf.i32.wrap (x+y))] h hw de rfl;refine⟨m',zz rfl (fun cl=>(FR cl _ m).2.2.2.2.2) ?_,o',k⟩;have hl:m.dB b 0 1=some [.int .i32 x]:=jx h rfl de
 show(match m.dB b 0 1 with |some [.int .i32 v]=>(m.dK b 0 [.int .i32 (cf.i32.wrap (v+y))]).map fun m'=>(ae.int .i32 (cf.i32.wrap (v+y)),m')|_=>none)=_
 rw[hl]
 show(m.dK b 0 [.int .i32 (cf.i32.wrap (x+y))]).map _=_
 rw[e];rfl
theorem Pg {b sz:Nat}{c:ae}{cs:List ae}(h:Obj m b sz (c::cs)):fN ab 139 143 (vP b 0) m=some (vP b 0,m):=by
 unfold fN;simp only[Lg.1,Lg.2.1,Lg.2.2,h.kind,h.cs];rfl
theorem Obj.df{b sz k:Nat}{cs:List ae}(h:Obj m b sz cs):Obj (WK m k) b sz cs:=⟨h.lt,h.kind,h.sz,h.cs,h.yL⟩
theorem Kp.df{m':Mem}{S:Nat->Prop}{k l:Nat}(h:Kp (WK m k) m' S)(hl:l=m.deaf):Kp m (WK m' l) S:=⟨h.next,h.bl,h.opn,h.base,h.home,h.floor,h.wg,h.pend,hl,h.blk⟩
theorem p24 (b:Nat):Path 24 [vP b 0]
 [.call 36 [vP b 0] (.tuple #[])]
 (.tuple #[]):=fB
theorem p36 (b:Nat):Path 36 [vP b 0]
 [.call 64 [] (.tuple #[]),
  .call 65 [vP b 0,.int .i32 0,.int .i32 1] (.bool true),
  oZ,
  oZ,
  .call 66 [] (.tuple #[]),
  .mem (fN ab 139 143 (vP b 0)) (vP b 0),
  .call 67 [vP b 0] (.tuple #[])]
 (.tuple #[]):=fB
theorem p25 (b:Nat):Path 25 [vP b 0]
 [.call 37 [vP b 0] (.tuple #[])]
 (.tuple #[]):=fB
theorem p37 (b:Nat):Path 37 [vP b 0]
 [oZ,
  .mem (aP b 0) (.int .i32 1),
  .mem (fN ab 139 143 (vP b 0)) (vP b 0),
  .call 69 [vP b 0] (.tuple #[]),
  .call 64 [] (.tuple #[]),
  .call 70 [vP b 0,.int .i32 (-1)] (.int .i32 0),
  eE,
  .call 66 [] (.tuple #[])]
 (.tuple #[]):=fB
theorem p40 (db mp:Nat)(rc:Bool)(pn pc:Nat)(pa:Option Addr)(a b w u x1 x2 x3 x4 x5 x6 y1 y2 y3 y4:ae)(e:Int)(bZ dG im Ny:Nat):Path 40 [vP db 0,.agg #[.bool rc,.slice pa pn pc,a,b,w,u]]
 [dN [some (.bool rc),some (.slice pa pn pc),some a,some b,some w,some u] bZ,
  dN [some fE,some fE,some fE,some (vI 0)] dG,
  .mem (aP db 2) (.map (some mp)),
  iR 6 bZ (.agg #[.bool rc,.slice pa pn pc,a,b,w,u]),
  dN [some fE,some fE,some fE,some .nilIface,some fE,some fE] im,
  .mem (gk (vP im 0)) (vI Ny),
  oY,
  .call 75 [.map (some mp),.agg #[.bool rc,.slice pa pn pc,a,b,w,u]] (.tuple #[.agg #[x1,x2,x3,x4,x5,x6],vI 0]),
  .mem (cZ (vI Ny) (vP im 0) (pS (vP im 0))) undef,
  oY,
  jK im 0 [x1,x2,x3,x4,x5,x6],
  eE,
  iR 6 im (.agg #[x1,x2,x3,x4,x5,x6]),
  .call 76 [.agg #[x1,x2,x3,x4,x5,x6]] (.tuple #[.agg #[y1,y2,y3,y4],vI e]),
  jK dG 0 [y1,y2,y3,y4],
  rY 31 dG (.agg #[y1,y2,y3,y4])]
 (.tuple #[.agg #[y1,y2,y3,y4],vI e]):=fB
theorem ajY (db:Nat)(rc:Bool)(pn pc:Nat)(pa:Option Addr)(a b w u y1 y2 y3 y4:ae)(e:Int)(bZ dG:Nat):Path 26 [vP db 0,.iface 108 (.agg #[.bool rc,.slice pa pn pc,a,b,w,u])]
 [dN [some fE,some fE,some fE,some (vI 0)] bZ,
  eE,
  eE,
  oZ,
  dN [some (.bool false),some fE,some fE,some fE,some .nilIface,some fE] dG,
  jK dG 0 [.bool rc,.slice pa pn pc,a,b,w,u],
  iR 6 dG (.agg #[.bool rc,.slice pa pn pc,a,b,w,u]),
  .call 40 [vP db 0,.agg #[.bool rc,.slice pa pn pc,a,b,w,u]] (.tuple #[.agg #[y1,y2,y3,y4],vI e]),
  jK bZ 0 [y1,y2,y3,y4],
  rY 31 bZ (.agg #[y1,y2,y3,y4])]
 (.tuple #[.agg #[y1,y2,y3,y4],vI e]):=fB
theorem p12 (db:Nat)(t:ByteArray)(sv y1 y2 y3 y4:ae)(e:Int)(bZ dG:Nat):Path 12 [vP db 0,iF t]
 [dN [some fE,some fE,some fE,some (vI 0)] bZ,
  .call 22 [iF t] (.tuple #[sv,vI 0,vI 0]),
  eE,
  .call 24 [vP db 0] (.tuple #[]),
  .call 26 [vP db 0,sv] (.tuple #[.agg #[y1,y2,y3,y4],vI e]),
  dN [some fE,some fE,some fE,some (vI 0)] dG,
  jK dG 0 [y1,y2,y3,y4],
  iR 4 dG (.agg #[y1,y2,y3,y4]),
  jK bZ 0 [y1,y2,y3,y4],
  .call 25 [vP db 0] (.tuple #[]),
  rY 31 bZ (.agg #[y1,y2,y3,y4])]
 (.tuple #[.agg #[y1,y2,y3,y4],vI e,vI 0]):=fB
theorem c24 {b sz:Nat}{rest:List ae}(hd:m.deaf=0)(h:Obj m b sz (.int .i32 0::rest))(hw:m.cS b 0 1=true):∃m',Ev K 24 [vP b 0] m (.tuple #[]) m'/\Obj m' b sz (.int .i32 1::rest)/\Kp m m' (fun x=>x=b):=by
 obtain⟨m1,e1,o1,k1⟩:=c65 (K:=K) (m:=WK m (m.deaf+1)) (y:=1) h.df hw;have hd1:m1.deaf=1:=by rw[k1.deaf];show m.deaf+1=1;rw[hd]
 have o2:Obj (WK m1 (m1.deaf-1)) b sz (.int .i32 1::rest):=o1.df;refine⟨WK m1 (m1.deaf-1),aJ (p24 b) (.call (aJ (p36 b) (.call c64<| .call e1<| .cond rfl<| .cond rfl<| .call c66<| .mem (Pg o2)<| .call c67 .nil)) .nil),o2,k1.df (by rw[hd1,hd])⟩
theorem c25 {b sz:Nat}{rest:List ae}(hd:m.deaf=0)(h:Obj m b sz (.int .i32 1::rest))(hw:m.cS b 0 1=true):∃m',Ev K 25 [vP b 0] m (.tuple #[]) m'/\Obj m' b sz (.int .i32 0::rest)/\Kp m m' (fun x=>x=b):=by
 obtain⟨m1,e1,o1,k1⟩:=c70 (K:=K) (m:=WK m (m.deaf+1)) (y:= -1) h.df hw;have uj:cf.i32.wrap (1+ -1)=0:=eS;rw[uj]at e1 o1;have hd1:m1.deaf=1:=by rw[k1.deaf];show m.deaf+1=1;rw[hd]
 have l1:aP b 0 m=some (.int .i32 1,m):=aN h rfl;refine⟨WK m1 (m1.deaf-1),aJ (p25 b) (.call (aJ (p37 b) (.cond rfl<| .mem l1<| .mem (Pg h)<| .call c69<| .call c64<| .call e1<| .cond rfl<| .call c66 .nil)) .nil),o1.df,k1.df (by rw[hd1,hd])⟩
end
end Go.AM
namespace Go.AM
set_option maxRecDepth 1000000
open Go Go.Conc Go.Proofs
def Room (sz:Nat)(m:Mem)(sv:ae)(o:Option Nat):Prop:=(o=none/\sv= .slice none 0 0)\/∃b l xs,o=some b/\sv=vL b 0 l cD/\RO m b sz xs/\l*sz<=xs.length
theorem aeJ {zc:Array ae}{n:Nat}(h:∀y∈zc.toList,y.oneCell'=true):(Builtin.zeroCells zc n).toList.length=n*zc.size/\((Builtin.zeroCells zc n).toList.all (·.oneCell'))=true:=by
 unfold Builtin.zeroCells;refine⟨de,?_⟩;rw[aB];intro y hy;simp only[Array.toList_map,Array.toList_range,List.mem_map,List.mem_range]at hy;obtain⟨i,hi,rfl⟩:=hy;have hs:0<zc.size:=by
  rcases Nat.eq_zero_or_pos zc.size with e|e
  ·rw[e]at hi;simp at hi
  ·exact e
 rw[getElem!_pos zc _ (Nat.mod_lt _ hs)];exact h _ (Array.getElem_mem_toList _)
def gA {α:Type}(st:Nat->List α):Nat->Nat->List α->List α
 |0,_,acc=>acc
 |n+1,i,acc=>gA st n (i+1) (acc++st i)
structure yy (K:gS)(m0:Mem)(X:Nat->Prop)(fs:Nat)(cap:Array ae){α:Type}(E:nU α)(sz:Nat)(st:Nat->List α)(hi:Nat):Prop where
 one:∀i,(st i).length<=1
 run:∀(mw:Mem) (BO BE:Nat->Prop) (acc:List α) (sv:ae) (i:Nat),i<hi->Gd mw->sO (fun b=>¬X b) m0 mw->lP E sz BO BE mw acc sv->(∀b,BO b->(X b\/m0.next<=b)/\b<mw.next)->(∀b,BE b->m0.next<=b/\b<mw.next)->acc.length<2^29->
  ∃wT m' Wn H0,Ev K fs ([sv,vI (i:Int)]++cap.toList) mw (.tuple #[wT,vI 0]) m'/\Kp mw m' BO/\lP E sz Wn H0 m' (acc++st i) wT/\(∀b,Wn b->BO b\/iS mw m' b)/\(∀b,H0 b->BE b\/iS mw m' b)
section
variable {K:gS}{m:Mem}{fl go sh ga em t sz:Nat}
theorem ZG (L:Kin fl go sh ga em t)(ht:sN.contains (t,sz)=true){α:Type}{E:nU α}{sv:ae}{o:Option Nat}(h:Room sz m sv o)(hw:∀b,o=some b->Own m b):
  ∃wT m',Ev K em [sv] m wT m'/\Kp m m' (fun y=>o=some y)/\lP E sz (fun y=>o=some y) fu m' [] wT:=by
 obtain⟨e,z,s,h1,hz,hs,hzs,hz1⟩:=PJ L.und;obtain⟨e',h3,h4,h0,_⟩:=uK ht;rw[h1]at h3;cases h3;rw[hs]at h4;cases h4;rcases h with⟨rfl,rfl⟩|⟨b,l,xs,rfl,rfl,ro,hl⟩
 ·have x1:mX ab #[t] (.slice none 0 0) m=some (.tuple #[],m):=by
   unfold mX
   show(match ab.underlying t,(ae.slice none 0 0)with |some (.slice e),.slice base n _=>_|_,_=>none)=_
   rw[h1]
  have x2:nZ ab t (.slice none 0 0) none (some (vI 0)) m=some (.slice none 0 0,m):=by
   unfold nZ jb;simp only[h1,hs,jW];simp[cD]
  exact⟨.slice none 0 0,m,aJ (L.Tq 0 0 none _) (.mem x1<| .mem x2 .nil) L.spec.1,.refl _ _,.inl ⟨rfl,rfl⟩⟩
 ·have ob:Obj m b sz xs:=ro.obj (by
   have :=hw b rfl;unfold Own Mem.ft at this;simp only[ag,Bool.not_eq_true']at this;exact this.1.1)
  have yD:∀m',nZ ab t (vL b 0 l cD) none (some (vI 0)) m'=some (vL b 0 0 cD,m'):=fun m'=>by
   unfold nZ jb;simp only[h1,hs,jW];simp[cD]
  by_cases hl0:l=0
  ·subst hl0;have x1:mX ab #[t] (vL b 0 0 cD) m=some (.tuple #[],m):=by
    unfold mX
    show(match ab.underlying t,(vL b 0 0 cD)with |some (.slice e),.slice base n _=>_|_,_=>none)=_
    rw[h1];simp
   exact⟨vL b 0 0 cD,m,aJ (L.Tq 0 cD (some ⟨b,0,none⟩) _) (.mem x1<| .mem (yD m) .nil) L.spec.1,.refl _ _,.inr ⟨b,[],xs,rfl,⟨rfl,id⟩,hw b rfl,ob,rfl⟩⟩
  ·obtain⟨z1,z2⟩:=aeJ (n:=l) hz1;rw[hzs]at z1;obtain⟨m',e1,o1,k1⟩:=yO (o:=0) (Builtin.zeroCells z.cells l).toList ob ((hw b rfl).may _ _) aj z2;have x1:mX ab #[t] (vL b 0 l cD) m=some (.tuple #[],m'):=by
    unfold mX
    show(match ab.underlying t,(vL b 0 l cD)with |some (.slice e),.slice base n _=>_|_,_=>none)=_
    rw[h1];simp only[hl0,if_false,hz,a9,e1,cN]
   exact⟨vL b 0 0 cD,m',aJ (L.Tq l cD (some ⟨b,0,none⟩) _) (.mem x1<| .mem (yD m') .nil) L.spec.1,k1.mono fun y _ h=>by rw[h],.inr ⟨b,[],_,rfl,⟨rfl,id⟩,(hw b rfl).ext k1,o1,rfl⟩⟩
theorem alU (L:Kin fl go sh ga em t)(ht:sN.contains (t,sz)=true){α:Type}{E:nU α}{m0:Mem}{X:Nat->Prop}{fs fr to hi d o szd:Nat}{cap:Array ae}{st:Nat->List α}{ob:Option Nat}{sv0:ae}{cs:List ae}(eD:yy K m0 X fs cap E sz st hi)(g:Gd m)(hsm:sO (fun b=>¬X b) m0 m)(ro:RO m d szd cs)(h0:cs[o]?=some sv0)(h1:o+1<cs.length)
  (rH:Room sz m sv0 ob)(vr:∀b,ob=some b->Own m b)(hX:∀b,ob=some b->X b/\b≠d/\b<m.next)(hm:meets m.bl d o 1=false)(hw0:m.cS d o 1=true)(OK:m.cS d (o+1) 1=true)(hf:fr<=to)(hh:to<=hi)(hs:to<90000):
  ∃sv m' BO BE,Ev K sh [vP d o,vI fr,vI to,.func (.func fs) #[] cap] m (.tuple #[]) m'/\Kp m m' (fun y=>y=d\/ob=some y)/\RO m' d szd ((cs.set o sv).set (o+1) (vI 0))/\
   lP E sz BO BE m' (gA st (to-fr) fr []) sv/\(∀b,BO b->ob=some b\/iS m m' b)/\∀b,BE b->iS m m' b:=by
 obtain⟨Q,hQ⟩:∃Q,Q=gA st (to-fr) fr []:=⟨_,rfl⟩;rw[<-hQ];obtain⟨F,hF⟩:∃F:ae,F= .func (.func fs) #[] cap:=⟨_,rfl⟩;obtain⟨RA,m1,e1,k1,Ow⟩:=ZG (K:=K) L ht (E:=E) rH vr;obtain⟨a0,n0,c0,rfl⟩:∃a n c,sv0= .slice a n c:=by rcases rH with⟨_,rfl⟩|⟨_,_,_,_,rfl,_⟩<;>exact⟨_,_,_,rfl⟩
 have hXm:∀{m'},Kp m m' (fun y=>ob=some y)->sO (fun b=>¬X b) m0 m':=fun k=>hsm.trans (k.same fun b hb e=>hb (hX b e).1)
 obtain⟨t0,w0,e0⟩:=cX (K:=K) (m:=m) (m':=m1) (tm:=entry [vP d o,vI fr,vI to,.func (.func fs) #[] cap]) (L.abT d o fr to fs n0 c0 cap a0 RA) rfl (.mem (ro.ld1 h0 hm)<| .call e1 .nil);obtain⟨e,t1,m2,he,hx,rfl,sv,BA,BE,hg,k2,Wt,hB2,hE2⟩:=fL (K:=K) (nt:=j0 sh) (a:=oI (cI sh) [2]) (to-fr)
  (Inv:=fun j tm m'=>∃sv BA BE acc,dL [0,2,3,8,9,10] tm=[vP d o,vI to,F,sv,vI 0,vI (fr+j:Nat)]/\Kp m m' (fun y=>ob=some y)/\lP E sz BA BE m' acc sv/\(∀b,BA b->ob=some b\/iS m m' b)/\(∀b,BE b->iS m m' b)/\acc.length<=j/\gA st (to-fr-j) (fr+j) acc=Q)
  (dQ:=fun e tm m'=>e= .exit 0/\∃sv BA BE,dL [0,8,9] tm=[vP d o,sv,vI 0]/\Kp m m' (fun y=>ob=some y)/\lP E sz BA BE m' Q sv/\(∀b,BA b->ob=some b\/iS m m' b)/\∀b,BE b->iS m m' b)
  (by
   rintro j tm m2 hj ⟨sv,BA,BE,acc,hg,kk,ls,hB,hE,Mz,hq⟩;rw[hF]at hg;have nk:=kk.next;have nh:=hsm.next;obtain⟨wT,m3,BA',H0,e3,k3,Ua,hB3,hE3⟩:=eD.run m2 BA BE acc sv (fr+j) aj (g.ext kk) (hXm kk) ls (fun b hb=>by
    rcases hB b hb with h|h
    ·exact⟨.inl (hX b h).1,by have :=(hX b h).2.2;omega⟩
    ·exact⟨.inr (by have :=h.1;omega),h.2⟩) (fun b hb=>⟨by have :=(hE b hb).1;omega,(hE b hb).2⟩) aj
   have e3':Ev K fs ((#[]:Array ae).toList++[sv,vI (fr+j:Nat)]++cap.toList) m2 (.tuple #[wT,vI 0]) m3:=e3;obtain⟨t2,fO,gp⟩:=bK (K:=K) (m:=m2) (m':=m3) L.Ob (L.abS d o to (fr+j) fs cap sv wT) hg (.rp (Jf aj)<| .cond rfl<| .gD e3' .nil);rw[show to-fr-j=(to-fr-(j+1))+1 by omega]at hq;have nx:=k3.next;refine .inl ⟨t2,m3,fO,wT,BA',H0,acc++st (fr+j),by rw[gp,add1 aj,hF];rfl,?_,Ua,fun b hb=>?_,fun b hb=>?_,by have :=eD.one (fr+j);simp;omega,hq⟩
   ·exact kk.trans k3 fun b hb h=>by
     rcases hB b h with h|h
     ·exact h
     ·exact absurd h.1 aj
   ·rcases hB3 b hb with h|h
    ·rcases hB b h with h|h
     ·exact .inl h
     ·exact .inr ⟨h.1,by have :=h.2;omega⟩
    ·exact .inr ⟨by have :=h.1;omega,h.2⟩
   ·rcases hE3 b hb with h|h
    ·have :=hE b h;exact⟨this.1,by have :=this.2;omega⟩
    ·exact⟨by have :=h.1;omega,h.2⟩)
  (by
   rintro tm m2 ⟨sv,BA,BE,acc,hg,kk,ls,hB,hE,Mz,hq⟩;rw[hF,show fr+(to-fr)=to by omega]at hg;rw[Nat.sub_self]at hq;have hq:acc=Q:=hq;subst hq;obtain⟨t2,fO,gp⟩:=bK (K:=K) (m:=m2) (m':=m2) L.Ob (L.abR d o to to fs cap sv) hg (.rp (T9 _)<| .cond rfl .nil);exact⟨_,t2,m2,lQ,fO,rfl,sv,BA,BE,gp,kk,ls,hB,hE⟩)
  (tm:=t0) (m:=m1) ⟨RA,_,fu,[],by rw[e0,hF];rfl,k1,Ow,fun b h=> .inl h,fun b h=>h.elim,ai _,by rw[hQ];rfl⟩ aj
 have ho:o<cs.length:=aj;have hd:¬ob=some d:=fun e=>(hX d e).2.1 rfl
 obtain⟨a,cc,wW⟩:=Wt.form;obtain⟨m3,e3,r3,k3,n3⟩:=(ro.ext k2 hd).jL (o:=o) sv (GU k2 hw0) ho Wt.one;obtain⟨m4,e4,r4,k4,n4⟩:=r3.jL (o:=o+1) (vI 0) (GU k3 (GU k2 OK)) (by simpa using h1) rfl;subst wW;obtain⟨t2,h2,e2⟩:=cX (K:=K) (m:=m2) (m':=m4) (L.abQ d o Q.length cc a) hg (.mem e3<| .mem e4 .nil);have RG:Kp m2 m4 (fun y=>y=d):=k3.trans k4 fun _ _ h=>h
 have n24:=RG.next;have n02:=k2.next;have RJ:=ro.lt;refine⟨_,m4,BA,BE,iO L.acx (aU.cut w0 (aU.Cm L.acK L.acN hx rfl (aU.last h2 L.Uj))) (.inl rfl) e2 L.spec.2.1,?_,r4,Wt.ext RG fun b hb e=>?_,fun b hb=>?_,fun b hb=>⟨(hE2 b hb).1,by have :=(hE2 b hb).2;omega⟩⟩
 ·exact(k2.mono fun _ _ h=> .inr h).trans RG fun _ _ h=> .inl h
 ·rcases hb with hb|hb
  ·rcases hB2 b hb with h|h
   ·exact(hX b h).2.1 e
   ·have :=h.1;omega
  ·have :=(hE2 b hb).1;omega
 ·rcases hB2 b hb with h|h
  ·exact .inl h
  ·exact .inr ⟨h.1,by have :=h.2;omega⟩
end
end Go.AM
namespace Go.AM
set_option maxRecDepth 1000000
open Go Go.Conc Go.Proofs
structure BoP (d N:Nat)(bo:Nat->Option Nat):Prop where
 ne:∀{j b},bo j=some b->b≠d/\b<N
 inj:∀{i j b},bo i=some b->bo j=some b->i=j
def vi (d q:Nat)(bo:Nat->Option Nat)(j:Nat):List Span:=sp d (q+2*j)::sp d (q+2*j+1)::(match bo j with |none=>[] |some b=>[(b,b+1,none)])
def tP (d q:Nat)(bo:Nat->Option Nat):Nat->List Span
 |0=>vi d q bo 3++(vi d q bo 2++(vi d q bo 1++vi d q bo 0))
 |1=>vi d q bo 3++(vi d q bo 2++vi d q bo 1)
 |2=>vi d q bo 3++vi d q bo 2
 |3=>vi d q bo 3
 |_=>[]
def ZO (s t:Span):Bool:=s.1 !=t.1||(match s.2.2,t.2.2 with |some x,some y=>x !=y|_,_=>false)
section
variable {d q N:Nat}{bo:Nat->Option Nat}
theorem nA {j:Nat}{s:Span}:s∈vi d q bo j↔s=sp d (q+2*j)\/s=sp d (q+2*j+1)\/∃b,bo j=some b/\s=(b,b+1,none):=by
 unfold vi;cases h:bo j<;>simp
theorem Nr (hP:BoP d N bo){i j:Nat}(s7:i≠j){s t:Span}(hs:s∈vi d q bo i)(ht:t∈vi d q bo j):ZO s t=true:=by
 rcases nA.1 hs with rfl|rfl|⟨b,hb,rfl⟩<;>rcases nA.1 ht with rfl|rfl|⟨c,hc,rfl⟩<;>simp only[ZO,sp]
 ·simp;omega
 ·simp;omega
 ·simp;exact fun e=>(hP.ne hc).1 e.symm
 ·simp;omega
 ·simp;omega
 ·simp;exact fun e=>(hP.ne hc).1 e.symm
 ·simp;exact(hP.ne hb).1
 ·simp;exact(hP.ne hb).1
 ·simp;exact fun e=>s7 (hP.inj hb (e▸hc))
theorem ZN {s:Span}(h:ZO s s=true):False:=by
 unfold ZO at h;obtain⟨a,b,c⟩:=s;cases c<;>simp at h
theorem yt:∀{A B:List Span},jE A=true->jE B=true->(∀s∈A,∀t∈B,ZO s t=true)->jE (A++B)=true
 | [],B,_,h,_=>h
 |s::A,B,h,h',k=>by
  have h:((A.all fun t=>ZO s t)&&jE A)=true:=h;rw[ag]at h
  show(((A++B).all fun t=>ZO s t)&&jE (A++B))=true
  rw[ag,List.all_append,ag];exact⟨⟨h.1,aB.2 (k s (List.mem_cons_self ..))⟩,yt h.2 h' fun t ht=>k t (List.mem_cons_of_mem _ ht)⟩
theorem F9 (hP:BoP d N bo)(j:Nat):jE (vi d q bo j)=true:=by
 unfold vi;cases h:bo j with
 |none=>simp[jE,sp]
 |some b=>
  have :=(hP.ne h).1;simp[jE,sp,this.symm]
theorem uS {j:Nat}(hj:j<4):tP d q bo j=tP d q bo (j+1)++vi d q bo j:=by
 match j,hj with
 |0,_=>simp[tP]
 |1,_=>simp[tP]
 |2,_=>simp[tP]
 |3,_=>simp[tP]
theorem xF {j:Nat}(hj:j<=4){s:Span}(h:s∈tP d q bo j):∃k,j<=k/\k<4/\s∈vi d q bo k:=by
 induction k:4-j generalizing j with
 |zero=>
  have :j=4:=aj;subst this;cases h
 |succ k ih=>
  rw[uS aj]at h;rcases List.mem_append.1 h with h|h
  ·obtain⟨x,h1,h2,h3⟩:=ih aj h aj;exact⟨x,aj,h2,h3⟩
  ·exact⟨j,ai _,aj,h⟩
theorem DF (hP:BoP d N bo):∀(k:Nat) {j:Nat},j+k=4->jE (tP d q bo j)=true
 |0,j,h=>by
  have :j=4:=aj;subst this;rfl
 |k+1,j,h=>by
  rw[uS aj];refine yt (DF hP k aj) (F9 hP j) fun s hs t ht=>?_
  obtain⟨x,h1,h2,h3⟩:=xF aj hs;exact Nr hP aj h3 ht
theorem J0 (hP:BoP d N bo){j:Nat}(hj:j<4):((tP d q bo j).filter fun s=> !(vi d q bo j).contains s)=tP d q bo (j+1):=by
 rw[uS hj,List.filter_append,List.filter_eq_self.2,List.filter_eq_nil_iff.2,List.append_nil]
 ·intro s hs;simpa using hs
 ·intro s hs;obtain⟨x,h1,h2,h3⟩:=xF aj hs;rw[Bool.not_eq_true',Bool.eq_false_iff];intro hc;exact ZN (Nr hP (show x≠j by omega) h3 (by simpa using hc))
theorem Bu {j:Nat}{s:Span}(h:s∈vi d q bo j):s.2.1=s.1+1:=by
 rcases nA.1 h with rfl|rfl|⟨b,hb,rfl⟩<;>rfl
theorem Rn {s t:Span}(h:ZO s t=true)(hs:s.2.1=s.1+1)(ht:t.2.1=t.1+1):wN s t=true:=by
 unfold ZO at h;unfold wN;rw[Bool.or_eq_true]at h;rcases h with h|h
 ·have h:s.1≠t.1:=by simpa using h
  rcases Nat.lt_or_gt_of_ne h with h|h
  ·rw[Nat.ble_eq_true_of_le aj];rfl
  ·rw[show Nat.ble t.2.1 s.1=true from Nat.ble_eq_true_of_le aj];simp
 ·rw[Bool.or_eq_true];exact .inr h
theorem xI (hP:BoP d N bo)(hd:d<N){j:Nat}{s:Span}(h:s∈vi d q bo j):s.2.1<=N:=by
 rcases nA.1 h with rfl|rfl|⟨b,hb,rfl⟩
 ·exact hd
 ·exact hd
 ·exact(hP.ne hb).2
theorem CV {j b:Nat}(hb:b≠d)(KR:bo j≠some b){s:Span}(h:s∈vi d q bo j)(h1:s.1<=b)(h2:b<s.2.1):False:=by
 rcases nA.1 h with rfl|rfl|⟨c,hc,rfl⟩
 ·exact hb (by unfold sp at h1 h2;simp at h1 h2;omega)
 ·exact hb (by unfold sp at h1 h2;simp at h1 h2;omega)
 ·simp at h1 h2;have :b=c:=aj;exact KR (this▸hc)
end
structure Ib (S:Nat->Prop)(M M':Mem):Prop where
 next:M.next<=M'.next
 blk:∀b,b<M.next->¬S b->M'.blk b=M.blk b
theorem Ib.trans{S:Nat->Prop}{M M1 M2:Mem}(h:Ib S M M1)(k:Ib S M1 M2):Ib S M M2:=⟨cp h.next k.next,fun b hb hd=>(k.blk b (aW hb h.next) hd).trans (h.blk b hb hd)⟩
theorem Ib.mono{S S':Nat->Prop}{M M':Mem}(h:Ib S M M')(k:∀b,b<M.next->S b->S' b):Ib S' M M':=⟨h.next,fun b hb hs=>h.blk b hb fun x=>hs (k b hb x)⟩
theorem Kp.Wr{M M':Mem}{S:Nat->Prop}(k:Kp M M' S):Ib S M M':=⟨k.next,k.blk⟩
structure DQ (M:Mem)(w d q N0 Np j:Nat)(bo:Nat->Option Nat):Prop where
 sd:Sd M
 wg:M.wg=some w
 pend:M.pend.length=j
 bd:M.base<=d/\∀k b,bo k=some b->M.base<=b
 opn:M.opn=tP d q bo j
 bl:∀t∈M.bl,(∃k,k<j/\t∈vi d q bo k)\/(t.2.2=none/\N0<=t.1/\t.2.1<=Np)
 dn:d<N0
 bp:BoP d N0 bo
 n0:N0<=Np
 np:Np<=M.next
theorem DQ.ext{M M':Mem}{w d q N0 Np j:Nat}{bo:Nat->Option Nat}(h:DQ M w d q N0 Np j bo)(k:Kp M M' fu):DQ M' w d q N0 Np j bo:=
 ⟨h.sd.ext k,k.wg.trans h.wg,by rw[k.pend];exact h.pend,by rw[k.base];exact h.bd,k.opn.trans h.opn,by rw[k.bl];exact h.bl,h.dn,h.bp,h.n0,cp h.np k.next⟩
theorem DQ.yL{M:Mem}{w d q N0 Np j b:Nat}{bo:Nat->Option Nat}(h:DQ M w d q N0 Np j bo)(hb:b≠d)(KR:∀k,k<j->bo k≠some b)(hc:b<N0\/Np<=b):aL M.bl b=false:=by
 refine g8 fun x hx h1 h2=>?_
 rcases h.bl x hx with⟨k,hk,hx⟩|⟨h3,h4,h5⟩
 ·exact CV hb (KR k hk) hx h1 h2
 ·omega
section
variable {K:gS}{fl go sh ga em t sz:Nat}
theorem Vp (L:Kin fl go sh ga em t)(ht:sN.contains (t,sz)=true){α:Type}{E:nU α}{X:Nat->Prop}{fs hi szd:Nat}{cap:Array ae}{st:Nat->List α}{m0 M aX:Mem}{w d q N0 Np j t0 t5 bi bf bt fr to:Nat}{bo:Nat->Option Nat}{cs:List ae}{sv0:ae}(hK:AY K)(eD:yy KW m0 X fs cap E sz st hi)(hXd:X d)(hXb:∀k b,bo k=some b->X b)
  (hm0:m0.next<=N0)(hv0:m0.bl=[])(h0:∀b,b<m0.next->¬X b->aX.blk b=m0.blk b)(Y3:lu w d q M=some aX)(hj:j<4)(wU:DQ aX w d q N0 Np j bo)
  (fG:sj X0 (.func (.func go) #[] #[vP t0 0,vP bi 0,vP bf 0,vP bt 0,vP t5 0]) M=some (d,q,j))(ro:RO aX d szd cs)(hlen:q+8<cs.length)(wW:cs[q+2*j]?=some sv0)(rH:Room sz aX sv0 (bo j))
  (r0:RO aX t0 0 [vP d q])(ri:RO aX bi 0 [vI (j:Int)])(rf:RO aX bf 0 [vI (fr:Int)])(rt:RO aX bt 0 [vI (to:Int)])(r5:RO aX t5 0 [.func (.func fs) #[] cap])
  (U9:∀x,x=t0\/x=bi\/x=bf\/x=bt\/x=t5->x≠d/\(∀k,bo k≠some x)/\(x<N0\/Np<=x))(hf:fr<=to)(hh:to<=hi)(hs:to<90000):
  ∃sv mw m2 BA BE M',Ev K 137 [vP w 0,.func (.func go) #[] #[vP t0 0,vP bi 0,vP bf 0,vP bt 0,vP t5 0]] M (.tuple #[]) M'/\DQ M' w d q N0 M'.next (j+1) bo/\M'.base=aX.base/\M'.home=aX.home/\RO M' d szd ((cs.set (q+2*j) sv).set (q+2*j+1) (vI 0))/\
   lP E sz BA BE m2 (gA st (to-fr) fr []) sv/\(∀b,BA b->bo j=some b\/iS mw m2 b)/\(∀b,BE b->iS mw m2 b)/\(∀b,M'.blk b=m2.blk b)/\M'.next=m2.next/\aX.next<=mw.next/\Ib (fun b=>b=d\/bo j=some b) aX M':=by
 have hsd:=wU.sd;have hP:=wU.bp;obtain⟨dC,Hj⟩:∃dC:ae,dC= .func (.func go) #[] #[vP t0 0,vP bi 0,vP bf 0,vP bt 0,vP t5 0]:=⟨_,rfl⟩;obtain⟨mb,JF⟩:∃mb,mb=lM aX w dC:=⟨_,rfl⟩;have nb:mb.next=aX.next+2:=by rw[JF];rfl
 have hbh:mb.bl=aX.bl:=by rw[JF];rfl
 have KR:mb.opn=aX.opn:=by rw[JF];rfl
 have nC:mb.base=aX.base:=by rw[JF];rfl
 have ali:mb.home=aX.home:=by rw[JF];rfl
 have hbw:mb.wg=aX.wg:=by rw[JF];rfl
 have hbp:mb.pend=aX.pend:=by rw[JF];rfl
 have sF:mb.deaf=aX.deaf:=by rw[JF];rfl
 have kz:∀b,b<aX.next->mb.blk b=aX.blk b:=fun b hb=>by rw[JF];exact ZH hb
 have ron:∀{b sz:Nat}{xs:List ae},RO aX b sz xs->RO mb b sz xs:=fun h=>by
  have e:=kz _ h.lt;exact⟨by have :=h.lt;omega,by rw[e];exact h.kind,by rw[e];exact h.sz,by rw[e];exact h.cs⟩
 obtain⟨l,hl⟩:∃l,l=vi d q bo j:=⟨_,rfl⟩;obtain⟨rest,hZ⟩:∃r,r=tP d q bo (j+1):=⟨_,rfl⟩;have hdN:=wU.dn;have hnN:=wU.n0;have hnp:=wU.np;have OR:∀(T:List Span) x,(x=q+2*j\/x=q+2*j+1)->(∀t∈T,(∃k,k≠j/\t∈vi d q bo k)\/(t.2.2=none/\N0<=t.1/\t.2.1<=Np))->meets T d x 1=false:=by
  intro T x hx hT;unfold meets;rw[List.any_eq_false];intro t ht;rcases hT t ht with⟨k,hk,hs⟩|⟨h1,h2,h3⟩
  ·rcases nA.1 hs with rfl|rfl|⟨c,hc,rfl⟩
   ·simp only[sp,ag,jQ];rintro⟨_,h5,h6⟩;omega
   ·simp only[sp,ag,jQ];rintro⟨_,h5,h6⟩;omega
   ·simp only[ag,jQ];rintro⟨⟨h5,h6⟩,_⟩;exact(hP.ne hc).1 aj
  ·simp only[ag,jQ];rintro⟨⟨h5,_⟩,_⟩;omega
 have Y2:∀t∈aX.bl,(∃k,k≠j/\t∈vi d q bo k)\/(t.2.2=none/\N0<=t.1/\t.2.1<=Np):=fun t ht=>by
  rcases wU.bl t ht with⟨k,hk,h⟩|h
  ·exact .inl ⟨k,aj,h⟩
  ·exact .inr h
 have IJ:∀t∈rest,∃k,k≠j/\k<4/\t∈vi d q bo k:=fun t ht=>by
  rw[hZ]at ht;obtain⟨k,h1,h2,h3⟩:=xF aj ht;exact⟨k,aj,h2,h3⟩
 have ado:∀x,x=q+2*j\/x=q+2*j+1->meets aX.bl d x 1=false:=fun x hx=>OR _ x hx Y2
 have hle:∀t∈aX.bl,t.2.1<=Np:=by
  intro t ht;rcases wU.bl t ht with⟨k,hk,h⟩|⟨h1,h2,h3⟩
  ·have :=xI hP hdN h;omega
  ·exact h3
 have ahJ:Ae mb d q j=some l:=by
  unfold Ae;rw[(ron ro).G4 wW (by rw[hbh];exact ado _ (.inl rfl)),hl];unfold vi;rcases rH with⟨h1,rfl⟩|⟨b,lb,xs,h1,rfl,_⟩
  ·rw[h1];rfl
  ·rw[h1];rfl
 obtain⟨mw,OQ⟩:∃mw,mw=dv mb l rest:=⟨_,rfl⟩;have nw:mw.next=mb.next:=by rw[OQ];rfl
 have hwh:mw.bl=rest++aX.bl:=by rw[OQ];show rest++mb.bl=_;rw[hbh]
 have hwo:mw.opn=l:=by rw[OQ];rfl
 have hwb:mw.base=aX.base:=by rw[OQ];exact nC
 have DU:mw.floor=mb.next:=by rw[OQ];rfl
 have UJ:∀b,mw.blk b=mb.blk b:=fun b=>by rw[OQ];rfl
 have row:∀{b sz:Nat}{xs:List ae},RO aX b sz xs->RO mw b sz xs:=fun h=>by
  have h:=ron h;have e:=UJ;exact⟨by have :=h.lt;omega,by rw[e];exact h.kind,by rw[e];exact h.sz,by rw[e];exact h.cs⟩
 have yL:∀b,b≠d->(∀k,k≠j->bo k≠some b)->(b<N0\/Np<=b)->aL mw.bl b=false:=by
  intro b hb hk hc;rw[hwh];refine g8 fun x hx h1 h2=>?_
  rcases List.mem_append.1 hx with hx|hx
  ·obtain⟨k,MA,_,hs⟩:=IJ x hx;exact CV hb (hk k MA) hs h1 h2
  ·rcases Y2 x hx with⟨k,MA,hs⟩|⟨h3,h4,h5⟩
   ·exact CV hb (hk k MA) hs h1 h2
   ·omega
 have gw:Gd mw:=by
  refine⟨by rw[OQ];rfl,by rw[OQ];exact sF.trans hsd.deaf,by rw[hwb,DU];have :=hsd.bf;have :=hsd.fn;omega,by rw[DU,nw];exact ai _,by rw[OQ];exact ai _,fun s hs=>?_⟩;rw[hwh]at hs;rcases List.mem_append.1 hs with hs|hs
  ·obtain⟨k,_,_,h⟩:=IJ s hs;have :=xI hP hdN h;omega
  ·have :=hle s hs;omega
 have fj:sO (fun b=>¬X b) m0 mw:=by
  refine⟨aj,fun b hb hl=>⟨?_,fun _=>yL b (fun e=>hb (e▸hXd)) (fun k _ e=>hb (hXb k b e)) (.inl aj)⟩⟩;rw[UJ,kz b aj,h0 b hl hb]
 have ahG:∀x,x=q+2*j\/x=q+2*j+1->meets mw.bl d x 1=false:=by
  intro x hx;rw[hwh];refine OR _ x hx fun t ht=>?_
  rcases List.mem_append.1 ht with ht|ht
  ·obtain⟨k,h1,_,h2⟩:=IJ t ht;exact .inl ⟨k,h1,h2⟩
  ·exact Y2 t ht
 have hww:∀x,x=q+2*j\/x=q+2*j+1->mw.cS d x 1=true:=by
  intro x hx;unfold Mem.cS;rw[ahG x hx,hwo,hwb];have JN:bz l d (x+0)=true:=by
   unfold bz;rw[hl,List.any_eq_true];exact⟨sp d x,nA.2 (by rcases hx with rfl|rfl<;>simp),by simp[sp]⟩
  have sF:=wU.bd.1;simp only[Bool.not_false,Bool.true_and,ag,Bool.or_eq_true,jQ];refine⟨sF,.inr ?_⟩
  show((List.range 1).all fun i=>bz l d (x+i))=true
  rw[aB];intro i hi;have :i=0:=by simpa using hi
  subst this;exact JN
 have vr:∀b,bo j=some b->Own mw b:=by
  intro b hb;unfold Own Mem.ft;rw[yL b (hP.ne hb).1 (fun k hk e=>hk (hP.inj e hb)) (.inl (hP.ne hb).2),hwo,hwb];have h1:=wU.bd.2 j b hb;have h2:gT l b=true:=by
   unfold gT;rw[hl,List.any_eq_true];exact⟨(b,b+1,none),nA.2 (.inr (.inr ⟨b,hb,rfl⟩)),de⟩
  rw[h2];simp[h1]
 have ac9:Room sz mw sv0 (bo j):=by
  rcases rH with h|⟨b,lb,xs,h1,h2,h3,h4⟩
  ·exact .inl h
  ·exact .inr ⟨b,lb,xs,h1,h2,row h3,h4⟩
 have rod:=row ro;obtain⟨sv,m2,BA,BE,alK,k2,ro2,xR,H6,EC⟩:=alU (K:=KW) (fr:=fr) (to:=to) (d:=d) (o:=q+2*j) L ht eD gw fj rod wW aj ac9 vr (fun b hb=>⟨hXb j b hb,(hP.ne hb).1,by have :=(hP.ne hb).2;omega⟩) (ahG _ (.inl rfl)) (hww _ (.inl rfl)) (hww _ (.inr rfl)) hf hh hs;have Sc:∀x,x=t0\/x=bi\/x=bf\/x=bt\/x=t5->aL mw.bl x=false:=fun x hx=>yL x (U9 x hx).1 (fun k _=>(U9 x hx).2.1 k) (U9 x hx).2.2
 have l0:=aN (o:=0) ((row r0).obj (Sc _ de)) rfl;have l1:=aN (o:=0) ((row ri).obj (Sc _ de)) rfl;have l2:=aN (o:=0) ((row rf).obj (Sc _ de)) rfl;have l3:=aN (o:=0) ((row rt).obj (Sc _ de)) rfl;have l4:=aN (o:=0) ((row r5).obj (Sc _ de)) rfl;have alL:Ev KW go [vP t0 0,vP bi 0,vP bf 0,vP bt 0,vP t5 0] mw (.tuple #[]) m2:=
  aJ (L.abW t0 bi bf bt t5 d q j fr to fs cap) (.mem l0<| .mem l1<| .idx rfl hj<| .mem l2<| .mem l3<| .mem l4<| .mem (bM gw)<| .call (by rw[show q+j*2=q+2*j by omega];exact alK) .nil) L.spec.2.2.1
 obtain⟨M',RN⟩:∃M',M'=jR mb m2 l rest:=⟨_,rfl⟩;have gE:Ev KW go (#[vP t0 0,vP bi 0,vP bf 0,vP bt 0,vP t5 0]:Array ae).toList (dv (lM aX w (.func (.func go) #[] #[vP t0 0,vP bi 0,vP bf 0,vP bt 0,vP t5 0])) l rest) (.tuple #[]) m2:=by
  rw[<-Hj,<-JF,<-OQ];exact alL
 have Y9:m2.deaf=0:=by rw[k2.deaf];exact gw.deaf
 have hgo:=SF hK fG Y3 (by rw[<-Hj,<-JF];exact ahJ) (rest:=rest) (by rw[hZ,hl,wU.opn,J0 hP hj]) hsd.deaf (by rw[wU.pend];exact hj)
  (by
   rw[aB,hl];intro s hs;rw[wU.opn,uS hj];simp[hs])
  (by rw[hl];exact F9 hP j)
  (by
   rw[aB,hl];intro s hs;rw[aB];intro t ht;have :(∃k,k≠j/\t∈vi d q bo k)\/(t.2.2=none/\N0<=t.1/\t.2.1<=Np):=by
    rcases List.mem_append.1 ht with ht|ht
    ·obtain⟨k,h1,_,h2⟩:=IJ t ht;exact .inl ⟨k,h1,h2⟩
    ·exact Y2 t ht
   rcases this with⟨k,h1,h2⟩|⟨h1,h2,h3⟩
   ·exact Rn (Nr hP (fun e=>h1 e.symm) hs h2) (Bu hs) (Bu h2)
   ·unfold wN;have :=xI hP hdN hs;rw[show Nat.ble s.2.1 t.1=true from Nat.ble_eq_true_of_le aj];rfl)
  (by
   rw[aB];intro t ht;refine Nat.ble_eq_true_of_le ?_;have :∃k,t∈vi d q bo k:=by
    rcases List.mem_append.1 ht with ht|ht
    ·obtain⟨k,_,_,h2⟩:=IJ t ht;exact⟨k,h2⟩
    ·exact⟨j,hl▸ht⟩
   obtain⟨k,h⟩:=this;have :=xI hP hdN h;omega)
  (by
   rw[aB,hl];intro s hs;rw[<-Hj,<-JF,Bu hs];have :(mb.blk s.1).kind=1:=by
    rcases nA.1 hs with rfl|rfl|⟨b,hb,rfl⟩
    ·exact(ron ro).kind
    ·exact(ron ro).kind
    ·rcases rH with⟨h,_⟩|⟨b',lb,xs,h1,_,h3,_⟩
     ·rw[hb]at h;cases h
     ·rw[hb]at h1;cases h1;exact(ron h3).kind
   rw[this,Nat.beq_refl];rfl)
  gE Y9
 rw[<-Hj,<-JF,<-RN]at hgo;have nM:M'.next=m2.next:=by rw[RN];rfl
 have JQ:∀b,M'.blk b=m2.blk b:=fun b=>by rw[RN];rfl
 have n2:=k2.next;have O2:M'.bl=(mb.next,m2.next,none)::(l++aX.bl):=by rw[RN,<-hbh];rfl
 have JR:M'.base=aX.base:=by rw[RN];exact k2.base.trans hwb
 have ah6:M'.home=aX.home:=by rw[RN];exact ali
 have ahP:∀t∈M'.bl,(∃k,k<j+1/\t∈vi d q bo k)\/(t.2.2=none/\N0<=t.1/\t.2.1<=M'.next):=by
  intro t ht;rw[O2]at ht;rcases aI.1 ht with rfl|ht
  ·exact .inr ⟨rfl,by show N0<=mb.next;omega,by show m2.next<=M'.next;omega⟩
  ·rcases List.mem_append.1 ht with ht|ht
   ·exact .inl ⟨j,aj,hl▸ht⟩
   ·rcases wU.bl t ht with⟨k,hk,h⟩|⟨h1,h2,h3⟩
    ·exact .inl ⟨k,aj,h⟩
    ·exact .inr ⟨h1,h2,aj⟩
 refine⟨sv,mw,m2,BA,BE,M',by rw[<-Hj];exact hgo,⟨⟨by rw[RN];exact Y9,?_,?_,?_,?_⟩,?_,?_,by rw[JR];exact wU.bd,by rw[RN];exact hZ,ahP,hdN,hP,aj,ai _⟩,JR,ah6,?_,xR,H6,EC,JQ,nM,aj,⟨aj,?_⟩⟩
 ·rw[JR,show M'.floor=m2.next by rw[RN];rfl];have :=hsd.bf;have :=hsd.fn;omega
 ·rw[show M'.floor=m2.next by rw[RN];rfl];omega
 ·rw[ah6];have :=hsd.hn;omega
 ·intro t ht;rcases ahP t ht with⟨k,hk,h⟩|⟨_,_,h⟩
  ·have :=xI hP hdN h;omega
  ·exact h
 ·rw[RN];exact hbw.trans wU.wg
 ·rw[RN]
  show(_::mb.pend).length=j+1
  rw[List.length_cons,hbp,wU.pend]
 ·exact⟨by have :=ro2.lt;omega,by rw[JQ];exact ro2.kind,by rw[JQ];exact ro2.sz,by rw[JQ];exact ro2.cs⟩
 ·intro b hb hd;rw[JQ,k2.blk b aj hd,UJ,kz b hb]
end
end Go.AM
namespace Go.AM
set_option maxRecDepth 1000000
open Go Go.Conc Go.Proofs
structure km (m:Mem)(d q sz:Nat)(cs:List ae)(bo:Nat->Option Nat)(al:Option Nat):Prop where
 len:q+8<cs.length
 sh:∀j,j<4->∃sv,cs[q+2*j]?=some sv/\Room sz m sv (bo j)
 hi:∀j,4<=j->bo j=none
 inj:∀{i j b},bo i=some b->bo j=some b->i=j
 ne:∀{j b},bo j=some b->b≠d/\m.base<=b
 all:∃sv,cs[q+8]?=some sv/\Room sz m sv al
 Ia:∀{p},al=some p->p≠d/\m.base<=p/\∀j,bo j≠some p
def P5 {α:Type}(st:Nat->List α)(n j:Nat):List α:=gA st (D9 n j-tr n j) (tr n j) []
theorem Room.ext{sz:Nat}{m m':Mem}{sv:ae}{o:Option Nat}{S:Nat->Prop}(h:Room sz m sv o)(k:Ib S m m')(hS:∀b,o=some b->¬S b):Room sz m' sv o:=by
 rcases h with h|⟨b,l,xs,e1,e2,r,hl⟩
 ·exact .inl h
 ·have e:=k.blk b r.lt (hS b e1);exact .inr ⟨b,l,xs,e1,e2,⟨aW r.lt k.next,by rw[e];exact r.kind,by rw[e];exact r.sz,by rw[e];exact r.cs⟩,hl⟩
theorem km.lt{m:Mem}{d q sz j b:Nat}{cs:List ae}{bo:Nat->Option Nat}{al:Option Nat}(h:km m d q sz cs bo al)(hb:bo j=some b):b<m.next:=by
 rcases Nat.lt_or_ge j 4 with hj|hj
 ·obtain⟨sv,_,hr⟩:=h.sh j hj;rcases hr with⟨h1,_⟩|⟨b',_,_,h1,_,h3,_⟩
  ·rw[hb]at h1;cases h1
  ·rw[hb]at h1;cases h1;exact h3.lt
 ·rw[h.hi j hj]at hb;cases hb
theorem km.kind{m:Mem}{d q sz j b:Nat}{cs:List ae}{bo:Nat->Option Nat}{al:Option Nat}(h:km m d q sz cs bo al)(hb:bo j=some b):∃xs,RO m b sz xs:=by
 rcases Nat.lt_or_ge j 4 with hj|hj
 ·obtain⟨sv,_,hr⟩:=h.sh j hj;rcases hr with⟨h1,_⟩|⟨b',_,xs,h1,_,h3,_⟩
  ·rw[hb]at h1;cases h1
  ·rw[hb]at h1;cases h1;exact⟨xs,h3⟩
 ·rw[h.hi j hj]at hb;cases hb
theorem QR {M:Mem}{w d q sz:Nat}{cs:List ae}{bo:Nat->Option Nat}{al:Option Nat}(cm:Calm M)(o:Obj M d 0 cs)(hb:M.base<=d)(hB:km M d q sz cs bo al)
  (ow:Obj M w 0 [.int .u64 0,.int .u32 0])(hp:(M.blk w).pos=1)(hw:Own M w)(hwd:d≠w)(hwb:∀j,bo j≠some w):
  lu w d q M=some {M.a8 w {}with wg:=some w,opn:=tP d q bo 0,floor:=M.next}:=by
 have hP:BoP d M.next bo:=⟨fun h=>⟨(hB.ne h).1,hB.lt h⟩,hB.inj⟩;have hlen:=hB.len;have l:∀j,j<4->Ae M d q j=some (vi d q bo j):=by
  intro j hj;obtain⟨sv,hs,hr⟩:=hB.sh j hj;unfold Ae;rw[o.ro.G4 hs (gv o.yL _ _)];unfold vi;rcases hr with⟨h1,rfl⟩|⟨b,lb,xs,h1,rfl,_⟩
  ·rw[h1];rfl
  ·rw[h1];rfl
 have oh:oN M d q 4=some (tP d q bo 0):=by
  unfold oN oN oN oN oN;rw[l 0 aj,l 1 aj,l 2 aj,l 3 aj];simp[tP]
 unfold lu;rw[cm.wg,oh,jx ow (o:=0) (n:=2) (vs:=[.int .u64 0,.int .u32 0]) rfl (ai _)]
 show(if _ then _ else none)=_
 rw[bC];have h1:=hw.may 0 2;have h2:M.ft w=true:=hw;have h3:(M.blk w).cs.length=2:=by rw[ow.cs];rfl
 have h4:(tP d q bo 0).all (fun s=>wj M s&&s.1 !=w)=true:=by
  rw[aB];intro s hs;obtain⟨k,_,hk,hs⟩:=xF aj hs;unfold wj;have hd:∀x,x<q+8->(wj M (sp d x)&&(sp d x).1 !=w)=true:=by
   intro x hx;have e2:(M.blk d).cs[x]?=some (some cs[x]!):=by
    rw[o.cs,List.getElem?_map,List.getElem?_eq_getElem aj];simp[List.getElem!_eq_getElem?_getD,List.getElem?_eq_getElem (show x<cs.length by omega)]
   show((((((decide (d+1=d+1)&&decide (M.base<=d))&&decide (M.floor<=d))&&decide (d<M.next))&&(M.blk d).kind==1)&&(((M.blk d).cs[x]?).any (·.isSome)))&&(d !=w))=true
   have hf:M.floor<=d:=by rw[cm.floor];exact hb
   rw[e2,o.kind];simp[hb,hf,o.lt,hwd]
  rcases nA.1 hs with rfl|rfl|⟨b,iB,rfl⟩
  ·exact hd _ aj
  ·exact hd _ aj
  ·obtain⟨xs,r⟩:=hB.kind iB;have hbw:b≠w:=fun e=>hwb k (e▸iB)
   have hf:M.floor<=b:=by rw[cm.floor];exact(hB.ne iB).2
   show((((((decide (b+1=b+1)&&decide (M.base<=b))&&decide (M.floor<=b))&&decide (b<M.next))&&(M.blk b).kind==1)&&((M.blk b).cs.all (·.isSome)))&&(b !=w))=true
   rw[r.kind,r.cs];simp[(hB.ne iB).2,hf,r.lt,hbw]
 have h5:jE (tP d q bo 0)=true:=DF hP 4 rfl;simp[h1,h2,hp,h3,cm.bl,cm.opn,cm.gd.pend,cm.floor,h4,h5]
def Rt (m:Mem)(d q n sz:Nat){α:Type}(E:nU α)(st:Nat->List α)(bo:Nat->Option Nat)(xs:List ae)(M:Mem)(BA:Nat->Prop)(k:Nat):Prop:=
 ∃sv mw m2 BE,xs[q+2*k]?=some sv/\xs[q+2*k+1]?=some (vI 0)/\(lP E sz BA BE m2 (P5 st n k) sv/\∀b,BE b->iS mw m2 b)/\(∀b,BA b->bo k=some b\/iS mw m2 b)/\m.next<=mw.next/\Ib (fun b=>b=d\/∃i,k<i/\bo i=some b) m2 M
theorem Rt.set{m M M':Mem}{d q n sz k j:Nat}{α:Type}{E:nU α}{st:Nat->List α}{bo:Nat->Option Nat}{xs:List ae}{a b:ae}{BA:Nat->Prop}(h:Rt m d q n sz E st bo xs M BA k)(hk:k<j)(r:Ib (fun b=>b=d\/bo j=some b) M M'):Rt m d q n sz E st bo ((xs.set (q+2*j) a).set (q+2*j+1) b) M' BA k:=by
 obtain⟨sv,mw,m2,BE,h1,h2,h3,h4,h5,h6⟩:=h;exact⟨sv,mw,m2,BE,by rw[List.getElem?_set_ne aj,List.getElem?_set_ne aj];exact h1,by rw[List.getElem?_set_ne aj,List.getElem?_set_ne aj];exact h2,h3,h4,h5,h6.trans (r.mono fun y _ hy=>hy.elim .inl fun e=> .inr ⟨j,hk,e⟩)⟩
section
variable {K:gS}{fl go sh ga em t sz:Nat}
theorem SI (hgo:go=X0.FQ\/go=X0.FP){M:Mem}{t0 bi bf bt t5 d q j:Nat}(h0:M.dB t0 0 1=some [vP d q])(hi:M.dB bi 0 1=some [vI (j:Int)]):sj X0 (.func (.func go) #[] #[vP t0 0,vP bi 0,vP bf 0,vP bt 0,vP t5 0]) M=some (d,q,j):=by
 unfold sj
 show(if go=X0.FQ\/go=X0.FP then _ else none)=_
 rw[bC hgo]
 show(match M.dB t0 0 1,M.dB bi 0 1 with |some [.pointer (some ⟨d,o,none⟩)],some [.int .i64 i]=>if 0<=i then some (d,o,i.toNat)else none|_,_=>none)=_
 rw[h0,hi]
 show(if(0:Int)<=(j:Int)then some (d,q,((j:Int)).toNat)else none)=_
 rw[bC aj];rfl
theorem MQ (L:Kin fl go sh ga em t)(ht:sN.contains (t,sz)=true){α:Type}{E:nU α}{X:Nat->Prop}{fs n:Nat}{cap:Array ae}{st:Nat->List α}{m:Mem}{d q:Nat}{cs:List ae}{bo:Nat->Option Nat}{al:Option Nat}(hK:AY K)(eD:yy KW m X fs cap E sz st n)(hXd:X d)(hXb:∀k b,bo k=some b->X b)
  (cm:Calm m)(o:Obj m d 0 cs)(hb:m.base<=d)(hB:km m d q sz cs bo al)(hs:n<9000):
  ∃t M xs b3 b8,(∀t' M',aU K (j0 fl) (cI fl) 5 ⟨t,M,[]⟩ .ret ⟨t',M',[]⟩->aU K (j0 fl) (cI fl) 0 ⟨entry [vP d q,vI n,.func (.func fs) #[] cap],m,[]⟩ .ret ⟨t',M',[]⟩)/\
   dL [3,8] t=[vP b3 0,vP b8 0]/\RO M b3 0 [vP d q]/\m.next<=b3/\m.next<=b8/\(∃N0 Np,DQ M b8 d q N0 Np 4 bo/\m.next<=N0)/\M.base=m.base/\M.home=m.home/\Ib (fun b=>b=d\/∃i,bo i=some b) m M/\
   RO M d 0 xs/\xs.length=cs.length/\(∀x,x<q\/q+8<=x->xs[x]?=cs[x]?)/\∃BA:Nat->Nat->Prop,(∀k,k<4->Rt m d q n sz E st bo xs M (BA k) k)/\(∀i k b,i<k->k<4->BA i b->¬BA k b)/\∀k b,k<4->BA k b->bo k=some b\/(m.next<=b/\b<M.next):=by
 have g:=cm.gd;have hl:=hB.len;obtain⟨b3,hb3⟩:∃b,b=m.next:=⟨_,rfl⟩;obtain⟨m1,e1,o1,k1,n1,_⟩:=aV g [vP d q];obtain⟨b5,hb5⟩:∃b,b=m1.next:=⟨_,rfl⟩;obtain⟨m2,e2,o2,k2,n2,_⟩:=aV (g.ext k1) [.func (.func fs) #[] cap];obtain⟨b8,hb8⟩:∃b,b=m2.next:=⟨_,rfl⟩;have kg:=k1.aS k2;obtain⟨m3,e3,o3,k3,n3,iL⟩:=aV (g.ext kg) [.int .u64 0,.int .u32 0];rw[<-hb3]at e1 o1;rw[<-hb5]at e2 o2;rw[<-hb8]at e3 o3 iL;have jG:=kg.aS k3;have RJ:=o.lt;have JO:∀j b,bo j=some b->b<m.next:=fun j b h=>hB.lt h
 obtain⟨t0,w0,e0⟩:=cX (K:=K) (m:=m) (m':=m3) (tm:=entry [vP d q,vI n,.func (.func fs) #[] cap]) (L.ab2 d q n fs b3 b5 b8 ((n+3) / 4) cap) rfl (.mem e1<| .mem e2<| .mem e3<| .val (size_eq aj _) .nil);have iW:RE true (((n+3) / 4:Nat):Int) 8=((KG n:Nat):Int):=acH _ 8;rw[iW]at e0;have te:=cm.ext jG;have akL:KG n<=9000:=by unfold KG;omega
 obtain⟨e,t1,M,he,hx,rfl,hg,YQ,ak1,JR,O2,hMk,xs,hro,Ww,OJ,BAs,fG,EA,EB⟩:=fL (K:=K) (nt:=j0 fl) (a:=oI (cI fl) [4]) 4
  (Inv:=fun j tm M=>dL [1,3,5,8,9,18] tm=[vI n,vP b3 0,vP b5 0,vP b8 0,vI (KG n:Nat),vI j]/\RO M b3 0 [vP d q]/\RO M b5 0 [.func (.func fs) #[] cap]/\((j=0/\M=m3)\/∃N0 Np,DQ M b8 d q N0 Np j bo/\m3.next<=N0)/\M.base=m.base/\M.home=m.home/\m3.next<=M.next/\Ib (fun b=>b=d\/∃i,i<j/\bo i=some b) m M/\
   ∃xs,RO M d 0 xs/\xs.length=cs.length/\(∀x,x<q\/q+2*j<=x->xs[x]?=cs[x]?)/\∃BA:Nat->Nat->Prop,(∀k,k<j->Rt m d q n sz E st bo xs M (BA k) k)/\(∀i k b,i<k->k<j->BA i b->¬BA k b)/\∀k b,k<j->BA k b->bo k=some b\/(m.next<=b/\b<M.next))
  (dQ:=fun e tm M=>e= .exit 0/\dL [3,8] tm=[vP b3 0,vP b8 0]/\RO M b3 0 [vP d q]/\(∃N0 Np,DQ M b8 d q N0 Np 4 bo/\m.next<=N0)/\M.base=m.base/\M.home=m.home/\Ib (fun b=>b=d\/∃i,bo i=some b) m M/\
   ∃xs,RO M d 0 xs/\xs.length=cs.length/\(∀x,x<q\/q+8<=x->xs[x]?=cs[x]?)/\∃BA:Nat->Nat->Prop,(∀k,k<4->Rt m d q n sz E st bo xs M (BA k) k)/\(∀i k b,i<k->k<4->BA i b->¬BA k b)/\∀k b,k<4->BA k b->bo k=some b\/(m.next<=b/\b<M.next))
  (by
   rintro j tm M hj ⟨hg,YQ,hr5,YN,JR,O2,hMn,hMk,xs,hro,Ww,OJ,BAs,fG,EA,EB⟩;refine .inl ?_;have sdM:Sd M:=by
    rcases YN with⟨_,rfl⟩|⟨N0,Np,h,_⟩
    ·exact te.gd.sd
    ·exact h.sd
   obtain⟨M1,M2,a1,a2,oi,ka,na⟩:=sdM.Se (vI 0) (vI j) rfl;have sd2:=sdM.ext ka;have ef:RE false (oK j (KG n:Nat)) n=((tr n j:Nat):Int):=by
    have hm:j*KG n<=3*9000:=Nat.mul_le_mul aj akL;rw[ag4 aj,T3];rfl
   obtain⟨M3,M4,a3,a4,of',kb,nb⟩:=sd2.Se (vI 0) (vI (tr n j:Nat)) rfl;have sd4:=sd2.ext kb;have et:RE false (fg (tr n j:Nat) ((KG n:Nat):Int)) n=((D9 n j:Nat):Int):=by
    have hm:tr n j<=9000:=by unfold tr;omega
    rw[V8 aj,T3];rfl
   obtain⟨M5,M6,a5,a6,ot,kc,nc⟩:=sd4.Se (vI 0) (vI (D9 n j:Nat)) rfl;have kM:Kp M M6 fu:=(ka.aS kb).aS kc;have nM6:M6.next=M.next+3:=aj;obtain⟨bi,hbi⟩:∃b,b=M.next:=⟨_,rfl⟩;obtain⟨bf,hbf⟩:∃b,b=M2.next:=⟨_,rfl⟩;obtain⟨bt,Za⟩:∃b,b=M4.next:=⟨_,rfl⟩;rw[<-hbi]at a1 a2 oi;rw[<-hbf]at a3 a4 of';rw[<-Za]at a5 a6 ot;have oi6:=(oi.aR kb).aR kc;have of6:=of'.aR kc;have r3:=YQ.ext kM id;have r5:=hr5.ext kM id;have rd:=hro.ext kM id;have l1:aP bi 0 M2=some (vI j,M2):=aN oi rfl;have l2:aP bf 0 M4=some (vI (tr n j:Nat),M4):=aN of' rfl;have H3:∀x,m.next<=x->∀k,bo k≠some x:=fun x hx k e=>by have :=JO k x e;omega
   have ag8:Ib (fun b=>b=d\/∃i,i<j/\bo i=some b) m M6:=hMk.trans (kM.Wr.mono fun _ _ h=>h.elim);have AS:∃aX N0 Np,lu b8 d q M6=some aX/\DQ aX b8 d q N0 Np j bo/\m3.next<=N0/\(∀b,b≠b8->aX.blk b=M6.blk b)/\aX.next=M6.next/\aX.base=M6.base/\aX.home=M6.home/\(M.next<N0+0/\N0=M6.next\/Np<=M.next)/\aL M6.bl b3=false/\aL M6.bl bi=false/\(0<j->aX=M6):=by
    rcases YN with⟨rfl,rfl⟩|⟨N0,Np,wU,hN0⟩
    ·have DW:=te.ext kM;have ow:=(o3.aR kM);have hp6:(M6.blk b8).pos=1:=by rw[kM.blk b8 aj id];exact iL
     have hd6:aL M6.bl d=false:=by rw[DW.bl];rfl
     have hB6:km M6 d q sz xs bo al:=by
      have e1:M6.base=m.base:=by rw[kM.base,JR]
      have kk:Ib fu m M6:=(jG.aS kM).Wr;refine⟨aj,fun j hj=>?_,hB.hi,hB.inj,fun h=>by rw[e1];exact hB.ne h,?_,fun h=>by rw[e1];exact hB.Ia h⟩
      ·obtain⟨sv,h1,h2⟩:=hB.sh j hj;exact⟨sv,by rw[OJ _ (.inr aj)];exact h1,h2.ext kk fun _ _ h=>h⟩
      ·obtain⟨sv,h1,h2⟩:=hB.all;exact⟨sv,by rw[OJ _ (.inr aj)];exact h1,h2.ext kk fun _ _ h=>h⟩
     have Y3:=QR DW (rd.obj hd6) (by rw[kM.base,JR];exact hb) hB6 ow hp6 (g.own (jG.aS kM) aj) aj (H3 b8 aj);refine⟨_,M6.next,M6.next,Y3,⟨⟨DW.gd.deaf,?_,ai _,DW.gd.hn,?_⟩,rfl,?_,?_,rfl,?_,aj,⟨fun h=>⟨(hB.ne h).1,hB6.lt h⟩,hB.inj⟩,ai _,ai _⟩,aj,?_,rfl,rfl,rfl,.inl ⟨aj,rfl⟩,by rw[DW.bl];rfl,by rw[DW.bl];rfl,fun h=>absurd h aj⟩
     ·show M6.base<=M6.next
      have :=DW.gd.bf;have :=DW.gd.fn;omega
     ·intro s hs;have hs:s∈M6.bl:=hs;rw[DW.bl]at hs;cases hs
     ·show M6.pend.length=0
      rw[DW.gd.pend];rfl
     ·refine⟨?_,fun k b h=>(hB6.ne h).2⟩
      show M6.base<=d
      rw[kM.base,JR];exact hb
     ·intro t ht;have ht:t∈M6.bl:=ht;rw[DW.bl]at ht;cases ht
     ·intro b iB
      show(M6.a8 b8 {}).blk b=_
      rw[Mem.dE,bS (fun e=>iB e.symm)]
    ·have Ym:=wU.ext kM;have Y3:lu b8 d q M6=some M6:=by
      unfold lu;rw[Ym.wg];exact bC rfl
     have hnp:=wU.np;have hn0:=wU.n0;have hdn:=wU.dn;exact⟨M6,N0,Np,Y3,Ym,hN0,fun _ _=>rfl,rfl,rfl,rfl,.inr hnp,Ym.yL aj (fun k _=>H3 b3 aj k) (.inl aj),Ym.yL aj (fun k _=>H3 bi aj k) (.inr aj),fun _=>rfl⟩
   obtain⟨aX,N0,Np,Y3,akv,hN0,WG,hn0,adC,adu,dO,ahj,ahi,ac7⟩:=AS;have ro0:∀{b:Nat}{ys:List ae},RO M6 b 0 ys->b≠b8->RO aX b 0 ys:=fun{b ys} h dH=>by
    have e:=WG b dH;exact⟨by rw[hn0];exact h.lt,by rw[e];exact h.kind,by rw[e];exact h.sz,by rw[e];exact h.cs⟩
   have ac4:sj X0 (.func (.func go) #[] #[vP b3 0,vP bi 0,vP bf 0,vP bt 0,vP b5 0]) M6=some (d,q,j):=
    SI L.fill (r3.G4 (o:=0) rfl (gv ahj _ _)) (oi6.ro.G4 (o:=0) rfl (gv ahi _ _))
   have hft:=adK n j;obtain⟨svj,akM,ada⟩:=hB.sh j hj;have hxj:xs[q+2*j]?=some svj:=by rw[OJ _ (.inr (ai _))];exact akM
   have km0:Ib (fun b=>b=d\/(∃i,i<j/\bo i=some b)\/m.next<=b) m aX:=⟨by have :=ag8.next;omega,fun b h1 h2=>by rw[WG b aj];exact ag8.blk b h1 fun h=>h2 (h.elim .inl fun h=> .inr (.inl h))⟩;have adb:Room sz aX svj (bo j):=ada.ext km0 fun b e h=>by
    rcases h with h|⟨i,hi,h⟩|h
    ·exact(hB.ne e).1 h
    ·have :=hB.inj h e;omega
    ·have :=JO j b e;omega
   have acD:∀{b:Nat},M.next<=b->b<M6.next->b≠d/\(∀k,bo k≠some b)/\(b<N0\/Np<=b):=fun h1 h2=>⟨aj,H3 _ aj,by rcases dO with h|h<;>omega⟩
   obtain⟨sv,mw,mq,BA,BE,M',hgo,akw,iB,U6,akR,xR,H6,EC,ah1,JE,OQ,hrk⟩:=Vp (m0:=m) (fr:=tr n j) (to:=D9 n j) L ht hK eD hXd hXb aj cm.bl (fun b hb hx=>km0.blk b hb fun h=>by
     rcases h with h|⟨i,_,h⟩|h
     ·exact hx (h▸hXd)
     ·exact hx (hXb i b h)
     ·omega) Y3 hj akv ac4 (ro0 rd aj) aj hxj adb
    (ro0 r3 aj) (ro0 oi6.ro aj) (ro0 of6.ro aj) (ro0 ot.ro aj) (ro0 r5 aj) (fun x hx=>by
     rcases hx with rfl|rfl|rfl|rfl|rfl
     ·exact⟨aj,H3 _ aj,.inl aj⟩
     ·exact acD aj aj
     ·exact acD aj aj
     ·exact acD aj aj
     ·exact⟨aj,H3 _ aj,.inl aj⟩) hft.1 hft.2 aj
   obtain⟨t2,fO,gp⟩:=bK (K:=K) (m:=M) (m':=M') L.Od (L.ab1 n b3 b5 b8 j bi bf bt (KG n:Nat) ((tr n j:Nat):Int)) hg
    (.cond (Jf hj)<| .mem a1<| .mem a2<| .mem l1<| .mem a3<| .mem (by rw[ef];exact a4)<| .mem l2<| .mem a5<| .mem (by rw[et];exact a6)<| .call hgo .nil)
   have nM':=hrk.next;have roM:∀{b:Nat}{ys:List ae},RO M6 b 0 ys->b≠d->bo j≠some b->b≠b8->RO M' b 0 ys:=fun{b ys} h h2 h4 h3=>by
    have e:M'.blk b=M6.blk b:=by rw[hrk.blk b (by have :=h.lt;omega) (fun h=>h.elim h2 h4),WG b h3]
    exact⟨by have :=h.lt;omega,by rw[e];exact h.kind,by rw[e];exact h.sz,by rw[e];exact h.cs⟩
   refine⟨t2,M',fO,by rw[gp,add1 aj],roM r3 aj (H3 _ aj j) aj,roM r5 aj (H3 _ aj j) aj,.inr ⟨N0,M'.next,akw,hN0⟩,by rw[iB,adC,kM.base,JR],by rw[U6,adu,kM.home,O2],aj,?_,(xs.set (q+2*j) sv).set (q+2*j+1) (vI 0),akR,by simp[Ww],?_,fun k=>if k=j then BA else BAs k,?_,?_,?_⟩
   ·refine⟨by have :=km0.next;omega,fun b h1 h2=>?_⟩;rw[hrk.blk b (by have :=km0.next;omega) fun h=>h2 (h.elim .inl fun h=> .inr ⟨j,aj,h⟩)];refine km0.blk b h1 fun h=>?_
    rcases h with h|⟨i,hi,h⟩|h
    ·exact h2 (.inl h)
    ·exact h2 (.inr ⟨i,aj,h⟩)
    ·omega
   ·intro x hx;rw[List.getElem?_set_ne aj,List.getElem?_set_ne aj];exact OJ x aj
   ·intro k hk
    by_cases MA:k<j
    ·have e0:=ac7 aj;subst e0;simp only[bS (show¬k=j by omega)];exact(fG k MA).set MA ((kM.Wr.mono fun _ _ h=>h.elim).trans hrk)
    ·have e:k=j:=aj;subst e;simp only[bC rfl];refine⟨sv,mw,mq,BE,?_,?_,⟨xR,EC⟩,H6,by have :=km0.next;omega,⟨aj,fun b _ _=>ah1 b⟩⟩
     ·rw[List.getElem?_set_ne aj,List.getElem?_set_self aj]
     ·rw[List.getElem?_set_self (by simp;omega)]
   ·intro i k b hik hk h1 h2
    by_cases MA:k=j
    ·simp only[bC MA]at h2;simp only[bS (show¬i=j by omega)]at h1;rcases EB i b aj h1 with h1|h1<;>rcases H6 b h2 with h2|h2
     ·have :=hB.inj h1 h2;omega
     ·have :=JO i b h1;have :=h2.1;have :=km0.next;omega
     ·have :=JO j b h2;omega
     ·have :=h2.1;omega
    ·simp only[bS MA]at h2;simp only[bS (show¬i=j by omega)]at h1;exact EA i k b hik aj h1 h2
   ·intro k b hk h
    by_cases MA:k=j
    ·simp only[bC MA]at h;rw[MA];rcases H6 b h with h|h
     ·exact .inl h
     ·exact .inr ⟨by have :=h.1;have :=km0.next;omega,by have :=h.2;omega⟩
    ·simp only[bS MA]at h;rcases EB k b aj h with h|h
     ·exact .inl h
     ·exact .inr ⟨h.1,aj⟩)
  (by
   rintro tm M ⟨hg,YQ,hr5,YN,JR,O2,hMn,hMk,xs,hro,Ww,OJ,BAs,fG,EA,EB⟩;obtain⟨t2,fO,gp⟩:=bK (K:=K) (m:=M) (m':=M) L.Od (L.ab0 n b3 b5 b8 4 (KG n:Nat)) hg (.cond (T9 4) .nil);rcases YN with⟨h,_⟩|⟨N0,Np,wU,hN0⟩
   ·omega
   ·exact⟨_,t2,M,lQ,fO,rfl,gp,YQ,⟨N0,Np,wU,aj⟩,JR,O2,hMk.mono fun b _ h=>h.elim .inl fun⟨i,_,h⟩=> .inr ⟨i,h⟩,xs,hro,Ww,OJ,BAs,fG,EA,EB⟩)
  (tm:=t0) (m:=m3) ⟨e0,((o1.aR k2).aR k3).ro,(o2.aR k3).ro,.inl ⟨rfl,rfl⟩,jG.base,jG.home,ai _,jG.Wr.mono fun _ _ h=>h.elim,cs,(o.aR jG).ro,rfl,fun _ _=>rfl,fun _=>fu,fun k hk=>absurd hk aj,fun _ k _ _ hk=>absurd hk aj,fun k _ hk=>absurd hk aj⟩ aj
 exact⟨t1,M,xs,b3,b8,fun t' M' h=>aU.cut w0 (aU.Cm L.acM L.acP hx rfl h),hg,YQ,aj,aj,ak1,JR,O2,hMk,hro,Ww,OJ,BAs,fG,EA,EB⟩
end
end Go.AM
namespace Go.AM
set_option maxRecDepth 1000000
open Go Go.Conc Go.Proofs
theorem B3 {α:Type}{st:Nat->List α}:∀(n i:Nat) (acc:List α),gA st n i acc=acc++gA st n i []
 |0,i,acc=>by simp[gA]
 |n+1,i,acc=>by
  unfold gA;rw[B3 n (i+1) (acc++st i),B3 n (i+1) ([]++st i),List.nil_append,List.append_assoc]
theorem I3 {α:Type}{st:Nat->List α}:∀(a b i:Nat) (acc:List α),gA st (a+b) i acc=gA st b (i+a) (gA st a i acc)
 |0,b,i,acc=>by rw[Nat.zero_add];rfl
 |a+1,b,i,acc=>by
  rw[show a+1+b=(a+b)+1 by omega]
  show gA st (a+b) (i+1) (acc++st i)=gA st b (i+(a+1)) (gA st a (i+1) (acc++st i))
  rw[I3 a b (i+1),show i+1+a=i+(a+1) by omega]
theorem ry {α:Type}{st:Nat->List α}(h1:∀i,(st i).length<=1):∀(n i:Nat) (acc:List α),(gA st n i acc).length<=acc.length+n
 |0,i,acc=>ai _
 |n+1,i,acc=>by
  unfold gA;have h:=ry h1 n (i+1) (acc++st i);have :=h1 i;simp at h;omega
theorem Ts {α:Type}{st:Nat->List α}{n:Nat}:gA (P5 st n) 4 0 []=gA st n 0 []:=by
 have hto:∀j,D9 n j=tr n (j+1):=fun j=>by
  unfold D9 tr;have :(j+1)*KG n=j*KG n+KG n:=by rw[Nat.add_mul,Nat.one_mul]
  omega
 have step:∀j acc,j<4->gA st (D9 n 3-tr n j) (tr n j) acc=gA st (D9 n 3-tr n (j+1)) (tr n (j+1)) (acc++P5 st n j):=fun j acc hj=>by
  have h1:=(adK n j).1;have hm:∀a b,a<=b->tr n a<=tr n b:=fun a b h=>by
   unfold tr;have :=Nat.mul_le_mul_right (KG n) h;omega
  have h2:=hm (j+1) 4 aj;have h3:D9 n 3=tr n 4:=hto 3;rw[show D9 n 3-tr n j=(D9 n j-tr n j)+(D9 n 3-tr n (j+1)) by rw[h3,hto];have :=hm j (j+1) aj;omega,I3,B3 (D9 n j-tr n j)];rw[show tr n j+(D9 n j-tr n j)=tr n (j+1) by rw[<-hto];omega];rfl
 have e1:tr n 0=0:=by unfold tr;omega
 have e2:D9 n 3=n:=by unfold D9 tr KG;omega
 have h3:D9 n 3=tr n 4:=hto 3;have :=step 0 [] aj;rw[step 1 _ aj,step 2 _ aj,step 3 _ aj,e1,e2,Nat.sub_zero,show n-tr n 4=0 by rw[<-h3,e2];omega]at this;exact this.symm
section
variable {K:gS}{fl go sh ga em t sz:Nat}
theorem alV (L:Kin fl go sh ga em t)(ht:sN.contains (t,sz)=true){m:Mem}{d q:Nat}{xs:List ae}{α:Type}{E:nU α}{B0:Nat->Prop}{res:Nat->List α}{al:Option Nat}{Rz:ae}(cm:Calm m)(o:Obj m d 0 xs)(hb:m.base<=d)(hl:q+8<xs.length)(hav:xs[q+8]?=some Rz)(har:Room sz m Rz al)(adH:∀p,al=some p->p≠d/\m.base<=p)(hB0:∀y,B0 y->y≠d/\al≠some y/\y<m.next)
  (hlen:∀k,(res k).length<=9000)(fG:∀k,k<4->∃sv BO BE,xs[q+2*k]?=some sv/\xs[q+2*k+1]?=some (vI 0)/\lP E sz BO BE m (res k) sv/\(∀b,BO b->b≠d/\al≠some b/\b<m.next)/\∀b,BE b->B0 b):
  ∃rv m' ys pj,Ev K ga [vP d q] m (.tuple #[rv,vI 0]) m'/\Kp m m' (fun y=>y=d\/al=some y)/\Obj m' d 0 ys/\ys.length=xs.length/\(∀x,x≠q+8->ys[x]?=xs[x]?)/\ys[q+8]?=some rv/\Room sz m' rv pj/\(∀p,pj=some p->iS m m' p)/\(aT E sz).R (fun b=>B0 b\/iS m m' b) (gA res 4 0 []) m' rv/\(al=none->gA res 4 0 []=[]->rv= .slice none 0 0/\pj=none):=by
 obtain⟨G,hG⟩:∃G,G=gA res 4 0 []:=⟨_,rfl⟩;rw[<-hG];have hd:=o.lt;obtain⟨a0,n0,c0,rfl⟩:∃a n c,Rz= .slice a n c:=by rcases har with⟨_,rfl⟩|⟨_,_,_,_,rfl,_⟩<;>exact⟨_,_,_,rfl⟩
 obtain⟨RA,m1,e1,k1,Ow⟩:=ZG (K:=K) L ht (E:=E) har (fun b hb=>cm.own (adH b hb).2);have Vk:¬al=some d:=fun e=>(adH d e).1 rfl
 have o1:=o.ext k1 Vk;have AU:=cm.ext k1;obtain⟨ba,bc,akN⟩:=Ow.form;obtain⟨m2,e2,o2,k2⟩:=iZ (o:=q+8) RA o1 ((AU.own (by rw[k1.base];exact hb)).may _ _) hl Ow.one;have Fz:Kp m m2 (fun y=>y=d\/al=some y):=(k1.mono fun _ _ h=> .inr h).trans k2 fun _ _ h=> .inl h
 have n12:=Fz.next;have oh:∀p,al=some p->p<m.next:=fun p hp=>by
  rcases har with⟨h,_⟩|⟨b,_,_,h,_,r,_⟩
  ·rw[hp]at h;cases h
  ·rw[hp]at h;cases h;exact r.lt
 have Wt:lP E sz (fun y=>al=some y) fu m2 [] RA:=Ow.ext k2 fun b hb e=>hb.elim (fun h=>Vk (e▸h)) fun h=>h
 subst akN;obtain⟨t0,w0,e0⟩:=cX (K:=K) (m:=m) (m':=m2) (tm:=entry [vP d q]) (L.abY d q n0 c0 0 bc a0 ba) rfl (.mem (aN o hav)<| .call e1<| .mem e2 .nil);obtain⟨e,t1,m3,he,hx,rfl,hg3,k3,sv,pj,o3,hs3,YQ,ha3,q3,q4⟩:=fL (K:=K) (nt:=j0 ga) (a:=oI (cI ga) [3]) 4
  (Inv:=fun j tm M=>dL [0,13] tm=[vP d q,vI j]/\Kp m M (fun y=>y=d\/al=some y)/\∃acc sv,Obj M d 0 (xs.set (q+8) sv)/\kI sv=true/\acc.length<=j*9000/\gA res (4-j) j acc=G/\
   ((acc=[]/\sv= .slice none 0 0)\/∃b cs rest,sv=vL b 0 acc.length cD/\(al=some b\/iS m M b)/\Obj M b sz (cs++rest)/\cA (fun x u=>E.R B0 x M u/\okV sz u) acc cs/\(0<j->rest=[]/\iS m M b)/\(al=none->acc≠[])))
  (dQ:=fun e tm M=>e= .exit 0/\dL [0] tm=[vP d q]/\Kp m M (fun y=>y=d\/al=some y)/\∃sv pj,Obj M d 0 (xs.set (q+8) sv)/\kI sv=true/\Room sz M sv pj/\(∀p,pj=some p->iS m M p)/\(aT E sz).R (fun b=>B0 b\/iS m M b) G M sv/\(al=none->G=[]->sv= .slice none 0 0/\pj=none))
  (by
   rintro j tm M hj ⟨hg,kk,acc,sv,oM,h1,Vl,hq,eD⟩;obtain⟨svk,BO,BE,x1,x2,x3,x4,x5⟩:=fG j hj;obtain⟨bka,bkc,hk⟩:=x3.form;have eo:q+j*2=q+2*j:=aj;have lsk:=x3.ext kk (fun b hb e=>by
    rcases hb with hb|hb
    ·exact e.elim (x4 b hb).1 (x4 b hb).2.1
    ·have :=hB0 b (x5 b hb);exact e.elim this.1 this.2.1)
   obtain⟨gQ,f1,f2,f3⟩:=lsk.first;have OT:=hlen j;have Pj:=cm.ext kk;have nk:=kk.next;have l1:aP d (q+j*2+1) M=some (vI 0,M):=aN oM (by rw[eo,List.getElem?_set_ne aj];exact x2);have l2:aP d (q+8) M=some (sv,M):=aN oM (List.getElem?_set_self hl);have l3:aP d (q+j*2) M=some (svk,M):=aN oM (by rw[eo,List.getElem?_set_ne aj];exact x1);rw[show 4-j=(4-(j+1))+1 by omega]at hq;have hq:gA res (4-(j+1)) (j+1) (acc++res j)=G:=hq;have WJ:=f3.mono (Q':=fun x u=>E.R B0 x M u/\okV sz u) fun x u _ w=>⟨E.mono w.1 x5,w.2⟩
   have QO:∃s' M1,cK ab #[t,t] sv svk M=some (s',M1)/\Kp M M1 (fun y=>al=some y\/m.next<=y)/\(∃ra rn rc,s'= .slice ra rn rc)/\
     (((acc++res j)=[]/\s'= .slice none 0 0)\/∃b cs,s'=vL b 0 (acc++res j).length cD/\iS m M1 b/\Obj M1 b sz cs/\cA (fun x u=>E.R B0 x M1 u/\okV sz u) (acc++res j) cs/\(al=none->acc++res j≠[])):=by
    rcases eD with⟨rfl,rfl⟩|⟨b,cs,rest,rfl,nC,ob,gO,_,adn⟩
    ·by_cases h0:(res j).length=0
     ·have Mx:res j=[]:=List.length_eq_zero_iff.1 h0;rw[Mx]at f1 f2 WJ;have alf:gQ=[]:=WJ;rw[alf]at f1;exact⟨_,M,Kw ht f1 f2,.refl _ _,⟨_,_,_,rfl⟩,.inl ⟨by rw[Mx];rfl,rfl⟩⟩
     ·obtain⟨M1,a1,a2,a3,a4⟩:=Kx Pj.gd ht f1 f2 WJ.one.1 WJ.one.2 h0 aj;exact⟨_,M1,a1,a3.tA,⟨_,_,_,rfl⟩,.inr ⟨M.next,gQ,de,⟨aj,aj⟩,a2,WJ.mono fun x u _ w=>⟨E.ext w.1 a3 fun _ _ h=>h,w.2⟩,fun _ h=>h0 (by simpa using h)⟩⟩
    ·have yE:m.base<=b:=by
      rcases nC with h|h
      ·exact(adH b h).2
      ·have :=h.1;have :=cm.gd.bf;have :=cm.gd.fn;omega
     obtain⟨M1,a1,a2,a3,a4⟩:=DC (len:=acc.length) Pj.gd ht ob gO.one.1 (Pj.own (by rw[kk.base];exact yE)) f1 f2 WJ.one.1 WJ.one.2 aj;have dH:∀y,B0 y->¬y=b:=fun y hy e=>by
      have h':=hB0 y hy;rcases nC with h|h
      ·exact h'.2.1 (e▸h)
      ·have :=h.1;omega
     exact⟨_,M1,a1,a3.mono fun y _ h=>by rw[h];exact nC.imp id fun h=>h.1,⟨_,_,_,rfl⟩,.inr ⟨M.next,cs++gQ,de,⟨aj,aj⟩,a2,(gO.mono fun x u _ w=>⟨E.ext w.1 a3 dH,w.2⟩).append (WJ.mono fun x u _ w=>⟨E.ext w.1 a3 dH,w.2⟩),fun h h'=>adn h (List.append_eq_nil_iff.1 h').1⟩⟩
   obtain⟨s',M1,a1,ka,⟨ra,rn,rc,rfl⟩,akO⟩:=QO;have gM1:=Pj.gd.ext ka;have hdM:¬(al=some d\/m.next<=d):=fun h=>h.elim Vk fun h=>by omega
   obtain⟨M2,a2,oM2,kb⟩:=iZ (o:=q+8) (.slice ra rn rc) (oM.ext ka hdM) (((Pj.ext ka).own (by rw[ka.base,kk.base];exact hb)).may _ _) (by simpa using hl) rfl;rw[List.set_set]at oM2;obtain⟨aa,an,ac,wW⟩:∃a n c,sv= .slice a n c:=by rcases eD with⟨_,rfl⟩|⟨_,_,_,rfl,_⟩<;>exact⟨_,_,_,rfl⟩
   subst wW;subst hk;obtain⟨t2,fO,gp⟩:=bK (K:=K) (m:=M) (m':=M2) L.Oc (L.abX d q j an ac (res j).length bkc rn rc aa bka ra) hg (.cond (Jf hj)<| .idx rfl hj<| .mem l1<| .cond rfl<| .mem l2<| .idx rfl hj<| .mem l3<| .mem (bM Pj.gd)<| .mem a1<| .mem (bM gM1)<| .mem a2 .nil);have n2:=kb.next;have n1:=ka.next;refine .inl ⟨t2,M2,fO,by rw[gp,add1 aj],?_,acc++res j,_,oM2,rfl,by simp;omega,hq,?_⟩
   ·exact(kk.trans ka fun b iB h=>h.elim .inr fun h=>by omega).trans kb fun b _ h=> .inl h
   ·rcases akO with h|⟨b,cs,e,Za,ob,gO,adm⟩
    ·exact .inl h
    ·have sF:¬b=d:=by have :=Za.1;omega
     have ahZ:iS m M2 b:=⟨Za.1,by have :=Za.2;omega⟩;exact .inr ⟨b,cs,[],e,.inr ahZ,by rw[List.append_nil];exact ob.ext kb sF,gO.mono fun x u _ w=>⟨E.ext w.1 kb fun y hy=>(hB0 y hy).1,w.2⟩,fun _=>⟨rfl,ahZ⟩,adm⟩)
  (by
   rintro tm M ⟨hg,kk,acc,sv,oM,h1,Vl,hq,eD⟩;obtain⟨t2,fO,gp⟩:=bK (K:=K) (m:=M) (m':=M) L.Oc (L.abV d q 4) hg (.cond (T9 4) .nil);have hq:acc=G:=hq;subst hq;rcases eD with⟨rfl,rfl⟩|⟨b,cs,rest,rfl,nC,ob,gO,hj,adm⟩
   ·exact⟨_,t2,M,lQ,fO,rfl,gp,kk,_,none,oM,rfl,.inl ⟨rfl,rfl⟩,fun _ h=>(by cases h),aT.nil,fun _ _=>⟨rfl,rfl⟩⟩
   ·obtain⟨rfl,Za⟩:=hj aj;rw[List.append_nil]at ob;exact⟨_,t2,M,lQ,fO,rfl,gp,kk,_,some b,oM,rfl,.inr ⟨b,_,cs,rfl,rfl,ob.ro,by rw[gO.one.1];exact ai _⟩,fun p h=>(by cases h;exact Za),
     ⟨cs,ob.sl gO.one.1 (.inl rfl),fun b' _ _ _ e=>(by cases e;exact .inr Za),gO.mono fun x u _ w=>⟨E.mono w.1 fun _ h=> .inl h,w.2⟩⟩,fun h h'=>absurd h' (adm h)⟩)
  (tm:=t0) (m:=m2) ⟨e0,Fz,[],_,o2,rfl,Nat.zero_le _,hG.symm,by
   rcases Wt with h|⟨b,cs,rest,e,KR,_,ob,gO⟩
   ·exact .inl h
   ·have gO:cs=[]:=gO;subst gO;exact .inr ⟨b,[],rest,e,.inl KR.1,ob,rfl,fun h=>absurd h aj,fun h=>(by rw[h]at KR;exact absurd KR.1 de)⟩⟩ aj
 have l4:aP d (q+8) m3=some (sv,m3):=aN o3 (List.getElem?_set_self hl);obtain⟨t2,h2,e3⟩:=cX (K:=K) (m:=m3) (m':=m3) (L.abU d q sv) hg3 (.mem l4 .nil);exact⟨sv,m3,_,pj,iO L.acy (aU.cut w0 (aU.Cm L.acL L.acO hx rfl (aU.last h2 L.Uk))) (.inr rfl) e3 L.spec.2.2.2.1,k3,o3,de,fun x hx=>List.getElem?_set_ne (fun e=>hx e.symm),List.getElem?_set_self hl,YQ,ha3,q3,q4⟩
end
end Go.AM
namespace Go.AM
set_option maxRecDepth 1000000
open Go Go.Conc Go.Proofs
theorem agQ (a:Option Addr)(k:Int):Path 116 [.slice a 0 0,fR]
 [.val (pu ab [vI 0] (convert 3 195 (vI 0))) (.int .u64 0),
  .call 153 [.int .u64 0] (vI k),
  .call 152 [.slice a 0 0,vI 0,vI 0,vI k,fR] (.tuple #[])]
 (.tuple #[]):=fB
theorem afB (a:Option Addr)(k:Int):gN 152 0 2 [0,1,2,3,4] [.slice a 0 0,vI 0,vI 0,vI k,fR]
 []
 .normal [0,1,2,3,4] [.slice a 0 0,vI 0,vI 0,vI k,fR]:=jz
theorem abN (a:Option Addr)(k:Int):dX 152 [2] 0 99 [0,1,2,3,4] [.slice a 0 0,vI 0,vI 0,vI k,fR]
 [oZ,
  .call 205 [.slice a 0 0,vI 0,vI 0,fR] (.tuple #[])]
 .ret [] []:=jz
theorem aff (a:Option Addr):gN 205 0 1 [0,1,2,3] [.slice a 0 0,vI 0,vI 0,fR]
 []
 .normal [0,1,2,3,8] [.slice a 0 0,vI 0,vI 0,fR,vI 1]:=jz
theorem abM:dX 205 [1] 0 99 [2,8] [vI 0,vI 1]
 [eE]
 (.exit 0) [] []:=jz
section
variable {K:gS}{m:Mem}
theorem ad2 {a:Option Addr}:Ev K 116 [.slice a 0 0,fR] m (.tuple #[]) m:=by
 have h5:Ev K 205 [.slice a 0 0,vI 0,vI 0,fR] m (.tuple #[]) m:=by
  obtain⟨t0,w0,e0⟩:=cX (K:=K) (m:=m) (m':=m) (tm:=entry [.slice a 0 0,vI 0,vI 0,fR]) (aff a) rfl .nil;obtain⟨e,t1,m5,he,hx,rfl,rfl⟩:=fL (K:=K) (nt:=j0 205) (a:=iy 205 [1]) 0
   (Inv:=fun j tm m'=>m'=m/\dL [0,1,2,3,8] tm=[.slice a 0 0,vI 0,vI 0,fR,vI 1])
   (dQ:=fun e tm m'=>e= .exit 0/\m'=m)
   (fun j tm m' hj=>absurd hj aj)
   (by
    rintro tm m' ⟨rfl,hg⟩;have Hg:dL [2,8] tm=[vI 0,vI 1]:=by
     simp only[dL,List.map_cons,List.map_nil,List.cons.injEq,and_true]at hg⊢;exact⟨hg.2.2.1,hg.2.2.2.2⟩
    obtain⟨t2,fO,gp⟩:=bK (K:=K) (m:=m') (m':=m') A7 abM Hg (.cond rfl .nil);exact⟨_,t2,m',lQ,fO,rfl,rfl⟩)
   (tm:=t0) (m:=m) ⟨rfl,e0⟩ aj
  exact iO (vs:=[]) aal (aU.cut w0 (aU.qz hx (aU.done LX))) (.inl rfl) rfl
 have h2:∀k:Int,Ev K 152 [.slice a 0 0,vI 0,vI 0,vI k,fR] m (.tuple #[]) m:=fun k=>by
  obtain⟨t0,w0,e0⟩:=cX (K:=K) (m:=m) (m':=m) (tm:=entry [.slice a 0 0,vI 0,vI 0,vI k,fR]) (afB a k) rfl .nil;obtain⟨e,t1,m5,he,hx,rfl,rfl⟩:=fL (K:=K) (nt:=j0 152) (a:=iy 152 [2]) 0
   (Inv:=fun j tm m'=>m'=m/\dL [0,1,2,3,4] tm=[.slice a 0 0,vI 0,vI 0,vI k,fR])
   (dQ:=fun e tm m'=>e= .ret/\m'=m)
   (fun j tm m' hj=>absurd hj aj)
   (by
    rintro tm m' ⟨rfl,hg⟩;obtain⟨t2,fO,gp⟩:=bK (K:=K) (m:=m') (m':=m') Oh (abN a k) hg (.cond rfl<| .call h5 .nil);exact⟨_,t2,m',lQ,fO,rfl,rfl⟩)
   (tm:=t0) (m:=m) ⟨rfl,e0⟩ aj
  exact iO (vs:=[]) aam (aU.cut w0 (aU.Ud Ox Oz hx aY)) (.inr rfl) rfl
 exact aJ (agQ a _) (.val aY<| .call (show Ev K 153 [.int .u64 0] m (vI (Sort.bitsLen 0:Int)) m from aiG (l:=0) eS)<| .call (h2 _) .nil)
end
end Go.AM
namespace Go.AM
set_option maxRecDepth 1000000
open Go Go.Conc Go.Proofs
theorem Sf {B:Nat->Prop}{m:Mem}:∀{d:List El},(∀x∈d,bH.R B x.2 m x.1)->cA (fun x u=>bH.R B x m u/\okV 1 u) (d.map (·.2)) (d.map (·.1))
 | [],_=>rfl
 |x::d,h=>by
  have hx:=h x (List.mem_cons_self ..);refine⟨x.1,d.map (·.1),?_,⟨hx,bH.ok hx⟩,Sf fun y hy=>h y (List.mem_cons_of_mem _ hy)⟩;obtain⟨b,c,e,_⟩:=hx;rw[List.map_cons,e];rfl
end Go.AM
namespace Go.AM
set_option maxRecDepth 1000000
open Go Go.Conc Go.Proofs
section
variable {K:gS}{fl go sh ga em t sz:Nat}
theorem adZ (L:Kin fl go sh ga em t)(ht:sN.contains (t,sz)=true){α:Type}{E:nU α}{X:Nat->Prop}{fs n:Nat}{cap:Array ae}{st:Nat->List α}{m:Mem}{d q:Nat}{cs:List ae}{bo:Nat->Option Nat}{al:Option Nat}(hK:AY K)(eD:yy KW m X fs cap E sz st n)(hE:E.DO)(hXd:X d)(hXb:∀k b,bo k=some b->X b)
  (cm:Calm m)(o:Obj m d 0 cs)(hb:m.base<=d)(hB:km m d q sz cs bo al)(hs:n<9000):
  ∃rv m' ys uH pj,Ev K fl [vP d q,vI n,.func (.func fs) #[] cap] m (.tuple #[rv,vI 0]) m'/\Kp m m' (fun y=>y=d\/(∃i,bo i=some y)\/al=some y)/\Obj m' d 0 ys/\ys.length=cs.length/\(∀x,x<q\/q+9<=x->ys[x]?=cs[x]?)/\
   km m' d q sz ys uH pj/\(∀j b,uH j=some b->bo j=some b\/iS m m' b)/\(∀p,pj=some p->iS m m' p)/\ys[q+8]?=some rv/\(aT E sz).R (iS m m') (gA st n 0 []) m' rv/\(al=none->gA st n 0 []=[]->rv= .slice none 0 0/\pj=none):=by
 obtain⟨t,M,xs,b3,b8,pP,hg,YQ,h3n,h8n,⟨N0,Np,wU,hN0⟩,JR,O2,hMk,hro,Ww,OJ,BA,fG,EA,EB⟩:=MQ L ht hK eD hXd hXb cm o hb hB hs;have RJ:=o.lt;have hMn:=hMk.next;have hlen:=hB.len;have JO:∀j b,bo j=some b->b<m.next:=fun j b h=>hB.lt h
 have dq:M.opn=[]:=wU.opn;have e1:=ams hK wU.wg wU.sd.deaf dq (by have :=wU.sd.bf;have :=wU.sd.fn;omega);obtain⟨mf,UZ⟩:∃mf,mf=Cy M:=⟨_,rfl⟩;rw[<-UZ]at e1;have nf:mf.next=M.next:=by rw[UZ];rfl
 have bf:∀b,mf.blk b=M.blk b:=fun b=>by rw[UZ];rfl
 have ahN:mf.bl=[]:=by rw[UZ];rfl
 have kf:Kp m mf (fun y=>y=d\/∃i,bo i=some y):=by
  refine⟨aj,ahN.trans cm.bl.symm,?_,?_,?_,?_,?_,?_,?_,fun b h1 h2=>(bf b).trans (hMk.blk b h1 h2)⟩
  ·rw[UZ];exact dq.trans cm.opn.symm
  ·rw[UZ];exact JR
  ·rw[UZ];exact O2
  ·rw[UZ];exact JR.trans cm.floor.symm
  ·rw[UZ];exact cm.wg.symm
  ·rw[UZ];exact cm.gd.pend.symm
  ·rw[UZ];exact wU.sd.deaf.trans cm.gd.deaf.symm
 have cmf:=cm.ext kf;have s9:m.base<=m.next:=by have :=cm.gd.bf;have :=cm.gd.fn;omega
 have tf:∀b,aL mf.bl b=false:=fun b=>by rw[ahN];rfl
 have ro:∀{b sz:Nat}{ys:List ae},RO M b sz ys->RO mf b sz ys:=fun{b sz ys} h=>⟨by rw[nf];exact h.lt,by rw[bf];exact h.kind,by rw[bf];exact h.sz,by rw[bf];exact h.cs⟩
 have l3:aP b3 0 mf=some (vP d q,mf):=aN ((ro YQ).obj (tf _)) rfl;have ahs:∀k,k<4->∃sv BE,xs[q+2*k]?=some sv/\xs[q+2*k+1]?=some (vI 0)/\lP E sz (BA k) BE mf (P5 st n k) sv/\∀b,BE b->iS m mf b:=by
  intro k hk;obtain⟨sv,mw,m2,BE,h1,h2,⟨h3,EC⟩,h4,h5,h6⟩:=fG k hk;have h6n:=h6.next;have sm:∀{S:Nat->Prop},(∀b,S b->b≠d/\∀i,k<i->bo i≠some b)->sO S m2 mf:=fun hS=>⟨aj,fun b hb hl=>⟨(bf b).trans (h6.blk b hl fun h=>h.elim (hS b hb).1 fun⟨i,hi,h⟩=>(hS b hb).2 i hi h),fun _=>tf b⟩⟩
  refine⟨sv,BE,h1,h2,h3.g9 hE (sm fun b hb=>?_) (sm fun b hb=>?_) (fun b hb=>cmf.own ?_),fun b hb=>⟨by have :=(EC b hb).1;omega,by have :=(EC b hb).2;omega⟩⟩
  ·rcases h4 b hb with h|h
   ·exact⟨(hB.ne h).1,fun i hi h'=>by have :=hB.inj h h';omega⟩
   ·have :=h.1;exact⟨aj,fun i hi h'=>by have :=JO i b h';omega⟩
  ·have :=(EC b hb).1;exact⟨aj,fun i hi h'=>by have :=JO i b h';omega⟩
  ·rw[kf.base];rcases h4 b hb with h|h
   ·exact(hB.ne h).2
   ·have :=h.1;omega
 have H6:∀k b,k<4->BA k b->b≠d/\al≠some b/\b<mf.next:=fun k b hk h=>by
  obtain⟨Rz,_,hra⟩:=hB.all;rcases EB k b hk h with h|h
  ·exact⟨(hB.ne h).1,fun e=>(hB.Ia e).2.2 k h,by have :=JO k b h;omega⟩
  ·refine⟨aj,fun e=>?_,aj⟩;rcases hra with⟨h',_⟩|⟨b',_,_,h',_,r,_⟩
   ·rw[e]at h';cases h'
   ·rw[e]at h';cases h';have :=r.lt;omega
 obtain⟨Rz,hav,hra⟩:=hB.all;have Vl:∀p,al=some p->p<m.next:=fun p hp=>by
  rcases hra with⟨h,_⟩|⟨b,_,_,h,_,r,_⟩
  ·rw[hp]at h;cases h
  ·rw[hp]at h;cases h;exact r.lt
 have akT:Room sz mf Rz al:=hra.ext kf.Wr fun b e h=>by
  rcases h with h|⟨i,h⟩
  ·exact(hB.Ia e).1 h
  ·exact(hB.Ia e).2.2 i h
 obtain⟨rv,m',ys,pj,e2,k2,o2,hyl,hyo,hy8,wX,mN,q',q4⟩:=alV (K:=K) (E:=E) (B0:=iS m mf) (res:=P5 st n) (xs:=xs) (q:=q) (Rz:=Rz) (al:=al) L ht cmf ((ro hro).obj (tf _)) (by rw[kf.base];exact hb) aj (by rw[OJ _ (.inr (ai _))];exact hav) akT (fun p hp=>⟨(hB.Ia hp).1,by rw[kf.base];exact(hB.Ia hp).2.1⟩)
  (fun y hy=>⟨by have :=hy.1;omega,fun e=>by have :=Vl y e;have :=hy.1;omega,hy.2⟩)
  (fun k=>by
   have h1:=adK n k;have h2:=ry (st:=st) eD.one (D9 n k-tr n k) (tr n k) [];unfold P5;simp at h2;omega) (fun k hk=>by
   obtain⟨sv,BE,h1,h2,h3,h4⟩:=ahs k hk;exact⟨sv,BA k,BE,h1,h2,h3,fun b hb=>H6 k b hk hb,h4⟩)
 rw[Ts]at q' q4;have n2:=k2.next;have cm':=cmf.ext k2;obtain⟨t2,h2,e3⟩:=cX (K:=K) (m:=M) (m':=m') (L.abZ b3 b8 d q rv 0) hg (.call e1<| .mem l3<| .call e2 .nil);have kk:Kp m m' (fun y=>y=d\/(∃i,bo i=some y)\/al=some y):=(kf.mono fun _ _ h=>h.imp id .inl).trans k2 fun b _ h=>h.imp id .inr
 have hex:∀k,∃ob:Option Nat,k<4->∃sv,xs[q+2*k]?=some sv/\Room sz m' sv ob/\∀b,ob=some b->BA k b:=by
  intro k
  by_cases hk:k<4
  ·obtain⟨sv,BE,h1,h2,h3,h4⟩:=ahs k hk;rcases h3 with⟨_,rfl⟩|⟨b,c1,c2,rfl,iB,_,ob,gO⟩
   ·exact⟨none,fun _=>⟨_,h1,.inl ⟨rfl,rfl⟩,fun _ h=>(by cases h)⟩⟩
   ·have nC:=H6 k b hk iB.1;exact⟨some b,fun _=>⟨_,h1,.inr ⟨b,_,_,rfl,rfl,ob.ro.ext k2 (fun h=>h.elim nC.1 nC.2.1),by have :=gO.one.1;simp;omega⟩,fun _ h=>(by cases h;exact iB.1)⟩⟩
  ·exact⟨none,fun h=>absurd h hk⟩
 obtain⟨bo1,ah0⟩:=Classical.axiomOfChoice hex;have KR:∀j b,(if j<4 then bo1 j else none)=some b->j<4/\BA j b:=fun j b h=>by
  split at h
  ·rename_i hj;obtain⟨_,_,_,h3⟩:=ah0 j hj;exact⟨hj,h3 b h⟩
  ·cases h
 have dH:∀{j b},(if j<4 then bo1 j else none)=some b->b≠d/\m'.base<=b:=fun{j b} h=>by
  obtain⟨hj,hBb⟩:=KR j b h;refine⟨(H6 j b hj hBb).1,?_⟩;rw[k2.base,kf.base];rcases EB j b hj hBb with h|h
  ·exact(hB.ne h).2
  ·omega
 refine⟨rv,m',ys,fun j=>if j<4 then bo1 j else none,pj,iO L.acz (pP _ _ (aU.last h2 L.Ul)) (.inr rfl) e3 L.spec.2.2.2.2,kk,o2,hyl.trans Ww,fun x hx=>by rw[hyo x aj];exact OJ x aj,⟨aj,fun j hj=>?_,fun j hj=>bS aj,fun{i j b} h1 h2=>?_,dH,⟨rv,hy8,wX⟩,fun{p} hp=>?_⟩,fun j b h=>?_,fun p hp=>⟨by have :=(mN p hp).1;omega,(mN p hp).2⟩,hy8,?_,q4⟩
 ·obtain⟨sv,h1,h2,_⟩:=ah0 j hj;exact⟨sv,by rw[hyo _ aj];exact h1,by simp only[bC hj];exact h2⟩
 ·obtain⟨hi,h1⟩:=KR i b h1;obtain⟨hj,h2⟩:=KR j b h2;rcases Nat.lt_trichotomy i j with h|h|h
  ·exact absurd h2 (EA i j b h hj h1)
  ·exact h
  ·exact absurd h1 (EA j i b h hi h2)
 ·have dy:=mN p hp;refine⟨by have :=dy.1;omega,by rw[k2.base,kf.base];have :=dy.1;omega,fun j h=>?_⟩;obtain⟨hj,hBb⟩:=KR j p h;have :=(H6 j p hj hBb).2.2;have :=dy.1;omega
 ·obtain⟨hj,hBb⟩:=KR j b h;rcases EB j b hj hBb with h|h
  ·exact .inl h
  ·exact .inr ⟨h.1,aj⟩
 ·exact(aT E sz).mono q' fun b hb=>hb.elim (fun h=>⟨h.1,by have :=h.2;omega⟩) fun h=>⟨by have :=h.1;omega,h.2⟩
end
end Go.AM
namespace Go.AM
set_option maxRecDepth 1000000
open Go Go.Conc Go.Proofs
def yC (r:List Nat):ae:= .agg (r.map fun(n:Nat)=>ae.int .i32 n).toArray
abbrev GF (r:List Nat):List ae:=r.map fun(n:Nat)=>ae.int .i32 n
abbrev ts:nU (List Nat):=jq yC
theorem S6 {r:List Nat}(h:r.length=6):okV 6 (yC r):=⟨by simp[yC,ae.cells,h],fun y hy=>by
 simp only[yC,ae.cells,List.mem_map]at hy;obtain⟨n,_,rfl⟩:=hy;rfl⟩
theorem NW {r:List Nat}(h:okV 6 (yC r)):r.length=6:=by simpa[yC,ae.cells]using h.1
noncomputable def ui:V:=⟨0,0,⟨Array.replicate (2^60) 0⟩,false⟩
theorem uh:¬eF ui:=by
 unfold eF ui
 show¬(Array.replicate (2^60) (0:UInt8)).size<2^60
 rw[Array.size_replicate];omega
noncomputable def kj(Tb:Nat->Option (List (List V)))(r:List Nat)(p:Nat)(i j:Int):V:=match Tb p with
 |none=>ui
 |some rows=>if 0<=i/\0<=j then(match r[i.toNat]? with
  |none=>ui
  |some x=>match rows[x]? with
   |none=>ui
   |some row=>match row[j.toNat]? with
    |none=>ui
    |some u=>u)else ui
theorem Q4 {Tb:Nat->Option (List (List V))}{r:List Nat}{p:Nat}{i j:Int}(h:eF (kj Tb r p i j)):∃rows x row,Tb p=some rows/\0<=i/\0<=j/\r[i.toNat]?=some x/\rows[x]?=some row/\row[j.toNat]?=some (kj Tb r p i j):=by
 unfold kj at h⊢
 split at h
 ·exact absurd h uh
 ·rename_i rows hp;simp only[hp]
  split at h
  ·rename_i s7;rw[bC s7]
   split at h
   ·exact absurd h uh
   ·rename_i x hx
    split at h
    ·exact absurd h uh
    ·rename_i row hr
     split at h
     ·exact absurd h uh
     ·rename_i u hu;exact⟨rows,x,row,rfl,s7.1,s7.2,hx,hr,hu⟩
  ·exact absurd h uh
def fV (BT:Nat->Prop)(Tb:Nat->Option (List (List V)))(m:Mem):Prop:=∀p rows,Tb p=some rows->BT p/\∃cl rl,Obj m p 0 [cl,rl]/\(aT bH 1).R BT rows m rl
theorem fV.ext{BT S:Nat->Prop}{Tb:Nat->Option (List (List V))}{m m':Mem}(h:fV BT Tb m)(k:Kp m m' S)(hS:∀b,BT b->¬S b):fV BT Tb m':=fun p rows hp=>by
 obtain⟨h1,cl,rl,o,q⟩:=h p rows hp;exact⟨h1,cl,rl,o.ext k (hS p h1),(aT bH 1).ext q k hS⟩
theorem fV.same{BT:Nat->Prop}{Tb:Nat->Option (List (List V))}{m m':Mem}(h:fV BT Tb m)(s:sO BT m m'):fV BT Tb m':=fun p rows hp=>by
 obtain⟨h1,cl,rl,o,q⟩:=h p rows hp;exact⟨h1,cl,rl,o.mo s h1,aT.g9 bH.g9 _ _ _ _ _ q s⟩
def Ay (BT:Nat->Prop)(Tb:Nat->Option (List (List V)))(r:List Nat)(b o sz:Nat)(m:Mem):Prop:=(∃cs,Obj m b sz cs/\(cs.drop o).take 6=GF r/\o+6<=cs.length)/\fV BT Tb m
theorem ajQ (b pr o p i j x pt nt ct q nq cq s:Nat)(u:V):Path 351 [vP b 0,vP pr o]
 [dN nY s,
  .mem (aP b 0) (vP p 0),
  .mem (aP p 1) (vL pt 0 nt ct),
  .mem (aP b 1) (vI i),
  .idx i 6 i,
  .mem (aP pr (o+i*1)) (.int .i32 x),
  .idx x nt x,
  .mem (aP pt (0+x*1)) (vL q 0 nq cq),
  .mem (aP b 2) (vI j),
  .idx j nq j,
  .mem (eW 4 q (0+j*4)) (bQ u),
  oY,
  jK s 0 (sR u),
  rY 49 s (bQ u)]
 (.tuple #[bQ u,vI 0]):=fB
theorem ae1 {cs:List ae}{r:List Nat}{o i x:Nat}(h:(cs.drop o).take 6=GF r)(hx:r[i]?=some x):cs[o+i]?=some (.int .i32 x):=by
 have h1:(GF r)[i]?=some (.int .i32 x):=by rw[List.getElem?_map,hx];rfl
 rw[<-h]at h1;have hi:i<6:=by
  rcases Nat.lt_or_ge i 6 with hi|hi
  ·exact hi
  ·rw[List.getElem?_eq_none (by simp;omega)]at h1;cases h1
 rw[List.getElem?_take_of_lt hi,List.getElem?_drop]at h1;exact h1
section
variable {K:gS}{m m':Mem}{BT:Nat->Prop}{Tb:Nat->Option (List (List V))}
theorem Ay.aR{r:List Nat}{b o sz:Nat}(h:Ay BT Tb r b o sz m)(k:Kp m m' fu):Ay BT Tb r b o sz m':=by
 obtain⟨⟨cs,h1,h2⟩,h3⟩:=h;exact⟨⟨cs,h1.aR k,h2⟩,h3.ext k fun _ _ h=>h⟩
theorem LD {r:List Nat}{pr o sz:Nat}:Scope K (Ay BT Tb r pr o sz) (kj Tb r) (vP pr o):=by
 refine⟨fun m m' h k=>h.aR k,?_⟩;intro p i j m b hs g ⟨⟨cs,akf,gO,hlen⟩,lr⟩ ob;obtain⟨rows,x,row,hp,hi,hj,hx,hr,hu⟩:=Q4 hs;obtain⟨_,cl,rl,ot,qt⟩:=lr p rows hp;generalize kj Tb r p i j=u at*;obtain⟨i,rfl⟩:∃k:Nat,i=k:=⟨i.toNat,aj⟩;obtain⟨j,rfl⟩:∃k:Nat,j=k:=⟨j.toNat,aj⟩;rw[Int.toNat_natCast]at hx hu;have Ww:x<rows.length:=(List.getElem?_eq_some_iff.1 hr).1;have hxr:=(List.getElem?_eq_some_iff.1 hr).2;obtain⟨pt,ct,uv,ucs,rfl,_,otr,hut,_,afW,ovr⟩:=aT.get qt Ww;rw[hxr]at afW;obtain⟨q,cq,rfl,_,oq,_⟩:=afW;have OW:j<row.length:=(List.getElem?_eq_some_iff.1 hu).1;obtain⟨m1,e1,o1,k1,n1,_⟩:=aV g [vI 0,vI 0,.string .empty,.bool false];have g1:=g.ext k1;have ob1:=ob.aR k1;obtain⟨m2,e2,o2,k2⟩:=kq (o:=0) u.cells o1 ((g.own k1 (ai _)).may _ _) (by simp[V.cells]) rfl;have Fz:Kp m m2 fu:=k1.trans (k2.mono (S':=fun y=>y=m.next) fun _ _ h=>h) fun b hb e=>by omega
 have hi6:i<6:=by
  have h6:r.length<=6:=by
   have :=congrArg List.length gO;simp at this;omega
  have :=(List.getElem?_eq_some_iff.1 hx).1;omega
 have lt2:aP pt (0+x*1) m1=some (vL q 0 row.length cq,m1):=by
  refine aN (otr.aR k1) ?_;have h1:(ucs.drop (x*1)).take 1=[vL q 0 row.length cq]:=hut;have :=congrArg (·[0]?) h1;simpa using this
 have lv:eW 4 q (0+j*4) m1=some (u.val,m1):=by
  refine bW (vs:=u.cells) (oq.aR k1) ?_ ?_
  ·rw[Nat.zero_add];exact vV hu
  ·rw[ir];omega
 have lE:oA ab 49 (vP m.next 0) m2=some (u.val,m2):=by
  exact ma o2 rfl aY aY
 exact⟨m2,aJ (ajQ b pr o p i j x pt rows.length ct q row.length cq m.next u) (.mem e1<| .mem (aN ob1 rfl)<| .mem (aN (ot.aR k1) rfl)<| .mem (aN ob1 rfl)<| .idx rfl hi6<| .mem (aN (akf.aR k1) (by rw[Nat.mul_one];exact ae1 gO hx))<| .idx rfl Ww<| .mem lt2<| .mem (aN ob1 rfl)<| .idx rfl OW<| .mem lv<| .mem (bM g1)<| .mem e2<| .mem lE .nil),Fz⟩
end
end Go.AM
namespace Go.AM
set_option maxRecDepth 1000000
open Go Go.Conc Go.Proofs
section
variable {K:gS}{m m':Mem}{B:Nat->Prop}
theorem aa0 {R:Mem->Prop}{cv:Nat->Int->Int->V}{rv sv ev:ae}(sc:Scope K R cv rv){xs:List X}{acc:List (List V)}{BO BE:Nat->Prop}(g:Gd m)(hr:R m)(ls:lP bH 1 BO BE m acc sv)(Zd:∀b,BO b->b<m.next)(EC:∀b,BE b->b<m.next)
  (hx:(aT nR 1).R B xs m ev)(er:∀x∈xs,Tz cv x)(hl:xs.length<9000)(ha:acc.length<2^30)(hz:(oP cv xs []).2=0):
  ∃wT m' Wn H0,Ev K 111 [sv,ev,rv] m (.tuple #[wT,vI 0]) m'/\Kp m m' BO/\lP bH 1 Wn H0 m' (acc++[(oP cv xs []).1]) wT/\(∀b,Wn b->iS m m' b)/\(∀b,H0 b->BE b\/iS m m' b):=by
 revert hz
 obtain⟨L,hL⟩:∃L,L=oP cv xs []:=⟨_,rfl⟩;rw[<-hL];obtain⟨a,cc,hA⟩:=aT.form hx;obtain⟨q,hq⟩:∃q,q=m.next:=⟨_,rfl⟩;obtain⟨o1,k1,n1⟩:=gC g (k:={kind:=1,sz:=4,cs:=(fC (List.replicate xs.length cV)).map some}) (cs:=fC (List.replicate xs.length cV)) rfl rfl rfl;have e1:=aku (m:=m) (n:=xs.length) aj;generalize m.alloc {kind:=1,sz:=4,cs:=(fC (List.replicate xs.length cV)).map some}=m1 at o1 k1 n1 e1;rw[<-hq]at o1 e1;have hr0:gN 111 0 3 [0,1,2] [sv,ev,rv] [.mem (fT ab 47 (vI (xs.length:Int)) (vI (xs.length:Int))) (vL q 0 xs.length xs.length)] .normal [0,2,8,16,17,18] [sv,rv,vL q 0 xs.length xs.length,ev,vI (xs.length:Int),vI 0]:=by rw[hA];exact afV xs.length cc a sv rv q
 obtain⟨t0,w0,e0⟩:=cX (K:=K) (m:=m) (m':=m1) (tm:=entry [sv,ev,rv]) hr0 rfl (.mem e1 .nil);obtain⟨e,t1,m2,he,zj,k2,hp⟩:=fL (K:=K) (nt:=j0 111) (a:=iy 111 [3]) xs.length
  (Inv:=fun j tm m'=>∃vs,dL [0,2,8,16,17,18] tm=[sv,rv,vL q 0 xs.length xs.length,ev,vI (xs.length:Int),vI j]/\Kp m m' fu/\m1.next<=m'.next/\vs.length=j/\Obj m' q 4 (fC (vs++List.replicate (xs.length-j) cV))/\oP cv (xs.drop j) vs=L)
  (dQ:=fun e tm m'=>Kp m m' fu/\((e= .exit 0/\m1.next<=m'.next/\dL [0,8] tm=[sv,vL q 0 xs.length xs.length]/\L.2=0/\L.1.length=xs.length/\Obj m' q 4 (fC L.1))\/(e= .ret/\L.2≠0/\dL [6,7] tm=[.slice none 0 0,vI L.2])))
  (by
   rintro j tm m2 hj ⟨vs,hg,kk,nn,hvl,oq,hf⟩;obtain⟨p,c',u,ucs,rfl,hBp,ob,hu,hle,hE,YT⟩:=aT.get ((aT nR 1).ext hx kk fun _ _ h=>h) hj;obtain⟨x,hy⟩:∃y,xs[j]=y:=⟨_,rfl⟩;rw[hy]at hE;have UH:x∈xs:=by rw[<-hy];exact List.getElem_mem hj
   have WC:xs.drop j=x::xs.drop (j+1):=by rw[List.drop_eq_getElem_cons hj,hy]
   obtain⟨t,bx,rfl⟩:=XR.form hE;have e2:aP p (0+j*1) m2=some (.iface t (vP bx 0),m2):=by
    rw[Nat.zero_add];refine aN ob ?_;have h1:(ucs.drop (j*1)).take 1=[.iface t (vP bx 0)]:=hu;have h2:=aic (i:=0) h1 aj;simpa using h2
   have g2:=g.ext kk;obtain⟨f,b',m3,hm,e3,k3⟩:=cOf (K:=K) (rv:=rv) sc.keep sc.jO x m2 _ g2 (sc.keep _ _ hr kk) hE (er x UH);have g3:=g2.ext k3;obtain⟨m4,m5,e4,e5,o5,k5,n5⟩:=iX g3 [vI 0,vI 0,.string .empty,.bool false] (eC cv x).1.cells rfl rfl;have tC:=(kk.aS k3).aS k5;have g5:=g.ext tC;have nx3:=k3.next;have nx5:=k5.next;rw[WC]at hf
   by_cases hz:(eC cv x).2=0
   ·rw[hz]at e3;have e6:eW 4 m3.next 0 m5=some ((eC cv x).1.val,m5):=bW (vs:=(eC cv x).1.cells) o5 rfl (af rfl);have akS:List.replicate (xs.length-j) cV=cV::List.replicate (xs.length-(j+1)) cV:=by
     rw[show xs.length-j=(xs.length-(j+1))+1 by omega];rfl
    rw[akS]at oq;obtain⟨m6,e7,o6,k6⟩:=kq (o:=j*4) (eC cv x).1.cells ((oq.aR k3).aR k5) ((g.own tC aj).may _ _) (by rw[ir];simp[V.cells];omega) rfl;have nx6:=k6.next;have wq:=ajf (a:=vs) (b:=List.replicate (xs.length-(j+1)) cV) cV (eC cv x).1;rw[hvl]at wq;rw[wq]at o6;obtain⟨t2,fO,gp⟩:=bK (K:=K) (m:=m2) (m':=m6) GP (afT p q xs.length c' j sv rv _ (eC cv x).1 m3.next) hg (.cond (Jf hj)<| .idx rfl hj<| .mem e2<| .eN hm e3<| .mem e4<| .mem e5<| .cond rfl<| .mem e6<| .idx rfl hj<| .mem (by rw[Nat.zero_add];exact e7) .nil);refine .inl ⟨t2,m6,fO,vs++[(eC cv x).1],by rw[gp,add1 aj],tC.new k6 (N:=m.next) (ai _) fun b hb=>by omega,aj,by simp[hvl],o6,?_⟩;rw[<-hf]
    show _=(if _ then _ else _)
    rw[bS (by rw[hz];simp)]
   ·obtain⟨t2,fO,gp⟩:=bK (K:=K) (m:=m2) (m':=m5) GP (afU p q xs.length c' j sv rv _ (eC cv x).1 (eC cv x).2 m3.next) hg (.cond (Jf hj)<| .idx rfl hj<| .mem e2<| .eN hm e3<| .mem e4<| .mem e5<| .cond (neT hz) .nil);have hf:(if(eC cv x).2≠0 then([],(eC cv x).2)else oP cv (xs.drop (j+1)) (vs++[(eC cv x).1]))=L:=hf;rw[bC hz]at hf;exact .inr ⟨_,t2,m5,lQ,fO,tC,.inr ⟨rfl,by rw[<-hf];exact hz,by rw[gp,<-hf]⟩⟩)
  (by
   rintro tm m2 ⟨vs,hg,kk,nn,hvl,oq,hf⟩;rw[hA]at hg;obtain⟨t2,fO,gp⟩:=bK (K:=K) (m:=m2) (m':=m2) GP (afS q xs.length cc xs.length a sv rv) hg (.cond (T9 _) .nil);rw[List.drop_length]at hf;have hf:(vs,(0:Int))=L:=hf;rw[Nat.sub_self,List.replicate_zero,List.append_nil]at oq;exact⟨_,t2,m2,lQ,fO,kk,.inl ⟨rfl,nn,gp,by rw[<-hf],by rw[<-hf];exact hvl,by rw[<-hf];exact oq⟩⟩)
  (tm:=t0) (m:=m1) ⟨[],e0,k1,ai _,rfl,o1,by rw[hL];rfl⟩ aj
 intro hzL;rcases hp with⟨rfl,nn,hg,hz,hll,oq⟩|⟨rfl,hz,hg⟩
 ·have g2:=g.ext k2;have n2:=k2.next;have Wt:=ls.ext k2 fun _ _ h=>h
  have hv:bH.R (fun y=>y=q) L.1 m2 (vL q 0 xs.length xs.length):=⟨q,xs.length,by rw[hll],rfl,oq,.inr hll.symm⟩;obtain⟨m3,m4,s',e3,g3,k3,e4,k4,ls4,_,n4⟩:=Wt.add (t:=29) (v:=vL q 0 xs.length xs.length) g2 rfl eS hv (fun b hb e=>by have :=Zd b hb;omega) (fun b hb=>by have :=EC b hb;omega) (fun b e=>by omega) (bH.ok hv) ha;obtain⟨t2,h2,e2⟩:=cX (K:=K) (m:=m2) (m':=m4) (afR q xs.length sv s' m2.next) hg (.mem e3<| .mem e4 .nil);refine⟨s',m4,_,_,iO agW (aU.cut w0 (aU.qz zj (aU.last h2 Qi))) (.inr rfl) e2,(k2.tA.trans k4 fun _ _ h=>h),ls4,fun b h=>⟨aj,aj⟩,fun b h=>?_⟩;rcases h with h|h
  ·exact .inl h
  ·exact .inr ⟨aj,aj⟩
 ·exact absurd hzL hz
theorem agx (sv:ae):Path 251 [sv,.nilIface]
 [oZ]
 (.tuple #[sv,vI 0]):=fB
theorem agw (b n cc j s t x g:Nat)(u:V)(z:Bool)(sv:ae):Path 251 [vL b 0 n cc,.iface t (vP x 0)]
 [eE,
  .idx (oF n 1) n j,
  .val (uY ab #[.iface t (vP x 0)] "Of" (.func (.method "Of") #[.iface t (vP x 0)] #[])) (.func (.method "Of") #[.iface t (vP x 0)] #[]),
  dN nY s,
  .mem (gk (vP s 0)) (vI g),
  oY,
  .eN (dR ab (.iface t (vP x 0)) "Of") [vP b (0+j*6)] (.tuple #[bQ u,vI 0]),
  .mem (cZ (vI g) (vP s 0) (pS (vP s 0))) undef,
  oY,
  jK s 0 (sR u),
  iR 4 s (bQ u),
  .call 273 [bQ u] (.bool z),
  bP (!z) false]
 (.tuple #[vL b 0 n cc,vI 0]):=fB
theorem agy (b n cc j s t x g:Nat)(u:V)(z:Bool)(sv:ae):Path 251 [vL b 0 n cc,.iface t (vP x 0)]
 [eE,
  .idx (oF n 1) n j,
  .val (uY ab #[.iface t (vP x 0)] "Of" (.func (.method "Of") #[.iface t (vP x 0)] #[])) (.func (.method "Of") #[.iface t (vP x 0)] #[]),
  dN nY s,
  .mem (gk (vP s 0)) (vI g),
  oY,
  .eN (dR ab (.iface t (vP x 0)) "Of") [vP b (0+j*6)] (.tuple #[bQ u,vI 0]),
  .mem (cZ (vI g) (vP s 0) (pS (vP s 0))) undef,
  oY,
  jK s 0 (sR u),
  iR 4 s (bQ u),
  .call 273 [bQ u] (.bool z),
  bP (!z) true,
  .mem (nZ ab 223 (vL b 0 n cc) none (some (vI (oF n 1)))) sv]
 (.tuple #[sv,vI 0]):=fB
theorem aj4 (k t2 t3 pr n cc bs g:Nat)(sv NI rv w rw :ae):Path 252 [sv,vI k,vP t2 0,vP t3 0]
 [.mem (aP t2 0) (vL pr 0 n cc),
  .idx k n k,
  .mem (eW 6 pr (0+k*6)) rw,
  .mem (bh ab 223 1 [(0,rw)]) (vL bs 0 1 1),
  .mem (aP t3 0) w,
  .mem (gk (vP t3 0)) (vI g),
  oY,
  .mem (cK ab #[223,223] sv (vL bs 0 1 1)) NI,
  .mem (cZ (vI g) (vP t3 0) (eI ab 158 (vP t3 0))) undef,
  oY,
  .call 251 [NI,w] (.tuple #[rv,vI 0])]
 (.tuple #[rv,vI 0]):=fB
theorem cA.Lf{α:Type}{Q:α->ae->Prop}{x:α}:∀{l:List α}{cs:List ae},cA Q (l++[x]) cs->∃HK v,cs=HK++v.cells.toList/\cA Q l HK/\Q x v
 | [],cs,⟨v,rest,e,q,h⟩=>by
  have h:rest=[]:=h;subst h;exact⟨[],v,by simpa using e,rfl,q⟩
 |y::l,cs,⟨v,rest,e,q,h⟩=>by
  obtain⟨HK,u,e1,h1,h2⟩:=cA.Lf h;exact⟨v.cells.toList++HK,u,by rw[e,e1,List.append_assoc],⟨v,HK,rfl,q,h1⟩,h2⟩
theorem shrink {b n k:Nat}(hk:k<=n):nZ ab 223 (vL b 0 n cD) none (some (vI k)) m=some (vL b 0 k cD,m):=by
 obtain⟨e,h1,h2,_⟩:=uK (t:=223) (sz:=6) rfl;unfold nZ jb;simp only[h1,h2,jW];simp[cD,hk]
theorem aiA {sv:ae}:Ev K 251 [sv,.nilIface] m (.tuple #[sv,vI 0]) m:=aJ (agx sv) (.cond rfl .nil)
theorem ami (g:Gd m){BO BE BT:Nat->Prop}{Tb:Nat->Option (List (List V))}{acc:List (List Nat)}{r:List Nat}{sv xv:ae}{x:X}(ls:lP ts 6 BO BE m (acc++[r]) sv)(lr:fV BT Tb m)(hx:XR B x m xv)(er:Tz (kj Tb r) x)(hz:(eC (kj Tb r) x).2=0)(Mz:acc.length<2^29):
  ∃wT m',Ev K 251 [sv,xv] m (.tuple #[wT,vI 0]) m'/\Kp m m' fu/\lP ts 6 BO BE m' (acc++if(eC (kj Tb r) x).1.beq (cd true)=true then[r]else[]) wT:=by
 rcases ls with⟨h,_⟩|⟨b,cs,rest,rfl,hb,hw,ob,gO⟩
 ·simp at h
 obtain⟨HK,v,rfl,Hk,hv,ov⟩:=gO.Lf;have hv:v=yC r:=hv;subst hv;have WB:=Hk.one.1;have h6:=NW ov;have hvc:(yC r).cells.toList=GF r:=by simp[yC,ae.cells]
 have hsc:Ay BT Tb r b (0+acc.length*6) 6 m:=⟨⟨_,ob,by rw[hvc,Nat.zero_add,<-WB,List.append_assoc,List.drop_left,List.take_left' (by simp[h6])],by simp[yC,ae.cells];omega⟩,lr⟩;have ahK:(acc++[r]).length=acc.length+1:=de;rw[ahK];have ej:oF (acc.length+1:Nat) 1=((acc.length:Nat):Int):=Lj;obtain⟨t,bx,rfl⟩:=XR.form hx;obtain⟨m1,e1,o1,k1,n1,_⟩:=aV g [vI 0,vI 0,.string .empty,.bool false];have g1:=g.ext k1;obtain⟨f,b',m2,hm,e2,k2⟩:=cOf (K:=K) (rv:=vP b (0+acc.length*6)) (fun m m' h k=>Ay.aR h k) LD.jO x m1 _ g1 (hsc.aR k1) (XR.ext k1 (fun _ _ h=>h) hx) er;rw[hz]at e2;have g2:=g1.ext k2;have o2:=o1.aR k2;obtain⟨m3,e3,o3,k3⟩:=kq (o:=0) (eC (kj Tb r) x).1.cells o2 (((g.own k1 (ai _)).ext k2).may _ _) (by simp[V.cells]) rfl;have jG:Kp m m3 fu:=(k1.aS k2).trans (k3.mono (S':=fun y=>y=m.next) fun _ _ h=>h) fun b hb e=>by omega
 have g3:=g.ext jG;have l3:eW 4 m.next 0 m3=some ((eC (kj Tb r) x).1.val,m3):=bW (vs:=(eC (kj Tb r) x).1.cells) o3 rfl (af rfl);obtain⟨m4,e4,k4⟩:=amh (K:=K) g3 (eC (kj Tb r) x).1;have kr:=jG.aS k4;have eD:∀{v},cZ (vI (((m1.blk m.next).aZ:Nat):Int)) v (pS v) m2=cZ (vI (((m2.blk m.next).aZ:Nat):Int)) v (pS v) m2:=fun{v}=>by rw[k2.blk m.next aj id]
 have hf:m2.floor<=m.next:=by rw[k2.floor,k1.floor];exact g.fn
 have hnm:uY ab #[.iface t (vP bx 0)] "Of" (.func (.method "Of") #[.iface t (vP bx 0)] #[])=some (.func (.method "Of") #[.iface t (vP bx 0)] #[]):=by
  unfold uY
  show(match(dR ab (.iface t (vP bx 0)) "Of").isSome with |true=>_|false=>none)=_
  rw[hm];rfl
 cases iB:(eC (kj Tb r) x).1.beq (cd true)with
 |true=>
  rw[iB]at e4;refine⟨_,m4,aJ (agw b (acc.length+1) cD acc.length m.next t bx (m1.blk m.next).aZ (eC (kj Tb r) x).1 true .nilIface) (.cond rfl<| .idx ej aj<| .val hnm<| .mem e1<| .mem (dW _ _)<| .mem (bM g1)<| .eN hm e2<| .mem (eD.trans (adW rfl hf rfl))<| .mem (bM g2)<| .mem e3<| .mem l3<| .call e4<| .cond rfl .nil),kr,?_⟩;rw[bC rfl];exact .inr ⟨b,_,rest,by rw[ahK],hb,hw.ext kr,ob.aR kr,gO.mono fun x u _ w=>w⟩
 |false=>
  rw[iB]at e4;refine⟨_,m4,aJ (agy b (acc.length+1) cD acc.length m.next t bx (m1.blk m.next).aZ (eC (kj Tb r) x).1 false (vL b 0 acc.length cD)) (.cond rfl<| .idx ej aj<| .val hnm<| .mem e1<| .mem (dW _ _)<| .mem (bM g1)<| .eN hm e2<| .mem (eD.trans (adW rfl hf rfl))<| .mem (bM g2)<| .mem e3<| .mem l3<| .call e4<| .cond rfl<| .mem (by rw[ej];exact shrink aj) .nil),kr,?_⟩;rw[bS Bool.false_ne_true,List.append_nil];exact .inr ⟨b,HK,(yC r).cells.toList++rest,rfl,hb,hw.ext kr,by rw[<-List.append_assoc];exact ob.aR kr,Hk⟩
end
end Go.AM
namespace Go.AM
set_option maxRecDepth 1000000
open Go Go.Conc Go.Proofs
theorem aj5 (k t2 t3 t4 t5 pr n cc more i q1 x l l1 b2 c2 bs g:Nat)(sv rv w rw :ae):Path 250 [sv,vI k,vP t2 0,vP t3 0,vP t4 0,vP t5 0]
 [.mem (aP t2 0) (vL pr 0 n cc),
  .mem (aP t3 0) (vI more),
  .val (kK Nat.div .i64 k more (jZ ab .quo 3 false false (vI k) (vI more))) (vI q1),
  .idx q1 n q1,
  .mem (eW 6 pr (0+q1*6)) rw,
  .mem (bh ab 223 1 [(0,rw)]) (vL bs 0 1 1),
  oY,
  .mem (cK ab #[223,223] sv (vL bs 0 1 1)) (vL b2 0 l c2),
  .mem (aP t4 0) (vI i),
  .mem (gk (vP t4 0)) (vI g),
  .mem (aP t3 0) (vI more),
  .val (kK Nat.mod .i64 k more (jZ ab .rem 3 false false (vI k) (vI more))) (vI x),
  .idx (oF l 1) l l1,
  oY,
  .val (pu ab [vI x] (convert 3 21 (vI x))) (.int .i32 x),
  .mem (cZ (vI g) (vP t4 0) (eI ab 3 (vP t4 0))) undef,
  .idx i 6 i,
  oY,
  .mem (gJ b2 (0+l1*6+i*1) (.int .i32 x)) undef,
  .mem (aP t5 1) w,
  .call 251 [vL b2 0 l c2,w] (.tuple #[rv,vI 0])]
 (.tuple #[rv,vI 0]):=fB
theorem ake (k t2 pe n cc s:Nat)(sv rv ev:ae):Path 110 [sv,vI k,vP t2 0]
 [.mem (aP t2 0) (vL pe 0 n cc),
  .idx k n k,
  .mem (aP pe (0+k*1)) ev,
  dN [some (.int .i32 0),some (.int .i32 0),some (.int .i32 0),some (.int .i32 0),some (.int .i32 0),some (.int .i32 0)] s,
  .call 111 [sv,ev,vP s 0] (.tuple #[rv,vI 0])]
 (.tuple #[rv,vI 0]):=fB
theorem ajv {i:Nat}(hi:i<90000){j:Nat}(hj:0<j){d:Option ae}:kK Nat.mod .i64 i j d=some (vI (i%j:Nat)):=by
 obtain⟨j,rfl⟩:∃k,j=k+1:=⟨j-1,aj⟩;unfold kK
 show(match Nat.blt i (iN .i64)with |true=>some (ae.int .i64 (.ofNat (Nat.mod i (Nat.succ j))))|false=>d)=_
 have :Nat.blt i (iN .i64)=true:=by
  rw[show iN .i64=9223372036854775808 from rfl,kl,jQ];omega
 rw[this];rfl
theorem alN {x:Nat}(h:x<90000):pu ab [vI x] (convert 3 21 (vI x))=some (.int .i32 x):=by
 have e:pu ab [vI x] (convert 3 21 (vI x))=some (.int .i32 (cf.i32.wrap x)):=aY;rw[e,show cf.i32.wrap x=x by unfold cf.wrap;simp[cf.signed,cf.bits];omega]
noncomputable def RB(Tb:Nat->Option (List (List V)))(on:Option X)(r:List Nat):Bool:=match on with
 |none=>true
 |some x=>(eC (kj Tb r) x).1.beq (cd true)
def Em (Tb:Nat->Option (List (List V)))(on:Option X)(r:List Nat):Prop:=match on with
 |none=>True
 |some x=>Tz (kj Tb r) x/\(eC (kj Tb r) x).2=0
theorem lP.noE{α:Type}{E:nU α}{sz:Nat}{BO BE:Nat->Prop}{m:Mem}{acc:List α}{sv:ae}(h:lP E sz BO BE m acc sv)(hE:∀{B B':Nat->Prop} {x m v},E.R B x m v->E.R B' x m v):lP E sz BO fu m acc sv:=by
 rcases h with h|⟨b,cs,rest,e,hb,hw,ob,gO⟩
 ·exact .inl h
 ·exact .inr ⟨b,cs,rest,e,⟨hb.1,id⟩,hw,ob,gO.mono fun x u _ w=>⟨hE w.1,w.2⟩⟩
section
variable {K:gS}{m m':Mem}{B BT:Nat->Prop}{Tb:Nat->Option (List (List V))}
theorem aaX (g:Gd m){BO BE:Nat->Prop}{acc:List (List Nat)}{r:List Nat}{sv xv:ae}{on:Option X}(ls:lP ts 6 BO BE m (acc++[r]) sv)(lr:fV BT Tb m)(hx:iP.R B on m xv)(er:Em Tb on r)(Mz:acc.length<2^29):
  ∃wT m',Ev K 251 [sv,xv] m (.tuple #[wT,vI 0]) m'/\Kp m m' fu/\lP ts 6 BO BE m' (acc++if RB Tb on r=true then[r]else[]) wT:=by
 cases on with
 |none=>
  have hx:xv= .nilIface:=hx;subst hx;exact⟨sv,m,aiA,.refl _ _,by unfold RB;rw[bC rfl];exact ls⟩
 |some x=>exact ami g ls lr hx er.1 er.2 Mz
theorem aas {rows:List (List Nat)}{pr cc k:Nat}{Bp:Nat->Prop}(h:(aT ts 6).R Bp rows m (vL pr 0 rows.length cc))(hk:k<rows.length):eW 6 pr (0+k*6) m=some (yC rows[k],m)/\okV 6 (yC rows[k]):=by
 obtain⟨b,c,u,cs,e,_,o,hu,hl,hr,ov⟩:=aT.get h hk;cases e;have hr:u=yC rows[k]:=hr;subst hr;exact⟨bW (vs:=(yC rows[k]).cells.toList) o (by rw[Nat.zero_add];exact hu) aj,ov⟩
theorem PU {m0:Mem}{X:Nat->Prop}{rows:List (List Nat)}{ct cx:Nat}{x:AM.X}{xv rl:ae}{Bp:Nat->Prop}(h1:Obj m0 ct 0 [rl])(h2:Obj m0 cx 0 [xv])(h3:(aT ts 6).R Bp rows m0 rl)(h4:XR B x m0 xv)(h5:fV BT Tb m0)
  (hX:∀b,b=ct\/b=cx\/Bp b\/B b\/BT b->¬X b/\b<m0.next)(er:∀r∈rows,Em Tb (some x) r)(hn:rows.length<90000):
  yy KW m0 X 252 #[vP ct 0,vP cx 0] ts 6 (fun k=>if RB Tb (some x) (rows[k]!)=true then[rows[k]!]else[]) rows.length:=by
 refine⟨fun i=>by split<;>simp,?_⟩;intro mw BO BE acc sv k hk g hs ls Zd EC ha;obtain⟨pr,cc,_,_,rfl,_⟩:=aT.get h3 hk;have ls:=ls.noE (fun h=>h);have old:∀b,¬X b/\b<m0.next->¬BO b:=fun b h1 h=>by
  rcases(Zd b h).1 with h|h
  ·exact h1.1 h
  ·omega
 have s1:=h1.mo hs (hX _ (.inl rfl)).1;have s2:=h2.mo hs (hX _ (.inr (.inl rfl))).1;have s3:=aT.g9 (sz:=6) jq.g9 _ _ _ _ _ h3 (hs.mono fun b hb=>(hX b (.inr (.inr (.inl hb)))).1);have s4:=XR.g9 h4 (hs.mono fun b hb=>(hX b (.inr (.inr (.inr (.inl hb))))).1);have s5:=h5.same (hs.mono fun b hb=>(hX b (.inr (.inr (.inr (.inr hb))))).1);obtain⟨l3,ov⟩:=aas s3 hk;rw[getElem!_pos rows k hk];generalize hr:rows[k]=r at*;have Wz:r∈rows:=hr▸List.getElem_mem hk;obtain⟨m2,m3,s',e2,g2,k2,e3,k3,Ua,_,n3⟩:=ls.add (t:=223) (B':=fu) (y:=r) (v:=yC r) g rfl eS rfl (fun b _ h=>h) (fun b h=>h.elim) (fun b h=>h.elim) ov aj;have Ua:=Ua.noE (fun h=>h);have g3:=g.ext k3;have s2':=s2.aR k2;have ajo:=s2.ext k3 (old _ (hX _ (.inr (.inl rfl))));obtain⟨wT,m4,e4,k4,ls4⟩:=aaX (K:=KW) (on:=some x) g3 Ua (s5.ext k3 fun b hb=>old b (hX b (.inr (.inr (.inr (.inr hb)))))) (show iP.R B (some x) m3 xv from XR.ext k3 (fun b hb=>old b (hX b (.inr (.inr (.inr (.inl hb)))))) s4) (er r Wz) aj;have eD:(m3.blk cx).aZ=(m2.blk cx).aZ:=by
  have hcx:=s2.lt;rw[k3.blk cx hcx (old _ (hX _ (.inr (.inl rfl)))),k2.blk cx hcx id]
 have n4:=k4.next;refine⟨wT,m4,_,fu,aJ (aj4 k ct cx pr rows.length cc mw.next (m2.blk cx).aZ sv s' wT xv (yC r)) (.mem (aN s1 rfl)<| .idx rfl hk<| .mem l3<| .mem e2<| .mem (aN s2' rfl)<| .mem (dW _ _)<| .mem (bM g2)<| .mem e3<| .mem (wE ajo rfl eD)<| .mem (bM g3)<| .call e4 .nil),k3.aS k4,ls4,fun b h=> .inr ⟨aj,aj⟩,fun b h=>h.elim⟩
theorem Xg {cs:List ae}{r:List Nat}{i x:Nat}(hi:i<r.length):(cs++GF r).set (cs.length+i) (.int .i32 x)=cs++GF (r.set i x):=by
 rw[List.set_append_right _ _ aj,Nat.add_sub_cancel_left];simp[GF,List.map_set]
theorem Lp {m0:Mem}{X:Nat->Prop}{rows:List (List Nat)}{more i ct cm ci cs:Nat}{on:Option AM.X}{tv xv rl:ae}{Bp:Nat->Prop}(h1:Obj m0 ct 0 [rl])(h2:Obj m0 cm 0 [vI more])(hci:Obj m0 ci 0 [vI i])(gO:Obj m0 cs 0 [tv,xv])(h3:(aT ts 6).R Bp rows m0 rl)(h4:iP.R B on m0 xv)(h5:fV BT Tb m0)
  (hX:∀b,b=ct\/b=cm\/b=ci\/b=cs\/Bp b\/B b\/BT b->¬X b/\b<m0.next)(er:∀r∈rows,∀k,k<more->Em Tb on (r.set i k))(hn:rows.length*more<90000)(hi:i<6):
  yy KW m0 X 250 #[vP ct 0,vP cm 0,vP ci 0,vP cs 0] ts 6 (fun k=>if RB Tb on ((rows[k / more]!).set i (k%more))=true then[(rows[k / more]!).set i (k%more)]else[]) (rows.length*more):=by
 refine⟨fun i=>by split<;>simp,?_⟩;intro mw BO BE acc sv k hk g hs ls Zd EC ha;have ls:=ls.noE (fun h=>h);have old:∀b,¬X b/\b<m0.next->¬BO b:=fun b h1 h=>by
  rcases(Zd b h).1 with h|h
  ·exact h1.1 h
  ·omega
 have hm0:0<more:=by
  rcases Nat.eq_zero_or_pos more with h|h
  ·rw[h]at hk;omega
  ·exact h
 have hkr:k / more<rows.length:=Nat.div_lt_of_lt_mul (by rw[Nat.mul_comm];exact hk);obtain⟨pr,cc,_,_,rfl,_⟩:=aT.get h3 hkr;have zj:=hX ct (.inl rfl);have fO:=hX cm (.inr (.inl rfl));have hx3:=hX ci (.inr (.inr (.inl rfl)));have hx4:=hX cs (.inr (.inr (.inr (.inl rfl))));have hxp:∀b,Bp b->_:=fun b hb=>hX b (.inr (.inr (.inr (.inr (.inl hb)))))
 have hxB:∀b,B b->_:=fun b hb=>hX b (.inr (.inr (.inr (.inr (.inr (.inl hb))))))
 have hxT:∀b,BT b->_:=fun b hb=>hX b (.inr (.inr (.inr (.inr (.inr (.inr hb))))))
 have s1:=h1.mo hs zj.1;have s2:=h2.mo hs fO.1;have si:=hci.mo hs hx3.1;have sc:=gO.mo hs hx4.1;have s3:=aT.g9 (sz:=6) jq.g9 _ _ _ _ _ h3 (hs.mono fun b hb=>(hxp b hb).1);have s4:iP.R B on mw xv:=by
  cases on with
  |none=>exact h4
  |some x=>exact XR.g9 h4 (hs.mono fun b hb=>(hxB b hb).1)
 have s5:=h5.same (hs.mono fun b hb=>(hxT b hb).1);obtain⟨l3,ov⟩:=aas s3 hkr;rw[getElem!_pos rows (k / more) hkr];generalize hr:rows[k / more]=r at*;have Wz:r∈rows:=hr▸List.getElem_mem hkr;have h6:=NW ov;obtain⟨m2,m3,s',e2,g2,k2,e3,k3,Ua,_,n3⟩:=ls.add (t:=223) (B':=fu) (y:=r) (v:=yC r) g rfl eS rfl (fun b _ h=>h) (fun b h=>h.elim) (fun b h=>h.elim) ov aj;have Ua:=Ua.noE (fun h=>h);have g3:=g.ext k3;rcases Ua with⟨h,_⟩|⟨b2,c3,rest,rfl,⟨rfl,_⟩,hw3,ob3,Y'⟩
 ·simp at h
 obtain⟨c1,v,rfl,Hk,hv,ov'⟩:=Y'.Lf;have hv:v=yC r:=hv;subst hv;have WB:=Hk.one.1;have hvc:(yC r).cells.toList=GF r:=by simp[yC,ae.cells]
 rw[hvc]at ob3;have hlr:(GF r).length=6:=by simp[h6]
 obtain⟨m4,e4,o4,k4⟩:=iZ (o:=0+acc.length*6+i*1) (.int .i32 (k%more:Nat)) ob3 (hw3.may _ _) (by simp[h6];omega) rfl;have g4:=g3.ext k4;have hmo:k%more<more:=Nat.mod_lt _ hm0;have AP:k%more<=k:=Nat.mod_le _ _;have e0:0+acc.length*6+i*1=c1.length+i:=aj;rw[e0]at o4;rw[List.set_append_left _ _ (by simp[h6];omega),Xg aj]at o4;have nl:mw.next<=mw.next+1:=aj;have YH:Kp mw m4 BO:=k3.trans k4 fun b hb e=>by omega
 have ls4:lP ts 6 (fun y=>y=mw.next+1) fu m4 (acc++[r.set i (k%more)]) (vL (mw.next+1) 0 (acc++[r]).length cD):=by
  refine .inr ⟨mw.next+1,_,rest,de,⟨rfl,id⟩,hw3.ext k4,o4,?_⟩;have :cA (fun x u=>ts.R fu x m4 u/\okV 6 u) (acc++[r.set i (k%more)]) (c1++(yC (r.set i (k%more))).cells.toList):=cA.snoc ⟨rfl,S6 (by simp[h6])⟩ (Hk.mono fun x u _ w=>w);simpa[yC,ae.cells]using this
 have akP:=sc.ext YH (old _ hx4);obtain⟨wT,m5,e5,k5,ls5⟩:=aaX (K:=KW) (on:=on) g4 ls4 (s5.ext YH fun b hb=>old b (hxT b hb)) (iP.ext s4 YH fun b hb=>old b (hxB b hb)) (er r Wz _ hmo) aj;have eD:(m3.blk ci).aZ=(m3.blk ci).aZ:=rfl;have n5:=k5.next;have n4:=k4.next;have Mz:(acc++[r]).length=acc.length+1:=de;rw[Mz]at e5 ls4;have amW:=s1;refine⟨wT,m5,_,fu,aJ (aj5 k ct cm ci cs pr rows.length cc more i (k / more) (k%more) (acc.length+1) acc.length (mw.next+1) cD mw.next (m3.blk ci).aZ sv wT xv (yC r)) (.mem (aN s1 rfl)<| .mem (aN s2 rfl)<| .val (ajN aj hm0)<| .idx rfl hkr<| .mem l3<| .mem e2<| .mem (bM g2)<| .mem (by rw[<-Mz];exact e3)<| .mem (aN (si.ext k3 (old _ hx3)) rfl)<| .mem (dW _ _)<| .mem (aN (s2.ext k3 (old _ fO)) rfl)<| .val (ajv aj hm0)<| .idx Lj aj<| .mem (bM g3)<| .val (alN aj)<| .mem (wE (si.ext k3 (old _ hx3)) rfl rfl)<| .idx rfl hi<| .mem (bM g3)<| .mem e4<| .mem (aN akP rfl)<| .call e5 .nil),YH.aS k5,ls5,fun b h=> .inr ⟨aj,aj⟩,fun b h=>h.elim⟩
theorem Lm {m0:Mem}{X:Nat->Prop}{rows:List (List Nat)}{rU:List AM.X}{iv rl:ae}{ct cr:Nat}{Bp:Nat->Prop}(h1:Obj m0 ct 0 [iv])(h2:Obj m0 cr 0 [rl])(h3:(aT ts 6).R Bp rows m0 rl)(h4:(aT nR 1).R B rU m0 iv)(h5:fV BT Tb m0)
  (hX:∀b,b=ct\/b=cr\/Bp b\/B b\/BT b->¬X b/\b<m0.next)(er:∀r∈rows,(∀x∈rU,Tz (kj Tb r) x)/\(oP (kj Tb r) rU []).2=0)(hl:rU.length<9000):
  yy KW m0 X 253 #[vP ct 0,vP cr 0] bH 1 (fun k=>[(oP (kj Tb (rows[k]!)) rU []).1]) rows.length:=by
 refine⟨fun i=>by simp,?_⟩;intro mw BO BE acc sv k hk g hs ls Zd EC ha;obtain⟨pr,cc,_,_,rfl,_⟩:=aT.get h3 hk;have s1:=h1.mo hs (hX _ (.inl rfl)).1;have s2:=h2.mo hs (hX _ (.inr (.inl rfl))).1;have s3:=aT.g9 (sz:=6) jq.g9 _ _ _ _ _ h3 (hs.mono fun b hb=>(hX b (.inr (.inr (.inl hb)))).1);have s4:=aT.g9 nR.g9 _ _ _ _ _ h4 (hs.mono fun b hb=>(hX b (.inr (.inr (.inr (.inl hb))))).1);have s5:=h5.same (hs.mono fun b hb=>(hX b (.inr (.inr (.inr (.inr hb))))).1);obtain⟨b,c,u,cs,e,_,o,hu,hle,hr,ov⟩:=aT.get s3 hk;cases e;have hr:u=yC rows[k]:=hr;subst hr;rw[getElem!_pos rows k hk];have Wz:rows[k]∈rows:=List.getElem_mem hk;generalize rows[k]=r at*;have hsc:Ay BT Tb r pr (0+k*6) 6 mw:=⟨⟨cs,o,by rw[Nat.zero_add,hu];simp[yC,ae.cells],aj⟩,s5⟩;obtain⟨wT,m',Wn,H0,e1,k1,Ow,x1,x2⟩:=aa0 (K:=KW) LD g hsc ls (fun b hb=>(Zd b hb).2) (fun b hb=>(EC b hb).2) s4 (er r Wz).1 hl aj (er r Wz).2;exact⟨wT,m',Wn,H0,aJ (aj3 k ct cr pr rows.length cc sv iv wT 0) (.mem (aN s1 rfl)<| .mem (aN s2 rfl)<| .idx rfl hk<| .mem (bM g)<| .call e1 .nil),k1,Ow,fun b h=> .inr (x1 b h),x2⟩
end
end Go.AM
namespace Go.AM
set_option maxRecDepth 1000000
open Go Go.Conc Go.Proofs
structure dp (m:Mem)(d:Nat)(SB:Nat->Prop)(rows:List (List Nat))(cs:List ae)(bo:Nat->Option Nat)(al:Option Nat)(bm:Nat->Option Nat)(am:Option Nat)(rl:ae):Prop where
 ob:Obj m d 0 cs
 len:cs.length=18
 bd:m.base<=d
 br:km m d 0 6 cs bo al
 bw:km m d 9 1 cs bm am
 all:cs[8]?=some rl
 rws:(aT ts 6).R (fun y=>al=some y) rows m rl
 sd:SB d
 sb:∀{j b},bo j=some b\/al=some b\/bm j=some b\/am=some b->SB b/\b<m.next
theorem km.NH{m:Mem}{d q sz:Nat}{cs:List ae}{bo:Nat->Option Nat}{al:Option Nat}(h:km m d q sz cs bo al){b:Nat}(hb:(∃j,bo j=some b)\/al=some b):(m.blk b).sz=sz/\b<m.next:=by
 rcases hb with⟨j,hb⟩|hb
 ·obtain⟨xs,r⟩:=h.kind hb;exact⟨r.sz,r.lt⟩
 ·obtain⟨sv,_,hr⟩:=h.all;rcases hr with⟨h1,_⟩|⟨b',_,_,h1,_,r,_⟩
  ·rw[hb]at h1;cases h1
  ·rw[hb]at h1;cases h1;exact⟨r.sz,r.lt⟩
theorem km.keep{m m':Mem}{d q sz:Nat}{cs ys:List ae}{bo:Nat->Option Nat}{al:Option Nat}{S:Nat->Prop}(h:km m d q sz cs bo al)(k:Kp m m' S)(hl:ys.length=cs.length)(hy:∀x,q<=x->x<q+9->ys[x]?=cs[x]?)(hS:∀b,S b->b=d\/(m.blk b).sz≠sz\/m.next<=b):km m' d q sz ys bo al:=by
 have hn:∀b,(∃j,bo j=some b)\/al=some b->b≠d->¬S b:=fun b hb hd hs=>by
  obtain⟨h1,h2⟩:=h.NH hb;rcases hS b hs with h|h|h
  ·exact hd h
  ·exact h h1
  ·omega
 refine⟨by rw[hl];exact h.len,fun j hj=>?_,h.hi,h.inj,fun hb=>by rw[k.base];exact h.ne hb,?_,fun hp=>by rw[k.base];exact h.Ia hp⟩
 ·obtain⟨sv,h1,h2⟩:=h.sh j hj;exact⟨sv,by rw[hy _ aj aj];exact h1,h2.ext k.Wr fun b hb=>hn b (.inl ⟨j,hb⟩) (h.ne hb).1⟩
 ·obtain⟨sv,h1,h2⟩:=h.all;exact⟨sv,by rw[hy _ aj aj];exact h1,h2.ext k.Wr fun b hb=>hn b (.inr hb) (h.Ia hb).1⟩
theorem dp.aR{m m':Mem}{d:Nat}{SB:Nat->Prop}{rows:List (List Nat)}{cs:List ae}{bo:Nat->Option Nat}{al:Option Nat}{bm:Nat->Option Nat}{am:Option Nat}{rl:ae}(h:dp m d SB rows cs bo al bm am rl)(k:Kp m m' fu):dp m' d SB rows cs bo al bm am rl:=
 ⟨h.ob.aR k,h.len,by rw[k.base];exact h.bd,h.br.keep k rfl (fun _ _ _=>rfl) fun _ h=>h.elim,h.bw.keep k rfl (fun _ _ _=>rfl) fun _ h=>h.elim,h.all,(aT ts 6).ext h.rws k fun _ _ h=>h,h.sd,fun hb=>⟨(h.sb hb).1,by have :=(h.sb hb).2;have :=k.next;omega⟩⟩
theorem agM (d i tp n cc more ct bs bi bm b7 t x g1 g2:Nat)(ra pt:Option Addr)(rv:ae):Path 200 [vP d 0,vI i,.agg #[vP tp 0,.nilIface]]
 [dN [some (vI i)] bi,
  dN [some (vP tp 0),some .nilIface] bs,
  .mem (aP d 8) (.slice ra n cc),
  .mem (aP bs 0) (vP tp 0),
  .mem (gk (vP bs 0)) (vI g1),
  .mem (aP tp 1) (.slice pt more ct),
  .mem (gk (vP tp 1)) (vI g2),
  dN [some fE] b7,
  dN [some (vI 0)] bm,
  oY,
  .mem (gJ b7 0 (.slice ra n cc)) undef,
  .mem (cZ (vI g1) (vP bs 0) (eI ab 147 (vP bs 0))) undef,
  .mem (cZ (vI g2) (vP tp 1) (eI ab 29 (vP tp 1))) undef,
  oY,
  .mem (gJ bm 0 (vI more)) undef,
  .mem (aP b7 0) (.slice ra n cc),
  .mem (aP bm 0) (vI more),
  bP (qE (oK n more) 20000) false,
  .call 249 [vP d 0,vI (oK n more),.func (.func 250) #[] #[vP b7 0,vP bm 0,vP bi 0,vP bs 0]] (.tuple #[rv,vI 0])]
 (vI 0):=fB
theorem agN (d i tp n cc more ct bs bi bm b7 t x g1 g2:Nat)(ra pt:Option Addr)(rv:ae):Path 200 [vP d 0,vI i,.agg #[vP tp 0,.iface t (vP x 0)]]
 [dN [some (vI i)] bi,
  dN [some (vP tp 0),some (.iface t (vP x 0))] bs,
  .mem (aP d 8) (.slice ra n cc),
  .mem (aP bs 0) (vP tp 0),
  .mem (gk (vP bs 0)) (vI g1),
  .mem (aP tp 1) (.slice pt more ct),
  .mem (gk (vP tp 1)) (vI g2),
  dN [some fE] b7,
  dN [some (vI 0)] bm,
  oY,
  .mem (gJ b7 0 (.slice ra n cc)) undef,
  .mem (cZ (vI g1) (vP bs 0) (eI ab 147 (vP bs 0))) undef,
  .mem (cZ (vI g2) (vP tp 1) (eI ab 29 (vP tp 1))) undef,
  oY,
  .mem (gJ bm 0 (vI more)) undef,
  .mem (aP b7 0) (.slice ra n cc),
  .mem (aP bm 0) (vI more),
  bP (qE (oK n more) 20000) false,
  .call 249 [vP d 0,vI (oK n more),.func (.func 250) #[] #[vP b7 0,vP bm 0,vP bi 0,vP bs 0]] (.tuple #[rv,vI 0])]
 (vI 0):=fB
theorem agK (d t x n cc bx b5:Nat)(ra:Option Addr)(rv:ae):Path 201 [vP d 0,.iface t (vP x 0)]
 [dN [some (.iface t (vP x 0))] bx,
  .mem (aP bx 0) (.iface t (vP x 0)),
  eE,
  .mem (aP d 8) (.slice ra n cc),
  dN [some fE] b5,
  .mem (gJ b5 0 (.slice ra n cc)) undef,
  .mem (aP b5 0) (.slice ra n cc),
  oY,
  .call 249 [vP d 0,vI n,.func (.func 252) #[] #[vP b5 0,vP bx 0]] (.tuple #[rv,vI 0])]
 (vI 0):=fB
section
variable {K:gS}{m:Mem}{B BT:Nat->Prop}{Tb:Nat->Option (List (List V))}
theorem FY (hK:AY K)(cm:Calm m){d:Nat}{SB:Nat->Prop}{rows:List (List Nat)}{cs:List ae}{bo bm:Nat->Option Nat}{al am:Option Nat}{rl:ae}{fs n:Nat}{cap:Array ae}{st:Nat->List (List Nat)}(D:dp m d SB rows cs bo al bm am rl)
  (eD:yy KW m (fun b=>b=d\/∃k,bo k=some b) fs cap ts 6 st n)(hn:n<9000):
  ∃rv m' gQ uH pj,Ev K 249 [vP d 0,vI n,.func (.func fs) #[] cap] m (.tuple #[rv,vI 0]) m'/\Kp m m' SB/\dp m' d (fun b=>SB b\/iS m m' b) (gA st n 0 []) gQ uH pj bm am rv:=by
 obtain⟨rv,m',ys,uH,pj,e,k,o,hyl,hyo,H7,nD,WH,hy8,q,_⟩:=adZ ag9 (t:=223) (sz:=6) rfl hK eD jq.g9 (.inl rfl) (fun k b h=> .inr ⟨k,h⟩) cm D.ob D.bd D.br hn;have nk:=k.next;have kS:Kp m m' SB:=k.mono fun b _ h=>by
  rcases h with rfl|⟨i,h⟩|h
  ·exact D.sd
  ·exact(D.sb (.inl h)).1
  ·exact(D.sb (j:=0) (.inr (.inl h))).1
 have hbw:km m' d 9 1 ys bm am:=D.bw.keep k hyl (fun x h1 h2=>hyo x (.inr aj)) fun b h=>by
  rcases h with h|h|h
  ·exact .inl h
  ·exact .inr (.inl (by rw[(D.br.NH (.inl h)).1];decide))
  ·exact .inr (.inl (by rw[(D.br.NH (.inr h)).1];decide))
 obtain⟨Rz,UP,hs2⟩:=H7.all;have hrs:rv=Rz:=by rw[show(0:Nat)+8=8 by rfl]at UP hy8;rw[hy8]at UP;exact Option.some.inj UP
 subst hrs;have sbn:∀{j b},uH j=some b\/pj=some b\/bm j=some b\/am=some b->(SB b\/iS m m' b)/\b<m'.next:=fun{j b} h=>by
  rcases h with h|h|h
  ·rcases nD j b h with h'|h'
   ·exact⟨.inl (D.sb (.inl h')).1,by have :=(D.sb (.inl h')).2;omega⟩
   ·exact⟨.inr h',h'.2⟩
  ·have h':=WH b h;exact⟨.inr h',h'.2⟩
  ·have h':=D.sb (j:=j) (b:=b) (.inr (.inr h));exact⟨.inl h'.1,aj⟩
 refine⟨_,m',ys,uH,pj,e,kS,⟨o,hyl.trans D.len,by rw[k.base];exact D.bd,H7,hbw,hy8,?_,.inl D.sd,sbn⟩⟩;obtain⟨HK,q1,q2,q3⟩:=q;refine⟨HK,q1,fun b o n c e=>?_,q3.mono fun x u _ w=>w⟩;rcases hs2 with⟨h1,h2⟩|⟨p,l,xs,h1,h2,_,_⟩
 ·rw[h2]at e;cases e
 ·rw[h2]at e;cases e;exact h1
noncomputable def AW(Tb:Nat->Option (List (List V)))(on:Option X)(rows:List (List Nat))(i more k:Nat):List (List Nat):=if RB Tb on ((rows[k / more]!).set i (k%more))=true then[(rows[k / more]!).set i (k%more)]else[]
theorem amp (hK:AY K)(cm:Calm m){d:Nat}{SB:Nat->Prop}{rows:List (List Nat)}{cs:List ae}{bo bm:Nat->Option Nat}{al am:Option Nat}{rl:ae}(D:dp m d SB rows cs bo al bm am rl){i tp:Nat}{on:Option X}{xv:ae}{nH:List (List V)}(hi:i<6)(htp:Tb tp=some nH)(lr:fV BT Tb m)(hx:iP.R B on m xv)
  (mL:∀b,B b\/BT b->¬SB b/\b<m.next)(er:∀r∈rows,∀k,k<nH.length->Em Tb on (r.set i k))(hn:rows.length*nH.length<9000):
  ∃m' gQ uH pj KH,Ev K 200 [vP d 0,vI i,.agg #[vP tp 0,xv]] m (vI 0) m'/\Kp m m' SB/\dp m' d (fun b=>SB b\/iS m m' b) (gA (AW Tb on rows i nH.length) (rows.length*nH.length) 0 []) gQ uH pj bm am KH:=by
 obtain⟨ra,rc,UQ⟩:=aT.form D.rws;subst UQ;obtain⟨Za,cl,tl,ot,qt⟩:=lr tp nH htp;obtain⟨pt,ct,htl⟩:=aT.form qt;subst htl;have hxv:(xv= .nilIface)\/∃t x,xv= .iface t (vP x 0):=by
  cases on with
  |none=>exact .inl hx
  |some x=>obtain⟨t,b,e⟩:=XR.form hx;exact .inr ⟨t,b,e⟩
 obtain⟨bi,hbi⟩:∃b,b=m.next:=⟨_,rfl⟩;obtain⟨m1,e1,o1,k1,n1,_⟩:=aV cm.gd [vI i];have g1:=cm.gd.ext k1;obtain⟨bs,QN⟩:∃b,b=m1.next:=⟨_,rfl⟩;obtain⟨m2,e2,o2,k2,n2,_⟩:=aV g1 [vP tp 0,xv];have g2:=g1.ext k2;have kg:=k1.aS k2;obtain⟨b7,hb7⟩:∃b,b=m2.next:=⟨_,rfl⟩;obtain⟨m3,e3,o3,k3,n3,_⟩:=aV g2 [.slice none 0 0];have g3:=g2.ext k3;obtain⟨DX,hbm⟩:∃b,b=m3.next:=⟨_,rfl⟩;obtain⟨m4,e4,o4,k4,n4,_⟩:=aV g3 [vI 0];have g4:=g3.ext k4;rw[<-hbi]at e1 o1;rw[<-QN]at e2 o2;rw[<-hb7]at e3 o3;rw[<-hbm]at e4 o4;obtain⟨m5,e5,o5,k5⟩:=iZ (o:=0) (.slice ra rows.length rc) (o3.aR k4) (((g2.own k3 aj).ext k4).may _ _) de rfl;have g5:=g4.ext k5;obtain⟨m6,e6,o6,k6⟩:=iZ (o:=0) (vI (nH.length:Int)) (o4.ext k5 aj) (((g3.own k4 aj).ext k5).may _ _) de rfl;have RJ:=D.ob.lt;have sZ:Kp m m6 fu:=by
  have a:=(kg.aS k3).aS k4;have b:=a.trans (k5.mono (S':=fun y=>m.next<=y) fun y _ h=>by omega) (S:=fu) fun y hy h=>by omega
  exact b.trans (k6.mono (S':=fun y=>m.next<=y) fun y _ h=>by omega) fun y hy h=>by omega
 have DW:=cm.ext sZ;have n56:=k5.next;have n66:=k6.next;have En:Obj m6 bi 0 [vI i]:=((((o1.aR k2).aR k3).aR k4).ext k5 aj).ext k6 aj;have RD:Obj m6 bs 0 [vP tp 0,xv]:=(((o2.aR k3).aR k4).ext k5 aj).ext k6 aj;have o7':Obj m6 b7 0 [.slice ra rows.length rc]:=o5.ext k6 aj;have D6:=D.aR sZ;have n06:=sZ.next;have eD:=Lp (B:=B) (BT:=BT) (Tb:=Tb) (on:=on) (rows:=rows) (more:=nH.length) (i:=i) (Bp:=fun y=>al=some y) (X:=fun b=>b=d\/∃k,bo k=some b) o7' o6 En RD D6.rws (iP.ext hx sZ fun _ _ h=>h) (lr.ext sZ fun _ _ h=>h) (by
  intro b hb;rcases hb with rfl|rfl|rfl|rfl|hb|hb|hb
  ·exact⟨fun h=>h.elim aj fun⟨k,h⟩=>by have :=(D.sb (.inl h)).2;omega,aj⟩
  ·exact⟨fun h=>h.elim aj fun⟨k,h⟩=>by have :=(D.sb (.inl h)).2;omega,aj⟩
  ·exact⟨fun h=>h.elim aj fun⟨k,h⟩=>by have :=(D.sb (.inl h)).2;omega,aj⟩
  ·exact⟨fun h=>h.elim aj fun⟨k,h⟩=>by have :=(D.sb (.inl h)).2;omega,aj⟩
  ·exact⟨fun h=>h.elim (D.br.Ia hb).1 fun⟨k,h⟩=>(D.br.Ia hb).2.2 k h,by have :=(D.sb (j:=0) (.inr (.inl hb))).2;omega⟩
  ·have :=mL b (.inl hb);exact⟨fun h=>h.elim (fun e=>this.1 (e▸D.sd)) fun⟨k,h⟩=>this.1 (D.sb (.inl h)).1,aj⟩
  ·have :=mL b (.inr hb);exact⟨fun h=>h.elim (fun e=>this.1 (e▸D.sd)) fun⟨k,h⟩=>this.1 (D.sb (.inl h)).1,aj⟩) er aj hi
 obtain⟨rv,m7,gQ,uH,pj,e7,k7,D7⟩:=FY hK DW D6 eD hn;have Zr:oK (rows.length:Int) (nH.length:Int)=((rows.length*nH.length:Nat):Int):=ag4 aj;have l1:aP d 8 m2=some (.slice ra rows.length rc,m2):=aN (D.ob.aR kg) D.all;have otx:Obj m2 tp 0 [cl,.slice pt nH.length ct]:=ot.aR kg;have amT:tp<m.next:=ot.lt;have o25:Obj m5 bs 0 [vP tp 0,xv]:=((o2.aR k3).aR k4).ext k5 aj;have ot5:Obj m5 tp 0 [cl,.slice pt nH.length ct]:=((otx.aR k3).aR k4).ext k5 aj;have jL:(m5.blk bs).aZ=(m2.blk bs).aZ:=by rw[k5.blk bs aj aj,k4.blk bs aj id,k3.blk bs aj id]
 have zS:(m5.blk tp).aZ=(m2.blk tp).aZ:=by rw[k5.blk tp aj aj,k4.blk tp aj id,k3.blk tp aj id]
 have fin:Kp m m7 SB:=sZ.tA.trans k7 fun _ _ h=>h
 have DD:dp m7 d (fun b=>SB b\/iS m m7 b) (gA (AW Tb on rows i nH.length) (rows.length*nH.length) 0 []) gQ uH pj bm am rv:={D7 with sd:= .inl D.sd,sb:=fun hb=>⟨(D7.sb hb).1.imp id fun h=>⟨by have :=h.1;omega,h.2⟩,(D7.sb hb).2⟩};rcases hxv with rfl|⟨t,x,rfl⟩
 ·exact⟨m7,gQ,uH,pj,rv,aJ (agM d i tp rows.length rc nH.length ct bs bi DX b7 0 0 (m2.blk bs).aZ (m2.blk tp).aZ ra pt rv) (.mem e1<| .mem e2<| .mem l1<| .mem (aN o2 rfl)<| .mem (dW _ _)<| .mem (aN otx rfl)<| .mem (dW _ _)<| .mem e3<| .mem e4<| .mem (bM g4)<| .mem e5<| .mem (wE o25 rfl jL)<| .mem (wE ot5 rfl zS)<| .mem (bM g5)<| .mem e6<| .mem (aN o7' rfl)<| .mem (aN o6 rfl)<| .cond (by rw[Zr];exact dF (Be (j:=20000)))<| .call (by rw[Zr];exact e7) .nil),fin,DD⟩
 ·exact⟨m7,gQ,uH,pj,rv,aJ (agN d i tp rows.length rc nH.length ct bs bi DX b7 t x (m2.blk bs).aZ (m2.blk tp).aZ ra pt rv) (.mem e1<| .mem e2<| .mem l1<| .mem (aN o2 rfl)<| .mem (dW _ _)<| .mem (aN otx rfl)<| .mem (dW _ _)<| .mem e3<| .mem e4<| .mem (bM g4)<| .mem e5<| .mem (wE o25 rfl jL)<| .mem (wE ot5 rfl zS)<| .mem (bM g5)<| .mem e6<| .mem (aN o7' rfl)<| .mem (aN o6 rfl)<| .cond (by rw[Zr];exact dF (Be (j:=20000)))<| .call (by rw[Zr];exact e7) .nil),fin,DD⟩
noncomputable def PM(Tb:Nat->Option (List (List V)))(x:X)(rows:List (List Nat))(k:Nat):List (List Nat):=if RB Tb (some x) (rows[k]!)=true then[rows[k]!]else[]
theorem amo (hK:AY K)(cm:Calm m){d:Nat}{SB:Nat->Prop}{rows:List (List Nat)}{cs:List ae}{bo bm:Nat->Option Nat}{al am:Option Nat}{rl:ae}(D:dp m d SB rows cs bo al bm am rl){x:X}{xv:ae}(lr:fV BT Tb m)(hx:XR B x m xv)
  (mL:∀b,B b\/BT b->¬SB b/\b<m.next)(er:∀r∈rows,Em Tb (some x) r)(hn:rows.length<9000):
  ∃m' gQ uH pj KH,Ev K 201 [vP d 0,xv] m (vI 0) m'/\Kp m m' SB/\dp m' d (fun b=>SB b\/iS m m' b) (gA (PM Tb x rows) rows.length 0 []) gQ uH pj bm am KH:=by
 obtain⟨ra,rc,UQ⟩:=aT.form D.rws;subst UQ;obtain⟨t,bx',rfl⟩:=XR.form hx;obtain⟨bx,hbx⟩:∃b,b=m.next:=⟨_,rfl⟩;obtain⟨m1,e1,o1,k1,n1,_⟩:=aV cm.gd [.iface t (vP bx' 0)];have AU:=cm.ext k1;obtain⟨b5,hb5⟩:∃b,b=m1.next:=⟨_,rfl⟩;obtain⟨m2,m3,e2,e3,o3,k3,n3⟩:=AU.gd.sd.Se (.slice none 0 0) (.slice ra rows.length rc) rfl;rw[<-hbx]at e1 o1;rw[<-hb5]at e2 e3 o3;have jG:=k1.aS k3;have te:=cm.ext jG;have D3:=D.aR jG;have RJ:=D.ob.lt;have n03:=jG.next;have eD:=PU (B:=B) (BT:=BT) (Tb:=Tb) (x:=x) (rows:=rows) (Bp:=fun y=>al=some y) (X:=fun b=>b=d\/∃k,bo k=some b) o3 (o1.aR k3) D3.rws (XR.ext jG (fun _ _ h=>h) hx) (lr.ext jG fun _ _ h=>h) (by
  intro b hb;rcases hb with rfl|rfl|hb|hb|hb
  ·exact⟨fun h=>h.elim aj fun⟨k,h⟩=>by have :=(D.sb (.inl h)).2;omega,aj⟩
  ·exact⟨fun h=>h.elim aj fun⟨k,h⟩=>by have :=(D.sb (.inl h)).2;omega,aj⟩
  ·exact⟨fun h=>h.elim (D.br.Ia hb).1 fun⟨k,h⟩=>(D.br.Ia hb).2.2 k h,by have :=(D.sb (j:=0) (.inr (.inl hb))).2;omega⟩
  ·have :=mL b (.inl hb);exact⟨fun h=>h.elim (fun e=>this.1 (e▸D.sd)) fun⟨k,h⟩=>this.1 (D.sb (.inl h)).1,aj⟩
  ·have :=mL b (.inr hb);exact⟨fun h=>h.elim (fun e=>this.1 (e▸D.sd)) fun⟨k,h⟩=>this.1 (D.sb (.inl h)).1,aj⟩) er aj
 obtain⟨rv,m7,gQ,uH,pj,e7,k7,D7⟩:=FY hK te D3 eD hn;exact⟨m7,gQ,uH,pj,rv,aJ (agK d t bx' rows.length rc bx b5 ra rv) (.mem e1<| .mem (aN o1 rfl)<| .cond rfl<| .mem (aN (D.ob.aR k1) D.all)<| .mem e2<| .mem e3<| .mem (aN o3 rfl)<| .mem (bM te.gd)<| .call e7 .nil),jG.tA.trans k7 fun _ _ h=>h,
  {D7 with sd:= .inl D.sd,sb:=fun hb=>⟨(D7.sb hb).1.imp id fun h=>⟨by have :=h.1;omega,h.2⟩,(D7.sb hb).2⟩}⟩
end
end Go.AM
namespace Go.AM
set_option maxRecDepth 1000000
open Go Go.Conc Go.Proofs
theorem agJ (d n cc il ic b1 b2:Nat)(ia ra:Option Addr)(rv:ae):Path 202 [vP d 0,.slice ia il ic]
 [dN [some (.slice ia il ic)] b1,
  .mem (aP d 8) (.slice ra n cc),
  dN [some fE] b2,
  .mem (gJ b2 0 (.slice ra n cc)) undef,
  .mem (aP b2 0) (.slice ra n cc),
  oY,
  .call 109 [vP d 9,vI n,.func (.func 253) #[] #[vP b1 0,vP b2 0]] (.tuple #[rv,vI 0])]
 (.tuple #[rv,vI 0]):=fB
def vM:nU (Nat×Option X) where
 R B s m v:=∃xv,v= .agg #[vP s.1 0,xv]/\iP.R B s.2 m xv
 mono:=by
  rintro B B' x m v ⟨xv,e,h⟩ k;exact⟨xv,e,iP.mono h k⟩
 ext:=by
  rintro B S x m m' v ⟨xv,e,h⟩ k hs;exact⟨xv,e,iP.ext h k hs⟩
theorem vM.ok{B:Nat->Prop}{s:Nat×Option X}{m:Mem}{v:ae}(h:vM.R B s m v):okV 2 v/\∃xv,v= .agg #[vP s.1 0,xv]/\kI xv=true:=by
 obtain⟨p,on⟩:=s;obtain⟨xv,rfl,h⟩:=h;have :kI xv=true/\xv.oneCell'=true:=by
  cases on with
  |none=>have h:xv= .nilIface:=h;subst h;exact⟨rfl,rfl⟩
  |some x=>obtain⟨t,b,rfl⟩:=XR.form h;exact⟨rfl,by simp[ae.oneCell']⟩
 exact⟨⟨rfl,fun y hy=>by
  have hy:y=vP p 0\/y=xv:=by simpa[ae.cells]using hy
  rcases hy with rfl|rfl
  ·rfl
  ·exact this.2⟩,xv,rfl,this.1⟩
noncomputable def gf(Tb:Nat->Option (List (List V))):List (Nat×Option X)->Nat->List (List Nat)->List (List Nat)
 | [],_,rows=>rows
 |(p,on)::l,i,rows=>gf Tb l (i+1) (gA (AW Tb on rows i ((Tb p).getD []).length) (rows.length*((Tb p).getD []).length) 0 [])
def G8 (Tb:Nat->Option (List (List V))):List (Nat×Option X)->Nat->List (List Nat)->Prop
 | [],_,_=>True
 |(p,on)::l,i,rows=>(∃t,Tb p=some t)/\rows.length*((Tb p).getD []).length<9000/\(∀r∈rows,∀k,k<((Tb p).getD []).length->Em Tb on (r.set i k))/\G8 Tb l (i+1) (gA (AW Tb on rows i ((Tb p).getD []).length) (rows.length*((Tb p).getD []).length) 0 [])
noncomputable def iq(Tb:Nat->Option (List (List V)))(wh:Option X)(rows:List (List Nat)):List (List Nat):=match wh with
 |none=>rows
 |some x=>gA (PM Tb x rows) rows.length 0 []
noncomputable def xO(Tb:Nat->Option (List (List V)))(rU:List X)(rows:List (List Nat)):List (List V):=gA (fun k=>[(oP (kj Tb (rows[k]!)) rU []).1]) rows.length 0 []
def eU:List Nat:=[0,0,0,0,0,0]
section
variable {K:gS}{m:Mem}{B BT:Nat->Prop}{Tb:Nat->Option (List (List V))}
theorem aiC (hK:AY K)(cm:Calm m){d:Nat}{SB:Nat->Prop}{rows:List (List Nat)}{cs:List ae}{bo bm:Nat->Option Nat}{al am:Option Nat}{rl:ae}(D:dp m d SB rows cs bo al bm am rl){rU:List X}{iv:ae}(lr:fV BT Tb m)(hx:(aT nR 1).R B rU m iv)
  (mL:∀b,B b\/BT b->¬SB b/\b<m.next)(er:∀r∈rows,(∀x∈rU,Tz (kj Tb r) x)/\(oP (kj Tb r) rU []).2=0)(hl:rU.length<9000)(hn:rows.length<9000):
  ∃rv m' gQ DX EM,Ev K 202 [vP d 0,iv] m (.tuple #[rv,vI 0]) m'/\Kp m m' SB/\dp m' d (fun b=>SB b\/iS m m' b) rows gQ bo al DX EM rl/\(aT bH 1).R (iS m m') (xO Tb rU rows) m' rv/\(am=none->xO Tb rU rows=[]->rv= .slice none 0 0/\EM=none):=by
 obtain⟨ra,rc,UQ⟩:=aT.form D.rws;obtain⟨ia,ic,hiv⟩:=aT.form hx;subst hiv;obtain⟨ct,hct⟩:∃b,b=m.next:=⟨_,rfl⟩;obtain⟨m1,e1,o1,k1,n1,_⟩:=aV cm.gd [.slice ia rU.length ic];have AU:=cm.ext k1;obtain⟨cr,RL⟩:∃b,b=m1.next:=⟨_,rfl⟩;obtain⟨m2,m3,e2,e3,o3,k3,n3⟩:=AU.gd.sd.Se (.slice none 0 0) (.slice ra rows.length rc) rfl;rw[<-hct]at e1 o1;rw[<-RL]at e2 e3 o3;have jG:=k1.aS k3;have te:=cm.ext jG;have D3:=D.aR jG;have RJ:=D.ob.lt;have n03:=jG.next;have eD:=Lm (B:=B) (BT:=BT) (Tb:=Tb) (rows:=rows) (rU:=rU) (Bp:=fun y=>al=some y) (X:=fun b=>b=d\/∃k,bm k=some b) (o1.aR k3) o3 (by have :=D3.rws;rw[UQ]at this;exact this) ((aT nR 1).ext hx jG fun _ _ h=>h) (lr.ext jG fun _ _ h=>h) (by
  intro b hb;rcases hb with rfl|rfl|hb|hb|hb
  ·exact⟨fun h=>h.elim aj fun⟨k,h⟩=>by have :=(D.sb (j:=k) (.inr (.inr (.inl h)))).2;omega,aj⟩
  ·exact⟨fun h=>h.elim aj fun⟨k,h⟩=>by have :=(D.sb (j:=k) (.inr (.inr (.inl h)))).2;omega,aj⟩
  ·refine⟨fun h=>h.elim (D.br.Ia hb).1 fun⟨k,h⟩=>?_,by have :=(D.sb (j:=0) (.inr (.inl hb))).2;omega⟩;have h1:=(D.br.NH (.inr hb)).1;rw[(D.bw.NH (.inl ⟨k,h⟩)).1]at h1;exact absurd h1 eS
  ·have :=mL b (.inl hb);exact⟨fun h=>h.elim (fun e=>this.1 (e▸D.sd)) fun⟨k,h⟩=>this.1 (D.sb (j:=k) (.inr (.inr (.inl h)))).1,aj⟩
  ·have :=mL b (.inr hb);exact⟨fun h=>h.elim (fun e=>this.1 (e▸D.sd)) fun⟨k,h⟩=>this.1 (D.sb (j:=k) (.inr (.inr (.inl h)))).1,aj⟩) er hl
 obtain⟨rv,m',ys,DX,EM,e,k,o,hyl,hyo,H7,nD,WH,amS,q,q4⟩:=adZ acT (t:=29) (sz:=1) rfl hK eD bH.g9 (.inl rfl) (fun k b h=> .inr ⟨k,h⟩) te D3.ob D3.bd D3.bw hn;have nk:=k.next;have kS:Kp m3 m' SB:=k.mono fun b _ h=>by
  rcases h with rfl|⟨i,h⟩|h
  ·exact D.sd
  ·exact(D.sb (j:=i) (.inr (.inr (.inl h)))).1
  ·exact(D.sb (j:=0) (.inr (.inr (.inr h)))).1
 have hn6:∀b,al=some b->¬(b=d\/(∃i,bm i=some b)\/am=some b):=fun b hb h=>by
  have h1:=(D.br.NH (.inr hb)).1;rcases h with h|h
  ·exact(D.br.Ia hb).1 h
  ·rw[(D.bw.NH h).1]at h1;exact absurd h1 eS
 have WE:km m' d 0 6 ys bo al:=D3.br.keep k hyl (fun x h1 h2=>hyo x (.inl aj)) fun b h=>by
  rcases h with h|h|h
  ·exact .inl h
  ·exact .inr (.inl (by rw[(D3.bw.NH (.inl h)).1];decide))
  ·exact .inr (.inl (by rw[(D3.bw.NH (.inr h)).1];decide))
 refine⟨rv,m',ys,DX,EM,aJ (agJ d rows.length rc rU.length ic ct cr ia ra rv) (.mem e1<| .mem (aN (D.ob.aR k1) (by rw[D.all,UQ]))<| .mem e2<| .mem e3<| .mem (aN o3 rfl)<| .mem (bM te.gd)<| .call e .nil),jG.tA.trans kS fun _ _ h=>h,⟨o,hyl.trans D.len,by rw[k.base,jG.base];exact D.bd,WE,H7,by rw[hyo 8 (.inl aj)];exact D.all,(aT ts 6).ext D3.rws k hn6,.inl D.sd,?_⟩,(aT bH 1).mono q fun b hb=>⟨by have :=hb.1;omega,hb.2⟩,q4⟩;intro j b h;rcases h with h|h|h|h
 ·exact⟨.inl (D.sb (.inl h)).1,by have :=(D.sb (.inl h)).2;omega⟩
 ·exact⟨.inl (D.sb (j:=0) (.inr (.inl h))).1,by have :=(D.sb (j:=0) (.inr (.inl h))).2;omega⟩
 ·rcases nD j b h with h'|h'
  ·have h':=D.sb (j:=j) (b:=b) (.inr (.inr (.inl h')));exact⟨.inl h'.1,aj⟩
  ·exact⟨.inr ⟨by have :=h'.1;omega,h'.2⟩,h'.2⟩
 ·have h':=WH b h;exact⟨.inr ⟨by have :=h'.1;omega,h'.2⟩,h'.2⟩
end
end Go.AM
namespace Go.AM
set_option maxRecDepth 1000000
open Go Go.Conc Go.Proofs
theorem afH (d sn sc q b2 b3:Nat)(sa:Option Addr)(w iv av ev:ae):gN 149 0 3 [0,1] [.agg #[.slice sa sn sc,w,iv],vP d 0]
 [dN [some (.slice sa sn sc),some w,some iv] b2,
  .mem (aP d 8) av,
  .call 199 [av] ev,
  .mem (bh ab 223 1 [(0,(.agg #[.int .i32 0,.int .i32 0,.int .i32 0,.int .i32 0,.int .i32 0,.int .i32 0]))]) (vL b3 0 1 1),
  .mem (cK ab #[223,223] ev (vL b3 0 1 1)) (vL q 0 1 cD),
  .mem (gJ d 8 (vL q 0 1 cD)) undef,
  .mem (aP b2 0) (.slice sa sn sc)]
 .normal [1,2,24,25,26] [vP d 0,vP b2 0,.slice sa sn sc,vI sn,vI 0]:=jz
theorem afG (d b2 ps sn sc i b7 tp:Nat)(w:ae):dX 149 [3] 0 99 [1,2,24,25,26] [vP d 0,vP b2 0,vL ps 0 sn sc,vI sn,vI i]
 [bP (gB i sn) true,
  .idx i sn i,
  .mem (eW 2 ps (0+i*2)) (.agg #[vP tp 0,w]),
  dN [some (.pointer none),some .nilIface] b7,
  jK b7 0 [vP tp 0,w],
  iR 2 b7 (.agg #[vP tp 0,w]),
  .call 200 [vP d 0,vI i,.agg #[vP tp 0,w]] (vI 0),
  eE]
 .normal [1,2,24,25,26] [vP d 0,vP b2 0,vL ps 0 sn sc,vI sn,vI (fg i 1)]:=jz
section
variable {K:gS}{m:Mem}{B BT:Nat->Prop}{Tb:Nat->Option (List (List V))}
theorem Q1 (cm:Calm m){d:Nat}{SB:Nat->Prop}{rows:List (List Nat)}{cs:List ae}{bo bm:Nat->Option Nat}{al am:Option Nat}{rl:ae}(D:dp m d SB rows cs bo al bm am rl):
  ∃RA m1 m2 m3 m4 q,Ev K 199 [rl] m RA m1/\bh ab 223 1 [(0,yC eU)] m1=some (vL m1.next 0 1 1,m2)/\cK ab #[223,223] RA (vL m1.next 0 1 1) m2=some (vL q 0 1 cD,m3)/\gJ d 8 (vL q 0 1 cD) m3=some (undef,m4)/\Kp m m4 SB/\
   dp m4 d (fun b=>SB b\/iS m m4 b) [eU] (cs.set 8 (vL q 0 1 cD)) bo (some q) bm am (vL q 0 1 cD):=by
 obtain⟨Rz,h8,hr⟩:=D.br.all;have e8:Rz=rl:=by rw[show(0:Nat)+8=8 by rfl,D.all]at h8;exact(Option.some.inj h8).symm
 subst e8;have RJ:=D.ob.lt;obtain⟨RA,m1,e1,k1,Ow⟩:=ZG (K:=K) ag9 (t:=223) (sz:=6) rfl (E:=ts) hr (fun b hb=>cm.own (D.br.Ia hb).2.1);have n1:=k1.next;have AU:=cm.ext k1;obtain⟨m2,m3,s',e2,g2,k2,e3,k3,_,⟨_,c3,rfl,ob3,Y'⟩,n3⟩:=Ow.add (t:=223) (B':=fu) (y:=eU) (v:=yC eU) AU.gd rfl eS rfl (fun b _ h=>h) (fun b h=>h.elim) (fun b h=>h.elim) (S6 rfl) eS;have Vk:¬al=some d:=fun e=>(D.br.Ia e).1 rfl
 have Uu:Kp m m3 (fun y=>al=some y):=k1.trans k3 fun _ _ h=>h
 have o3:=D.ob.ext Uu Vk;have te:=cm.ext Uu;have n13:=Uu.next;obtain⟨m4,e4,o4,k4⟩:=iZ (o:=8) (vL (m1.next+1) 0 1 cD) o3 ((te.own (by rw[Uu.base];exact D.bd)).may _ _) (by rw[D.len];omega) rfl;have n4:=k4.next;have kr:Kp m m4 (fun y=>y=d\/al=some y):=(Uu.mono fun _ _ h=> .inr h).trans k4 fun _ _ h=> .inl h
 have kS:Kp m m4 SB:=kr.mono fun b _ h=>h.elim (fun e=>e▸D.sd) fun e=>(D.sb (j:=0) (.inr (.inl e))).1
 have hlen:(cs.set 8 (vL (m1.next+1) 0 1 cD)).length=cs.length:=de;have wq:∀x,x≠8->(cs.set 8 (vL (m1.next+1) 0 1 cD))[x]?=cs[x]?:=fun x hx=>List.getElem?_set_ne (fun e=>hx e.symm)
 have hs8:(cs.set 8 (vL (m1.next+1) 0 1 cD))[8]?=some (vL (m1.next+1) 0 1 cD):=List.getElem?_set_self (by rw[D.len];omega);have hqd:¬m1.next+1=d:=aj;have ob4:Obj m4 (m1.next+1) 6 c3:=ob3.ext k4 hqd;have hl3:=Y'.one.1;have s9:m.base<=m.next:=by have :=cm.gd.bf;have :=cm.gd.fn;omega
 have JO:∀j b,bo j=some b->b<m.next:=fun j b h=>D.br.lt h
 refine⟨RA,m1,m2,m3,m4,m1.next+1,e1,e2,e3,e4,kS,⟨o4,by rw[hlen];exact D.len,by rw[kr.base];exact D.bd,⟨by rw[hlen];exact D.br.len,fun j hj=>?_,D.br.hi,D.br.inj,fun h=>by rw[kr.base];exact D.br.ne h,⟨_,hs8,.inr ⟨m1.next+1,1,_,rfl,rfl,ob4.ro,by simp[hl3]⟩⟩,fun{p} h=>?_⟩,?_,hs8,?_,.inl D.sd,fun{j b} h=>?_⟩⟩
 ·obtain⟨sv,h1,h2⟩:=D.br.sh j hj;exact⟨sv,by rw[wq _ aj];exact h1,h2.ext kr.Wr fun b e h=>h.elim (D.br.ne e).1 fun h=>(D.br.Ia h).2.2 j e⟩
 ·cases h;exact⟨hqd,by rw[kr.base];omega,fun j h=>by have :=JO j _ h;omega⟩
 ·refine D.bw.keep kr hlen (fun x h1 h2=>wq x aj) fun b h=>?_
  rcases h with h|h
  ·exact .inl h
  ·exact .inr (.inl (by rw[(D.br.NH (.inr h)).1];decide))
 ·exact⟨c3,ob4.sl hl3 (.inl rfl),fun b o n c e=>(by cases e;rfl),Y'.mono fun x u _ w=>w⟩
 ·rcases h with h|h|h
  ·exact⟨.inl (D.sb (.inl h)).1,by have :=JO j b h;omega⟩
  ·cases h;exact⟨.inr ⟨aj,by have :=ob4.lt;omega⟩,ob4.lt⟩
  ·have :=D.sb (j:=j) (b:=b) (.inr (.inr h));exact⟨.inl this.1,aj⟩
theorem dp.mono{d:Nat}{SB EO:Nat->Prop}{rows:List (List Nat)}{cs:List ae}{bo bm:Nat->Option Nat}{al am:Option Nat}{rl:ae}(D:dp m d SB rows cs bo al bm am rl)(h:∀b,SB b->EO b):dp m d EO rows cs bo al bm am rl:={D with sd:=h _ D.sd,sb:=fun hb=>⟨h _ (D.sb hb).1,(D.sb hb).2⟩}
theorem aaY (hK:AY K)(cm:Calm m){d:Nat}{SB:Nat->Prop}{iU:List (List Nat)}{cs:List ae}{bo bm:Nat->Option Nat}{al am:Option Nat}{rl:ae}(D:dp m d SB iU cs bo al bm am rl){mm:List (Nat×Option X)}{wh:Option X}{rU:List X}{sv wv iv:ae}
  (hs:(aT vM 2).R B mm m sv)(hw:iP.R B wh m wv)(hi:(aT nR 1).R B rU m iv)(lr:fV BT Tb m)(mL:∀b,B b\/BT b->¬SB b/\b<m.next)(yD:mm.length<=6)(hj:G8 Tb mm 0 [eU])
  (hwl:(gf Tb mm 0 [eU]).length<9000)(hwo:wh≠none->∀r∈gf Tb mm 0 [eU],Em Tb wh r)(YW:(iq Tb wh (gf Tb mm 0 [eU])).length<=1000)(er:∀r∈iq Tb wh (gf Tb mm 0 [eU]),(∀x∈rU,Tz (kj Tb r) x)/\(oP (kj Tb r) rU []).2=0)(hl:rU.length<9000):
  ∃rv m' sU gQ uH pj DX EM KH,Ev K 149 [.agg #[sv,wv,iv],vP d 0] m (.tuple #[rv,vI 0]) m'/\Kp m m' SB/\dp m' d (fun b=>SB b\/iS m m' b) sU gQ uH pj DX EM KH/\(aT bH 1).R (iS m m') (xO Tb rU (iq Tb wh (gf Tb mm 0 [eU]))) m' rv/\(am=none->xO Tb rU (iq Tb wh (gf Tb mm 0 [eU]))=[]->rv= .slice none 0 0/\EM=none):=by
 obtain⟨R,hR⟩:∃R,R=gf Tb mm 0 [eU]:=⟨_,rfl⟩;rw[<-hR]at hwl hwo YW er⊢;have RJ:=D.ob.lt;have D0:dp m d (fun b=>SB b/\b<m.next) iU cs bo al bm am rl:={D with sd:=⟨D.sd,RJ⟩,sb:=fun hb=>⟨D.sb hb,(D.sb hb).2⟩};obtain⟨SX,hSX⟩:∃SX:Nat->Prop,SX=fun b=>SB b/\b<m.next:=⟨_,rfl⟩
 rw[<-hSX]at D0;have u6:∀b,SX b->SB b/\b<m.next:=fun b h=>by rw[hSX]at h;exact h
 obtain⟨b2,my⟩:∃b,b=m.next:=⟨_,rfl⟩;obtain⟨m1,e1,o1,k1,n1,_⟩:=aV cm.gd [sv,wv,iv];rw[<-my]at e1 o1;have AU:=cm.ext k1;obtain⟨RA,m2,m3,m4,m5,q,x1,x2,x3,x4,k5,D5⟩:=Q1 (K:=K) AU (D0.aR k1);have n5:=k5.next;obtain⟨sa,sc,wW⟩:=aT.form hs;have x8:∀{m'},Kp m1 m' SX->(aT vM 2).R B mm m' sv/\iP.R B wh m' wv/\(aT nR 1).R B rU m' iv/\fV BT Tb m'/\Obj m' b2 0 [sv,wv,iv]:=fun k=>by
  have hk:Kp m _ SB:=k1.tA.trans k fun b _ h=>(u6 b h).1
  exact⟨(aT vM 2).ext hs hk fun b hb=>(mL b (.inl hb)).1,iP.ext hw hk fun b hb=>(mL b (.inl hb)).1,(aT nR 1).ext hi hk fun b hb=>(mL b (.inl hb)).1,lr.ext hk fun b hb=>(mL b (.inr hb)).1,o1.ext k fun h=>by have :=(u6 _ h).2;omega⟩
 have U':∀{M M':Mem},m1.next<=M'.next->∀b,B b\/BT b->¬(SX b\/iS m1 M b)/\b<M'.next:=fun hM b hb=>by
  have :=mL b hb;exact⟨fun h=>h.elim (fun h=>this.1 (u6 b h).1) fun h=>by have :=h.1;omega,aj⟩
 obtain⟨t0,w0,e0⟩:=cX (K:=K) (m:=m) (m':=m5) (tm:=entry [.agg #[sv,wv,iv],vP d 0]) (by rw[wW];exact afH d mm.length sc q b2 m2.next sa wv iv rl RA) rfl (.mem (by rw[<-wW];exact e1)<| .mem (aN (D.ob.aR k1) D.all)<| .call x1<| .mem x2<| .mem x3<| .mem x4<| .mem (by rw[<-wW];exact aN (x8 k5).2.2.2.2 rfl) .nil);rw[<-wW]at e0;obtain⟨e,t1,M,he,hx,rfl,hg,kM,gQ,uH,pj,KH,DM⟩:=fL (K:=K) (nt:=j0 149) (a:=iy 149 [3]) mm.length
  (Inv:=fun j tm M=>dL [1,2,24,25,26] tm=[vP d 0,vP b2 0,sv,vI (mm.length:Int),vI j]/\Kp m1 M SX/\∃rows cs bo al rl,dp M d (fun b=>SX b\/iS m1 M b) rows cs bo al bm am rl/\gf Tb (mm.drop j) j rows=R/\G8 Tb (mm.drop j) j rows)
  (dQ:=fun e tm M=>e= .exit 0/\dL [1,2] tm=[vP d 0,vP b2 0]/\Kp m1 M SX/\∃cs bo al rl,dp M d (fun b=>SX b\/iS m1 M b) R cs bo al bm am rl)
  (by
   rintro j tm M OW ⟨hg,kk,rows,cs,bo,al,rl,DM,WI,s6⟩
   left
   obtain⟨f1,f2,f3,f4,f5⟩:=x8 kk;obtain⟨ps,pc,u,ucs,ahp,_,ob,hu,hle,hE,YT⟩:=aT.get f1 OW;obtain⟨⟨p,on⟩,hp⟩:∃y,mm[j]=y:=⟨_,rfl⟩;rw[hp]at hE;have WC:mm.drop j=(p,on)::mm.drop (j+1):=by rw[List.drop_eq_getElem_cons OW,hp]
   rw[WC]at WI s6;obtain⟨xv,rfl,OJ⟩:=hE;obtain⟨⟨nH,htp⟩,hjn,hjc,ku⟩:=s6;simp only[htp,Option.getD_some]at hjn hjc ku;have WI:gf Tb (mm.drop (j+1)) (j+1) (gA (AW Tb on rows j ((Tb p).getD []).length) (rows.length*((Tb p).getD []).length) 0 [])=R:=WI;simp only[htp,Option.getD_some]at WI;have Pj:=AU.ext kk;have nk:=kk.next;have lK:=(vM.ok (s:=(p,on)) ⟨xv,rfl,OJ⟩).1.2;obtain⟨M1,M2,a1,a2,a3,ka,na⟩:=iX Pj.gd [.pointer none,.nilIface] [vP p 0,xv] rfl (by
    rw[aB];intro y hy;exact lK y (by simpa[ae.cells]using hy))
   have alR:=Pj.ext ka;have D2:=DM.aR ka;obtain⟨M3,cs3,bo3,al3,rl3,a4,k3,D3⟩:=amp (K:=K) (B:=B) (BT:=BT) (Tb:=Tb) (i:=j) (tp:=p) (on:=on) hK alR D2 aj htp (f4.ext ka fun _ _ h=>h) (iP.ext OJ ka fun _ _ h=>h) (U' aj) hjc hjn;have l1:eW 2 ps (0+j*2) M=some (.agg #[vP p 0,xv],M):=bW (vs:=[vP p 0,xv]) ob (by rw[Nat.zero_add];simpa[ae.cells]using hu) aj;have l2:eW 2 M.next 0 M2=some (.agg #[vP p 0,xv],M2):=bW (vs:=[vP p 0,xv]) a3 rfl (af rfl);rw[ahp]at hg;obtain⟨t2,fO,gp⟩:=bK (K:=K) (m:=M) (m':=M3) Oi (afG d b2 ps mm.length pc j M.next p xv) hg (.cond (Jf OW)<| .idx rfl OW<| .mem l1<| .mem a1<| .mem a2<| .mem l2<| .call a4<| .cond rfl .nil);have n3:=k3.next;refine⟨t2,M3,fO,by rw[gp,add1 aj,<-ahp],(kk.aS ka).trans k3 fun b hb h=>h.elim id fun h=>by have :=h.1;omega,_,cs3,bo3,al3,rl3,D3.mono fun b h=>?_,WI,ku⟩;rcases h with(h|h)|h
   ·exact .inl h
   ·exact .inr ⟨h.1,by have :=h.2;omega⟩
   ·exact .inr ⟨by have :=h.1;omega,h.2⟩)
  (by
   rintro tm M ⟨hg,kk,rows,cs,bo,al,rl,DM,WI,s6⟩;rw[List.drop_length]at WI;have WI:rows=R:=WI;rw[wW]at hg;obtain⟨t2,fO,gp⟩:=bK (K:=K) (m:=M) (m':=M) Oi (afF d b2 mm.length sc mm.length sa) hg (.cond (T9 _) .nil);exact⟨_,t2,M,lQ,fO,rfl,gp,kk,cs,bo,al,rl,WI▸DM⟩)
  (tm:=t0) (m:=m5) ⟨e0,k5,_,_,_,_,_,D5,hR.symm,hj⟩ aj
 have nM:=kM.next;have Pj:=AU.ext kM;obtain⟨f1,f2,f3,f4,f5⟩:=x8 kM;have ac0:∃M2 cs bo al rl,Ev K 201 [vP d 0,wv] M (vI 0) M2/\Kp M M2 (fun b=>SX b\/iS m1 M b)/\dp M2 d (fun b=>SX b\/iS m1 M2 b) (iq Tb wh R) cs bo al bm am rl:=by
  cases wh with
  |none=>
   have f2:wv= .nilIface:=f2;subst f2;obtain⟨M2,a1,a2⟩:=aiD (K:=K) (d:=d) Pj.gd;have :=a2.next;exact⟨M2,_,_,_,_,a1,a2.tA,(DM.aR a2).mono fun b h=>h.imp id fun h=>⟨h.1,by have :=h.2;omega⟩⟩
  |some x=>
   obtain⟨M2,Pe,bo2,al2,rl2,a1,a2,D2⟩:=amo (K:=K) (B:=B) (BT:=BT) (Tb:=Tb) hK Pj DM f4 f2 (U' aj) (hwo de) hwl;have :=a2.next;refine⟨M2,Pe,bo2,al2,rl2,a1,a2,D2.mono fun b h=>?_⟩;rcases h with(h|h)|h
   ·exact .inl h
   ·exact .inr ⟨h.1,by have :=h.2;omega⟩
   ·exact .inr ⟨by have :=h.1;omega,h.2⟩
 obtain⟨M2,Pe,bo2,al2,rl2,a1,k2,D2⟩:=ac0;have Fz:Kp m1 M2 SX:=kM.trans k2 fun b hb h=>h.elim id fun h=>by have :=h.1;omega
 have Pk:=AU.ext Fz;obtain⟨g1,g2,g3,g4,g5⟩:=x8 Fz;have n12:=Fz.next;obtain⟨rv,M3,cs3,bm3,am3,a3,k3,D3,q3,q4⟩:=aiC (K:=K) (B:=B) (BT:=BT) (Tb:=Tb) hK Pk D2 g4 g3 (U' aj) er hl aj;obtain⟨ra,rc,UQ⟩:=aT.form D2.rws;have n3:=k3.next;obtain⟨t2,h2,e2⟩:=cX (K:=K) (m:=M) (m':=M3) (afE d b2 (iq Tb wh R).length rc ra wv iv rv 0) hg (.mem (aN f5 rfl)<| .call a1<| .cond rfl<| .mem (aN D2.ob (by rw[D2.all,UQ]))<| .cond (dF (Be (j:=1000)))<| .mem (aN g5 rfl)<| .call a3 .nil);refine⟨rv,M3,_,cs3,bo2,al2,bm3,am3,rl2,iO agT (aU.cut w0 (aU.Cm Yp Yr hx rfl (aU.last h2 Qf))) (.inr rfl) e2,?_,D3.mono fun b h=>?_,(aT bH 1).mono q3 fun b hb=>⟨by have :=hb.1;omega,hb.2⟩,q4⟩
 ·exact k1.tA.trans (Fz.trans k3 fun b hb h=>h.elim id fun h=>by have :=h.1;omega) fun b _ h=>(u6 b h).1
 ·rcases h with(h|h)|h
  ·exact .inl (u6 b h).1
  ·exact .inr ⟨by have :=h.1;omega,by have :=h.2;omega⟩
  ·exact .inr ⟨by have :=h.1;omega,h.2⟩
end
end Go.AM
