/-
  What the claim stands on, part 20.
-/
import Derived.Test.YtgfppohfgconeaaGreatDoorK11
import Derived.Test.YtgfppohfgconeaaGreatDoorK12
import Derived.Test.YtgfppohfgconeaaGreatDoorK13
import Derived.Test.YtgfppohfgconeaaGreatDoorK14
import Derived.Test.YtgfppohfgconeaaGreatDoorK15
import Derived.Test.YtgfppohfgconeaaGreatDoorK16
import Derived.Test.YtgfppohfgconeaaGreatDoorK17
import Derived.Test.YtgfppohfgconeaaGreatDoorK18
import Derived.Test.YtgfppohfgconeaaGreatDoorK19
set_option linter.unusedVariables false
set_option linter.unusedSimpArgs false
open Go.Proofs.Tryz renaming prog → ab
open Go renaming Value → ae, World → au, TypeId → aM
open Nat renaming le_of_ble_eq_true → af, le_refl → ai, eq_of_beq_eq_true → aA, le_trans → cp
open Bool renaming and_eq_true → ag
open List renaming all_eq_true → aB, mem_cons → aI
open Option renaming isSome_iff_exists → iA
namespace Go.AM
set_option maxRecDepth 1000000
open Go Go.Conc Go.Proofs
def Ol (x:List UInt8):List (List UInt8)->Bool
 | []=>true
 |y::l=>!j3 x y&&Ol x l
def B9:List (List UInt8)->Bool
 | []=>true
 |x::l=>Ol x l&&B9 l
theorem ye:∀l:List UInt8,j3 l l=true
 | []=>rfl
 |a::l=>by unfold j3;rw[Nat.beq_refl,ye l];rfl
theorem B8 {x:List UInt8}:∀{l:List (List UInt8)},Ol x l=true->x∉l
 | [],_,h=>by cases h
 |y::l,h,hx=>by
  unfold Ol at h;rw[ag]at h;rcases aI.1 hx with rfl|hx
  ·rw[ye]at h;cases h.1
  ·exact B8 h.2 hx
theorem Fp {α:Type}{f:α->List UInt8}:∀{l:List α},B9 (l.map f)=true->∀{x y:α},x∈l->y∈l->f x=f y->x=y
 | [],_,_,_,h,_,_=>by cases h
 |z::l,h,x,y,hx,hy,e=>by
  rw[List.map_cons]at h;unfold B9 at h;rw[ag]at h;rcases aI.1 hx with rfl|h1<;>rcases aI.1 hy with rfl|h2
  ·rfl
  ·exact(B8 h.1 (List.mem_map.2 ⟨y,h2,e.symm⟩)).elim
  ·exact(B8 h.1 (List.mem_map.2 ⟨x,h1,e⟩)).elim
  ·exact Fp h.2 h1 h2 e
def gi.text(r:gi):List UInt8:=match r.args with | [.string T]=>T.data.toList|_=>[]
theorem P2 {a b:Nat}(ha:a<12)(hb:b<12):(GD a b).fact=true:=by
 have h:qn a=true:=by
  obtain rfl|rfl|rfl|rfl|rfl|rfl|rfl|rfl|rfl|rfl|rfl|rfl:a=0\/a=1\/a=2\/a=3\/a=4\/a=5\/a=6\/a=7\/a=8\/a=9\/a=10\/a=11:=aj
  ·exact abJ
  ·exact abI
  ·exact abH
  ·exact abG
  ·exact abF
  ·exact abE
  ·exact abD
  ·exact abC
  ·exact abB
  ·exact abA
  ·exact XZ
  ·exact XY
 unfold qn at h;exact aB.1 h b (List.mem_range.2 hb)
theorem aa2:dM ab 22=true:=aY
def QG:Nat->List (Nat×dJ)->Bool
 |_,[]=>true
 |lo,x::l=>Nat.ble lo x.1&&QG (x.1+1) l
theorem Bc:∀{lo:Nat}{L:List (Nat×dJ)},QG lo L=true->(∀x∈L,lo<=x.1)/\(L.map (·.1)).Nodup
 |_,[],_=>⟨fun x hx=>(by cases hx),List.nodup_nil⟩
 |lo,x::l,h=>by
  unfold QG at h;rw[ag]at h;have h1:=af h.1;obtain⟨h2,h3⟩:=Bc h.2;refine⟨fun y hy=>?_,?_⟩
  ·rcases aI.1 hy with rfl|hy
   ·exact h1
   ·have :=h2 y hy;omega
  ·rw[List.map_cons,List.nodup_cons];refine⟨fun hm=>?_,h3⟩;obtain⟨y,hy,e⟩:=List.mem_map.1 hm;have :=h2 y hy;omega
theorem Wk:QG 12 KL=true:=aY
end Go.AM
namespace Go.AM
set_option maxRecDepth 1000000
open Go Go.Conc Go.Proofs
def W4:ae->Nat
 | .slice none _ _=>0
 | .slice (some _) n _=>n+1
 | .bool b=>b.toNat
 | .iface t _=>t
 | .string s=>s.size
 |_=>0
theorem Ip {π:Nat->Nat}{v:ae}:W4 (bL π 20 v)=W4 v:=by
 cases v with
 |pointer a=>cases a<;>rfl
 |slice a l c=>cases a<;>rfl
 |map a=>cases a<;>rfl
 |_=>rfl
theorem Pt {r r':iC}{f:Nat}{args:List ae}{m:Mem}{π qi:Nat->Nat}(h:r.at f args m π)(h':r'.at f args m qi)(c:Nt r)(c':Nt r'){l:List Nat}{u u':ae}(n:oJ r.mi r.args l=some u)(n':oJ r'.mi r'.args l=some u'):W4 u=W4 u':=by
 rw[<-Ip (π:=π),yr h h' c c' n n',Ip]
structure CQ (Q:CD->Prop):Prop where
 f:∀{d},Q d->d.f=75
 fact:∀{d},Q d->∀o,(fK d o).Fact (fK d o).J
 akt:∀{d},Q d->∀o,oJ (fK d o).mi (fK d o).args [0,0,1,1]=some (wV o)
 one:∀{d d' o f args m π qi},Q d->Q d'->(fK d o).at f args m π->(fK d' o).at f args m qi->d'=d
 ok:∀{d},Q d->d.ok=true/\d.c.map (·.1)=d.A.map (·.1)/\∀x∈d.L,1100<=x.1/\x.1<d.nx
def ZT (Q:CD->Prop)(d:CD):Prop:=(∃a b,d=iD a b)\/Q d
def ZQ (Q:CD->Prop)(r:iC):Prop:=r=pC\/∃d o,ZT Q d/\r=fK d o
section
variable {Q:CD->Prop}
theorem CQ.CZ(hQ:CQ Q){d:CD}(h:ZT Q d)(o:Option Nat):(fK d o).Fact (fK d o).J:=by
 rcases h with⟨a,b,rfl⟩|h
 ·exact OI a b o
 ·exact hQ.fact h o
theorem CQ.okq(hQ:CQ Q){d:CD}(h:ZT Q d):d.ok=true/\d.c.map (·.1)=d.A.map (·.1)/\∀x∈d.L,1100<=x.1/\x.1<d.nx:=h.elim (fun h=>aiy (.inl h)) hQ.ok
theorem CQ.fq(hQ:CQ Q){d:CD}(h:ZT Q d):(d.f=73/\∃a b,d=iD a b)\/(d.f=75/\Q d):=by
 rcases h with⟨a,b,rfl⟩|h
 ·exact .inl ⟨rfl,a,b,rfl⟩
 ·exact .inr ⟨hQ.f h,h⟩
theorem CQ.rok(hQ:CQ Q)(r:iC)(h:ZQ Q r):DN Ct r:=by
 rcases h with rfl|⟨d,o,hd,rfl⟩
 ·exact aby _ (.inl rfl)
 ·refine(hQ.CZ hd o).ok (.head _) (fun x hx=>⟨x.2,.tail _ (List.mem_append_left _ hx),.inr iQ.P4⟩) (fun x hx=> .tail _ (List.mem_append_right _ hx)) ?_
  show dM ab d.f=true
  rcases hQ.fq hd with⟨e,_⟩|⟨e,_⟩<;>rw[e]
  ·exact rP.2.1
  ·exact rP.2.2
theorem CQ.nav(hQ:CQ Q){d:CD}(h:ZT Q d)(o:Option Nat):oJ (fK d o).mi (fK d o).args [0,0,1,1]=some (wV o):=h.elim (fun h=>ag3 (.inl h) o) fun h=>hQ.akt h o
theorem CQ.akh(hQ:CQ Q){d d':CD}{o o':Option Nat}{f:Nat}{args:List ae}{m:Mem}{π qi:Nat->Nat}(hd:ZT Q d)(w6:ZT Q d')(h:(fK d o).at f args m π)(h':(fK d' o').at f args m qi):d'=d/\o'=o:=by
 have c:=(hQ.CZ hd o).at;have c':=(hQ.CZ w6 o').at;have ho:o'=o:=by
  have :=aed h h' c c' (hQ.nav hd o) (hQ.nav w6 o');cases o<;>cases o'
  ·rfl
  ·cases this
  ·cases this
  ·exact congrArg some (Nat.succ.inj this).symm
 subst ho;refine⟨?_,rfl⟩;have hf:d.f=f:=h.1;have AT:d'.f=f:=h'.1;rcases hQ.fq hd with⟨e,a,b,rfl⟩|⟨e,hq⟩<;>rcases hQ.fq w6 with⟨e',a',b',rfl⟩|⟨e',xS⟩
 ·have h1:vN a=vN a':=yr h h' c c' (aaq a b o') (aaq a' b' o');have h2:vN b=vN b':=yr h h' c c' (aap a b o') (aap a' b' o');rw[Le h1,Le h2]
 ·omega
 ·omega
 ·exact hQ.one hq xS h h'
theorem CQ.aju(hQ:CQ Q){r r':iC}{f:Nat}{args:List ae}{m:Mem}{π qi:Nat->Nat}(hr:ZQ Q r)(wX:ZQ Q r')(h:r.at f args m π)(h':r'.at f args m qi):r'=r/\qi=π:=by
 have e:r'=r:=by
  have hf:=h.1;have AT:=h'.1;rcases hr with rfl|⟨d,o,hd,rfl⟩<;>rcases wX with rfl|⟨d',o',w6,rfl⟩
  ·rfl
  ·have AT:d'.f=f:=AT;have hf:38=f:=hf;rcases hQ.fq w6 with⟨e,_⟩|⟨e,_⟩<;>omega
  ·have hf:d.f=f:=hf;have AT:38=f:=AT;rcases hQ.fq hd with⟨e,_⟩|⟨e,_⟩<;>omega
  ·obtain⟨rfl,rfl⟩:=hQ.akh hd w6 h h';rfl
 subst e;refine⟨rfl,?_⟩;rcases hr with rfl|⟨d,o,hd,rfl⟩
 ·have c:=pB.at;exact Fu h h' rfl rfl c.args c.args pB.cert pB.cert c.cn
 ·have c:=(hQ.CZ hd o).at;exact Fu h h' rfl rfl c.args c.args (hQ.CZ hd o).cert (hQ.CZ hd o).cert c.cn
theorem CQ.tw(hQ:CQ Q){r:iC}{f:Nat}{args:List ae}{m:Mem}{π:Nat->Nat}(hr:ZQ Q r)(h:r.at f args m π):Wq (ZQ Q) f args m=some (bL π 20 r.v,r.out m π):=abn hr h fun r' qi h1 h2=>by
 obtain⟨rfl,rfl⟩:=hQ.aju hr h1 h h2;exact⟨rfl,rfl,rfl,rfl,rfl⟩
end
theorem adV {Q:CD->Prop}(hQ:CQ Q){d:CD}{m:Mem}{lo mp pe pg cg:Nat}{rl:ae}(hd:ZT Q d)(cm:Calm m)(hG:Gl m)(X:GX m mp pe pg cg rl)(jH:ER m lo mp pg cg)(hL:tj lo d.A m):
  ∃π m',Wq (ZQ Q) d.f [.map (some mp),bL (sh lo) 20 d.sv] m=some (.tuple #[bL π 20 d.qv,vI 0],m')/\Kp m m' fu/\qY π d.L m' (iS m m')/\π 1002=pg/\∀b,1100<=b->π b=m.next+(b-1100):=by
 obtain⟨h1,h2,h3⟩:=hQ.okq hd;unfold CD.ok at h1;simp only[ag]at h1;obtain⟨⟨hA,hI⟩,hv⟩:=h1;obtain⟨q1,q2⟩:=DK hA;obtain⟨π,tq⟩:∃π,π=DS 1100 m.next (lA lo d.A mp pe pg cg rl):=⟨_,rfl⟩;have p0:π 1000=mp:=by rw[tq,BY hA eS eS];rfl
 have p2:π 1002=pg:=by rw[tq,BY hA eS eS];rfl
 have hE:=alJ hA hI X jH hL;have c:=(hQ.CZ hd (oW rl)).at;have ky:nS ab.globals.size (fK d (oW rl)).mi m π:=by
  rw[tq];refine ahf cm hG c.k (show 12<=1100 by decide) (fun x hx=>?_) hE;rcases List.mem_append.1 hx with hx|hx
  ·obtain⟨y,hy,rfl⟩:=List.mem_map.1 hx;obtain⟨_,_,_,cs,_,h5⟩:=q1 y hy;exact(hL _ _ _ h5).2.lt
  ·rcases List.mem_append.1 hx with hx|hx
   ·simp only[aI,List.not_mem_nil,or_false]at hx;rcases hx with rfl|rfl|rfl|rfl
    ·exact X.map.lt
    ·exact X.pe
    ·exact X.g.lt
    ·exact X.c.lt
   ·rcases X.w with rfl|⟨rb,n,rfl,hrb⟩
    ·cases hx
    ·have hx:x∈[(1006,rb)]:=hx;rw[List.mem_singleton.1 hx];exact hrb
 have KS:(fK d (oW rl)).at d.f [.map (some mp),bL (sh lo) 20 d.sv] m π:=by
  refine⟨rfl,?_,⟨lA lo d.A mp pe pg cg rl,?_,tq⟩,ky⟩
  ·show _=[ae.map (some (π 1000)),bL π 20 d.sv]
   rw[p0,NZ (p:=fun b=>Nat.blt b 12||d.A.any fun y=>Nat.beq y.1 b) (π:=π) (qi:=sh lo) (fun b hb=>?_) hv];rw[Bool.or_eq_true]at hb;rcases hb with hb|hb
   ·have hb:b<12:=af hb;rw[tq];unfold sh DS;rw[bC hb,bC hb]
   ·obtain⟨y,hy,e⟩:=List.any_eq_true.1 hb;rw[<-aA e,tq,aaf hA hy]
  ·show(d.A.map (fun x:Nat×dJ=>(x.1,sh lo x.1))++([(1000,mp),(1001,pe),(1002,pg),(1004,cg)]++lW rl)).map (fun x:Nat×Nat=>x.1)=(d.c++([(1000,[0,0]),(1001,[0,0,0]),(1002,[0,0,1]),(1004,[0,0,1,0])]++cW (oW rl))).map (fun x:Nat×List Nat=>x.1)
   simp only[List.map_append];rw[h2,List.map_map];refine congrArg (_++·) ?_;rcases X.w with rfl|⟨rb,n,rfl,hrb⟩<;>rfl
 have ht:=hQ.tw (.inr ⟨d,_,hd,rfl⟩) KS;have hdq:nz 19 d.qv=true:=by
  have h:(nz 19 d.qv&&(nz 19 (vI 0)&&true))=true:=c.val;rw[ag]at h;exact h.1
 rw[show bL π 20 (fK d (oW rl)).v= .tuple #[bL π 20 d.qv,vI 0] by
  show ae.tuple #[bL π 19 d.qv,vI 0]=_
  rw[uR hdq]]at ht
 have hg:∀b,1100<=b->π b=m.next+(b-1100):=fun b hb=>by rw[tq];exact X8 hb
 refine⟨π,_,ht,?_,?_,p2,hg⟩
 ·exact YC hg fun x hx=>(h3 x hx).1
 ·exact Qy cm rfl hg h3 c.ln
end Go.AM
namespace Go.AM
set_option maxRecDepth 1000000
open Go Go.Conc Go.Proofs
def CkP (K:gS)(d:CD):Prop:=∀m lo mp pe pg cg rl,Calm m->Gl m->GX m mp pe pg cg rl->ER m lo mp pg cg->tj lo d.A m->∃π m',Ev K d.f [.map (some mp),bL (sh lo) 20 d.sv] m (.tuple #[bL π 20 d.qv,vI 0]) m'/\Kp m m' fu/\qY π d.L m' (iS m m')/\π 1002=pg/\∀b,1100<=b->π b=m.next+(b-1100)
theorem CkP.ck{K:gS}{d:CD}(h:CkP K d):Ck K d:=by
 intro m lo mp pe pg cg rl a b c d e;obtain⟨π,m',h1,h2,h3,h4,_⟩:=h m lo mp pe pg cg rl a b c d e;exact⟨π,m',h1,h2,h3,h4⟩
theorem P3:S5.fact=true:=aY
def BP (R:List gi):List gi:=S5::R++(List.range 144).map fun k=>GD (k / 12) (k%12)
structure HV (R:List gi):Prop where
 is:∀{r},r∈R->r.fact=true/\r.f=22/\r.mi=sY/\∃T,r.args=[.string T]
 nd:B9 ((BP R).map gi.text)=true
def We (R:List gi)(r:gi):Prop:=r=BS\/r∈BP R
section
variable {Q:CD->Prop}{R:List gi}
theorem HV.isq(hR:HV R){r:gi}(h:r∈BP R):r.fact=true/\r.f=22/\r.mi=sY/\∃T,r.args=[.string T]:=by
 rcases List.mem_append.1 h with h|h
 ·rcases aI.1 h with rfl|h
  ·exact⟨P3,rfl,rfl,_,rfl⟩
  ·exact hR.is h
 ·obtain⟨k,hk,rfl⟩:=List.mem_map.1 h;have hk:=List.mem_range.1 hk;exact⟨P2 aj (Nat.mod_lt _ eS),rfl,rfl,_,rfl⟩
theorem abx (hR:HV R)(r:gi)(h:We R r):Wd Ct r:=by
 rcases h with rfl|h
 ·exact(gi.dA LG rfl zD.2.2.1).1
 ·obtain⟨h1,h2,h3,_⟩:=hR.isq h;exact(gi.dA h1 h3 (by rw[h2];exact aa2)).1
theorem SQ (hR:HV R){r:gi}(h:We R r):r.f=14\/r.f=22:=by
 rcases h with rfl|h
 ·exact .inl rfl
 ·exact .inr (hR.isq h).2.1
noncomputable def Sn(Q:CD->Prop)(R:List gi):cB:=fun f args m=>match twR (We R) f args m with |some r=>some r|none=>Wq (ZQ Q) f args m
theorem abl (hQ:CQ Q)(hR:HV R){Fin:ae->au->Prop}:fW ab X0 true (Jn Fin) Mv (Sn Q R):=by
 intro f args m v m' hw ht;unfold Sn at ht
 split at ht
 ·rename_i r hr;exact abj (Fin:=Fin) aa7 (abx hR) f args m v m' hw (hr.trans ht)
 ·exact abm (Fin:=Fin) aa7 hQ.rok f args m v m' hw ht
theorem aae (hQ:CQ Q){r:iC}(h:ZQ Q r):r.f=38\/r.f=73\/r.f=75:=by
 rcases h with rfl|⟨d,o,hd,rfl⟩
 ·exact .inl rfl
 ·exact .inr ((hQ.fq hd).imp (fun h=>h.1) fun h=>h.1)
theorem ail (hQ:CQ Q)(hR:HV R){f:Nat}(h:ja f=false){args:List ae}{m:Mem}:Sn Q R f args m=none:=by
 unfold Sn;rw[Bv fun r hr e=>?_]
 ·exact Il fun r hr e=>by rcases aae hQ hr with h'|h'|h'<;>rw[e]at h'<;>subst h'<;>cases h
 ·rcases SQ hR hr with h'|h'<;>rw[e]at h'<;>subst h'<;>cases h
noncomputable def WM(Q:CD->Prop)(R:List gi)(M n:Nat):cB:=Km ab X0 (mA ab X0 M) (Sn Q R) n
theorem HL (M n f:Nat)(args:List ae)(m:Mem):WM Q R M (n+1) f args m=match Sn Q R f args m with |some r=>some r|none=>if Nat.beq f 137 then v5 X0 (mA ab X0 M) args m else if Nat.beq f 140 then FB args m else(j8 ab X0 f).body (WM Q R M n) args m:=rfl
theorem Pf (hQ:CQ Q)(hR:HV R)(M n f:Nat)(args:List ae)(m:Mem)(h:ja f=false):WM Q R M (n+1) f args m=(j8 ab X0 f).body (WM Q R M n) args m:=by
 rw[HL,ail hQ hR h];unfold ja at h;simp only[Bool.or_eq_false_iff]at h
 show(if Nat.beq f 137 then _ else if Nat.beq f 140 then _ else _)=_
 rw[h.1.1.1.1.1.1,h.1.1.1.1.1.2];rfl
noncomputable def KQ(hQ:CQ Q)(hR:HV R):gS:=⟨WM Q R,Pf hQ hR⟩
theorem Z3 (hQ:CQ Q)(hR:HV R){f:Nat}(h1:f=137\/f=140){args:List ae}{m:Mem}:Sn Q R f args m=none:=by
 unfold Sn;rw[Bv fun r hr e=>?_]
 ·exact Il fun r hr e=>by have :=aae hQ hr;omega
 ·have :=SQ hR hr;omega
theorem acS (hQ:CQ Q)(hR:HV R):AY (KQ hQ hR):=⟨fun M n args m=>by
 show WM Q R M (n+1) 137 args m=_
 rw[HL,Z3 hQ hR (.inl rfl)];rfl,fun M n args m=>by
 show WM Q R M (n+1) 140 args m=_
 rw[HL,Z3 hQ hR (.inr rfl)];rfl⟩
theorem aim (hQ:CQ Q)(hR:HV R){Fin:ae->au->Prop}(M n:Nat):fW ab X0 true (Jn Fin) Mv (WM Q R M n):=Dr pd (r8 pd M) (abl hQ hR) n
theorem Z4 (hQ:CQ Q)(hR:HV R){f:Nat}{args:List ae}{m m':Mem}{v:ae}(h:Sn Q R f args m=some (v,m')):Ev (KQ hQ hR) f args m v m':=by
 refine⟨1,fun M n _ hn=>?_⟩;obtain⟨n,rfl⟩:∃k,n=k+1:=⟨n-1,aj⟩
 show WM Q R M (n+1) f args m=_
 rw[HL,h]
theorem Ur (hQ:CQ Q)(hR:HV R){f:Nat}{args:List ae}{m m':Mem}{v:ae}(hf:f=38\/f=73\/f=75)(h:Wq (ZQ Q) f args m=some (v,m')):Ev (KQ hQ hR) f args m v m':=by
 refine Z4 hQ hR ?_;unfold Sn;rw[Bv fun r hr e=>?_]
 ·exact h
 ·have :=SQ hR hr;omega
theorem aat (hQ:CQ Q)(hR:HV R){r:gi}{m:Mem}{args:List ae}(hr:We R r)(hmi:r.mi=sY)(cm:Calm m)(hG:Gl m)(ha:args=r.args.map (bL (uQ m) 20))(hu:∀r' qi,We R r'->r'.at r.f args m qi->r'=r):Ev (KQ hQ hR) r.f args m (bL (uQ m) 20 r.v) (jo (uQ m) sY m r.L r.nx):=by
 have KS:r.at r.f args m (uQ m):=⟨rfl,ha,by rw[hmi];exact ahg cm hG⟩;have ht:=abk hr KS fun r' qi h1 h2=>by
  have e:=hu r' qi h1 h2;subst e;have h3:=h2.2.2;rw[hmi]at h3;exact⟨rfl,QF h3⟩
 unfold gi.out at ht;rw[hmi]at ht;refine Z4 hQ hR ?_;unfold Sn;rw[ht]
theorem Pm (hQ:CQ Q)(hR:HV R)(d:CD)(hd:ZT Q d):CkP (KQ hQ hR) d:=by
 intro m lo mp pe pg cg rl cm hG X jH hL;obtain⟨π,m',e,k,La,tq,hn⟩:=adV hQ hd cm hG X jH hL;exact⟨π,m',Ur hQ hR (.inr ((hQ.fq hd).imp (fun h=>h.1) fun h=>h.1)) e,k,La,tq,hn⟩
theorem LJ (hQ:CQ Q)(hR:HV R){r:gi}(hr:r∈BP R){T:ByteArray}{sv:ae}(hT:r.args=[.string T])(hv:r.v= .tuple #[sv,vI 0,vI 0])(hc:QG 12 r.L=true):ZP (KQ hQ hR) T r.L sv:=by
 intro m cm hG;obtain⟨h1,h2,h3,_⟩:=hR.isq hr;obtain⟨q1,q2⟩:=Bc hc;have er:=gi.dA h1 h3 (by rw[h2];exact aa2);have e:=aat hQ hR (.inr hr) h3 cm hG (args:=[.string T]) (by rw[hT];rfl) fun r' qi JS h2'=>by
  have e1:=h2'.1;rcases JS with rfl|JS
  ·rw[h2]at e1;cases e1
  ·refine Fp hR.nd JS hr ?_;obtain⟨_,_,_,T',QQ⟩:=hR.isq JS;have e2:=h2'.2.1;rw[QQ]at e2;have e3:[ae.string T]=[.string T']:=e2;unfold gi.text;rw[hT,QQ];cases e3;rfl
 rw[h2,hv]at e;have hd:nz 19 sv=true:=by
  have :=er.1.val;rw[hv]at this;have h:(nz 19 sv&&(nz 19 (vI 0)&&(nz 19 (vI 0)&&true)))=true:=this;rw[ag]at h;exact h.1
 have ev:bL (uQ m) 20 (.tuple #[sv,vI 0,vI 0])= .tuple #[bL (uQ m) 20 sv,vI 0,vI 0]:=by
  rw[uR hd];rfl
 rw[ev]at e;have cC:∀x∈r.L,12<=x.1/\x.1<r.nx:=er.2;refine⟨_,e,Uq fun x hx=>(cC x hx).1,fun b sz cs hg=>?_⟩;obtain⟨k,hk,Bd,rfl,gO⟩:=xM hg;obtain⟨nD,my⟩:=cC _ hk;exact⟨nD,OB cm q2 hk nD my (fun x hx=>(cC x hx).1) Bd gO⟩
theorem QA (hQ:CQ Q)(hR:HV R):Wj (KQ hQ hR):=by
 intro m cm hG;have e:=aat hQ hR (r:=BS) (.inl rfl) rfl cm hG (args:=[]) rfl fun r' qi h1 h2=>by
  rcases h1 with rfl|h1
  ·rfl
  ·have :=h2.1;rw[(hR.isq h1).2.1]at this;cases this
 have hk:Kp m (jo (uQ m) sY m BS.L BS.nx) fu:=Uq fun x hx=>(Bc Wk).1 x hx
 obtain⟨M,hM⟩:∃M,M=jo (uQ m) sY m BS.L BS.nx:=⟨_,rfl⟩;obtain⟨q1,q2⟩:=Bc Wk;have hn:M.next=m.next+1213:=by rw[hM];rfl
 have WG:m.base<=m.next:=by have :=cm.gd.bf;have :=cm.gd.fn;omega
 rw[<-hM]at e hk;have e':Ev (KQ hQ hR) 14 [] m (vP (m.next+1) 0) M:=e;have rA:Obj M (m.next+1) 0 [.int .i32 0,.int .u32 0,.map (some m.next)]:=by
  rw[hM];exact OB (b:=13) (k:={kind:=1,pos:=1,cs:=[some (.int .i32 0),some (.int .u32 0),some (.map (some 12))]}) (cs:=[.int .i32 0,.int .u32 0,.map (some 12)]) cm q2 (.tail _ (.head _)) eS eS q1 rfl rfl
 have eb:M.blk m.next={mE (uQ m) {kind:=2,clock:=1,es:=#[⟨.string ⟨#[101]⟩,.pointer (some ⟨129,0,none⟩),0⟩]}with aZ:=m.tick}:=by
  have :=OC (m:=m) (nx:=1225) q2 (b:=12) (.head _) q1;rw[hM];exact this
 exact⟨M,m.next+1,m.next,m.next+117,e',hk,⟨rA,by rw[hk.base];omega⟩,⟨aj,by rw[eb];rfl,by rw[eb];rfl,by rw[eb];rfl,by rw[hk.bl,cm.bl];rfl,by rw[hk.home];exact hG.hn,by rw[hk.base];exact WG,aj⟩,aj,aj,aj⟩
theorem adS (hQ:CQ Q)(hR:HV R):Cr (KQ hQ hR):=by
 intro m lo db mp pe cm hG M1 rA sF hhd jH hA;obtain⟨cg,hcg⟩:∃cg,cg=sh lo 93:=⟨_,rfl⟩;have oc:Obj m cg 2 qG:=by rw[hcg];exact(hA 93 2 qG rfl).2
 have MG:lo<=cg:=by rw[hcg,Fb eS];omega
 have lt:=jH.lt;have lo':=jH.lo;obtain⟨l,hl⟩:∃l,l=[(93,cg),(1010,db),(1000,mp),(1001,pe)]:=⟨_,rfl⟩;obtain⟨π,tq⟩:∃π,π=DS 1100 m.next l:=⟨_,rfl⟩;have p1:π 93=cg:=by rw[tq,hl];rfl
 have p2:π 1010=db:=by rw[tq,hl];rfl
 have p3:π 1000=mp:=by rw[tq,hl];rfl
 have p4:π 1001=pe:=by rw[tq,hl];rfl
 have p5:π 1108=m.next+8:=by rw[tq];rfl
 have c:=pB.at;have nmd:mp≠db:=fun e=>by
  have h1:=M1.kind;rw[e,rA.kind]at h1;cases h1
 have hE:Emb m π pC.K:=by
  refine⟨fun x hx=>?_,fun x hx=>?_,fun x hx=>?_,fun x hx y hy e=>?_⟩<;>simp only[pC,aI,List.not_mem_nil,or_false]at hx
  ·rcases hx with rfl|rfl|rfl
   ·show π 93<_;rw[p1];exact oc.lt
   ·show π 1000<_;rw[p3];exact M1.lt
   ·show π 1010<_;rw[p2];exact rA.lt
  ·rcases hx with rfl|rfl|rfl
   ·show _<=π 93/\_<=π 93;rw[p1];omega
   ·show _<=π 1000/\_<=π 1000;rw[p3];exact⟨M1.base,M1.home⟩
   ·show _<=π 1010/\_<=π 1010;rw[p2];exact⟨sF,hhd⟩
  ·rcases hx with rfl|rfl|rfl
   ·show vx π (bk 93 2 qG).2 (m.blk (π 93))
    rw[p1];refine⟨oc.kind,fun _=>⟨oc.sz,?_⟩,fun h=>(by cases h),fun h=>by cases h⟩;rw[oc.cs];rfl
   ·show vx π aau.2 (m.blk (π 1000))
    rw[p3];refine⟨M1.kind,fun h=>(by cases h),fun _=>⟨?_,M1.clock⟩,fun h=>by cases h⟩;rw[M1.es]
    show _=([⟨sB [101],vP (π 1001) 0,0⟩]:List MapEntry)
    rw[p4]
   ·show vx π (bk 1010 0 [.int .i32 1,.int .u32 0,.map (some 1000)]).2 (m.blk (π 1010))
    rw[p2];refine⟨rA.kind,fun _=>⟨rA.sz,?_⟩,fun h=>(by cases h),fun h=>by cases h⟩;rw[rA.cs]
    show _=([some (.int .i32 1),some (.int .u32 0),some (.map (some (π 1000)))]:List (Option ae))
    rw[p3];rfl
  ·simp only[pC,aI,List.not_mem_nil,or_false]at hy;rcases hx with rfl|rfl|rfl<;>rcases hy with rfl|rfl|rfl
   ·rfl
   ·have e:π 93=π 1000:=e;omega
   ·have e:π 93=π 1010:=e;omega
   ·have e:π 1000=π 93:=e;omega
   ·rfl
   ·have e:π 1000=π 1010:=e;omega
   ·have e:π 1010=π 93:=e;omega
   ·have e:π 1010=π 1000:=e;omega
   ·rfl
 have ky:nS ab.globals.size pC.mi m π:=by
  rw[tq];refine ahf cm hG c.k (show 12<=1100 by decide) (fun x hx=>?_) (show Emb m (DS 1100 m.next l) pC.K by rw[<-tq];exact hE);rw[hl]at hx;simp only[aI,List.not_mem_nil,or_false]at hx;rcases hx with rfl|rfl|rfl|rfl
  ·exact oc.lt
  ·exact rA.lt
  ·exact M1.lt
  ·exact M1.pe
 have KS:pC.at 38 [vP db 0,.agg #[.string bG,vL cg 0 2 cD]] m π:=by
  refine⟨rfl,?_,⟨l,by rw[hl];rfl,tq⟩,ky⟩
  show _=[vP (π 1010) 0,.agg #[.string bG,vL (π 93) 0 2 cD]]
  rw[p1,p2]
 have ht:=hQ.tw (.inl rfl) KS;obtain⟨m',OS⟩:∃m',m'=pC.out m π:=⟨_,rfl⟩;rw[<-OS]at ht;have H3:m'.next=m.next+9:=by rw[OS];rfl
 have hk:Kp m m' (fun y=>y=mp):=by
  rw[OS];refine⟨Nat.le_add_right _ _,rfl,rfl,rfl,rfl,rfl,rfl,rfl,rfl,fun b hb dH=>?_⟩;rcases fZ (m:=m) (L:=pC.L.map fun x=>(π x.1,mE π x.2)) (nx:=m.next+(1109-1100)) b with⟨e,_⟩|⟨k,hm,_⟩
  ·exact e
  ·obtain⟨x,hx,ex⟩:=List.mem_map.1 hm;simp only[pC,aI,List.not_mem_nil,or_false]at hx;rcases hx with rfl|rfl
   ·have e:π 1000=b:=congrArg Prod.fst ex;exact absurd (e.symm.trans p3) dH
   ·have e:π 1108=b:=congrArg Prod.fst ex;omega
 have JB:((pC.L.map fun x=>(π x.1,mE π x.2)).map (·.1)).Nodup:=by
  show[π 1000,π 1108].Nodup
  have :=M1.lt;rw[p3,p5,List.nodup_cons];exact⟨fun h=>by have :=List.mem_singleton.1 h;omega,List.nodup_cons.2 ⟨fun h=>(by cases h),List.nodup_nil⟩⟩
 have b1:m'.blk mp={mE π {kind:=2,clock:=2,es:=#[⟨sB [101],vP 1001 0,0⟩,⟨sB [103],vP 1108 0,1⟩]}with aZ:=m.tick}:=by
  rw[OS,<-p3];exact rE (x:=(π 1000,mE π {kind:=2,clock:=2,es:=#[⟨sB [101],vP 1001 0,0⟩,⟨sB [103],vP 1108 0,1⟩]})) JB (.head _)
 have b2:m'.blk (m.next+8)={mE π (vk 1108 [vL 93 0 2 cD,.slice none 0 0]).2 with aZ:=m.tick}:=by
  rw[OS,<-p5];exact rE (x:=(π 1108,mE π (vk 1108 [vL 93 0 2 cD,.slice none 0 0]).2)) JB (.tail _ (.head _))
 have WG:m.base<=m.next:=by have :=cm.gd.bf;have :=cm.gd.fn;omega
 have hh0:=hG.hn;have hml:=M1.lt;have dm:=M1.pe;have amX:=oc.lt;refine⟨m',m.next+8,by rw[<-hcg];exact Ur hQ hR (.inl rfl) ht,hk,?_,aj⟩;rw[<-hcg];refine⟨⟨aj,by rw[b1];rfl,?_,by rw[b1];rfl,by rw[hk.bl];exact M1.yL,by rw[hk.home];exact M1.home⟩,⟨aj,by rw[b2];rfl,by rw[b2];rfl,?_,by rw[hk.bl,cm.bl];rfl⟩,oc.ext hk (show¬cg=mp by omega),.inl rfl,aj,?_⟩
 ·rw[b1]
  show([⟨sB [101],vP (π 1001) 0,0⟩,⟨sB [103],vP (π 1108) 0,1⟩]:List MapEntry)=_
  rw[p4,p5]
 ·rw[b2]
  show([some (vL (π 93) 0 2 cD),some (.slice none 0 0)]:List (Option ae))=_
  rw[p1];rfl
 ·have h1:=M1.base;have h2:=M1.home;rw[hk.base,hk.home];omega
end
end Go.AM
namespace Go.AM
set_option maxRecDepth 1000000
open Go Go.Conc Go.Proofs
def noT (ps:List Nat)(L:List (Nat×dJ)):List (Nat×dJ):=L.filter fun x=>!ps.any (Nat.beq x.1)
theorem ze {ps:List Nat}{b sz:Nat}{cs:List ae}:∀{L:List (Nat×dJ)},mc (noT ps L) b=some (sz,cs)->mc L b=some (sz,cs)/\b∉ps
 | [],h=>by cases h
 |x::L,h=>by
  unfold noT at h;rw[List.filter_cons]at h
  split at h
  ·rename_i hx;unfold mc at h⊢;cases hb:Nat.beq x.1 b with
   |true=>
    rw[hb]at h;refine⟨h,fun hm=>?_⟩;have e:=aA hb;have :ps.any (Nat.beq x.1)=true:=List.any_eq_true.2 ⟨b,hm,by rw[e];exact Nat.beq_refl _⟩;rw[this]at hx;cases hx
   |false=>
    rw[hb]at h;exact ze (L:=L) h
  ·rename_i hx;obtain⟨h1,h2⟩:=ze (L:=L) h;refine⟨?_,h2⟩;unfold mc;cases hb:Nat.beq x.1 b with
   |true=>
    have e:=aA hb;have hx:ps.any (Nat.beq x.1)=true:=by
     cases hh:ps.any (Nat.beq x.1)with
     |true=>rfl
     |false=>rw[hh]at hx;exact absurd rfl hx
    obtain⟨y,hy,ey⟩:=List.any_eq_true.1 hx;exact absurd (by rw[<-e,aA ey];exact hy) h2
   |false=>exact h1
def EU (x:PH):yx:=(x.p,x.self,R4 x.b)
theorem PL {B:Nat->Prop}{m:Mem}{x:PH}{v:ae}(h:rL.R B x m v):J5.R B (EU x) m v:=by
 obtain⟨a,w,b,u,e,h⟩:=h;exact⟨a,w,b,u,e,EW h⟩
structure QP (d:CD)(cq:zK):Prop where
 f:d.f=75
 tD:sg.tD (noT (cq.parts.map (·.p)) d.L) cq d.qv=true
 tb:∀x∈cq.parts,1100<=x.p/\∃cl r,mc d.L x.p=some (0,[cl,r])
 ge:∀b sz cs,mc d.L b=some (sz,cs)->1100<=b
 nd:(cq.parts.map (·.p)).Nodup
 us:cq.b.us=[]
 cl:cq.gR.length<9000
 pl:cq.parts.length<9000
def aiV (res:List (List V)):Prop:=res≠[]/\res.length<65536/\∀x∈res,x.length<99999
def aey (pg:Nat)(rows:List (List V))(cq:zK)(res:List (List V)):Prop:=
 ∀π:Nat->Nat,π 1002=pg->(∀b,1100<=b->pg<π b/\∀b',1100<=b'->π b=π b'->b=b')->∃T',nE (tbG pg rows) ((sg.iJ π cq).parts.map EU) T'/\oE T' (AF (vY.iJ π cq.b.first))/\aiV (eY T' (AF (vY.iJ π cq.b.first)))/\Iz (eY T' (AF (vY.iJ π cq.b.first)))=res
section
variable {K:gS}{m:Mem}{W:Nat->Prop}{db mp pe pg cg lo:Nat}{rows res:List (List V)}
theorem alX (hK:AY K){d:CD}{cq:zK}{rc:Bool}{x0 x1 xi xs xw xu:ae}{pa:Option Addr}{pn pc:Nat}{rest:List ae}(KP:CkP K d)(hd:QP d cq)(cm:Calm m)(hG:Gl m)(rA:Obj m db 0 (x0::x1:: .map (some mp)::rest))(D:Ie W m mp pe pg cg rows)(jH:ER m lo mp pg cg)(hL:tj lo d.A m)(hl:lo<=m.next)(wW:bL (sh lo) 20 d.sv= .agg #[.bool rc,.slice pa pn pc,xi,xs,xw,xu])(hq:aey pg rows cq res)(hS:Ru K res.length):
  ∃v m',Ev K 40 [vP db 0,.agg #[.bool rc,.slice pa pn pc,xi,xs,xw,xu]] m (.tuple #[v,vI 0]) m'/\Kp m m' fu/\sQ (iS m m') cq.gR res 0 m' v:=by
 have g:=cm.gd;have Hi:=rA.lt;obtain⟨b1,nD⟩:∃b,b=m.next:=⟨_,rfl⟩;obtain⟨m1,e1,o1,k1,n1,_⟩:=aV g [.bool rc,.slice pa pn pc,xi,xs,xw,xu];obtain⟨b2,my⟩:∃b,b=m1.next:=⟨_,rfl⟩;obtain⟨m2,e2,o2,k2,n2,_⟩:=aV (g.ext k1) [.slice none 0 0,.slice none 0 0,.slice none 0 0,vI 0];have kg:=k1.aS k2;have g2:=g.ext kg;rw[<-nD]at e1 o1;rw[<-my]at e2 o2;have l1:aP db 2 m2=some (.map (some mp),m2):=aN (rA.aR kg) rfl;have l2:eW 6 b1 0 m2=some (.agg #[.bool rc,.slice pa pn pc,xi,xs,xw,xu],m2):=bW (vs:=[.bool rc,.slice pa pn pc,xi,xs,xw,xu]) (o1.aR k2) rfl (af rfl);obtain⟨b3,hb3⟩:∃b,b=m2.next:=⟨_,rfl⟩;obtain⟨m3,e3,o3,k3,n3,_⟩:=aV g2 [.slice none 0 0,.slice none 0 0,.slice none 0 0,.nilIface,.slice none 0 0,.slice none 0 0];rw[<-hb3]at e3 o3;have jG:=kg.aS k3;have g3:=g.ext jG;have D3:=D.ext jG fun _ _ h=>h
 obtain⟨rl,X3,_⟩:=D3.x;obtain⟨π,m4,e4,k4,La,tq,jT⟩:=KP m3 lo mp pe pg cg rl (cm.ext jG) (hG.aR jG) X3 (jH.ext jG) (hL.ext jG fun _ h=>h.elim);have n3':=jG.next;have n4':=k4.next;obtain⟨TP,hTP⟩:∃TP:Nat->Prop,TP=fun b=>∃x∈cq.parts,b=π x.p:=⟨_,rfl⟩
 have hpg:pg<m.next:=D.lt _ D.w.2.1;have La':qY π (noT (cq.parts.map (·.p)) d.L) m4 (fun b=>iS m3 m4 b/\¬TP b):=by
  intro b sz cs hg;obtain⟨h1,h2⟩:=ze hg;obtain⟨h3,h4⟩:=La b sz cs h1;refine⟨⟨h3,fun h=>?_⟩,h4⟩;rw[hTP]at h;obtain⟨x,hx,e⟩:=h;have hb:=hd.ge b sz cs h1;have zj:=(hd.tb x hx).1;rw[jT _ hb,jT _ zj]at e;exact h2 (List.mem_map.2 ⟨x,hx,aj⟩)
 have q4:=sg.ok La' hd.tD;obtain⟨v,hv⟩:∃v,v=bL π 20 d.qv:=⟨_,rfl⟩;rw[<-hv]at e4 q4;rw[wW,hd.f]at e4;obtain⟨p,J',a,w,y,u,rfl,qp,qc,qb⟩:=q4;obtain⟨pa',pc',hp⟩:=aT.form qp;have dm:(sg.iJ π cq).parts.length=cq.parts.length:=List.length_map ..;rw[dm]at hp;subst hp;have qb4:=qb;obtain⟨_,_,_,_,he,z1,z2,z3,z4⟩:=jr.four qb4;cases he;have kr:=jG.aS k4;have KX:=cm.ext kr;have n4:=k4.next;have KP:cZ (vI ((m3.blk b3).aZ:Int)) (vP b3 0) (pS (vP b3 0)) m4=some (undef,m4):=air (b:=b3) g kr aj rfl (SE k4 o3.lt);obtain⟨ca,cc,ale⟩:=aT.form qc;obtain⟨m5,e5,o5,k5⟩:=kq (o:=0) [.slice pa' cq.parts.length pc',J',a,w,y,u] (o3.aR k4) ((g.own kr aj).may _ _) (af rfl) (by rw[ale];simp[z1,z2,z3,z4];exact⟨rfl,rfl⟩);have n5:=k5.next;have tC:Kp m m5 fu:=kr.new k5 (N:=m.next) (ai _) fun b hb=>by omega
 have cm5:=cm.ext tC;have l3:eW 6 b3 0 m5=some (.agg #[.slice pa' cq.parts.length pc',J',a,w,y,u],m5):=bW (vs:=[.slice pa' cq.parts.length pc',J',a,w,y,u]) o5 rfl (af rfl);have nb3:∀y,iS m3 m4 y/\¬TP y->¬y=b3:=fun y hy e=>by have :=hy.1.1;omega
 have o25:=(((o2.aR k3).aR k4).ext k5 (show¬b2=b3 by omega));have D5:=D.ext tC fun _ _ h=>h
 obtain⟨T',hpt,hso,hR,xR⟩:=hq π tq fun b hb=>by
  rw[jT b hb];exact⟨aj,fun b' iB e=>by rw[jT b' iB]at e;omega⟩
 obtain⟨qp',hpe⟩:∃l,l=(sg.iJ π cq).parts.map EU:=⟨_,rfl⟩;have hqp:∀x∈qp',∃z∈cq.parts,x.1=π z.p:=fun x hx=>by
  rw[hpe]at hx;obtain⟨y,hy,rfl⟩:=List.mem_map.1 hx;obtain⟨z,hz,rfl⟩:=List.mem_map.1 (show y∈cq.parts.map (E8.iJ π)from hy);exact⟨z,hz,rfl⟩
 obtain⟨v6,m6,e6,k6,q6⟩:=alW (K:=K) (B:=fun b=>iS m3 m4 b/\¬TP b) (parts:=qp') (s:=AF (vY.iJ π cq.b.first)) (T':=T') hK cm5 (qF.ext qc k5 nb3) (by
   rw[hpe];exact aT.map' (E':=J5) (fun x v h=>PL h) ((aT rL 6).ext qp k5 nb3)) (by
   have :=EW (jr.ext qb k5 nb3);have e:R4 (sg.iJ π cq).b=(AF (vY.iJ π cq.b.first),[]):=by
    show(AF (vY.iJ π cq.b.first),(cq.b.us.map (tCU.iJ π)).map _)=_
    rw[hd.us];rfl
   rw[e]at this;exact this) D5.at (fun b hb=>hb.elim (fun hb=>by have :=hb.1.2;omega) (D5.lt b)) hd.cl (by rw[hpe,List.length_map,dm];exact hd.pl) (fun x hx=>by
   obtain⟨z,hz,ez⟩:=hqp x hx;obtain⟨hz1,cl,r,hz2⟩:=hd.tb z hz;obtain⟨b1',En⟩:=La z.p _ _ hz2;have Zb:=b1'.1;rw[ez];refine⟨⟨_,_,(show Obj m5 (π z.p) 0 [bL π 20 cl,bL π 20 r]from En.ext k5 (show¬π z.p=b3 by omega))⟩,by rw[tC.base];have :=g.bf;have :=g.fn;omega,fun h=>by have :=D.lt _ h;omega,fun h=>h.2 (by rw[hTP];exact⟨z,hz,rfl⟩)⟩) (by
   rw[hpe]
   show(((cq.parts.map (E8.iJ π)).map EU).map (·.1)).Nodup
   rw[List.map_map,List.map_map];have :cq.parts.map (((fun x:yx=>x.1)∘EU)∘E8.iJ π)=(cq.parts.map (·.p)).map π:=by rw[List.map_map];rfl
   rw[this,List.Nodup,List.pairwise_map];refine List.Pairwise.imp_of_mem ?_ hd.nd;intro a c ha hc dH e;obtain⟨x,hx,rfl⟩:=List.mem_map.1 ha;obtain⟨y,hy,rfl⟩:=List.mem_map.1 hc;have h3:=(hd.tb x hx).1;have h4:=(hd.tb y hy).1;rw[jT _ h3,jT _ h4]at e;omega) (by rw[hpe];exact hpt) hso hR.1 hR.2.1 (by rw[<-(xq (eY T' (AF (vY.iJ π cq.b.first)))).1.length_eq,xR];exact hS) hR.2.2
 rw[xR]at q6;obtain⟨nv,kv,rv,rfl,q1,q2,BO,BE,q3,q4⟩:=q6;have alv:∀b,b<m3.next->¬∃x∈qp',b=x.1:=fun b hb h=>by
  obtain⟨x,hx,rfl⟩:=h;obtain⟨z,hz,ez⟩:=hqp x hx;obtain⟨hz1,cl,r,hz2⟩:=hd.tb z hz;have :=(La z.p _ _ hz2).1.1;omega
 have hy:([nv,kv,rv,vI 0].all (·.oneCell'))=true:=by
  obtain⟨_,_,e⟩:=q3.form;subst e;simp[(aT.kI q1).2,(aT.kI q2).2];exact⟨rfl,rfl⟩
 have n6:=k6.next;have sZ:Kp m m6 fu:=tC.new k6 (N:=m.next) (ai _) fun b hb=>by
  obtain⟨x,hx,rfl⟩:=hb;obtain⟨z,hz,ez⟩:=hqp x hx;obtain⟨hz1,cl,r,hz2⟩:=hd.tb z hz;have :=(La z.p _ _ hz2).1.1;omega
 obtain⟨m7,e7,o7,k7⟩:=kq (o:=0) [nv,kv,rv,vI 0] (o25.ext k6 (alv b2 aj)) ((g.own sZ aj).may _ _) (af rfl) hy;have n7:=k7.next;have eR:oA ab 31 (vP b2 0) m7=some (.agg #[nv,kv,rv,vI 0],m7):=ma o7 rfl qJ.1 qJ.2;exact⟨_,m7,aJ (p40 db mp rc pn pc pa xi xs xw xu (.slice pa' cq.parts.length pc') J' a w y u nv kv rv (vI 0) 0 b1 b2 b3 _)
  (.mem e1<| .mem e2<| .mem l1<| .mem l2<| .mem e3<| .mem (dW _ _)<| .mem (bM g3)<| .call e4<| .mem KP<| .mem (bM KX.gd)<| .mem e5<| .cond rfl<| .mem l3<| .call e6<| .mem e7<| .mem eR .nil),sZ.new k7 (N:=m.next) (ai _) fun b hb=>by omega,
  sQ.mono (sQ.ext ⟨nv,kv,rv,rfl,q1,q2,BO,BE,q3,q4⟩ k7 fun b hb h=>by have :=hb.1;omega) fun b hb=>⟨by have :=hb.1;omega,by have :=hb.2;omega⟩⟩
theorem amt (hK:AY K){T:ByteArray}{d:CD}{cq:zK}{res:List (List V)}(KP:CkP K d)(hd:QP d cq)(cm:Calm m)(hG:Gl m)(rA:uN m db mp)(hh:m.home<=db)(hT:ZP K T d.A (.iface 108 d.sv))(D:Ie W m mp pe pg cg rows)(Hi:¬W db)(hq:aey pg rows cq res)(hS:Ru K res.length)
  (wW:∀lo,∃rc pa pn pc xi xs xw xu,bL (sh lo) 20 d.sv= .agg #[.bool rc,.slice pa pn pc,xi,xs,xw,xu]/\bL (sh lo) 20 (.iface 108 d.sv)= .iface 108 (.agg #[.bool rc,.slice pa pn pc,xi,xs,xw,xu])/\([.bool rc,.slice pa pn pc,xi,xs,xw,xu].all (·.oneCell'))=true):
  ∃v m',Ev K 12 [vP db 0,.string T] m (.tuple #[v,vI 0,vI 0]) m'/\Kp m m' (fun y=>y=db)/\uN m' db mp/\sQ (iS m m') cq.gR res 0 m' v:=by
 obtain⟨m3,m8,m',y1,y2,y3,y4,e,VF,k3,k8,cC,⟨h5,hQ⟩,k',TN⟩:=ad1 (K:=K) (S:=fu)
  (Q:=fun m3 m8 y1 y2 y3 y4 e=>e=0/\sQ (iS m3 m8) cq.gR res 0 m8 (.agg #[y1,y2,y3,y4])) cm hG rA hh hT (fun b e=>e.elim) (by
  intro m3 lo te hG3 k3 o3 hA cC hle;obtain⟨rc,pa,pn,pc,xi,xs,xw,xu,s1,s2,s3⟩:=wW lo;rw[s2];obtain⟨m4,e4,o4,k4,n4,_⟩:=aV te.gd [.slice none 0 0,.slice none 0 0,.slice none 0 0,vI 0];have KX:=te.ext k4;obtain⟨m5,m6,e5,e6,o6,k6,n6⟩:=iX KX.gd [.bool false,.slice none 0 0,.slice none 0 0,.slice none 0 0,.nilIface,.slice none 0 0] [.bool rc,.slice pa pn pc,xi,xs,xw,xu] rfl s3;have DW:=KX.ext k6;have Cw:=k4.aS k6;have sZ:=k3.aS Cw;have n3:=k3.next;have n36:=Cw.next;have D6:=D.ext sZ fun b hb e=>Hi (e▸hb)
  have hh0:=hG.hn;have WG:m.base<=m.next:=by have :=cm.gd.bf;have :=cm.gd.fn;omega
  have w1:=D.lt _ D.w.1;have w2:=D.lt _ D.w.2.1;have w3:=D.lt _ D.w.2.2;obtain⟨v,m7,e7,k7,q7⟩:=alX (K:=K) hK KP hd DW (hG3.aR Cw) (o3.aR Cw) D6 ⟨aj,by rw[sZ.base,sZ.home];omega⟩ (hA.ext Cw fun _ h=>h.elim) aj s1 hq hS;obtain⟨nv,kv,rv,rfl,q1,q2,BO,BE,q3,q4⟩:=q7;have hy:([nv,kv,rv,vI 0].all (·.oneCell'))=true:=by
   obtain⟨_,_,e⟩:=q3.form;subst e;simp[(aT.kI q1).2,(aT.kI q2).2];exact⟨rfl,rfl⟩
  have n7:=k7.next;obtain⟨m8,e8,o8,k8⟩:=kq (o:=0) [nv,kv,rv,vI 0] ((o4.aR k6).aR k7) ((te.gd.own (Cw.aS k7) (ai _)).may _ _) (af rfl) hy;have n8:=k8.next;have eR:oA ab 31 (vP m3.next 0) m8=some (.agg #[nv,kv,rv,vI 0],m8):=ma o8 rfl qJ.1 qJ.2;have l6:eW 6 m4.next 0 m6=some (.agg #[.bool rc,.slice pa pn pc,xi,xs,xw,xu],m6):=bW (vs:=[.bool rc,.slice pa pn pc,xi,xs,xw,xu]) o6 rfl (af rfl);exact⟨nv,kv,rv,vI 0,0,m8,aJ (ajY db rc pn pc pa xi xs xw xu nv kv rv (vI 0) 0 m3.next m4.next) (.mem e4<| .cond rfl<| .cond rfl<| .cond rfl<| .mem e5<| .mem e6<| .mem l6<| .call e7<| .mem e8<| .mem eR .nil),(Cw.aS k7).new k8 (N:=m3.next) (ai _) fun b hb=>by omega,hy,rfl,
   sQ.mono (sQ.ext ⟨nv,kv,rv,rfl,q1,q2,BO,BE,q3,q4⟩ k8 fun b hb h=>by have :=hb.1;omega) fun b hb=>⟨by have :=hb.1;omega,by have :=hb.2;omega⟩⟩)
 subst h5;have n8:=k8.next;have n':=k'.next;exact⟨_,m',VF,(k3.aS k8).trans k' fun b hb h=>h.elim id fun h=>by omega,TN,sQ.mono (sQ.ext hQ k' fun b hb h=>by have :=hb.1;have :=rA.1.lt;rcases h with h|h<;>omega) fun b hb=>⟨by have :=hb.1;omega,by have :=hb.2;omega⟩⟩
end
end Go.AM
namespace Go.AM
set_option maxRecDepth 1000000
open Go Go.Conc Go.Proofs
theorem Er {w:Nat}(h:w<4):w=0\/w=1\/w=2\/w=3:=aj
theorem Oy {s:Nat}(h:s<12):s=0\/s=1\/s=2\/s=3\/s=4\/s=5\/s=6\/s=7\/s=8\/s=9\/s=10\/s=11:=aj
theorem P0 {w s:Nat}(hw:w<4)(hs:s<12):(fJ w s).fact=true:=by
 rcases Er hw with rfl|rfl|rfl|rfl
 ·obtain rfl|rfl|rfl|rfl|rfl|rfl|rfl|rfl|rfl|rfl|rfl|rfl:=Oy hs
  ·exact XW
  ·exact XV
  ·exact XU
  ·exact XT
  ·exact XS
  ·exact XQ
  ·exact XP
  ·exact XO
  ·exact XN
  ·exact XM
  ·exact S3
  ·exact S2
 ·obtain rfl|rfl|rfl|rfl|rfl|rfl|rfl|rfl|rfl|rfl|rfl|rfl:=Oy hs
  ·exact XL
  ·exact XK
  ·exact XJ
  ·exact XI
  ·exact XH
  ·exact XG
  ·exact XF
  ·exact XE
  ·exact XD
  ·exact XC
  ·exact S1
  ·exact S0
 ·obtain rfl|rfl|rfl|rfl|rfl|rfl|rfl|rfl|rfl|rfl|rfl|rfl:=Oy hs
  ·exact XB
  ·exact XA
  ·exact Xz
  ·exact Xy
  ·exact Xx
  ·exact Xw
  ·exact Xv
  ·exact Xu
  ·exact Xt
  ·exact Xs
  ·exact SZ
  ·exact SY
 ·obtain rfl|rfl|rfl|rfl|rfl|rfl|rfl|rfl|rfl|rfl|rfl|rfl:=Oy hs
  ·exact Xr
  ·exact Xq
  ·exact Xp
  ·exact Xo
  ·exact Xn
  ·exact Xm
  ·exact Xl
  ·exact Xk
  ·exact Xj
  ·exact Xi
  ·exact SW
  ·exact SV
def QW (d:CD):Prop:=∃w s,w<4/\d=wD w s
def aeW:Nat->ae×ae
 |0=>(.nilIface,.string .empty)
 |1=>(.iface 304 (.agg #[vI 11,rf [] [97],rf [] [110]]),.string .empty)
 |2=>(.nilIface,sB [121])
 |_=>(.iface 310 (.agg #[vI 34,.iface 304 (.agg #[vI 37,.iface 304 (.agg #[vI 13,rf [103] [97],rf [] [110]]),.iface 304 (.agg #[vI 15,rf [103] [97],rf [] [110]])])]),.string .empty)
theorem r9 {w:Nat}(hw:w<4)(s:Nat)(o:Option Nat):oJ (fK (wD w s) o).mi (fK (wD w s) o).args [1,1,11,3]=some (aeW w).1/\oJ (fK (wD w s) o).mi (fK (wD w s) o).args [1,1,11,2,1]=some (aeW w).2/\oJ (fK (wD w s) o).mi (fK (wD w s) o).args [1,1,2,0]=some (vN s)/\oJ (fK (wD w s) o).mi (fK (wD w s) o).args [0,0,1,1]=some (wV o):=by
 rcases Er hw with rfl|rfl|rfl|rfl<;>cases o<;>exact⟨aY,aY,aY,aY⟩
theorem Gk {w:Nat}(hw:w<4)(s:Nat)(o:Option Nat):(fK (wD w s) o).Fact (fK (wD w s) o).J:=by
 rcases Er hw with rfl|rfl|rfl|rfl
 ·exact Sa s o
 ·exact R9 s o
 ·exact R8 s o
 ·exact R7 s o
theorem ZY {w:Nat}(hw:w<4)(s:Nat):(wD w s).ok=true/\(wD w s).c.map (·.1)=(wD w s).A.map (·.1)/\((wD w s).L.all fun x=>Nat.ble 1100 x.1&&Nat.blt x.1 (wD w s).nx)=true:=by
 rcases Er hw with rfl|rfl|rfl|rfl<;>exact⟨aY,rfl,aY⟩
theorem rq:CQ QW:=by
 refine⟨fun h=>?_,fun h o=>?_,fun h o=>?_,fun{d d' o f args m π qi} hd w6 h h'=>?_,fun h=>?_⟩
 ·obtain⟨w,s,_,rfl⟩:=h;rfl
 ·obtain⟨w,s,hw,rfl⟩:=h;exact Gk hw s o
 ·obtain⟨w,s,hw,rfl⟩:=h;exact(r9 hw s o).2.2.2
 ·obtain⟨w,s,hw,rfl⟩:=hd;obtain⟨w',s',zk,rfl⟩:=w6;have c:=(Gk hw s o).at;have c':=(Gk zk s' o).at;have h1:vN s=vN s':=yr h h' c c' (r9 hw s o).2.2.1 (r9 zk s' o).2.2.1;have h2:=Pt h h' c c' (r9 hw s o).1 (r9 zk s' o).1;have h3:=Pt h h' c c' (r9 hw s o).2.1 (r9 zk s' o).2.1;rw[Le h1];rcases Er hw with rfl|rfl|rfl|rfl<;>rcases Er zk with rfl|rfl|rfl|rfl<;>first |rfl|exact absurd h2 eS|exact absurd h3 eS
 ·obtain⟨w,s,hw,rfl⟩:=h;obtain⟨h1,h2,h3⟩:=ZY hw s;exact⟨h1,h2,fun x hx=>by
   have :=aB.1 h3 x hx;rw[ag]at this;exact⟨af this.1,af this.2⟩⟩
def NS:List gi:=(List.range 48).map fun k=>fJ (k / 12) (k%12)
theorem SR:B9 ((BP NS).map gi.text)=true:=aY
theorem rm:HV NS:=⟨fun h=>by
 obtain⟨k,hk,rfl⟩:=List.mem_map.1 h;have hk:=List.mem_range.1 hk;exact⟨P0 aj (Nat.mod_lt _ eS),rfl,rfl,_,rfl⟩,SR⟩
theorem SU {w s:Nat}(hw:w<4)(hs:s<12):fJ w s∈BP NS:=by
 refine List.mem_append.2 (.inl (.tail _ (List.mem_map.2 ⟨w*12+s,List.mem_range.2 aj,?_⟩)))
 show fJ ((w*12+s) / 12) ((w*12+s)%12)=_
 rw[show(w*12+s) / 12=w by omega,show(w*12+s)%12=s by omega]
def aeU:Nat->Nx
 |0=>⟨[⟨1180,none⟩,⟨1002,some (.bin 11 (.jO 1180 0 0) (.jO 1002 1 0))⟩],none,[.jO 1002 1 1]⟩
 |1=>⟨[⟨1002,none⟩,⟨1180,none⟩],some (.bin 11 (.jO 1002 0 0) (.jO 1180 1 0)),[.jO 1002 0 1]⟩
 |2=>⟨[⟨1002,none⟩,⟨1180,some (.bin 23 (.bin 11 (.jO 1180 1 0) (.jO 1002 0 0)) (.bin 12 (.jO 1002 0 1) (.lit (cT 99))))⟩],none,[.jO 1002 0 1]⟩
 |_=>⟨[⟨1180,none⟩,⟨1002,none⟩],some (.no (.bin 37 (.bin 13 (.jO 1002 1 0) (.jO 1180 0 0)) (.bin 15 (.jO 1002 1 0) (.jO 1180 0 0)))),[.bin 17 (.jO 1002 1 1) (.lit (cT 0))]⟩
def bN:ByteArray:=⟨#[110]⟩
def wCq (w s:Nat):zK:=⟨[⟨1126,false,⟨⟨[],none,[.lit (cT s)]⟩,[]⟩⟩,⟨1180,true,⟨⟨[⟨1126,none⟩],none,[.jO 1126 0 0]⟩,[⟨false,aeU w⟩]⟩⟩],[⟨bN,1⟩],⟨⟨[⟨1180,none⟩],none,[.jO 1180 0 0]⟩,[]⟩⟩
theorem WV:((List.range 4).all fun w=>(List.range 12).all fun s=>sg.tD (noT [1126,1180] (wL w s)) (wCq w s) (wQV w))=true:=aY
theorem WU {w s:Nat}(hw:w<4)(hs:s<12):sg.tD (noT [1126,1180] (wL w s)) (wCq w s) (wQV w)=true:=aB.1 (aB.1 WV w (List.mem_range.2 hw)) s (List.mem_range.2 hs)
theorem ZX {w:Nat}(hw:w<4)(s:Nat):mc (wL w s) 1126=some (0,[vL 1129 0 1 cD,.slice none 0 0])/\mc (wL w s) 1180=some (0,[vL 1183 0 1 cD,.slice none 0 0]):=by
 rcases Er hw with rfl|rfl|rfl|rfl<;>exact⟨aY,aY⟩
theorem aeT {w s:Nat}(hw:w<4)(hs:s<12):QP (wD w s) (wCq w s):=by
 refine⟨rfl,WU hw hs,fun x hx=>?_,fun b sz cs h=>?_,(show[1126,1180].Nodup by decide),rfl,(show 1<9000 by decide),(show 2<9000 by decide)⟩
 ·rcases aI.1 hx with rfl|hx
  ·exact⟨(by decide:1100<=1126),_,_,(ZX hw s).1⟩
  ·rw[List.mem_singleton.1 hx];exact⟨(by decide:1100<=1180),_,_,(ZX hw s).2⟩
 ·obtain⟨k,hk,_⟩:=xM h;have :=aB.1 (ZY hw s).2.2 _ hk;rw[ag]at this;exact af this.1
end Go.AM
namespace Go.AM
set_option maxRecDepth 1000000
open Go Go.Conc Go.Proofs
theorem rC:∀{n:Nat}{l:List Nat},l.Nodup->(∀x∈l,x<n)->l.length<=n
 |0,[],_,_=>ai _
 |0,x::l,_,h=>absurd (h x (.head _)) aj
 |n+1,l,hn,h=>by
  by_cases hm:n∈l
  ·have h1:=rC (n:=n) (hn.erase n) fun x hx=>by
    have hx:=(hn.mem_erase_iff).1 hx;have :=h x hx.2;omega
   rw[List.length_erase_of_mem hm]at h1;omega
  ·have :=rC (n:=n) hn fun x hx=>by
    have :=h x hx;have :x≠n:=fun e=>hm (e▸hx)
    omega
   omega
theorem Ye {a b:Nat}(h:a<=b):cj (eQ a) (eQ b)<=0:=by
 rcases Nat.eq_or_lt_of_le h with rfl|h
 ·exact Int.le_of_eq (jy.2 rfl)
 ·have h1:lL (cT a).n (cT b).n= -1:=by
   have :(cT a).n<(cT b).n:=by show(a:Int)<b;omega
   unfold lL;rw[bC this]
  have h0:lL (cT a).k (cT b).k=0:=rfl;have h2:kB (cT a) (cT b)= -1:=by
   unfold kB;rw[h0,h1];rfl
  show(if kB (cT a) (cT b)≠0 then kB (cT a) (cT b)else _)<=0
  rw[h2];decide
theorem EG (P:Nat->Bool)(n:Nat):(((List.range n).filter P).map eQ).Pairwise fun x y=>cj x y<=0:=by
 rw[List.pairwise_map];exact(List.pairwise_lt_range.filter _).imp fun h=>Ye (Nat.le_of_lt h)
theorem TV {a b:Nat}(h:cT a=cT b):a=b:=by
 unfold cT at h;simp only[V.mk.injEq,true_and,and_true]at h;omega
theorem I8 {a b:Nat}(h:eQ a=eQ b):a=b:=by
 unfold eQ at h;exact TV (List.cons.inj h).1
theorem Cf {a:Nat}{l:List Nat}:eQ a∈l.map eQ↔a∈l:=by
 rw[List.mem_map];exact⟨fun⟨b,hb,e⟩=>I8 e▸hb,fun h=>⟨a,h,rfl⟩⟩
theorem aef {l:List (List V)}(h:∀y∈l,∃b,y=eQ b):∃bs:List Nat,l=bs.map eQ:=by
 induction l with
 |nil=>exact⟨[],rfl⟩
 |cons y l ih=>
  obtain⟨b,rfl⟩:=h y (.head _);obtain⟨bs,rfl⟩:=ih fun z hz=>h z (.tail _ hz)
  exact⟨b::bs,rfl⟩
def Ll (all acc:List Nat)(x:Nat):List Nat:=if x∈all++acc then acc else acc++[x]
theorem Ja (all:List Nat):∀(bs acc:List Nat),(bs.map eQ).foldl (Lk false (all.map eQ)) (acc.map eQ)=(bs.foldl (Ll all) acc).map eQ
 | [],acc=>rfl
 |b::bs,acc=>by
  rw[List.map_cons,List.foldl_cons,List.foldl_cons,<-Ja all bs]
  congr 1
  unfold Lk Ll
  by_cases h:b∈all++acc
  ·rw[bC ⟨rfl,by rw[<-List.map_append];exact Cf.2 h⟩,bC h]
  ·rw[bS fun h'=>h (by rw[<-List.map_append]at h';exact Cf.1 h'.2),bS h,List.map_append];rfl
theorem FN {all:List Nat}{x:Nat}:∀{bs acc:List Nat},x∈bs.foldl (Ll all) acc↔x∈acc\/(x∈bs/\x∉all)
 | [],acc=>by simp
 |b::bs,acc=>by
  rw[List.foldl_cons,FN (bs:=bs)];unfold Ll
  split
  ·rename_i h;rcases List.mem_append.1 h with h|h
   ·constructor
    ·rintro(h1|⟨h1,h2⟩)
     ·exact .inl h1
     ·exact .inr ⟨.tail _ h1,h2⟩
    ·rintro(h1|⟨h1,h2⟩)
     ·exact .inl h1
     ·rcases aI.1 h1 with rfl|h1
      ·exact absurd h h2
      ·exact .inr ⟨h1,h2⟩
   ·constructor
    ·rintro(h1|⟨h1,h2⟩)
     ·exact .inl h1
     ·exact .inr ⟨.tail _ h1,h2⟩
    ·rintro(h1|⟨h1,h2⟩)
     ·exact .inl h1
     ·rcases aI.1 h1 with rfl|h1
      ·exact .inl h
      ·exact .inr ⟨h1,h2⟩
  ·rename_i h;rw[List.mem_append,List.mem_singleton,aI];have hb:b∉all:=fun hh=>h (List.mem_append_left _ hh)
   constructor
   ·rintro((h1|rfl)|⟨h1,h2⟩)
    ·exact .inl h1
    ·exact .inr ⟨.inl rfl,hb⟩
    ·exact .inr ⟨.inr h1,h2⟩
   ·rintro(h1|⟨rfl|h1,h2⟩)
    ·exact .inl (.inl h1)
    ·exact .inl (.inr rfl)
    ·exact .inr ⟨h1,h2⟩
theorem JV {all:List Nat}:∀{bs acc:List Nat},(all++acc).Nodup->(all++bs.foldl (Ll all) acc).Nodup
 | [],acc,h=>h
 |b::bs,acc,h=>by
  rw[List.foldl_cons];refine JV ?_;unfold Ll
  split
  ·exact h
  ·rename_i hb;rw[<-List.append_assoc];exact List.nodup_append.2 ⟨h,List.nodup_cons.2 ⟨fun h=>(by cases h),List.nodup_nil⟩,fun x hx y hy e=>hb (by rw[List.mem_singleton.1 hy]at e;exact e▸hx)⟩
theorem P7 {T:List (List V)->Nat->Option (List (List V))}{SM:tu}{es:List (Nat×Nat)}(he:∀e∈es,e.2<12)(wu:∀fs:List Nat,fs.length<=12->oE (T (fs.map eQ)) SM/\∀y,y∈eY (T (fs.map eQ)) SM↔∃n∈fs,∃b,(n,b)∈es/\y=eQ b):
  ∀(n k:Nat) (fs all:List Nat),13-all.length+(if fs=[]then 0 else 1)<=n->all.Nodup->(∀x∈all,x<12)->(∀x∈fs,x∈all)->fs.length<=12->(fs≠[]->k<=all.length)->(∀x∈all,x∉fs->∀b,(x,b)∈es->b∈all)->
   ∃res:List Nat,Rds T false SM k (fs.map eQ) (all.map eQ) (res.map eQ)/\res.Nodup/\(∀x∈res,x<12)/\(∀x∈all,x∈res)/\(∀x∈res,∀b,(x,b)∈es->b∈res)/\∀C:Nat->Prop,(∀x∈all,C x)->(∀a b,(a,b)∈es->C a->C b)->∀x∈res,C x:=by
 intro n
 induction n with
 |zero=>
  intro k fs all hn JB cC _ _ _ _;have :=rC JB cC;omega
 |succ n ih=>
  intro k fs all hn JB cC hfa H4 hk MG
  by_cases hf:fs=[]
  ·subst hf;exact⟨all,.done,JB,cC,fun x h=>h,fun x hx b hb=>MG x hx de b hb,fun C h _=>h⟩
  ·have Vl:=rC JB cC;rw[bS hf]at hn;obtain⟨er,um⟩:=wu fs H4;obtain⟨bs,QN⟩:=aef (l:=eY (T (fs.map eQ)) SM) fun y hy=>by
    obtain⟨_,_,b,_,e⟩:=(um y).1 hy;exact⟨b,e⟩
   have hbm:∀b,b∈bs↔∃n∈fs,(n,b)∈es:=fun b=>by
    rw[<-Cf,<-QN,um];exact⟨fun⟨n,h1,b',h2,e⟩=>⟨n,h1,I8 e▸h2⟩,fun⟨n,h1,h2⟩=>⟨n,h1,b,h2,rfl⟩⟩
   obtain⟨new,jT⟩:∃new,new=bs.foldl (Ll all) []:=⟨_,rfl⟩;have hnR:od false (all.map eQ) (eY (T (fs.map eQ)) SM)=new.map eQ:=by
    rw[QN,jT];exact Ja all bs []
   have hnm:∀x,x∈new↔x∈bs/\x∉all:=fun x=>by rw[jT,FN];simp
   have ahF:(all++new).Nodup:=by rw[jT];exact JV (by rw[List.append_nil];exact JB)
   have U1:∀x∈all++new,x<12:=fun x hx=>by
    rcases List.mem_append.1 hx with h|h
    ·exact cC x h
    ·obtain⟨n,_,h2⟩:=(hbm x).1 ((hnm x).1 h).1;exact he _ h2
   have AR:=rC ahF U1;have Mz:(all++new).length=all.length+new.length:=List.length_append;obtain⟨res,r1,r2,r3,r4,r5,r6⟩:=ih (k+1) new (all++new) (by
     by_cases dH:new=[]
     ·rw[bC dH];rw[dH]at Mz;rw[dH,Mz];simp;omega
     ·have :=List.length_pos_iff.2 dH;rw[bS dH];omega) ahF U1 (fun x h=>List.mem_append_right _ h) aj (fun e=>by
     have :=List.length_pos_iff.2 e;have :=hk hf;omega) (fun x hx hxn b hb=>by
     have hx:x∈all:=(List.mem_append.1 hx).resolve_right hxn
     by_cases hxf:x∈fs
     ·by_cases hba:b∈all
      ·exact List.mem_append_left _ hba
      ·exact List.mem_append_right _ ((hnm b).2 ⟨(hbm b).2 ⟨x,hxf,hb⟩,hba⟩)
     ·exact List.mem_append_left _ (MG x hx hxf b hb))
   refine⟨res,.step (fun e=>hf (List.map_eq_nil_iff.1 e)) (by have :=hk hf;omega) er (fun _ y hy=>?_) ?_ ?_,r2,r3,fun x h=>r4 x (List.mem_append_left _ h),r5,fun C h1 h2=>r6 C (fun x hx=>?_) h2⟩
   ·obtain⟨_,_,b,_,e⟩:=(um y).1 hy;rw[e];rfl
   ·rw[hnR,<-List.map_append,List.length_map];omega
   ·rw[hnR,<-List.map_append];exact r1
   ·rcases List.mem_append.1 hx with h|h
    ·exact h1 x h
    ·obtain⟨n,h3,h4⟩:=(hbm x).1 ((hnm x).1 h).1;exact h2 n x h4 (h1 n (hfa n h3))
section
variable {T:Nat->Option (List (List V))}{p:Nat}{fs:List Nat}
theorem SL (h:T p=some (fs.map eQ))(hn:fs.length<=1000):oE T ([(p,none)],none,[.jO p 0 0])/\eY T ([(p,none)],none,[.jO p 0 0])=fs.map eQ:=by
 have hj:=FA (p:=p) h;rw[List.length_map]at hj;have hc:∀{k:Nat} (hk:k<fs.length),kj T (eU.set 0 k) p 0 0=cT fs[k]:=fun{k} hk=>by
  have e1:(fs.map eQ)[k]?=some (eQ fs[k]):=by rw[List.getElem?_map,List.getElem?_eq_getElem hk];rfl
  exact HF (i:=k) (j:=0) (c:=0) h e1 rfl
 refine⟨⟨af rfl,⟨⟨_,h⟩,?_,fun _ _ _ _=>trivial,trivial⟩,?_,fun h=>absurd rfl h,?_,fun r hr=>?_,af rfl⟩,?_⟩
 ·rw[h];simp only[Option.getD_some,List.length_singleton,List.length_map];omega
 ·rw[hj];simp;omega
 ·unfold iq;rw[hj];simp;omega
 ·unfold iq at hr;simp only[]at hr;rw[hj]at hr;obtain⟨k,hk,rfl⟩:=List.mem_map.1 hr;exact⟨fun x hx=>by rw[List.mem_singleton.1 hx];show eF _;rw[hc (List.mem_range.1 hk)];exact pH _,by rw[Mg rfl]⟩
 ·unfold eY iq;rw[Cz,hj,List.map_map];refine List.ext_getElem de fun k h1 h2=>?_
  simp only[List.getElem_map,List.getElem_range,Function.comp];rw[Mg rfl]
  show[kj T (eU.set 0 k) p 0 0]=_
  rw[hc (by simpa using h2)];rfl
theorem abv (s:Nat):oE T ([],none,[.lit (cT s)])/\eY T ([],none,[.lit (cT s)])=[eQ s]:=by
 refine⟨⟨af rfl,trivial,af rfl,fun h=>absurd rfl h,af rfl,fun r hr=>⟨fun x hx=>by rw[List.mem_singleton.1 hx];exact pH _,by rw[Mg rfl]⟩,af rfl⟩,?_⟩;unfold eY iq gf;rw[Cz,List.map_cons,List.map_nil,Mg rfl];rfl
end
theorem R2 {w:Nat}(π:Nat->Nat):AF (vY.iJ π (aeU w))=wS (π 1180) (π 1002) w:=by
 match w with
 |0=>rfl
 |1=>rfl
 |2=>rfl
 |_+3=>rfl
theorem abe {w s pg:Nat}{es:List (Nat×Nat)}(hw:w<4)(hs:s<12)(hl:es.length<=60)(he:∀e∈es,e.2<12):
  ∀P:Nat->Bool,P s=true->(∀x,P x=true->x<12)->(∀a b,(a,b)∈es->P a=true->P b=true)->(∀C:Nat->Prop,C s->(∀a b,(a,b)∈es->C a->C b)->∀x,P x=true->C x)->
   aey pg (es.map jS) (wCq w s) (((List.range 12).filter P).map eQ):=by
 intro P hP1 hP2 hP3 hP4 π tq w5;have e1:π 1126≠π 1180:=fun e=>absurd ((w5 1126 eS).2 1180 eS e) eS
 have e2:=(w5 1126 eS).1;have e3:=(w5 1180 eS).1;obtain⟨T0,hT0⟩:∃T,T=tbG pg (es.map jS):=⟨_,rfl⟩;have hg0:T0 pg=some (es.map jS):=by rw[hT0];exact bC rfl
 obtain⟨T1,hT1⟩:∃T,T=re (π 1126) ([s].map eQ) T0:=⟨_,rfl⟩;have UP:T1 (π 1126)=some ([s].map eQ):=by rw[hT1];exact bC rfl
 have hg1:T1 pg=some (es.map jS):=by rw[hT1];unfold re;rw[bS aj];exact hg0
 have ak8:∀e∈es,e.2<99:=fun e h=>by have :=he e h;omega
 have wu:∀fs:List Nat,fs.length<=12->oE (re (π 1180) (fs.map eQ) T1) (wS (π 1180) pg w)/\∀y,y∈eY (re (π 1180) (fs.map eQ) T1) (wS (π 1180) pg w)↔∃n∈fs,∃b,(n,b)∈es/\y=eQ b:=fun fs hf=>
  aeV hw (bC rfl) (by unfold re;rw[bS aj];exact hg1) (by
   calc fs.length*es.length<=12*60:=Nat.mul_le_mul hf hl
    _<=1000:=by decide) aj aj ak8
 obtain⟨res,r1,r2,r3,r4,r5,r6⟩:=P7 (T:=fun f=>re (π 1180) f T1) (SM:=wS (π 1180) pg w) he wu 20 1 [s] [s] de (List.nodup_cons.2 ⟨fun h=>(by cases h),List.nodup_nil⟩) (fun x hx=>by rw[List.mem_singleton.1 hx];exact hs) (fun x h=>h) de (fun _=>by simp) (fun x hx hn=>absurd hx hn);obtain⟨c1,c2⟩:=SL (T:=T1) UP de;obtain⟨l1,l2⟩:=abv (T:=T0) s;have hn1:od false [] (eY T1 ([(π 1126,none)],none,[.jO (π 1126) 0 0]))=[s].map eQ:=by rw[c2];rfl
 have hr:re (π 1180) (res.map eQ) T1 (π 1180)=some (res.map eQ):=bC rfl;have UQ:=rC r2 r3;obtain⟨d1,d2⟩:=SL hr aj;have qC:(res.map eQ).Perm (((List.range 12).filter P).map eQ):=by
  refine List.Perm.map _ ((List.perm_ext_iff_of_nodup r2 (List.nodup_range.filter _)).2 fun x=>?_);rw[List.mem_filter,List.mem_range];exact⟨fun h=>⟨r3 x h,r6 (fun x=>P x=true) (fun y hy=>by rw[List.mem_singleton.1 hy];exact hP1) hP3 x h⟩,fun h=>hP4 (·∈res) (r4 s (.head _)) (fun a b h1 h2=>r5 a h2 b h1) x h.2⟩
 have adg:(sg.iJ π (wCq w s)).parts.map EU=[(π 1126,false,(([],none,[.lit (cT s)]),[])),(π 1180,true,(([(π 1126,none)],none,[.jO (π 1126) 0 0]),[(false,wS (π 1180) pg w)]))]:=by
  rw[<-tq,<-R2];rfl
 have CO:AF (vY.iJ π (wCq w s).b.first)=([(π 1180,none)],none,[.jO (π 1180) 0 0]):=rfl;have hT:re (π 1126) (eY T0 ([],none,[.lit (cT s)])) T0=T1:=by rw[l2];exact hT1.symm
 rw[<-hT0,adg,CO];refine⟨_,.one l1 (by rw[l2];simp) ?_,d1,?_,?_⟩
 ·rw[hT];exact .rnd (res:=res.map eQ) c1 (fun _ y hy=>by
   rw[c2]at hy;obtain⟨b,_,rfl⟩:=List.mem_map.1 hy;rfl) (by rw[hn1];simp) (by rw[hn1];exact r1) .nil
 ·rw[d2];exact⟨(fun e=>by
   have :=r4 s (.head _);rw[List.map_eq_nil_iff.1 e]at this;cases this),(by rw[List.length_map];omega),fun x hx=>by
   obtain⟨b,_,rfl⟩:=List.mem_map.1 hx;exact(by decide:1<99999)⟩
 ·rw[d2];exact BK ((xq _).1.trans qC) (xq _).2 (EG P 12)
end Go.AM
namespace Go.AM
set_option maxRecDepth 1000000
open Go Go.Conc Go.Proofs
theorem ajF (b rl rc:Nat)(ra:Option Addr)(s t:ae):gN 17 0 3 [0,1] [.agg #[s,t,.slice ra rl rc,vI 0],vI 0]
 [dN [some s,some t,some (.slice ra rl rc),some (vI 0)] b]
 .normal [1,2,6,7] [vI 0,vP b 0,fE,vI 0]:=jz
theorem ajG (b i rl rc ra xa xc n:Nat)(sv NI u1:ae):dX 17 [3] 0 99 [1,2,6,7] [vI 0,vP b 0,sv,vI i]
 (.mem (aP b 2) (vL ra 0 rl rc)::bP (gB i rl) true:: .mem (aP b 2) (vL ra 0 rl rc):: .idx i rl i:: .mem (aP ra (0+i*1)) (vL xa 0 1 xc)::eE::eE:: .mem (aP b 2) (vL ra 0 rl rc)::eE::eE:: .idx i rl i::eE:: .mem (aP ra (0+i*1)) (vL xa 0 1 xc)::eE:: .idx 0 1 0::eE::eE:: .mem (aP xa 0) (vI 1)::(rp 3 (.bool false) false ([.mem (aP b 2) (vL ra 0 rl rc),
  .idx i rl i,
  .mem (aP ra (0+i*1)) (vL xa 0 1 xc),
  .idx 0 1 0,
  .mem (aP xa 1) (vI n),
  .mem (bh ab 22 1 [(0,(vI n))]) u1,
  .mem (cK ab #[22,22] sv u1) NI])))
 .normal [1,2,6,7] [vI 0,vP b 0,NI,vI (fg i 1)]:=jz
theorem ajE (b i rl rc:Nat)(ra:Option Addr)(sv:ae):dX 17 [3] 0 99 [1,2,6,7] [vI 0,vP b 0,sv,vI i]
 [.mem (aP b 2) (.slice ra rl rc),
  bP (gB i rl) false]
 (.exit 0) [1,6] [vI 0,sv]:=jz
theorem ajH (sv:ae):gN 17 4 99 [1,6] [vI 0,sv]
 []
 .ret [4,5] [sv,.bool true]:=jz
theorem akl:nQ 17 2 [4,5]=true:=aY
theorem TJ:(dZ (cI 17)).length<=99:=af aY
theorem TK:vl 17 [3]:=aY
section
variable {K:gS}{m:Mem}{Ba:Nat->Prop}
theorem c17 (g:Gd m){gR:List KY}{ns:List Nat}{v:ae}(ha:sQ Ba gR (ns.map eQ) 0 m v)(hl:ns.length<9000):
  ∃m' sv,Ev K 17 [v,vI 0] m (.tuple #[sv,.bool true]) m'/\Kp m m' fu/\(aT (jq vI) 1).R (iS m m') (ns.map Int.ofNat) m' sv:=by
 obtain⟨s,t,rv,rfl,a1,a2,BO,BE,La,_⟩:=ha;obtain⟨ra,rc,rfl⟩:=La.form;have YV:(ns.map eQ).length=ns.length:=List.length_map _;obtain⟨m1,e1,o1,k1,n1,_⟩:=aV g [s,t,.slice ra (ns.map eQ).length rc,vI 0];have n1':=k1.next;obtain⟨q,hq⟩:∃b,b=m.next:=⟨_,rfl⟩;rw[<-hq]at e1 o1;have La1:=La.ext k1 fun _ _ h=>h
 obtain⟨t0,w0,e0⟩:=cX (K:=K) (m:=m) (m':=m1) (tm:=entry [.agg #[s,t,.slice ra (ns.map eQ).length rc,vI 0],vI 0])
  (ajF q (ns.map eQ).length rc ra s t) rfl (.mem e1 .nil)
 obtain⟨e,t1,m2,he,zj,rfl,sv,hg,k2,BA,H6,LA⟩:=fL (K:=K) (nt:=j0 17) (a:=iy 17 [3]) ns.length
  (Inv:=fun j tm M=>∃sv,dL [1,2,6,7] tm=[vI 0,vP q 0,sv,vI j]/\Kp m1 M fu/\∃BA:Nat->Prop,(∀b,BA b->m1.next<=b/\b<M.next)/\Bl (jq vI) 1 BA M ((ns.take j).map Int.ofNat) sv)
  (dQ:=fun e tm M=>e= .exit 0/\∃sv,dL [1,6] tm=[vI 0,sv]/\Kp m1 M fu/\∃BA:Nat->Prop,(∀b,BA b->m1.next<=b/\b<M.next)/\Bl (jq vI) 1 BA M (ns.map Int.ofNat) sv)
  (by
   rintro j tm M hj ⟨sv,hg,k0,BA,H6,LA⟩
   left
   have gM:=(g.ext k1).ext k0;have n0:=k0.next;have pY:j<(ns.map eQ).length:=aj;obtain⟨ra',xa,xc,e3,_,y1,oa⟩:=(La1.ext k0 fun _ _ h=>h).row pY;cases e3;rw[List.getElem_map]at y1 oa;have y1':aP ra' (0+j*1) M=some (vL xa 0 1 xc,M):=by rw[Nat.zero_add,Nat.mul_one];exact y1
   have l2:aP q 2 M=some (vL ra' 0 (ns.map eQ).length cD,M):=aN (o1.aR k0) rfl;have x0:aP xa 0 M=some (vI 1,M):=aN oa rfl;have x1:aP xa 1 M=some (vI (ns[j]:Int),M):=aN oa rfl;obtain⟨m3,m4,NI,e6,g6,k6,e7,k7,L7,wW,n7⟩:=LA.add (t:=22) (x:=(ns[j]:Int)) (v:=vI (ns[j]:Int)) (B':=fu) gM (g.ext k1) k0 rfl eS H6 rfl (fun _ _ h=>h) (fun _ h=>h.elim) ⟨rfl,by simp[ae.cells,ae.oneCell']⟩ (by simp;omega);obtain⟨t2,fO,gp⟩:=bK (K:=K) TK (ajG q j (ns.map eQ).length cD ra' xa xc ns[j] sv NI _) hg
    (.mem l2<| .cond (Jf pY)<| .mem l2<| .idx rfl pY<| .mem y1'<| .cond rfl<| .cond rfl<| .mem l2<| .cond rfl<| .cond rfl<| .idx rfl pY<| .cond rfl<| .mem y1'<| .cond rfl<| .idx rfl eS<| .cond rfl<| .cond rfl<| .mem x0<| .rp rfl<| .mem l2<| .idx rfl pY<| .mem y1'<| .idx rfl eS<| .mem x1<| .mem e6<| .mem e7<| .nil)
   rw[add1 aj]at gp;refine⟨t2,m4,fO,NI,gp,k0.new k7 (N:=m1.next) (ai _) fun b hb=>(H6 b hb).1,fun y=>BA y\/fu y\/y=M.next+1,fun b hb=>?_,?_⟩
   ·rcases hb with hb|hb|hb
    ·have :=H6 b hb;omega
    ·exact hb.elim
    ·omega
   ·rw[List.take_add_one,List.getElem?_eq_getElem hj,List.map_append];exact L7)
  (by
   rintro tm M ⟨sv,hg,k0,BA,H6,LA⟩;have l2:aP q 2 M=some (.slice ra (ns.map eQ).length rc,M):=aN (o1.aR k0) rfl;obtain⟨t2,fO,gp⟩:=bK (K:=K) (m:=M) (m':=M) TK (ajE q ns.length (ns.map eQ).length rc ra sv) hg (.mem l2<| .cond (by rw[YV];exact T9 _) .nil);rw[List.take_length]at LA;exact⟨_,t2,M,lQ,fO,rfl,sv,gp,k0,BA,H6,LA⟩)
  (tm:=t0) (m:=m1) ⟨_,e0,.refl _ _,fu,fun _ h=>h.elim,Bl.nil⟩ aj
 obtain⟨t2,w2,e2⟩:=cX (K:=K) (m:=m2) (m':=m2) (ajH sv) hg .nil;exact⟨m2,sv,iO akl (aU.cut w0 (aU.qz zj (aU.last w2 TJ))) (.inr rfl) e2,k1.aS k2,(aT (jq vI) 1).mono LA.fin fun b hb=>by have :=H6 b hb;exact⟨aj,this.2⟩⟩
end
end Go.AM
namespace Go.AM
set_option maxRecDepth 1000000
open Go Go.Conc Go.Proofs
theorem r5a (ln lc db s q:Nat)(la:Option Addr)(x y:Int):gN 5 0 8 [0,1,2] [.slice la ln lc,vI x,vI y]
 [.call 10 [.slice la ln lc] (vP db 0),
  eE,
  .call 15 [vI x,vI 12] (vI s),
  dN [some (.bool false),some (.bool false),some (.bool false),some (.bool false),some (.bool false),some (.bool false),some (.bool false),some (.bool false),some (.bool false),some (.bool false),some (.bool false),some (.bool false)] q,
  .idx s 12 s,
  .mem (gJ q (0+s*1) (.bool true)) undef]
 .normal [0,2,7,8,9,10] [.slice la ln lc,vI y,vP db 0,vI s,vP q 0,vI 0]:=jz
theorem r5b (ln lc db s q r:Nat)(la:Option Addr)(y:Int):dX 5 [8] 0 2 [0,2,7,8,9,10] [.slice la ln lc,vI y,vP db 0,vI s,vP q 0,vI r]
 [bP (gB r 12) true]
 .normal [0,2,7,8,9,10] [.slice la ln lc,vI y,vP db 0,vI s,vP q 0,vI r]:=jz
theorem ajD (ln lc db s q r:Nat)(la:Option Addr)(y:Int):dX 5 [8] 0 99 [0,2,7,8,9,10] [.slice la ln lc,vI y,vP db 0,vI s,vP q 0,vI r]
 [bP (gB r 12) false]
 (.exit 0) [0,2,7,8,9] [.slice la ln lc,vI y,vP db 0,vI s,vP q 0]:=jz
theorem r5c (ln lc db s q r:Nat)(la:Option Addr)(y:Int):dX 5 [8,2] 0 1 [0,2,7,8,9,10] [.slice la ln lc,vI y,vP db 0,vI s,vP q 0,vI r]
 []
 .normal [0,2,7,8,9,10,11] [.slice la ln lc,vI y,vP db 0,vI s,vP q 0,vI r,vI 0]:=jz
theorem r5n (pl ln lc db s q r j a b:Nat)(x y:Int):dX 5 [8,2,1] 0 99 [0,2,7,8,9,10,11] [vL pl 0 ln lc,vI y,vP db 0,vI s,vP q 0,vI r,vI j]
 ((rp 3 (.bool (gB j ln)) true (bP (gB j 60) true:: .idx j ln j:: .mem (aP pl (0+j*1)) (vI x):: .call 18 [vI x] (.tuple #[vI a,vI b]):: .idx b 12 b:: .mem (aP q (0+b*1)) (.bool true)::(rp 4 (.bool true) true ([.idx b 12 b,
  .mem (gJ q (0+b*1) (.bool true)) undef])))))
 .normal [0,2,7,8,9,10,11] [vL pl 0 ln lc,vI y,vP db 0,vI s,vP q 0,vI r,vI (fg j 1)]:=jz
theorem r5m (pl ln lc db s q r j a b:Nat)(x y:Int)(z:Bool):dX 5 [8,2,1] 0 99 [0,2,7,8,9,10,11] [vL pl 0 ln lc,vI y,vP db 0,vI s,vP q 0,vI r,vI j]
 ((rp 3 (.bool (gB j ln)) true ([bP (gB j 60) true,
  .idx j ln j,
  .mem (aP pl (0+j*1)) (vI x),
  .call 18 [vI x] (.tuple #[vI a,vI b]),
  .idx b 12 b,
  .mem (aP q (0+b*1)) (.bool false),
  eE,
  eE,
  .idx a 12 a,
  eE,
  .mem (aP q (0+a*1)) (.bool z),
  eE,
  .idx b 12 b,
  .mem (gJ q (0+b*1) (.bool z)) undef])))
 .normal [0,2,7,8,9,10,11] [vL pl 0 ln lc,vI y,vP db 0,vI s,vP q 0,vI r,vI (fg j 1)]:=jz
theorem r5o (ln lc db s q r j:Nat)(la:Option Addr)(y:Int):dX 5 [8,2,1] 0 99 [0,2,7,8,9,10,11] [.slice la ln lc,vI y,vP db 0,vI s,vP q 0,vI r,vI j]
 ((rp 3 (.bool (gB j ln)) false ([eE])))
 (.exit 2) [0,2,7,8,9,10] [.slice la ln lc,vI y,vP db 0,vI s,vP q 0,vI r]:=jz
theorem r5p (ln lc db s q r j:Nat)(la:Option Addr)(y:Int):dX 5 [8,2,1] 0 99 [0,2,7,8,9,10,11] [.slice la ln lc,vI y,vP db 0,vI s,vP q 0,vI r,vI j]
 ((rp 3 (.bool (gB j ln)) true ([bP (gB j 60) false])))
 (.exit 2) [0,2,7,8,9,10] [.slice la ln lc,vI y,vP db 0,vI s,vP q 0,vI r]:=jz
theorem r5d (ln lc db s q r:Nat)(la:Option Addr)(y:Int):dX 5 [8] 3 99 [0,2,7,8,9,10] [.slice la ln lc,vI y,vP db 0,vI s,vP q 0,vI r]
 []
 .normal [0,2,7,8,9,10] [.slice la ln lc,vI y,vP db 0,vI s,vP q 0,vI (fg r 1)]:=jz
theorem r5q (db s q w p4 b15:Nat)(y:Int)(sd c1 c2 tw c3 c4:ByteArray)(nv kv rv sv:ae):gN 5 9 16 [2,7,8,9] [vI y,vP db 0,vI s,vP q 0]
 [.mem (bh ab 28 4 [(0,(iF ⟨(nG 0).toArray⟩)),(1,(iF ⟨(nG 1).toArray⟩)),(2,(iF ⟨(nG 2).toArray⟩)),(3,(iF ⟨(nG 3).toArray⟩))]) (vL p4 0 4 4),
  .call 16 [vI s] (iF sd),
  .val (vw ⟨vT.toArray⟩ sd) (iF c1),
  .val (vw c1 ⟨AG.toArray⟩) (iF c2),
  .call 15 [vI y,vI 4] (vI w),
  .idx w 4 w,
  .mem (aP p4 (0+w*1)) (iF tw),
  .val (vw c2 tw) (iF c3),
  .val (vw c3 ⟨EZ.toArray⟩) (iF c4),
  .call 12 [vP db 0,iF c4] (.tuple #[.agg #[nv,kv,rv,vI 0],vI 0,vI 0]),
  dN [some fE,some fE,some fE,some (vI 0)] b15,
  jK b15 0 [nv,kv,rv,vI 0],
  iR 4 b15 (.agg #[nv,kv,rv,vI 0]),
  .call 17 [.agg #[nv,kv,rv,vI 0],vI 0] (.tuple #[sv,.bool true]),
  eE]
 .normal [9,18,20,21] [vP q 0,sv,vI 0,vI 0]:=jz
theorem r5i (q lp ll lc n i:Nat):dX 5 [16] 0 99 [9,18,20,21] [vP q 0,vL lp 0 ll lc,vI n,vI i]
 [bP (gB i 12) true,
  .idx i 12 i,
  .mem (aP q (0+i*1)) (.bool false),
  eE]
 .normal [9,18,20,21] [vP q 0,vL lp 0 ll lc,vI n,vI (fg i 1)]:=jz
theorem r5j (q lp ll lc n i:Nat):dX 5 [16] 0 99 [9,18,20,21] [vP q 0,vL lp 0 ll lc,vI n,vI i]
 (bP (gB i 12) true:: .idx i 12 i:: .mem (aP q (0+i*1)) (.bool true)::oZ::(rp 3 (.bool (EE n ll)) false (.idx n ll n::bP (EE n ll) false:: .mem (aP lp (0+n*1)) (vI i)::(rp 3 (.bool (EE n ll)) false ([bP (tB i i) false])))))
 .normal [9,18,20,21] [vP q 0,vL lp 0 ll lc,vI (fg n 1),vI (fg i 1)]:=jz
theorem r5k (q lp ll lc n i:Nat):dX 5 [16] 0 99 [9,18,20,21] [vP q 0,vL lp 0 ll lc,vI n,vI i]
 [bP (gB i 12) false]
 (.exit 4) [18,20] [vL lp 0 ll lc,vI n]:=jz
theorem r5e (lp ll lc n:Nat):gN 5 17 99 [18,20] [vL lp 0 ll lc,vI n]
 []
 .ret [6] [.bool (dd n ll)]:=jz
theorem ok5:nQ 5 3 [6]=true:=aY
theorem Yc:(dZ (cI 5)).length<=99:=af aY
theorem aak:vl 5 [8]:=aY
theorem LW:vl 5 [16]:=aY
theorem uX:vl 5 [8,2,1]:=aY
theorem ZJ:oV (iy 5 [8]) 2=some (1,(iy 5 [8,2])):=aY
theorem ZI:sL (j0 5) (iy 5 [8]) (iy 5 [8,2]) 2 1=true:=aY
def Gs (P:Nat->Bool)(e:Nat×Nat):Nat->Bool:=fun i=>if i=e.2 then P e.2||P e.1 else P i
def v8 (es:List (Nat×Nat))(P:Nat->Bool):Nat->Bool:=es.foldl Gs P
def Ah (es:List (Nat×Nat))(s:Nat):Nat->Nat->Bool
 |0=>fun i=>decide (i=s)
 |k+1=>v8 es (Ah es s k)
theorem Ir {P:Nat->Bool}{e:Nat×Nat}{x:Nat}(h:P x=true):Gs P e x=true:=by
 unfold Gs
 split
 ·rename_i e;rw[<-e,h];rfl
 ·exact h
theorem xy:∀{es:List (Nat×Nat)} {P:Nat->Bool}{x:Nat},P x=true->v8 es P x=true
 | [],_,_,h=>h
 |_::es,_,_,h=>xy (es:=es) (Ir h)
theorem IG:∀{es:List (Nat×Nat)} {P:Nat->Bool}{a b:Nat},(a,b)∈es->P a=true->v8 es P b=true
 |e::es,P,a,b,hm,h=>by
  rcases aI.1 hm with rfl|hm
  ·refine xy (es:=es) ?_
   show(if b=b then P b||P a else P b)=true
   rw[bC rfl,h,Bool.or_true]
  ·exact IG (es:=es) hm (Ir h)
theorem NU {C:Nat->Prop}:∀{es:List (Nat×Nat)} {P:Nat->Bool},(∀a b,(a,b)∈es->C a->C b)->(∀x,P x=true->C x)->∀x,v8 es P x=true->C x
 | [],_,_,h=>h
 |e::es,P,hc,h=>NU (es:=es) (fun a b hm=>hc a b (.tail _ hm)) fun x hx=>by
  unfold Gs at hx
  split at hx
  ·rename_i he;rw[he];rcases Bool.or_eq_true_iff.1 hx with hx|hx
   ·exact h _ hx
   ·exact hc e.1 e.2 (.head _) (h _ hx)
  ·exact h _ hx
theorem NV:∀{es:List (Nat×Nat)} {P:Nat->Bool},(∀a b,(a,b)∈es->P a=true->P b=true)->v8 es P=P
 | [],_,_=>rfl
 |e::es,P,h=>by
  have h1:Gs P e=P:=by
   funext i
   unfold Gs
   split
   ·rename_i he;rw[he];cases h2:P e.1 with
    |false=>rw[Bool.or_false]
    |true=>rw[Bool.or_true,h e.1 e.2 (.head _) h2]
   ·rfl
  show v8 es (Gs P e)=P
  rw[h1];exact NV fun a b hm=>h a b (.tail _ hm)
theorem VN {P Q:Nat->Bool}(h:∀x,P x=true->Q x=true):∀l:List Nat,(l.filter P).length<=(l.filter Q).length
 | []=>ai _
 |x::l=>by
  have :=VN h l;rw[List.filter_cons,List.filter_cons];cases h1:P x with
  |true=>rw[h x h1,bC rfl,bC rfl];simp;omega
  |false=>rw[bS de];split<;>simp <;>omega
theorem cnt_lt {P Q:Nat->Bool}(h:∀x,P x=true->Q x=true):∀{l:List Nat}{b:Nat},b∈l->P b=false->Q b=true->(l.filter P).length<(l.filter Q).length
 |x::l,b,hm,h1,h2=>by
  rw[List.filter_cons,List.filter_cons];rcases aI.1 hm with rfl|hm
  ·have :=VN h l;rw[h1,h2,bS de,bC rfl];simp;omega
  ·have :=cnt_lt h hm h1 h2;cases h3:P x with
   |true=>rw[h x h3,bC rfl,bC rfl];simp;omega
   |false=>rw[bS de];split<;>simp <;>omega
theorem UA {es:List (Nat×Nat)}{s:Nat}(hs:s<12)(he:∀e∈es,e.2<12):
  ∀k,Ah es s k s=true/\(∀x,Ah es s k x=true->x<12)/\(∀C:Nat->Prop,C s->(∀a b,(a,b)∈es->C a->C b)->∀x,Ah es s k x=true->C x)/\
   ((∀a b,(a,b)∈es->Ah es s k a=true->Ah es s k b=true)\/k+1<=((List.range 12).filter (Ah es s k)).length)
 |0=>by
  refine⟨by simp[Ah],fun x hx=>?_,fun C h1 _ x hx=>?_,.inr ?_⟩
  ·have :x=s:=by simpa[Ah]using hx
   omega
  ·have :x=s:=by simpa[Ah]using hx
   rw[this];exact h1
  ·exact List.length_pos_iff.2 fun e=>by
    have :s∈(List.range 12).filter (Ah es s 0):=List.mem_filter.2 ⟨List.mem_range.2 hs,by simp[Ah]⟩;rw[e]at this;cases this
 |k+1=>by
  obtain⟨h1,h2,h3,h4⟩:=UA hs he k;have h3':∀C:Nat->Prop,C s->(∀a b,(a,b)∈es->C a->C b)->∀x,Ah es s (k+1) x=true->C x:=fun C c1 c2=>NU c2 (h3 C c1 c2)
  refine⟨xy h1,h3' (·<12) hs fun a b hm _=>he _ hm,h3',?_⟩
  by_cases hc:∀a b,(a,b)∈es->Ah es s k a=true->Ah es s k b=true
  ·left
   show∀a b,(a,b)∈es->v8 es (Ah es s k) a=true->v8 es (Ah es s k) b=true
   rw[NV hc];exact hc
  ·right
   have h4:=h4.resolve_left hc;obtain⟨a,hc⟩:=Classical.not_forall.1 hc;obtain⟨b,hc⟩:=Classical.not_forall.1 hc;obtain⟨hm,hc⟩:=Classical.not_imp.1 hc;obtain⟨ha,hb⟩:=Classical.not_imp.1 hc;have :=cnt_lt (P:=Ah es s k) (Q:=Ah es s (k+1)) (l:=List.range 12) (fun x hx=>xy hx) (List.mem_range.2 (he _ hm)) (by simpa using hb) (IG hm ha);omega
theorem QD {es:List (Nat×Nat)}{s:Nat}(hs:s<12)(he:∀e∈es,e.2<12):∀a b,(a,b)∈es->Ah es s 12 a=true->Ah es s 12 b=true:=
 (UA hs he 12).2.2.2.resolve_right fun h=>by
  have :=List.length_filter_le (Ah es s 12) (List.range 12);rw[List.length_range]at this;omega
def sw (P:Nat->Bool):List ae:=(List.range 12).map fun i=> .bool (P i)
theorem Cc {P:Nat->Bool}{i:Nat}(h:i<12):(sw P)[i]?=some (.bool (P i)):=by
 unfold sw;rw[List.getElem?_map,List.getElem?_range h];rfl
theorem Cb {P:Nat->Bool}:(sw P).length=12:=by unfold sw;simp
theorem Jd {P:Nat->Bool}{b:Nat}(z:Bool):(sw P).set b (.bool z)=sw fun i=>if i=b then z else P i:=by
 refine List.ext_getElem (by simp[Cb]) fun k h1 h2=>?_
 simp only[List.getElem_set,sw,List.getElem_map,List.getElem_range]
 by_cases e:b=k
 ·rw[bC e,bC e.symm]
 ·rw[bS e,bS fun h=>e h.symm]
theorem QV {P:Nat->Bool}{i:Nat}(hi:i<12)(h:P i=true):((List.range 12).filter P)[((List.range i).filter P).length]?=some i:=by
 have e:List.range 12=List.range i++i::(List.range (12-(i+1))).map (i+1+·):=by
  have h1:=List.range_add (n:=i+1) (m:=12-(i+1));rw[show i+1+(12-(i+1))=12 by omega,List.range_succ (n:=i)]at h1;rw[h1,List.append_assoc];rfl
 rw[e,List.filter_append,List.filter_cons,bC h,List.getElem?_append_right (ai _),Nat.sub_self];rfl
theorem vA.ext{B S:Nat->Prop}{m m':Mem}{xs:List Int}{v:ae}(h:vA B xs m v)(k:Kp m m' S)(hs:∀b,B b->¬S b):vA B xs m' v:=h.imp id fun h=>(aT (jq vI) 1).ext h k hs
end Go.AM
namespace Go.AM
set_option maxRecDepth 1000000
open Go Go.Conc Go.Proofs
section
variable {K:gS}{m:Mem}{BX:Nat->Prop}
theorem YI {xs:List Int}{la:Option Addr}{lc db q s r:Nat}{y:Int}{P:Nat->Bool}{t0:Tm}(hx:vA BX xs m (.slice la xs.length lc))(ky:∀x∈xs,FC x)(hB:∀b,BX b->b≠q)(hw:Own m q)(ob:Obj m q 0 (sw P))(h0:dL [0,2,7,8,9,10,11] t0=[.slice la xs.length lc,vI y,vP db 0,vI (s:Int),vP q 0,vI (r:Int),vI 0]):
  ∃t1 m1,ET K (j0 5) (iy 5 [8,2,1]) 100000 ⟨t0,m,[]⟩ (.exit 2) ⟨t1,m1,[]⟩/\dL [0,2,7,8,9,10] t1=[.slice la xs.length lc,vI y,vP db 0,vI s,vP q 0,vI r]/\Kp m m1 (fun b=>b=q)/\Obj m1 q 0 (sw (v8 ((xs.take 60).map jI) P)):=by
 obtain⟨e,t1,m1,he,zj,rfl,hg,k1,o1⟩:=fL (K:=K) (nt:=j0 5) (a:=iy 5 [8,2,1]) (min xs.length 60)
  (Inv:=fun j tm M=>dL [0,2,7,8,9,10,11] tm=[.slice la xs.length lc,vI y,vP db 0,vI s,vP q 0,vI r,vI j]/\Kp m M (fun b=>b=q)/\Obj M q 0 (sw (v8 ((xs.take j).map jI) P)))
  (dQ:=fun e tm M=>e= .exit 2/\dL [0,2,7,8,9,10] tm=[.slice la xs.length lc,vI y,vP db 0,vI s,vP q 0,vI r]/\Kp m M (fun b=>b=q)/\Obj M q 0 (sw (v8 ((xs.take 60).map jI) P)))
  (by
   rintro j tm M hj ⟨hg,KM,oM⟩
   left
   have KN:j<xs.length:=aj;obtain⟨pl,c',ex,lx⟩:=(hx.ext KM hB).ld KN;cases ex;obtain⟨a,b,MJ⟩:∃a b,jI xs[j]=(a,b):=⟨_,_,rfl⟩;have cC:=C' xs[j];have e18:=c18 (K:=K) (m:=M) (ky _ (List.getElem_mem KN));rw[MJ]at cC e18;have ha:a<12:=cC.1;have hb:b<12:=cC.2;obtain⟨Q,hQ⟩:∃Q,Q=v8 ((xs.take j).map jI) P:=⟨_,rfl⟩;rw[<-hQ]at oM;have hn:v8 ((xs.take (j+1)).map jI) P=Gs Q (a,b):=by
    rw[List.take_add_one,List.getElem?_eq_getElem KN,List.map_append,hQ];unfold v8;rw[List.foldl_append]
    show Gs _ (jI xs[j])=_
    rw[MJ]
   have lb:aP q (0+b*1) M=some (.bool (Q b),M):=by rw[Nat.zero_add,Nat.mul_one];exact aN oM (Cc hb)
   have lA:aP q (0+a*1) M=some (.bool (Q a),M):=by rw[Nat.zero_add,Nat.mul_one];exact aN oM (Cc ha)
   obtain⟨M2,e2,o2,k2⟩:=iZ (o:=b) (.bool (Q b||Q a)) oM ((hw.ext KM).may _ _) (by rw[Cb];exact hb);have H8:gJ q (0+b*1) (.bool (Q b||Q a)) M=some (undef,M2):=by rw[Nat.zero_add,Nat.mul_one];exact e2
   rw[Jd]at o2;have o2:Obj M2 q 0 (sw (v8 ((xs.take (j+1)).map jI) P)):=by rw[hn];exact o2
   have K2:Kp m M2 (fun b=>b=q):=KM.trans k2 fun _ _ h=>h
   cases hQb:Q b with
   |true=>
    rw[hQb]at lb H8;obtain⟨t2,fO,gp⟩:=bK (K:=K) (m:=M) (m':=M2) uX (r5n pl xs.length lc db s q r j a b xs[j] y) hg (.rp (Jf KN)<| .cond (dT (Qu (j:=60)))<| .idx rfl KN<| .mem lx<| .call e18<| .idx rfl hb<| .mem lb<| .rp rfl<| .idx rfl hb<| .mem H8 .nil);rw[add1 aj]at gp;exact⟨t2,M2,fO,gp,K2,o2⟩
   |false=>
    rw[hQb]at lb H8;obtain⟨t2,fO,gp⟩:=bK (K:=K) (m:=M) (m':=M2) uX (r5m pl xs.length lc db s q r j a b xs[j] y (Q a)) hg (.rp (Jf KN)<| .cond (dT (Qu (j:=60)))<| .idx rfl KN<| .mem lx<| .call e18<| .idx rfl hb<| .mem lb<| .cond rfl<| .cond rfl<| .idx rfl ha<| .cond rfl<| .mem lA<| .cond rfl<| .idx rfl hb<| .mem H8 .nil);rw[add1 aj]at gp;exact⟨t2,M2,fO,gp,K2,o2⟩)
  (by
   rintro tm M ⟨hg,KM,oM⟩
   by_cases h:xs.length<=60
   ·rw[Nat.min_eq_left h]at hg oM;rw[List.take_length]at oM;obtain⟨t2,fO,gp⟩:=bK (K:=K) (m:=M) (m':=M) uX (r5o xs.length lc db s q r xs.length la y) hg (.rp (T9 _)<| .cond rfl .nil);exact⟨_,t2,M,lQ,fO,rfl,gp,KM,by rw[List.take_of_length_le h];exact oM⟩
   ·rw[Nat.min_eq_right aj]at hg oM;obtain⟨t2,fO,gp⟩:=bK (K:=K) (m:=M) (m':=M) uX (r5p xs.length lc db s q r 60 la y) hg (.rp (Jf aj)<| .cond (dF (Qu (j:=60))) .nil);exact⟨_,t2,M,lQ,fO,rfl,gp,KM,oM⟩)
  (tm:=t0) (m:=m) ⟨h0,.refl _ _,ob⟩ aj
 exact⟨t1,m1,zj,hg,k1,o1⟩
theorem Tr {xs:List Int}{la:Option Addr}{lc db q s:Nat}{y:Int}{t0:Tm}(hx:vA BX xs m (.slice la xs.length lc))(ky:∀x∈xs,FC x)(hB:∀b,BX b->b≠q)(hw:Own m q)(ob:Obj m q 0 (sw fun i=>decide (i=s)))(h0:dL [0,2,7,8,9,10] t0=[.slice la xs.length lc,vI y,vP db 0,vI (s:Int),vP q 0,vI 0]):
  ∃t1 m1,ET K (j0 5) (iy 5 [8]) 100000 ⟨t0,m,[]⟩ (.exit 0) ⟨t1,m1,[]⟩/\dL [0,2,7,8,9] t1=[.slice la xs.length lc,vI y,vP db 0,vI s,vP q 0]/\Kp m m1 (fun b=>b=q)/\Obj m1 q 0 (sw (Ah ((xs.take 60).map jI) s 12)):=by
 obtain⟨e,t1,m1,he,zj,rfl,hg,k1,o1⟩:=fL (K:=K) (nt:=j0 5) (a:=iy 5 [8]) 12
  (Inv:=fun r tm M=>dL [0,2,7,8,9,10] tm=[.slice la xs.length lc,vI y,vP db 0,vI s,vP q 0,vI r]/\Kp m M (fun b=>b=q)/\Obj M q 0 (sw (Ah ((xs.take 60).map jI) s r)))
  (dQ:=fun e tm M=>e= .exit 0/\dL [0,2,7,8,9] tm=[.slice la xs.length lc,vI y,vP db 0,vI s,vP q 0]/\Kp m M (fun b=>b=q)/\Obj M q 0 (sw (Ah ((xs.take 60).map jI) s 12)))
  (by
   rintro r tm M hr ⟨hg,KM,oM⟩
   left
   obtain⟨ta,wa,ea⟩:=cX (K:=K) (m:=M) (m':=M) (r5b xs.length lc db s q r la y) hg (.cond (dT (Qu (j:=12)) hr) .nil);obtain⟨tb,wb,eb⟩:=cX (K:=K) (m:=M) (m':=M) (r5c xs.length lc db s q r la y) ea .nil;obtain⟨tc,M2,hxc,ec,k2,o2⟩:=YI (K:=K) (hx.ext KM hB) ky hB (hw.ext KM) oM eb;obtain⟨td,wd,ed⟩:=cX (K:=K) (m:=M2) (m':=M2) (r5d xs.length lc db s q r la y) ec .nil;rw[add1 aj]at ed;exact⟨td,M2,(aU.cut wa (aU.VW ZJ ZI (aU.cut wb (aU.qz hxc (aU.done (af aY)))) (.inl rfl) (aU.last wd (af aY)))).code aak,ed,KM.trans k2 fun _ _ h=>h,o2⟩)
  (by
   rintro tm M ⟨hg,KM,oM⟩;obtain⟨t2,fO,gp⟩:=bK (K:=K) (m:=M) (m':=M) aak (ajD xs.length lc db s q 12 la y) hg (.cond (dF (Qu (j:=12)) aj) .nil);exact⟨_,t2,M,lQ,fO,rfl,gp,KM,oM⟩)
  (tm:=t0) (m:=m) ⟨h0,.refl _ _,ob⟩ aj
 exact⟨t1,m1,zj,hg,k1,o1⟩
theorem VO {P:Nat->Bool}{q lp lc:Nat}{t0:Tm}(ob:Obj m q 0 (sw P))(hl:∀n (h:n<((List.range 12).filter P).length),aP lp (0+n*1) m=some (vI (((List.range 12).filter P)[n]:Int),m))(h0:dL [9,18,20,21] t0=[vP q 0,vL lp 0 ((List.range 12).filter P).length lc,vI 0,vI 0]):
  ∃t1,ET K (j0 5) (iy 5 [16]) 100000 ⟨t0,m,[]⟩ (.exit 4) ⟨t1,m,[]⟩/\dL [18,20] t1=[vL lp 0 ((List.range 12).filter P).length lc,vI (((List.range 12).filter P).length:Int)]:=by
 obtain⟨l,hL⟩:∃l,l=(List.range 12).filter P:=⟨_,rfl⟩;rw[<-hL]at hl h0⊢;have amZ:l.length<=12:=by
  have :=List.length_filter_le P (List.range 12);rw[List.length_range]at this;rw[hL];exact this
 obtain⟨e,t1,m1,he,zj,rfl,rfl,hg⟩:=fL (K:=K) (nt:=j0 5) (a:=iy 5 [16]) 12
  (Inv:=fun i tm M=>M=m/\dL [9,18,20,21] tm=[vP q 0,vL lp 0 l.length lc,vI (((List.range i).filter P).length:Int),vI i])
  (dQ:=fun e tm M=>e= .exit 4/\M=m/\dL [18,20] tm=[vL lp 0 l.length lc,vI (l.length:Int)])
  (by
   rintro i tm M hi ⟨rfl,hg⟩
   left
   have li:aP q (0+i*1) M=some (.bool (P i),M):=by rw[Nat.zero_add,Nat.mul_one];exact aN ob (Cc hi)
   obtain⟨n,hn⟩:∃n,n=((List.range i).filter P).length:=⟨_,rfl⟩;rw[<-hn]at hg;have hs:((List.range (i+1)).filter P).length=n+(if P i then 1 else 0):=by
    rw[List.range_succ,List.filter_append,List.length_append,hn,List.filter_cons];cases P i<;>rfl
   rw[hs];cases hP:P i with
   |false=>
    rw[hP]at li;obtain⟨t2,fO,gp⟩:=bK (K:=K) (m:=M) (m':=M) LW (r5i q lp l.length lc n i) hg (.cond (dT (Qu (j:=12)) hi)<| .idx rfl hi<| .mem li<| .cond rfl .nil);rw[add1 aj]at gp;exact⟨t2,M,fO,rfl,gp⟩
   |true=>
    rw[hP]at li;have KS:=QV hi hP;rw[<-hL,<-hn]at KS;obtain⟨YV,hv⟩:=List.getElem?_eq_some_iff.1 KS;have ln:=hl n YV;rw[hv]at ln;have gF:(.bool (EE n (l.length:Int)):ae)= .bool false:=dF geN aj;obtain⟨t2,fO,gp⟩:=bK (K:=K) (m:=M) (m':=M) LW (r5j q lp l.length lc n i) hg (.cond (dT (Qu (j:=12)) hi)<| .idx rfl hi<| .mem li<| .cond rfl<| .rp gF<| .idx rfl YV<| .cond gF<| .mem ln<| .rp gF<| .cond (by rw[tY,w9 de]) .nil);rw[add1 aj,add1 aj]at gp;exact⟨t2,M,fO,rfl,gp⟩)
  (by
   rintro tm M ⟨rfl,hg⟩;rw[<-hL]at hg;obtain⟨t2,fO,gp⟩:=bK (K:=K) (m:=M) (m':=M) LW (r5k q lp l.length lc l.length 12) hg (.cond (dF (Qu (j:=12)) aj) .nil);exact⟨_,t2,M,lQ,fO,rfl,rfl,gp⟩)
  (tm:=t0) (m:=m) ⟨rfl,h0⟩ aj
 exact⟨t1,zj,hg⟩
end
end Go.AM
namespace Go.AM
set_option maxRecDepth 1000000
open Go Go.Conc Go.Proofs
def tW (w s:Nat):List UInt8:=vT++jN s++AG++nG w++EZ
theorem R6 (w:Nat):(nG w).length<=99:=by
 match w with
 |0=>exact af rfl
 |1=>exact af rfl
 |2=>exact af rfl
 |_+3=>exact af rfl
def WO:List ae:=[.string ⟨(nG 0).toArray⟩,.string ⟨(nG 1).toArray⟩,.string ⟨(nG 2).toArray⟩,.string ⟨(nG 3).toArray⟩]
theorem R5 {w:Nat}(h:w<4):WO[w]?=some (.string ⟨(nG w).toArray⟩):=by
 rcases Er h with rfl|rfl|rfl|rfl<;>rfl
theorem wsv {w:Nat}(hw:w<4)(s lo:Nat):∃rc pa pn pc xi xs xw xu,bL (sh lo) 20 (wD w s).sv= .agg #[.bool rc,.slice pa pn pc,xi,xs,xw,xu]/\bL (sh lo) 20 (.iface 108 (wD w s).sv)= .iface 108 (.agg #[.bool rc,.slice pa pn pc,xi,xs,xw,xu])/\([.bool rc,.slice pa pn pc,xi,xs,xw,xu].all (·.oneCell'))=true:=by
 rcases Er hw with rfl|rfl|rfl|rfl<;>exact⟨_,_,_,_,_,_,_,_,rfl,rfl,rfl⟩
section
variable {K:gS}{m:Mem}{BX:Nat->Prop}
theorem ad4 (a b c d:ByteArray):bh ab 28 4 [(0,.string a),(1,.string b),(2,.string c),(3,.string d)] m=some (vL m.next 0 4 4,m.alloc {kind:=1,sz:=1,cs:=[some (.string a),some (.string b),some (.string c),some (.string d)]}):=aY
theorem aee (KP:∀w s,w<4->s<12->CkP K (wD w s))(RI:∀w s,w<4->s<12->ZP K ⟨(tW w s).toArray⟩ (wD w s).A (.iface 108 (wD w s).sv))(hK:AY K)(cm:Calm m)(hG:Gl m){W:Nat->Prop}{db mp pe pg cg q s:Nat}{y:Int}{es:List (Nat×Nat)}{P:Nat->Bool}(hs:s<12)(hy:FC y)(he:∀e∈es,e.2<12)(hel:es.length<=60)
  (hP1:P s=true)(hP2:∀x,P x=true->x<12)(hP3:∀a b,(a,b)∈es->P a=true->P b=true)(hP4:∀C:Nat->Prop,C s->(∀a b,(a,b)∈es->C a->C b)->∀x,P x=true->C x)
  (rA:uN m db mp)(hh:m.home<=db)(D:Ie W m mp pe pg cg (es.map jS))(Hi:¬W db){t0:Tm}(h0:dL [2,7,8,9] t0=[vI y,vP db 0,vI (s:Int),vP q 0]):
  ∃t1 m1 sv,DZ K (j0 5) (EI (cI 5) 9 16) ⟨t0,m,[]⟩ .normal ⟨t1,m1,[]⟩/\dL [9,18,20,21] t1=[vP q 0,sv,vI 0,vI 0]/\Kp m m1 (fun y=>y=db)/\(aT (jq vI) 1).R (iS m m1) (((List.range 12).filter P).map Int.ofNat) m1 sv:=by
 obtain⟨w,hw⟩:∃w,w=sW y 4:=⟨_,rfl⟩;have hw4:w<4:=by rw[hw];exact Nat.mod_lt _ eS
 have e15:∀M,Ev K 15 [vI y,vI 4] M (vI w) M:=fun M=>by
  rw[hw];exact c15 (K:=K) (n:=4) hy eS
 obtain⟨o1,k1,n1⟩:=gC cm.gd (k:={kind:=1,sz:=1,cs:=WO.map some}) (cs:=WO) rfl rfl rfl;have e1:=ad4 (m:=m) ⟨(nG 0).toArray⟩ ⟨(nG 1).toArray⟩ ⟨(nG 2).toArray⟩ ⟨(nG 3).toArray⟩;obtain⟨m1,YX⟩:∃m1,m1=m.alloc {kind:=1,sz:=1,cs:=WO.map some}:=⟨_,rfl⟩;rw[<-YX]at o1 k1 n1;have e1:bh ab 28 4 [(0,.string ⟨(nG 0).toArray⟩),(1,.string ⟨(nG 1).toArray⟩),(2,.string ⟨(nG 2).toArray⟩),(3,.string ⟨(nG 3).toArray⟩)] m=some (vL m.next 0 4 4,m1):=by rw[YX];exact e1
 obtain⟨m2,e2,k2⟩:=c16 (K:=K) s (cm.ext k1).gd aj;have K2:=k1.aS k2;have n2:=k2.next;have lw:aP m.next (0+w*1) m2=some (.string ⟨(nG w).toArray⟩,m2):=by rw[Nat.zero_add,Nat.mul_one];exact aN (o1.aR k2) (R5 hw4)
 have ds:=Hx hs;have dw:=R6 w;have v1:=sK (l:=vT) (r:=jN s) (by simp[vT];omega);have v2:=sK (l:=vT++jN s) (r:=AG) (by simp[vT,AG];omega);have v3:=sK (l:=vT++jN s++AG) (r:=nG w) (by simp[vT,AG];omega);have v4:=sK (l:=vT++jN s++AG++nG w) (r:=EZ) (by simp[vT,AG,EZ];omega);have Qj:uN m2 db mp:=⟨rA.1.aR K2,by rw[K2.base];exact rA.2⟩;obtain⟨v,m3,e3,k3,agZ,A3⟩:=amt (K:=K) hK (KP w s hw4 hs) (aeT hw4 hs) (cm.ext K2) (hG.aR K2) Qj (by rw[K2.home];exact hh) (RI w s hw4 hs) (D.ext K2 fun _ _ h=>h) Hi (abe hw4 hs hel he P hP1 hP2 hP3 hP4) (LF (by rw[List.length_map];exact cp (List.length_filter_le _ _) (Nat.le_of_eq List.length_range))) (wsv hw4 s);have K3:Kp m m3 (fun y=>y=db):=K2.tA.trans k3 fun _ _ h=>h
 have n3:=k3.next;obtain⟨nv,kv,rv,rfl,q1,q2,BO,BE,q3,q4⟩:=A3;have hy4:([nv,kv,rv,vI 0].all (·.oneCell'))=true:=by
  obtain⟨_,_,e⟩:=q3.form;subst e;simp[(aT.kI q1).2,(aT.kI q2).2];exact⟨rfl,rfl⟩
 obtain⟨m4,m5,e4,e5,o5,k5,n5⟩:=iX (cm.ext K3).gd [.slice none 0 0,.slice none 0 0,.slice none 0 0,vI 0] [nv,kv,rv,vI 0] rfl hy4;have A5:sQ (iS m2 m3) (wCq w s).gR (((List.range 12).filter P).map eQ) 0 m5 (.agg #[nv,kv,rv,vI 0]):=sQ.ext ⟨nv,kv,rv,rfl,q1,q2,BO,BE,q3,q4⟩ k5 fun _ _ h=>h
 have l5:eW 4 m3.next 0 m5=some (.agg #[nv,kv,rv,vI 0],m5):=bW (vs:=[nv,kv,rv,vI 0]) o5 rfl (af rfl);have hl:=List.length_filter_le P (List.range 12);rw[List.length_range]at hl;have K5:=K3.aS k5;obtain⟨m6,sv,e6,k6,L6⟩:=c17 (K:=K) (cm.ext K5).gd A5 aj;have n5':=k5.next;have n6:=k6.next;obtain⟨t1,w1,g1⟩:=cX (K:=K) (m:=m) (m':=m6) (tm:=t0) (r5q db s q w m.next m3.next y ⟨(jN s).toArray⟩ ⟨(vT++jN s).toArray⟩ ⟨(vT++jN s++AG).toArray⟩ ⟨(nG w).toArray⟩ ⟨(vT++jN s++AG++nG w).toArray⟩ ⟨(tW w s).toArray⟩ nv kv rv sv) h0
  (.mem e1<| .call e2<| .val v1<| .val v2<| .call (e15 m2)<| .idx rfl hw4<| .mem lw<| .val v3<| .val v4<| .call e3<| .mem e4<| .mem e5<| .mem l5<| .call e6<| .cond rfl .nil)
 exact⟨t1,m6,sv,w1,g1,K5.aS k6,(aT (jq vI) 1).mono L6 fun b hb=>⟨by have :=hb.1;omega,hb.2⟩⟩
set_option maxHeartbeats 1000000 in
theorem c5(hB:GK K)(KP:∀w s,w<4->s<12->CkP K (wD w s))(RI:∀w s,w<4->s<12->ZP K ⟨(tW w s).toArray⟩ (wD w s).A (.iface 108 (wD w s).sv))(cm:Calm m)(hG:Gl m){xs:List Int}{xv:ae}{x y:Int}(hx:vA BX xs m xv)(hBX:∀b,BX b->b<m.next)(ky:∀x∈xs,FC x)(hi:FC x)(hy:FC y):
  ∃m',Ev K 5 [xv,vI x,vI y] m (.bool true) m'/\Calm m':=by
 obtain⟨la,lc,hxv⟩:=hx.form;subst hxv;obtain⟨s,hs⟩:∃s,s=sW x 12:=⟨_,rfl⟩;have QJ:s<12:=by rw[hs];exact Nat.mod_lt _ eS
 obtain⟨m1,db,mp,pe,pg,cg,W,MT,k1,Qk,D1,ald,w5,jH⟩:=c10 (K:=K) hB cm hG hx ky;have n1:=k1.next;have RJ:=Qk.1.lt;have e15:Ev K 15 [vI x,vI 12] m1 (vI (s:Int)) m1:=by rw[hs];exact c15 (K:=K) (n:=12) hi eS
 obtain⟨q,hq⟩:∃q,q=m1.next:=⟨_,rfl⟩;obtain⟨m2,e2,o2,k2,n2,_⟩:=aV (cm.ext k1).gd (sw fun _=>false);rw[<-hq]at e2 o2;have Mp:Own m2 q:=(cm.ext k1).gd.own k2 aj;obtain⟨m3,e3,o3,k3⟩:=iZ (o:=s) (.bool true) o2 (Mp.may _ _) (by rw[Cb];exact QJ);rw[Jd]at o3;have o3:Obj m3 q 0 (sw fun i=>decide (i=s)):=by
  have :(fun i=>if i=s then true else false)=fun i=>decide (i=s):=funext fun i=>by by_cases h:i=s<;>simp[h]
  rw[<-this];exact o3
 have e3:gJ q (0+s*1) (.bool true) m2=some (undef,m3):=by rw[Nat.zero_add,Nat.mul_one];exact e3
 obtain⟨t0,w0,g0⟩:=cX (K:=K) (m:=m) (m':=m3) (tm:=entry [.slice la xs.length lc,vI x,vI y]) (r5a xs.length lc db s q la x y) rfl (.call MT<| .cond rfl<| .call e15<| .mem e2<| .idx rfl QJ<| .mem e3 .nil);have k23:Kp m1 m3 (fun b=>b=q):=k2.tA.trans k3 fun _ _ h=>h
 have jG:Kp m m3 fu:=k1.new k23 (N:=m.next) (ai _) fun b hb=>by omega
 have hBq:∀b,BX b->b≠q:=fun b hb=>by have :=hBX b hb;omega
 obtain⟨t1,m4,zj,g1,k4,o4⟩:=Tr (K:=K) (hx.aR jG) ky hBq (Mp.ext k3) o3 g0;obtain⟨es,FH⟩:∃es,es=(xs.take 60).map jI:=⟨_,rfl⟩;rw[<-FH]at D1 o4;have hel:es.length<=60:=by rw[FH,List.length_map,List.length_take];omega
 have he:∀e∈es,e.2<12:=fun e h=>by
  rw[FH]at h;obtain⟨z,_,rfl⟩:=List.mem_map.1 h;exact(C' z).2
 have k14:Kp m1 m4 (fun b=>b=q):=k23.trans k4 fun _ _ h=>h
 have kr:Kp m m4 fu:=jG.new k4 (N:=m.next) (ai _) fun b hb=>by omega
 have KX:=cm.ext kr;have hG4:=hG.aR kr;have hdq:db≠q:=aj;have ako:uN m4 db mp:=⟨Qk.1.ext k14 hdq,by rw[k14.base];exact Qk.2⟩;have hh:=hG.hn;have D4:Ie W m4 mp pe pg cg (es.map jS):=D1.ext k14 fun b hb e=>by have :=D1.lt b hb;omega
 obtain⟨p1,p2,p3,_⟩:=UA QJ he 12;obtain⟨P,hP⟩:∃P,P=Ah es s 12:=⟨_,rfl⟩;have p4:=QD QJ he;rw[<-hP]at p1 p2 p3 p4 o4;obtain⟨t2,m5,sv,w2,g2,k5,L5⟩:=aee (K:=K) KP RI hB.fI KX hG4 QJ hy he hel p1 p2 p4 p3 ako (by rw[kr.home];omega) D4 ald (by
  have :=congrArg (fun l=>l.drop 1) g1;exact this)
 have o5:=o4.ext k5 fun e=>hdq e.symm
 have lK:∀k:Int,(vI k).cells.toList=[vI k]:=fun _=>rfl
 have hlen:(((List.range 12).filter P).map Int.ofNat).length=((List.range 12).filter P).length:=List.length_map _;have iL:0<((List.range 12).filter P).length:=List.length_pos_iff.2 fun e=>by
  have :s∈(List.range 12).filter P:=List.mem_filter.2 ⟨List.mem_range.2 QJ,p1⟩;rw[e]at this;cases this
 obtain⟨lp,c,rfl,_⟩:=Hu L5 lK (j:=0) aj;rw[hlen]at g2;obtain⟨t3,hx3,g3⟩:=VO (K:=K) o5 (fun n hn=>by
  obtain⟨lp',c',e,h⟩:=Hu L5 lK (j:=n) aj;cases e;rw[List.getElem_map]at h;exact h) g2
 obtain⟨t4,w4,g4⟩:=cX (K:=K) (m:=m5) (m':=m5) (r5e lp ((List.range 12).filter P).length c ((List.range 12).filter P).length) g3 .nil;rw[uA,vB rfl]at g4;exact⟨m5,iO ok5 (aU.cut w0 (aU.qz zj (aU.cut w2 (aU.qz hx3 (aU.last w4 Yc))))) (.inr rfl) g4,KX.ext k5⟩
end
end Go.AM
namespace Go.AM
set_option maxRecDepth 1000000
open Go Go.Conc Go.ConcM Go.Proofs Go.Proofs.YtgfppohfgconeaaGreatDoor Go.ChangeShapes
noncomputable abbrev CW(M n:Nat):cB:=WM QW NS M n
theorem P1 {R:List gi}{a b:Nat}(ha:a<12)(hb:b<12):GD a b∈BP R:=by
 refine List.mem_append.2 (.inr (List.mem_map.2 ⟨a*12+b,List.mem_range.2 aj,?_⟩))
 show GD ((a*12+b) / 12) ((a*12+b)%12)=_
 rw[show(a*12+b) / 12=a by omega,show(a*12+b)%12=b by omega]
theorem aii {a:Nat}(ha:a<12):dg a=jN a:=by
 have h:((List.range 12).all fun a=>j3 (dg a) (jN a))=true:=aY;exact ly (aB.1 h a (List.mem_range.2 ha))
theorem W9 {w s:Nat}(hs:s<12):(fJ w s).args=[.string ⟨(tW w s).toArray⟩]:=by
 show[ae.string ⟨(vT++dg s++AG++nG w++EZ).toArray⟩]=_
 rw[aii hs];rfl
theorem abg {w:Nat}(hw:w<4)(s:Nat):QG 12 (wA w s)=true:=by
 rcases Er hw with rfl|rfl|rfl|rfl<;>kernel_rfl
theorem alE:GK (KQ rq rm):=⟨acS rq rm,QA rq rm,adS rq rm,LJ rq rm (.head _) rfl rfl rfl,fun a b ha hb=>LJ rq rm (P1 ha hb) (Ys ha hb) rfl rfl,fun a b=>(Pm rq rm _ (.inl ⟨a,b,rfl⟩)).ck⟩
theorem aik {m0 m':Mem}{args:List ae}{v:ae}{f:Nat}(hs:ja f=false)(h:Ev (KQ rq rm) f args m0 v m'):∃M n,(j8 ab X0 f).body (CW M n) args m0=some (v,m'):=by
 obtain⟨N,h⟩:=h;have h:=h N (N+1) (ai _) (Nat.le_succ _);exact⟨N,N,(Pf rq rm N N f args m0 hs).symm.trans h⟩
theorem X6 {xs:List Int}{xv:ae}{x y:Int}{k:dJ}(hk:k.kind<=1)(hx:vA (fun b=>b=12) xs (Cj k) xv)(ky:∀x∈xs,FC x)(hi:FC x)(hy:FC y):∃M n m',(j8 ab X0 5).body (CW M n) [xv,vI x,vI y] (Cj k)=some (.bool true,m')/\m'.deaf=0/\m'.wg=none:=by
 obtain⟨m',h,hc⟩:=c5 (K:=KQ rq rm) (m:=Cj k) alE (fun w s hw _=>Pm rq rm _ (.inr ⟨w,s,hw,rfl⟩)) (fun w s hw hs=>LJ rq rm (SU hw hs) (W9 hs) rfl (abg hw s)) (T7 k) (acI hk) hx (fun b e=>by show b<13;omega) ky hi hy;obtain⟨M,n,h⟩:=aik rfl h;exact⟨M,n,m',h,hc.gd.deaf,hc.wg⟩
theorem X5 {xs:List Int}{v:ae}{b y:Int}{W:au}(hb:FC b)(hy:FC y)(hL:laidMetH ab Rows.reachedRow.laid W)(ha:aeE W xs v)(Fin:ae->au->Prop)
  (aly:∀w',bj (Ya W) W w'->Fin (.bool true) w'):
  ∃M last o w' t',runNT ab (M+1) (solo (G (Frame.enter ab 5 #[v,.int .i64 b,.int .i64 y] .normal) []) W) #[]=(.ended o w',t')/\runN ab M (solo (G (Frame.enter ab 5 #[v,.int .i64 b,.int .i64 y] .normal) []) W)= .next last/\
   step ab last= .ended o w'/\Conc.Good ab Fin last o w' t':=by
 have hL:laidMetH ab Rows.logicRow.laid W:=hL;obtain⟨C,ty,fr,h0,hC,hv⟩:=Ed hL;obtain⟨k,ρ,xv,OV,H,DU,OL,aln⟩:=PV (GA hL) h0 hC hv ha;obtain⟨M,n,m',CO,hd,hw⟩:=X6 OV aln ha.1 hb hy;obtain⟨nt,e1⟩:∃nt,nt=Tryz.f5.ntmps:=⟨_,rfl⟩;have e2:nt<=512:=by rw[e1];exact af aY
 have e3:Tryz.f5.body=some (cI 5):=aY;have hs:(comp ab Tryz.f5.ntmps 1000 (cI 5)).isSome=true:=aY;obtain⟨bR,aaK⟩:=iA.1 hs;have qD:Nat.ble Tryz.f5.ntmps 512=true:=aY;have adB:yp ab X0 Tryz.f5.ntmps Tryz.f5.results.toList bR (CW M n) [xv,.int .i64 b,.int .i64 y] (Cj k)=some (.bool true,m'):=by
  unfold j8 at CO;rw[Tryz.func5]at CO;simp only[e3]at CO;rw[bC qD,aaK]at CO;exact CO
 have RL:fW ab X0 true (Jn Fin) Mv (CW M n):=aim rq rm M n;obtain⟨c,hj⟩:=VE (Fin:=Fin) pd O4 RL Tryz.func5 e3 (by rw[<-e1];exact e2) aaK DU adB hd hw aY;have hJ:=hj #[v,.int .i64 b,.int .i64 y] H ⟨OL,(aF rfl).2 rfl,(aF rfl).2 rfl,trivial⟩ fun bu v' w' H' RH=>by
  have e:v'= .bool true:=(aF rfl).1 RH;subst e;exact aly w' H'.rest
 exact GY hJ H.low rfl
section
variable {H:Type}{enc:aM×ae->H}
theorem LK (os:Os)(started:os.Started)(F:Stop.Interp)
  (witness:∃(w:au) (tape:Tape) (i:Input),w.os=os/\(w.forCall tape i).Shaped Tryz.checked.prog/\i.vars=[]/\Input.okWide Tryz.checked.prog (w.forCall tape i) .any w.heap.size 5 i/\
   Rows.reachedRow.pre enc ab Tryz.f5 (OpenSpec.ofChange Rows.reachedSpec) (w.forCall tape i).memory i.args/\Rows.reachedRow.assume.holds Tryz.checked.prog (lone (Frame.enter Tryz.checked.prog 5 i.args .normal) [] (w.forCall tape i))):
  ReturnsInLeavingWide Rows.reachedRow.assume Tryz.checked os 5 .any (Rows.reachedRow.pre enc ab Tryz.f5 (OpenSpec.ofChange Rows.reachedSpec))
   ((OpenSpec.ofChange Rows.reachedSpec).postWith enc ab Tryz.f5 F (outsideKept [.timePasses]) Rows.reachedRow.apart Rows.reachedRow.fresh Rows.reachedRow.handsOn):=by
 refine returnsInLeavingWide_of_good aY started witness ?_;intro w tape i _ _ _ er wx _;obtain⟨_,_,_,fn',ak9,_,_,_,_,AN⟩:=er;have e:fn'=Tryz.f5:=Option.some.inj (ak9.symm.trans Tryz.func5);subst e;obtain⟨⟨hp,aaI⟩,hz⟩:=wx;obtain⟨ds,gs,before,hw,hc⟩:=hp;obtain⟨W,hW⟩:∃W,W=w.forCall tape i:=⟨_,rfl⟩;rw[<-hW]at AN hw aaI⊢;have zk:=DataW.Whole.of_heap (w':=W) (by rfl) hw;have hL:laidMetH ab Rows.reachedRow.laid W:=laidMetH.of_heap (by rfl) aaI;have akJ:=zk;obtain⟨p,q,hA0,hV0,rfl,hfz,JB⟩:=akJ;have hA:DataW.TrodAll enc ab W 0 (fun _=>true) true Tryz.f5.params.toList i.args.toList ds p:=hA0;have hV:DataW.TrodVars enc ab W (fun _=>true) [] gs q:=hV0;rw[Tryz.params5]at hA AN;obtain⟨v0,v1,v2,d0,d1,d2,p0,p1,p2,ha,rfl,_,t0,t1,t2⟩:=trodAll_three hA;rw[ha]at AN;obtain⟨xs,sD,Ak⟩:=V2 (AN 0 22 v0 rfl rfl) t0;obtain⟨y,rfl,rfl,_,hy⟩:=open_int Tryz.underlying3 (AN 1 3 v1 rfl rfl) t1;obtain⟨z,rfl,rfl,_,Ju⟩:=open_int Tryz.underlying3 (AN 2 3 v2 rfl rfl) t2;obtain⟨rfl,rfl⟩:=trodVars_none hV;obtain⟨N,last,o,w',t',h1,h2,h3,h4⟩:=X5 (Lb hy) (Lb Ju) hL sD
  (fun v W'=>Rows.reachedSpec.post enc ab Tryz.f5 Rows.reachedRow.apart Rows.reachedRow.fresh Rows.reachedRow.handsOn false W #[v0,.int .i64 y,.int .i64 z] v {W' with os:=W.os}/\OsLater W.os W'.os) fun w' hk=>by
   have g1:DataW.Whole enc ab Tryz.f5.params.toList Rows.reachedSpec.vars Rows.reachedRow.apart W #[v0,ae.int .i64 y,ae.int .i64 z].toList [d0,.lit (.int .i64 y),.lit (.int .i64 z)] [] (p++[]):=by
    rw[ha]at zk;exact zk
   obtain⟨p',dy⟩:=Ak {w' with os:=W.os} (fun i o hi=>hk.cell i o hi);have g3:DataW.TrodAll enc ab {w' with os:=W.os} 0 (fun b=>decide (b<W.heap.size)) true Tryz.f5.params.toList #[v0,ae.int .i64 y,ae.int .i64 z].toList [d0,.lit (.int .i64 y),.lit (.int .i64 z)] (p'++([]++[])):=by
    rw[Tryz.params5];exact trodAll_mk3 dy (shut_int Tryz.underlying3 hy) (shut_int Tryz.underlying3 Ju)
   have g5:W.keptBut {w' with os:=W.os} (fun q=>q∈p++[]/\(q∈([]:List MemPlace)\/q∈p'++([]++([]:List MemPlace))\/q∈([]:List MemPlace))):=YE hk _;refine⟨⟨_,_,_,[],_,[],g1,?_,g3,rfl,g5,fun h=>by cases h⟩,by rw[hk.os];exact OsLater.refl _⟩;exact trodAll_mk1 ⟨1,by simp[DataW.trod,ae.cells,Tryz.underlying4]⟩
 obtain⟨v,e,hp,r1,r2,r3,r4⟩:=h4;rw[ha];exact⟨N,last,o,w',t',h1,h2,h3,v,e,postWith_blind (postWith_of_post hp.1 hp.2),r1,r2,r3,r4⟩
end
end Go.AM
