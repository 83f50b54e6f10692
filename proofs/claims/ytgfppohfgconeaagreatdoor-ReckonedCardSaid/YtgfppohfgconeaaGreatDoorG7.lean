/-
  What the claim stands on, part 7.
-/
import Derived.Test.YtgfppohfgconeaaGreatDoorG6
set_option linter.unusedVariables false
set_option linter.unusedSimpArgs false
open Go.Proofs.Tryz renaming prog → ae
open Go renaming Value → af, Program → aE, IntKind → cQ
open Nat renaming le_of_ble_eq_true → ag, le_refl → ai, eq_of_beq_eq_true → aT
open Bool renaming and_eq_true → aj, false_eq_true → bu
open Option renaming map_eq_some_iff → ar, bind_some → cz, map_some → cR, isSome_iff_exists → qF
open Prod.mk renaming injEq → aC
open List renaming all_eq_true → aV
namespace Go.AM
set_option maxRecDepth 1000000
open Go Go.Conc Go.Proofs
def du:Code->List Code
 | .seq a b=>du a++du b
 |c=>[c]
def bh:Code->List Nat->Code
 |c,[]=>c
 |c,i::l=>match(du c)[i]? with
  |some (.block _ (.loop b))=>bh b l
  |some (.block _ b)=>bh b l
  |some (.cond _ a b)=>match l with
   |0::l'=>bh a l'
   |_::l'=>bh b l'
   | []=>c
  |_=>c
noncomputable def qk(nt:Nat):List Code->Option F
 | []=>some v9
 |c::l=>match comp ae nt 1000 c with
  |some a=>match qk nt l with
   |some b=>some (nQ a b)
   |none=>none
  |none=>none
def Ck (K:iK)(nt:Nat)(l:List Code)(st:Ss)(e:Exit)(j7:Ss):Prop:=∃N,∀M n,N<=M->N<=n->∃g,qk nt l=some g/\g (K.C M n) st=some (e,j7)
section
variable {K:iK}{nt:Nat}
theorem Jl {a b c:F}{cl:cL}{st:Ss}:nQ (nQ a b) c cl st=nQ a (nQ b c) cl st:=by
 unfold nQ;cases a cl st with
 |none=>rfl
 |some x=>obtain⟨e,lL⟩:=x;cases e<;>rfl
theorem C' {a:F}{cl:cL}{st:Ss}:nQ a v9 cl st=a cl st:=by
 unfold nQ v9;cases a cl st with
 |none=>rfl
 |some x=>obtain⟨e,lL⟩:=x;cases e<;>rfl
theorem Jk {a b b':F}{cl:cL}{st:Ss}(h:∀st,b cl st=b' cl st):nQ a b cl st=nQ a b' cl st:=by
 unfold nQ;cases a cl st with
 |none=>rfl
 |some x=>obtain⟨e,lL⟩:=x;cases e<;>first |rfl|exact h _
theorem pR:∀{l l':List Code}{a b:F},qk nt l=some a->qk nt l'=some b->∃g,qk nt (l++l')=some g/\∀cl st,g cl st=nQ a b cl st
 | [],l',a,b,ha,hb=>by cases ha;exact⟨b,hb,fun cl st=>rfl⟩
 |c::l,l',a,b,ha,hb=>by
  unfold qk at ha
  split at ha
  ·rename_i f hf
   split at ha
   ·rename_i h hh;cases ha;obtain⟨g,hg,e⟩:=pR hh hb;refine⟨nQ f g,?_,fun cl st=>?_⟩
    ·show qk nt (c::(l++l'))=_
     unfold qk;rw[hf,hg]
    ·rw[Jl];exact Jk fun st=>e cl st
   ·cases ha
  ·cases ha
theorem Ck.append{l l':List Code}{st lL Ln:Ss}{e:Exit}(h:Ck K nt l st .normal lL)(k:Ck K nt l' lL e Ln):Ck K nt (l++l') st e Ln:=by
 obtain⟨N,h⟩:=h;obtain⟨N',k⟩:=k;refine⟨N+N',fun M n x y=>?_⟩;obtain⟨a,ha,ea⟩:=h M n av av;obtain⟨b,hb,eb⟩:=k M n av av;obtain⟨g,hg,eg⟩:=pR ha hb;exact⟨g,hg,by rw[eg];unfold nQ;rw[ea];exact eb⟩
theorem Ck.first{l l':List Code}{st lL:Ss}{e:Exit}(h:Ck K nt l st e lL)(he:e≠ .normal)(hs:(qk nt l').isSome=true):Ck K nt (l++l') st e lL:=by
 obtain⟨N,h⟩:=h;obtain⟨b,hb⟩:=qF.1 hs;refine⟨N,fun M n x y=>?_⟩;obtain⟨a,ha,ea⟩:=h M n av av;obtain⟨g,hg,eg⟩:=pR ha hb;refine⟨g,hg,?_⟩;rw[eg];unfold nQ;rw[ea];cases e<;>first |rfl|exact absurd rfl he
theorem Ck.single{c:Code}{st lL:Ss}{e:Exit}(h:uR K nt c st e lL):Ck K nt [c] st e lL:=by
 obtain⟨N,h⟩:=h;refine⟨N,fun M n x y=>?_⟩;obtain⟨a,ha,ea⟩:=h M n x y;exact⟨nQ a v9,by unfold qk qk;rw[ha],by rw[C'];exact ea⟩
theorem O3 {a b:Code}(hp:gQ (.seq a b)=true){f:F}(hf:comp ae nt 1000 (.seq a b)=some f):∃fa fb,comp ae nt 1000 a=some fa/\comp ae nt 1000 b=some fb/\f=nQ fa fb:=by
 unfold gQ at hp;rw[aj]at hp;unfold comp at hf;simp only[]at hf
 split at hf
 ·rename_i fa ha
  split at hf
  ·rename_i fb hb;exact⟨fa,fb,jk hp.1 ha,jk hp.2 hb,(Option.some.inj hf).symm⟩
  ·cases hf
 ·cases hf
theorem W5:∀{c:Code}{f:F},gQ c=true->comp ae nt 1000 c=some f->∃g,qk nt (du c)=some g/\∀cl st,g cl st=f cl st:=by
 intro c;have one:∀{c:Code}{f:F},du c=[c]->comp ae nt 1000 c=some f->∃g,qk nt (du c)=some g/\∀cl st,g cl st=f cl st:=fun e h=>
  ⟨_,by rw[e];unfold qk qk;rw[h],fun cl st=>C'⟩
 induction c with
 |seq a b iha ihb=>
  intro f hp hf;obtain⟨fa,fb,ha,hb,rfl⟩:=O3 hp hf;unfold gQ at hp;rw[aj]at hp;obtain⟨ga,hga,ea⟩:=iha hp.1 ha;obtain⟨gb,OL,eb⟩:=ihb hp.2 hb;obtain⟨g,hg,e⟩:=pR hga OL;refine⟨g,hg,fun cl st=>?_⟩;rw[e];unfold nQ;rw[ea];cases fa cl st with
  |none=>rfl
  |some x=>obtain⟨ee,lL⟩:=x;cases ee<;>first |rfl|exact eb _ _
 |_=>intro f _ hf;exact one rfl hf
theorem Ck.code{c:Code}{st lL:Ss}{e:Exit}(hp:gQ c=true)(hs:(comp ae nt 1000 c).isSome=true)(h:Ck K nt (du c) st e lL):uR K nt c st e lL:=by
 obtain⟨N,h⟩:=h;obtain⟨f,hf⟩:=qF.1 hs;obtain⟨g,hg,eg⟩:=W5 hp hf;refine⟨N,fun M n x y=>⟨f,hf,?_⟩⟩;obtain⟨g',KD,eg'⟩:=h M n x y;rw[hg]at KD;cases KD;rw[<-eg];exact eg'
noncomputable def UW(nt:Nat):List Code->Option (CT (Exit×Tm×Df))
 | []=>some fun K=>K .normal
 |c::l=>match oc ae nt 1000 c with
  |some a=>match UW nt l with
   |some b=>some (adt a b)
   |none=>none
  |none=>none
noncomputable def Qc(nt:Nat)(l:List Code)(tm:Tm):T (Exit×Tm×Df):=match UW nt l with
 |some g=>g (fun e tm df=> .done (e,tm,df)) tm []
 |none=> .fail
def vu (c:Code)(i j:Nat):List Code:=((du c).take j).drop i
def acW (nt:Nat)(c:Code)(i j:Nat)(tm:Tm)(L:List p9)(e:Exit)(is:List Nat)(vs:List af):Prop:=
 (qk nt (vu c i j)).isSome=true/\(follow (Qc nt (vu c i j) tm) L).map (fun x=>(x.1,x.2.1,x.2.2.2,cH is x.2.2.1))=some (L,e,[],vs)
theorem AO:∀{l:List Code}{f:F}{g:CT (Exit×Tm×Df)},qk nt l=some f->UW nt l=some g->T4 f g
 | [],f,g,hf,hg=>by cases hf;cases hg;exact fun cl K tm df m r h=>⟨_,_,rfl,h⟩
 |c::l,f,g,hf,hg=>by
  unfold qk at hf;unfold UW at hg
  split at hf
  ·rename_i fa ha
   split at hf
   ·rename_i fb hb
    split at hg
    ·rename_i ga hga
     split at hg
     ·rename_i gb OL;cases hf;cases hg;intro cl K tm df m r h;obtain⟨e,st,e1,h⟩:=iw ha hga _ _ _ _ _ _ h;cases e with
      |normal=>
       obtain⟨e,j7,e2,h⟩:=AO hb OL _ _ _ _ _ _ h;exact⟨e,j7,by unfold nQ;rw[e1];exact e2,h⟩
      |_=>exact⟨_,_,by unfold nQ;rw[e1],h⟩
     ·cases hg
    ·cases hg
   ·cases hf
  ·cases hf
theorem ZA {c:Code}{i j:Nat}{tm:Tm}{L:List p9}{e:Exit}{is:List Nat}{vs:List af}{m m':Mem}(p:acW nt c i j tm L e is vs)(h:Ch K m L m'):∃eG,Ck K nt (vu c i j) ⟨tm,m,[]⟩ e ⟨eG,m',[]⟩/\cH is eG=vs:=by
 obtain⟨p1,p2⟩:=p;obtain⟨N,h⟩:=h.chN;obtain⟨x,hx,dk⟩:=ar.1 p2;obtain⟨L',e',eG,me⟩:=x;simp only[aC]at dk;obtain⟨rfl,rfl,rfl,hg⟩:=dk;refine⟨eG,⟨N,fun M n a b=>?_⟩,hg⟩;obtain⟨f,hf⟩:=qF.1 p1;refine⟨f,hf,?_⟩;have hd:=BE hx (h M n a b);unfold Qc at hd
 split at hd
 ·rename_i g hg;obtain⟨e2,⟨t2,m2,d2⟩,e3,hd⟩:=AO hf hg _ _ _ _ _ _ hd;cases hd;exact e3
 ·cases hd
def aX (K:iK)(nt:Nat)(c:Code)(i:Nat)(st:Ss)(e:Exit)(j7:Ss):Prop:=Ck K nt ((du c).drop i) st e j7
theorem aX.cut{c:Code}{i j:Nat}{st lL Ln:Ss}{e:Exit}(h:Ck K nt (vu c i j) st .normal lL)(k:aX K nt c j lL e Ln)(vl:i<=j:=by decide):aX K nt c i st e Ln:=by
 have e1:(du c).drop i=vu c i j++(du c).drop j:=by
  unfold vu;rw[List.drop_take];have :(du c).drop j=((du c).drop i).drop (j-i):=by rw[List.drop_drop];congr 1;omega
  rw[this,List.take_append_drop]
 unfold aX;rw[e1];exact h.append k
theorem aX.last{c:Code}{i j:Nat}{st lL:Ss}{e:Exit}(h:Ck K nt (vu c i j) st e lL)(hj:(du c).length<=j):aX K nt c i st e lL:=by
 unfold aX;unfold vu at h;rwa[List.take_of_length_le hj]at h
theorem aX.left{c:Code}{i j:Nat}{st lL:Ss}{e:Exit}(h:Ck K nt (vu c i j) st e lL)(he:e≠ .normal)(hs:(qk nt ((du c).drop j)).isSome=true)(vl:i<=j:=by decide):aX K nt c i st e lL:=by
 have e1:(du c).drop i=vu c i j++(du c).drop j:=by
  unfold vu;rw[List.drop_take];have :(du c).drop j=((du c).drop i).drop (j-i):=by rw[List.drop_drop];congr 1;omega
  rw[this,List.take_append_drop]
 unfold aX;rw[e1];exact h.first he hs
theorem aX.whole{c:Code}{st lL:Ss}{e:Exit}(h:aX K nt c 0 st e lL)(hp:gQ c=true)(hs:(comp ae nt 1000 c).isSome=true):uR K nt c st e lL:=Ck.code hp hs h
def dT (c:Code)(i:Nat):Option (Nat×Code):=match(du c)[i]? with |some (.block id (.loop b))=>some (id,b)|_=>none
theorem aX.loop{c b:Code}{i id:Nat}{st lL Ln:Ss}{e e':Exit}(hl:dT c i=some (id,b))(h:Le K nt b 100000 st e' lL)(he:e'= .exit id)(hp:gQ b=true)(hs:(comp ae nt 1000 (.block id (.loop b))).isSome=true)(k:aX K nt c (i+1) lL e Ln):aX K nt c i st e Ln:=by
 unfold dT at hl
 split at hl
 ·rename_i id' b' hg;cases hl;subst he;obtain⟨cN,CI⟩:=List.getElem?_eq_some_iff.1 hg;have e1:(du c).drop i=[.block id (.loop b)]++(du c).drop (i+1):=by rw[List.drop_eq_getElem_cons cN,CI];rfl
  have hls:(comp ae nt 1000 (.loop b)).isSome=true:=by
   obtain⟨f,hf⟩:=qF.1 hs;unfold comp at hf;simp only[]at hf
   split at hf
   ·rename_i f' Fs;rw[jk (c:= .loop b) hp Fs];rfl
   ·cases hf
  unfold aX;rw[e1];exact(Ck.single (uR.block (e':= .normal) (uR.loop h hp hls) cK hp hs)).append k
 ·cases hl
theorem aX.Rz{c b:Code}{i id:Nat}{st lL:Ss}(hl:dT c i=some (id,b))(h:Le K nt b 100000 st .ret lL)(hp:gQ b=true)(hs:(comp ae nt 1000 (.block id (.loop b))).isSome=true)(hr:(qk nt ((du c).drop (i+1))).isSome=true):aX K nt c i st .ret lL:=by
 unfold dT at hl
 split at hl
 ·rename_i id' b' hg;cases hl;obtain⟨cN,CI⟩:=List.getElem?_eq_some_iff.1 hg;have e1:(du c).drop i=[.block id (.loop b)]++(du c).drop (i+1):=by rw[List.drop_eq_getElem_cons cN,CI];rfl
  have hls:(comp ae nt 1000 (.loop b)).isSome=true:=by
   obtain⟨f,hf⟩:=qF.1 hs;unfold comp at hf;simp only[]at hf
   split at hf
   ·rename_i f' Fs;rw[jk (c:= .loop b) hp Fs];rfl
   ·cases hf
  unfold aX;rw[e1];exact(Ck.single (uR.block (e':= .ret) (uR.loop h hp hls) rfl hp hs)).first (fun h=>by cases h) hr
 ·cases hl
end
end Go.AM
namespace Go.AM
set_option maxRecDepth 1000000
open Go Go.Conc Go.Proofs
def Qk:List Nat->List af->Tm->Tm
 |i::is,v::vs,tm=>sK i v (Qk is vs tm)
 |_,_,tm=>tm
theorem Dd:∀{is:List Nat}{vs:List af}{tm:Tm},cH is tm=vs->Qk is vs tm=tm
 | [],_,tm,_=>rfl
 |i::is,[],tm,h=>rfl
 |i::is,v::vs,tm,h=>by
  unfold cH at h;simp only[List.map_cons,List.cons.injEq]at h;unfold Qk;rw[Dd (is:=is) (vs:=vs) h.2,Nh h.1]
def bF (nt:Nat)(c:Code)(i j:Nat)(Sb:List Nat)(T8:List af)(L:List p9)(e:Exit)(is:List Nat)(vs:List af):Prop:=∀g:Tm,acW nt c i j (Qk Sb T8 g) L e is vs
section
variable {K:iK}{nt:Nat}
theorem bQ {c:Code}{i j:Nat}{Sb is:List Nat}{T8 vs:List af}{L:List p9}{e:Exit}{tm:Tm}{m m':Mem}(p:bF nt c i j Sb T8 L e is vs)(h0:cH Sb tm=T8)(h:Ch K m L m'):∃eG,Ck K nt (vu c i j) ⟨tm,m,[]⟩ e ⟨eG,m',[]⟩/\cH is eG=vs:=by
 have :=p tm;rw[Dd h0]at this;exact ZA this h
noncomputable def codeOk(nt:Nat)(c:Code):Bool:=gQ c&&(comp ae nt 1000 c).isSome&&Nat.ble (du c).length 99
theorem iZ {c:Code}(h:codeOk nt c=true):gQ c=true/\(comp ae nt 1000 c).isSome=true/\(du c).length<=99:=by
 unfold codeOk at h;rw[aj,aj]at h;exact⟨h.1.1,h.1.2,ag h.2⟩
theorem aX.code{c:Code}{st j7:Ss}{e:Exit}(h:aX K nt c 0 st e j7)(jA:codeOk nt c=true):uR K nt c st e j7:=h.whole (iZ jA).1 (iZ jA).2.1
theorem aU {c:Code}{Sb is:List Nat}{T8 vs:List af}{L:List p9}{e:Exit}{tm:Tm}{m m':Mem}(jA:codeOk nt c=true)(p:bF nt c 0 99 Sb T8 L e is vs)(h0:cH Sb tm=T8)(h:Ch K m L m'):∃eG,uR K nt c ⟨tm,m,[]⟩ e ⟨eG,m',[]⟩/\cH is eG=vs:=by
 obtain⟨eG,h1,h2⟩:=bQ p h0 h;exact⟨eG,(aX.last h1 (iZ jA).2.2).code jA,h2⟩
theorem jP {a:Code}{Inv:Nat->Tm->Mem->Prop}{dA:Exit->Tm->Mem->Prop}
  (uL:∀n tm m,Inv n tm m->(∃n' eG m',n'<n/\uR K nt a ⟨tm,m,[]⟩ .normal ⟨eG,m',[]⟩/\Inv n' eG m')\/∃e eG m',e≠ .normal/\uR K nt a ⟨tm,m,[]⟩ e ⟨eG,m',[]⟩/\dA e eG m'):
  ∀{n k:Nat}{tm:Tm}{m:Mem},Inv n tm m->n<k->∃e eG m',e≠ .normal/\Le K nt a k ⟨tm,m,[]⟩ e ⟨eG,m',[]⟩/\dA e eG m':=by
 intro n
 induction n using Nat.strongRecOn with
 |ind n ih=>
  intro k tm m hi hk;obtain⟨k,rfl⟩:∃j,k=j+1:=⟨k-1,av⟩;rcases uL n tm m hi with⟨n',eG,m',hn,hx,HR⟩|⟨e,eG,m',he,hx,hp⟩
  ·obtain⟨e,xH,m2,he,hl,hp⟩:=ih n' hn (k:=k) HR av;exact⟨e,xH,m2,he,Le.next hx hl,hp⟩
  ·exact⟨e,eG,m',he,Le.out hx he,hp⟩
noncomputable def eI(nt:Nat)(c b:Code)(i id:Nat):Bool:=(match dT c i with |some (j,_)=>Nat.beq j id|none=>false)&&codeOk nt b&&(comp ae nt 1000 (.block id (.loop b))).isSome
theorem aX.iH{c:Code}{i:Nat}{id:Nat}{st lL Ln:Ss}{e e':Exit}{b:Code}(hl:dT c i=some (id,b))(jA:eI nt c b i id=true)(h:Le K nt b 100000 st e' lL)(he:e'= .exit id)(k:aX K nt c (i+1) lL e Ln):aX K nt c i st e Ln:=by
 unfold eI at jA;rw[aj,aj]at jA;exact aX.loop hl h he (iZ jA.1.2).1 jA.2 k
theorem aX.sY{c:Code}{i:Nat}{id:Nat}{st lL:Ss}{b:Code}(hl:dT c i=some (id,b))(jA:eI nt c b i id=true)(h:Le K nt b 100000 st .ret lL)(hr:(qk nt ((du c).drop (i+1))).isSome=true):aX K nt c i st .ret lL:=by
 unfold eI at jA;rw[aj,aj]at jA;exact aX.Rz hl h (iZ jA.1.2).1 jA.2 hr
end
def entry (args:List af):Tm:=match Cs args with |some t=>t|none=>lR
noncomputable def GI(nt:Nat):List ResultVar->List Nat->Bool
 | [],[]=>true
 | .tmp t::l,i::is=>Nat.beq t i&&Nat.blt t nt&&GI nt l is
 |_,_=>false
noncomputable def jR(f n:Nat)(is:List Nat):Bool:=mQ f&&codeOk (bN f) (ax f)&&GI (bN f) (XT f) is&&Nat.ble n (bN f)&&Nat.ble n 16
def Qe:List af->af
 | [v]=>v
 |vs=> .tuple vs.toArray
theorem EI {nt:Nat}{tm:Tm}{m:Mem}:∀{rs:List ResultVar}{is:List Nat},GI nt rs is=true->ss ae nt m tm rs=some (cH is tm)
 | [],[],_=>rfl
 | .tmp t::l,i::is,h=>by
  unfold GI at h;rw[aj,aj]at h;have :=aT h.1.1;subst this;unfold ss;rw[bL h.1.2,EI h.2];rfl
 | [],_::_,h=>by cases h
 | .tmp _::_,[],h=>by cases h
 | .cell _ _::_,_,h=>by cases h
theorem tI:∀{l:List af},l.length<=16->∃t,Cs l=some t:=by
 intro l h;have :Pk (Pk l)=[]:=by
  have e:∀l:List af,kI l=l.drop 1:=fun l=>by cases l<;>rfl
  have e8:∀l:List af,Pk l=l.drop 8:=fun l=>by unfold Pk;simp only[e,List.drop_drop]
  rw[e8,e8,List.drop_drop];exact List.drop_of_length_le av
 unfold Cs;rw[this];exact⟨_,rfl⟩
theorem fg {K:iK}{f:Nat}{args:List af}{m m':Mem}{eG:Tm}{e:Exit}{is:List Nat}{vs:List af}(jA:jR f args.length is=true)(h:aX K (bN f) (ax f) 0 ⟨entry args,m,[]⟩ e ⟨eG,m',[]⟩)(he:e= .normal\/e= .ret)(hg:cH is eG=vs)(hs:ig f=false:=by rfl):Ev K f args m (Qe vs) m':=by
 unfold jR at jA;simp only[aj]at jA;obtain⟨⟨⟨⟨h1,h2⟩,h3⟩,h4⟩,h5⟩:=jA;obtain⟨t,ht⟩:=tI (l:=args) (ag h5);have Fu:entry args=t:=by unfold entry;rw[ht]
 rw[Fu]at h;refine Ah h1 (tm:=t) (by rw[bL h4,ht]) (h.code h2) he ?_ hs;unfold j1;rw[EI h3,hg];unfold Qe
 match vs with
 | []=>rfl
 | [v]=>rfl
 |v::w::l=>rfl
@[reducible]def aD (x b:Bool):p9:=.cond (.bool x) b
@[reducible]def bV:p9:=.cond (.bool true) true
@[reducible]def bm:p9:=.cond (.bool false) false
@[reducible]def dU:af:=.string .empty
@[reducible]def aY (s:ByteArray):af:=.string s
@[reducible]def cp (l:List (Option af))(b:Nat):p9:=.mem (rU l) (vP b 0)
@[reducible]def dV (b o:Nat)(l:List af):p9:=.mem (sO b o l) undef
@[reducible]def ie (n b:Nat)(v:af):p9:=.mem (eJ n b 0) v
@[reducible]noncomputable def lJ (t b:Nat)(v:af):p9:=.mem (fV ae t (vP b 0)) v
theorem cg {f:Nat}{args:List af}{L:List p9}{v:af}(h1:mQ f=true:=by kernel_rfl)(h2:follow (OQ ae X0 f args) L=some (L,v):=by kernel_rfl):Path f args L v:=⟨h1,h2⟩
theorem eF {nt:Nat}{c:Code}{i j:Nat}{Sb:List Nat}{T8:List af}{L:List p9}{e:Exit}{is:List Nat}{vs:List af}(h:∀g:Tm,acW nt c i j (Qk Sb T8 g) L e is vs:=by exact fun _=>⟨by kernel_rfl,by kernel_rfl⟩):bF nt c i j Sb T8 L e is vs:=h
end Go.AM
namespace Go.AM
set_option maxRecDepth 1000000
open Go Go.Conc Go.Proofs
section
variable {K:iK}{m:Mem}
theorem akx (x:Int):Path 259 [(vI x)]
 []
 (.bool (hY x x)):=cg
theorem akw (a:ByteArray):Path 260 [(aY a)]
 []
 (.bool ((a.toList==a.toList)==false)):=cg
theorem af8 (x y:Int):Path 216 [(vI x),(vI y)]
 [.call 259 [(vI x)] (.bool false),
  .call 259 [(vI y)] (.bool false),
  bm,
  bm,
  aD (br x y) true]
 (vI (-1)):=cg
theorem af9 (x y:Int):Path 216 [(vI x),(vI y)]
 [.call 259 [(vI x)] (.bool false),
  .call 259 [(vI y)] (.bool false),
  bm,
  bm,
  aD (br x y) false,
  aD (fD x y) true]
 (vI 1):=cg
theorem aga (x y:Int):Path 216 [(vI x),(vI y)]
 [.call 259 [(vI x)] (.bool false),
  .call 259 [(vI y)] (.bool false),
  bm,
  bm,
  aD (br x y) false,
  aD (fD x y) false]
 (vI 0):=cg
theorem af5 (a b:ByteArray)(b1:Bool):Path 217 [(aY a),(aY b)]
 [.call 260 [(aY a)] (.bool false),
  .call 260 [(aY b)] (.bool false),
  bm,
  bm,
  .val (iP ae .lss 9 false false (aY a) (aY b)) (.bool b1),
  aD b1 true]
 (vI (-1)):=cg
theorem af6 (a b:ByteArray)(b1 b2:Bool):Path 217 [(aY a),(aY b)]
 [.call 260 [(aY a)] (.bool false),
  .call 260 [(aY b)] (.bool false),
  bm,
  bm,
  .val (iP ae .lss 9 false false (aY a) (aY b)) (.bool b1),
  aD b1 false,
  .val (iP ae .gtr 9 false false (aY a) (aY b)) (.bool b2),
  aD b2 true]
 (vI 1):=cg
theorem af7 (a b:ByteArray)(b1 b2:Bool):Path 217 [(aY a),(aY b)]
 [.call 260 [(aY a)] (.bool false),
  .call 260 [(aY b)] (.bool false),
  bm,
  bm,
  .val (iP ae .lss 9 false false (aY a) (aY b)) (.bool b1),
  aD b1 false,
  .val (iP ae .gtr 9 false false (aY a) (aY b)) (.bool b2),
  aD b2 false]
 (vI 0):=cg
theorem af3:Path 218 [(.bool true)]
 [bV]
 (vI 1):=cg
theorem af4:Path 218 [(.bool false)]
 [bm]
 (vI 0):=cg
theorem O9 (x:Int):Ev K 259 [vI x] m (.bool false) m:=by
 have h:=ak (K:=K) (m:=m) (akx x) .nil;rwa[jg,eO cK]at h
theorem O8 (a:ByteArray):Ev K 260 [.string a] m (.bool false) m:=by
 have h:=ak (K:=K) (m:=m) (akw a) .nil;rwa[show((a.toList==a.toList)==false)=false by simp]at h
def BU (x y:Int):Int:=if x<y then -1 else if y<x then 1 else 0
theorem acd (x y:Int):Ev K 216 [vI x,vI y] m (vI (BU x y)) m:=by
 unfold BU
 split
 ·rename_i h;exact ak (af8 x y) (.call (O9 x)<| .call (O9 y)<| .cond rfl<| .cond rfl<| .cond (by rw[bZ,dZ h]) .nil)
 ·rename_i h
  split
  ·rename_i h2;exact ak (af9 x y) (.call (O9 x)<| .call (O9 y)<| .cond rfl<| .cond rfl<| .cond (by rw[bZ,eO h])<| .cond (by rw[gX,dZ h2]) .nil)
  ·rename_i h2;exact ak (aga x y) (.call (O9 x)<| .call (O9 y)<| .cond rfl<| .cond rfl<| .cond (by rw[bZ,eO h])<| .cond (by rw[gX,eO h2]) .nil)
def Tx (a b:ByteArray):Int:=if Op.bytesLess a.toList b.toList then -1 else if Op.bytesLess a.toList b.toList||a.toList==b.toList then 0 else 1
theorem amN (a b:ByteArray):Ev K 217 [.string a,.string b] m (vI (Tx a b)) m:=by
 unfold Tx
 split
 ·rename_i h;exact ak (af5 a b true) (.call (O8 a)<| .call (O8 b)<| .cond rfl<| .cond rfl<| .val (by rw[aa0,h])<| .cond rfl .nil)
 ·rename_i h;have h:Op.bytesLess a.toList b.toList=false:=by simpa using h
  split
  ·rename_i h2;exact ak (af7 a b false false) (.call (O8 a)<| .call (O8 b)<| .cond rfl<| .cond rfl<| .val (by rw[aa0,h])<| .cond rfl<| .val (by rw[ah4,h2];rfl)<| .cond rfl .nil)
  ·rename_i h2;have h2:(Op.bytesLess a.toList b.toList||a.toList==b.toList)=false:=by simpa using h2
   exact ak (af6 a b false true) (.call (O8 a)<| .call (O8 b)<| .cond rfl<| .cond rfl<| .val (by rw[aa0,h])<| .cond rfl<| .val (by rw[ah4,h2];rfl)<| .cond rfl .nil)
def AS (b:Bool):Int:=if b then 1 else 0
theorem aiJ (b:Bool):Ev K 218 [.bool b] m (vI (AS b)) m:=by
 cases b
 ·exact ak af4 (.cond rfl .nil)
 ·exact ak af3 (.cond rfl .nil)
theorem aay (p:Nat)(y1:Int):Path 215 [(vL p 0 4 4)]
 [bV,
  .idx 0 4 0,
  .mem (aI p 0) (vI y1),
  aD (hY y1 0) true]
 (vI y1):=cg
theorem aax (p:Nat)(y1 y2:Int):Path 215 [(vL p 0 4 4)]
 [bV,
  .idx 0 4 0,
  .mem (aI p 0) (vI y1),
  aD (hY y1 0) false,
  bV,
  .idx 1 4 1,
  .mem (aI p 1) (vI y2),
  aD (hY y2 0) true]
 (vI y2):=cg
theorem aaw (p:Nat)(y1 y2 y3:Int):Path 215 [(vL p 0 4 4)]
 [bV,
  .idx 0 4 0,
  .mem (aI p 0) (vI y1),
  aD (hY y1 0) false,
  bV,
  .idx 1 4 1,
  .mem (aI p 1) (vI y2),
  aD (hY y2 0) false,
  bV,
  .idx 2 4 2,
  .mem (aI p 2) (vI y3),
  aD (hY y3 0) true]
 (vI y3):=cg
theorem aav (p:Nat)(y1 y2 y3 y4:Int):Path 215 [(vL p 0 4 4)]
 [bV,
  .idx 0 4 0,
  .mem (aI p 0) (vI y1),
  aD (hY y1 0) false,
  bV,
  .idx 1 4 1,
  .mem (aI p 1) (vI y2),
  aD (hY y2 0) false,
  bV,
  .idx 2 4 2,
  .mem (aI p 2) (vI y3),
  aD (hY y3 0) false,
  bV,
  .idx 3 4 3,
  .mem (aI p 3) (vI y4),
  aD (hY y4 0) true]
 (vI y4):=cg
theorem aau (p:Nat)(y1 y2 y3 y4:Int):Path 215 [(vL p 0 4 4)]
 [bV,
  .idx 0 4 0,
  .mem (aI p 0) (vI y1),
  aD (hY y1 0) false,
  bV,
  .idx 1 4 1,
  .mem (aI p 1) (vI y2),
  aD (hY y2 0) false,
  bV,
  .idx 2 4 2,
  .mem (aI p 2) (vI y3),
  aD (hY y3 0) false,
  bV,
  .idx 3 4 3,
  .mem (aI p 3) (vI y4),
  aD (hY y4 0) false,
  bm]
 (vI 0):=cg
theorem akL (a b:V)(aH a0 so zX Uv PC σ5 σ6 cf:Nat)(x1 x2 x3 x4 x5 x6 x7:Int):Path 155 [(ck a),(ck b)]
 [cp (pN a) aH,
  cp (pN b) a0,
  .mem (aI aH 0) (vI a.k),
  .mem (aI a0 0) (vI b.k),
  .mem (aI aH 1) (vI a.n),
  .mem (fe (vP aH 1)) (vI (so:Int)),
  .mem (aI a0 1) (vI b.n),
  .mem (fe (vP a0 1)) (vI (zX:Int)),
  .mem (aI aH 2) (aY a.s),
  .mem (fe (vP aH 2)) (vI (Uv:Int)),
  .mem (aI a0 2) (aY b.s),
  .mem (fe (vP a0 2)) (vI (PC:Int)),
  .mem (aI aH 3) (.bool a.b),
  .mem (fe (vP aH 3)) (vI (σ5:Int)),
  .mem (aI a0 3) (.bool b.b),
  .mem (fe (vP a0 3)) (vI (σ6:Int)),
  .mem di undef,
  .call 216 [(vI a.k),(vI b.k)] (vI x1),
  .mem (bS (vI (so:Int)) (vP aH 1) (dw ae 3 (vP aH 1))) undef,
  .mem (bS (vI (zX:Int)) (vP a0 1) (dw ae 3 (vP a0 1))) undef,
  .mem (bS (vI (Uv:Int)) (vP aH 2) (dw ae 9 (vP aH 2))) undef,
  .mem (bS (vI (PC:Int)) (vP a0 2) (dw ae 9 (vP a0 2))) undef,
  .mem (bS (vI (σ5:Int)) (vP aH 3) (dw ae 4 (vP aH 3))) undef,
  .mem (bS (vI (σ6:Int)) (vP a0 3) (dw ae 4 (vP a0 3))) undef,
  .mem di undef,
  .call 216 [(vI a.n),(vI b.n)] (vI x2),
  .mem (bS (vI (Uv:Int)) (vP aH 2) (dw ae 9 (vP aH 2))) undef,
  .mem (bS (vI (PC:Int)) (vP a0 2) (dw ae 9 (vP a0 2))) undef,
  .mem (bS (vI (σ5:Int)) (vP aH 3) (dw ae 4 (vP aH 3))) undef,
  .mem (bS (vI (σ6:Int)) (vP a0 3) (dw ae 4 (vP a0 3))) undef,
  .mem di undef,
  .call 217 [(aY a.s),(aY b.s)] (vI x3),
  .mem (bS (vI (σ5:Int)) (vP aH 3) (dw ae 4 (vP aH 3))) undef,
  .mem (bS (vI (σ6:Int)) (vP a0 3) (dw ae 4 (vP a0 3))) undef,
  .mem di undef,
  .call 218 [(.bool a.b)] (vI x4),
  .mem (bS (vI (σ6:Int)) (vP a0 3) (dw ae 4 (vP a0 3))) undef,
  .mem di undef,
  .call 218 [(.bool b.b)] (vI x5),
  .mem di undef,
  .call 216 [(vI x4),(vI x5)] (vI x6),
  .mem (ao ae 22 4 [(0,(vI x1)),(1,(vI x2)),(2,(vI x3)),(3,(vI x6))]) (vL cf 0 4 4),
  .mem di undef,
  .call 215 [(vL cf 0 4 4)] (vI x7)]
 (vI x7):=cg
def X3:List Int->Int
 | []=>0
 |x::l=>if x≠0 then x else X3 l
theorem amO {b:Nat}{y1 y2 y3 y4:Int}{c:Nat}(h:Obj m b 1 [vI y1,vI y2,vI y3,vI y4]):Ev K 215 [vL b 0 4 4] m (vI (X3 [y1,y2,y3,y4])) m:=by
 unfold X3 X3 X3 X3 X3;have t:∀{y:Int},y≠0->af.bool (hY y 0)= .bool true:=fun h=>by rw[jg,dZ h]
 have f:∀{y:Int},¬y≠0->af.bool (hY y 0)= .bool false:=fun h=>by rw[jg,eO h]
 split
 ·rename_i h1;exact ak (aay b y1) (.cond rfl<| .idx rfl dB<| .mem (aJ h rfl)<| .cond (t h1) .nil)
 ·rename_i h1
  split
  ·rename_i h2;exact ak (aax b y1 y2) (.cond rfl<| .idx rfl dB<| .mem (aJ h rfl)<| .cond (f h1)<| .cond rfl<| .idx rfl dB<| .mem (aJ h rfl)<| .cond (t h2) .nil)
  ·rename_i h2
   split
   ·rename_i h3;exact ak (aaw b y1 y2 y3) (.cond rfl<| .idx rfl dB<| .mem (aJ h rfl)<| .cond (f h1)<| .cond rfl<| .idx rfl dB<| .mem (aJ h rfl)<| .cond (f h2)<| .cond rfl<| .idx rfl dB<| .mem (aJ h rfl)<| .cond (t h3) .nil)
   ·rename_i h3
    split
    ·rename_i h4;exact ak (aav b y1 y2 y3 y4) (.cond rfl<| .idx rfl dB<| .mem (aJ h rfl)<| .cond (f h1)<| .cond rfl<| .idx rfl dB<| .mem (aJ h rfl)<| .cond (f h2)<| .cond rfl<| .idx rfl dB<| .mem (aJ h rfl)<| .cond (f h3)<| .cond rfl<| .idx rfl dB<| .mem (aJ h rfl)<| .cond (t h4) .nil)
    ·rename_i h4;exact ak (aau b y1 y2 y3 y4) (.cond rfl<| .idx rfl dB<| .mem (aJ h rfl)<| .cond (f h1)<| .cond rfl<| .idx rfl dB<| .mem (aJ h rfl)<| .cond (f h2)<| .cond rfl<| .idx rfl dB<| .mem (aJ h rfl)<| .cond (f h3)<| .cond rfl<| .idx rfl dB<| .mem (aJ h rfl)<| .cond (f h4)<| .cond rfl .nil)
theorem acv (a b c d:Int):ao ae 22 4 [(0,vI a),(1,vI b),(2,vI c),(3,vI d)] m=some (vL m.next 0 4 4,m.alloc {kind:=1,sz:=1,cs:=[some (vI a),some (vI b),some (vI c),some (vI d)]}):=bp
def FJ (a b:V):Int:=X3 [BU a.k b.k,BU a.n b.n,Tx a.s b.s,BU (AS a.b) (AS b.b)]
theorem amZ (g:Gd m)(a b:V):∃m',Ev K 155 [a.val,b.val] m (vI (FJ a b)) m'/\Kp m m' eU:=by
 obtain⟨m1,e1,o1,k1,n1,_⟩:=aQ g a.cells;obtain⟨m2,e2,o2,k2,n2,_⟩:=aQ (g.ext k1) b.cells;have g2:=(g.ext k1).ext k2;have zI:=o1.aM k2;obtain⟨o3,k3,n3⟩:=dC g2 (k:={kind:=1,sz:=1,cs:=[some (vI (BU a.k b.k)),some (vI (BU a.n b.n)),some (vI (Tx a.s b.s)),some (vI (BU (AS a.b) (AS b.b)))]}) (cs:=[vI (BU a.k b.k),vI (BU a.n b.n),vI (Tx a.s b.s),vI (BU (AS a.b) (AS b.b))]) rfl rfl rfl;refine⟨_,ak (akL a b ..) (by
  refine .mem e1<| .mem e2 ?_
  repeat first |exact .nil|refine .cond rfl ?_|refine .mem (bW fP) ?_|refine .mem (aJ fP rfl) ?_|refine .mem (bY fP rfl cK) ?_|refine .mem (dh _ _) ?_|refine .mem (vw fP rfl rfl) ?_
  refine .call (acd _ _) ?_
  repeat first |exact .nil|refine .cond rfl ?_|refine .mem (bW fP) ?_|refine .mem (aJ fP rfl) ?_|refine .mem (bY fP rfl cK) ?_|refine .mem (dh _ _) ?_|refine .mem (vw fP rfl rfl) ?_
  refine .call (acd _ _) ?_
  repeat first |exact .nil|refine .cond rfl ?_|refine .mem (bW fP) ?_|refine .mem (aJ fP rfl) ?_|refine .mem (bY fP rfl cK) ?_|refine .mem (dh _ _) ?_|refine .mem (vw fP rfl rfl) ?_
  refine .call (amN _ _) ?_
  repeat first |exact .nil|refine .cond rfl ?_|refine .mem (bW fP) ?_|refine .mem (aJ fP rfl) ?_|refine .mem (bY fP rfl cK) ?_|refine .mem (dh _ _) ?_|refine .mem (vw fP rfl rfl) ?_
  refine .call (aiJ _) ?_
  repeat first |exact .nil|refine .cond rfl ?_|refine .mem (bW fP) ?_|refine .mem (aJ fP rfl) ?_|refine .mem (bY fP rfl cK) ?_|refine .mem (dh _ _) ?_|refine .mem (vw fP rfl rfl) ?_
  refine .call (aiJ _) ?_
  repeat first |exact .nil|refine .cond rfl ?_|refine .mem (bW fP) ?_|refine .mem (aJ fP rfl) ?_|refine .mem (bY fP rfl cK) ?_|refine .mem (dh _ _) ?_|refine .mem (vw fP rfl rfl) ?_
  refine .call (acd _ _) (.mem (acv ..) (.mem (bW (g2.ext k3)) (.call (amO o3 (c:=4)) .nil)))),(k1.aN k2).aN k3⟩
end
end Go.AM
namespace Go.AM
set_option maxRecDepth 1000000
open Go Go.Conc Go.Proofs
theorem jY {K:iK}{m m':Mem}{L:List p9}(h:Ch K m L m':=by repeat first |exact .nil|refine .cond (by first |rfl|assumption) ?_|refine .mem (by first |assumption|exact bW fP|exact aJ fP rfl|exact bY fP rfl cK|exact dh _ _|exact vw fP rfl rfl) ?_|refine .call fP ?_|refine .fT fP ?_|refine .fw (by first |rfl|assumption) fP ?_|refine .val (by first |rfl|assumption) ?_|refine .idx (by first |rfl|assumption) (by first |assumption|omega) ?_):Ch K m L m':=h
def w9 {R:Type}:T R->Option R
 | .done a=>some a
 | .val r k=>match r with |some v=>w9 (k v)|none=>none
 | .cond v k=>match v with | .bool b=>w9 (k b)|_=>none
 | .idx n len k=>match n with | .ofNat i=>(match Nat.blt i len with |true=>w9 (k i)|false=>none)| .negSucc _=>none
 |_=>none
theorem OT {R:Type}{cl:cL}{m:Mem}{a:R}:∀{t:T R},w9 t=some a->den cl t m=some (a,m):=by
 intro t
 induction t with
 |done b=>intro h;cases h;rfl
 |val r k ih=>intro h;unfold w9 at h;unfold den;split at h<;>first |exact ih _ h|cases h
 |cond v k ih=>intro h;unfold w9 at h;unfold den;split at h<;>first |exact ih _ h|cases h
 |idx n len k ih=>
  intro h;unfold w9 at h;unfold den
  split at h
  ·split at h
   ·rename_i hb;simp only[hb];exact ih _ h
   ·cases h
  ·cases h
 |_=>intro h;cases h
theorem Xc {K:iK}{f:Nat}{args:List af}{v:af}{m:Mem}(hc:mQ f=true)(h:w9 (OQ ae X0 f args)=some v)(hs:ig f=false:=by rfl):Ev K f args m v m:=by
 refine⟨1,fun M n a b=>?_⟩;obtain⟨n,rfl⟩:∃k,n=k+1:=⟨n-1,av⟩;rw[K.step M n f args m hs];unfold mQ at hc
 split at hc
 ·rename_i fn Ga
  split at hc
  ·rename_i c uw;rw[aj]at hc;exact BB Ga uw hc.1 hc.2 (OT h)
  ·cases hc
 ·cases hc
abbrev vU (b:Nat):af:= .int .u8 (b:Int)
noncomputable def acp(f:Nat)(p:Nat->Bool):Bool:=(List.range 256).all fun b=>match w9 (OQ ae X0 f [.int .u8 (.ofNat b)])with |some (.bool r)=>r==p b|_=>false
theorem yC {K:iK}{f:Nat}{p:Nat->Bool}{b:Nat}{m:Mem}(hc:mQ f=true)(h:acp f p=true)(hb:b<256)(hs:ig f=false:=by rfl):Ev K f [vU b] m (.bool (p b)) m:=by
 have :=aV.1 h b (List.mem_range.2 hb)
 split at this
 ·rename_i r hr;have e:r=p b:=by simpa using this
  subst e;exact Xc hc hr hs
 ·cases this
def wP (b:Nat):Bool:=b==32||b==9||b==10||b==13
def ou (b:Nat):Bool:=Nat.ble 48 b&&Nat.ble b 57
def isLt (b:Nat):Bool:=(Nat.ble 97 b&&Nat.ble b 122)||(Nat.ble 65 b&&Nat.ble b 90)||b==95
def zM (b:Nat):Bool:=isLt b||ou b
theorem B6 (s:ByteArray)(i:Nat):aF s i<256:=by
 unfold aF
 split
 ·exact UInt8.toNat_lt _
 ·decide
section
variable {K:iK}{m:Mem}
theorem c42 {b:Nat}(hb:b<256):Ev K 42 [vU b] m (.bool (wP b)) m:=yC bp bp hb
theorem c43 {b:Nat}(hb:b<256):Ev K 43 [vU b] m (.bool (isLt b)) m:=yC bp bp hb
theorem c45 {b:Nat}(hb:b<256):Ev K 45 [vU b] m (.bool (ou b)) m:=yC bp bp hb
theorem aj1 (b:Nat):Path 77 [(.int .u8 (b:Int))]
 [.call 43 [(.int .u8 (b:Int))] (.bool true),
  bV,
  bV,
  bV]
 (.bool true):=cg
theorem aj2 (b:Nat)(r:Bool):Path 77 [(.int .u8 (b:Int))]
 [.call 43 [(.int .u8 (b:Int))] (.bool false),
  bm,
  bm,
  .call 45 [(.int .u8 (b:Int))] (.bool r),
  bm]
 (.bool r):=cg
theorem ak0:jR 41 3 [6]=true:=bp
theorem QO:(du (ax 41)).length<=99:=ag bp
theorem aa5:dT (ax 41) 1=some (0,(bh (ax 41) [1])):=bp
theorem JQ:codeOk (bN 41) (bh (ax 41) [1])=true:=bp
theorem aa9:eI (bN 41) (ax 41) (bh (ax 41) [1]) 1 0=true:=bp
theorem ajT (T:ByteArray)(i f:Nat):bF (bN 41) (ax 41) 0 1 [0,1,2] [(aY T),(vI (i:Int)),(.func (.func f) #[] #[])]
 []
 .normal [0,1,2] [(aY T),(vI (i:Int)),(.func (.func f) #[] #[])]:=eF
theorem ajP (T:ByteArray)(i f:Nat):bF (bN 41) (bh (ax 41) [1]) 0 99 [0,1,2] [(aY T),(vI (i:Int)),(.func (.func f) #[] #[])]
 [aD (br (i:Int) (T.size:Int)) false,
  aD (br (i:Int) (T.size:Int)) false,
  aD (br (i:Int) (T.size:Int)) false,
  aD (br (i:Int) (T.size:Int)) false,
  aD (br (i:Int) (T.size:Int)) false,
  aD (br (i:Int) (T.size:Int)) false,
  bm]
 (.exit 0) [1] [(vI (i:Int))]:=eF
theorem ajR (T:ByteArray)(i f:Nat):bF (bN 41) (bh (ax 41) [1]) 0 99 [0,1,2] [(aY T),(vI (i:Int)),(.func (.func f) #[] #[])]
 [aD (br (i:Int) (T.size:Int)) true,
  aD (br (i:Int) (T.size:Int)) true,
  aD (br (i:Int) (T.size:Int)) true,
  aD (br (i:Int) (T.size:Int)) true,
  .idx (i:Int) T.size i,
  aD (br (i:Int) (T.size:Int)) true,
  .fT (.func (.func f) #[] #[]) [(.int .u8 (aF T i:Nat))] (.bool false),
  aD (br (i:Int) (T.size:Int)) true,
  bm]
 (.exit 0) [1] [(vI (i:Int))]:=eF
theorem ajQ (T:ByteArray)(i f:Nat):bF (bN 41) (bh (ax 41) [1]) 0 99 [0,1,2] [(aY T),(vI (i:Int)),(.func (.func f) #[] #[])]
 [aD (br (i:Int) (T.size:Int)) true,
  aD (br (i:Int) (T.size:Int)) true,
  aD (br (i:Int) (T.size:Int)) true,
  aD (br (i:Int) (T.size:Int)) true,
  .idx (i:Int) T.size i,
  aD (br (i:Int) (T.size:Int)) true,
  .fT (.func (.func f) #[] #[]) [(.int .u8 (aF T i:Nat))] (.bool true),
  aD (br (i:Int) (T.size:Int)) true,
  bV]
 .normal [0,1,2] [(aY T),(vI (bB (i:Int) 1)),(.func (.func f) #[] #[])]:=eF
theorem ajS (i:Nat):bF (bN 41) (ax 41) 2 99 [1] [(vI (i:Int))]
 []
 .ret [6] [(vI (i:Int))]:=eF
theorem c77 {b:Nat}(hb:b<256):Ev K 77 [vU b] m (.bool (zM b)) m:=by
 unfold zM;have h1:=c43 (K:=K) (m:=m) hb;have h2:=c45 (K:=K) (m:=m) hb;cases h:isLt b with
 |true=>rw[h]at h1;exact ak (aj1 b) jY
 |false=>rw[h]at h1;rw[Bool.false_or];exact ak (aj2 b (ou b)) jY
def uZ (p:Nat->Bool)(T:ByteArray):Nat->Nat->Nat
 |0,i=>i
 |k+1,i=>if p (aF T i)then uZ p T k (i+1)else i
def jb (p:Nat->Bool)(T:ByteArray)(i:Nat):Nat:=uZ p T (T.size-i) i
theorem EE {p:Nat->Bool}{T:ByteArray}:∀{k i:Nat},i<=uZ p T k i/\uZ p T k i<=i+k
 |0,i=>⟨ai _,ai _⟩
 |k+1,i=>by
  unfold uZ
  split
  ·have :=EE (p:=p) (T:=T) (k:=k) (i:=i+1);omega
  ·omega
theorem xO {p:Nat->Bool}{T:ByteArray}{i:Nat}(h:i<=T.size):jb p T i<=T.size:=by
 have :=(EE (p:=p) (T:=T) (k:=T.size-i) (i:=i)).2;unfold jb;omega
theorem c41 {T:ByteArray}{p:Nat->Bool}{f:Nat}(hp:∀{b:Nat},b<256->Ev K f [vU b] m (.bool (p b)) m){i:Nat}(hi:i<=T.size)(hT:T.size<99999):
  Ev K 41 [.string T,vI (i:Int),.func (.func f) #[] #[]] m (vI (jb p T i:Nat)) m:=by
 obtain⟨t0,h0,e0⟩:=bQ (K:=K) (tm:=entry [.string T,vI (i:Int),.func (.func f) #[] #[]]) (ajT T i f) rfl (.nil (m:=m));obtain⟨e,t1,m1,he,hx,rfl,rfl,WN⟩:=jP (K:=K) (nt:=bN 41) (a:=bh (ax 41) [1])
  (Inv:=fun n tm m'=>m'=m/\∃j,n=T.size-j/\j<=T.size/\cH [0,1,2] tm=[.string T,vI (j:Int),.func (.func f) #[] #[]]/\jb p T i=uZ p T (T.size-j) j)
  (dA:=fun e tm m'=>m'=m/\e= .exit 0/\cH [1] tm=[vI (jb p T i:Nat)])
  (by
   rintro n tm m1 ⟨rfl,j,rfl,hj,hg,hr⟩
   by_cases h1:j<T.size
   ·have c1:(.bool (br (j:Int) (T.size:Int)):af)= .bool true:=by rw[bZ,dZ av]
    have c2:=hp (B6 T j);have hk:T.size-j=(T.size-(j+1))+1:=av;cases hb:p (aF T j)with
    |true=>
     rw[hb]at c2;obtain⟨t2,dk,dm⟩:=aU (K:=K) (m:=m1) (m':=m1) JQ (ajQ T j f) hg jY;exact .inl ⟨_,t2,m1,av,dk,rfl,j+1,rfl,h1,by rw[dm,gH ⟨av,av⟩];rfl,by rw[hr,hk];conv=>lhs;unfold uZ;rw[bL hb]⟩
    |false=>
     rw[hb]at c2;obtain⟨t2,dk,dm⟩:=aU (K:=K) (m:=m1) (m':=m1) JQ (ajR T j f) hg jY;exact .inr ⟨_,t2,m1,(fun h=>by cases h),dk,rfl,rfl,by rw[dm,hr,hk];unfold uZ;rw[bT (by rw[hb];decide)]⟩
   ·have c1:(.bool (br (j:Int) (T.size:Int)):af)= .bool false:=by rw[bZ,eO av]
    obtain⟨t2,dk,dm⟩:=aU (K:=K) (m:=m1) (m':=m1) JQ (ajP T j f) hg jY;exact .inr ⟨_,t2,m1,(fun h=>by cases h),dk,rfl,rfl,by rw[dm,hr,show T.size-j=0 by omega];rfl⟩)
  (n:=T.size-i) (k:=100000) (tm:=t0) (m:=m) ⟨rfl,i,rfl,hi,e0,rfl⟩ av
 obtain⟨t2,h2,e2⟩:=bQ (K:=K) (ajS (jb p T i)) WN (.nil (m:=m1));exact fg ak0 (aX.cut h0 (aX.iH aa5 aa9 hx rfl (aX.last h2 QO))) (.inr rfl) e2
end
end Go.AM
namespace Go.AM
set_option maxRecDepth 1000000
open Go Go.Conc Go.Proofs
theorem Io {P:aE}{n IE:Nat}{k:BoundsCode}(h:n<=IE):(Instr.sliceBound (vI (n:Int)) IE k).aP P=some n:=by
 unfold Instr.sliceBound;have e:(asIntOf (vI (n:Int)):Sem _).aP P=some (.i64,(n:Int)):=rfl;rw[gU,e]
 show Sem.aP P (if 0<=(n:Int)/\(n:Int)<=IE then pure (n:Int).toNat else _)=_
 rw[bL av];rfl
theorem vZ {s:ByteArray}{lo hi:Nat}(h1:lo<=hi)(h2:hi<=s.size):sN ae 9 s (some (vI (lo:Int))) (some (vI (hi:Int)))=some (.string (s.extract lo hi)):=by
 refine wo rfl ?_ rfl;unfold Instr.sliceAt Instr.slice Instr.sliceBounds;simp only[gU,dD UE,cz,mZ,Io h2,Io h1,Option.isSome_none,bu,if_false]
end Go.AM
namespace Go.AM
set_option maxRecDepth 1000000
open Go Go.Conc Go.Proofs
noncomputable def xM(f:Nat):Code:=match ax f with | .seq a (.scope _)=>a|_=> .skip
noncomputable def fo(f:Nat):Code:=match ax f with | .seq _ (.scope b)=>b|_=> .skip
noncomputable def Mb(f:Nat):Bool:=match ax f with | .seq _ (.scope _)=>true|_=>false
noncomputable def ED(f n:Nat)(is:List Nat):Bool:=mQ f&&Mb f&&codeOk (bN f) (xM f)&&codeOk (bN f) (fo f)&&GI (bN f) (XT f) is&&Nat.ble n (bN f)&&Nat.ble n 16
theorem Gy {K:iK}{f:Nat}{args:List af}{m m':Mem}{lL:Ss}{eG:Tm}{e:Exit}{is:List Nat}{vs:List af}(jA:ED f args.length is=true)(h1:uR K (bN f) (xM f) ⟨entry args,m,[]⟩ .normal lL)(h2:uR K (bN f) (fo f) lL e ⟨eG,m',[]⟩)
  (he:e= .normal\/e= .ret)(hg:cH is eG=vs)(hs:ig f=false:=by rfl):Ev K f args m (Qe vs) m':=by
 unfold ED at jA;simp only[aj]at jA;obtain⟨⟨⟨⟨⟨⟨k1,k2⟩,k3⟩,k4⟩,k5⟩,k6⟩,k7⟩:=jA;obtain⟨t,ht⟩:=tI (l:=args) (ag k7);have Fu:entry args=t:=by unfold entry;rw[ht]
 rw[Fu]at h1;refine Ah k1 (tm:=t) (eG:=eG) (by rw[bL k6,ht]) ?_ he (v:=Qe vs) ?_ hs
 ·obtain⟨N,h1⟩:=h1;obtain⟨N',h2⟩:=h2;have hc:ax f= .seq (xM f) (.scope (fo f)):=by
   unfold Mb at k2;unfold xM fo
   split at k2
   ·rename_i a b W1;rw[W1]
   ·cases k2
  have aho:∃g,comp ae (bN f) 1000 (ax f)=some g:=by
   unfold mQ at k1
   split at k1
   ·rename_i fn Ga
    split at k1
    ·rename_i c uw;rw[aj]at k1;have e1:bN f=fn.ntmps:=by unfold bN;rw[Ga]
     have e2:ax f=c:=by unfold ax;rw[Ga];simp only[cz,uw]
     rw[e1,e2];exact qF.1 k1.2
    ·cases k1
   ·cases k1
  obtain⟨g,WX⟩:=aho;refine⟨N+N',fun M n x y=>⟨g,WX,?_⟩⟩;obtain⟨fa,ha,ea⟩:=h1 M n av av;obtain⟨fb,hb,eb⟩:=h2 M n av av;rw[hc]at WX;unfold comp at WX;simp only[]at WX
  split at WX
  ·rename_i fa' ni
   split at WX
   ·rename_i fs hfs;cases WX;have :=(jk (iZ k3).1 ni).symm.trans ha;cases this;unfold comp at hfs;simp only[]at hfs
    split at hfs
    ·rename_i fb' gN;cases hfs;have :=(jk (iZ k4).1 (jk (iZ k4).1 gN)).symm.trans hb;cases this;unfold nQ;rw[ea]
     show sR _ _ (K.C M n) (999+1) fb lL=_
     unfold sR;rw[eb];rcases he with rfl|rfl<;>rfl
    ·cases hfs
   ·cases WX
  ·cases WX
 ·unfold j1;rw[EI k5,hg];unfold Qe
  match vs with
  | []=>rfl
  | [v]=>rfl
  |v::w::l=>rfl
end Go.AM
namespace Go.AM
set_option maxRecDepth 1000000
open Go Go.Conc Go.Proofs
section
variable {K:iK}{m:Mem}
theorem Ya:ED 118 2 [4]=true:=bp
theorem Vi:codeOk (bN 118) (xM 118)=true:=bp
theorem LH:codeOk (bN 118) (fo 118)=true:=bp
theorem LZ:dT (fo 118) 2=some (0,(bh (fo 118) [2])):=bp
theorem nh:codeOk (bN 118) (bh (fo 118) [2])=true:=bp
theorem L7:eI (bN 118) (fo 118) (bh (fo 118) [2]) 2 0=true:=bp
theorem aeK (s t:ByteArray):bF (bN 118) (xM 118) 0 99 [0,1] [(aY s),(aY t)]
 []
 .normal [0,1] [(aY s),(aY t)]:=eF
theorem aeO (s t:ByteArray):bF (bN 118) (fo 118) 0 2 [0,1] [(aY s),(aY t)]
 []
 .normal [0,1,5,6] [(aY s),(aY t),(vI 0),(vI (qG false (s.size:Int) (t.size:Int)))]:=eF
theorem aeL (s t:ByteArray)(i n:Nat):bF (bN 118) (bh (fo 118) [2]) 0 99 [0,1,5,6] [(aY s),(aY t),(vI (i:Int)),(vI (n:Int))]
 [aD (br (i:Int) (n:Int)) false]
 (.exit 0) [0,1] [(aY s),(aY t)]:=eF
theorem aeN (s t:ByteArray)(i n:Nat)(x:Nat):bF (bN 118) (bh (fo 118) [2]) 0 99 [0,1,5,6] [(aY s),(aY t),(vI (i:Int)),(vI (n:Int))]
 [aD (br (i:Int) (n:Int)) true,
  .idx (i:Int) s.size i,
  .idx (i:Int) t.size i,
  .val (pq Nat.lor .u8 (aF s i:Nat) (aF t i:Nat) (iP ae .or 5 false false (.int .u8 (aF s i:Nat)) (.int .u8 (aF t i:Nat)))) (.int .u8 (x:Int)),
  aD (iE (x:Int) 128) false,
  aD (aZ (aF t i:Nat) (aF s i:Nat)) true]
 .normal [0,1,5,6] [(aY s),(aY t),(vI (bB (i:Int) 1)),(vI (n:Int))]:=eF
theorem ZQ (s t:ByteArray)(i n:Nat)(x:Nat):bF (bN 118) (bh (fo 118) [2]) 0 99 [0,1,5,6] [(aY s),(aY t),(vI (i:Int)),(vI (n:Int))]
 [aD (br (i:Int) (n:Int)) true,
  .idx (i:Int) s.size i,
  .idx (i:Int) t.size i,
  .val (pq Nat.lor .u8 (aF s i:Nat) (aF t i:Nat) (iP ae .or 5 false false (.int .u8 (aF s i:Nat)) (.int .u8 (aF t i:Nat)))) (.int .u8 (x:Int)),
  aD (iE (x:Int) 128) false,
  aD (aZ (aF t i:Nat) (aF s i:Nat)) false,
  aD (br (aF t i:Nat) (aF s i:Nat)) true,
  aD (fW 65 (aF t i:Nat)) true,
  aD (fW 65 (aF t i:Nat)) true,
  aD (fW 65 (aF t i:Nat)) true,
  aD (fW (aF t i:Nat) 90) true,
  aD (fW (aF t i:Nat) 90) true,
  aD (fW (aF t i:Nat) 90) true,
  aD (fW (aF t i:Nat) 90) true,
  aD (fW (aF t i:Nat) 90) true,
  aD (fW (aF t i:Nat) 90) true,
  aD (aZ (aF s i:Nat) (lH oe Int.sub .u8 (lH ml Int.add .u8 (aF t i:Nat) 97) 65)) true]
 .normal [0,1,5,6] [(aY s),(aY t),(vI (bB (i:Int) 1)),(vI (n:Int))]:=eF
theorem ZT (s t:ByteArray)(i n:Nat)(x:Nat):bF (bN 118) (bh (fo 118) [2]) 0 99 [0,1,5,6] [(aY s),(aY t),(vI (i:Int)),(vI (n:Int))]
 [aD (br (i:Int) (n:Int)) true,
  .idx (i:Int) s.size i,
  .idx (i:Int) t.size i,
  .val (pq Nat.lor .u8 (aF s i:Nat) (aF t i:Nat) (iP ae .or 5 false false (.int .u8 (aF s i:Nat)) (.int .u8 (aF t i:Nat)))) (.int .u8 (x:Int)),
  aD (iE (x:Int) 128) false,
  aD (aZ (aF t i:Nat) (aF s i:Nat)) false,
  aD (br (aF t i:Nat) (aF s i:Nat)) true,
  aD (fW 65 (aF t i:Nat)) false,
  aD (fW 65 (aF t i:Nat)) false,
  aD (fW 65 (aF t i:Nat)) false,
  bm,
  bm,
  bm,
  bm,
  bm,
  bm,
  bm]
 .ret [4] [(.bool false)]:=eF
theorem ZS (s t:ByteArray)(i n:Nat)(x:Nat):bF (bN 118) (bh (fo 118) [2]) 0 99 [0,1,5,6] [(aY s),(aY t),(vI (i:Int)),(vI (n:Int))]
 [aD (br (i:Int) (n:Int)) true,
  .idx (i:Int) s.size i,
  .idx (i:Int) t.size i,
  .val (pq Nat.lor .u8 (aF s i:Nat) (aF t i:Nat) (iP ae .or 5 false false (.int .u8 (aF s i:Nat)) (.int .u8 (aF t i:Nat)))) (.int .u8 (x:Int)),
  aD (iE (x:Int) 128) false,
  aD (aZ (aF t i:Nat) (aF s i:Nat)) false,
  aD (br (aF t i:Nat) (aF s i:Nat)) true,
  aD (fW 65 (aF t i:Nat)) true,
  aD (fW 65 (aF t i:Nat)) true,
  aD (fW 65 (aF t i:Nat)) true,
  aD (fW (aF t i:Nat) 90) false,
  aD (fW (aF t i:Nat) 90) false,
  aD (fW (aF t i:Nat) 90) false,
  aD (fW (aF t i:Nat) 90) false,
  aD (fW (aF t i:Nat) 90) false,
  aD (fW (aF t i:Nat) 90) false,
  bm]
 .ret [4] [(.bool false)]:=eF
theorem ZR (s t:ByteArray)(i n:Nat)(x:Nat):bF (bN 118) (bh (fo 118) [2]) 0 99 [0,1,5,6] [(aY s),(aY t),(vI (i:Int)),(vI (n:Int))]
 [aD (br (i:Int) (n:Int)) true,
  .idx (i:Int) s.size i,
  .idx (i:Int) t.size i,
  .val (pq Nat.lor .u8 (aF s i:Nat) (aF t i:Nat) (iP ae .or 5 false false (.int .u8 (aF s i:Nat)) (.int .u8 (aF t i:Nat)))) (.int .u8 (x:Int)),
  aD (iE (x:Int) 128) false,
  aD (aZ (aF t i:Nat) (aF s i:Nat)) false,
  aD (br (aF t i:Nat) (aF s i:Nat)) true,
  aD (fW 65 (aF t i:Nat)) true,
  aD (fW 65 (aF t i:Nat)) true,
  aD (fW 65 (aF t i:Nat)) true,
  aD (fW (aF t i:Nat) 90) true,
  aD (fW (aF t i:Nat) 90) true,
  aD (fW (aF t i:Nat) 90) true,
  aD (fW (aF t i:Nat) 90) true,
  aD (fW (aF t i:Nat) 90) true,
  aD (fW (aF t i:Nat) 90) true,
  aD (aZ (aF s i:Nat) (lH oe Int.sub .u8 (lH ml Int.add .u8 (aF t i:Nat) 97) 65)) false]
 .ret [4] [(.bool false)]:=eF
theorem ZU (s t:ByteArray)(i n:Nat)(x:Nat):bF (bN 118) (bh (fo 118) [2]) 0 99 [0,1,5,6] [(aY s),(aY t),(vI (i:Int)),(vI (n:Int))]
 [aD (br (i:Int) (n:Int)) true,
  .idx (i:Int) s.size i,
  .idx (i:Int) t.size i,
  .val (pq Nat.lor .u8 (aF s i:Nat) (aF t i:Nat) (iP ae .or 5 false false (.int .u8 (aF s i:Nat)) (.int .u8 (aF t i:Nat)))) (.int .u8 (x:Int)),
  aD (iE (x:Int) 128) false,
  aD (aZ (aF t i:Nat) (aF s i:Nat)) false,
  aD (br (aF t i:Nat) (aF s i:Nat)) false,
  aD (fW 65 (aF s i:Nat)) true,
  aD (fW 65 (aF s i:Nat)) true,
  aD (fW 65 (aF s i:Nat)) true,
  aD (fW (aF s i:Nat) 90) true,
  aD (fW (aF s i:Nat) 90) true,
  aD (fW (aF s i:Nat) 90) true,
  aD (fW (aF s i:Nat) 90) true,
  aD (fW (aF s i:Nat) 90) true,
  aD (fW (aF s i:Nat) 90) true,
  aD (aZ (aF t i:Nat) (lH oe Int.sub .u8 (lH ml Int.add .u8 (aF s i:Nat) 97) 65)) true]
 .normal [0,1,5,6] [(aY s),(aY t),(vI (bB (i:Int) 1)),(vI (n:Int))]:=eF
theorem ZX (s t:ByteArray)(i n:Nat)(x:Nat):bF (bN 118) (bh (fo 118) [2]) 0 99 [0,1,5,6] [(aY s),(aY t),(vI (i:Int)),(vI (n:Int))]
 [aD (br (i:Int) (n:Int)) true,
  .idx (i:Int) s.size i,
  .idx (i:Int) t.size i,
  .val (pq Nat.lor .u8 (aF s i:Nat) (aF t i:Nat) (iP ae .or 5 false false (.int .u8 (aF s i:Nat)) (.int .u8 (aF t i:Nat)))) (.int .u8 (x:Int)),
  aD (iE (x:Int) 128) false,
  aD (aZ (aF t i:Nat) (aF s i:Nat)) false,
  aD (br (aF t i:Nat) (aF s i:Nat)) false,
  aD (fW 65 (aF s i:Nat)) false,
  aD (fW 65 (aF s i:Nat)) false,
  aD (fW 65 (aF s i:Nat)) false,
  bm,
  bm,
  bm,
  bm,
  bm,
  bm,
  bm]
 .ret [4] [(.bool false)]:=eF
theorem ZW (s t:ByteArray)(i n:Nat)(x:Nat):bF (bN 118) (bh (fo 118) [2]) 0 99 [0,1,5,6] [(aY s),(aY t),(vI (i:Int)),(vI (n:Int))]
 [aD (br (i:Int) (n:Int)) true,
  .idx (i:Int) s.size i,
  .idx (i:Int) t.size i,
  .val (pq Nat.lor .u8 (aF s i:Nat) (aF t i:Nat) (iP ae .or 5 false false (.int .u8 (aF s i:Nat)) (.int .u8 (aF t i:Nat)))) (.int .u8 (x:Int)),
  aD (iE (x:Int) 128) false,
  aD (aZ (aF t i:Nat) (aF s i:Nat)) false,
  aD (br (aF t i:Nat) (aF s i:Nat)) false,
  aD (fW 65 (aF s i:Nat)) true,
  aD (fW 65 (aF s i:Nat)) true,
  aD (fW 65 (aF s i:Nat)) true,
  aD (fW (aF s i:Nat) 90) false,
  aD (fW (aF s i:Nat) 90) false,
  aD (fW (aF s i:Nat) 90) false,
  aD (fW (aF s i:Nat) 90) false,
  aD (fW (aF s i:Nat) 90) false,
  aD (fW (aF s i:Nat) 90) false,
  bm]
 .ret [4] [(.bool false)]:=eF
theorem ZV (s t:ByteArray)(i n:Nat)(x:Nat):bF (bN 118) (bh (fo 118) [2]) 0 99 [0,1,5,6] [(aY s),(aY t),(vI (i:Int)),(vI (n:Int))]
 [aD (br (i:Int) (n:Int)) true,
  .idx (i:Int) s.size i,
  .idx (i:Int) t.size i,
  .val (pq Nat.lor .u8 (aF s i:Nat) (aF t i:Nat) (iP ae .or 5 false false (.int .u8 (aF s i:Nat)) (.int .u8 (aF t i:Nat)))) (.int .u8 (x:Int)),
  aD (iE (x:Int) 128) false,
  aD (aZ (aF t i:Nat) (aF s i:Nat)) false,
  aD (br (aF t i:Nat) (aF s i:Nat)) false,
  aD (fW 65 (aF s i:Nat)) true,
  aD (fW 65 (aF s i:Nat)) true,
  aD (fW 65 (aF s i:Nat)) true,
  aD (fW (aF s i:Nat) 90) true,
  aD (fW (aF s i:Nat) 90) true,
  aD (fW (aF s i:Nat) 90) true,
  aD (fW (aF s i:Nat) 90) true,
  aD (fW (aF s i:Nat) 90) true,
  aD (fW (aF s i:Nat) 90) true,
  aD (aZ (aF t i:Nat) (lH oe Int.sub .u8 (lH ml Int.add .u8 (aF s i:Nat) 97) 65)) false]
 .ret [4] [(.bool false)]:=eF
theorem aeM (s t:ByteArray):bF (bN 118) (fo 118) 3 5 [0,1] [(aY s),(aY t)]
 []
 .ret [4] [(.bool (aZ (s.size:Int) (t.size:Int)))]:=eF
theorem PL {n:Int}(h:0<=n/\n<256):cQ.u8.wrap n=n:=by
 obtain⟨k,rfl⟩:∃k:Nat,n=(k:Int):=⟨n.toNat,av⟩;exact mr (k:= .u8) (by rw[jT,jE];show k<256;omega)
theorem aiX {i j:Int}(h:0<=i+j/\i+j<256):lH ml Int.add .u8 i j=i+j:=
 (vD fun n h=>by unfold ml at h;split at h<;>first |(cases h;rfl)|cases h).trans (PL h)
theorem Ni {i j:Int}{n:Nat}(h:oe i j=some n):Int.sub i j=n:=by
 unfold oe at h
 split at h
 ·split at h
  ·rename_i a b hb;cases h;have :=ag hb
   show((a:Int)-(b:Int))=((a-b:Nat):Int)
   omega
  ·cases h
 ·cases h
theorem Zp {i j:Int}(h:0<=i-j/\i-j<256):lH oe Int.sub .u8 i j=i-j:=(vD fun n h=>Ni h).trans (PL h)
theorem alm {a b:Nat}{d:Option af}(ha:a<256)(hb:b<256):pq Nat.lor .u8 (a:Int) (b:Int) d=some (vU (a|||b)):=by
 show(match Nat.blt a 256&&Nat.blt b 256 with |true=>_|false=>_)=_
 rw[jT,jT,dZ ha,dZ hb];rfl
def w6 (a b:Nat):Bool:=a==b||(Nat.ble 65 (min a b)&&Nat.ble (min a b) 90&&max a b==min a b+32)
def tn (s t:ByteArray):Nat->Bool
 |0=>true
 |n+1=>tn s t n&&w6 (aF s n) (aF t n)
def wY (s t:ByteArray):Bool:=tn s t (min s.size t.size)&&s.size==t.size
theorem zn {s t:ByteArray}{i:Nat}(h:w6 (aF s i) (aF t i)=false):∀{n:Nat},i<n->tn s t n=false
 |0,hn=>by omega
 |n+1,hn=>by
  unfold tn
  by_cases he:i=n
  ·subst he;rw[h,Bool.and_false]
  ·rw[zn h av,Bool.false_and]
def xr (s:ByteArray):Prop:=∀i,aF s i<128
theorem agz {a b:Nat}(ha:a<128)(hb:b<128):a|||b<128:=Nat.or_lt_two_pow (n:=7) ha hb
theorem FQ {a b:Nat}:(af.bool (aZ (a:Int) (b:Int)))= .bool (a==b):=by rw[cu];congr 1;rw[Bool.eq_iff_iff];simp;omega
theorem sB {a b:Nat}:(af.bool (br (a:Int) (b:Int)))= .bool (decide (a<b)):=by rw[bZ];congr 1;rw[Bool.eq_iff_iff];simp
theorem uC {a b:Nat}:(af.bool (fW (a:Int) (b:Int)))= .bool (decide (a<=b)):=by rw[RR];congr 1;rw[Bool.eq_iff_iff];simp
theorem BF {a b:Nat}(hb:b<=90):af.bool (aZ (a:Int) (lH oe Int.sub .u8 (lH ml Int.add .u8 (b:Int) 97) 65))= .bool (a==b+32):=by
 rw[aiX ⟨av,av⟩,Zp ⟨av,av⟩,cu];congr 1;rw[Bool.eq_iff_iff];simp;omega
theorem am8 {s t:ByteArray}(hs:xr s)(ht:xr t)(hn:s.size<90000):Ev K 118 [.string s,.string t] m (.bool (wY s t)) m:=by
 obtain⟨tz,hz,ez⟩:=aU (K:=K) (tm:=entry [.string s,.string t]) Vi (aeK s t) rfl (.nil (m:=m));obtain⟨t0,h0,e0⟩:=bQ (K:=K) (aeO s t) ez (.nil (m:=m));have hmm:qG false (s.size:Int) (t.size:Int)=((min s.size t.size:Nat):Int):=by
  unfold qG;rw[bZ]
  by_cases h:(t.size:Int)<s.size
  ·rw[dZ h];simp only[];omega
  ·rw[eO h];simp only[];omega
 rw[hmm]at e0;obtain⟨N,hN⟩:∃N,N=min s.size t.size:=⟨_,rfl⟩;rw[<-hN]at e0;obtain⟨e,t1,m1,he,hx,rfl,hp⟩:=jP (K:=K) (nt:=bN 118) (a:=bh (fo 118) [2])
  (Inv:=fun n tm m'=>m'=m/\∃j,n=N-j/\j<=N/\cH [0,1,5,6] tm=[.string s,.string t,vI (j:Int),vI (N:Int)]/\tn s t j=true)
  (dA:=fun e tm m'=>m'=m/\((e= .exit 0/\cH [0,1] tm=[.string s,.string t]/\tn s t N=true)\/(e= .ret/\cH [4] tm=[.bool (wY s t)])))
  (by
   rintro n tm m1 ⟨rfl,i,rfl,hi,hg,hf⟩
   by_cases h1:i<N
   ·have c1:(.bool (br (i:Int) (N:Int)):af)= .bool true:=by rw[sB,dZ h1]
    have hi1:i<s.size:=av;have hi2:i<t.size:=av;have ha:=hs i;have hb:=ht i;have cv:=alm (d:=iP ae .or 5 false false (.int .u8 (aF s i:Nat)) (.int .u8 (aF t i:Nat))) (a:=aF s i) (b:=aF t i) av av;have c0:(.bool (iE ((aF s i|||aF t i:Nat):Int) 128):af)= .bool false:=by rw[qz,eO (by have :=agz ha hb;omega)]
    have abU:∀{xH:Tm},uR K (bN 118) (bh (fo 118) [2]) ⟨tm,m1,[]⟩ .normal ⟨xH,m1,[]⟩->cH [0,1,5,6] xH=[.string s,.string t,vI (bB (i:Int) 1),vI (N:Int)]->w6 (aF s i) (aF t i)=true->_:=fun{xH} dk dm Fq=>Or.inl
     (b:=∃e eG m',e≠Exit.normal/\uR K (bN 118) (bh (fo 118) [2]) ⟨tm,m1,[]⟩ e ⟨eG,m',[]⟩/\m'=m1/\((e= .exit 0/\cH [0,1] eG=[.string s,.string t]/\tn s t N=true)\/(e= .ret/\cH [4] eG=[.bool (wY s t)])))
     (⟨N-(i+1),xH,m1,av,dk,rfl,i+1,rfl,h1,by rw[dm,gH ⟨av,av⟩];rfl,by unfold tn;rw[hf,Fq];rfl⟩:
      ∃n' eG m',n'<N-i/\uR K (bN 118) (bh (fo 118) [2]) ⟨tm,m1,[]⟩ .normal ⟨eG,m',[]⟩/\m'=m1/\∃j,n'=N-j/\j<=N/\cH [0,1,5,6] eG=[.string s,.string t,vI (j:Int),vI (N:Int)]/\tn s t j=true)
    have bad:∀{xH:Tm},uR K (bN 118) (bh (fo 118) [2]) ⟨tm,m1,[]⟩ .ret ⟨xH,m1,[]⟩->cH [4] xH=[.bool false]->w6 (aF s i) (aF t i)=false->_:=fun{xH} dk dm Fq=>Or.inr
     (a:=∃n' eG m',n'<N-i/\uR K (bN 118) (bh (fo 118) [2]) ⟨tm,m1,[]⟩ .normal ⟨eG,m',[]⟩/\m'=m1/\∃j,n'=N-j/\j<=N/\cH [0,1,5,6] eG=[.string s,.string t,vI (j:Int),vI (N:Int)]/\tn s t j=true)
     (⟨.ret,xH,m1,(fun h=>by cases h),dk,rfl,.inr ⟨rfl,by rw[dm];unfold wY;rw[zn Fq av];rfl⟩⟩:
      ∃e eG m',e≠Exit.normal/\uR K (bN 118) (bh (fo 118) [2]) ⟨tm,m1,[]⟩ e ⟨eG,m',[]⟩/\m'=m1/\((e= .exit 0/\cH [0,1] eG=[.string s,.string t]/\tn s t N=true)\/(e= .ret/\cH [4] eG=[.bool (wY s t)])))
    by_cases h2:aF t i=aF s i
    ·have c2:(.bool (aZ (aF t i:Int) (aF s i:Int)):af)= .bool true:=by rw[FQ,h2];simp
     obtain⟨t2,dk,dm⟩:=aU (K:=K) (m:=m1) (m':=m1) nh (aeN s t i N _) hg jY;exact abU dk dm (by unfold w6;rw[h2];simp)
    ·have c2:(.bool (aZ (aF t i:Int) (aF s i:Int)):af)= .bool false:=by rw[FQ];simpa using h2
     by_cases h3:aF t i<aF s i
     ·have c3:(.bool (br (aF t i:Int) (aF s i:Int)):af)= .bool true:=by rw[sB,dZ h3]
      have Fq:w6 (aF s i) (aF t i)=(decide (65<=aF t i)&&decide (aF t i<=90)&&aF s i==aF t i+32):=by
       unfold w6;rw[Nat.min_eq_right av,Nat.max_eq_left av,p6,p6,show(aF s i==aF t i)=false by simp;omega,Bool.false_or]
      by_cases h4:65<=aF t i
      ·have c4:(.bool (fW 65 (aF t i:Int)):af)= .bool true:=(uC (a:=65)).trans (by rw[dZ h4])
       by_cases h5:aF t i<=90
       ·have c5:(.bool (fW (aF t i:Int) 90):af)= .bool true:=(uC (b:=90)).trans (by rw[dZ h5]);have c6:=BF (a:=aF s i) h5;simp only[h4,h5,decide_true,Bool.true_and]at Fq;cases h6:aF s i==aF t i+32 with
        |true=>
         rw[h6]at c6 Fq;obtain⟨t2,dk,dm⟩:=aU (K:=K) (m:=m1) (m':=m1) nh (ZQ s t i N _) hg jY;exact abU dk dm Fq
        |false=>
         rw[h6]at c6 Fq;obtain⟨t2,dk,dm⟩:=aU (K:=K) (m:=m1) (m':=m1) nh (ZR s t i N _) hg jY;exact bad dk dm Fq
       ·have c5:(.bool (fW (aF t i:Int) 90):af)= .bool false:=(uC (b:=90)).trans (by rw[eO h5]);obtain⟨t2,dk,dm⟩:=aU (K:=K) (m:=m1) (m':=m1) nh (ZS s t i N _) hg jY;exact bad dk dm (by simp[Fq,h5])
      ·have c4:(.bool (fW 65 (aF t i:Int)):af)= .bool false:=(uC (a:=65)).trans (by rw[eO h4]);obtain⟨t2,dk,dm⟩:=aU (K:=K) (m:=m1) (m':=m1) nh (ZT s t i N _) hg jY;exact bad dk dm (by simp[Fq,h4])
     ·have c3:(.bool (br (aF t i:Int) (aF s i:Int)):af)= .bool false:=by rw[sB,eO h3]
      have Fq:w6 (aF s i) (aF t i)=(decide (65<=aF s i)&&decide (aF s i<=90)&&aF t i==aF s i+32):=by
       unfold w6;rw[Nat.min_eq_left av,Nat.max_eq_right av,p6,p6,show(aF s i==aF t i)=false by simp;omega,Bool.false_or]
      by_cases h4:65<=aF s i
      ·have c4:(.bool (fW 65 (aF s i:Int)):af)= .bool true:=(uC (a:=65)).trans (by rw[dZ h4])
       by_cases h5:aF s i<=90
       ·have c5:(.bool (fW (aF s i:Int) 90):af)= .bool true:=(uC (b:=90)).trans (by rw[dZ h5]);have c6:=BF (a:=aF t i) h5;simp only[h4,h5,decide_true,Bool.true_and]at Fq;cases h6:aF t i==aF s i+32 with
        |true=>
         rw[h6]at c6 Fq;obtain⟨t2,dk,dm⟩:=aU (K:=K) (m:=m1) (m':=m1) nh (ZU s t i N _) hg jY;exact abU dk dm Fq
        |false=>
         rw[h6]at c6 Fq;obtain⟨t2,dk,dm⟩:=aU (K:=K) (m:=m1) (m':=m1) nh (ZV s t i N _) hg jY;exact bad dk dm Fq
       ·have c5:(.bool (fW (aF s i:Int) 90):af)= .bool false:=(uC (b:=90)).trans (by rw[eO h5]);obtain⟨t2,dk,dm⟩:=aU (K:=K) (m:=m1) (m':=m1) nh (ZW s t i N _) hg jY;exact bad dk dm (by simp[Fq,h5])
      ·have c4:(.bool (fW 65 (aF s i:Int)):af)= .bool false:=(uC (a:=65)).trans (by rw[eO h4]);obtain⟨t2,dk,dm⟩:=aU (K:=K) (m:=m1) (m':=m1) nh (ZX s t i N _) hg jY;exact bad dk dm (by simp[Fq,h4])
   ·have c1:(.bool (br (i:Int) (N:Int)):af)= .bool false:=by rw[sB,eO h1]
    obtain⟨t2,dk,dm⟩:=aU (K:=K) (m:=m1) (m':=m1) nh (aeL s t i N) hg jY;exact .inr ⟨_,t2,m1,(fun h=>by cases h),dk,rfl,.inl ⟨rfl,dm,by rw[show N=i by omega];exact hf⟩⟩)
  (n:=N) (k:=100000) (tm:=t0) (m:=m) ⟨rfl,0,av,av,e0,rfl⟩ av
 rcases hp with⟨rfl,hg,hf⟩|⟨rfl,hg⟩
 ·obtain⟨t2,h2,e2⟩:=bQ (K:=K) (aeM s t) hg (.nil (m:=m1));rw[FQ]at e2;have :wY s t=(s.size==t.size):=by unfold wY;rw[<-hN,hf,Bool.true_and]
  rw[this];exact Gy Ya hz ((aX.cut h0 (aX.iH LZ L7 hx rfl (aX.left h2 (fun h=>by cases h) bp))).code LH) (.inr rfl) e2
 ·exact Gy Ya hz ((aX.cut h0 (aX.sY LZ L7 hx bp)).code LH) (.inr rfl) hg
end
end Go.AM
namespace Go.AM
set_option maxRecDepth 1000000
open Go Go.Conc Go.Proofs
def spL:List ByteArray:=[⟨#[]⟩,⟨#[]⟩,⟨#[]⟩,⟨#[]⟩,⟨#[]⟩,⟨#[40]⟩,⟨#[41]⟩,⟨#[44]⟩,⟨#[46]⟩,⟨#[59]⟩,⟨#[42]⟩,⟨#[61]⟩,⟨#[60,62]⟩,⟨#[60]⟩,⟨#[60,61]⟩,⟨#[62]⟩,⟨#[62,61]⟩,⟨#[43]⟩,⟨#[45]⟩,⟨#[47]⟩,⟨#[37]⟩,⟨#[124,124]⟩,⟨#[65,76,76]⟩,⟨#[65,78,68]⟩,⟨#[65,83]⟩,⟨#[66,79,79,76]⟩,⟨#[67,82,69,65,84,69]⟩,⟨#[70,65,76,83,69]⟩,⟨#[70,82,79,77]⟩,⟨#[73,78,83,69,82,84]⟩,⟨#[73,78,84]⟩,⟨#[73,78,84,79]⟩,⟨#[73,83]⟩,⟨#[74,79,73,78]⟩,⟨#[78,79,84]⟩,⟨#[78,85,76,76]⟩,⟨#[79,78]⟩,⟨#[79,82]⟩,⟨#[82,69,67,85,82,83,73,86,69]⟩,⟨#[83,69,76,69,67,84]⟩,⟨#[84,65,66,76,69]⟩,⟨#[84,69,88,84]⟩,⟨#[84,82,85,69]⟩,⟨#[85,78,73,79,78]⟩,⟨#[86,65,76,85,69,83]⟩,⟨#[87,72,69,82,69]⟩,⟨#[87,73,84,72]⟩]
def iU (m:Mem):Prop:=Obj m 0 0 (spL.map .string)
theorem iU.ext{m m':Mem}{S:Nat->Prop}(h:iU m)(k:Kp m m' S)(hs:¬S 0):iU m':=Obj.ext h k hs
theorem iU.aM{m m':Mem}(h:iU m)(k:Kp m m' eU):iU m':=Obj.aM h k
def Cw (k:Nat):ByteArray:=spL.getD k .empty
theorem Il {s:ByteArray}{i:Nat}(h:s.size<=i):aF s i=0:=by
 have key:∀(l:List UInt8) (i:Nat),l.length<=i->qE l i=none:=by
  intro l
  induction l with
  |nil=>intro i _;cases i<;>rfl
  |cons a l ih=>intro i hi;cases i with
   |zero=>simp at hi
   |succ i=>exact ih i (by simpa using hi)
 unfold aF;rw[key s.data.toList i (by simpa using h)]
theorem tZ {s:ByteArray}{i:Nat}{b:UInt8}(h:s.data.toList[i]?=some b):aF s i=b.toNat:=by
 have key:∀(l:List UInt8) (i:Nat) (b:UInt8),l[i]?=some b->qE l i=some b:=by
  intro l
  induction l with
  |nil=>intro i b h;simp at h
  |cons a l ih=>intro i b h;cases i with
   |zero=>simpa[qE]using h
   |succ i=>exact ih i b (by simpa using h)
 unfold aF;rw[key _ _ _ h]
theorem Cb {s:ByteArray}(h:(s.data.toList.all fun b=>decide (b.toNat<128))=true):xr s:=by
 intro i
 by_cases hi:i<s.data.toList.length
 ·rw[tZ (List.getElem?_eq_getElem hi)];have :=aV.1 h _ (List.getElem_mem hi);simpa using this
 ·rw[Il (by simpa using hi)];decide
theorem Lp (k:Nat):xr (Cw k)/\(Cw k).size<90000:=by
 have h:(spL.all fun s=>(s.data.toList.all fun b=>decide (b.toNat<128))&&decide (s.size<90000))=true:=dB;unfold Cw;rw[List.getD_eq_getElem?_getD];cases hk:spL[k]? with
 |none=>exact⟨Cb rfl,dB⟩
 |some s=>
  have :=aV.1 h s (List.mem_of_getElem? hk);rw[aj]at this;exact⟨Cb this.1,of_decide_eq_true this.2⟩
def AE (w:ByteArray):Nat->Nat->Nat
 |0,_=>0
 |c+1,k=>if wY (Cw k) w then k else AE w c (k+1)
def spell (w:ByteArray)(first last:Nat):Nat:=AE w (last+1-first) first
section
variable {K:iK}{m:Mem}
theorem agA:jR 78 3 [6]=true:=bp
theorem QM:(du (ax 78)).length<=99:=ag bp
theorem Ru:dT (ax 78) 2=some (0,(bh (ax 78) [2])):=bp
theorem JP:codeOk (bN 78) (bh (ax 78) [2])=true:=bp
theorem RB:eI (bN 78) (ax 78) (bh (ax 78) [2]) 2 0=true:=bp
theorem ajE (w:ByteArray)(k b:Nat):bF (bN 78) (ax 78) 0 2 [0,1,2] [(aY w),(vI (k:Int)),(vI (b:Int))]
 []
 .normal [0,2,7] [(aY w),(vI (b:Int)),(vI (k:Int))]:=eF
theorem ajA (w:ByteArray)(k b:Nat):bF (bN 78) (bh (ax 78) [2]) 0 99 [0,2,7] [(aY w),(vI (b:Int)),(vI (k:Int))]
 [aD (fW (k:Int) (b:Int)) false]
 (.exit 0) [0] [(aY w)]:=eF
theorem ajB (w:ByteArray)(k b:Nat)(s:ByteArray):bF (bN 78) (bh (ax 78) [2]) 0 99 [0,2,7] [(aY w),(vI (b:Int)),(vI (k:Int))]
 [aD (fW (k:Int) (b:Int)) true,
  .idx (k:Int) 47 k,
  .mem (aI 0 (0+k*1)) (aY s),
  .call 118 [(aY s),(aY w)] (.bool true),
  bV]
 .ret [6] [(vI (k:Int))]:=eF
theorem ajC (w:ByteArray)(k b:Nat)(s:ByteArray):bF (bN 78) (bh (ax 78) [2]) 0 99 [0,2,7] [(aY w),(vI (b:Int)),(vI (k:Int))]
 [aD (fW (k:Int) (b:Int)) true,
  .idx (k:Int) 47 k,
  .mem (aI 0 (0+k*1)) (aY s),
  .call 118 [(aY s),(aY w)] (.bool false),
  bm]
 .normal [0,2,7] [(aY w),(vI (b:Int)),(vI (bB (k:Int) 1))]:=eF
theorem ajD (w:ByteArray):bF (bN 78) (ax 78) 3 99 [0] [(aY w)]
 []
 .ret [6] [(vI 0)]:=eF
theorem c78 {w:ByteArray}{a b:Nat}(hG:iU m)(hw:xr w)(ha:a<=b+1)(hb:b<47):Ev K 78 [.string w,vI (a:Int),vI (b:Int)] m (vI (spell w a b:Nat)) m:=by
 obtain⟨t0,h0,e0⟩:=bQ (K:=K) (tm:=entry [.string w,vI (a:Int),vI (b:Int)]) (ajE w a b) rfl (.nil (m:=m));obtain⟨e,t1,m1,he,hx,rfl,hp⟩:=jP (K:=K) (nt:=bN 78) (a:=bh (ax 78) [2])
  (Inv:=fun n tm m'=>m'=m/\∃j,n=b+1-j/\j<=b+1/\cH [0,2,7] tm=[.string w,vI (b:Int),vI (j:Int)]/\spell w a b=AE w (b+1-j) j)
  (dA:=fun e tm m'=>m'=m/\((e= .exit 0/\cH [0] tm=[.string w]/\spell w a b=0)\/(e= .ret/\cH [6] tm=[vI (spell w a b:Nat)])))
  (by
   rintro n tm m1 ⟨rfl,j,rfl,hj,hg,hf⟩
   by_cases h1:j<=b
   ·have c1:(.bool (fW (j:Int) (b:Int)):af)= .bool true:=by rw[uC,dZ h1]
    have h47:j<47:=av;have ru:(spL.map af.string)[j]?=some (.string (Cw j)):=by
     rw[List.getElem?_map];unfold Cw;rw[List.getD_eq_getElem?_getD,List.getElem?_eq_getElem (by exact h47)];rfl
    have hl:=aJ hG (o:=j*1) (by rw[Nat.mul_one];exact ru);have c2:=am8 (K:=K) (m:=m1) (Lp j).1 hw (Lp j).2;have hl2:aI 0 (0+j*1) m1=some (.string (Cw j),m1):=by rw[Nat.zero_add];exact hl
    have hk:b+1-j=(b+1-(j+1))+1:=av;cases hfe:wY (Cw j) w with
    |true=>
     rw[hfe]at c2;obtain⟨t2,dk,dm⟩:=aU (K:=K) (m:=m1) (m':=m1) JP (ajB w j b (Cw j)) hg jY;exact .inr ⟨_,t2,m1,(fun h=>by cases h),dk,rfl,.inr ⟨rfl,by rw[dm,hf,hk];unfold AE;rw[bL hfe]⟩⟩
    |false=>
     rw[hfe]at c2;obtain⟨t2,dk,dm⟩:=aU (K:=K) (m:=m1) (m':=m1) JP (ajC w j b (Cw j)) hg jY;exact .inl ⟨_,t2,m1,av,dk,rfl,j+1,rfl,av,by rw[dm,gH ⟨av,av⟩];rfl,by rw[hf,hk];conv=>lhs;unfold AE;rw[bT (by rw[hfe];decide)]⟩
   ·have c1:(.bool (fW (j:Int) (b:Int)):af)= .bool false:=by rw[uC,eO h1]
    obtain⟨t2,dk,dm⟩:=aU (K:=K) (m:=m1) (m':=m1) JP (ajA w j b) hg jY;exact .inr ⟨_,t2,m1,(fun h=>by cases h),dk,rfl,.inl ⟨rfl,dm,by rw[hf,show b+1-j=0 by omega];rfl⟩⟩)
  (n:=b+1-a) (k:=100000) (tm:=t0) (m:=m) ⟨rfl,a,rfl,ha,e0,rfl⟩ av
 rcases hp with⟨rfl,hg,hf⟩|⟨rfl,hg⟩
 ·obtain⟨t2,h2,e2⟩:=bQ (K:=K) (ajD w) hg (.nil (m:=m1));rw[hf];exact fg agA (aX.cut h0 (aX.iH Ru RB hx rfl (aX.last h2 QM))) (.inr rfl) e2
 ·exact fg agA (aX.cut h0 (aX.sY Ru RB hx bp)) (.inr rfl) hg
end
end Go.AM
namespace Go.AM
set_option maxRecDepth 1000000
open Go Go.Conc Go.Proofs
def gS (l:List UInt8):List af:=l.map fun b=>vU b.toNat
abbrev bl (s:ByteArray):List UInt8:=s.data.toList
theorem tB (s:ByteArray):(bl s).length=s.size:=Array.length_toList
theorem XH:ae.underlying 72=some (.slice 5):=bp
theorem UF:ae.underlying 5=some (.int .u8):=bp
theorem Au {m:Mem}(g:Gd m){s:ByteArray}(h0:0<s.size)(h1:s.size<=2^40):
  ∃m',ej ae 9 72 (.string s) m=some (vL m.next 0 s.size eP,m')/\Obj m' m.next 1 (gS (bl s))/\Kp m m' eU/\m'.next=m.next+1:=by
 obtain⟨k1,k2,k3⟩:=dC g (k:={kind:=1,sz:=1,cs:=s.data.toList.map fun b=>some (.int .u8 b.toNat)}) (cs:=gS (bl s)) rfl rfl (by unfold gS;rw[List.map_map];rfl);refine⟨_,?_,k1,k2,k3⟩;unfold ej;simp only[UE,XH,UF];rw[bT av]
theorem y7:∀(l:List UInt8),(gS l).mapM (m:=Option) (fun v=>match v with | .int .u8 n=>some (UInt8.ofNat n.toNat)|_=>none)=some l
 | []=>rfl
 |b::l=>by
  show((vU b.toNat::gS l).mapM (m:=Option) _)=_
  rw[List.mapM_cons];have :(UInt8.ofNat ((b.toNat:Int)).toNat)=b:=cK;simp only[this,y7 l];rfl
theorem Gi {m:Mem}{l:List UInt8}{b c sz:Nat}(h:Obj m b sz (gS l)):ej ae 72 9 (vL b 0 l.length c) m=some (.string ⟨l.toArray⟩,m):=by
 unfold ej;simp only[UE,XH,UF];have e:m.dQ b 0 l.length=some (gS l):=kg h (by rw[List.drop_zero];exact List.take_of_length_le (by simp[gS])) (by simp[gS]);rw[e];exact congrArg (Option.map fun bs=>(af.string ⟨bs.toArray⟩,m)) (y7 l)
theorem B7 {s:ByteArray}{i:Nat}(h:i<s.size):aF s i=((bl s)[i]'(by rw[tB];exact h)).toNat:=tZ (List.getElem?_eq_getElem _)
def uq (b:UInt8):UInt8:=if 65<=b.toNat/\b.toNat<=90 then UInt8.ofNat (b.toNat+32)else b
def V4 (s:ByteArray):ByteArray:=⟨((bl s).map uq).toArray⟩
theorem US {α:Type}(l r:List α)(x y:α){i:Nat}(h:i=l.length):(l++x::r).set i y=l++y::r:=by subst h;simp
section
variable {K:iK}{m:Mem}
theorem akY:jR 80 1 [2]=true:=bp
theorem QL:(du (ax 80)).length<=99:=ag bp
theorem aa3:dT (ax 80) 3=some (0,(bh (ax 80) [3])):=bp
theorem EP:codeOk (bN 80) (bh (ax 80) [3])=true:=bp
theorem aa7:eI (bN 80) (ax 80) (bh (ax 80) [3]) 3 0=true:=bp
theorem ajz (s:ByteArray)(p n:Nat):bF (bN 80) (ax 80) 0 3 [0] [(aY s)]
 [.mem (ej ae 9 72 (aY s)) (vL p 0 n eP)]
 .normal [3,8,9,10] [(vL p 0 n eP),(vL p 0 n eP),(vI (n:Int)),(vI 0)]:=eF
theorem aju (p n i:Nat):bF (bN 80) (bh (ax 80) [3]) 0 99 [3,8,9,10] [(vL p 0 n eP),(vL p 0 n eP),(vI (n:Int)),(vI (i:Int))]
 [aD (br (i:Int) (n:Int)) false]
 (.exit 0) [3] [(vL p 0 n eP)]:=eF
theorem ajv (p n i b:Nat):bF (bN 80) (bh (ax 80) [3]) 0 99 [3,8,9,10] [(vL p 0 n eP),(vL p 0 n eP),(vI (n:Int)),(vI (i:Int))]
 [aD (br (i:Int) (n:Int)) true,
  .idx (i:Int) n i,
  .mem (aI p (0+i*1)) (.int .u8 (b:Int)),
  aD (fW 65 (b:Int)) true,
  aD (fW 65 (b:Int)) true,
  aD (fW 65 (b:Int)) true,
  aD (fW (b:Int) 90) true,
  .idx (i:Int) n i,
  .mem (jo p (0+i*1) (.int .u8 (lH ml Int.add .u8 (lH oe Int.sub .u8 (b:Int) 65) 97))) undef]
 .normal [3,8,9,10] [(vL p 0 n eP),(vL p 0 n eP),(vI (n:Int)),(vI (bB (i:Int) 1))]:=eF
theorem ajx (p n i b:Nat):bF (bN 80) (bh (ax 80) [3]) 0 99 [3,8,9,10] [(vL p 0 n eP),(vL p 0 n eP),(vI (n:Int)),(vI (i:Int))]
 [aD (br (i:Int) (n:Int)) true,
  .idx (i:Int) n i,
  .mem (aI p (0+i*1)) (.int .u8 (b:Int)),
  aD (fW 65 (b:Int)) false,
  aD (fW 65 (b:Int)) false,
  aD (fW 65 (b:Int)) false,
  bm]
 .normal [3,8,9,10] [(vL p 0 n eP),(vL p 0 n eP),(vI (n:Int)),(vI (bB (i:Int) 1))]:=eF
theorem ajw (p n i b:Nat):bF (bN 80) (bh (ax 80) [3]) 0 99 [3,8,9,10] [(vL p 0 n eP),(vL p 0 n eP),(vI (n:Int)),(vI (i:Int))]
 [aD (br (i:Int) (n:Int)) true,
  .idx (i:Int) n i,
  .mem (aI p (0+i*1)) (.int .u8 (b:Int)),
  aD (fW 65 (b:Int)) true,
  aD (fW 65 (b:Int)) true,
  aD (fW 65 (b:Int)) true,
  aD (fW (b:Int) 90) false]
 .normal [3,8,9,10] [(vL p 0 n eP),(vL p 0 n eP),(vI (n:Int)),(vI (bB (i:Int) 1))]:=eF
theorem ajy (p n:Nat)(s:ByteArray):bF (bN 80) (ax 80) 4 99 [3] [(vL p 0 n eP)]
 [.mem (ej ae 72 9 (vL p 0 n eP)) (aY s)]
 .ret [2] [(aY s)]:=eF
theorem c80 (g:Gd m){s:ByteArray}(h0:0<s.size)(h1:s.size<90000):∃m',Ev K 80 [.string s] m (.string (V4 s)) m'/\Kp m m' eU:=by
 obtain⟨m1,e1,o1,k1,n1⟩:=Au g h0 av;obtain⟨t0,h0',e0⟩:=bQ (K:=K) (m:=m) (m':=m1) (tm:=entry [.string s]) (ajz s m.next s.size) rfl jY;obtain⟨e,t1,m2,he,hx,rfl,o2,k2,dm⟩:=jP (K:=K) (nt:=bN 80) (a:=bh (ax 80) [3])
  (Inv:=fun n tm m'=>Kp m m' eU/\∃j,n=s.size-j/\j<=s.size/\cH [3,8,9,10] tm=[vL m.next 0 s.size eP,vL m.next 0 s.size eP,vI (s.size:Int),vI (j:Int)]/\Obj m' m.next 1 (gS (((bl s).take j).map uq++(bl s).drop j)))
  (dA:=fun e tm m'=>e= .exit 0/\Obj m' m.next 1 (gS ((bl s).map uq))/\Kp m m' eU/\cH [3] tm=[vL m.next 0 s.size eP])
  (by
   rintro n tm m2 ⟨k2,j,rfl,hj,hg,o2⟩
   by_cases cN:j<s.size
   ·have c1:(.bool (br (j:Int) (s.size:Int)):af)= .bool true:=by rw[sB,dZ cN]
    have hl:j<(bl s).length:=by rw[tB];exact cN
    obtain⟨b,hb⟩:∃b,(bl s)[j]=b:=⟨_,rfl⟩;have hd:(bl s).drop j=b::(bl s).drop (j+1):=by rw[List.drop_eq_getElem_cons hl,hb]
    have ht:(bl s).take (j+1)=(bl s).take j++[b]:=by rw[List.take_succ_eq_append_getElem hl,hb]
    have hlen:(((bl s).take j).map uq).length=j:=by rw[List.length_map,List.length_take];omega
    have abJ:(gS (((bl s).take j).map uq++(bl s).drop j))[j]?=some (vU b.toNat):=by
     unfold gS;rw[List.getElem?_map,List.getElem?_append_right av,hlen,Nat.sub_self,hd];rfl
    have OH:aI m.next (0+j*1) m2=some (vU b.toNat,m2):=by rw[Nat.zero_add,Nat.mul_one];exact aJ o2 abJ
    have same:(uq b=b)->Obj m2 m.next 1 (gS (((bl s).take (j+1)).map uq++(bl s).drop (j+1))):=fun wT=>by
     have :((bl s).take (j+1)).map uq++(bl s).drop (j+1)=((bl s).take j).map uq++(bl s).drop j:=by rw[ht,hd,List.map_append];simp[wT]
     rw[this];exact o2
    have next:∀{xH:Tm}{m3:Mem},uR K (bN 80) (bh (ax 80) [3]) ⟨tm,m2,[]⟩ .normal ⟨xH,m3,[]⟩->cH [3,8,9,10] xH=[vL m.next 0 s.size eP,vL m.next 0 s.size eP,vI (s.size:Int),vI (bB (j:Int) 1)]->Kp m m3 eU->
      Obj m3 m.next 1 (gS (((bl s).take (j+1)).map uq++(bl s).drop (j+1)))->
      ∃n' eG m',n'<s.size-j/\uR K (bN 80) (bh (ax 80) [3]) ⟨tm,m2,[]⟩ .normal ⟨eG,m',[]⟩/\Kp m m' eU/\∃i,n'=s.size-i/\i<=s.size/\cH [3,8,9,10] eG=[vL m.next 0 s.size eP,vL m.next 0 s.size eP,vI (s.size:Int),vI (i:Int)]/\Obj m' m.next 1 (gS (((bl s).take i).map uq++(bl s).drop i)):=
     fun{xH m3} dk dm k3 o3=>⟨s.size-(j+1),xH,m3,av,dk,k3,j+1,rfl,cN,by rw[dm,gH ⟨av,av⟩];rfl,o3⟩
    by_cases h65:65<=b.toNat
    ·have c2:(.bool (fW 65 (b.toNat:Int)):af)= .bool true:=(uC (a:=65)).trans (by rw[dZ h65])
     by_cases h90:b.toNat<=90
     ·have c3:(.bool (fW (b.toNat:Int) 90):af)= .bool true:=(uC (b:=90)).trans (by rw[dZ h90]);have hw:=g.own k2 (ai _);obtain⟨m3,e3,o3,k3⟩:=gu (o:=j) (.int .u8 (lH ml Int.add .u8 (lH oe Int.sub .u8 (b.toNat:Int) 65) 97)) o2 (hw.may _ _) (by unfold gS;rw[List.length_map,List.length_append,hlen,List.length_drop,tB];omega);have OY:jo m.next (0+j*1) (.int .u8 (lH ml Int.add .u8 (lH oe Int.sub .u8 (b.toNat:Int) 65) 97)) m2=some (undef,m3):=by rw[Nat.zero_add,Nat.mul_one];exact e3
      obtain⟨t2,dk,dm⟩:=aU (K:=K) (m:=m2) (m':=m3) EP (ajv m.next s.size j b.toNat) hg jY;refine .inl (next dk dm (k2.new k3 (ai _) fun x hx=>by rw[hx];exact ai _) ?_);have :gS (((bl s).take (j+1)).map uq++(bl s).drop (j+1))=(gS (((bl s).take j).map uq++(bl s).drop j)).set j (.int .u8 (lH ml Int.add .u8 (lH oe Int.sub .u8 (b.toNat:Int) 65) 97)):=by
       rw[ht,hd];unfold gS;simp only[List.map_append,List.map_cons,List.map_nil,List.append_assoc];rw[US _ _ _ _ (by simp;omega)]
       congr 1
       simp only[List.cons_append,List.nil_append,List.cons.injEq,and_true];unfold uq;rw[bL ⟨h65,h90⟩,Zp ⟨av,av⟩,aiX ⟨av,av⟩]
       show vU _=_
       have :(UInt8.ofNat (b.toNat+32)).toNat=b.toNat+32:=by rw[UInt8.toNat_ofNat'];omega
       rw[this]
       show af.int .u8 _=af.int .u8 _
       congr 1
       omega
      rw[this];exact o3
     ·have c3:(.bool (fW (b.toNat:Int) 90):af)= .bool false:=(uC (b:=90)).trans (by rw[eO h90]);obtain⟨t2,dk,dm⟩:=aU (K:=K) (m:=m2) (m':=m2) EP (ajw m.next s.size j b.toNat) hg jY;exact .inl (next dk dm k2 (same (by unfold uq;rw[bT av])))
    ·have c2:(.bool (fW 65 (b.toNat:Int)):af)= .bool false:=(uC (a:=65)).trans (by rw[eO h65]);obtain⟨t2,dk,dm⟩:=aU (K:=K) (m:=m2) (m':=m2) EP (ajx m.next s.size j b.toNat) hg jY;exact .inl (next dk dm k2 (same (by unfold uq;rw[bT av])))
   ·have c1:(.bool (br (j:Int) (s.size:Int)):af)= .bool false:=by rw[sB,eO cN]
    obtain⟨t2,dk,dm⟩:=aU (K:=K) (m:=m2) (m':=m2) EP (aju m.next s.size j) hg jY;refine .inr ⟨_,t2,m2,(fun h=>by cases h),dk,rfl,?_,k2,dm⟩;have :j=(bl s).length:=by rw[tB];omega
    rw[this,List.take_length,List.drop_length,List.append_nil]at o2;exact o2)
  (n:=s.size) (k:=100000) (tm:=t0) (m:=m1) ⟨k1,0,av,av,e0,by simpa using o1⟩ av
 have ec:ej ae 72 9 (vL m.next 0 s.size eP) m2=some (.string (V4 s),m2):=by
  have :=Gi (c:=eP) o2;rw[List.length_map,tB]at this;exact this
 obtain⟨t2,h2,e2⟩:=bQ (K:=K) (m:=m2) (m':=m2) (ajy m.next s.size (V4 s)) dm jY;exact⟨m2,fg akY (aX.cut h0' (aX.iH aa3 aa7 hx rfl (aX.last h2 QL))) (.inr rfl) e2,k2⟩
end
end Go.AM
namespace Go.AM
set_option maxRecDepth 1000000
open Go Go.Conc Go.Proofs
theorem tX {s d:Nat}{a k:cQ}{n:Int}(hs:ae.underlying s=some (.int a))(hd:ae.underlying d=some (.int k)):pu ae [.int a n] (convert s d (.int a n))=some (.int k (k.wrap n)):=by
 refine wo rfl ?_ rfl;unfold convert;simp only[gU,dD hs,dD hd,cz];rfl
theorem I2:ae.underlying 262=some (.int .u64):=bp
theorem PR:ae.underlying 195=some (.int .u64):=bp
theorem ajc:ae.underlying 2=some (.int .i64):=bp
theorem Ek {n:Int}(h:0<=n/\n<18446744073709551616):cQ.u64.wrap n=n:=by
 obtain⟨k,rfl⟩:∃k:Nat,n=(k:Int):=⟨n.toNat,av⟩;exact mr (k:= .u64) (by rw[jT,jE];show k<18446744073709551616;omega)
theorem Pg {i j:Int}{n:Nat}(h:ml i j=some n):Int.add i j=n:=by
 unfold ml at h
 split at h
 ·cases h;rfl
 ·cases h
theorem acS {i j:Int}(h:0<=i+j/\i+j<18446744073709551616):lH ml Int.add .u64 i j=i+j:=(vD fun n h=>Pg h).trans (Ek h)
theorem aaZ {i j:Int}(h:0<=i*j/\i*j<18446744073709551616):lH E0 Int.mul .u64 i j=i*j:=(vD fun n h=>by cases h).trans (Ek h)
def jL (s:ByteArray):Nat->Nat
 |0=>0
 |i+1=>jL s i*10+(aF s i-48)
def BN (s:ByteArray):Prop:=∀i,i<s.size->ou (aF s i)=true
theorem s8 {b:Nat}:ou b=true↔48<=b/\b<=57:=by unfold ou;rw[p6,p6,aj,jE,jE]
theorem DX (s:ByteArray)(j:Nat):jL s (j+1)=jL s j*10+(aF s j-48):=rfl
theorem O1 {s:ByteArray}{i j:Nat}(h:i<=j):jL s i<=jL s j:=by
 induction j with
 |zero=>rw[Nat.le_zero.1 h];exact ai _
 |succ j ih=>
  by_cases he:i=j+1
  ·subst he;exact ai _
  ·have :=ih av;rw[DX];omega
theorem C6 {s:ByteArray}(h:0<s.size):(af.bool ((s.toList==ByteArray.empty.toList)==true))= .bool false:=by
 have :s.toList≠ByteArray.empty.toList:=fun e=>by
  rw[ByteArray.toList_eq,ByteArray.toList_eq]at e;have h2:(bl s).length=0:=congrArg List.length e;rw[tB]at h2;omega
 rw[show(s.toList==ByteArray.empty.toList)=false from by simpa using this];rfl
section
variable {K:iK}{m:Mem}
theorem agI:jR 158 3 [6,7]=true:=bp
theorem NL:(du (ax 158)).length<=99:=ag bp
theorem Rx:dT (ax 158) 15=some (3,(bh (ax 158) [15])):=bp
theorem Hd:codeOk (bN 158) (bh (ax 158) [15])=true:=bp
theorem RF:eI (bN 158) (ax 158) (bh (ax 158) [15]) 15 3=true:=bp
theorem aed (s:ByteArray)(p n:Nat):bF (bN 158) (ax 158) 0 15 [0,1,2] [(aY s),(vI 10),(vI 64)]
 [aD ((s.toList==ByteArray.empty.toList)==true) false,
  bV,
  bV,
  bV,
  bV,
  bm,
  bm,
  bm,
  bm,
  bm,
  bV,
  .val (pu ae [(vI 64)] (convert 3 195 (vI 64))) (.int .u64 64),
  .val (iP ae .shl 262 true false (.int .u64 1) (.int .u64 64)) (.int .u64 0),
  .mem (ej ae 9 72 (aY s)) (vL p 0 n eP)]
 .normal [1,8,9,10,11,12,13,99,100,101] [(vI 10),(.bool false),(aY s),(.int .u64 1844674407370955162),(.int .u64 18446744073709551615),(.bool false),(.int .u64 0),(vL p 0 n eP),(vI (n:Int)),(vI 0)]:=eF
theorem aea (s:ByteArray)(v p n i:Nat):bF (bN 158) (bh (ax 158) [15]) 0 99 [1,8,9,10,11,12,13,99,100,101] [(vI 10),(.bool false),(aY s),(.int .u64 1844674407370955162),(.int .u64 18446744073709551615),(.bool false),(.int .u64 (v:Int)),(vL p 0 n eP),(vI (n:Int)),(vI (i:Int))]
 [aD (br (i:Int) (n:Int)) false]
 (.exit 3) [12,13,9] [(.bool false),(.int .u64 (v:Int)),(aY s)]:=eF
theorem aeb (s:ByteArray)(v p n i b:Nat)(w:Nat):bF (bN 158) (bh (ax 158) [15]) 0 99 [1,8,9,10,11,12,13,99,100,101] [(vI 10),(.bool false),(aY s),(.int .u64 1844674407370955162),(.int .u64 18446744073709551615),(.bool false),(.int .u64 (v:Int)),(vL p 0 n eP),(vI (n:Int)),(vI (i:Int))]
 [aD (br (i:Int) (n:Int)) true,
  .idx (i:Int) n i,
  .mem (aI p (0+i*1)) (.int .u8 (b:Int)),
  aD (aZ (b:Int) 95) false,
  aD (aZ (b:Int) 95) false,
  bm,
  aD (fW 48 (b:Int)) true,
  aD (fW 48 (b:Int)) true,
  aD (fW 48 (b:Int)) true,
  aD (fW (b:Int) 57) true,
  .val (pu ae [(vI 10)] (convert 3 5 (vI 10))) (.int .u8 10),
  aD (iE (lH oe Int.sub .u8 (b:Int) 48) 10) false,
  aD (iE (v:Int) 1844674407370955162) false,
  .val (pu ae [(vI 10)] (convert 3 262 (vI 10))) (.int .u64 10),
  .val (pu ae [(.int .u8 (lH oe Int.sub .u8 (b:Int) 48))] (convert 5 262 (.int .u8 (lH oe Int.sub .u8 (b:Int) 48)))) (.int .u64 (w:Int)),
  aD (br (lH ml Int.add .u64 (lH E0 Int.mul .u64 (v:Int) 10) (w:Int)) (lH E0 Int.mul .u64 (v:Int) 10)) false,
  aD (br (lH ml Int.add .u64 (lH E0 Int.mul .u64 (v:Int) 10) (w:Int)) (lH E0 Int.mul .u64 (v:Int) 10)) false,
  aD (br (lH ml Int.add .u64 (lH E0 Int.mul .u64 (v:Int) 10) (w:Int)) (lH E0 Int.mul .u64 (v:Int) 10)) false,
  aD (br (lH ml Int.add .u64 (lH E0 Int.mul .u64 (v:Int) 10) (w:Int)) (lH E0 Int.mul .u64 (v:Int) 10)) false,
  aD (fD (lH ml Int.add .u64 (lH E0 Int.mul .u64 (v:Int) 10) (w:Int)) 18446744073709551615) false]
 .normal [1,8,9,10,11,12,13,99,100,101] [(vI 10),(.bool false),(aY s),(.int .u64 1844674407370955162),(.int .u64 18446744073709551615),(.bool false),(.int .u64 (lH ml Int.add .u64 (lH E0 Int.mul .u64 (v:Int) 10) (w:Int))),(vL p 0 n eP),(vI (n:Int)),(vI (bB (i:Int) 1))]:=eF
theorem aec (s:ByteArray)(v:Nat):bF (bN 158) (ax 158) 16 99 [9,12,13] [(aY s),(.bool false),(.int .u64 (v:Int))]
 [bm,
  bm,
  bm,
  bm,
  bm]
 .ret [6,7] [(.int .u64 (v:Int)),.nilIface]:=eF
theorem akR (s:ByteArray)(v:Nat):Path 119 [(aY s),(vI 10),(vI 64)]
 [aD ((s.toList==ByteArray.empty.toList)==true) false,
  .idx 0 s.size 0,
  aD (aZ (aF s 0:Nat) 43) false,
  aD (aZ (aF s 0:Nat) 45) false,
  .call 158 [(aY s),(vI 10),(vI 64)] (.tuple #[(.int .u64 (v:Int)),.nilIface]),
  bm,
  bm,
  bm,
  bm,
  bm,
  bm,
  .val (pu ae [(vI 63)] (convert 3 195 (vI 63))) (.int .u64 63),
  .val (iP ae .shl 262 true false (.int .u64 1) (.int .u64 63)) (.int .u64 9223372036854775808),
  bV,
  bV,
  bV,
  bV,
  aD (iE (v:Int) 9223372036854775808) false,
  bm,
  bm,
  bm,
  bm,
  bm,
  .val (pu ae [(.int .u64 (v:Int))] (convert 262 2 (.int .u64 (v:Int)))) (vI (v:Int)),
  bm]
 (.tuple #[(vI (v:Int)),.nilIface]):=cg
theorem p81 (s:ByteArray)(v:Nat):Path 81 [(aY s),(vI 10),(vI 64)]
 [.call 119 [(aY s),(vI 10),(vI 64)] (.tuple #[(vI (v:Int)),.nilIface]),
  bm]
 (.tuple #[(vI (v:Int)),.nilIface]):=cg
theorem Qn:iP ae .shl 262 true false (.int .u64 1) (.int .u64 64)=some (.int .u64 0):=bp
theorem Qo:iP ae .shl 262 true false (.int .u64 1) (.int .u64 63)=some (.int .u64 9223372036854775808):=bp
theorem amY (g:Gd m){s:ByteArray}(h0:0<s.size)(h1:s.size<90000)(hd:BN s)(hv:jL s s.size<9223372036854775808):
  ∃m',Ev K 158 [.string s,vI 10,vI 64] m (.tuple #[.int .u64 (jL s s.size:Nat),.nilIface]) m'/\Kp m m' eU:=by
 obtain⟨m1,e1,o1,k1,n1⟩:=Au g h0 av;have cn:=C6 h0;have v1:pu ae [vI 64] (convert 3 195 (vI 64))=some (.int .u64 64):=tX PQ PR;have v2:=Qn;obtain⟨t0,h0',e0⟩:=bQ (K:=K) (m:=m) (m':=m1) (tm:=entry [.string s,vI 10,vI 64]) (aed s m.next s.size) rfl jY;obtain⟨st,fp⟩:∃f:Nat->List af,f=fun j=>[vI 10,.bool false,.string s,.int .u64 1844674407370955162,.int .u64 18446744073709551615,.bool false,.int .u64 (jL s j:Nat),vL m.next 0 s.size eP,vI (s.size:Int),vI (j:Int)]:=⟨_,rfl⟩
 obtain⟨e,t1,m2,he,hx,rfl,rfl,dm⟩:=jP (K:=K) (nt:=bN 158) (a:=bh (ax 158) [15])
  (Inv:=fun n tm m'=>m'=m1/\∃j,n=s.size-j/\j<=s.size/\cH [1,8,9,10,11,12,13,99,100,101] tm=st j)
  (dA:=fun e tm m'=>e= .exit 3/\m'=m1/\cH [12,13,9] tm=[.bool false,.int .u64 (jL s s.size:Nat),.string s])
  (by
   rintro n tm m2 ⟨rfl,j,rfl,hj,hg⟩;rw[fp]at hg
   by_cases cN:j<s.size
   ·have c1:(.bool (br (j:Int) (s.size:Int)):af)= .bool true:=by rw[sB,dZ cN]
    have hl:j<(bl s).length:=by rw[tB];exact cN
    have hb:=s8.1 (hd j cN);have abJ:(gS (bl s))[j]?=some (vU (aF s j)):=by
     unfold gS;rw[List.getElem?_map,List.getElem?_eq_getElem hl,B7 cN];rfl
    have OH:aI m.next (0+j*1) m2=some (vU (aF s j),m2):=by rw[Nat.zero_add,Nat.mul_one];exact aJ o1 abJ
    have hm:jL s (j+1)<=jL s s.size:=O1 av;have hdn:jL s (j+1)=jL s j*10+(aF s j-48):=rfl;have c2:(.bool (aZ (aF s j:Int) 95):af)= .bool false:=(FQ (b:=95)).trans (by simp;omega);have c3:(.bool (fW 48 (aF s j:Int)):af)= .bool true:=(uC (a:=48)).trans (by rw[dZ av]);have c4:(.bool (fW (aF s j:Int) 57):af)= .bool true:=(uC (b:=57)).trans (by rw[dZ av]);have q1:pu ae [vI 10] (convert 3 5 (vI 10))=some (.int .u8 10):=tX PQ UF;have q2:pu ae [vI 10] (convert 3 262 (vI 10))=some (.int .u64 10):=tX PQ I2;have es:lH oe Int.sub .u8 (aF s j:Int) 48=((aF s j-48:Nat):Int):=by rw[Zp ⟨av,av⟩];omega
    have q3:pu ae [.int .u8 (lH oe Int.sub .u8 (aF s j:Int) 48)] (convert 5 262 (.int .u8 (lH oe Int.sub .u8 (aF s j:Int) 48)))=some (.int .u64 ((aF s j-48:Nat):Int)):=by
     rw[tX UF I2,es,Ek ⟨av,av⟩]
    have em:lH E0 Int.mul .u64 (jL s j:Int) 10=((jL s j*10:Nat):Int):=by rw[aaZ ⟨av,av⟩];omega
    have ea:lH ml Int.add .u64 (lH E0 Int.mul .u64 (jL s j:Int) 10) ((aF s j-48:Nat):Int)=(jL s (j+1):Nat):=by rw[em,acS ⟨av,av⟩,hdn];omega
    have c5:(.bool (iE (lH oe Int.sub .u8 (aF s j:Int) 48) 10):af)= .bool false:=by rw[es,qz,eO av]
    have c6:(.bool (iE (jL s j:Int) 1844674407370955162):af)= .bool false:=by rw[qz,eO av]
    have c7:(.bool (br (lH ml Int.add .u64 (lH E0 Int.mul .u64 (jL s j:Int) 10) ((aF s j-48:Nat):Int)) (lH E0 Int.mul .u64 (jL s j:Int) 10)):af)= .bool false:=by rw[ea,em,bZ,eO av]
    have c8:(.bool (fD (lH ml Int.add .u64 (lH E0 Int.mul .u64 (jL s j:Int) 10) ((aF s j-48:Nat):Int)) 18446744073709551615):af)= .bool false:=by rw[ea,gX,eO av]
    obtain⟨t2,dk,dm⟩:=aU (K:=K) (m:=m2) (m':=m2) Hd (aeb s (jL s j) m.next s.size j (aF s j) (aF s j-48)) hg jY;exact .inl ⟨s.size-(j+1),t2,m2,av,dk,rfl,j+1,rfl,cN,by rw[dm,fp,ea,gH ⟨av,av⟩];rfl⟩
   ·have c1:(.bool (br (j:Int) (s.size:Int)):af)= .bool false:=by rw[sB,eO cN]
    obtain⟨t2,dk,dm⟩:=aU (K:=K) (m:=m2) (m':=m2) Hd (aea s (jL s j) m.next s.size j) hg jY;exact .inr ⟨_,t2,m2,(fun h=>by cases h),dk,rfl,rfl,by rw[dm,show j=s.size by omega]⟩)
  (n:=s.size) (k:=100000) (tm:=t0) (m:=m1) ⟨rfl,0,av,av,by rw[e0,fp];rfl⟩ av
 obtain⟨t2,h2,e2⟩:=bQ (K:=K) (m:=m2) (m':=m2) (Sb:=[9,12,13]) (aec s (jL s s.size)) (by
  simp only[cH,List.map_cons,List.map_nil,List.cons.injEq,and_true]at dm⊢;exact⟨dm.2.2,dm.1,dm.2.1⟩) jY
 exact⟨m2,fg agI (aX.cut h0' (aX.iH Rx RF hx rfl (aX.last h2 NL))) (.inr rfl) e2,k1⟩
theorem c81 (g:Gd m){s:ByteArray}(h0:0<s.size)(h1:s.size<90000)(hd:BN s)(hv:jL s s.size<9223372036854775808):
  ∃m',Ev K 81 [.string s,vI 10,vI 64] m (.tuple #[vI (jL s s.size:Nat),.nilIface]) m'/\Kp m m' eU:=by
 obtain⟨m1,e1,k1⟩:=amY (K:=K) g h0 h1 hd hv;have cn:=C6 h0;have hb:=s8.1 (hd 0 h0);have c1:(.bool (aZ (aF s 0:Int) 43):af)= .bool false:=(FQ (b:=43)).trans (by simp;omega);have c2:(.bool (aZ (aF s 0:Int) 45):af)= .bool false:=(FQ (b:=45)).trans (by simp;omega);have v1:pu ae [vI 63] (convert 3 195 (vI 63))=some (.int .u64 63):=tX PQ PR;have v2:=Qo;have c3:(.bool (iE (jL s s.size:Int) 9223372036854775808):af)= .bool false:=by rw[qz,eO av]
 have v3:pu ae [.int .u64 (jL s s.size:Nat)] (convert 262 2 (.int .u64 (jL s s.size:Nat)))=some (vI (jL s s.size:Nat)):=by rw[tX I2 ajc,lh ⟨av,av⟩]
 have e2:=ak (K:=K) (m:=m) (m':=m1) (akR s (jL s s.size)) jY;exact⟨m1,ak (p81 s (jL s s.size)) jY,k1⟩
end
end Go.AM
namespace Go.AM
set_option maxRecDepth 1000000
open Go Go.Conc Go.Proofs
structure W where
 k:Int
 a:Nat
 z:Nat
 s:ByteArray
 n:Int
def W.cells(w:W):List af:=[vI w.k,vI (w.a:Int),vI (w.z:Int),.string w.s,vI w.n]
abbrev W.val(w:W):af:= .agg #[vI w.k,vI (w.a:Int),vI (w.z:Int),.string w.s,vI w.n]
theorem dK {m:Mem}{b sz t n:Nat}{cs:List af}(h:Obj m b sz cs)(hn:cs.length=n)(ht:mT ae t=some true)(hz:dq ae t=some n):fV ae t (vP b 0) m=some (.agg cs.toArray,m):=by
 unfold fV kx;simp only[ht,hz,cz,kg h (o:=0) (n:=n) (by rw[List.drop_zero,<-hn,List.take_length]) av,cR]
theorem uP:mT ae 76=some true/\dq ae 76=some 5:=⟨bp,bp⟩
theorem nJ {T:ByteArray}{i e:Nat}(he:e<=T.size):(T.extract i e).size=e-i:=by
 rw[ByteArray.size_extract];omega
theorem qD {T:ByteArray}{i e j:Nat}(he:e<=T.size)(hj:j<e-i):aF (T.extract i e) j=aF T (i+j):=by
 have h1:j<(T.extract i e).size:=by rw[nJ he];exact hj
 rw[B7 h1,B7 (show i+j<T.size by omega)]
 congr 1
 have e1:bl (T.extract i e)=((bl T).drop i).take (e-i):=by
  unfold bl;rw[ByteArray.data_extract,Array.toList_extract,List.extract_eq_take_drop]
 simp only[e1,List.getElem_take,List.getElem_drop]
theorem GC {p:Nat->Bool}{T:ByteArray}:∀{k i j:Nat},i<=j->j<uZ p T k i->p (aF T j)=true
 |0,i,j,h1,h2=>by unfold uZ at h2;omega
 |k+1,i,j,h1,h2=>by
  unfold uZ at h2
  split at h2
  ·rename_i hp
   by_cases he:j=i
   ·subst he;exact hp
   ·exact GC (k:=k) (i:=i+1) av h2
  ·omega
theorem AN {p:Nat->Bool}{T:ByteArray}{i j:Nat}(h1:i<=j)(h2:j<jb p T i):p (aF T j)=true:=GC h1 h2
theorem Da {p:Nat->Bool}{T:ByteArray}{i:Nat}(hi:i<T.size)(hp:p (aF T i)=true):i<jb p T i:=by
 unfold jb;obtain⟨k,hk⟩:∃k,T.size-i=k+1:=⟨T.size-i-1,av⟩;rw[hk];unfold uZ;rw[bL hp];have :=(EE (p:=p) (T:=T) (k:=k) (i:=i+1)).1;omega
theorem Wz {b:Nat}(h:zM b=true):b<128:=by
 unfold zM isLt ou at h;simp only[p6,Bool.or_eq_true,aj,jE,beq_iff_eq]at h;omega
def Cc (s:ByteArray):Bool:=(bl s).all fun b=>decide (b.toNat<128)
theorem Ca {T:ByteArray}{i e:Nat}(he:e<=T.size)(h:∀j,i<=j->j<e->aF T j<128):xr (T.extract i e):=by
 intro j
 by_cases hj:j<e-i
 ·rw[qD he hj];exact h _ av av
 ·rw[Il (by rw[nJ he];omega)];decide
def A3 (T:ByteArray)(i:Nat):W:=
 let e:=jb zM T i
 let k:=spell (T.extract i e) 22 46
 if k≠0 then⟨k,i,e,.empty,0⟩else if 16<e-i then⟨0,i,i,.empty,0⟩else⟨2,i,e,V4 (T.extract i e),0⟩
def Vm (T:ByteArray)(i:Nat):Option W:=
 let e:=jb ou T i
 let v:=jL (T.extract i e) (e-i)
 if v<9223372036854775808 then some ⟨3,i,e,.empty,v⟩else none
def Gu (T:ByteArray)(i:Nat):Option W:=
 let e2:=min (i+2) T.size
 if Cc (T.extract i e2)then
  let k2:=spell (T.extract i e2) 5 21
  if k2≠0 then some ⟨k2,i,e2,.empty,0⟩
  else
   let k1:=spell (T.extract i (i+1)) 5 21
   if k1≠0 then some ⟨k1,i,i+1,.empty,0⟩else some ⟨0,i,i,.empty,0⟩
 else none
def wE (T:ByteArray)(pos:Nat):Option W:=
 let i:=jb wP T (min pos T.size)
 if i=T.size then some ⟨1,i,i,.empty,0⟩
 else if isLt (aF T i)then some (A3 T i)
 else if ou (aF T i)then Vm T i
 else if aF T i=39 then none
 else Gu T i
section
variable {K:iK}{m:Mem}
theorem p79 (i:Nat)(aH:Nat):Path 79 [(vI (i:Int))]
 [cp [some (vI 0),some (vI 0),some (vI 0),some dU,some (vI 0)] aH,
  dV aH 0 [(vI 0),(vI (i:Int)),(vI (i:Int)),dU,(vI 0)],
  lJ 76 aH (.agg #[(vI 0),(vI (i:Int)),(vI (i:Int)),dU,(vI 0)])]
 (.agg #[(vI 0),(vI (i:Int)),(vI (i:Int)),dU,(vI 0)]):=cg
theorem ake (T:ByteArray)(i e k:Nat)(w:ByteArray)(aH:Nat):Path 44 [(aY T),(vI (i:Int))]
 [cp [some (vI 0),some (vI 0),some (vI 0),some dU,some (vI 0)] aH,
  .call 41 [(aY T),(vI (i:Int)),(.func (.func 77) #[] #[])] (vI (e:Int)),
  .val (sN ae 9 T (some (vI (i:Int))) (some (vI (e:Int)))) (aY w),
  .call 78 [(aY w),(vI 22),(vI 46)] (vI (k:Int)),
  aD (hY (k:Int) 0) true,
  dV aH 0 [(vI (k:Int)),(vI (i:Int)),(vI (e:Int)),dU,(vI 0)],
  lJ 76 aH (.agg #[(vI (k:Int)),(vI (i:Int)),(vI (e:Int)),dU,(vI 0)])]
 (.agg #[(vI (k:Int)),(vI (i:Int)),(vI (e:Int)),dU,(vI 0)]):=cg
theorem akd (T:ByteArray)(i e k:Nat)(w:ByteArray)(r:W)(aH:Nat):Path 44 [(aY T),(vI (i:Int))]
 [cp [some (vI 0),some (vI 0),some (vI 0),some dU,some (vI 0)] aH,
  .call 41 [(aY T),(vI (i:Int)),(.func (.func 77) #[] #[])] (vI (e:Int)),
  .val (sN ae 9 T (some (vI (i:Int))) (some (vI (e:Int)))) (aY w),
  .call 78 [(aY w),(vI 22),(vI 46)] (vI (k:Int)),
  aD (hY (k:Int) 0) false,
  aD (fD (cO (e:Int) (i:Int)) 16) true,
  .call 79 [(vI (i:Int))] (.agg #[(vI r.k),(vI (r.a:Int)),(vI (r.z:Int)),(aY r.s),(vI r.n)]),
  dV aH 0 [(vI r.k),(vI (r.a:Int)),(vI (r.z:Int)),(aY r.s),(vI r.n)],
  lJ 76 aH (.agg #[(vI r.k),(vI (r.a:Int)),(vI (r.z:Int)),(aY r.s),(vI r.n)])]
 (.agg #[(vI r.k),(vI (r.a:Int)),(vI (r.z:Int)),(aY r.s),(vI r.n)]):=cg
theorem akc (T:ByteArray)(i e k:Nat)(w:ByteArray)(l:ByteArray)(aH:Nat):Path 44 [(aY T),(vI (i:Int))]
 [cp [some (vI 0),some (vI 0),some (vI 0),some dU,some (vI 0)] aH,
  .call 41 [(aY T),(vI (i:Int)),(.func (.func 77) #[] #[])] (vI (e:Int)),
  .val (sN ae 9 T (some (vI (i:Int))) (some (vI (e:Int)))) (aY w),
  .call 78 [(aY w),(vI 22),(vI 46)] (vI (k:Int)),
  aD (hY (k:Int) 0) false,
  aD (fD (cO (e:Int) (i:Int)) 16) false,
  .val (sN ae 9 T (some (vI (i:Int))) (some (vI (e:Int)))) (aY w),
  .call 80 [(aY w)] (aY l),
  dV aH 0 [(vI 2),(vI (i:Int)),(vI (e:Int)),(aY l),(vI 0)],
  lJ 76 aH (.agg #[(vI 2),(vI (i:Int)),(vI (e:Int)),(aY l),(vI 0)])]
 (.agg #[(vI 2),(vI (i:Int)),(vI (e:Int)),(aY l),(vI 0)]):=cg
theorem p46 (T:ByteArray)(i e v:Nat)(w:ByteArray)(aH:Nat):Path 46 [(aY T),(vI (i:Int))]
 [cp [some (vI 0),some (vI 0),some (vI 0),some dU,some (vI 0)] aH,
  .call 41 [(aY T),(vI (i:Int)),(.func (.func 45) #[] #[])] (vI (e:Int)),
  .val (sN ae 9 T (some (vI (i:Int))) (some (vI (e:Int)))) (aY w),
  .call 81 [(aY w),(vI 10),(vI 64)] (.tuple #[(vI (v:Int)),.nilIface]),
  bm,
  dV aH 0 [(vI 3),(vI (i:Int)),(vI (e:Int)),dU,(vI (v:Int))],
  lJ 76 aH (.agg #[(vI 3),(vI (i:Int)),(vI (e:Int)),dU,(vI (v:Int))])]
 (.agg #[(vI 3),(vI (i:Int)),(vI (e:Int)),dU,(vI (v:Int))]):=cg
theorem akb (T:ByteArray)(i k:Nat)(w:ByteArray)(aH:Nat):Path 48 [(aY T),(vI (i:Int))]
 [cp [some (vI 0),some (vI 0),some (vI 0),some dU,some (vI 0)] aH,
  bV,
  .val (sN ae 9 T (some (vI (i:Int))) (some (vI (qG false (bB (i:Int) 2) (T.size:Int))))) (aY w),
  .call 78 [(aY w),(vI 5),(vI 21)] (vI (k:Int)),
  aD (hY (k:Int) 0) true,
  dV aH 0 [(vI (k:Int)),(vI (i:Int)),(vI (qG false (bB (i:Int) 2) (T.size:Int))),dU,(vI 0)],
  lJ 76 aH (.agg #[(vI (k:Int)),(vI (i:Int)),(vI (qG false (bB (i:Int) 2) (T.size:Int))),dU,(vI 0)])]
 (.agg #[(vI (k:Int)),(vI (i:Int)),(vI (qG false (bB (i:Int) 2) (T.size:Int))),dU,(vI 0)]):=cg
theorem aka (T:ByteArray)(i k2 k:Nat)(w w1:ByteArray)(aH:Nat):Path 48 [(aY T),(vI (i:Int))]
 [cp [some (vI 0),some (vI 0),some (vI 0),some dU,some (vI 0)] aH,
  bV,
  .val (sN ae 9 T (some (vI (i:Int))) (some (vI (qG false (bB (i:Int) 2) (T.size:Int))))) (aY w),
  .call 78 [(aY w),(vI 5),(vI 21)] (vI (k2:Int)),
  aD (hY (k2:Int) 0) false,
  bV,
  .val (sN ae 9 T (some (vI (i:Int))) (some (vI (qG false (bB (i:Int) 1) (T.size:Int))))) (aY w1),
  .call 78 [(aY w1),(vI 5),(vI 21)] (vI (k:Int)),
  aD (hY (k:Int) 0) true,
  dV aH 0 [(vI (k:Int)),(vI (i:Int)),(vI (qG false (bB (i:Int) 1) (T.size:Int))),dU,(vI 0)],
  lJ 76 aH (.agg #[(vI (k:Int)),(vI (i:Int)),(vI (qG false (bB (i:Int) 1) (T.size:Int))),dU,(vI 0)])]
 (.agg #[(vI (k:Int)),(vI (i:Int)),(vI (qG false (bB (i:Int) 1) (T.size:Int))),dU,(vI 0)]):=cg
theorem aj9 (T:ByteArray)(i k2 k:Nat)(w w1:ByteArray)(r:W)(aH:Nat):Path 48 [(aY T),(vI (i:Int))]
 [cp [some (vI 0),some (vI 0),some (vI 0),some dU,some (vI 0)] aH,
  bV,
  .val (sN ae 9 T (some (vI (i:Int))) (some (vI (qG false (bB (i:Int) 2) (T.size:Int))))) (aY w),
  .call 78 [(aY w),(vI 5),(vI 21)] (vI (k2:Int)),
  aD (hY (k2:Int) 0) false,
  bV,
  .val (sN ae 9 T (some (vI (i:Int))) (some (vI (qG false (bB (i:Int) 1) (T.size:Int))))) (aY w1),
  .call 78 [(aY w1),(vI 5),(vI 21)] (vI (k:Int)),
  aD (hY (k:Int) 0) false,
  bm,
  .call 79 [(vI (i:Int))] (.agg #[(vI r.k),(vI (r.a:Int)),(vI (r.z:Int)),(aY r.s),(vI r.n)]),
  dV aH 0 [(vI r.k),(vI (r.a:Int)),(vI (r.z:Int)),(aY r.s),(vI r.n)],
  lJ 76 aH (.agg #[(vI r.k),(vI (r.a:Int)),(vI (r.z:Int)),(aY r.s),(vI r.n)])]
 (.agg #[(vI r.k),(vI (r.a:Int)),(vI (r.z:Int)),(aY r.s),(vI r.n)]):=cg
theorem akp (T:ByteArray)(p i:Nat)(r:W)(aH:Nat):Path 28 [(aY T),(vI (p:Int))]
 [cp [some (vI 0),some (vI 0),some (vI 0),some dU,some (vI 0)] aH,
  .call 41 [(aY T),(vI (qG true 0 (qG false (p:Int) (T.size:Int)))),(.func (.func 42) #[] #[])] (vI (i:Int)),
  aD (aZ (i:Int) (T.size:Int)) true,
  dV aH 0 [(vI 1),(vI (i:Int)),(vI (i:Int)),dU,(vI 0)],
  lJ 76 aH (.agg #[(vI 1),(vI (i:Int)),(vI (i:Int)),dU,(vI 0)])]
 (.agg #[(vI 1),(vI (i:Int)),(vI (i:Int)),dU,(vI 0)]):=cg
theorem ako (T:ByteArray)(p i:Nat)(r:W)(aH:Nat):Path 28 [(aY T),(vI (p:Int))]
 [cp [some (vI 0),some (vI 0),some (vI 0),some dU,some (vI 0)] aH,
  .call 41 [(aY T),(vI (qG true 0 (qG false (p:Int) (T.size:Int)))),(.func (.func 42) #[] #[])] (vI (i:Int)),
  aD (aZ (i:Int) (T.size:Int)) false,
  .idx (i:Int) T.size i,
  .call 43 [(.int .u8 (aF T i:Nat))] (.bool true),
  bV,
  .call 44 [(aY T),(vI (i:Int))] (.agg #[(vI r.k),(vI (r.a:Int)),(vI (r.z:Int)),(aY r.s),(vI r.n)]),
  dV aH 0 [(vI r.k),(vI (r.a:Int)),(vI (r.z:Int)),(aY r.s),(vI r.n)],
  lJ 76 aH (.agg #[(vI r.k),(vI (r.a:Int)),(vI (r.z:Int)),(aY r.s),(vI r.n)])]
 (.agg #[(vI r.k),(vI (r.a:Int)),(vI (r.z:Int)),(aY r.s),(vI r.n)]):=cg
theorem akq (T:ByteArray)(p i:Nat)(r:W)(aH:Nat):Path 28 [(aY T),(vI (p:Int))]
 [cp [some (vI 0),some (vI 0),some (vI 0),some dU,some (vI 0)] aH,
  .call 41 [(aY T),(vI (qG true 0 (qG false (p:Int) (T.size:Int)))),(.func (.func 42) #[] #[])] (vI (i:Int)),
  aD (aZ (i:Int) (T.size:Int)) false,
  .idx (i:Int) T.size i,
  .call 43 [(.int .u8 (aF T i:Nat))] (.bool false),
  bm,
  .idx (i:Int) T.size i,
  .call 45 [(.int .u8 (aF T i:Nat))] (.bool true),
  bV,
  .call 46 [(aY T),(vI (i:Int))] (.agg #[(vI r.k),(vI (r.a:Int)),(vI (r.z:Int)),(aY r.s),(vI r.n)]),
  dV aH 0 [(vI r.k),(vI (r.a:Int)),(vI (r.z:Int)),(aY r.s),(vI r.n)],
  lJ 76 aH (.agg #[(vI r.k),(vI (r.a:Int)),(vI (r.z:Int)),(aY r.s),(vI r.n)])]
 (.agg #[(vI r.k),(vI (r.a:Int)),(vI (r.z:Int)),(aY r.s),(vI r.n)]):=cg
theorem akn (T:ByteArray)(p i:Nat)(r:W)(aH:Nat):Path 28 [(aY T),(vI (p:Int))]
 [cp [some (vI 0),some (vI 0),some (vI 0),some dU,some (vI 0)] aH,
  .call 41 [(aY T),(vI (qG true 0 (qG false (p:Int) (T.size:Int)))),(.func (.func 42) #[] #[])] (vI (i:Int)),
  aD (aZ (i:Int) (T.size:Int)) false,
  .idx (i:Int) T.size i,
  .call 43 [(.int .u8 (aF T i:Nat))] (.bool false),
  bm,
  .idx (i:Int) T.size i,
  .call 45 [(.int .u8 (aF T i:Nat))] (.bool false),
  bm,
  .idx (i:Int) T.size i,
  aD (aZ (aF T i:Nat) 39) false,
  .call 48 [(aY T),(vI (i:Int))] (.agg #[(vI r.k),(vI (r.a:Int)),(vI (r.z:Int)),(aY r.s),(vI r.n)]),
  dV aH 0 [(vI r.k),(vI (r.a:Int)),(vI (r.z:Int)),(aY r.s),(vI r.n)],
  lJ 76 aH (.agg #[(vI r.k),(vI (r.a:Int)),(vI (r.z:Int)),(aY r.s),(vI r.n)])]
 (.agg #[(vI r.k),(vI (r.a:Int)),(vI (r.z:Int)),(aY r.s),(vI r.n)]):=cg
theorem ZB {m2:Mem}{b:Nat}{z:List af}(vs:List af)(g:Gd m)(o:Obj m2 b 0 z)(hb:m.next<=b)(k:Kp m m2 eU)(hl:z.length=vs.length)(h1:vs.all (·.oneCell')=true):∃m3,sO b 0 vs m2=some (undef,m3)/\Obj m3 b 0 vs/\Kp m m3 eU:=by
 obtain⟨m3,e3,o3,k3⟩:=dO (o:=0) vs o ((g.own k hb).may _ _) av h1;have :qO z 0 vs=vs:=by
  have key:∀(vs z:List af),z.length=vs.length->qO z 0 vs=vs:=by
   intro vs
   induction vs with
   |nil=>intro z hz;exact List.length_eq_zero_iff.1 hz
   |cons v vs ih=>
    intro z hz;cases z with
    |nil=>simp at hz
    |cons a z=>
     show qO ((a::z).set 0 v) 1 vs=_
     rw[List.set_cons_zero,j0,ih z (by simpa using hz)]
  exact key vs z hl
 rw[this]at o3;exact⟨m3,e3,o3,k.new k3 (ai _) fun x hx=>by rw[hx];exact hb⟩
def w0:W:=⟨0,0,0,.empty,0⟩
theorem zF {m2:Mem}{b:Nat}(w:W)(g:Gd m)(o:Obj m2 b 0 w0.cells)(hb:m.next<=b)(k:Kp m m2 eU):∃m3,sO b 0 w.cells m2=some (undef,m3)/\Obj m3 b 0 w.cells/\Kp m m3 eU/\fV ae 76 (vP b 0) m3=some (w.val,m3):=by
 obtain⟨w1,w2,w3,w4,w5⟩:=w;obtain⟨m3,e3,o3,k3⟩:=ZB (W.cells ⟨w1,w2,w3,w4,w5⟩) g o hb k rfl rfl;exact⟨m3,e3,o3,k3,dK o3 rfl uP.1 uP.2⟩
theorem c79 (g:Gd m)(i:Nat):∃m',Ev K 79 [vI (i:Int)] m (W.val ⟨0,i,i,.empty,0⟩) m'/\Kp m m' eU:=by
 obtain⟨m1,e1,o1,k1,n1,_⟩:=aQ g w0.cells;obtain⟨m2,e2,o2,k2,eL⟩:=zF ⟨0,i,i,.empty,0⟩ g o1 (ai _) k1;exact⟨m2,ak (p79 i _) (.mem e1<| .mem e2<| .mem eL<| .nil),k2⟩
theorem A5 (a b:Nat):qG false (a:Int) (b:Int)=((min a b:Nat):Int):=by
 unfold qG;rw[bZ]
 by_cases h:(b:Int)<a
 ·rw[dZ h];simp only[];omega
 ·rw[eO h];simp only[];omega
theorem Rq (a b:Nat):qG true (a:Int) (b:Int)=((max a b:Nat):Int):=by
 unfold qG;rw[bZ]
 by_cases h:(b:Int)<a
 ·rw[dZ h];simp only[];omega
 ·rw[eO h];simp only[];omega
theorem Ea {k:Nat}:(af.bool (hY (k:Int) 0))= .bool (k !=0):=by rw[jg];congr 1;rw[Bool.eq_iff_iff];simp
theorem c44 (g:Gd m)(hG:iU m){T:ByteArray}{i:Nat}(hi:i<T.size)(hT:T.size<90000)(hl:isLt (aF T i)=true):∃m',Ev K 44 [.string T,vI (i:Int)] m (A3 T i).val m'/\Kp m m' eU:=by
 obtain⟨e,he⟩:∃e,e=jb zM T i:=⟨_,rfl⟩;have Fu:e<=T.size:=by rw[he];exact xO av
 have he2:i<e:=by rw[he];exact Da hi (by unfold zM;rw[hl];rfl)
 obtain⟨m1,e1,o1,k1,n1,_⟩:=aQ g w0.cells;have g1:=g.ext k1;have c1:=c41 (K:=K) (m:=m1) (f:=77) (p:=zM) (T:=T) (fun h=>c77 h) (i:=i) av av;rw[<-he]at c1;have v1:=vZ (s:=T) (lo:=i) (hi:=e) av Fu;have hw:xr (T.extract i e):=Ca Fu fun j h1 h2=>Wz (AN h1 (by rw[<-he];exact h2))
 have c2:=c78 (K:=K) (hG.aM k1) hw (a:=22) (b:=46) dB dB;obtain⟨w,hw⟩:∃w,w=A3 T i:=⟨_,rfl⟩;have zO:=hw;unfold A3 at hw;simp only[<-he]at hw
 by_cases hk:spell (T.extract i e) 22 46=0
 ·have b1:(.bool (hY (spell (T.extract i e) 22 46:Nat) 0):af)= .bool false:=by rw[Ea,hk];rfl
  rw[bT (by simp[hk])]at hw;have es:cO (e:Int) (i:Int)=((e-i:Nat):Int):=by rw[zY ⟨av,av⟩];omega
  by_cases hlen:16<e-i
  ·have b2:(.bool (fD (cO (e:Int) (i:Int)) 16):af)= .bool true:=by rw[es,gX,dZ av]
   rw[bL hlen]at hw;obtain⟨m2,e2,k2⟩:=c79 (K:=K) g1 i;obtain⟨m3,e3,o3,k3,eL⟩:=zF w g (o1.aM k2) (ai _) (k1.aN k2);rw[<-zO];subst hw;exact⟨m3,ak (akd T i e _ _ ⟨0,i,i,.empty,0⟩ _) (.mem e1<| .call c1<| .val v1<| .call c2<| .cond b1<| .cond b2<| .call e2<| .mem e3<| .mem eL<| .nil),k3⟩
  ·have b2:(.bool (fD (cO (e:Int) (i:Int)) 16):af)= .bool false:=by rw[es,gX,eO av]
   rw[bT hlen]at hw;obtain⟨m2,e2,k2⟩:=c80 (K:=K) g1 (s:=T.extract i e) (by rw[nJ Fu];omega) (by rw[nJ Fu];omega);obtain⟨m3,e3,o3,k3,eL⟩:=zF w g (o1.aM k2) (ai _) (k1.aN k2);rw[<-zO];subst hw;exact⟨m3,ak (akc T i e _ _ _ _) (.mem e1<| .call c1<| .val v1<| .call c2<| .cond b1<| .cond b2<| .val v1<| .call e2<| .mem e3<| .mem eL<| .nil),k3⟩
 ·have b1:(.bool (hY (spell (T.extract i e) 22 46:Nat) 0):af)= .bool true:=by rw[Ea];simp[hk]
  rw[bL hk]at hw;obtain⟨m3,e3,o3,k3,eL⟩:=zF w g o1 (ai _) k1;rw[<-zO];subst hw;exact⟨m3,ak (ake T i e _ _ _) (.mem e1<| .call c1<| .val v1<| .call c2<| .cond b1<| .mem e3<| .mem eL<| .nil),k3⟩
theorem c46 (g:Gd m){T:ByteArray}{i:Nat}{w:W}(hi:i<T.size)(hT:T.size<90000)(hl:ou (aF T i)=true)(hw:Vm T i=some w):∃m',Ev K 46 [.string T,vI (i:Int)] m w.val m'/\Kp m m' eU:=by
 obtain⟨e,he⟩:∃e,e=jb ou T i:=⟨_,rfl⟩;have Fu:e<=T.size:=by rw[he];exact xO av
 have he2:i<e:=by rw[he];exact Da hi hl
 unfold Vm at hw;simp only[<-he]at hw
 split at hw
 ·rename_i hv;cases hw;obtain⟨m1,e1,o1,k1,n1,_⟩:=aQ g w0.cells;have g1:=g.ext k1;have c1:=c41 (K:=K) (m:=m1) (f:=45) (p:=ou) (T:=T) (fun h=>c45 h) (i:=i) av av;rw[<-he]at c1;have v1:=vZ (s:=T) (lo:=i) (hi:=e) av Fu;have jJ:(T.extract i e).size=e-i:=nJ Fu;obtain⟨m2,e2,k2⟩:=c81 (K:=K) g1 (s:=T.extract i e) av av (fun j hj=>by rw[qD Fu av];exact AN (i:=i) av (by rw[<-he];omega)) (by rw[jJ];exact hv);rw[jJ]at e2;obtain⟨m3,e3,o3,k3,eL⟩:=zF ⟨3,i,e,.empty,jL (T.extract i e) (e-i)⟩ g (o1.aM k2) (ai _) (k1.aN k2);exact⟨m3,ak (p46 T i e _ _ _) (.mem e1<| .call c1<| .val v1<| .call e2<| .cond rfl<| .mem e3<| .mem eL<| .nil),k3⟩
 ·cases hw
theorem c48 (g:Gd m)(hG:iU m){T:ByteArray}{i:Nat}{w:W}(hi:i<T.size)(hT:T.size<90000)(hw:Gu T i=some w):∃m',Ev K 48 [.string T,vI (i:Int)] m w.val m'/\Kp m m' eU:=by
 unfold Gu at hw;simp only[]at hw
 split at hw
 ·rename_i ha;obtain⟨m1,e1,o1,k1,n1,_⟩:=aQ g w0.cells;have g1:=g.ext k1;have CK:=hG.aM k1;have he2:min (i+2) T.size<=T.size:=Nat.min_le_right _ _;have a2:qG false (bB (i:Int) 2) (T.size:Int)=((min (i+2) T.size:Nat):Int):=by rw[gH ⟨av,av⟩];exact A5 (i+2) T.size
  have a1:qG false (bB (i:Int) 1) (T.size:Int)=((i+1:Nat):Int):=by rw[gH ⟨av,av⟩];exact(A5 (i+1) T.size).trans (by rw[Nat.min_eq_left av])
  have v2:=vZ (s:=T) (lo:=i) (hi:=min (i+2) T.size) av he2;have v1:=vZ (s:=T) (lo:=i) (hi:=i+1) av av;have HA:xr (T.extract i (min (i+2) T.size)):=Cb ha;have IH:xr (T.extract i (i+1)):=by
   refine Ca av fun j h1 h2=>?_
   have :=HA (j-i);rwa[qD he2 av,show i+(j-i)=j by omega]at this
  have c2:=c78 (K:=K) CK HA (a:=5) (b:=21) dB dB;have c1:=c78 (K:=K) CK IH (a:=5) (b:=21) dB dB;rw[<-a2]at v2;rw[<-a1]at v1
  split at hw
  ·rename_i hk;cases hw;have b2:(.bool (hY (spell (T.extract i (min (i+2) T.size)) 5 21:Nat) 0):af)= .bool true:=by rw[Ea];simp[hk]
   obtain⟨m3,e3,o3,k3,eL⟩:=zF ⟨spell (T.extract i (min (i+2) T.size)) 5 21,i,min (i+2) T.size,.empty,0⟩ g o1 (ai _) k1;refine⟨m3,?_,k3⟩;have OY:sO m.next 0 [vI (spell (T.extract i (min (i+2) T.size)) 5 21:Nat),vI (i:Int),vI (qG false (bB (i:Int) 2) (T.size:Int)),.string .empty,vI 0] m1=some (undef,m3):=by rw[a2];exact e3
   have eL':fV ae 76 (vP m.next 0) m3=some (.agg #[vI (spell (T.extract i (min (i+2) T.size)) 5 21:Nat),vI (i:Int),vI (qG false (bB (i:Int) 2) (T.size:Int)),.string .empty,vI 0],m3):=by rw[a2];exact eL
   have :=ak (K:=K) (akb T i _ _ _) (m:=m) (m':=m3) (.mem e1<| .cond rfl<| .val v2<| .call c2<| .cond b2<| .mem OY<| .mem eL'<| .nil);rwa[a2]at this
  ·rename_i hk;have b2:(.bool (hY (spell (T.extract i (min (i+2) T.size)) 5 21:Nat) 0):af)= .bool false:=by rw[Ea];simpa using hk
   split at hw
   ·rename_i Dy;cases hw;have b1:(.bool (hY (spell (T.extract i (i+1)) 5 21:Nat) 0):af)= .bool true:=by rw[Ea];simp[Dy]
    obtain⟨m3,e3,o3,k3,eL⟩:=zF ⟨spell (T.extract i (i+1)) 5 21,i,i+1,.empty,0⟩ g o1 (ai _) k1;refine⟨m3,?_,k3⟩;have OY:sO m.next 0 [vI (spell (T.extract i (i+1)) 5 21:Nat),vI (i:Int),vI (qG false (bB (i:Int) 1) (T.size:Int)),.string .empty,vI 0] m1=some (undef,m3):=by rw[a1];exact e3
    have eL':fV ae 76 (vP m.next 0) m3=some (.agg #[vI (spell (T.extract i (i+1)) 5 21:Nat),vI (i:Int),vI (qG false (bB (i:Int) 1) (T.size:Int)),.string .empty,vI 0],m3):=by rw[a1];exact eL
    have :=ak (K:=K) (aka T i _ _ _ _ _) (m:=m) (m':=m3) (.mem e1<| .cond rfl<| .val v2<| .call c2<| .cond b2<| .cond rfl<| .val v1<| .call c1<| .cond b1<| .mem OY<| .mem eL'<| .nil);rwa[a1]at this
   ·rename_i Dy;cases hw;have b1:(.bool (hY (spell (T.extract i (i+1)) 5 21:Nat) 0):af)= .bool false:=by rw[Ea];simpa using Dy
    obtain⟨m2,e2,k2⟩:=c79 (K:=K) g1 i;obtain⟨m3,e3,o3,k3,eL⟩:=zF ⟨0,i,i,.empty,0⟩ g (o1.aM k2) (ai _) (k1.aN k2);exact⟨m3,ak (aj9 T i _ _ _ _ ⟨0,i,i,.empty,0⟩ _) (.mem e1<| .cond rfl<| .val v2<| .call c2<| .cond b2<| .cond rfl<| .val v1<| .call c1<| .cond b1<| .cond rfl<| .call e2<| .mem e3<| .mem eL<| .nil),k3⟩
 ·cases hw
theorem c28 (g:Gd m)(hG:iU m){T:ByteArray}{p:Nat}{w:W}(hT:T.size<90000)(hw:wE T p=some w):∃m',Ev K 28 [.string T,vI (p:Int)] m w.val m'/\Kp m m' eU:=by
 obtain⟨i,hi⟩:∃i,i=jb wP T (min p T.size):=⟨_,rfl⟩;have hi1:i<=T.size:=by rw[hi];exact xO (Nat.min_le_right _ _)
 obtain⟨m1,e1,o1,k1,n1,_⟩:=aQ g w0.cells;have g1:=g.ext k1;have CK:=hG.aM k1;have c1:=c41 (K:=K) (m:=m1) (f:=42) (p:=wP) (T:=T) (fun h=>c42 h) (i:=min p T.size) (Nat.min_le_right _ _) av;have a1:qG true 0 (qG false (p:Int) (T.size:Int))=((min p T.size:Nat):Int):=by rw[A5];exact(Rq 0 _).trans (by rw[Nat.max_eq_right (Nat.zero_le _)])
 rw[<-hi,<-a1]at c1;unfold wE at hw;simp only[<-hi]at hw
 split at hw
 ·rename_i he;cases hw;have b1:(.bool (aZ (i:Int) (T.size:Int)):af)= .bool true:=by rw[FQ];simpa using he
  obtain⟨m3,e3,o3,k3,eL⟩:=zF ⟨1,i,i,.empty,0⟩ g o1 (ai _) k1;exact⟨m3,ak (akp T p i w0 _) (.mem e1<| .call c1<| .cond b1<| .mem e3<| .mem eL<| .nil),k3⟩
 ·rename_i he;have hi2:i<T.size:=av;have b1:(.bool (aZ (i:Int) (T.size:Int)):af)= .bool false:=by rw[FQ];simpa using he
  have q1:=c43 (K:=K) (m:=m1) (B6 T i);have q2:=c45 (K:=K) (m:=m1) (B6 T i)
  split at hw
  ·rename_i hl;cases hw;rw[hl]at q1;obtain⟨m2,e2,k2⟩:=c44 (K:=K) g1 CK hi2 hT hl;obtain⟨m3,e3,o3,k3,eL⟩:=zF (A3 T i) g (o1.aM k2) (ai _) (k1.aN k2);exact⟨m3,ak (ako T p i (A3 T i) _) (.mem e1<| .call c1<| .cond b1<| .idx rfl av<| .call q1<| .cond rfl<| .call e2<| .mem e3<| .mem eL<| .nil),k3⟩
  ·rename_i hl;rw[show isLt (aF T i)=false by simpa using hl]at q1
   split at hw
   ·rename_i hd;rw[hd]at q2;obtain⟨m2,e2,k2⟩:=c46 (K:=K) g1 hi2 hT hd hw;obtain⟨m3,e3,o3,k3,eL⟩:=zF w g (o1.aM k2) (ai _) (k1.aN k2);exact⟨m3,ak (akq T p i w _) (.mem e1<| .call c1<| .cond b1<| .idx rfl av<| .call q1<| .cond rfl<| .idx rfl av<| .call q2<| .cond rfl<| .call e2<| .mem e3<| .mem eL<| .nil),k3⟩
   ·rename_i hd;rw[show ou (aF T i)=false by simpa using hd]at q2
    split at hw
    ·cases hw
    ·rename_i hq;have b2:(.bool (aZ (aF T i:Int) 39):af)= .bool false:=(FQ (b:=39)).trans (by simpa using hq);obtain⟨m2,e2,k2⟩:=c48 (K:=K) g1 CK hi2 hT hw;obtain⟨m3,e3,o3,k3,eL⟩:=zF w g (o1.aM k2) (ai _) (k1.aN k2);exact⟨m3,ak (akn T p i w _) (.mem e1<| .call c1<| .cond b1<| .idx rfl av<| .call q1<| .cond rfl<| .idx rfl av<| .call q2<| .cond rfl<| .idx rfl av<| .cond b2<| .call e2<| .mem e3<| .mem eL<| .nil),k3⟩
end
@[reducible]def mV (w:W):af:=.agg #[vI w.k,vI (w.a:Int),vI (w.z:Int),.string w.s,vI w.n]
@[reducible]def yM (w:W):List af:=[vI w.k,vI (w.a:Int),vI (w.z:Int),.string w.s,vI w.n]
@[reducible]def yL:List (Option af):=[some (vI 0),some (vI 0),some (vI 0),some (.string .empty),some (vI 0)]
end Go.AM
namespace Go.AM
set_option maxRecDepth 1000000
open Go Go.Conc Go.Proofs
section
variable {K:iK}{m:Mem}
theorem X':jR 127 2 [4]=true:=bp
theorem NS:(du (ax 127)).length<=99:=ag bp
theorem LY:dT (ax 127) 2=some (0,(bh (ax 127) [2])):=bp
theorem EX:codeOk (bN 127) (bh (ax 127) [2])=true:=bp
theorem L6:eI (bN 127) (ax 127) (bh (ax 127) [2]) 2 0=true:=bp
theorem aeH (p n c:Nat)(k:Int):bF (bN 127) (ax 127) 0 2 [0,1] [(vL p 0 n c),(vI k)]
 []
 .normal [0,1,6,7,8] [(vL p 0 n c),(vI k),(vL p 0 n c),(vI (n:Int)),(vI 0)]:=eF
theorem aeD (p n c i:Nat)(k:Int):bF (bN 127) (bh (ax 127) [2]) 0 99 [0,1,6,7,8] [(vL p 0 n c),(vI k),(vL p 0 n c),(vI (n:Int)),(vI (i:Int))]
 [aD (br (i:Int) (n:Int)) false]
 (.exit 0) [0] [(vL p 0 n c)]:=eF
theorem aeF (p n c i:Nat)(k y:Int):bF (bN 127) (bh (ax 127) [2]) 0 99 [0,1,6,7,8] [(vL p 0 n c),(vI k),(vL p 0 n c),(vI (n:Int)),(vI (i:Int))]
 [aD (br (i:Int) (n:Int)) true,
  .idx (i:Int) n i,
  .mem (aI p (0+i*1)) (vI y),
  aD (aZ k y) true]
 .ret [4] [(vI (i:Int))]:=eF
theorem aeE (p n c i:Nat)(k y:Int):bF (bN 127) (bh (ax 127) [2]) 0 99 [0,1,6,7,8] [(vL p 0 n c),(vI k),(vL p 0 n c),(vI (n:Int)),(vI (i:Int))]
 [aD (br (i:Int) (n:Int)) true,
  .idx (i:Int) n i,
  .mem (aI p (0+i*1)) (vI y),
  aD (aZ k y) false]
 .normal [0,1,6,7,8] [(vL p 0 n c),(vI k),(vL p 0 n c),(vI (n:Int)),(vI (bB (i:Int) 1))]:=eF
theorem aeG (p n c:Nat):bF (bN 127) (ax 127) 3 99 [0] [(vL p 0 n c)]
 []
 .ret [4] [(vI (-1))]:=eF
theorem p91 (p n c:Nat)(k x:Int):Path 91 [(vL p 0 n c),(vI k)]
 [.call 127 [(vL p 0 n c),(vI k)] (vI x)]
 (.bool (iE x 0)):=cg
def yg:List Int->Int->Nat->Int
 | [],_,_=> -1
 |x::l,k,j=>if k=x then j else yg l k (j+1)
theorem Mg:∀(l:List Int) (k:Int) (j:Nat),(0<=yg l k j)↔k∈l
 | [],k,j=>by simp[yg]
 |x::l,k,j=>by
  unfold yg
  by_cases h:k=x
  ·subst h;simp
  ·rw[bT h,Mg l k (j+1)];simp[h]
theorem am6 {p c:Nat}{ks:List Int}{k:Int}(h:Obj m p 1 (ks.map vI))(hl:ks.length<90000):Ev K 127 [vL p 0 ks.length c,vI k] m (vI (yg ks k 0)) m:=by
 obtain⟨A,hA⟩:∃A,A=vL p 0 ks.length c:=⟨_,rfl⟩;obtain⟨t0,h0,e0⟩:=bQ (K:=K) (m:=m) (m':=m) (tm:=entry [vL p 0 ks.length c,vI k]) (aeH p ks.length c k) rfl .nil;obtain⟨e,t1,m1,he,hx,rfl,hp⟩:=jP (K:=K) (nt:=bN 127) (a:=bh (ax 127) [2])
  (Inv:=fun n tm m'=>m'=m/\∃j,n=ks.length-j/\j<=ks.length/\cH [0,1,6,7,8] tm=[A,vI k,A,vI (ks.length:Int),vI (j:Int)]/\yg ks k 0=yg (ks.drop j) k j)
  (dA:=fun e tm m'=>m'=m/\((e= .exit 0/\cH [0] tm=[A]/\yg ks k 0= -1)\/(e= .ret/\cH [4] tm=[vI (yg ks k 0)])))
  (by
   rintro n tm m1 ⟨rfl,j,rfl,hj,hg,hf⟩;rw[hA]at hg
   by_cases h1:j<ks.length
   ·have c1:(.bool (br (j:Int) (ks.length:Int)):af)= .bool true:=by rw[sB,dZ h1]
    obtain⟨y,hy⟩:∃y,ks[j]=y:=⟨_,rfl⟩;have hd:ks.drop j=y::ks.drop (j+1):=by rw[List.drop_eq_getElem_cons h1,hy]
    have OH:aI p (0+j*1) m1=some (vI y,m1):=by
     rw[Nat.zero_add,Nat.mul_one];exact aJ h (by rw[List.getElem?_map,List.getElem?_eq_getElem h1,hy];rfl)
    have hf:yg ks k 0=if k=y then(j:Int)else yg (ks.drop (j+1)) k (j+1):=by rw[hf,hd];rfl
    by_cases h2:k=y
    ·have c2:(.bool (aZ k y):af)= .bool true:=by rw[cu,dZ h2]
     rw[bL h2]at hf;obtain⟨t2,dk,dm⟩:=aU (K:=K) (m:=m1) (m':=m1) EX (aeF p ks.length c j k y) hg (.cond c1<| .idx rfl h1<| .mem OH<| .cond c2 .nil);exact .inr ⟨_,t2,m1,(fun h=>by cases h),dk,rfl,.inr ⟨rfl,by rw[dm,hf]⟩⟩
    ·have c2:(.bool (aZ k y):af)= .bool false:=by rw[cu,eO h2]
     rw[bT h2]at hf;obtain⟨t2,dk,dm⟩:=aU (K:=K) (m:=m1) (m':=m1) EX (aeE p ks.length c j k y) hg (.cond c1<| .idx rfl h1<| .mem OH<| .cond c2 .nil);exact .inl ⟨_,t2,m1,av,dk,rfl,j+1,rfl,h1,by rw[dm,gH ⟨av,av⟩,hA];rfl,hf⟩
   ·have c1:(.bool (br (j:Int) (ks.length:Int)):af)= .bool false:=by rw[sB,eO h1]
    obtain⟨t2,dk,dm⟩:=aU (K:=K) (m:=m1) (m':=m1) EX (aeD p ks.length c j k) hg (.cond c1 .nil);exact .inr ⟨_,t2,m1,(fun h=>by cases h),dk,rfl,.inl ⟨rfl,by rw[dm,hA],by rw[hf,List.drop_of_length_le av];rfl⟩⟩)
  (n:=ks.length) (k:=100000) (tm:=t0) (m:=m) ⟨rfl,0,av,av,by rw[e0,hA];rfl,rfl⟩ av
 rcases hp with⟨rfl,hg,hf⟩|⟨rfl,hg⟩
 ·rw[hA]at hg;obtain⟨t2,h2,e2⟩:=bQ (K:=K) (m:=m1) (m':=m1) (aeG p ks.length c) hg .nil;rw[hf];exact fg X' (aX.cut h0 (aX.iH LY L6 hx rfl (aX.last h2 NS))) (.inr rfl) e2
 ·exact fg X' (aX.cut h0 (aX.sY LY L6 hx bp)) (.inr rfl) hg
theorem c91 {p c:Nat}{ks:List Int}{k:Int}(h:Obj m p 1 (ks.map vI))(hl:ks.length<90000):Ev K 91 [vL p 0 ks.length c,vI k] m (.bool (decide (k∈ks))) m:=by
 have c1:=am6 (K:=K) (c:=c) (k:=k) h hl;have :=ak (K:=K) (p91 p ks.length c k (yg ks k 0)) (.call c1 .nil);rw[qz]at this;rwa[show decide (0<=yg ks k 0)=decide (k∈ks)from by rw[Bool.eq_iff_iff];simp[Mg]]at this
theorem aj6 (r q n c:Nat)(w:W)(aH:Nat):Path 52 [(vP r 0),(vL q 0 n c)]
 [cp yL aH,
  .mem (aI r 1) (vI w.k),
  .call 91 [(vL q 0 n c),(vI w.k)] (.bool false),
  bV,
  dV aH 0 [(vI 0),(vI 0),(vI 0),dU,(vI 0)],
  lJ 76 aH (.agg #[(vI 0),(vI 0),(vI 0),dU,(vI 0)])]
 (.tuple #[(.agg #[(vI 0),(vI 0),(vI 0),dU,(vI 0)]),(.bool false)]):=cg
theorem aj5 (r q n c:Nat)(T:ByteArray)(w w2:W)(aH a0:Nat):Path 52 [(vP r 0),(vL q 0 n c)]
 [cp yL aH,
  .mem (aI r 1) (vI w.k),
  .call 91 [(vL q 0 n c),(vI w.k)] (.bool true),
  bm,
  .mem (eJ 5 r 1) (mV w),
  cp yL a0,
  dV a0 0 (yM w),
  .mem (aI r 0) (aY T),
  .mem (aI a0 2) (vI (w.z:Int)),
  .mem di undef,
  .call 28 [(aY T),(vI (w.z:Int))] (mV w2),
  .mem di undef,
  dV r 1 (yM w2),
  ie 5 a0 (mV w),
  dV aH 0 (yM w),
  lJ 76 aH (mV w)]
 (.tuple #[(mV w),(.bool true)]):=cg
theorem p30 (r q n c:Nat)(w:W)(b:Bool)(aH:Nat):Path 30 [(vP r 0),(vL q 0 n c)]
 [.call 52 [(vP r 0),(vL q 0 n c)] (.tuple #[(mV w),(.bool b)]),
  cp yL aH,
  dV aH 0 (yM w)]
 (.bool b):=cg
theorem aj4 (r:Nat)(e x:Int):Path 53 [(vP r 0),(vI e)]
 [.mem (aI r 7) (vI x),
  aD (hY x 0) true]
 (.tuple #[]):=cg
theorem aj3 (r:Nat)(e x y:Int):Path 53 [(vP r 0),(vI e)]
 [.mem (aI r 7) (vI x),
  aD (hY x 0) false,
  .mem (aI r 2) (vI y),
  .mem (jo r 7 (vI e)) undef,
  .mem (jo r 8 (vI y)) undef,
  dV r 1 [(vI 0),(vI 0),(vI 0),dU,(vI 0)]]
 (.tuple #[]):=cg
theorem afQ (r:Nat)(k x:Int):Path 262 [(vP r 0),(vI k)]
 [.mem (aI r 1) (vI x),
  aD (hY x k) true]
 (.bool false):=cg
theorem afR (r:Nat)(k x d:Int):Path 262 [(vP r 0),(vI k)]
 [.mem (aI r 1) (vI x),
  aD (hY x k) false,
  .mem (aI r 6) (vI d),
  aD (aZ d 30) true,
  .call 53 [(vP r 0),(vI 2)] (.tuple #[])]
 (.bool false):=cg
theorem afP (r:Nat)(k x d:Int)(b:Bool)(aH:Nat):Path 262 [(vP r 0),(vI k)]
 [.mem (aI r 1) (vI x),
  aD (hY x k) false,
  .mem (aI r 6) (vI d),
  aD (aZ d 30) false,
  .mem (aI r 6) (vI d),
  .mem (jo r 6 (vI (bB d 1))) undef,
  .mem (ao ae 120 1 [(0,(vI k))]) (vL aH 0 1 1),
  .call 30 [(vP r 0),(vL aH 0 1 1)] (.bool b)]
 (.bool b):=cg
theorem akv (r:Nat)(d:Int):Path 264 [(vP r 0)]
 [.mem (aI r 6) (vI d),
  .mem (jo r 6 (vI (cO d 1))) undef]
 (.tuple #[]):=cg
theorem Xy (a:Int):ao ae 120 1 [(0,vI a)] m=some (vL m.next 0 1 1,m.alloc {kind:=1,sz:=1,cs:=[some (vI a)]}):=bp
theorem ks1 (g:Gd m)(a:Int):∃m',ao ae 120 1 [(0,vI a)] m=some (vL m.next 0 1 1,m')/\Obj m' m.next 1 ([a].map vI)/\Kp m m' eU:=by
 obtain⟨k1,k2,k3⟩:=dC g (k:={kind:=1,sz:=1,cs:=[some (vI a)]}) (cs:=[a].map vI) rfl rfl rfl;exact⟨_,Xy a,k1,k2⟩
end
structure RS where
 w:W
 d:Int
 e:Int
 p:Int
def Jr (T:ByteArray)(s:RS):List af:=[.string T,vI s.w.k,vI (s.w.a:Int),vI (s.w.z:Int),.string s.w.s,vI s.w.n,vI s.d,vI s.e,vI s.p]
structure lI (m:Mem)(r:Nat)(T:ByteArray)(s:RS):Prop where
 obj:Obj m r 0 (Jr T s)
 own:Own m r
 pos:0<r
 sz:T.size<90000
theorem lI.ext{m m':Mem}{r:Nat}{T:ByteArray}{s:RS}{S:Nat->Prop}(h:lI m r T s)(k:Kp m m' S)(hs:¬S r):lI m' r T s:=⟨h.obj.ext k hs,h.own.ext k,h.pos,h.sz⟩
theorem lI.aM{m m':Mem}{r:Nat}{T:ByteArray}{s:RS}(h:lI m r T s)(k:Kp m m' eU):lI m' r T s:=h.ext k id
theorem lI.put{m m':Mem}{r:Nat}{T:ByteArray}{s s':RS}{S:Nat->Prop}(h:lI m r T s)(k:Kp m m' S)(o:Obj m' r 0 (Jr T s')):lI m' r T s':=⟨o,h.own.ext k,h.pos,h.sz⟩
abbrev atR (r:Nat):Nat->Prop:=fun x=>x=r
def lK (T:ByteArray)(ks:List Int)(s:RS):Option ((W×Bool)×RS):=
 if s.w.k∈ks then(wE T s.w.z).map fun w=>((s.w,true),{s with w:=w})else some ((w0,false),s)
def DN (e:Int)(s:RS):RS:=if s.e≠0 then s else⟨w0,s.d,e,s.w.a⟩
def jq (T:ByteArray)(ks:List Int)(s:RS):Option (Bool×RS):=(lK T ks s).map fun x=>(x.1.2,x.2)
def lz (T:ByteArray)(k:Int)(s:RS):Option (Bool×RS):=
 if s.w.k≠k then some (false,s)else if s.d=30 then some (false,DN 2 s)else if 0<=s.d/\s.d<30 then jq T [k] {s with d:=s.d+1}else none
def nu (s:RS):RS:={s with d:=s.d-1}
section
variable {K:iK}{m:Mem}{r:Nat}{T:ByteArray}{s s':RS}
theorem c52 (g:Gd m)(hG:iU m)(hr:lI m r T s){q c:Nat}{ks:List Int}(hk:Obj m q 1 (ks.map vI))(hl:ks.length<90000){w:W}{b:Bool}(h:lK T ks s=some ((w,b),s')):
  ∃m',Ev K 52 [vP r 0,vL q 0 ks.length c] m (.tuple #[w.val,.bool b]) m'/\Kp m m' (atR r)/\lI m' r T s':=by
 obtain⟨m1,e1,o1,k1,n1,_⟩:=aQ g w0.cells;have g1:=g.ext k1;have yk:=hr.aM k1;have F8:=yk.obj;have c1:=c91 (K:=K) (k:=s.w.k) (c:=c) (hk.aM k1) hl;unfold lK at h
 split at h
 ·rename_i hm;rw[dZ hm]at c1;obtain⟨w2,HA,h⟩:=ar.1 h;cases h;obtain⟨m2,m3,e2,e3,o3,k3,n3⟩:=eH g1 w0.cells s.w.cells rfl rfl;have g3:=g1.ext k3;have oH:=yk.aM k3;have anC:=oH.obj;obtain⟨m4,e4,k4⟩:=c28 (K:=K) g3 ((hG.aM k1).aM k3) hr.sz HA;have g4:=g3.ext k4;have WM:=oH.aM k4;obtain⟨m5,e5,o5,k5⟩:=dO (o:=1) w2.cells WM.obj (WM.own.may _ _) (ag rfl) rfl;have dx:r≠m1.next:=fun e=>by have :=yk.obj.lt;omega
  have ahD:r≠m.next:=fun e=>by have :=hr.obj.lt;omega
  have o35:=(o3.aM k4).ext k5 (fun e=>dx e.symm);have o15:=((o1.aM k3).aM k4).ext k5 (fun e=>ahD e.symm);have kk:Kp m m5 (atR r):=(((k1.aN k3).aN k4).mo (S:=atR r)).trans k5 fun _ _ h=>h
  obtain⟨m6,e6,o6,k6⟩:=dO (o:=0) s.w.cells o15 ((g.own kk (ai _)).may _ _) (ag rfl) rfl;have eL:fV ae 76 (vP m.next 0) m6=some (s.w.val,m6):=dK o6 rfl uP.1 uP.2;refine⟨m6,ak (aj5 r q _ c T s.w w2 _ _) (.mem e1<| .mem (aJ fP rfl)<| .call c1<| .cond rfl<| .mem (bY fP rfl (ag rfl))<| .mem e2<| .mem e3<| .mem (aJ fP rfl)<| .mem (aJ fP rfl)<| .mem (bW fP)<| .call e4<| .mem (bW fP)<| .mem e5<| .mem (bY fP rfl (ag rfl))<| .mem e6<| .mem eL<| .nil),kk.new k6 (ai _) fun b hb=>by rw[hb];exact ai _,?_⟩;exact hr.put (kk.trans k6 (fun b hb h=>by omega)) (o5.ext k6 ahD)
 ·rename_i hm;rw[eO hm]at c1;cases h;obtain⟨m2,e2,o2,k2⟩:=dO (o:=0) w0.cells o1 ((g.own k1 (ai _)).may _ _) (ag rfl) rfl;have eL:fV ae 76 (vP m.next 0) m2=some (w0.val,m2):=dK o2 rfl uP.1 uP.2;have kk:Kp m m2 eU:=k1.new k2 (ai _) fun b hb=>by rw[hb];exact ai _
  exact⟨m2,ak (aj6 r q _ c s.w _) (.mem e1<| .mem (aJ fP rfl)<| .call c1<| .cond rfl<| .mem e2<| .mem eL<| .nil),kk.mo,hr.aM kk⟩
theorem c30 (g:Gd m)(hG:iU m)(hr:lI m r T s){q c:Nat}{ks:List Int}(hk:Obj m q 1 (ks.map vI))(hl:ks.length<90000){b:Bool}(h:jq T ks s=some (b,s')):
  ∃m',Ev K 30 [vP r 0,vL q 0 ks.length c] m (.bool b) m'/\Kp m m' (atR r)/\lI m' r T s':=by
 obtain⟨⟨⟨w,b'⟩,s2⟩,hx,h⟩:=ar.1 h;cases h;obtain⟨m1,e1,k1,yk⟩:=c52 (K:=K) (c:=c) g hG hr hk hl hx;obtain⟨m2,m3,e2,e3,o3,k3,n3⟩:=eH (g.ext k1) w0.cells w.cells rfl rfl;exact⟨m3,ak (p30 r q _ c w _ _) (.call e1<| .mem e2<| .mem e3<| .nil),k1.aN k3,yk.aM k3⟩
theorem c53 (g:Gd m)(hr:lI m r T s)(e:Int):∃m',Ev K 53 [vP r 0,vI e] m (.tuple #[]) m'/\Kp m m' (atR r)/\lI m' r T (DN e s):=by
 have F8:=hr.obj;unfold DN
 split
 ·rename_i h;have b1:(.bool (hY s.e 0):af)= .bool true:=by rw[jg,dZ h]
  exact⟨m,ak (aj4 r e s.e) (.mem (aJ fP rfl)<| .cond b1<| .nil),Kp.refl _ _,hr⟩
 ·rename_i h;have b1:(.bool (hY s.e 0):af)= .bool false:=by rw[jg,eO h]
  obtain⟨m1,e1,o1,k1⟩:=gu (o:=7) (vI e) F8 (hr.own.may _ _) (ag rfl);obtain⟨m2,e2,o2,k2⟩:=gu (o:=8) (vI s.w.a) o1 ((hr.own.ext k1).may _ _) (ag rfl);obtain⟨m3,e3,o3,k3⟩:=dO (o:=1) w0.cells o2 (((hr.own.ext k1).ext k2).may _ _) (ag rfl) rfl;have kk:Kp m m3 (atR r):=(k1.trans k2 fun _ _ h=>h).trans k3 fun _ _ h=>h
  exact⟨m3,ak (aj3 r e s.e s.w.a) (.mem (aJ fP rfl)<| .cond b1<| .mem (aJ fP rfl)<| .mem e1<| .mem e2<| .mem e3<| .nil),kk,hr.put kk o3⟩
theorem acb (g:Gd m)(hG:iU m)(hr:lI m r T s){k:Int}{b:Bool}(h:lz T k s=some (b,s')):∃m',Ev K 262 [vP r 0,vI k] m (.bool b) m'/\Kp m m' (atR r)/\lI m' r T s':=by
 have F8:=hr.obj;unfold lz at h
 split at h
 ·rename_i h1;cases h;have b1:(.bool (hY s.w.k k):af)= .bool true:=by rw[jg,dZ h1]
  exact⟨m,ak (afQ r k s.w.k) (.mem (aJ fP rfl)<| .cond b1<| .nil),Kp.refl _ _,hr⟩
 ·rename_i h1;have b1:(.bool (hY s.w.k k):af)= .bool false:=by rw[jg,eO h1]
  split at h
  ·rename_i h2;cases h;have b2:(.bool (aZ s.d 30):af)= .bool true:=by rw[cu,dZ h2]
   obtain⟨m1,e1,k1,yk⟩:=c53 (K:=K) g hr 2;exact⟨m1,ak (afR r k s.w.k s.d) (.mem (aJ fP rfl)<| .cond b1<| .mem (aJ fP rfl)<| .cond b2<| .call e1<| .nil),k1,yk⟩
  ·rename_i h2;have b2:(.bool (aZ s.d 30):af)= .bool false:=by rw[cu,eO h2]
   split at h
   ·rename_i h3;obtain⟨m1,e1,o1,k1⟩:=gu (o:=6) (vI (bB s.d 1)) F8 (hr.own.may _ _) (ag rfl);have yk:lI m1 r T {s with d:=s.d+1}:=hr.put k1 (by rw[gH ⟨av,av⟩]at o1;exact o1);obtain⟨m2,e2,o2,k2⟩:=ks1 (g.ext k1) k;obtain⟨m3,e3,k3,oH⟩:=c30 (K:=K) (c:=1) ((g.ext k1).ext k2) ((hG.ext k1 (fun e=>by have :=hr.pos;omega)).aM k2) (yk.aM k2) o2 cK h;exact⟨m3,ak (afP r k s.w.k s.d _ _) (.mem (aJ fP rfl)<| .cond b1<| .mem (aJ fP rfl)<| .cond b2<| .mem (aJ fP rfl)<| .mem e1<| .mem e2<| .call e3<| .nil),(k1.aN k2).trans k3 fun _ _ h=>h,oH⟩
   ·cases h
theorem amJ (g:Gd m)(hr:lI m r T s)(h:0<=s.d/\s.d<100):∃m',Ev K 264 [vP r 0] m (.tuple #[]) m'/\Kp m m' (atR r)/\lI m' r T (nu s):=by
 have F8:=hr.obj;obtain⟨m1,e1,o1,k1⟩:=gu (o:=6) (vI (cO s.d 1)) F8 (hr.own.may _ _) (ag rfl);exact⟨m1,ak (akv r s.d) (.mem (aJ fP rfl)<| .mem e1<| .nil),k1,hr.put k1 (by rw[zY ⟨av,av⟩]at o1;exact o1)⟩
end
end Go.AM
namespace Go.AM
set_option maxRecDepth 1000000
open Go Go.Conc Go.Proofs
noncomputable def R9(nt:Nat)(rs:List ResultVar)(a t:Nat):Bool:=match rs with
 | [.cell x y]=>Nat.beq x a&&Nat.beq y t&&Nat.blt a nt
 |_=>false
noncomputable def BD(f n a t:Nat):Bool:=mQ f&&codeOk (bN f) (ax f)&&R9 (bN f) (XT f) a t&&Nat.ble n (bN f)&&Nat.ble n 16
theorem Af {K:iK}{f a t b:Nat}{args:List af}{m m':Mem}{eG:Tm}{e:Exit}{v:af}(jA:BD f args.length a t=true)(h:aX K (bN f) (ax f) 0 ⟨entry args,m,[]⟩ e ⟨eG,m',[]⟩)(he:e= .normal\/e= .ret)(hg:cH [a] eG=[vP b 0])
  (hL:fV ae t (vP b 0) m'=some (v,m'))(hs:ig f=false:=by rfl):Ev K f args m v m':=by
 unfold BD at jA;simp only[aj]at jA;obtain⟨⟨⟨⟨h1,h2⟩,h3⟩,h4⟩,h5⟩:=jA;obtain⟨tt,ht⟩:=tI (l:=args) (ag h5);have Fu:entry args=tt:=by unfold entry;rw[ht]
 rw[Fu]at h;refine Ah h1 (tm:=tt) (by rw[bL h4,ht]) (h.code h2) he ?_ hs;unfold R9 at h3
 split at h3
 ·rename_i x y hrs;rw[aj,aj]at h3;have e1:=aT h3.1.1;have e2:=aT h3.1.2;subst e1 e2;have hg:de x eG=vP b 0:=by simpa[cH]using hg
  unfold j1;rw[hrs];unfold ss ss;rw[bL h3.2,hg];unfold fV at hL
  split at hL
  ·rename_i v' hv;cases hL;simp only[hv]
  ·cases hL
 ·cases h3
def iq (T:ByteArray):List Int->W->RS->Option (W×RS)
 | [],l,s=>some (l,s)
 |k::ks,_,s=>match lK T [k] s with
  |some ((w,true),s')=>iq T ks w s'
  |some ((_,false),s')=>some (w0,DN 1 s')
  |none=>none
section
variable {K:iK}{m:Mem}{r:Nat}{T:ByteArray}{s s':RS}
theorem ajY (r q n c:Nat)(aH a0:Nat):bF (bN 31) (ax 31) 0 3 [0,1] [(vP r 0),(vL q 0 n c)]
 [cp yL aH,
  cp yL a0]
 .normal [0,4,5,10,11,12] [(vP r 0),(vP aH 0),(vP a0 0),(vL q 0 n c),(vI (n:Int)),(vI 0)]:=eF
theorem ajU (r q n c b1 b2 i:Nat):bF (bN 31) (bh (ax 31) [3]) 0 99 [0,4,5,10,11,12] [(vP r 0),(vP b1 0),(vP b2 0),(vL q 0 n c),(vI (n:Int)),(vI (i:Int))]
 [aD (br (i:Int) (n:Int)) false]
 (.exit 0) [4,5] [(vP b1 0),(vP b2 0)]:=eF
theorem ajV (r q n c b1 b2 i:Nat)(k:Int)(w:W)(aH a0:Nat):bF (bN 31) (bh (ax 31) [3]) 0 99 [0,4,5,10,11,12] [(vP r 0),(vP b1 0),(vP b2 0),(vL q 0 n c),(vI (n:Int)),(vI (i:Int))]
 [aD (br (i:Int) (n:Int)) true,
  .idx (i:Int) n i,
  .mem (aI q (0+i*1)) (vI k),
  .mem (ao ae 120 1 [(0,(vI k))]) (vL aH 0 1 1),
  .call 52 [(vP r 0),(vL aH 0 1 1)] (.tuple #[(mV w),(.bool true)]),
  cp yL a0,
  dV a0 0 (yM w),
  bm,
  ie 5 a0 (mV w),
  dV b2 0 (yM w)]
 .normal [0,4,5,10,11,12] [(vP r 0),(vP b1 0),(vP b2 0),(vL q 0 n c),(vI (n:Int)),(vI (bB (i:Int) 1))]:=eF
theorem ajW (r q n c b1 b2 i:Nat)(k:Int)(w:W)(aH a0:Nat):bF (bN 31) (bh (ax 31) [3]) 0 99 [0,4,5,10,11,12] [(vP r 0),(vP b1 0),(vP b2 0),(vL q 0 n c),(vI (n:Int)),(vI (i:Int))]
 [aD (br (i:Int) (n:Int)) true,
  .idx (i:Int) n i,
  .mem (aI q (0+i*1)) (vI k),
  .mem (ao ae 120 1 [(0,(vI k))]) (vL aH 0 1 1),
  .call 52 [(vP r 0),(vL aH 0 1 1)] (.tuple #[(mV w),(.bool false)]),
  cp yL a0,
  dV a0 0 (yM w),
  bV,
  .call 53 [(vP r 0),(vI 1)] (.tuple #[]),
  dV b1 0 [(vI 0),(vI 0),(vI 0),dU,(vI 0)]]
 .ret [4] [(vP b1 0)]:=eF
theorem ajX (b1 b2:Nat)(w:W):bF (bN 31) (ax 31) 4 99 [4,5] [(vP b1 0),(vP b2 0)]
 [ie 5 b2 (mV w),
  dV b1 0 (yM w)]
 .ret [4] [(vP b1 0)]:=eF
theorem agC:BD 31 2 4 76=true:=bp
theorem Rw:dT (ax 31) 3=some (0,(bh (ax 31) [3])):=bp
theorem JR:codeOk (bN 31) (bh (ax 31) [3])=true:=bp
theorem RE:eI (bN 31) (ax 31) (bh (ax 31) [3]) 3 0=true:=bp
theorem QP:(du (ax 31)).length<=99:=ag bp
theorem c31 (g:Gd m)(hG:iU m)(hr:lI m r T s){q c:Nat}{ks:List Int}(hk:Obj m q 1 (ks.map vI))(hq:q≠r)(hl:ks.length<90000){w:W}(h:iq T ks w0 s=some (w,s')):
  ∃m',Ev K 31 [vP r 0,vL q 0 ks.length c] m w.val m'/\Kp m m' (atR r)/\lI m' r T s':=by
 obtain⟨m1,e1,o1,k1,n1,_⟩:=aQ g w0.cells;obtain⟨m2,e2,o2,k2,n2,_⟩:=aQ (g.ext k1) w0.cells;obtain⟨b1,j8⟩:∃b,b=m.next:=⟨_,rfl⟩;obtain⟨b2,iW⟩:∃b,b=m1.next:=⟨_,rfl⟩;rw[<-j8]at e1 o1;rw[<-iW]at e2 o2;obtain⟨t0,h0,e0⟩:=bQ (K:=K) (m:=m) (m':=m2) (tm:=entry [vP r 0,vL q 0 ks.length c]) (ajY r q ks.length c b1 b2) rfl (.mem e1<| .mem e2<| .nil);obtain⟨st,fp⟩:∃f:Nat->List af,f=fun(j:Nat)=>[vP r 0,vP b1 0,vP b2 0,vL q 0 ks.length c,vI (ks.length:Int),vI (j:Int)]:=⟨_,rfl⟩
 have hlr:=hr.obj.lt;have hlq:=hk.lt;obtain⟨e,t1,m3,he,hx,kk,oH,hp⟩:=jP (K:=K) (nt:=bN 31) (a:=bh (ax 31) [3])
  (Inv:=fun n tm m'=>∃j l s2,n=ks.length-j/\j<=ks.length/\cH [0,4,5,10,11,12] tm=st j/\Kp m m' (atR r)/\lI m' r T s2/\Obj m' b1 0 w0.cells/\Obj m' b2 0 (W.cells l)/\iq T (ks.drop j) l s2=some (w,s'))
  (dA:=fun e tm m'=>Kp m m' (atR r)/\lI m' r T s'/\((e= .exit 0/\cH [4,5] tm=[vP b1 0,vP b2 0]/\Obj m' b1 0 w0.cells/\Obj m' b2 0 w.cells)\/(e= .ret/\cH [4] tm=[vP b1 0]/\Obj m' b1 0 w.cells)))
  (by
   rintro n tm m3 ⟨j,l,s2,rfl,hj,hg,kk,oH,Vk,NY,hm⟩;rw[fp]at hg;have g3:=g.ext kk;have OI:=hk.ext kk hq
   by_cases h1:j<ks.length
   ·have c1:(.bool (br (j:Int) (ks.length:Int)):af)= .bool true:=by rw[sB,dZ h1]
    obtain⟨y,hy⟩:∃y,ks[j]=y:=⟨_,rfl⟩;have hd:ks.drop j=y::ks.drop (j+1):=by rw[List.drop_eq_getElem_cons h1,hy]
    have OH:aI q (0+j*1) m3=some (vI y,m3):=by
     rw[Nat.zero_add,Nat.mul_one];exact aJ OI (by rw[List.getElem?_map,List.getElem?_eq_getElem h1,hy];rfl)
    rw[hd]at hm;obtain⟨m4,e4,o4,k4⟩:=ks1 g3 y;have hl3:=oH.obj.lt;have l1:=Vk.lt;have l2:=NY.lt;have hn4:=k4.next;have hG4:iU m4:=(hG.ext kk (fun e=>by have :=hr.pos;omega)).aM k4;cases ht:lK T [y] s2 with
    |none=>unfold iq at hm;rw[ht]at hm;cases hm
    |some x=>
     obtain⟨⟨w2,b⟩,s3⟩:=x;obtain⟨m5,e5,k5,zR⟩:=c52 (K:=K) (c:=1) (g3.ext k4) hG4 (oH.aM k4) o4 cK ht;have hn5:=k5.next;obtain⟨m6,m7,e6,e7,o7,k7,n7⟩:=eH ((g3.ext k4).ext k5) w0.cells w2.cells rfl rfl;have OA:Kp m m7 (atR r):=(((kk.aN k4).trans k5 fun _ _ h=>h)).aN k7;have Fl:=zR.aM k7;have agV:=((Vk.aM k4).ext k5 (fun e=>by have e:b1=r:=e;omega)).aM k7;have ak2:=((NY.aM k4).ext k5 (fun e=>by have e:b2=r:=e;have :=k1.next;omega)).aM k7;have amg:b1≠b2:=av;cases b with
     |true=>
      obtain⟨m8,e8,o8,k8⟩:=dO (o:=0) w2.cells ak2 ((g.own OA (by have :=k1.next;omega)).may _ _) (ag rfl) rfl;obtain⟨t2,dk,dm⟩:=aU (K:=K) (m:=m3) (m':=m8) JR (ajV r q ks.length c b1 b2 j y w2 _ _) hg (.cond c1<| .idx rfl av<| .mem OH<| .mem e4<| .call e5<| .mem e6<| .mem e7<| .cond rfl<| .mem (bY fP rfl (ag rfl))<| .mem e8<| .nil);refine .inl ⟨ks.length-(j+1),t2,m8,av,dk,j+1,w2,s3,rfl,h1,by rw[dm,fp,gH ⟨av,av⟩];rfl,OA.new k8 (ai _) fun b hb=>(by have :=k1.next;omega),Fl.ext k8 (by have :=k1.next;omega),agV.ext k8 amg,o8,?_⟩;unfold iq at hm;rw[ht]at hm;exact hm
     |false=>
      obtain⟨m8,e8,k8,hr8⟩:=c53 (K:=K) (((g3.ext k4).ext k5).ext k7) Fl 1;obtain⟨m9,e9,o9,k9⟩:=dO (o:=0) w0.cells (agV.ext k8 (fun e=>by have e:b1=r:=e;omega)) ((g.own (OA.trans k8 fun _ _ h=>h) av).may _ _) (ag rfl) rfl;obtain⟨t2,dk,dm⟩:=aU (K:=K) (m:=m3) (m':=m9) JR (ajW r q ks.length c b1 b2 j y w2 _ _) hg (.cond c1<| .idx rfl av<| .mem OH<| .mem e4<| .call e5<| .mem e6<| .mem e7<| .cond rfl<| .call e8<| .mem e9<| .nil);unfold iq at hm;rw[ht]at hm;cases hm;exact .inr ⟨.ret,t2,m9,(fun h=>by cases h),dk,(OA.trans k8 fun _ _ h=>h).new k9 (ai _) fun b hb=>av,hr8.ext k9 av,.inr ⟨rfl,dm,o9⟩⟩
   ·have c1:(.bool (br (j:Int) (ks.length:Int)):af)= .bool false:=by rw[sB,eO h1]
    obtain⟨t2,dk,dm⟩:=aU (K:=K) (m:=m3) (m':=m3) JR (ajU r q ks.length c b1 b2 j) hg (.cond c1 .nil);rw[List.drop_of_length_le av]at hm;cases hm;exact .inr ⟨_,t2,m3,(fun h=>by cases h),dk,kk,oH,.inl ⟨rfl,dm,Vk,NY⟩⟩)
  (n:=ks.length) (k:=100000) (tm:=t0) (m:=m2) ⟨0,w0,s,av,av,by rw[e0,fp];rfl,(k1.aN k2).mo,(hr.aM k1).aM k2,o1.aM k2,o2,h⟩ av
 rcases hp with⟨rfl,hg,Vk,NY⟩|⟨rfl,hg,Vk⟩
 ·obtain⟨m4,e4,o4,k4⟩:=dO (o:=0) w.cells Vk ((g.own kk av).may _ _) (ag rfl) rfl;obtain⟨t2,h2,H0⟩:=bQ (K:=K) (m:=m3) (m':=m4) (ajX b1 b2 w) hg (.mem (bY fP rfl (ag rfl))<| .mem e4<| .nil);exact⟨m4,Af agC (aX.cut h0 (aX.iH Rw RE hx rfl (aX.last h2 QP))) (.inr rfl) H0 (dK o4 rfl uP.1 uP.2),kk.new k4 (ai _) fun b hb=>av,oH.ext k4 av⟩
 ·exact⟨m3,Af agC (aX.cut h0 (aX.sY Rw RE hx bp)) (.inr rfl) hg (dK Vk rfl uP.1 uP.2),kk,oH⟩
end
end Go.AM
namespace Go.AM
set_option maxRecDepth 1000000
open Go Go.Conc Go.Proofs
section
variable {m:Mem}
theorem Xw (a b c:Int):ao ae 120 3 [(0,vI a),(1,vI b),(2,vI c)] m=some (vL m.next 0 3 3,m.alloc {kind:=1,sz:=1,cs:=[some (vI a),some (vI b),some (vI c)]}):=bp
theorem Xv (a b c d e f:Int):ao ae 120 6 [(0,vI a),(1,vI b),(2,vI c),(3,vI d),(4,vI e),(5,vI f)] m=some (vL m.next 0 6 6,m.alloc {kind:=1,sz:=1,cs:=[some (vI a),some (vI b),some (vI c),some (vI d),some (vI e),some (vI f)]}):=bp
theorem ks3 (g:Gd m)(a b c:Int):∃m',ao ae 120 3 [(0,vI a),(1,vI b),(2,vI c)] m=some (vL m.next 0 3 3,m')/\Obj m' m.next 1 ([a,b,c].map vI)/\Kp m m' eU:=by
 obtain⟨k1,k2,k3⟩:=dC g (k:={kind:=1,sz:=1,cs:=[some (vI a),some (vI b),some (vI c)]}) (cs:=[a,b,c].map vI) rfl rfl rfl;exact⟨_,Xw a b c,k1,k2⟩
theorem ks6 (g:Gd m)(a b c d e f:Int):∃m',ao ae 120 6 [(0,vI a),(1,vI b),(2,vI c),(3,vI d),(4,vI e),(5,vI f)] m=some (vL m.next 0 6 6,m')/\Obj m' m.next 1 ([a,b,c,d,e,f].map vI)/\Kp m m' eU:=by
 obtain⟨k1,k2,k3⟩:=dC g (k:={kind:=1,sz:=1,cs:=[some (vI a),some (vI b),some (vI c),some (vI d),some (vI e),some (vI f)]}) (cs:=[a,b,c,d,e,f].map vI) rfl rfl rfl;exact⟨_,Xv a b c d e f,k1,k2⟩
end
section
variable {K:iK}{m:Mem}{r:Nat}{T:ByteArray}{s s':RS}
theorem rX (g:Gd m)(hG:iU m)(hr:lI m r T s){k:Int}{b:Bool}(h:jq T [k] s=some (b,s')):
  ∃q m1 m',ao ae 120 1 [(0,vI k)] m=some (vL q 0 1 1,m1)/\Ev K 30 [vP r 0,vL q 0 1 1] m1 (.bool b) m'/\Kp m m' (atR r)/\lI m' r T s':=by
 obtain⟨m1,e1,o1,k1⟩:=ks1 g k;obtain⟨m2,e2,k2,pA⟩:=c30 (K:=K) (c:=1) (g.ext k1) (hG.aM k1) (hr.aM k1) o1 cK h;exact⟨_,_,_,e1,e2,k1.mo.trans k2 fun _ _ h=>h,pA⟩
theorem Dp (g:Gd m)(hG:iU m)(hr:lI m r T s){k:Int}{w:W}(h:iq T [k] w0 s=some (w,s')):
  ∃q m1 m',ao ae 120 1 [(0,vI k)] m=some (vL q 0 1 1,m1)/\Ev K 31 [vP r 0,vL q 0 1 1] m1 w.val m'/\Kp m m' (atR r)/\lI m' r T s':=by
 obtain⟨m1,e1,o1,k1⟩:=ks1 g k;obtain⟨m2,e2,k2,pA⟩:=c31 (K:=K) (c:=1) (g.ext k1) (hG.aM k1) (hr.aM k1) o1 (fun e=>by have :=hr.obj.lt;omega) cK h;exact⟨_,_,_,e1,e2,k1.mo.trans k2 fun _ _ h=>h,pA⟩
theorem adj (g:Gd m)(hG:iU m)(hr:lI m r T s){k1 k2 k3:Int}{w:W}{b:Bool}(h:lK T [k1,k2,k3] s=some ((w,b),s')):
  ∃q m1 m',ao ae 120 3 [(0,vI k1),(1,vI k2),(2,vI k3)] m=some (vL q 0 3 3,m1)/\Ev K 52 [vP r 0,vL q 0 3 3] m1 (.tuple #[w.val,.bool b]) m'/\Kp m m' (atR r)/\lI m' r T s':=by
 obtain⟨m1,e1,o1,kk⟩:=ks3 g k1 k2 k3;obtain⟨m2,e2,IF,pA⟩:=c52 (K:=K) (c:=3) (g.ext kk) (hG.aM kk) (hr.aM kk) o1 cK h;exact⟨_,_,_,e1,e2,kk.mo.trans IF fun _ _ h=>h,pA⟩
theorem XJ (g:Gd m)(hG:iU m)(hr:lI m r T s){k1 k2 k3 k4 k5 k6:Int}{w:W}{b:Bool}(h:lK T [k1,k2,k3,k4,k5,k6] s=some ((w,b),s')):
  ∃q m1 m',ao ae 120 6 [(0,vI k1),(1,vI k2),(2,vI k3),(3,vI k4),(4,vI k5),(5,vI k6)] m=some (vL q 0 6 6,m1)/\Ev K 52 [vP r 0,vL q 0 6 6] m1 (.tuple #[w.val,.bool b]) m'/\Kp m m' (atR r)/\lI m' r T s':=by
 obtain⟨m1,e1,o1,kk⟩:=ks6 g k1 k2 k3 k4 k5 k6;obtain⟨m2,e2,IF,pA⟩:=c52 (K:=K) (c:=6) (g.ext kk) (hG.aM kk) (hr.aM kk) o1 cK h;exact⟨_,_,_,e1,e2,kk.mo.trans IF fun _ _ h=>h,pA⟩
end
inductive E where
 |nil
 |bin(op:Int)(l r:E)
 |pre(op:Int)(x:E)
 |Dt(x:E)(no:Bool)
 |lit(v:V)
 |ref(s c:ByteArray)
def E.val:E->af
 | .nil=> .nilIface
 | .bin op l r=> .iface 304 (.agg #[vI op,l.val,r.val])
 | .pre op x=> .iface 310 (.agg #[vI op,x.val])
 | .Dt x no=> .iface 313 (.agg #[x.val,.bool no])
 | .lit v=> .iface 316 v.val
 | .ref s c=> .iface 320 (.agg #[.string s,.string c])
theorem TL (op:Int)(l r:E):fH ae 304 [(0,vI op),(1,l.val),(2,r.val)]=some (.agg #[vI op,l.val,r.val]):=by
 cases l<;>cases r<;>kernel_rfl
theorem TJ (op:Int)(x:E):fH ae 310 [(0,vI op),(1,x.val)]=some (.agg #[vI op,x.val]):=by cases x<;>kernel_rfl
theorem acA (no:Bool)(x:E):fH ae 313 [(0,x.val),(1,.bool no)]=some (.agg #[x.val,.bool no]):=by cases x<;>kernel_rfl
def Rd (K:iK)(T:ByteArray)(r:Nat)(f:Nat){α:Type}(p:RS->Option (α×RS))(val:α->af):Prop:=
 ∀(m:Mem) (s:RS) (x:α) (s':RS),Gd m->iU m->lI m r T s->p s=some (x,s')->∃m',Ev K f [vP r 0] m (val x) m'/\Kp m m' (atR r)/\lI m' r T s'
theorem iU.l9{m m':Mem}{r:Nat}(h:iU m)(k:Kp m m' (atR r))(hr:0<r):iU m':=h.ext k (fun e=>by have e:0=r:=e;omega)
abbrev rE (s:ByteArray):af:= .string s
def wG (T:ByteArray)(s:RS):Option (ByteArray×RS):=(iq T [2] w0 s).map fun x=>(x.1.s,x.2)
def Ng (w:W):V:=if w.k=3 then⟨1,w.n,.empty,false⟩else if w.k=4 then⟨2,0,w.s,false⟩else if w.k=42\/w.k=27 then⟨3,0,.empty,decide (w.k=42)⟩else⟨0,0,.empty,false⟩
def ZE (T c:ByteArray)(s:RS):Option (E×RS):=match jq T [8] s with
 |some (true,s1)=>(wG T s1).map fun x=>(.ref c x.1,x.2)
 |some (false,s1)=>some (.ref .empty c,s1)
 |none=>none
section
variable {K:iK}{m:Mem}{r:Nat}{T:ByteArray}{s s':RS}
theorem p83 (r:Nat)(w:W)(aH:Nat):Path 83 [(vP r 0)]
 [.mem (ao ae 120 1 [(0,(vI 2))]) (vL aH 0 1 1),
  .call 31 [(vP r 0),(vL aH 0 1 1)] (mV w)]
 (aY w.s):=cg
theorem afD (w:W)(aH a0:Nat):Path 299 [(mV w)]
 [cp [some (vI w.k),some (vI (w.a:Int)),some (vI (w.z:Int)),some (aY w.s),some (vI w.n)] aH,
  cp nO a0,
  .mem (aI aH 0) (vI w.k),
  aD (aZ w.k 3) true,
  .mem (aI aH 4) (vI w.n),
  dV a0 0 [(vI 1),(vI w.n),dU,(.bool false)],
  lJ 49 a0 (.agg #[(vI 1),(vI w.n),dU,(.bool false)])]
 (.agg #[(vI 1),(vI w.n),dU,(.bool false)]):=cg
theorem afC (w:W)(aH a0:Nat):Path 299 [(mV w)]
 [cp [some (vI w.k),some (vI (w.a:Int)),some (vI (w.z:Int)),some (aY w.s),some (vI w.n)] aH,
  cp nO a0,
  .mem (aI aH 0) (vI w.k),
  aD (aZ w.k 3) false,
  aD (aZ w.k 4) true,
  .mem (aI aH 3) (aY w.s),
  dV a0 0 [(vI 2),(vI 0),(aY w.s),(.bool false)],
  lJ 49 a0 (.agg #[(vI 2),(vI 0),(aY w.s),(.bool false)])]
 (.agg #[(vI 2),(vI 0),(aY w.s),(.bool false)]):=cg
theorem afB (w:W)(aH a0:Nat):Path 299 [(mV w)]
 [cp [some (vI w.k),some (vI (w.a:Int)),some (vI (w.z:Int)),some (aY w.s),some (vI w.n)] aH,
  cp nO a0,
  .mem (aI aH 0) (vI w.k),
  aD (aZ w.k 3) false,
  aD (aZ w.k 4) false,
  aD (aZ w.k 42) true,
  aD (aZ w.k 42) true,
  .mem (aI aH 0) (vI w.k),
  dV a0 0 [(vI 3),(vI 0),dU,(.bool (aZ w.k 42))],
  lJ 49 a0 (.agg #[(vI 3),(vI 0),dU,(.bool (aZ w.k 42))])]
 (.agg #[(vI 3),(vI 0),dU,(.bool (aZ w.k 42))]):=cg
theorem afE (w:W)(aH a0:Nat):Path 299 [(mV w)]
 [cp [some (vI w.k),some (vI (w.a:Int)),some (vI (w.z:Int)),some (aY w.s),some (vI w.n)] aH,
  cp nO a0,
  .mem (aI aH 0) (vI w.k),
  aD (aZ w.k 3) false,
  aD (aZ w.k 4) false,
  aD (aZ w.k 42) false,
  aD (aZ w.k 27) true,
  .mem (aI aH 0) (vI w.k),
  dV a0 0 [(vI 3),(vI 0),dU,(.bool (aZ w.k 42))],
  lJ 49 a0 (.agg #[(vI 3),(vI 0),dU,(.bool (aZ w.k 42))])]
 (.agg #[(vI 3),(vI 0),dU,(.bool (aZ w.k 42))]):=cg
theorem afA (w:W)(aH a0:Nat):Path 299 [(mV w)]
 [cp [some (vI w.k),some (vI (w.a:Int)),some (vI (w.z:Int)),some (aY w.s),some (vI w.n)] aH,
  cp nO a0,
  .mem (aI aH 0) (vI w.k),
  aD (aZ w.k 3) false,
  aD (aZ w.k 4) false,
  aD (aZ w.k 42) false,
  aD (aZ w.k 27) false,
  dV a0 0 [(vI 0),(vI 0),dU,(.bool false)],
  lJ 49 a0 (.agg #[(vI 0),(vI 0),dU,(.bool false)])]
 (.agg #[(vI 0),(vI 0),dU,(.bool false)]):=cg
theorem afG (r:Nat)(c:ByteArray)(aH:Nat):Path 298 [(vP r 0),(aY c)]
 [.mem (ao ae 120 1 [(0,(vI 8))]) (vL aH 0 1 1),
  .call 30 [(vP r 0),(vL aH 0 1 1)] (.bool false),
  bV]
 (.iface 320 (.agg #[dU,(aY c)])):=cg
theorem afF (r:Nat)(c x:ByteArray)(aH:Nat):Path 298 [(vP r 0),(aY c)]
 [.mem (ao ae 120 1 [(0,(vI 8))]) (vL aH 0 1 1),
  .call 30 [(vP r 0),(vL aH 0 1 1)] (.bool true),
  bm,
  .call 83 [(vP r 0)] (aY x)]
 (.iface 320 (.agg #[(aY c),(aY x)])):=cg
theorem Y2:Rd K T r 83 (wG T) rE:=by
 intro m s x s' g hG hr h;obtain⟨⟨w,s1⟩,hx,h⟩:=ar.1 h;cases h;obtain⟨q,m1,m2,e1,e2,k2,pA⟩:=Dp (K:=K) g hG hr hx;exact⟨m2,ak (p83 r w q) (.mem e1<| .call e2<| .nil),k2,pA⟩
theorem Ec:mT ae 49=some true/\dq ae 49=some 4:=⟨bp,bp⟩
theorem amG (g:Gd m)(w:W):∃m',Ev K 299 [w.val] m (Ng w).val m'/\Kp m m' eU:=by
 obtain⟨m1,e1,o1,k1,n1,_⟩:=aQ g w.cells;obtain⟨m2,e2,o2,k2,n2,_⟩:=aQ (g.ext k1) [vI 0,vI 0,.string .empty,.bool false];have Yd:=o1.aM k2;have kk:=k1.aN k2;have go:∀v:V,∃m3,sO m1.next 0 v.cells m2=some (undef,m3)/\fV ae 49 (vP m1.next 0) m3=some (v.val,m3)/\Kp m m3 eU:=by
  intro v;obtain⟨m3,e3,o3,k3⟩:=dO (o:=0) v.cells o2 ((g.own kk (by have :=k1.next;omega)).may _ _) (ag rfl) rfl;exact⟨m3,e3,dK o3 rfl Ec.1 Ec.2,kk.new k3 (ai _) fun b hb=>(by have :=k1.next;omega)⟩
 have b1:(.bool (aZ w.k 3):af)= .bool (decide (w.k=3)):=by rw[cu]
 have b2:(.bool (aZ w.k 4):af)= .bool (decide (w.k=4)):=by rw[cu]
 have b3:(.bool (aZ w.k 42):af)= .bool (decide (w.k=42)):=by rw[cu]
 have b4:(.bool (aZ w.k 27):af)= .bool (decide (w.k=27)):=by rw[cu]
 unfold Ng
 by_cases h1:w.k=3
 ·rw[bL h1];rw[dZ h1]at b1;obtain⟨m3,e3,e4,k3⟩:=go ⟨1,w.n,.empty,false⟩;exact⟨m3,ak (afD w m.next m1.next) (.mem e1<| .mem e2<| .mem (aJ fP rfl)<| .cond b1<| .mem (aJ fP rfl)<| .mem e3<| .mem e4<| .nil),k3⟩
 rw[bT h1];rw[eO h1]at b1
 by_cases h2:w.k=4
 ·rw[bL h2];rw[dZ h2]at b2;obtain⟨m3,e3,e4,k3⟩:=go ⟨2,0,w.s,false⟩;exact⟨m3,ak (afC w m.next m1.next) (.mem e1<| .mem e2<| .mem (aJ fP rfl)<| .cond b1<| .cond b2<| .mem (aJ fP rfl)<| .mem e3<| .mem e4<| .nil),k3⟩
 rw[bT h2];rw[eO h2]at b2
 by_cases h3:w.k=42
 ·rw[bL (.inl h3)];obtain⟨m3,e3,e4,k3⟩:=go ⟨3,0,.empty,aZ w.k 42⟩;rw[show aZ w.k 42=true by rw[cu,dZ h3]]at e4;rw[dZ h3]at b3⊢;have hp:=afB w m.next m1.next;rw[show(.agg #[vI 3,vI 0,.string .empty,.bool (aZ w.k 42)]:af)= .agg #[vI 3,vI 0,.string .empty,.bool true] by rw[b3]]at hp;exact⟨m3,ak hp (.mem e1<| .mem e2<| .mem (aJ fP rfl)<| .cond b1<| .cond b2<| .cond b3<| .cond b3<| .mem (aJ fP rfl)<| .mem e3<| .mem e4<| .nil),k3⟩
 rw[eO h3]at b3
 by_cases h4:w.k=27
 ·rw[bL (.inr h4)];rw[dZ h4]at b4;obtain⟨m3,e3,e4,k3⟩:=go ⟨3,0,.empty,aZ w.k 42⟩;rw[show aZ w.k 42=false by rw[cu,eO h3]]at e4;rw[eO h3];have hp:=afE w m.next m1.next;rw[show(.agg #[vI 3,vI 0,.string .empty,.bool (aZ w.k 42)]:af)= .agg #[vI 3,vI 0,.string .empty,.bool false] by rw[b3]]at hp;exact⟨m3,ak hp (.mem e1<| .mem e2<| .mem (aJ fP rfl)<| .cond b1<| .cond b2<| .cond b3<| .cond b4<| .mem (aJ fP rfl)<| .mem e3<| .mem e4<| .nil),k3⟩
 rw[bT (by rintro(h|h)<;>contradiction)];rw[eO h4]at b4;obtain⟨m3,e3,e4,k3⟩:=go ⟨0,0,.empty,false⟩;exact⟨m3,ak (afA w m.next m1.next) (.mem e1<| .mem e2<| .mem (aJ fP rfl)<| .cond b1<| .cond b2<| .cond b3<| .cond b4<| .mem e3<| .mem e4<| .nil),k3⟩
theorem amH (g:Gd m)(hG:iU m)(hr:lI m r T s){c:ByteArray}{x:E}(h:ZE T c s=some (x,s')):∃m',Ev K 298 [vP r 0,.string c] m x.val m'/\Kp m m' (atR r)/\lI m' r T s':=by
 unfold ZE at h
 split at h
 ·rename_i s1 h1;obtain⟨⟨n,s2⟩,hx,h⟩:=ar.1 h;cases h;obtain⟨q,m1,m2,e1,e2,k2,pA⟩:=rX (K:=K) g hG hr h1;obtain⟨m3,e3,k3,oH⟩:=Y2 (K:=K) m2 _ _ _ (g.ext k2) (hG.l9 k2 hr.pos) pA hx;exact⟨m3,ak (afF r c n q) (.mem e1<| .call e2<| .cond rfl<| .call e3<| .nil),k2.trans k3 fun _ _ h=>h,oH⟩
 ·rename_i s1 h1;cases h;obtain⟨q,m1,m2,e1,e2,k2,pA⟩:=rX (K:=K) g hG hr h1;exact⟨m2,ak (afG r c q) (.mem e1<| .call e2<| .cond rfl<| .nil),k2,pA⟩
 ·cases h
end
end Go.AM
