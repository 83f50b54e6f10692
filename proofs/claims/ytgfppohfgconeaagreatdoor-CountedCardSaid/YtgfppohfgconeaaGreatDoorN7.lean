/-
  What the claim stands on, part 7.
-/
import Derived.Test.YtgfppohfgconeaaGreatDoorN6
set_option linter.unusedVariables false
set_option linter.unusedSimpArgs false
open Go.Proofs.Tryz renaming prog → ab
open Go renaming Value → ae, Program → aD, TypeId → aM, IntKind → bX
open Nat renaming le_of_ble_eq_true → af, le_refl → ai, eq_of_beq_eq_true → az, le_trans → cF
open Bool renaming and_eq_true → ag, false_eq_true → bO
open Option.some renaming injEq → ah
open Prod.mk renaming injEq → au
open Option renaming map_eq_some_iff → aB, bind_some → aX, map_some → cT, isSome_iff_exists → iz
open List renaming all_eq_true → aE
namespace Go.AM
set_option maxRecDepth 1000000
open Go Go.Conc Go.Proofs
def dK:Code->List Code
 | .seq a b=>dK a++dK b
 |c=>[c]
def oH:Code->List Nat->Code
 |c,[]=>c
 |c,i::l=>match(dK c)[i]? with
  |some (.block _ (.loop b))=>oH b l
  |some (.block _ b)=>oH b l
  |some (.cond _ a b)=>match l with
   |0::l'=>oH a l'
   |_::l'=>oH b l'
   | []=>c
  |_=>c
noncomputable def pW(nt:Nat):List Code->Option F
 | []=>some wY
 |c::l=>match comp ab nt 1000 c with
  |some a=>match pW nt l with
   |some b=>some (oF a b)
   |none=>none
  |none=>none
def Dn (K:gI)(nt:Nat)(l:List Code)(st:Ss)(e:Exit)(jR:Ss):Prop:=∃N,∀M n,N<=M->N<=n->∃g,pW nt l=some g/\g (K.C M n) st=some (e,jR)
section
variable {K:gI}{nt:Nat}
theorem Ld {a b c:F}{cl:bJ}{st:Ss}:oF (oF a b) c cl st=oF a (oF b c) cl st:=by
 unfold oF;cases a cl st with
 |none=>rfl
 |some x=>obtain⟨e,jB⟩:=x;cases e<;>rfl
theorem EF {a:F}{cl:bJ}{st:Ss}:oF a wY cl st=a cl st:=by
 unfold oF wY;cases a cl st with
 |none=>rfl
 |some x=>obtain⟨e,jB⟩:=x;cases e<;>rfl
theorem Lc {a b b':F}{cl:bJ}{st:Ss}(h:∀st,b cl st=b' cl st):oF a b cl st=oF a b' cl st:=by
 unfold oF;cases a cl st with
 |none=>rfl
 |some x=>obtain⟨e,jB⟩:=x;cases e<;>first |rfl|exact h _
theorem qk:∀{l l':List Code}{a b:F},pW nt l=some a->pW nt l'=some b->∃g,pW nt (l++l')=some g/\∀cl st,g cl st=oF a b cl st
 | [],l',a,b,ha,hb=>by cases ha;exact⟨b,hb,fun cl st=>rfl⟩
 |c::l,l',a,b,ha,hb=>by
  unfold pW at ha
  split at ha
  ·rename_i f hf
   split at ha
   ·rename_i h hh;cases ha;obtain⟨g,hg,e⟩:=qk hh hb;refine⟨oF f g,?_,fun cl st=>?_⟩
    ·show pW nt (c::(l++l'))=_
     unfold pW;rw[hf,hg]
    ·rw[Ld];exact Lc fun st=>e cl st
   ·cases ha
  ·cases ha
theorem Dn.append{l l':List Code}{st jB zJ:Ss}{e:Exit}(h:Dn K nt l st .normal jB)(k:Dn K nt l' jB e zJ):Dn K nt (l++l') st e zJ:=by
 obtain⟨N,h⟩:=h;obtain⟨N',k⟩:=k;refine⟨N+N',fun M n x y=>?_⟩;obtain⟨a,ha,ea⟩:=h M n aj aj;obtain⟨b,hb,eb⟩:=k M n aj aj;obtain⟨g,hg,eg⟩:=qk ha hb;exact⟨g,hg,by rw[eg];unfold oF;rw[ea];exact eb⟩
theorem Dn.first{l l':List Code}{st jB:Ss}{e:Exit}(h:Dn K nt l st e jB)(he:e≠ .normal)(hs:(pW nt l').isSome=true):Dn K nt (l++l') st e jB:=by
 obtain⟨N,h⟩:=h;obtain⟨b,hb⟩:=iz.1 hs;refine⟨N,fun M n x y=>?_⟩;obtain⟨a,ha,ea⟩:=h M n aj aj;obtain⟨g,hg,eg⟩:=qk ha hb;refine⟨g,hg,?_⟩;rw[eg];unfold oF;rw[ea];cases e<;>first |rfl|exact absurd rfl he
theorem Dn.single{c:Code}{st jB:Ss}{e:Exit}(h:Bb K nt c st e jB):Dn K nt [c] st e jB:=by
 obtain⟨N,h⟩:=h;refine⟨N,fun M n x y=>?_⟩;obtain⟨a,ha,ea⟩:=h M n x y;exact⟨oF a wY,by unfold pW pW;rw[ha],by rw[EF];exact ea⟩
theorem Qv {a b:Code}(hp:fS (.seq a b)=true){f:F}(hf:comp ab nt 1000 (.seq a b)=some f):∃fa fb,comp ab nt 1000 a=some fa/\comp ab nt 1000 b=some fb/\f=oF fa fb:=by
 unfold fS at hp;rw[ag]at hp;unfold comp at hf;simp only[]at hf
 split at hf
 ·rename_i fa ha
  split at hf
  ·rename_i fb hb;exact⟨fa,fb,kW hp.1 ha,kW hp.2 hb,(Option.some.inj hf).symm⟩
  ·cases hf
 ·cases hf
theorem Y8:∀{c:Code}{f:F},fS c=true->comp ab nt 1000 c=some f->∃g,pW nt (dK c)=some g/\∀cl st,g cl st=f cl st:=by
 intro c;have one:∀{c:Code}{f:F},dK c=[c]->comp ab nt 1000 c=some f->∃g,pW nt (dK c)=some g/\∀cl st,g cl st=f cl st:=fun e h=>
  ⟨_,by rw[e];unfold pW pW;rw[h],fun cl st=>EF⟩
 induction c with
 |seq a b iha ihb=>
  intro f hp hf;obtain⟨fa,fb,ha,hb,rfl⟩:=Qv hp hf;unfold fS at hp;rw[ag]at hp;obtain⟨ga,hga,ea⟩:=iha hp.1 ha;obtain⟨gb,Qe,eb⟩:=ihb hp.2 hb;obtain⟨g,hg,e⟩:=qk hga Qe;refine⟨g,hg,fun cl st=>?_⟩;rw[e];unfold oF;rw[ea];cases fa cl st with
  |none=>rfl
  |some x=>obtain⟨ee,jB⟩:=x;cases ee<;>first |rfl|exact eb _ _
 |_=>intro f _ hf;exact one rfl hf
theorem Dn.code{c:Code}{st jB:Ss}{e:Exit}(hp:fS c=true)(hs:(comp ab nt 1000 c).isSome=true)(h:Dn K nt (dK c) st e jB):Bb K nt c st e jB:=by
 obtain⟨N,h⟩:=h;obtain⟨f,hf⟩:=iz.1 hs;obtain⟨g,hg,eg⟩:=Y8 hp hf;refine⟨N,fun M n x y=>⟨f,hf,?_⟩⟩;obtain⟨g',GX,eg'⟩:=h M n x y;rw[hg]at GX;cases GX;rw[<-eg];exact eg'
noncomputable def XV(nt:Nat):List Code->Option (CT (Exit×Tm×Df))
 | []=>some fun K=>K .normal
 |c::l=>match oC ab nt 1000 c with
  |some a=>match XV nt l with
   |some b=>some (aeA a b)
   |none=>none
  |none=>none
noncomputable def St(nt:Nat)(l:List Code)(tm:Tm):T (Exit×Tm×Df):=match XV nt l with
 |some g=>g (fun e tm df=> .done (e,tm,df)) tm []
 |none=> .fail
def CI (c:Code)(i j:Nat):List Code:=((dK c).take j).drop i
def aeb (nt:Nat)(c:Code)(i j:Nat)(tm:Tm)(L:List pS)(e:Exit)(is:List Nat)(vs:List ae):Prop:=
 (pW nt (CI c i j)).isSome=true/\(follow (St nt (CI c i j) tm) L).map (fun x=>(x.1,x.2.1,x.2.2.2,dM is x.2.2.1))=some (L,e,[],vs)
theorem BD:∀{l:List Code}{f:F}{g:CT (Exit×Tm×Df)},pW nt l=some f->XV nt l=some g->WQ f g
 | [],f,g,hf,hg=>by cases hf;cases hg;exact fun cl K tm df m r h=>⟨_,_,rfl,h⟩
 |c::l,f,g,hf,hg=>by
  unfold pW at hf;unfold XV at hg
  split at hf
  ·rename_i fa ha
   split at hf
   ·rename_i fb hb
    split at hg
    ·rename_i ga hga
     split at hg
     ·rename_i gb Qe;cases hf;cases hg;intro cl K tm df m r h;obtain⟨e,st,e1,h⟩:=hY ha hga _ _ _ _ _ _ h;cases e with
      |normal=>
       obtain⟨e,jR,e2,h⟩:=BD hb Qe _ _ _ _ _ _ h;exact⟨e,jR,by unfold oF;rw[e1];exact e2,h⟩
      |_=>exact⟨_,_,by unfold oF;rw[e1],h⟩
     ·cases hg
    ·cases hg
   ·cases hf
  ·cases hf
theorem abl {c:Code}{i j:Nat}{tm:Tm}{L:List pS}{e:Exit}{is:List Nat}{vs:List ae}{m m':Mem}(p:aeb nt c i j tm L e is vs)(h:Ch K m L m'):∃fC,Dn K nt (CI c i j) ⟨tm,m,[]⟩ e ⟨fC,m',[]⟩/\dM is fC=vs:=by
 obtain⟨p1,p2⟩:=p;obtain⟨N,h⟩:=h.chN;obtain⟨x,hx,gm⟩:=aB.1 p2;obtain⟨L',e',fC,ma⟩:=x;simp only[au]at gm;obtain⟨rfl,rfl,rfl,hg⟩:=gm;refine⟨fC,⟨N,fun M n a b=>?_⟩,hg⟩;obtain⟨f,hf⟩:=iz.1 p1;refine⟨f,hf,?_⟩;have hd:=Cv hx (h M n a b);unfold St at hd
 split at hd
 ·rename_i g hg;obtain⟨e2,⟨t2,m2,d2⟩,e3,hd⟩:=BD hf hg _ _ _ _ _ _ hd;cases hd;exact e3
 ·cases hd
def aQ (K:gI)(nt:Nat)(c:Code)(i:Nat)(st:Ss)(e:Exit)(jR:Ss):Prop:=Dn K nt ((dK c).drop i) st e jR
theorem aQ.cut{c:Code}{i j:Nat}{st jB zJ:Ss}{e:Exit}(h:Dn K nt (CI c i j) st .normal jB)(k:aQ K nt c j jB e zJ)(sN:i<=j:=by decide):aQ K nt c i st e zJ:=by
 have e1:(dK c).drop i=CI c i j++(dK c).drop j:=by
  unfold CI;rw[List.drop_take];have :(dK c).drop j=((dK c).drop i).drop (j-i):=by rw[List.drop_drop];congr 1;omega
  rw[this,List.take_append_drop]
 unfold aQ;rw[e1];exact h.append k
theorem aQ.last{c:Code}{i j:Nat}{st jB:Ss}{e:Exit}(h:Dn K nt (CI c i j) st e jB)(hj:(dK c).length<=j):aQ K nt c i st e jB:=by
 unfold aQ;unfold CI at h;rwa[List.take_of_length_le hj]at h
theorem aQ.whole{c:Code}{st jB:Ss}{e:Exit}(h:aQ K nt c 0 st e jB)(hp:fS c=true)(hs:(comp ab nt 1000 c).isSome=true):Bb K nt c st e jB:=Dn.code hp hs h
def iW (c:Code)(i:Nat):Option (Nat×Code):=match(dK c)[i]? with |some (.block id (.loop b))=>some (id,b)|_=>none
theorem aQ.loop{c b:Code}{i id:Nat}{st jB zJ:Ss}{e e':Exit}(hl:iW c i=some (id,b))(h:HQ K nt b 100000 st e' jB)(he:e'= .exit id)(hp:fS b=true)(hs:(comp ab nt 1000 (.block id (.loop b))).isSome=true)(k:aQ K nt c (i+1) jB e zJ):aQ K nt c i st e zJ:=by
 unfold iW at hl
 split at hl
 ·rename_i id' b' hg;cases hl;subst he;obtain⟨cA,Ad⟩:=List.getElem?_eq_some_iff.1 hg;have e1:(dK c).drop i=[.block id (.loop b)]++(dK c).drop (i+1):=by rw[List.drop_eq_getElem_cons cA,Ad];rfl
  have hls:(comp ab nt 1000 (.loop b)).isSome=true:=by
   obtain⟨f,hf⟩:=iz.1 hs;unfold comp at hf;simp only[]at hf
   split at hf
   ·rename_i f' GZ;rw[kW (c:= .loop b) hp GZ];rfl
   ·cases hf
  unfold aQ;rw[e1];exact(Dn.single (Bb.block (e':= .normal) (Bb.loop h hp hls) cY hp hs)).append k
 ·cases hl
theorem aQ.TC{c b:Code}{i id:Nat}{st jB:Ss}(hl:iW c i=some (id,b))(h:HQ K nt b 100000 st .ret jB)(hp:fS b=true)(hs:(comp ab nt 1000 (.block id (.loop b))).isSome=true)(hr:(pW nt ((dK c).drop (i+1))).isSome=true):aQ K nt c i st .ret jB:=by
 unfold iW at hl
 split at hl
 ·rename_i id' b' hg;cases hl;obtain⟨cA,Ad⟩:=List.getElem?_eq_some_iff.1 hg;have e1:(dK c).drop i=[.block id (.loop b)]++(dK c).drop (i+1):=by rw[List.drop_eq_getElem_cons cA,Ad];rfl
  have hls:(comp ab nt 1000 (.loop b)).isSome=true:=by
   obtain⟨f,hf⟩:=iz.1 hs;unfold comp at hf;simp only[]at hf
   split at hf
   ·rename_i f' GZ;rw[kW (c:= .loop b) hp GZ];rfl
   ·cases hf
  unfold aQ;rw[e1];exact(Dn.single (Bb.block (e':= .ret) (Bb.loop h hp hls) rfl hp hs)).first nU hr
 ·cases hl
def oR (c:Code)(i:Nat):Option (Nat×Code):=match(dK c)[i]? with |some (.block id b)=>some (id,b)|_=>none
theorem aQ.block{c b:Code}{i id:Nat}{st jB zJ:Ss}{e e':Exit}(hl:oR c i=some (id,b))(h:aQ K nt b 0 st e' jB)(he:e'= .normal\/e'= .exit id)(hp:fS b=true)(hb:(comp ab nt 1000 b).isSome=true)(hs:(comp ab nt 1000 (.block id b)).isSome=true)(k:aQ K nt c (i+1) jB e zJ):aQ K nt c i st e zJ:=by
 unfold oR at hl
 split at hl
 ·rename_i id' b' hg;cases hl;obtain⟨cA,Ad⟩:=List.getElem?_eq_some_iff.1 hg;have e1:(dK c).drop i=[.block id b]++(dK c).drop (i+1):=by rw[List.drop_eq_getElem_cons cA,Ad];rfl
  unfold aQ;rw[e1];exact(Dn.single (Bb.block (e':= .normal) (aQ.whole h hp hb) (by rcases he with rfl|rfl<;>simp) hp hs)).append k
 ·cases hl
theorem aQ.QL{c b:Code}{i id:Nat}{st jB:Ss}(hl:oR c i=some (id,b))(h:aQ K nt b 0 st .ret jB)(hp:fS b=true)(hb:(comp ab nt 1000 b).isSome=true)(hs:(comp ab nt 1000 (.block id b)).isSome=true)(hr:(pW nt ((dK c).drop (i+1))).isSome=true):aQ K nt c i st .ret jB:=by
 unfold oR at hl
 split at hl
 ·rename_i id' b' hg;cases hl;obtain⟨cA,Ad⟩:=List.getElem?_eq_some_iff.1 hg;have e1:(dK c).drop i=[.block id b]++(dK c).drop (i+1):=by rw[List.drop_eq_getElem_cons cA,Ad];rfl
  unfold aQ;rw[e1];exact(Dn.single (Bb.block (e':= .ret) (aQ.whole h hp hb) rfl hp hs)).first nU hr
 ·cases hl
end
end Go.AM
namespace Go.AM
set_option maxRecDepth 1000000
open Go Go.Conc Go.Proofs
def SK:List Nat->List ae->Tm->Tm
 |i::is,v::vs,tm=>tn i v (SK is vs tm)
 |_,_,tm=>tm
theorem EH:∀{is:List Nat}{vs:List ae}{tm:Tm},dM is tm=vs->SK is vs tm=tm
 | [],_,tm,_=>rfl
 |i::is,[],tm,h=>rfl
 |i::is,v::vs,tm,h=>by
  unfold dM at h;simp only[List.map_cons,List.cons.injEq]at h;unfold SK;rw[EH (is:=is) (vs:=vs) h.2,Pm h.1]
def uy (nt:Nat)(c:Code)(i j:Nat)(Vf:List Nat)(W1:List ae)(L:List pS)(e:Exit)(is:List Nat)(vs:List ae):Prop:=∀g:Tm,aeb nt c i j (SK Vf W1 g) L e is vs
noncomputable abbrev fT (f:Nat)(p:List Nat):Code:=oH (bV f) p
abbrev eA (f:Nat)(p:List Nat):=uy (jx f) (fT f p)
abbrev eS (f:Nat):=uy (jx f) (bV f)
section
variable {K:gI}{nt:Nat}
theorem cj {c:Code}{i j:Nat}{Vf is:List Nat}{W1 vs:List ae}{L:List pS}{e:Exit}{tm:Tm}{m m':Mem}(p:uy nt c i j Vf W1 L e is vs)(h0:dM Vf tm=W1)(h:Ch K m L m'):∃fC,Dn K nt (CI c i j) ⟨tm,m,[]⟩ e ⟨fC,m',[]⟩/\dM is fC=vs:=by
 have :=p tm;rw[EH h0]at this;exact abl this h
noncomputable def codeOk(nt:Nat)(c:Code):Bool:=fS c&&(comp ab nt 1000 c).isSome&&Nat.ble (dK c).length 99
abbrev tI (f:Nat)(p:List Nat):Prop:=codeOk (jx f) (oH (bV f) p)=true
theorem gy {c:Code}(h:codeOk nt c=true):fS c=true/\(comp ab nt 1000 c).isSome=true/\(dK c).length<=99:=by
 unfold codeOk at h;rw[ag,ag]at h;exact⟨h.1.1,h.1.2,af h.2⟩
theorem aQ.code{c:Code}{st jR:Ss}{e:Exit}(h:aQ K nt c 0 st e jR)(ep:codeOk nt c=true):Bb K nt c st e jR:=h.whole (gy ep).1 (gy ep).2.1
theorem bL {c:Code}{Vf is:List Nat}{W1 vs:List ae}{L:List pS}{e:Exit}{tm:Tm}{m m':Mem}(ep:codeOk nt c=true)(p:uy nt c 0 99 Vf W1 L e is vs)(h0:dM Vf tm=W1)(h:Ch K m L m'):∃fC,Bb K nt c ⟨tm,m,[]⟩ e ⟨fC,m',[]⟩/\dM is fC=vs:=by
 obtain⟨fC,h1,h2⟩:=cj p h0 h;exact⟨fC,(aQ.last h1 (gy ep).2.2).code ep,h2⟩
theorem qq {a:Code}{Inv:Nat->Tm->Mem->Prop}{dG:Exit->Tm->Mem->Prop}
  (vi:∀n tm m,Inv n tm m->(∃n' fC m',n'<n/\Bb K nt a ⟨tm,m,[]⟩ .normal ⟨fC,m',[]⟩/\Inv n' fC m')\/∃e fC m',e≠ .normal/\Bb K nt a ⟨tm,m,[]⟩ e ⟨fC,m',[]⟩/\dG e fC m'):
  ∀{n k:Nat}{tm:Tm}{m:Mem},Inv n tm m->n<k->∃e fC m',e≠ .normal/\HQ K nt a k ⟨tm,m,[]⟩ e ⟨fC,m',[]⟩/\dG e fC m':=by
 intro n
 induction n using Nat.strongRecOn with
 |ind n ih=>
  intro k tm m hi hk;obtain⟨k,rfl⟩:∃j,k=j+1:=⟨k-1,aj⟩;rcases vi n tm m hi with⟨n',fC,m',hn,hx,GV⟩|⟨e,fC,m',he,hx,hp⟩
  ·obtain⟨e,Q2,m2,he,hl,hp⟩:=ih n' hn (k:=k) GV aj;exact⟨e,Q2,m2,he,HQ.next hx hl,hp⟩
  ·exact⟨e,fC,m',he,HQ.out hx he,hp⟩
noncomputable def kl(nt:Nat)(c b:Code)(i id:Nat):Bool:=(match iW c i with |some (j,_)=>Nat.beq j id|none=>false)&&codeOk nt b&&(comp ab nt 1000 (.block id (.loop b))).isSome
theorem aQ.xp{c:Code}{i:Nat}{id:Nat}{st jB zJ:Ss}{e e':Exit}{b:Code}(hl:iW c i=some (id,b))(ep:kl nt c b i id=true)(h:HQ K nt b 100000 st e' jB)(he:e'= .exit id)(k:aQ K nt c (i+1) jB e zJ):aQ K nt c i st e zJ:=by
 unfold kl at ep;rw[ag,ag]at ep;exact aQ.loop hl h he (gy ep.1.2).1 ep.2 k
theorem aQ.ES{c:Code}{i:Nat}{id:Nat}{st jB:Ss}{b:Code}(hl:iW c i=some (id,b))(ep:kl nt c b i id=true)(h:HQ K nt b 100000 st .ret jB)(hr:(pW nt ((dK c).drop (i+1))).isSome=true):aQ K nt c i st .ret jB:=by
 unfold kl at ep;rw[ag,ag]at ep;exact aQ.TC hl h (gy ep.1.2).1 ep.2 hr
end
def entry (args:List ae):Tm:=match Dw args with |some t=>t|none=>lL
noncomputable def Nr(nt:Nat):List ResultVar->List Nat->Bool
 | [],[]=>true
 | .tmp t::l,i::is=>Nat.beq t i&&Nat.blt t nt&&Nr nt l is
 |_,_=>false
noncomputable def lF(f n:Nat)(is:List Nat):Bool:=jO f&&codeOk (jx f) (bV f)&&Nr (jx f) (rsT f) is&&Nat.ble n (jx f)&&Nat.ble n 16
def aeI:List ae->ae
 | [v]=>v
 |vs=> .tuple vs.toArray
theorem Ns {nt:Nat}{tm:Tm}{m:Mem}:∀{rs:List ResultVar}{is:List Nat},Nr nt rs is=true->u2 ab nt m tm rs=some (dM is tm)
 | [],[],_=>rfl
 | .tmp t::l,i::is,h=>by
  unfold Nr at h;rw[ag,ag]at h;have :=az h.1.1;subst this;unfold u2;rw[bK h.1.2,Ns h.2];rfl
 | [],_::_,h=>by cases h
 | .tmp _::_,[],h=>by cases h
 | .cell _ _::_,_,h=>by cases h
theorem Ew:∀{l:List ae},l.length<=16->∃t,Dw l=some t:=by
 intro l h;have :Q3 (Q3 l)=[]:=by
  have e:∀l:List ae,kh l=l.drop 1:=fun l=>by cases l<;>rfl
  have e8:∀l:List ae,Q3 l=l.drop 8:=fun l=>by unfold Q3;simp only[e,List.drop_drop]
  rw[e8,e8,List.drop_drop];exact List.drop_of_length_le aj
 unfold Dw;rw[this];exact⟨_,rfl⟩
theorem fW {K:gI}{f:Nat}{args:List ae}{m m':Mem}{fC:Tm}{e:Exit}{is:List Nat}{vs:List ae}(ep:lF f args.length is=true)(h:aQ K (jx f) (bV f) 0 ⟨entry args,m,[]⟩ e ⟨fC,m',[]⟩)(he:e= .normal\/e= .ret)(hg:dM is fC=vs)(hs:iE f=false:=by rfl):Ev K f args m (aeI vs) m':=by
 unfold lF at ep;simp only[ag]at ep;obtain⟨⟨⟨⟨h1,h2⟩,h3⟩,h4⟩,h5⟩:=ep;obtain⟨t,ht⟩:=Ew (l:=args) (af h5);have Qf:entry args=t:=by unfold entry;rw[ht]
 rw[Qf]at h;refine OG h1 (tm:=t) (by rw[bK h4,ht]) (h.code h2) he ?_ hs;unfold lR;rw[Ns h3,hg];unfold aeI
 match vs with
 | []=>rfl
 | [v]=>rfl
 |v::w::l=>rfl
@[reducible]def bu (x b:Bool):pS:=.cond (.bool x) b
@[reducible]def lN:pS:=.cond (.bool true) true
@[reducible]def dH:pS:=.cond (.bool false) false
@[reducible]def pV:ae:=.string .empty
@[reducible]def kB:ae:=.slice none 0 0
@[reducible]noncomputable def pT:pS:=.mem zQ undef
@[reducible]def gq (s:ByteArray):ae:=.string s
@[reducible]def dZ (l:List (Option ae))(b:Nat):pS:=.mem (ni l) (vP b 0)
@[reducible]def jQ (b o:Nat)(l:List ae):pS:=.mem (Az b o l) undef
@[reducible]def iO (n b:Nat)(v:ae):pS:=.mem (fg n b 0) v
@[reducible]noncomputable def sD (t b:Nat)(v:ae):pS:=.mem (pz ab t (vP b 0)) v
theorem fu {f:Nat}{args:List ae}{L:List pS}{v:ae}(h1:jO f=true:=by kernel_rfl)(h2:follow (xK ab X0 f args) L=some (L,v):=by kernel_rfl):Path f args L v:=⟨h1,h2⟩
theorem iD {nt:Nat}{c:Code}{i j:Nat}{Vf:List Nat}{W1:List ae}{L:List pS}{e:Exit}{is:List Nat}{vs:List ae}(h:∀g:Tm,aeb nt c i j (SK Vf W1 g) L e is vs:=by exact fun _=>⟨by kernel_rfl,by kernel_rfl⟩):uy nt c i j Vf W1 L e is vs:=h
end Go.AM
namespace Go.AM
set_option maxRecDepth 1000000
open Go Go.Conc Go.Proofs
section
variable {K:gI}{m:Mem}
theorem ajF (x:Int):Path 259 [vI x]
 []
 (.bool (sT x x)):=fu
theorem ajE (a:ByteArray):Path 260 [gq a]
 []
 (.bool ((a.toList==a.toList)==false)):=fu
theorem agq (x y:Int):Path 216 [vI x,vI y]
 [.call 259 [vI x] (.bool false),
  .call 259 [vI y] (.bool false),
  dH,
  dH,
  bu (eX x y) true]
 (vI (-1)):=fu
theorem agr (x y:Int):Path 216 [vI x,vI y]
 [.call 259 [vI x] (.bool false),
  .call 259 [vI y] (.bool false),
  dH,
  dH,
  bu (eX x y) false,
  bu (sV x y) true]
 (vI 1):=fu
theorem ags (x y:Int):Path 216 [vI x,vI y]
 [.call 259 [vI x] (.bool false),
  .call 259 [vI y] (.bool false),
  dH,
  dH,
  bu (eX x y) false,
  bu (sV x y) false]
 (vI 0):=fu
theorem agn (a b:ByteArray)(b1:Bool):Path 217 [gq a,gq b]
 [.call 260 [gq a] (.bool false),
  .call 260 [gq b] (.bool false),
  dH,
  dH,
  .val (jC ab .lss 9 false false (gq a) (gq b)) (.bool b1),
  bu b1 true]
 (vI (-1)):=fu
theorem ago (a b:ByteArray)(b1 b2:Bool):Path 217 [gq a,gq b]
 [.call 260 [gq a] (.bool false),
  .call 260 [gq b] (.bool false),
  dH,
  dH,
  .val (jC ab .lss 9 false false (gq a) (gq b)) (.bool b1),
  bu b1 false,
  .val (jC ab .gtr 9 false false (gq a) (gq b)) (.bool b2),
  bu b2 true]
 (vI 1):=fu
theorem agp (a b:ByteArray)(b1 b2:Bool):Path 217 [gq a,gq b]
 [.call 260 [gq a] (.bool false),
  .call 260 [gq b] (.bool false),
  dH,
  dH,
  .val (jC ab .lss 9 false false (gq a) (gq b)) (.bool b1),
  bu b1 false,
  .val (jC ab .gtr 9 false false (gq a) (gq b)) (.bool b2),
  bu b2 false]
 (vI 0):=fu
theorem agl:Path 218 [.bool true]
 [lN]
 (vI 1):=fu
theorem agm:Path 218 [.bool false]
 [dH]
 (vI 0):=fu
theorem QD (x:Int):Ev K 259 [vI x] m (.bool false) m:=by
 have h:=aJ (K:=K) (m:=m) (ajF x) .nil;rwa[tK,qV cY]at h
theorem QC (a:ByteArray):Ev K 260 [.string a] m (.bool false) m:=by
 have h:=aJ (K:=K) (m:=m) (ajE a) .nil;rwa[show((a.toList==a.toList)==false)=false by simp]at h
def pM (x y:Int):Int:=if x<y then -1 else if y<x then 1 else 0
theorem adL (x y:Int):Ev K 216 [vI x,vI y] m (vI (pM x y)) m:=by
 unfold pM
 split
 ·rename_i h;exact aJ (agq x y) (.call (QD x)<| .call (QD y)<| .cond rfl<| .cond rfl<| .cond (by rw[eH,vc h]) .nil)
 ·rename_i h
  split
  ·rename_i h2;exact aJ (agr x y) (.call (QD x)<| .call (QD y)<| .cond rfl<| .cond rfl<| .cond (by rw[eH,qV h])<| .cond (by rw[r7,vc h2]) .nil)
  ·rename_i h2;exact aJ (ags x y) (.call (QD x)<| .call (QD y)<| .cond rfl<| .cond rfl<| .cond (by rw[eH,qV h])<| .cond (by rw[r7,qV h2]) .nil)
def CK (a b:ByteArray):Int:=if Op.bytesLess a.toList b.toList then -1 else if Op.bytesLess a.toList b.toList||a.toList==b.toList then 0 else 1
theorem alI (a b:ByteArray):Ev K 217 [.string a,.string b] m (vI (CK a b)) m:=by
 unfold CK
 split
 ·rename_i h;exact aJ (agn a b true) (.call (QC a)<| .call (QC b)<| .cond rfl<| .cond rfl<| .val (by rw[acp,h])<| .cond rfl .nil)
 ·rename_i h;have h:Op.bytesLess a.toList b.toList=false:=by simpa using h
  split
  ·rename_i h2;exact aJ (agp a b false false) (.call (QC a)<| .call (QC b)<| .cond rfl<| .cond rfl<| .val (by rw[acp,h])<| .cond rfl<| .val (by rw[ahR,h2];rfl)<| .cond rfl .nil)
  ·rename_i h2;have h2:(Op.bytesLess a.toList b.toList||a.toList==b.toList)=false:=by simpa using h2
   exact aJ (ago a b false true) (.call (QC a)<| .call (QC b)<| .cond rfl<| .cond rfl<| .val (by rw[acp,h])<| .cond rfl<| .val (by rw[ahR,h2];rfl)<| .cond rfl .nil)
def ve (b:Bool):Int:=if b then 1 else 0
theorem aik (b:Bool):Ev K 218 [.bool b] m (vI (ve b)) m:=by
 cases b
 ·exact aJ agm (.cond rfl .nil)
 ·exact aJ agl (.cond rfl .nil)
theorem ab3 (p:Nat)(y1:Int):Path 215 [vL p 0 4 4]
 [lN,
  .idx 0 4 0,
  .mem (aT p 0) (vI y1),
  bu (sT y1 0) true]
 (vI y1):=fu
theorem ab2 (p:Nat)(y1 y2:Int):Path 215 [vL p 0 4 4]
 [lN,
  .idx 0 4 0,
  .mem (aT p 0) (vI y1),
  bu (sT y1 0) false,
  lN,
  .idx 1 4 1,
  .mem (aT p 1) (vI y2),
  bu (sT y2 0) true]
 (vI y2):=fu
theorem ab1 (p:Nat)(y1 y2 y3:Int):Path 215 [vL p 0 4 4]
 [lN,
  .idx 0 4 0,
  .mem (aT p 0) (vI y1),
  bu (sT y1 0) false,
  lN,
  .idx 1 4 1,
  .mem (aT p 1) (vI y2),
  bu (sT y2 0) false,
  lN,
  .idx 2 4 2,
  .mem (aT p 2) (vI y3),
  bu (sT y3 0) true]
 (vI y3):=fu
theorem ab0 (p:Nat)(y1 y2 y3 y4:Int):Path 215 [vL p 0 4 4]
 [lN,
  .idx 0 4 0,
  .mem (aT p 0) (vI y1),
  bu (sT y1 0) false,
  lN,
  .idx 1 4 1,
  .mem (aT p 1) (vI y2),
  bu (sT y2 0) false,
  lN,
  .idx 2 4 2,
  .mem (aT p 2) (vI y3),
  bu (sT y3 0) false,
  lN,
  .idx 3 4 3,
  .mem (aT p 3) (vI y4),
  bu (sT y4 0) true]
 (vI y4):=fu
theorem abZ (p:Nat)(y1 y2 y3 y4:Int):Path 215 [vL p 0 4 4]
 [lN,
  .idx 0 4 0,
  .mem (aT p 0) (vI y1),
  bu (sT y1 0) false,
  lN,
  .idx 1 4 1,
  .mem (aT p 1) (vI y2),
  bu (sT y2 0) false,
  lN,
  .idx 2 4 2,
  .mem (aT p 2) (vI y3),
  bu (sT y3 0) false,
  lN,
  .idx 3 4 3,
  .mem (aT p 3) (vI y4),
  bu (sT y4 0) false,
  dH]
 (vI 0):=fu
theorem ajR (a b:V)(bW dz MW ZO σ3 σ4 σ5 σ6 ij:Nat)(x1 x2 x3 x4 x5 x6 x7:Int):Path 155 [bQ a,bQ b]
 [dZ (qg a) bW,
  dZ (qg b) dz,
  .mem (aT bW 0) (vI a.k),
  .mem (aT dz 0) (vI b.k),
  .mem (aT bW 1) (vI a.n),
  .mem (gj (vP bW 1)) (vI MW),
  .mem (aT dz 1) (vI b.n),
  .mem (gj (vP dz 1)) (vI ZO),
  .mem (aT bW 2) (gq a.s),
  .mem (gj (vP bW 2)) (vI σ3),
  .mem (aT dz 2) (gq b.s),
  .mem (gj (vP dz 2)) (vI σ4),
  .mem (aT bW 3) (.bool a.b),
  .mem (gj (vP bW 3)) (vI σ5),
  .mem (aT dz 3) (.bool b.b),
  .mem (gj (vP dz 3)) (vI σ6),
  pT,
  .call 216 [vI a.k,vI b.k] (vI x1),
  .mem (cW (vI MW) (vP bW 1) (eI ab 3 (vP bW 1))) undef,
  .mem (cW (vI ZO) (vP dz 1) (eI ab 3 (vP dz 1))) undef,
  .mem (cW (vI σ3) (vP bW 2) (eI ab 9 (vP bW 2))) undef,
  .mem (cW (vI σ4) (vP dz 2) (eI ab 9 (vP dz 2))) undef,
  .mem (cW (vI σ5) (vP bW 3) (eI ab 4 (vP bW 3))) undef,
  .mem (cW (vI σ6) (vP dz 3) (eI ab 4 (vP dz 3))) undef,
  pT,
  .call 216 [vI a.n,vI b.n] (vI x2),
  .mem (cW (vI σ3) (vP bW 2) (eI ab 9 (vP bW 2))) undef,
  .mem (cW (vI σ4) (vP dz 2) (eI ab 9 (vP dz 2))) undef,
  .mem (cW (vI σ5) (vP bW 3) (eI ab 4 (vP bW 3))) undef,
  .mem (cW (vI σ6) (vP dz 3) (eI ab 4 (vP dz 3))) undef,
  pT,
  .call 217 [gq a.s,gq b.s] (vI x3),
  .mem (cW (vI σ5) (vP bW 3) (eI ab 4 (vP bW 3))) undef,
  .mem (cW (vI σ6) (vP dz 3) (eI ab 4 (vP dz 3))) undef,
  pT,
  .call 218 [.bool a.b] (vI x4),
  .mem (cW (vI σ6) (vP dz 3) (eI ab 4 (vP dz 3))) undef,
  pT,
  .call 218 [.bool b.b] (vI x5),
  pT,
  .call 216 [vI x4,vI x5] (vI x6),
  .mem (bI ab 22 4 [(0,(vI x1)),(1,(vI x2)),(2,(vI x3)),(3,(vI x6))]) (vL ij 0 4 4),
  pT,
  .call 215 [vL ij 0 4 4] (vI x7)]
 (vI x7):=fu
def PH:List Int->Int
 | []=>0
 |x::l=>if x≠0 then x else PH l
theorem alJ {b:Nat}{y1 y2 y3 y4:Int}{c:Nat}(h:Obj m b 1 [vI y1,vI y2,vI y3,vI y4]):Ev K 215 [vL b 0 4 4] m (vI (PH [y1,y2,y3,y4])) m:=by
 unfold PH PH PH PH PH;have t:∀{y:Int},y≠0->ae.bool (sT y 0)= .bool true:=fun h=>by rw[tK,vc h]
 have f:∀{y:Int},¬y≠0->ae.bool (sT y 0)= .bool false:=fun h=>by rw[tK,qV h]
 split
 ·rename_i h1;exact aJ (ab3 b y1) (.cond rfl<| .idx rfl gC<| .mem (aO h rfl)<| .cond (t h1) .nil)
 ·rename_i h1
  split
  ·rename_i h2;exact aJ (ab2 b y1 y2) (.cond rfl<| .idx rfl gC<| .mem (aO h rfl)<| .cond (f h1)<| .cond rfl<| .idx rfl gC<| .mem (aO h rfl)<| .cond (t h2) .nil)
  ·rename_i h2
   split
   ·rename_i h3;exact aJ (ab1 b y1 y2 y3) (.cond rfl<| .idx rfl gC<| .mem (aO h rfl)<| .cond (f h1)<| .cond rfl<| .idx rfl gC<| .mem (aO h rfl)<| .cond (f h2)<| .cond rfl<| .idx rfl gC<| .mem (aO h rfl)<| .cond (t h3) .nil)
   ·rename_i h3
    split
    ·rename_i h4;exact aJ (ab0 b y1 y2 y3 y4) (.cond rfl<| .idx rfl gC<| .mem (aO h rfl)<| .cond (f h1)<| .cond rfl<| .idx rfl gC<| .mem (aO h rfl)<| .cond (f h2)<| .cond rfl<| .idx rfl gC<| .mem (aO h rfl)<| .cond (f h3)<| .cond rfl<| .idx rfl gC<| .mem (aO h rfl)<| .cond (t h4) .nil)
    ·rename_i h4;exact aJ (abZ b y1 y2 y3 y4) (.cond rfl<| .idx rfl gC<| .mem (aO h rfl)<| .cond (f h1)<| .cond rfl<| .idx rfl gC<| .mem (aO h rfl)<| .cond (f h2)<| .cond rfl<| .idx rfl gC<| .mem (aO h rfl)<| .cond (f h3)<| .cond rfl<| .idx rfl gC<| .mem (aO h rfl)<| .cond (f h4)<| .cond rfl .nil)
theorem adP (a b c d:Int):bI ab 22 4 [(0,vI a),(1,vI b),(2,vI c),(3,vI d)] m=some (vL m.next 0 4 4,m.alloc {kind:=1,sz:=1,cs:=[some (vI a),some (vI b),some (vI c),some (vI d)]}):=bG
def mh (a b:V):Int:=PH [pM a.k b.k,pM a.n b.n,CK a.s b.s,pM (ve a.b) (ve b.b)]
theorem ais (g:Gd m)(a b:V):∃m',Ev K 155 [a.val,b.val] m (vI (mh a b)) m'/\Kp m m' eQ:=by
 obtain⟨m1,e1,o1,k1,n1,_⟩:=aY g a.cells;obtain⟨m2,e2,o2,k2,n2,_⟩:=aY (g.ext k1) b.cells;have g2:=(g.ext k1).ext k2;have DJ:=o1.aU k2;obtain⟨o3,k3,n3⟩:=gB g2 (k:={kind:=1,sz:=1,cs:=[some (vI (pM a.k b.k)),some (vI (pM a.n b.n)),some (vI (CK a.s b.s)),some (vI (pM (ve a.b) (ve b.b)))]}) (cs:=[vI (pM a.k b.k),vI (pM a.n b.n),vI (CK a.s b.s),vI (pM (ve a.b) (ve b.b))]) rfl rfl rfl;refine⟨_,aJ (ajR a b ..) (by
  refine .mem e1<| .mem e2 ?_
  repeat first |exact .nil|refine .cond rfl ?_|refine .mem (bP nZ) ?_|refine .mem (aO nZ rfl) ?_|refine .mem (bY nZ rfl cY) ?_|refine .mem (dS _ _) ?_|refine .mem (vY nZ rfl rfl) ?_
  refine .call (adL _ _) ?_
  repeat first |exact .nil|refine .cond rfl ?_|refine .mem (bP nZ) ?_|refine .mem (aO nZ rfl) ?_|refine .mem (bY nZ rfl cY) ?_|refine .mem (dS _ _) ?_|refine .mem (vY nZ rfl rfl) ?_
  refine .call (adL _ _) ?_
  repeat first |exact .nil|refine .cond rfl ?_|refine .mem (bP nZ) ?_|refine .mem (aO nZ rfl) ?_|refine .mem (bY nZ rfl cY) ?_|refine .mem (dS _ _) ?_|refine .mem (vY nZ rfl rfl) ?_
  refine .call (alI _ _) ?_
  repeat first |exact .nil|refine .cond rfl ?_|refine .mem (bP nZ) ?_|refine .mem (aO nZ rfl) ?_|refine .mem (bY nZ rfl cY) ?_|refine .mem (dS _ _) ?_|refine .mem (vY nZ rfl rfl) ?_
  refine .call (aik _) ?_
  repeat first |exact .nil|refine .cond rfl ?_|refine .mem (bP nZ) ?_|refine .mem (aO nZ rfl) ?_|refine .mem (bY nZ rfl cY) ?_|refine .mem (dS _ _) ?_|refine .mem (vY nZ rfl rfl) ?_
  refine .call (aik _) ?_
  repeat first |exact .nil|refine .cond rfl ?_|refine .mem (bP nZ) ?_|refine .mem (aO nZ rfl) ?_|refine .mem (bY nZ rfl cY) ?_|refine .mem (dS _ _) ?_|refine .mem (vY nZ rfl rfl) ?_
  refine .call (adL _ _) (.mem (adP ..) (.mem (bP (g2.ext k3)) (.call (alJ o3 (c:=4)) .nil)))),(k1.aS k2).aS k3⟩
end
end Go.AM
namespace Go.AM
set_option maxRecDepth 1000000
open Go Go.Conc Go.Proofs
theorem wI {K:gI}{m m':Mem}{L:List pS}(h:Ch K m L m':=by repeat first |exact .nil|refine .cond (by first |rfl|assumption) ?_|refine .mem (by first |assumption|exact bP nZ|exact aO nZ rfl|exact bY nZ rfl cY|exact dS _ _|exact vY nZ rfl rfl) ?_|refine .call nZ ?_|refine .fw nZ ?_|refine .eE (by first |rfl|assumption) nZ ?_|refine .val (by first |rfl|assumption) ?_|refine .idx (by first |rfl|assumption) (by first |assumption|omega) ?_):Ch K m L m':=h
def xO {R:Type}:T R->Option R
 | .done a=>some a
 | .val r k=>match r with |some v=>xO (k v)|none=>none
 | .cond v k=>match v with | .bool b=>xO (k b)|_=>none
 | .idx n len k=>match n with | .ofNat i=>(match Nat.blt i len with |true=>xO (k i)|false=>none)| .negSucc _=>none
 |_=>none
theorem Qk {R:Type}{cl:bJ}{m:Mem}{a:R}:∀{t:T R},xO t=some a->den cl t m=some (a,m):=by
 intro t
 induction t with
 |done b=>intro h;cases h;rfl
 |val r k ih=>intro h;unfold xO at h;unfold den;split at h<;>first |exact ih _ h|cases h
 |cond v k ih=>intro h;unfold xO at h;unfold den;split at h<;>first |exact ih _ h|cases h
 |idx n len k ih=>
  intro h;unfold xO at h;unfold den
  split at h
  ·split at h
   ·rename_i hb;simp only[hb];exact ih _ h
   ·cases h
  ·cases h
 |_=>intro h;cases h
theorem Zc {K:gI}{f:Nat}{args:List ae}{v:ae}{m:Mem}(hc:jO f=true)(h:xO (xK ab X0 f args)=some v)(hs:iE f=false:=by rfl):Ev K f args m v m:=by
 refine⟨1,fun M n a b=>?_⟩;obtain⟨n,rfl⟩:∃k,n=k+1:=⟨n-1,aj⟩;rw[K.step M n f args m hs];unfold jO at hc
 split at hc
 ·rename_i fn GY
  split at hc
  ·rename_i c wE;rw[ag]at hc;exact r8 GY wE hc.1 hc.2 (Qk h)
  ·cases hc
 ·cases hc
abbrev vU (b:Nat):ae:= .int .u8 b
noncomputable def adN(f:Nat)(p:Nat->Bool):Bool:=(List.range 256).all fun b=>match xO (xK ab X0 f [.int .u8 (.ofNat b)])with |some (.bool r)=>r==p b|_=>false
theorem zo {K:gI}{f:Nat}{p:Nat->Bool}{b:Nat}{m:Mem}(hc:jO f=true)(h:adN f p=true)(hb:b<256)(hs:iE f=false:=by rfl):Ev K f [vU b] m (.bool (p b)) m:=by
 have :=aE.1 h b (List.mem_range.2 hb)
 split at this
 ·rename_i r hr;have e:r=p b:=by simpa using this
  subst e;exact Zc hc hr hs
 ·cases this
def B8 (b:Nat):Bool:=b==32||b==9||b==10||b==13
def pY (b:Nat):Bool:=Nat.ble 48 b&&Nat.ble b 57
def isLt (b:Nat):Bool:=(Nat.ble 97 b&&Nat.ble b 122)||(Nat.ble 65 b&&Nat.ble b 90)||b==95
def amj (b:Nat):Bool:=isLt b||pY b
theorem CY (s:ByteArray)(i:Nat):cU s i<256:=by
 unfold cU
 split
 ·exact UInt8.toNat_lt _
 ·decide
section
variable {K:gI}{m:Mem}
theorem c42 {b:Nat}(hb:b<256):Ev K 42 [vU b] m (.bool (B8 b)) m:=zo bG bG hb
theorem c43 {b:Nat}(hb:b<256):Ev K 43 [vU b] m (.bool (isLt b)) m:=zo bG bG hb
theorem c45 {b:Nat}(hb:b<256):Ev K 45 [vU b] m (.bool (pY b)) m:=zo bG bG hb
theorem ajZ:lF 41 3 [6]=true:=bG
theorem S8:(dK (bV 41)).length<=99:=af bG
theorem acw:iW (bV 41) 1=some (0,(fT 41 [1])):=bG
theorem Lr:tI 41 [1]:=bG
theorem acB:kl (jx 41) (bV 41) (fT 41 [1]) 1 0=true:=bG
theorem ajo (T:ByteArray)(i f:Nat):eS 41 0 1 [0,1,2] [gq T,vI i,.func (.func f) #[] #[]]
 []
 .normal [0,1,2] [gq T,vI i,.func (.func f) #[] #[]]:=iD
theorem ajk (T:ByteArray)(i f:Nat):eA 41 [1] 0 99 [0,1,2] [gq T,vI i,.func (.func f) #[] #[]]
 [bu (eX i (T.size:Int)) false,
  bu (eX i (T.size:Int)) false,
  bu (eX i (T.size:Int)) false,
  bu (eX i (T.size:Int)) false,
  bu (eX i (T.size:Int)) false,
  bu (eX i (T.size:Int)) false,
  dH]
 (.exit 0) [1] [vI i]:=iD
theorem ajm (T:ByteArray)(i f:Nat):eA 41 [1] 0 99 [0,1,2] [gq T,vI i,.func (.func f) #[] #[]]
 [bu (eX i (T.size:Int)) true,
  bu (eX i (T.size:Int)) true,
  bu (eX i (T.size:Int)) true,
  bu (eX i (T.size:Int)) true,
  .idx i T.size i,
  bu (eX i (T.size:Int)) true,
  .fw (.func (.func f) #[] #[]) [.int .u8 (cU T i:Nat)] (.bool false),
  bu (eX i (T.size:Int)) true,
  dH]
 (.exit 0) [1] [vI i]:=iD
theorem ajl (T:ByteArray)(i f:Nat):eA 41 [1] 0 99 [0,1,2] [gq T,vI i,.func (.func f) #[] #[]]
 [bu (eX i (T.size:Int)) true,
  bu (eX i (T.size:Int)) true,
  bu (eX i (T.size:Int)) true,
  bu (eX i (T.size:Int)) true,
  .idx i T.size i,
  bu (eX i (T.size:Int)) true,
  .fw (.func (.func f) #[] #[]) [.int .u8 (cU T i:Nat)] (.bool true),
  bu (eX i (T.size:Int)) true,
  lN]
 .normal [0,1,2] [gq T,vI (eh i 1),.func (.func f) #[] #[]]:=iD
theorem ajn (i:Nat):eS 41 2 99 [1] [vI i]
 []
 .ret [6] [vI i]:=iD
def vC (p:Nat->Bool)(T:ByteArray):Nat->Nat->Nat
 |0,i=>i
 |k+1,i=>if p (cU T i)then vC p T k (i+1)else i
def kj (p:Nat->Bool)(T:ByteArray)(i:Nat):Nat:=vC p T (T.size-i) i
theorem F9 {p:Nat->Bool}{T:ByteArray}:∀{k i:Nat},i<=vC p T k i/\vC p T k i<=i+k
 |0,i=>⟨ai _,ai _⟩
 |k+1,i=>by
  unfold vC
  split
  ·have :=F9 (p:=p) (T:=T) (k:=k) (i:=i+1);omega
  ·omega
theorem Py {p:Nat->Bool}{T:ByteArray}{i:Nat}(h:i<=T.size):kj p T i<=T.size:=by
 have :=(F9 (p:=p) (T:=T) (k:=T.size-i) (i:=i)).2;unfold kj;omega
theorem c41 {T:ByteArray}{p:Nat->Bool}{f:Nat}(hp:∀{b:Nat},b<256->Ev K f [vU b] m (.bool (p b)) m){i:Nat}(hi:i<=T.size)(hT:T.size<99999):
  Ev K 41 [.string T,vI i,.func (.func f) #[] #[]] m (vI (kj p T i:Nat)) m:=by
 obtain⟨t0,h0,e0⟩:=cj (K:=K) (tm:=entry [.string T,vI i,.func (.func f) #[] #[]]) (ajo T i f) rfl (.nil (m:=m));obtain⟨e,t1,m1,he,hx,rfl,rfl,YL⟩:=qq (K:=K) (nt:=jx 41) (a:=fT 41 [1])
  (Inv:=fun n tm m'=>m'=m/\∃j,n=T.size-j/\j<=T.size/\dM [0,1,2] tm=[.string T,vI j,.func (.func f) #[] #[]]/\kj p T i=vC p T (T.size-j) j)
  (dG:=fun e tm m'=>m'=m/\e= .exit 0/\dM [1] tm=[vI (kj p T i:Nat)])
  (by
   rintro n tm m1 ⟨rfl,j,rfl,hj,hg,hr⟩
   by_cases h1:j<T.size
   ·have c1:(.bool (eX j (T.size:Int)):ae)= .bool true:=by rw[eH,vc aj]
    have c2:=hp (CY T j);have hk:T.size-j=(T.size-(j+1))+1:=aj;cases hb:p (cU T j)with
    |true=>
     rw[hb]at c2;obtain⟨t2,gm,gA⟩:=bL (K:=K) (m:=m1) (m':=m1) Lr (ajl T j f) hg wI;exact .inl ⟨_,t2,m1,aj,gm,rfl,j+1,rfl,h1,by rw[gA,j6 ⟨aj,aj⟩];rfl,by rw[hr,hk];conv=>lhs;unfold vC;rw[bK hb]⟩
    |false=>
     rw[hb]at c2;obtain⟨t2,gm,gA⟩:=bL (K:=K) (m:=m1) (m':=m1) Lr (ajm T j f) hg wI;exact .inr ⟨_,t2,m1,nU,gm,rfl,rfl,by rw[gA,hr,hk];unfold vC;rw[bZ (by rw[hb];decide)]⟩
   ·have c1:(.bool (eX j (T.size:Int)):ae)= .bool false:=by rw[eH,qV aj]
    obtain⟨t2,gm,gA⟩:=bL (K:=K) (m:=m1) (m':=m1) Lr (ajk T j f) hg wI;exact .inr ⟨_,t2,m1,nU,gm,rfl,rfl,by rw[gA,hr,show T.size-j=0 by omega];rfl⟩)
  (n:=T.size-i) (k:=100000) (tm:=t0) (m:=m) ⟨rfl,i,rfl,hi,e0,rfl⟩ aj
 obtain⟨t2,h2,e2⟩:=cj (K:=K) (ajn (kj p T i)) YL (.nil (m:=m1));exact fW ajZ (aQ.cut h0 (aQ.xp acw acB hx rfl (aQ.last h2 S8))) (.inr rfl) e2
end
end Go.AM
namespace Go.AM
set_option maxRecDepth 1000000
open Go Go.Conc Go.Proofs
theorem J3 {P:aD}{n DQ:Nat}{k:BoundsCode}(h:n<=DQ):(Instr.sliceBound (vI n) DQ k).aI P=some n:=by
 unfold Instr.sliceBound;have e:(asIntOf (vI n):Sem _).aI P=some (.i64,(n:Int)):=rfl;rw[gk,e]
 show Sem.aI P (if 0<=(n:Int)/\(n:Int)<=DQ then pure (n:Int).toNat else _)=_
 rw[bK aj];rfl
theorem Sc {s:ByteArray}{lo hi:Nat}(h1:lo<=hi)(h2:hi<=s.size):ZZ ab 9 s (some (vI lo)) (some (vI hi))=some (.string (s.extract lo hi)):=by
 refine w8 rfl ?_ rfl;unfold Instr.sliceAt Instr.slice Instr.sliceBounds;simp only[gk,cS RB,aX,jU,J3 h2,J3 h1,Option.isSome_none,bO,if_false]
end Go.AM
namespace Go.AM
set_option maxRecDepth 1000000
open Go Go.Conc Go.Proofs
section
variable {K:gI}{m:Mem}
theorem aa3 {n:Int}(h:0<=n/\n<256):bX.u8.wrap n=n:=by
 obtain⟨k,rfl⟩:∃k:Nat,n=(k:Int):=⟨n.toNat,aj⟩;exact mB (k:= .u8) (by rw[jz,jE];show k<256;omega)
theorem Pq {i j:Int}{n:Nat}(h:vy i j=some n):Int.sub i j=n:=by
 unfold vy at h
 split at h
 ·split at h
  ·rename_i a b hb;cases h;have :=af hb
   show((a:Int)-(b:Int))=((a-b:Nat):Int)
   omega
  ·cases h
 ·cases h
theorem aiW {i j:Int}(h:0<=i-j/\i-j<256):qF vy Int.sub .u8 i j=i-j:=(zt fun n h=>Pq h).trans (aa3 h)
theorem ZG {a b:Nat}:(ae.bool (cN a b))= .bool (a==b):=by rw[se];congr 1;rw[Bool.eq_iff_iff];simp;omega
theorem ZF {a b:Nat}:(ae.bool (eX a b))= .bool (decide (a<b)):=by rw[eH];congr 1;rw[Bool.eq_iff_iff];simp
theorem aiz {a b:Nat}:(ae.bool (GH a b))= .bool (decide (a<=b)):=by rw[U2];congr 1;rw[Bool.eq_iff_iff];simp
end
end Go.AM
namespace Go.AM
set_option maxRecDepth 1000000
open Go Go.Conc Go.Proofs
def spL:List ByteArray:=[⟨#[]⟩,⟨#[]⟩,⟨#[]⟩,⟨#[]⟩,⟨#[]⟩,⟨#[40]⟩,⟨#[41]⟩,⟨#[44]⟩,⟨#[46]⟩,⟨#[59]⟩,⟨#[42]⟩,⟨#[61]⟩,⟨#[60,62]⟩,⟨#[60]⟩,⟨#[60,61]⟩,⟨#[62]⟩,⟨#[62,61]⟩,⟨#[43]⟩,⟨#[45]⟩,⟨#[47]⟩,⟨#[37]⟩,⟨#[124,124]⟩,⟨#[65,76,76]⟩,⟨#[65,78,68]⟩,⟨#[65,83]⟩,⟨#[66,79,79,76]⟩,⟨#[67,82,69,65,84,69]⟩,⟨#[70,65,76,83,69]⟩,⟨#[70,82,79,77]⟩,⟨#[73,78,83,69,82,84]⟩,⟨#[73,78,84]⟩,⟨#[73,78,84,79]⟩,⟨#[73,83]⟩,⟨#[74,79,73,78]⟩,⟨#[78,79,84]⟩,⟨#[78,85,76,76]⟩,⟨#[79,78]⟩,⟨#[79,82]⟩,⟨#[82,69,67,85,82,83,73,86,69]⟩,⟨#[83,69,76,69,67,84]⟩,⟨#[84,65,66,76,69]⟩,⟨#[84,69,88,84]⟩,⟨#[84,82,85,69]⟩,⟨#[85,78,73,79,78]⟩,⟨#[86,65,76,85,69,83]⟩,⟨#[87,72,69,82,69]⟩,⟨#[87,73,84,72]⟩]
def ZL (m:Mem):Prop:=Obj m 0 0 (spL.map .string)
theorem ZL.ext{m m':Mem}{S:Nat->Prop}(h:ZL m)(k:Kp m m' S)(hs:¬S 0):ZL m':=Obj.ext h k hs
theorem zq {s:ByteArray}{i:Nat}{b:UInt8}(h:s.data.toList[i]?=some b):cU s i=b.toNat:=by
 have key:∀(l:List UInt8) (i:Nat) (b:UInt8),l[i]?=some b->sr l i=some b:=by
  intro l
  induction l with
  |nil=>intro i b h;simp at h
  |cons a l ih=>intro i b h;cases i with
   |zero=>simpa[sr]using h
   |succ i=>exact ih i b (by simpa using h)
 unfold cU;rw[key _ _ _ h]
end Go.AM
namespace Go.AM
set_option maxRecDepth 1000000
open Go Go.Conc Go.Proofs
def oy (l:List UInt8):List ae:=l.map fun b=>vU b.toNat
abbrev bl (s:ByteArray):List UInt8:=s.data.toList
theorem Hu (s:ByteArray):(bl s).length=s.size:=Array.length_toList
theorem ZR:ab.underlying 72=some (.slice 5):=bG
theorem XA:ab.underlying 5=some (.int .u8):=bG
theorem KJ {m:Mem}(g:Gd m){s:ByteArray}(h0:0<s.size)(h1:s.size<=2^40):
  ∃m',eU ab 9 72 (.string s) m=some (vL m.next 0 s.size fp,m')/\Obj m' m.next 1 (oy (bl s))/\Kp m m' eQ/\m'.next=m.next+1:=by
 obtain⟨k1,k2,k3⟩:=gB g (k:={kind:=1,sz:=1,cs:=s.data.toList.map fun b=>some (.int .u8 b.toNat)}) (cs:=oy (bl s)) rfl rfl (by unfold oy;rw[List.map_map];rfl);refine⟨_,?_,k1,k2,k3⟩;unfold eU;simp only[RB,ZR,XA];rw[bZ aj]
theorem zX:∀(l:List UInt8),(oy l).mapM (m:=Option) (fun v=>match v with | .int .u8 n=>some (UInt8.ofNat n.toNat)|_=>none)=some l
 | []=>rfl
 |b::l=>by
  show((vU b.toNat::oy l).mapM (m:=Option) _)=_
  rw[List.mapM_cons];have :(UInt8.ofNat ((b.toNat:Int)).toNat)=b:=cY;simp only[this,zX l];rfl
theorem RV {m:Mem}{l:List UInt8}{b c sz:Nat}(h:Obj m b sz (oy l)):eU ab 72 9 (vL b 0 l.length c) m=some (.string ⟨l.toArray⟩,m):=by
 unfold eU;simp only[RB,ZR,XA];have e:m.dv b 0 l.length=some (oy l):=ji h (by rw[List.drop_zero];exact List.take_of_length_le (by simp[oy])) (by simp[oy]);rw[e];exact congrArg (Option.map fun bs=>(ae.string ⟨bs.toArray⟩,m)) (zX l)
theorem CZ {s:ByteArray}{i:Nat}(h:i<s.size):cU s i=((bl s)[i]'(by rw[Hu];exact h)).toNat:=zq (List.getElem?_eq_getElem _)
end Go.AM
namespace Go.AM
set_option maxRecDepth 1000000
open Go Go.Conc Go.Proofs
theorem uP {s d:Nat}{a k:bX}{n:Int}(hs:ab.underlying s=some (.int a))(hd:ab.underlying d=some (.int k)):pu ab [.int a n] (convert s d (.int a n))=some (.int k (k.wrap n)):=by
 refine w8 rfl ?_ rfl;unfold convert;simp only[gk,cS hs,cS hd,aX];rfl
theorem KH:ab.underlying 262=some (.int .u64):=bG
theorem RF:ab.underlying 195=some (.int .u64):=bG
theorem aiS:ab.underlying 2=some (.int .i64):=bG
theorem FN {n:Int}(h:0<=n/\n<18446744073709551616):bX.u64.wrap n=n:=by
 obtain⟨k,rfl⟩:∃k:Nat,n=(k:Int):=⟨n.toNat,aj⟩;exact mB (k:= .u64) (by rw[jz,jE];show k<18446744073709551616;omega)
theorem QU {i j:Int}{n:Nat}(h:uw i j=some n):Int.add i j=n:=by
 unfold uw at h
 split at h
 ·cases h;rfl
 ·cases h
theorem ad7 {i j:Int}(h:0<=i+j/\i+j<18446744073709551616):qF uw Int.add .u64 i j=i+j:=(zt fun n h=>QU h).trans (FN h)
theorem acn {i j:Int}(h:0<=i*j/\i*j<18446744073709551616):qF Gp Int.mul .u64 i j=i*j:=(zt fun n h=>by cases h).trans (FN h)
def ju (s:ByteArray):Nat->Nat
 |0=>0
 |i+1=>ju s i*10+(cU s i-48)
def CB (s:ByteArray):Prop:=∀i,i<s.size->pY (cU s i)=true
theorem tQ {b:Nat}:pY b=true↔48<=b/\b<=57:=by unfold pY;rw[yf,yf,ag,jE,jE]
theorem Fu (s:ByteArray)(j:Nat):ju s (j+1)=ju s j*10+(cU s j-48):=rfl
theorem Qs {s:ByteArray}{i j:Nat}(h:i<=j):ju s i<=ju s j:=by
 induction j with
 |zero=>rw[Nat.le_zero.1 h];exact ai _
 |succ j ih=>
  by_cases he:i=j+1
  ·subst he;exact ai _
  ·have :=ih aj;rw[Fu];omega
theorem EC {s:ByteArray}(h:0<s.size):(ae.bool ((s.toList==ByteArray.empty.toList)==true))= .bool false:=by
 have :s.toList≠ByteArray.empty.toList:=fun e=>by
  rw[ByteArray.toList_eq,ByteArray.toList_eq]at e;have h2:(bl s).length=0:=congrArg List.length e;rw[Hu]at h2;omega
 rw[show(s.toList==ByteArray.empty.toList)=false from by simpa using this];rfl
section
variable {K:gI}{m:Mem}
theorem agI:lF 158 3 [6,7]=true:=bG
theorem PN:(dK (bV 158)).length<=99:=af bG
theorem TA:iW (bV 158) 15=some (3,(fT 158 [15])):=bG
theorem IJ:tI 158 [15]:=bG
theorem TE:kl (jx 158) (bV 158) (fT 158 [15]) 15 3=true:=bG
theorem afb (s:ByteArray)(p n:Nat):eS 158 0 15 [0,1,2] [gq s,vI 10,vI 64]
 [bu ((s.toList==ByteArray.empty.toList)==true) false,
  lN,
  lN,
  lN,
  lN,
  dH,
  dH,
  dH,
  dH,
  dH,
  lN,
  .val (pu ab [vI 64] (convert 3 195 (vI 64))) (.int .u64 64),
  .val (jC ab .shl 262 true false (.int .u64 1) (.int .u64 64)) (.int .u64 0),
  .mem (eU ab 9 72 (gq s)) (vL p 0 n fp)]
 .normal [1,8,9,10,11,12,13,99,100,101] [vI 10,.bool false,gq s,.int .u64 1844674407370955162,.int .u64 18446744073709551615,.bool false,.int .u64 0,vL p 0 n fp,vI n,vI 0]:=iD
theorem ae8 (s:ByteArray)(v p n i:Nat):eA 158 [15] 0 99 [1,8,9,10,11,12,13,99,100,101] [vI 10,.bool false,gq s,.int .u64 1844674407370955162,.int .u64 18446744073709551615,.bool false,.int .u64 v,vL p 0 n fp,vI n,vI i]
 [bu (eX i n) false]
 (.exit 3) [12,13,9] [.bool false,.int .u64 v,gq s]:=iD
theorem ae9 (s:ByteArray)(v p n i b:Nat)(w:Nat):eA 158 [15] 0 99 [1,8,9,10,11,12,13,99,100,101] [vI 10,.bool false,gq s,.int .u64 1844674407370955162,.int .u64 18446744073709551615,.bool false,.int .u64 v,vL p 0 n fp,vI n,vI i]
 [bu (eX i n) true,
  .idx i n i,
  .mem (aT p (0+i*1)) (.int .u8 b),
  bu (cN b 95) false,
  bu (cN b 95) false,
  dH,
  bu (GH 48 b) true,
  bu (GH 48 b) true,
  bu (GH 48 b) true,
  bu (GH b 57) true,
  .val (pu ab [vI 10] (convert 3 5 (vI 10))) (.int .u8 10),
  bu (xJ (qF vy Int.sub .u8 b 48) 10) false,
  bu (xJ v 1844674407370955162) false,
  .val (pu ab [vI 10] (convert 3 262 (vI 10))) (.int .u64 10),
  .val (pu ab [.int .u8 (qF vy Int.sub .u8 b 48)] (convert 5 262 (.int .u8 (qF vy Int.sub .u8 b 48)))) (.int .u64 w),
  bu (eX (qF uw Int.add .u64 (qF Gp Int.mul .u64 v 10) w) (qF Gp Int.mul .u64 v 10)) false,
  bu (eX (qF uw Int.add .u64 (qF Gp Int.mul .u64 v 10) w) (qF Gp Int.mul .u64 v 10)) false,
  bu (eX (qF uw Int.add .u64 (qF Gp Int.mul .u64 v 10) w) (qF Gp Int.mul .u64 v 10)) false,
  bu (eX (qF uw Int.add .u64 (qF Gp Int.mul .u64 v 10) w) (qF Gp Int.mul .u64 v 10)) false,
  bu (sV (qF uw Int.add .u64 (qF Gp Int.mul .u64 v 10) w) 18446744073709551615) false]
 .normal [1,8,9,10,11,12,13,99,100,101] [vI 10,.bool false,gq s,.int .u64 1844674407370955162,.int .u64 18446744073709551615,.bool false,.int .u64 (qF uw Int.add .u64 (qF Gp Int.mul .u64 v 10) w),vL p 0 n fp,vI n,vI (eh i 1)]:=iD
theorem afa (s:ByteArray)(v:Nat):eS 158 16 99 [9,12,13] [gq s,.bool false,.int .u64 v]
 [dH,
  dH,
  dH,
  dH,
  dH]
 .ret [6,7] [.int .u64 v,.nilIface]:=iD
theorem ajT (s:ByteArray)(v:Nat):Path 119 [gq s,vI 10,vI 64]
 [bu ((s.toList==ByteArray.empty.toList)==true) false,
  .idx 0 s.size 0,
  bu (cN (cU s 0:Nat) 43) false,
  bu (cN (cU s 0:Nat) 45) false,
  .call 158 [gq s,vI 10,vI 64] (.tuple #[.int .u64 v,.nilIface]),
  dH,
  dH,
  dH,
  dH,
  dH,
  dH,
  .val (pu ab [vI 63] (convert 3 195 (vI 63))) (.int .u64 63),
  .val (jC ab .shl 262 true false (.int .u64 1) (.int .u64 63)) (.int .u64 9223372036854775808),
  lN,
  lN,
  lN,
  lN,
  bu (xJ v 9223372036854775808) false,
  dH,
  dH,
  dH,
  dH,
  dH,
  .val (pu ab [.int .u64 v] (convert 262 2 (.int .u64 v))) (vI v),
  dH]
 (.tuple #[vI v,.nilIface]):=fu
theorem p81 (s:ByteArray)(v:Nat):Path 81 [gq s,vI 10,vI 64]
 [.call 119 [gq s,vI 10,vI 64] (.tuple #[vI v,.nilIface]),
  dH]
 (.tuple #[vI v,.nilIface]):=fu
theorem SL:jC ab .shl 262 true false (.int .u64 1) (.int .u64 64)=some (.int .u64 0):=bG
theorem SM:jC ab .shl 262 true false (.int .u64 1) (.int .u64 63)=some (.int .u64 9223372036854775808):=bG
theorem alN (g:Gd m){s:ByteArray}(h0:0<s.size)(h1:s.size<90000)(hd:CB s)(hv:ju s s.size<9223372036854775808):
  ∃m',Ev K 158 [.string s,vI 10,vI 64] m (.tuple #[.int .u64 (ju s s.size:Nat),.nilIface]) m'/\Kp m m' eQ:=by
 obtain⟨m1,e1,o1,k1,n1⟩:=KJ g h0 aj;have cn:=EC h0;have v1:pu ab [vI 64] (convert 3 195 (vI 64))=some (.int .u64 64):=uP Pk RF;have v2:=SL;obtain⟨t0,h0',e0⟩:=cj (K:=K) (m:=m) (m':=m1) (tm:=entry [.string s,vI 10,vI 64]) (afb s m.next s.size) rfl wI;obtain⟨st,ei⟩:∃f:Nat->List ae,f=fun j=>[vI 10,.bool false,.string s,.int .u64 1844674407370955162,.int .u64 18446744073709551615,.bool false,.int .u64 (ju s j:Nat),vL m.next 0 s.size fp,vI (s.size:Int),vI j]:=⟨_,rfl⟩
 obtain⟨e,t1,m2,he,hx,rfl,rfl,gA⟩:=qq (K:=K) (nt:=jx 158) (a:=fT 158 [15])
  (Inv:=fun n tm m'=>m'=m1/\∃j,n=s.size-j/\j<=s.size/\dM [1,8,9,10,11,12,13,99,100,101] tm=st j)
  (dG:=fun e tm m'=>e= .exit 3/\m'=m1/\dM [12,13,9] tm=[.bool false,.int .u64 (ju s s.size:Nat),.string s])
  (by
   rintro n tm m2 ⟨rfl,j,rfl,hj,hg⟩;rw[ei]at hg
   by_cases cA:j<s.size
   ·have c1:(.bool (eX j (s.size:Int)):ae)= .bool true:=by rw[ZF,vc cA]
    have hl:j<(bl s).length:=by rw[Hu];exact cA
    have hb:=tQ.1 (hd j cA);have akK:(oy (bl s))[j]?=some (vU (cU s j)):=by
     unfold oy;rw[List.getElem?_map,List.getElem?_eq_getElem hl,CZ cA];rfl
    have hld:aT m.next (0+j*1) m2=some (vU (cU s j),m2):=by rw[Nat.zero_add,Nat.mul_one];exact aO o1 akK
    have hm:ju s (j+1)<=ju s s.size:=Qs aj;have hdn:ju s (j+1)=ju s j*10+(cU s j-48):=rfl;have c2:(.bool (cN (cU s j:Int) 95):ae)= .bool false:=(ZG (b:=95)).trans (by simp;omega);have c3:(.bool (GH 48 (cU s j:Int)):ae)= .bool true:=(aiz (a:=48)).trans (by rw[vc aj]);have c4:(.bool (GH (cU s j:Int) 57):ae)= .bool true:=(aiz (b:=57)).trans (by rw[vc aj]);have q1:pu ab [vI 10] (convert 3 5 (vI 10))=some (.int .u8 10):=uP Pk XA;have q2:pu ab [vI 10] (convert 3 262 (vI 10))=some (.int .u64 10):=uP Pk KH;have es:qF vy Int.sub .u8 (cU s j:Int) 48=((cU s j-48:Nat):Int):=by rw[aiW ⟨aj,aj⟩];omega
    have q3:pu ab [.int .u8 (qF vy Int.sub .u8 (cU s j:Int) 48)] (convert 5 262 (.int .u8 (qF vy Int.sub .u8 (cU s j:Int) 48)))=some (.int .u64 (cU s j-48:Nat)):=by
     rw[uP XA KH,es,FN ⟨aj,aj⟩]
    have em:qF Gp Int.mul .u64 (ju s j:Int) 10=((ju s j*10:Nat):Int):=by rw[acn ⟨aj,aj⟩];omega
    have ea:qF uw Int.add .u64 (qF Gp Int.mul .u64 (ju s j:Int) 10) ((cU s j-48:Nat):Int)=(ju s (j+1):Nat):=by rw[em,ad7 ⟨aj,aj⟩,hdn];omega
    have c5:(.bool (xJ (qF vy Int.sub .u8 (cU s j:Int) 48) 10):ae)= .bool false:=by rw[es,vR,qV aj]
    have c6:(.bool (xJ (ju s j:Int) 1844674407370955162):ae)= .bool false:=by rw[vR,qV aj]
    have c7:(.bool (eX (qF uw Int.add .u64 (qF Gp Int.mul .u64 (ju s j:Int) 10) ((cU s j-48:Nat):Int)) (qF Gp Int.mul .u64 (ju s j:Int) 10)):ae)= .bool false:=by rw[ea,em,eH,qV aj]
    have c8:(.bool (sV (qF uw Int.add .u64 (qF Gp Int.mul .u64 (ju s j:Int) 10) ((cU s j-48:Nat):Int)) 18446744073709551615):ae)= .bool false:=by rw[ea,r7,qV aj]
    obtain⟨t2,gm,gA⟩:=bL (K:=K) (m:=m2) (m':=m2) IJ (ae9 s (ju s j) m.next s.size j (cU s j) (cU s j-48)) hg wI;exact .inl ⟨s.size-(j+1),t2,m2,aj,gm,rfl,j+1,rfl,cA,by rw[gA,ei,ea,j6 ⟨aj,aj⟩];rfl⟩
   ·have c1:(.bool (eX j (s.size:Int)):ae)= .bool false:=by rw[ZF,qV cA]
    obtain⟨t2,gm,gA⟩:=bL (K:=K) (m:=m2) (m':=m2) IJ (ae8 s (ju s j) m.next s.size j) hg wI;exact .inr ⟨_,t2,m2,nU,gm,rfl,rfl,by rw[gA,show j=s.size by omega]⟩)
  (n:=s.size) (k:=100000) (tm:=t0) (m:=m1) ⟨rfl,0,aj,aj,by rw[e0,ei];rfl⟩ aj
 obtain⟨t2,h2,e2⟩:=cj (K:=K) (m:=m2) (m':=m2) (Vf:=[9,12,13]) (afa s (ju s s.size)) (by
  simp only[dM,List.map_cons,List.map_nil,List.cons.injEq,and_true]at gA⊢;exact⟨gA.2.2,gA.1,gA.2.1⟩) wI
 exact⟨m2,fW agI (aQ.cut h0' (aQ.xp TA TE hx rfl (aQ.last h2 PN))) (.inr rfl) e2,k1⟩
theorem c81 (g:Gd m){s:ByteArray}(h0:0<s.size)(h1:s.size<90000)(hd:CB s)(hv:ju s s.size<9223372036854775808):
  ∃m',Ev K 81 [.string s,vI 10,vI 64] m (.tuple #[vI (ju s s.size:Nat),.nilIface]) m'/\Kp m m' eQ:=by
 obtain⟨m1,e1,k1⟩:=alN (K:=K) g h0 h1 hd hv;have cn:=EC h0;have hb:=tQ.1 (hd 0 h0);have c1:(.bool (cN (cU s 0:Int) 43):ae)= .bool false:=(ZG (b:=43)).trans (by simp;omega);have c2:(.bool (cN (cU s 0:Int) 45):ae)= .bool false:=(ZG (b:=45)).trans (by simp;omega);have v1:pu ab [vI 63] (convert 3 195 (vI 63))=some (.int .u64 63):=uP Pk RF;have v2:=SM;have c3:(.bool (xJ (ju s s.size:Int) 9223372036854775808):ae)= .bool false:=by rw[vR,qV aj]
 have v3:pu ab [.int .u64 (ju s s.size:Nat)] (convert 262 2 (.int .u64 (ju s s.size:Nat)))=some (vI (ju s s.size:Nat)):=by rw[uP KH aiS,oE ⟨aj,aj⟩]
 have e2:=aJ (K:=K) (m:=m) (m':=m1) (ajT s (ju s s.size)) wI;exact⟨m1,aJ (p81 s (ju s s.size)) wI,k1⟩
end
end Go.AM
namespace Go.AM
set_option maxRecDepth 1000000
open Go Go.Conc Go.Proofs
structure W where
 k:Int
 a:Nat
 z:Nat
 s:ByteArray
 n:Int
def W.cells(w:W):List ae:=[vI w.k,vI (w.a:Int),vI (w.z:Int),.string w.s,vI w.n]
abbrev W.val(w:W):ae:= .agg #[vI w.k,vI (w.a:Int),vI (w.z:Int),.string w.s,vI w.n]
theorem nK {m:Mem}{b sz t n:Nat}{cs:List ae}(h:Obj m b sz cs)(hn:cs.length=n)(ht:wq ab t=some true)(hz:dV ab t=some n):pz ab t (vP b 0) m=some (.agg cs.toArray,m):=by
 unfold pz j9;simp only[ht,hz,aX,ji h (o:=0) (n:=n) (by rw[List.drop_zero,<-hn,List.take_length]) aj,cT]
theorem aaR:wq ab 76=some true/\dV ab 76=some 5:=⟨bG,bG⟩
theorem Aj {T:ByteArray}{i e:Nat}(he:e<=T.size):(T.extract i e).size=e-i:=by
 rw[ByteArray.size_extract];omega
theorem Ec {T:ByteArray}{i e j:Nat}(he:e<=T.size)(hj:j<e-i):cU (T.extract i e) j=cU T (i+j):=by
 have h1:j<(T.extract i e).size:=by rw[Aj he];exact hj
 rw[CZ h1,CZ (show i+j<T.size by omega)]
 congr 1
 have e1:bl (T.extract i e)=((bl T).drop i).take (e-i):=by
  unfold bl;rw[ByteArray.data_extract,Array.toList_extract,List.extract_eq_take_drop]
 simp only[e1,List.getElem_take,List.getElem_drop]
theorem Ij {p:Nat->Bool}{T:ByteArray}:∀{k i j:Nat},i<=j->j<vC p T k i->p (cU T j)=true
 |0,i,j,h1,h2=>by unfold vC at h2;omega
 |k+1,i,j,h1,h2=>by
  unfold vC at h2
  split at h2
  ·rename_i hp
   by_cases he:j=i
   ·subst he;exact hp
   ·exact Ij (k:=k) (i:=i+1) aj h2
  ·omega
theorem Le {p:Nat->Bool}{T:ByteArray}{i j:Nat}(h1:i<=j)(h2:j<kj p T i):p (cU T j)=true:=Ij h1 h2
theorem Pz {p:Nat->Bool}{T:ByteArray}{i:Nat}(hi:i<T.size)(hp:p (cU T i)=true):i<kj p T i:=by
 unfold kj;obtain⟨k,hk⟩:∃k,T.size-i=k+1:=⟨T.size-i-1,aj⟩;rw[hk];unfold vC;rw[bK hp];have :=(F9 (p:=p) (T:=T) (k:=k) (i:=i+1)).1;omega
def Tg (T:ByteArray)(i:Nat):Option W:=
 let e:=kj pY T i
 let v:=ju (T.extract i e) (e-i)
 if v<9223372036854775808 then some ⟨3,i,e,.empty,v⟩else none
section
variable {K:gI}{m:Mem}
theorem p46 (T:ByteArray)(i e v:Nat)(w:ByteArray)(bW:Nat):Path 46 [gq T,vI i]
 [dZ [some (vI 0),some (vI 0),some (vI 0),some pV,some (vI 0)] bW,
  .call 41 [gq T,vI i,.func (.func 45) #[] #[]] (vI e),
  .val (ZZ ab 9 T (some (vI i)) (some (vI e))) (gq w),
  .call 81 [gq w,vI 10,vI 64] (.tuple #[vI v,.nilIface]),
  dH,
  jQ bW 0 [vI 3,vI i,vI e,pV,vI v],
  sD 76 bW (.agg #[vI 3,vI i,vI e,pV,vI v])]
 (.agg #[vI 3,vI i,vI e,pV,vI v]):=fu
theorem ajA (T:ByteArray)(p i:Nat)(r:W)(bW:Nat):Path 28 [gq T,vI p]
 [dZ [some (vI 0),some (vI 0),some (vI 0),some pV,some (vI 0)] bW,
  .call 41 [gq T,vI (Kl true 0 (Kl false p (T.size:Int))),.func (.func 42) #[] #[]] (vI i),
  bu (cN i (T.size:Int)) false,
  .idx i T.size i,
  .call 43 [.int .u8 (cU T i:Nat)] (.bool false),
  dH,
  .idx i T.size i,
  .call 45 [.int .u8 (cU T i:Nat)] (.bool true),
  lN,
  .call 46 [gq T,vI i] (.agg #[vI r.k,vI (r.a:Int),vI (r.z:Int),gq r.s,vI r.n]),
  jQ bW 0 [vI r.k,vI (r.a:Int),vI (r.z:Int),gq r.s,vI r.n],
  sD 76 bW (.agg #[vI r.k,vI (r.a:Int),vI (r.z:Int),gq r.s,vI r.n])]
 (.agg #[vI r.k,vI (r.a:Int),vI (r.z:Int),gq r.s,vI r.n]):=fu
theorem abn {m2:Mem}{b:Nat}{z:List ae}(vs:List ae)(g:Gd m)(o:Obj m2 b 0 z)(hb:m.next<=b)(k:Kp m m2 eQ)(hl:z.length=vs.length)(h1:vs.all (·.oneCell')=true):∃m3,Az b 0 vs m2=some (undef,m3)/\Obj m3 b 0 vs/\Kp m m3 eQ:=by
 obtain⟨m3,e3,o3,k3⟩:=lh (o:=0) vs o ((g.own k hb).may _ _) aj h1;have :q8 z 0 vs=vs:=by
  have key:∀(vs z:List ae),z.length=vs.length->q8 z 0 vs=vs:=by
   intro vs
   induction vs with
   |nil=>intro z hz;exact List.length_eq_zero_iff.1 hz
   |cons v vs ih=>
    intro z hz;cases z with
    |nil=>simp at hz
    |cons a z=>
     show q8 ((a::z).set 0 v) 1 vs=_
     rw[List.set_cons_zero,jK,ih z (by simpa using hz)]
  exact key vs z hl
 rw[this]at o3;exact⟨m3,e3,o3,k.new k3 (ai _) fun x hx=>by rw[hx];exact hb⟩
def w0:W:=⟨0,0,0,.empty,0⟩
theorem aeH {m2:Mem}{b:Nat}(w:W)(g:Gd m)(o:Obj m2 b 0 w0.cells)(hb:m.next<=b)(k:Kp m m2 eQ):∃m3,Az b 0 w.cells m2=some (undef,m3)/\Obj m3 b 0 w.cells/\Kp m m3 eQ/\pz ab 76 (vP b 0) m3=some (w.val,m3):=by
 obtain⟨w1,w2,w3,w4,w5⟩:=w;obtain⟨m3,e3,o3,k3⟩:=abn (W.cells ⟨w1,w2,w3,w4,w5⟩) g o hb k rfl rfl;exact⟨m3,e3,o3,k3,nK o3 rfl aaR.1 aaR.2⟩
theorem Lw (a b:Nat):Kl false a b=((min a b:Nat):Int):=by
 unfold Kl;rw[eH]
 by_cases h:(b:Int)<a
 ·rw[vc h];simp only[];omega
 ·rw[qV h];simp only[];omega
theorem Ty (a b:Nat):Kl true a b=((max a b:Nat):Int):=by
 unfold Kl;rw[eH]
 by_cases h:(b:Int)<a
 ·rw[vc h];simp only[];omega
 ·rw[qV h];simp only[];omega
theorem c46 (g:Gd m){T:ByteArray}{i:Nat}{w:W}(hi:i<T.size)(hT:T.size<90000)(hl:pY (cU T i)=true)(hw:Tg T i=some w):∃m',Ev K 46 [.string T,vI i] m w.val m'/\Kp m m' eQ:=by
 obtain⟨e,he⟩:∃e,e=kj pY T i:=⟨_,rfl⟩;have Qf:e<=T.size:=by rw[he];exact Py aj
 have he2:i<e:=by rw[he];exact Pz hi hl
 unfold Tg at hw;simp only[<-he]at hw
 split at hw
 ·rename_i hv;cases hw;obtain⟨m1,e1,o1,k1,n1,_⟩:=aY g w0.cells;have g1:=g.ext k1;have c1:=c41 (K:=K) (m:=m1) (f:=45) (p:=pY) (T:=T) (fun h=>c45 h) (i:=i) aj aj;rw[<-he]at c1;have v1:=Sc (s:=T) (lo:=i) (hi:=e) aj Qf;have iB:(T.extract i e).size=e-i:=Aj Qf;obtain⟨m2,e2,k2⟩:=c81 (K:=K) g1 (s:=T.extract i e) aj aj (fun j hj=>by rw[Ec Qf aj];exact Le (i:=i) aj (by rw[<-he];omega)) (by rw[iB];exact hv);rw[iB]at e2;obtain⟨m3,e3,o3,k3,eL⟩:=aeH ⟨3,i,e,.empty,ju (T.extract i e) (e-i)⟩ g (o1.aU k2) (ai _) (k1.aS k2);exact⟨m3,aJ (p46 T i e _ _ _) (.mem e1<| .call c1<| .val v1<| .call e2<| .cond rfl<| .mem e3<| .mem eL<| .nil),k3⟩
 ·cases hw
end
@[reducible]def zvW (w:W):ae:=.agg #[vI w.k,vI (w.a:Int),vI (w.z:Int),.string w.s,vI w.n]
@[reducible]def zcW (w:W):List ae:=[vI w.k,vI (w.a:Int),vI (w.z:Int),.string w.s,vI w.n]
@[reducible]def zz1:List (Option ae):=[some (vI 0),some (vI 0),some (vI 0),some (.string .empty),some (vI 0)]
end Go.AM
namespace Go.AM
set_option maxRecDepth 1000000
open Go Go.Conc Go.Proofs
structure RS where
 w:W
 d:Int
 e:Int
 p:Int
end Go.AM
namespace Go.AM
set_option maxRecDepth 1000000
open Go Go.Conc Go.Proofs
abbrev Bo (s:ByteArray):ae:= .string s
section
variable {K:gI}{m:Mem}{r:Nat}{T:ByteArray}{s s':RS}
theorem OZ:wq ab 49=some true/\dV ab 49=some 4:=⟨bG,bG⟩
end
end Go.AM
namespace Go.AM
set_option maxRecDepth 1000000
open Go Go.Conc Go.Proofs
theorem Y7 (l:List ae):∀(k:Nat) (arr:Array ae),k+l.length<=arr.size->((l.zipIdx k).foldl (fun cs (x:ae×Nat)=>cs.setIfInBounds x.2 x.1) arr).size=arr.size/\
  ∀i:Nat,((l.zipIdx k).foldl (fun cs (x:ae×Nat)=>cs.setIfInBounds x.2 x.1) arr)[i]?=if k<=i/\i<k+l.length then l[i-k]? else arr[i]?:=by
 induction l with
 |nil=>intro k arr h;exact⟨rfl,fun i=>by rw[bZ (by simp only[List.length_nil];omega)];rfl⟩
 |cons v l ih=>
  intro k arr h;simp only[List.length_cons]at h;rw[List.zipIdx_cons,List.foldl_cons];obtain⟨h1,h2⟩:=ih (k+1) (arr.setIfInBounds k v) (by simp;omega);refine⟨by rw[h1];simp,fun i=>?_⟩;rw[h2 i,Array.getElem?_setIfInBounds];simp only[List.length_cons]
  by_cases hk:k=i
  ·subst hk;rw[bZ aj,bK rfl,bK aj,bK aj];simp
  ·by_cases hi:k+1<=i/\i<k+1+l.length
   ·rw[bK hi,bK aj];obtain⟨j,rfl⟩:∃j,i=k+1+j:=⟨i-(k+1),aj⟩;rw[show k+1+j-(k+1)=j by omega,show k+1+j-k=j+1 by omega];rfl
   ·rw[bZ hi,bZ hk,bZ aj]
theorem bs1 {m:Mem}{t sz:Nat}{v:ae}(ht:sZ.contains (t,sz)=true)(hv:v.cells.size=sz)(hs:sz<=6):bI ab t 1 [(0,v)] m=some (vL m.next 0 1 1,m.alloc {kind:=1,sz:=sz,cs:=v.cells.toList.map some}):=by
 have :=aE.1 OY (t,sz) (by simpa using ht);unfold adT at this
 split at this
 ·rename_i e he;rw[ag,ag]at this;obtain⟨⟨h1,h0⟩,h2⟩:=this;have h1:dV ab e=some sz:=by simpa using h1
  split at h2
  ·rename_i i hi;rw[ag]at h2;obtain⟨z,hz⟩:=iz.1 h2.2;unfold bI;simp only[he,h1,hz];rw[bZ (by rw[Nat.one_mul];intro h;exact h.elim (fun h=>by omega) (fun h=>absurd h gC))];unfold Instr.fill;simp only[Nat.zero_mul,Nat.zero_add,Nat.one_mul];rw[bZ (by simp[hv])];unfold Instr.fill;simp only[cT];have key:=Y7 v.cells.toList 0 ((Array.range sz).map (z.cells[·%z.cells.size]!)) (by simp[hv]);have e3:(Array.foldl (fun cs (x:ae×Nat)=>match x with |(c,j)=>cs.setIfInBounds j c) ((Array.range sz).map (z.cells[·%z.cells.size]!)) v.cells.zipIdx)=v.cells:=by
    rw[show v.cells.zipIdx=(v.cells.toList.zipIdx).toArray from by apply Array.toList_inj.1;rw[Array.toList_zipIdx],List.foldl_toArray];apply Array.ext_getElem?;intro i;refine(key.2 i).trans ?_
    by_cases hi:i<sz
    ·rw[bK ⟨aj,by simp[hv];omega⟩];simp
    ·rw[bZ (by simp[hv];omega),Array.getElem?_eq_none (by simp;omega),Array.getElem?_eq_none aj]
   exact congrArg (fun c:Array ae=>some (vL m.next 0 1 1,m.alloc {kind:=1,sz:=sz,cs:=c.toList.map some})) e3
  ·cases h2
 ·cases this
theorem J' {m:Mem}(g:Gd m){t sz n b len:Nat}{x:ae}{old new:List ae}(ht:sZ.contains (t,sz)=true)(ho:Obj m b sz old)(YM:old.length=len*sz)(hn:n≠0)(hx:nm m x sz n new)
  (h1:∀y∈new,y.oneCell'=true)(hb:len+n<=2^30):
  ∃m',cJ ab #[t,t] (vL b 0 len len) x m=some (vL m.next 0 (len+n) fp,m')/\Obj m' m.next sz (old++new)/\Kp m m' eQ/\m'.next=m.next+1:=by
 obtain⟨e,h3,h4,h0,h5⟩:=uu ht;have hf:=oU hx;have hl:=hx.YA;have hlen:new.length=n*sz:=hx.1;have km:(new.all (·.oneCell'))=true:=aE.2 h1;have e0:kr m sz len (vL b 0 len len)=some old:=oU (ho.sl YM (.inr rfl));obtain⟨k1,k2,k3⟩:=gB g (k:={kind:=1,sz:=sz,cs:=(old++new).map some}) (cs:=old++new) rfl rfl rfl;refine⟨_,?_,k1,k2,k3⟩;unfold cJ;simp only[show(#[t,t]:Array aM)[0]?=some t from rfl,show(#[t,t]:Array aM)[1]?=some t from rfl,aX,h3,h4,hl,hf];have hI:len≠fp:=fun e=>absurd hb (by rw[e];intro h;exact absurd (cF (Nat.le_add_right _ _) h) gC)
 rw[bZ (by rw[h5 _ aj,hlen,km];simp),bZ hI,bZ aj];simp only[e0];rw[bK YM]
end Go.AM
namespace Go.AM
set_option maxRecDepth 1000000
open Go Go.Conc Go.Proofs
structure nB (α:Type) where
 R:(Nat->Prop)->α->Mem->ae->Prop
 mono:∀{B B':Nat->Prop}{x:α}{m:Mem}{v:ae},R B x m v->(∀b,B b->B' b)->R B' x m v
 ext:∀{B S:Nat->Prop}{x:α}{m m':Mem}{v:ae},R B x m v->Kp m m' S->(∀b,B b->¬S b)->R B x m' v
def jS (m m':Mem)(b:Nat):Prop:=m.next<=b/\b<m'.next
def ku {α:Type}(val:α->ae):nB α:=⟨fun _ x _ v=>v=val x,fun h _=>h,fun h _ _=>h⟩
def cp {α:Type}(Q:α->ae->Prop):List α->List ae->Prop
 | [],cs=>cs=[]
 |x::l,cs=>∃v rest,cs=v.cells.toList++rest/\Q x v/\cp Q l rest
theorem cp.mono{α:Type}{Q Q':α->ae->Prop}:∀{l:List α}{cs:List ae},cp Q l cs->(∀x v,x∈l->Q x v->Q' x v)->cp Q' l cs
 | [],cs,h,_=>h
 |x::l,cs,h,k=>by
  obtain⟨v,rest,e,q,h⟩:=h;exact⟨v,rest,e,k x v (List.mem_cons_self ..) q,h.mono fun x v hx=>k x v (List.mem_cons_of_mem _ hx)⟩
theorem cp.snoc{α:Type}{Q:α->ae->Prop}{x:α}{v:ae}(hq:Q x v):∀{l:List α}{cs:List ae},cp Q l cs->cp Q (l++[x]) (cs++v.cells.toList)
 | [],cs,h=>by
  have h:cs=[]:=h;subst h;exact⟨v,[],cY,hq,rfl⟩
 |y::l,cs,h=>by
  obtain⟨u,rest,rfl,q,h⟩:=h;exact⟨u,rest++v.cells.toList,by rw[List.append_assoc],q,h.snoc hq⟩
def okV (sz:Nat)(v:ae):Prop:=v.cells.size=sz/\∀y∈v.cells.toList,y.oneCell'=true
theorem cp.one{α:Type}{Q:α->ae->Prop}{sz:Nat}:∀{l:List α}{cs:List ae},cp (fun x v=>Q x v/\okV sz v) l cs->cs.length=l.length*sz/\∀y∈cs,y.oneCell'=true
 | [],cs,h=>by have h:cs=[]:=h;subst h;simp
 |x::l,cs,h=>by
  obtain⟨u,rest,rfl,q,h⟩:=h;obtain⟨h1,h2⟩:=h.one;refine⟨by simp[h1,q.2.1,Nat.add_mul];omega,fun y hy=>?_⟩;rcases List.mem_append.1 hy with hy|hy
  ·exact q.2.2 y hy
  ·exact h2 y hy
def aW {α:Type}(E:nB α)(sz:Nat):nB (List α) where
 R B l m v:=∃cs,nm m v sz l.length cs/\(∀b o n c,v=vL b o n c->B b)/\cp (fun x u=>E.R B x m u/\okV sz u) l cs
 mono:=by
  rintro B B' x m v ⟨cs,h1,h2,h3⟩ k;exact⟨cs,h1,fun b o n c e=>k b (h2 b o n c e),h3.mono fun x u _ q=>⟨E.mono q.1 k,q.2⟩⟩
 ext:=by
  rintro B S x m m' v ⟨cs,h1,h2,h3⟩ k hs;exact⟨cs,h1.ext k fun b o n c e=>hs b (h2 b o n c e),h2,h3.mono fun x u _ q=>⟨E.ext q.1 k hs,q.2⟩⟩
end Go.AM
namespace Go.AM
set_option maxRecDepth 1000000
open Go Go.Conc Go.Proofs
theorem nm.mH{m:Mem}{v:ae}{sz n:Nat}{cs:List ae}(h:nm m v sz n cs):mH v=true/\v.oneCell'=true:=by
 rcases h with⟨hl,⟨rfl,rfl⟩|⟨b,c,rfl,ho,_⟩⟩<;>exact⟨rfl,rfl⟩
theorem aW.mH{α:Type}{E:nB α}{sz:Nat}{B:Nat->Prop}{l:List α}{m:Mem}{v:ae}(h:(aW E sz).R B l m v):Go.AM.mH v=true/\v.oneCell'=true:=by
 obtain⟨cs,h,_⟩:=h;exact h.mH
theorem aW.nil{α:Type}{E:nB α}{sz:Nat}{B:Nat->Prop}{m:Mem}:(aW E sz).R B [] m (.slice none 0 0):=⟨[],nm.nil,fun b o n c e=>(by cases e),rfl⟩
end Go.AM
namespace Go.AM
set_option maxRecDepth 1000000
open Go Go.Conc Go.Proofs
structure AK where
 n:ByteArray
 k:Int
abbrev AK.val(c:AK):ae:= .agg #[.string c.n,vI c.k]
theorem AK.ok{B:Nat->Prop}{x:AK}{m:Mem}{v:ae}(h:(ku AK.val).R B x m v):okV 2 v:=by
 have h:v=x.val:=h;subst h;exact⟨rfl,by simp[ae.cells,ae.oneCell']⟩
def qA:nB (List AK):=aW (ku AK.val) 2
end Go.AM
namespace Go.AM
set_option maxRecDepth 1000000
open Go Go.Conc Go.Proofs
inductive X where
 |bin(op:Int)(l r:X)
 |no(x:X)
 |LQ(x:X)
 |lit(v:V)
 |pU(p:Nat)(i j:Int)
def XR (B:Nat->Prop):X->Mem->ae->Prop
 | .bin op l r,m,v=>∃b lv rv,v= .iface 305 (vP b 0)/\B b/\Obj m b 0 [vI op,lv,rv]/\XR B l m lv/\XR B r m rv
 | .no x,m,v=>∃b xv,v= .iface 390 (vP b 0)/\B b/\Obj m b 0 [xv]/\XR B x m xv
 | .LQ x,m,v=>∃b xv,v= .iface 393 (vP b 0)/\B b/\Obj m b 0 [xv]/\XR B x m xv
 | .lit u,m,v=>∃b,v= .iface 317 (vP b 0)/\B b/\Obj m b 0 u.cells
 | .pU p i j,m,v=>∃b,v= .iface 396 (vP b 0)/\B b/\Obj m b 0 [vP p 0,vI i,vI j]
theorem XR.mono{B B':Nat->Prop}(k:∀b,B b->B' b):∀{x:X}{m:Mem}{v:ae},XR B x m v->XR B' x m v
 | .bin ..,_,_,⟨b,lv,rv,e,hb,o,h1,h2⟩=>⟨b,lv,rv,e,k b hb,o,XR.mono k h1,XR.mono k h2⟩
 | .no ..,_,_,⟨b,xv,e,hb,o,h⟩=>⟨b,xv,e,k b hb,o,XR.mono k h⟩
 | .LQ ..,_,_,⟨b,xv,e,hb,o,h⟩=>⟨b,xv,e,k b hb,o,XR.mono k h⟩
 | .lit ..,_,_,⟨b,e,hb,o⟩=>⟨b,e,k b hb,o⟩
 | .pU ..,_,_,⟨b,e,hb,o⟩=>⟨b,e,k b hb,o⟩
theorem XR.ext{B S:Nat->Prop}{m m':Mem}(k:Kp m m' S)(hs:∀b,B b->¬S b):∀{x:X}{v:ae},XR B x m v->XR B x m' v
 | .bin ..,_,⟨b,lv,rv,e,hb,o,h1,h2⟩=>⟨b,lv,rv,e,hb,o.ext k (hs b hb),XR.ext k hs h1,XR.ext k hs h2⟩
 | .no ..,_,⟨b,xv,e,hb,o,h⟩=>⟨b,xv,e,hb,o.ext k (hs b hb),XR.ext k hs h⟩
 | .LQ ..,_,⟨b,xv,e,hb,o,h⟩=>⟨b,xv,e,hb,o.ext k (hs b hb),XR.ext k hs h⟩
 | .lit ..,_,⟨b,e,hb,o⟩=>⟨b,e,hb,o.ext k (hs b hb)⟩
 | .pU ..,_,⟨b,e,hb,o⟩=>⟨b,e,hb,o.ext k (hs b hb)⟩
def sX:nB X:=⟨XR,fun h k=>XR.mono k h,fun h k hs=>XR.ext k hs h⟩
theorem XR.form{B:Nat->Prop}{x:X}{m:Mem}{v:ae}(h:XR B x m v):∃t b,v= .iface t (vP b 0):=by
 cases x with
 |bin op l r=>obtain⟨b,_,_,e,_⟩:=h;exact⟨_,b,e⟩
 |no x=>obtain⟨b,_,e,_⟩:=h;exact⟨_,b,e⟩
 |LQ x=>obtain⟨b,_,e,_⟩:=h;exact⟨_,b,e⟩
 |lit v=>obtain⟨b,e,_⟩:=h;exact⟨_,b,e⟩
 |pU p i j=>obtain⟨b,e,_⟩:=h;exact⟨_,b,e⟩
end Go.AM
namespace Go.AM
set_option maxRecDepth 1000000
open Go Go.Conc Go.Proofs
theorem nm.form{m:Mem}{v:ae}{sz n:Nat}{cs:List ae}(h:nm m v sz n cs):∃a c,v= .slice a n c:=by
 rcases h with⟨_,⟨rfl,rfl⟩|⟨b,c,rfl,_⟩⟩<;>exact⟨_,_,rfl⟩
theorem nm.pos{m:Mem}{v:ae}{sz n j:Nat}{cs:List ae}(h:nm m v sz n cs)(hj:j<n):∃b c,v=vL b 0 n c/\Obj m b sz cs:=by
 rcases h with⟨_,⟨rfl,rfl⟩|⟨b,c,rfl,o,_⟩⟩
 ·omega
 ·exact⟨b,c,rfl,o⟩
theorem aW.form{α:Type}{E:nB α}{sz:Nat}{B:Nat->Prop}{l:List α}{m:Mem}{v:ae}(h:(aW E sz).R B l m v):∃a c,v= .slice a l.length c:=by
 obtain⟨cs,h,_⟩:=h;exact h.form
theorem cp.len{α:Type}{Q:α->ae->Prop}{sz:Nat}{l:List α}{cs:List ae}(h:cp (fun x v=>Q x v/\okV sz v) l cs):cs.length=l.length*sz:=h.one.1
theorem cp.get{α:Type}{Q:α->ae->Prop}{sz:Nat}:∀{l:List α}{cs:List ae}{j:Nat},cp (fun x v=>Q x v/\okV sz v) l cs->(h:j<l.length)->∃v,(cs.drop (j*sz)).take sz=v.cells.toList/\Q l[j] v/\okV sz v
 | [],_,_,_,h=>by simp at h
 |x::l,cs,0,hc,h=>by
  obtain⟨v,rest,rfl,q,hr⟩:=hc;exact⟨v,by rw[Nat.zero_mul,List.drop_zero,List.take_left' (by simp[q.2.1])],q.1,q.2⟩
 |x::l,cs,j+1,hc,h=>by
  obtain⟨v,rest,rfl,q,hr⟩:=hc;obtain⟨u,h1,h2,h3⟩:=hr.get (j:=j) (by simpa using h);refine⟨u,?_,h2,h3⟩;rw[Nat.add_mul,Nat.one_mul,Nat.add_comm,<-List.drop_drop,List.drop_left' (by simp[q.2.1]),h1]
theorem aW.get{α:Type}{E:nB α}{sz:Nat}{B:Nat->Prop}{l:List α}{m:Mem}{v:ae}{j:Nat}(h:(aW E sz).R B l m v)(hj:j<l.length):
  ∃b c u cs,v=vL b 0 l.length c/\B b/\Obj m b sz cs/\(cs.drop (j*sz)).take sz=u.cells.toList/\j*sz+sz<=cs.length/\E.R B l[j] m u/\okV sz u:=by
 obtain⟨cs,h1,h2,h3⟩:=h;obtain⟨b,c,rfl,o⟩:=h1.pos hj;obtain⟨u,e,q,ok⟩:=h3.get hj;refine⟨b,c,u,cs,rfl,h2 _ _ _ _ rfl,o,e,?_,q,ok⟩;rw[h3.len];have :(j+1)*sz<=l.length*sz:=Nat.mul_le_mul_right _ hj;rw[Nat.add_mul,Nat.one_mul]at this;exact this
end Go.AM
namespace Go.AM
set_option maxRecDepth 1000000
open Go Go.Conc Go.Proofs
theorem gD {K:gI}{nt:Nat}{a:Code}{Inv:Nat->Tm->Mem->Prop}{dG:Exit->Tm->Mem->Prop}(n:Nat)
  (vi:∀j tm m,j<n->Inv j tm m->(∃fC m',Bb K nt a ⟨tm,m,[]⟩ .normal ⟨fC,m',[]⟩/\Inv (j+1) fC m')\/∃e fC m',e≠ .normal/\Bb K nt a ⟨tm,m,[]⟩ e ⟨fC,m',[]⟩/\dG e fC m')
  (G0:∀tm m,Inv n tm m->∃e fC m',e≠ .normal/\Bb K nt a ⟨tm,m,[]⟩ e ⟨fC,m',[]⟩/\dG e fC m')
  {tm:Tm}{m:Mem}(h0:Inv 0 tm m)(hn:n<90000):∃e fC m',e≠ .normal/\HQ K nt a 100000 ⟨tm,m,[]⟩ e ⟨fC,m',[]⟩/\dG e fC m':=
 qq (Inv:=fun k tm m=>∃j,k=n-j/\j<=n/\Inv j tm m) (dG:=dG)
  (by
   rintro k tm m ⟨j,rfl,hj,hi⟩
   by_cases h:j<n
   ·rcases vi j tm m h hi with⟨fC,m',hx,GV⟩|h
    ·exact .inl ⟨_,fC,m',aj,hx,j+1,rfl,h,GV⟩
    ·exact .inr h
   ·have :j=n:=aj;subst this;exact .inr (G0 tm m hi))
  (n:=n) (k:=100000) ⟨0,aj,aj,h0⟩ aj
theorem P3 {j n:Nat}(h:j<n):(.bool (eX j n):ae)= .bool true:=by rw[ZF,vc h]
theorem Yg (n:Nat):(.bool (eX n n):ae)= .bool false:=by rw[ZF,qV aj]
theorem add1 {j:Nat}(h:j<90000):eh j 1=((j+1:Nat):Int):=by rw[j6 ⟨aj,aj⟩];rfl
def cR:V:=⟨0,0,.empty,false⟩
section
variable {K:gI}{m:Mem}{c:Nat}{M1 M2:ae}{f:Int}{B:Nat->Prop}
theorem ahV {cs vs:List ae}{a n i:Nat}(h:(cs.drop a).take n=vs)(hi:i<n):cs[a+i]?=vs[i]?:=by
 rw[<-h,List.getElem?_take_of_lt hi,List.getElem?_drop]
end
end Go.AM
namespace Go.AM
set_option maxRecDepth 1000000
open Go Go.Conc Go.Proofs
def dk (b:Bool):V:=⟨3,0,.empty,b⟩
def fU (n:Int):V:=⟨1,n,.empty,false⟩
def yH (a b:Int):Int:=bX.i64.wrap (a.tdiv b)
def PB (a b:Int):Int:=a.tmod b
def Pp (a b:Int):Int×Bool:=(eh a b,sV (eh a b) a==sV b 0)
def Qp (a b:Int):Int×Bool:=(jH a b,eX (jH a b) a==sV b 0)
def EI (a b:Int):Int×Bool:=if a=0\/b=0 then(0,true)else(jq a b,decide (yH (jq a b) b=a)&&(eX (jq a b) 0== !(eX a 0==eX b 0)))
def Lg (a b:Int):Int×Bool:=if b=0\/(a= -9223372036854775808/\b= -1)then(0,false)else(yH a b,true)
def SC (a b:Int):Int×Bool:=if b=0 then(0,false)else(PB a b,true)
def Ao (op a b:Int):Int×Bool:=if op=17 then Pp a b else if op=18 then Qp a b else if op=10 then EI a b else if op=19 then Lg a b else SC a b
def ky (op a b:Int):V×Int:=if(Ao op a b).2=true then(fU (Ao op a b).1,0)else(cR,8)
def z8 (a b:ByteArray):V×Int:=if 250<a.size+b.size then(cR,8)else(⟨2,0,a++b,false⟩,0)
def tT (op o:Int):Bool:=if op=11 then cN o 0 else if op=12 then sT o 0 else if op=13 then eX o 0 else if op=14 then GH o 0 else if op=15 then sV o 0 else xJ o 0
def xh (v:V):V:=if v.k=0 then cR else dk (!v.b)
def D8 (l r d:V):V:=if l.beq d=true\/r.beq d=true then d else if l.k=0\/r.k=0 then cR else xh d
def wj (op:Int)(l r:V):V×Int:=
 if op=23\/op=37 then(D8 l r (dk (cN op 37)),0)else if l.k=0\/r.k=0 then(cR,0)else
 if op=17\/op=18\/op=10\/op=19\/op=20 then ky op l.n r.n else if op=21 then z8 l.s r.s else(dk (tT op (mh l r)),0)
theorem eq4 (cx cy a b:Bool):jC ab .eql 4 cx cy (.bool a) (.bool b)=some (.bool (a==b)):=by cases cx<;>cases cy<;>cases a<;>cases b<;>kernel_rfl
theorem ne4 (cx cy a b:Bool):jC ab .neq 4 cx cy (.bool a) (.bool b)=some (.bool (!(a==b))):=by cases cx<;>cases cy<;>cases a<;>cases b<;>kernel_rfl
theorem abu (cx cy:Bool)(a b:Int)(hb:b≠0):jC ab .quo 3 cx cy (vI a) (vI b)=some (vI (yH a b)):=by
 refine w8 rfl ?_ rfl;rw[gk]
 show(Op.intDiv .quo .i64 a b).aI ab=_
 unfold Op.intDiv;simp only[hb,if_false];rfl
theorem abp (cx cy:Bool)(a b:Int)(hb:b≠0):jC ab .rem 3 cx cy (vI a) (vI b)=some (vI (PB a b)):=by
 refine w8 rfl ?_ rfl;rw[gk]
 show(Op.intDiv .rem .i64 a b).aI ab=_
 unfold Op.intDiv;simp only[hb,if_false];rfl
theorem Qo (a b:Int)(hb:b≠0):j0 Nat.div .i64 a b (jC ab .quo 3 false false (vI a) (vI b))=some (vI (yH a b)):=by
 rw[abu _ _ a b hb];unfold j0
 split
 ·rename_i i
  split
  ·rename_i j
   split
   ·rename_i h;have h:i<9223372036854775808:=Nat.lt_of_succ_le (af h);have e:yH (.ofNat i) (.ofNat (j+1))=((i / (j+1):Nat):Int):=by
     unfold yH;rw[show Int.tdiv (.ofNat i) (.ofNat (j+1))=((i / (j+1):Nat):Int)from rfl];have h2:=Nat.div_le_self i (j+1);generalize i / (j+1)=d at h2;exact oE ⟨aj,aj⟩
    rw[e];rfl
   ·rfl
  ·rfl
 ·rfl
theorem Wj (a b:Int)(hb:b≠0):j0 Nat.mod .i64 a b (jC ab .rem 3 false false (vI a) (vI b))=some (vI (PB a b)):=by
 rw[abp _ _ a b hb];unfold j0
 split
 ·rename_i i
  split
  ·rename_i j
   split
   ·rename_i h;have h:i<9223372036854775808:=Nat.lt_of_succ_le (af h);have e:PB (.ofNat i) (.ofNat (j+1))=((i%(j+1):Nat):Int):=by
     rfl
    rw[e];rfl
   ·rfl
  ·rfl
 ·rfl
section
variable {K:gI}{m:Mem}
theorem ajB (b:Bool)(bW:Nat):Path 278 [.bool b]
 [dZ nY bW,
  jQ bW 0 [vI 3,vI 0,pV,.bool b],
  sD 49 bW (.agg #[vI 3,vI 0,pV,.bool b])]
 (.agg #[vI 3,vI 0,pV,.bool b]):=fu
theorem ajz (v:V)(bW:Nat):Path 332 [bQ v]
 [dZ (qg v) bW,
  .mem (aT bW 0) (vI v.k)]
 (.bool (cN v.k 0)):=fu
theorem afW (v:V)(bW dz:Nat):Path 336 [bQ v]
 [dZ (qg v) bW,
  dZ nY dz,
  iO 4 bW (bQ v),
  .call 332 [bQ v] (.bool true),
  lN,
  jQ dz 0 [vI 0,vI 0,pV,.bool false],
  sD 49 dz (.agg #[vI 0,vI 0,pV,.bool false])]
 (.agg #[vI 0,vI 0,pV,.bool false]):=fu
theorem afX (v u:V)(bW dz:Nat):Path 336 [bQ v]
 [dZ (qg v) bW,
  dZ nY dz,
  iO 4 bW (bQ v),
  .call 332 [bQ v] (.bool false),
  dH,
  .mem (aT bW 3) (.bool v.b),
  .call 278 [.bool (!v.b)] (bQ u),
  jQ dz 0 (sE u),
  sD 49 dz (bQ u)]
 (bQ u):=fu
theorem ajv (v u:V)(b:Bool)(bW dz:Nat):Path 350 [bQ v]
 [dZ (qg v) bW,
  dZ nY dz,
  iO 4 bW (bQ v),
  .call 332 [bQ v] (.bool b),
  .call 278 [.bool b] (bQ u),
  jQ dz 0 (sE u),
  sD 49 dz (bQ u)]
 (bQ u):=fu
theorem ajC (v u:V)(b:Bool)(bW MW:Nat):Path 273 [bQ v]
 [dZ (qg v) bW,
  iO 4 bW (bQ v),
  .mem (gj (vP bW 0)) (vI MW),
  pT,
  .call 278 [.bool true] (bQ u),
  .mem (cW (vI MW) (vP bW 0) (eI ab 49 (vP bW 0))) undef,
  .val (jC ab .eql 49 false false (bQ v) (bQ u)) (.bool b)]
 (.bool b):=fu
theorem af5 (l r d:V)(bW dz ij FI:Nat):Path 331 [bQ l,bQ r,bQ d]
 [dZ (qg l) bW,
  dZ (qg r) dz,
  dZ (qg d) ij,
  dZ nY FI,
  iO 4 bW (bQ l),
  iO 4 ij (bQ d),
  .val (jC ab .eql 49 false false (bQ l) (bQ d)) (.bool true),
  lN,
  lN,
  lN,
  lN,
  lN,
  iO 4 ij (bQ d),
  jQ FI 0 (sE d),
  sD 49 FI (bQ d)]
 (bQ d):=fu
theorem af2 (l r d:V)(bW dz ij FI:Nat):Path 331 [bQ l,bQ r,bQ d]
 [dZ (qg l) bW,
  dZ (qg r) dz,
  dZ (qg d) ij,
  dZ nY FI,
  iO 4 bW (bQ l),
  iO 4 ij (bQ d),
  .val (jC ab .eql 49 false false (bQ l) (bQ d)) (.bool false),
  dH,
  iO 4 dz (bQ r),
  dH,
  iO 4 ij (bQ d),
  dH,
  .val (jC ab .eql 49 false false (bQ r) (bQ d)) (.bool true),
  dH,
  lN,
  iO 4 ij (bQ d),
  jQ FI 0 (sE d),
  sD 49 FI (bQ d)]
 (bQ d):=fu
theorem af3 (l r d:V)(bW dz ij FI:Nat):Path 331 [bQ l,bQ r,bQ d]
 [dZ (qg l) bW,
  dZ (qg r) dz,
  dZ (qg d) ij,
  dZ nY FI,
  iO 4 bW (bQ l),
  iO 4 ij (bQ d),
  .val (jC ab .eql 49 false false (bQ l) (bQ d)) (.bool false),
  dH,
  iO 4 dz (bQ r),
  dH,
  iO 4 ij (bQ d),
  dH,
  .val (jC ab .eql 49 false false (bQ r) (bQ d)) (.bool false),
  dH,
  dH,
  iO 4 bW (bQ l),
  .call 332 [bQ l] (.bool true),
  lN,
  lN,
  lN,
  lN,
  jQ FI 0 [vI 0,vI 0,pV,.bool false],
  sD 49 FI (.agg #[vI 0,vI 0,pV,.bool false])]
 (.agg #[vI 0,vI 0,pV,.bool false]):=fu
theorem af4 (l r d:V)(bW dz ij FI:Nat):Path 331 [bQ l,bQ r,bQ d]
 [dZ (qg l) bW,
  dZ (qg r) dz,
  dZ (qg d) ij,
  dZ nY FI,
  iO 4 bW (bQ l),
  iO 4 ij (bQ d),
  .val (jC ab .eql 49 false false (bQ l) (bQ d)) (.bool false),
  dH,
  iO 4 dz (bQ r),
  dH,
  iO 4 ij (bQ d),
  dH,
  .val (jC ab .eql 49 false false (bQ r) (bQ d)) (.bool false),
  dH,
  dH,
  iO 4 bW (bQ l),
  .call 332 [bQ l] (.bool false),
  dH,
  iO 4 dz (bQ r),
  dH,
  .call 332 [bQ r] (.bool true),
  dH,
  lN,
  jQ FI 0 [vI 0,vI 0,pV,.bool false],
  sD 49 FI (.agg #[vI 0,vI 0,pV,.bool false])]
 (.agg #[vI 0,vI 0,pV,.bool false]):=fu
theorem af6 (l r d u:V)(bW dz ij FI:Nat):Path 331 [bQ l,bQ r,bQ d]
 [dZ (qg l) bW,
  dZ (qg r) dz,
  dZ (qg d) ij,
  dZ nY FI,
  iO 4 bW (bQ l),
  iO 4 ij (bQ d),
  .val (jC ab .eql 49 false false (bQ l) (bQ d)) (.bool false),
  dH,
  iO 4 dz (bQ r),
  dH,
  iO 4 ij (bQ d),
  dH,
  .val (jC ab .eql 49 false false (bQ r) (bQ d)) (.bool false),
  dH,
  dH,
  iO 4 bW (bQ l),
  .call 332 [bQ l] (.bool false),
  dH,
  iO 4 dz (bQ r),
  dH,
  .call 332 [bQ r] (.bool false),
  dH,
  dH,
  iO 4 ij (bQ d),
  .call 336 [bQ d] (bQ u),
  jQ FI 0 (sE u),
  sD 49 FI (bQ u)]
 (bQ u):=fu
theorem ajy (a b:Int)(b1:Bool):Path 338 [vI a,vI b]
 [.val (jC ab .eql 4 false false (.bool (sV (eh a b) a)) (.bool (sV b 0))) (.bool b1)]
 (.tuple #[vI (eh a b),.bool b1]):=fu
theorem ajx (a b:Int)(b1:Bool):Path 339 [vI a,vI b]
 [.val (jC ab .eql 4 false false (.bool (eX (jH a b) a)) (.bool (sV b 0))) (.bool b1)]
 (.tuple #[vI (jH a b),.bool b1]):=fu
theorem afS (a b:Int):Path 340 [vI a,vI b]
 [bu (cN a 0) true,
  bu (cN a 0) true,
  bu (cN a 0) true,
  lN]
 (.tuple #[vI 0,.bool true]):=fu
theorem afT (a b:Int):Path 340 [vI a,vI b]
 [bu (cN a 0) false,
  bu (cN a 0) false,
  bu (cN a 0) false,
  bu (cN b 0) true]
 (.tuple #[vI 0,.bool true]):=fu
theorem afV (a b:Int)(b1:Bool)(x1:Int):Path 340 [vI a,vI b]
 [bu (cN a 0) false,
  bu (cN a 0) false,
  bu (cN a 0) false,
  bu (cN b 0) false,
  .val (jC ab .neq 4 false false (.bool (eX a 0)) (.bool (eX b 0))) (.bool b1),
  .val (j0 Nat.div .i64 (jq a b) b (jC ab .quo 3 false false (vI (jq a b)) (vI b))) (vI x1),
  bu (cN x1 a) false,
  bu (cN x1 a) false,
  bu (cN x1 a) false,
  bu (cN x1 a) false,
  bu (cN x1 a) false]
 (.tuple #[vI (jq a b),.bool false]):=fu
theorem afU (a b:Int)(b1 b2:Bool)(x1:Int):Path 340 [vI a,vI b]
 [bu (cN a 0) false,
  bu (cN a 0) false,
  bu (cN a 0) false,
  bu (cN b 0) false,
  .val (jC ab .neq 4 false false (.bool (eX a 0)) (.bool (eX b 0))) (.bool b1),
  .val (j0 Nat.div .i64 (jq a b) b (jC ab .quo 3 false false (vI (jq a b)) (vI b))) (vI x1),
  bu (cN x1 a) true,
  bu (cN x1 a) true,
  bu (cN x1 a) true,
  bu (cN x1 a) true,
  .val (jC ab .eql 4 false false (.bool (eX (jq a b) 0)) (.bool b1)) (.bool b2),
  bu (cN x1 a) true]
 (.tuple #[vI (jq a b),.bool b2]):=fu
theorem afO (a b:Int):Path 341 [vI a,vI b]
 [bu (cN b 0) true,
  bu (cN b 0) true,
  bu (cN b 0) true,
  bu (cN b 0) true,
  bu (cN b 0) true,
  lN]
 (.tuple #[vI 0,.bool false]):=fu
theorem afR (a b:Int)(x1:Int):Path 341 [vI a,vI b]
 [bu (cN b 0) false,
  bu (cN b 0) false,
  bu (cN b 0) false,
  bu (cN a (-9223372036854775808)) false,
  bu (cN a (-9223372036854775808)) false,
  bu (cN b 0) false,
  bu (cN a (-9223372036854775808)) false,
  bu (cN b 0) false,
  dH,
  .val (j0 Nat.div .i64 a b (jC ab .quo 3 false false (vI a) (vI b))) (vI x1)]
 (.tuple #[vI x1,.bool true]):=fu
theorem afQ (a b:Int):Path 341 [vI a,vI b]
 [bu (cN b 0) false,
  bu (cN b 0) false,
  bu (cN b 0) false,
  bu (cN a (-9223372036854775808)) true,
  bu (cN a (-9223372036854775808)) true,
  bu (cN b 0) false,
  bu (cN a (-9223372036854775808)) true,
  bu (cN b 0) false,
  bu (cN b (-1)) true]
 (.tuple #[vI 0,.bool false]):=fu
theorem afP (a b:Int)(x1:Int):Path 341 [vI a,vI b]
 [bu (cN b 0) false,
  bu (cN b 0) false,
  bu (cN b 0) false,
  bu (cN a (-9223372036854775808)) true,
  bu (cN a (-9223372036854775808)) true,
  bu (cN b 0) false,
  bu (cN a (-9223372036854775808)) true,
  bu (cN b 0) false,
  bu (cN b (-1)) false,
  .val (j0 Nat.div .i64 a b (jC ab .quo 3 false false (vI a) (vI b))) (vI x1)]
 (.tuple #[vI x1,.bool true]):=fu
theorem afM (a b:Int):Path 342 [vI a,vI b]
 [bu (cN b 0) true]
 (.tuple #[vI 0,.bool false]):=fu
theorem afN (a b:Int)(x1:Int):Path 342 [vI a,vI b]
 [bu (cN b 0) false,
  .val (j0 Nat.mod .i64 a b (jC ab .rem 3 false false (vI a) (vI b))) (vI x1)]
 (.tuple #[vI x1,.bool true]):=fu
theorem abN (op a b x:Int)(y:Bool):Path 337 [vI op,vI a,vI b]
 [bu (cN op 17) true,
  .call 338 [vI a,vI b] (.tuple #[vI x,.bool y])]
 (.tuple #[vI x,.bool y]):=fu
theorem abM (op a b x:Int)(y:Bool):Path 337 [vI op,vI a,vI b]
 [bu (cN op 17) false,
  bu (cN op 18) true,
  .call 339 [vI a,vI b] (.tuple #[vI x,.bool y])]
 (.tuple #[vI x,.bool y]):=fu
theorem abL (op a b x:Int)(y:Bool):Path 337 [vI op,vI a,vI b]
 [bu (cN op 17) false,
  bu (cN op 18) false,
  bu (cN op 10) true,
  .call 340 [vI a,vI b] (.tuple #[vI x,.bool y])]
 (.tuple #[vI x,.bool y]):=fu
theorem abK (op a b x:Int)(y:Bool):Path 337 [vI op,vI a,vI b]
 [bu (cN op 17) false,
  bu (cN op 18) false,
  bu (cN op 10) false,
  bu (cN op 19) true,
  .call 341 [vI a,vI b] (.tuple #[vI x,.bool y])]
 (.tuple #[vI x,.bool y]):=fu
theorem abJ (op a b x:Int)(y:Bool):Path 337 [vI op,vI a,vI b]
 [bu (cN op 17) false,
  bu (cN op 18) false,
  bu (cN op 10) false,
  bu (cN op 19) false,
  .call 342 [vI a,vI b] (.tuple #[vI x,.bool y])]
 (.tuple #[vI x,.bool y]):=fu
theorem af1 (op a b x:Int)(bW:Nat):Path 333 [vI op,vI a,vI b]
 [dZ nY bW,
  .call 337 [vI op,vI a,vI b] (.tuple #[vI x,.bool false]),
  lN,
  jQ bW 0 [vI 0,vI 0,pV,.bool false],
  sD 49 bW (.agg #[vI 0,vI 0,pV,.bool false])]
 (.tuple #[.agg #[vI 0,vI 0,pV,.bool false],vI 8]):=fu
theorem af0 (op a b x:Int)(bW:Nat):Path 333 [vI op,vI a,vI b]
 [dZ nY bW,
  .call 337 [vI op,vI a,vI b] (.tuple #[vI x,.bool true]),
  dH,
  jQ bW 0 [vI 1,vI x,pV,.bool false],
  sD 49 bW (.agg #[vI 1,vI x,pV,.bool false])]
 (.tuple #[.agg #[vI 1,vI x,pV,.bool false],vI 0]):=fu
theorem afZ (a b:ByteArray)(bW:Nat):Path 334 [gq a,gq b]
 [dZ nY bW,
  bu (sV (eh (a.size:Int) (b.size:Int)) 250) true,
  jQ bW 0 [vI 0,vI 0,pV,.bool false],
  sD 49 bW (.agg #[vI 0,vI 0,pV,.bool false])]
 (.tuple #[.agg #[vI 0,vI 0,pV,.bool false],vI 8]):=fu
theorem afY (a b:ByteArray)(bW:Nat):Path 334 [gq a,gq b]
 [dZ nY bW,
  bu (sV (eh (a.size:Int) (b.size:Int)) 250) false,
  .val (uj a b) (gq (a++b)),
  jQ bW 0 [vI 2,vI 0,gq (a++b),.bool false],
  sD 49 bW (.agg #[vI 2,vI 0,gq (a++b),.bool false])]
 (.tuple #[.agg #[vI 2,vI 0,gq (a++b),.bool false],vI 0]):=fu
theorem abT (op o:Int):Path 335 [vI op,vI o]
 [bu (cN op 11) true]
 (.bool (cN o 0)):=fu
theorem abS (op o:Int):Path 335 [vI op,vI o]
 [bu (cN op 11) false,
  bu (cN op 12) true]
 (.bool (sT o 0)):=fu
theorem abR (op o:Int):Path 335 [vI op,vI o]
 [bu (cN op 11) false,
  bu (cN op 12) false,
  bu (cN op 13) true]
 (.bool (eX o 0)):=fu
theorem abQ (op o:Int):Path 335 [vI op,vI o]
 [bu (cN op 11) false,
  bu (cN op 12) false,
  bu (cN op 13) false,
  bu (cN op 14) true]
 (.bool (GH o 0)):=fu
theorem abP (op o:Int):Path 335 [vI op,vI o]
 [bu (cN op 11) false,
  bu (cN op 12) false,
  bu (cN op 13) false,
  bu (cN op 14) false,
  bu (cN op 15) true]
 (.bool (sV o 0)):=fu
theorem abO (op o:Int):Path 335 [vI op,vI o]
 [bu (cN op 11) false,
  bu (cN op 12) false,
  bu (cN op 13) false,
  bu (cN op 14) false,
  bu (cN op 15) false]
 (.bool (xJ o 0)):=fu
theorem agc (op:Int)(l r u d:V)(bW dz ij MW ZO:Nat):Path 330 [vI op,bQ l,bQ r]
 [dZ (qg l) bW,
  dZ (qg r) dz,
  dZ nY ij,
  bu (cN op 23) true,
  bu (cN op 23) true,
  iO 4 bW (bQ l),
  .mem (gj (vP bW 0)) (vI MW),
  iO 4 dz (bQ r),
  .mem (gj (vP dz 0)) (vI ZO),
  pT,
  .call 278 [.bool (cN op 37)] (bQ d),
  .mem (cW (vI MW) (vP bW 0) (eI ab 49 (vP bW 0))) undef,
  .mem (cW (vI ZO) (vP dz 0) (eI ab 49 (vP dz 0))) undef,
  pT,
  .call 331 [bQ l,bQ r,bQ d] (bQ u),
  pT,
  jQ ij 0 (sE u),
  sD 49 ij (bQ u)]
 (.tuple #[bQ u,vI 0]):=fu
theorem af8 (op:Int)(l r u d:V)(bW dz ij MW ZO:Nat):Path 330 [vI op,bQ l,bQ r]
 [dZ (qg l) bW,
  dZ (qg r) dz,
  dZ nY ij,
  bu (cN op 23) false,
  bu (cN op 37) true,
  iO 4 bW (bQ l),
  .mem (gj (vP bW 0)) (vI MW),
  iO 4 dz (bQ r),
  .mem (gj (vP dz 0)) (vI ZO),
  pT,
  .call 278 [.bool (cN op 37)] (bQ d),
  .mem (cW (vI MW) (vP bW 0) (eI ab 49 (vP bW 0))) undef,
  .mem (cW (vI ZO) (vP dz 0) (eI ab 49 (vP dz 0))) undef,
  pT,
  .call 331 [bQ l,bQ r,bQ d] (bQ u),
  pT,
  jQ ij 0 (sE u),
  sD 49 ij (bQ u)]
 (.tuple #[bQ u,vI 0]):=fu
theorem af9 (op:Int)(l r:V)(bW dz ij:Nat):Path 330 [vI op,bQ l,bQ r]
 [dZ (qg l) bW,
  dZ (qg r) dz,
  dZ nY ij,
  bu (cN op 23) false,
  bu (cN op 37) false,
  iO 4 bW (bQ l),
  .call 332 [bQ l] (.bool true),
  lN,
  lN,
  lN,
  lN,
  jQ ij 0 [vI 0,vI 0,pV,.bool false],
  sD 49 ij (.agg #[vI 0,vI 0,pV,.bool false])]
 (.tuple #[.agg #[vI 0,vI 0,pV,.bool false],vI 0]):=fu
theorem af7 (op:Int)(l r:V)(bW dz ij:Nat):Path 330 [vI op,bQ l,bQ r]
 [dZ (qg l) bW,
  dZ (qg r) dz,
  dZ nY ij,
  bu (cN op 23) false,
  bu (cN op 37) false,
  iO 4 bW (bQ l),
  .call 332 [bQ l] (.bool false),
  dH,
  iO 4 dz (bQ r),
  dH,
  .call 332 [bQ r] (.bool true),
  dH,
  lN,
  jQ ij 0 [vI 0,vI 0,pV,.bool false],
  sD 49 ij (.agg #[vI 0,vI 0,pV,.bool false])]
 (.tuple #[.agg #[vI 0,vI 0,pV,.bool false],vI 0]):=fu
theorem abY (op x:Int)(l r u:V)(bW dz ij:Nat):Path 330 [vI op,bQ l,bQ r]
 [dZ (qg l) bW,
  dZ (qg r) dz,
  dZ nY ij,
  bu (cN op 23) false,
  bu (cN op 37) false,
  iO 4 bW (bQ l),
  .call 332 [bQ l] (.bool false),
  dH,
  iO 4 dz (bQ r),
  dH,
  .call 332 [bQ r] (.bool false),
  dH,
  dH,
  bu (cN op 17) true,
  bu (cN op 17) true,
  .mem (aT bW 1) (vI l.n),
  .mem (aT dz 1) (vI r.n),
  .call 333 [vI op,vI l.n,vI r.n] (.tuple #[bQ u,vI x]),
  jQ ij 0 (sE u),
  sD 49 ij (bQ u)]
 (.tuple #[bQ u,vI x]):=fu
theorem abX (op x:Int)(l r u:V)(bW dz ij:Nat):Path 330 [vI op,bQ l,bQ r]
 [dZ (qg l) bW,
  dZ (qg r) dz,
  dZ nY ij,
  bu (cN op 23) false,
  bu (cN op 37) false,
  iO 4 bW (bQ l),
  .call 332 [bQ l] (.bool false),
  dH,
  iO 4 dz (bQ r),
  dH,
  .call 332 [bQ r] (.bool false),
  dH,
  dH,
  bu (cN op 17) false,
  bu (cN op 18) true,
  bu (cN op 18) true,
  .mem (aT bW 1) (vI l.n),
  .mem (aT dz 1) (vI r.n),
  .call 333 [vI op,vI l.n,vI r.n] (.tuple #[bQ u,vI x]),
  jQ ij 0 (sE u),
  sD 49 ij (bQ u)]
 (.tuple #[bQ u,vI x]):=fu
theorem abW (op x:Int)(l r u:V)(bW dz ij:Nat):Path 330 [vI op,bQ l,bQ r]
 [dZ (qg l) bW,
  dZ (qg r) dz,
  dZ nY ij,
  bu (cN op 23) false,
  bu (cN op 37) false,
  iO 4 bW (bQ l),
  .call 332 [bQ l] (.bool false),
  dH,
  iO 4 dz (bQ r),
  dH,
  .call 332 [bQ r] (.bool false),
  dH,
  dH,
  bu (cN op 17) false,
  bu (cN op 18) false,
  bu (cN op 10) true,
  bu (cN op 10) true,
  .mem (aT bW 1) (vI l.n),
  .mem (aT dz 1) (vI r.n),
  .call 333 [vI op,vI l.n,vI r.n] (.tuple #[bQ u,vI x]),
  jQ ij 0 (sE u),
  sD 49 ij (bQ u)]
 (.tuple #[bQ u,vI x]):=fu
theorem abV (op x:Int)(l r u:V)(bW dz ij:Nat):Path 330 [vI op,bQ l,bQ r]
 [dZ (qg l) bW,
  dZ (qg r) dz,
  dZ nY ij,
  bu (cN op 23) false,
  bu (cN op 37) false,
  iO 4 bW (bQ l),
  .call 332 [bQ l] (.bool false),
  dH,
  iO 4 dz (bQ r),
  dH,
  .call 332 [bQ r] (.bool false),
  dH,
  dH,
  bu (cN op 17) false,
  bu (cN op 18) false,
  bu (cN op 10) false,
  bu (cN op 19) true,
  bu (cN op 19) true,
  .mem (aT bW 1) (vI l.n),
  .mem (aT dz 1) (vI r.n),
  .call 333 [vI op,vI l.n,vI r.n] (.tuple #[bQ u,vI x]),
  jQ ij 0 (sE u),
  sD 49 ij (bQ u)]
 (.tuple #[bQ u,vI x]):=fu
theorem abU (op x:Int)(l r u:V)(bW dz ij:Nat):Path 330 [vI op,bQ l,bQ r]
 [dZ (qg l) bW,
  dZ (qg r) dz,
  dZ nY ij,
  bu (cN op 23) false,
  bu (cN op 37) false,
  iO 4 bW (bQ l),
  .call 332 [bQ l] (.bool false),
  dH,
  iO 4 dz (bQ r),
  dH,
  .call 332 [bQ r] (.bool false),
  dH,
  dH,
  bu (cN op 17) false,
  bu (cN op 18) false,
  bu (cN op 10) false,
  bu (cN op 19) false,
  bu (cN op 20) true,
  .mem (aT bW 1) (vI l.n),
  .mem (aT dz 1) (vI r.n),
  .call 333 [vI op,vI l.n,vI r.n] (.tuple #[bQ u,vI x]),
  jQ ij 0 (sE u),
  sD 49 ij (bQ u)]
 (.tuple #[bQ u,vI x]):=fu
theorem aga (op x:Int)(l r u:V)(bW dz ij:Nat):Path 330 [vI op,bQ l,bQ r]
 [dZ (qg l) bW,
  dZ (qg r) dz,
  dZ nY ij,
  bu (cN op 23) false,
  bu (cN op 37) false,
  iO 4 bW (bQ l),
  .call 332 [bQ l] (.bool false),
  dH,
  iO 4 dz (bQ r),
  dH,
  .call 332 [bQ r] (.bool false),
  dH,
  dH,
  bu (cN op 17) false,
  bu (cN op 18) false,
  bu (cN op 10) false,
  bu (cN op 19) false,
  bu (cN op 20) false,
  bu (cN op 21) true,
  .mem (aT bW 2) (gq l.s),
  .mem (aT dz 2) (gq r.s),
  .call 334 [gq l.s,gq r.s] (.tuple #[bQ u,vI x]),
  jQ ij 0 (sE u),
  sD 49 ij (bQ u)]
 (.tuple #[bQ u,vI x]):=fu
theorem agb (op x:Int)(l r u:V)(b:Bool)(bW dz ij:Nat):Path 330 [vI op,bQ l,bQ r]
 [dZ (qg l) bW,
  dZ (qg r) dz,
  dZ nY ij,
  bu (cN op 23) false,
  bu (cN op 37) false,
  iO 4 bW (bQ l),
  .call 332 [bQ l] (.bool false),
  dH,
  iO 4 dz (bQ r),
  dH,
  .call 332 [bQ r] (.bool false),
  dH,
  dH,
  bu (cN op 17) false,
  bu (cN op 18) false,
  bu (cN op 10) false,
  bu (cN op 19) false,
  bu (cN op 20) false,
  bu (cN op 21) false,
  iO 4 bW (bQ l),
  iO 4 dz (bQ r),
  .call 155 [bQ l,bQ r] (vI x),
  .call 335 [vI op,vI x] (.bool b),
  .call 278 [.bool b] (bQ u),
  jQ ij 0 (sE u),
  sD 49 ij (bQ u)]
 (.tuple #[bQ u,vI 0]):=fu
theorem iG {m0:Mem}{S:Nat->Prop}{b:Nat}(g0:Gd m0)(k:Kp m0 m S)(hb:m0.next<=b)(o:Obj m b 0 [vI 0,vI 0,.string .empty,.bool false])(u:V):
  ∃m',Az b 0 [vI u.k,vI u.n,.string u.s,.bool u.b] m=some (undef,m')/\pz ab 49 (vP b 0) m'=some (.agg #[vI u.k,vI u.n,.string u.s,.bool u.b],m')/\Kp m m' (fun y=>y=b):=by
 obtain⟨m',e,o',k'⟩:=lh (o:=0) [vI u.k,vI u.n,.string u.s,.bool u.b] o ((g0.own k hb).may _ _) (af rfl) rfl;exact⟨m',e,nK o' rfl OZ.1 OZ.2,k'⟩
theorem mJ {m0 m1 m2:Mem}{b:Nat}(k:Kp m0 m1 eQ)(k':Kp m1 m2 (fun y=>y=b))(hb:m0.next<=b):Kp m0 m2 eQ:=k.new k' (N:=m0.next) (ai _) fun y hy=>by rw[hy];exact hb
theorem rN {a b:Int}(h:a=b):(.bool (cN a b):ae)= .bool true:=by rw[se,vc h]
theorem gh {a b:Int}(h:¬a=b):(.bool (cN a b):ae)= .bool false:=by rw[se,qV h]
theorem Wx (g:Gd m)(b:Bool):∃m',Ev K 278 [.bool b] m (dk b).val m'/\Kp m m' eQ:=by
 obtain⟨m1,e1,o1,k1,n1,_⟩:=aY g [vI 0,vI 0,.string .empty,.bool false];obtain⟨m2,e2,e3,k2⟩:=iG g k1 (ai _) o1 (dk b);exact⟨m2,aJ (ajB b _) (.mem e1<| .mem e2<| .mem e3 .nil),mJ k1 k2 (ai _)⟩
theorem QB (g:Gd m)(v:V):∃m',Ev K 332 [v.val] m (.bool (decide (v.k=0))) m'/\Kp m m' eQ:=by
 obtain⟨m1,e1,o1,k1,n1,_⟩:=aY g v.cells;have e2:aT m.next 0 m1=some (vI v.k,m1):=aO o1 rfl;rw[<-se];exact⟨m1,aJ (ajz v _) (.mem e1<| .mem e2 .nil),k1⟩
theorem aii (g:Gd m)(v:V):∃m',Ev K 336 [v.val] m (xh v).val m'/\Kp m m' eQ:=by
 obtain⟨m1,e1,o1,k1,n1,_⟩:=aY g v.cells;obtain⟨m2,e2,o2,k2,n2,_⟩:=aY (g.ext k1) [vI 0,vI 0,.string .empty,.bool false];have mn:=k1.aS k2;have g2:=g.ext mn;have DJ:=o1.aU k2;have l1:fg 4 m.next 0 m2=some (v.val,m2):=bY (vs:=v.cells) DJ rfl (af rfl);obtain⟨m3,e3,k3⟩:=QB (K:=K) g2 v;have jX:=mn.aS k3;have g3:=g2.ext k3
 by_cases h:v.k=0
 ·rw[vc h]at e3;obtain⟨m4,e4,e5,k4⟩:=iG g jX (b:=m1.next) aj (o2.aU k3) cR;have hv:xh v=cR:=bK h;rw[hv];exact⟨m4,aJ (afW v ..) (.mem e1<| .mem e2<| .mem l1<| .call e3<| .cond rfl<| .mem e4<| .mem e5 .nil),mJ jX k4 aj⟩
 ·rw[qV h]at e3;have l2:aT m.next 3 m3=some (.bool v.b,m3):=aO (DJ.aU k3) rfl;obtain⟨m4,e4,k4⟩:=Wx (K:=K) g3 (!v.b);have jW:=jX.aS k4;obtain⟨m5,e5,e6,k5⟩:=iG g jW (b:=m1.next) aj ((o2.aU k3).aU k4) (dk (!v.b));have hv:xh v=dk (!v.b):=bZ h;rw[hv];exact⟨m5,aJ (afX v (dk (!v.b)) ..) (.mem e1<| .mem e2<| .mem l1<| .call e3<| .cond rfl<| .mem l2<| .call e4<| .mem e5<| .mem e6 .nil),mJ jW k5 aj⟩
theorem alr (g:Gd m)(v:V):∃m',Ev K 350 [v.val] m (dk (decide (v.k=0))).val m'/\Kp m m' eQ:=by
 obtain⟨m1,e1,o1,k1,n1,_⟩:=aY g v.cells;obtain⟨m2,e2,o2,k2,n2,_⟩:=aY (g.ext k1) [vI 0,vI 0,.string .empty,.bool false];have mn:=k1.aS k2;have g2:=g.ext mn;have l1:fg 4 m.next 0 m2=some (v.val,m2):=bY (vs:=v.cells) (o1.aU k2) rfl (af rfl);obtain⟨m3,e3,k3⟩:=QB (K:=K) g2 v;have jX:=mn.aS k3;obtain⟨m4,e4,k4⟩:=Wx (K:=K) (g2.ext k3) (decide (v.k=0));have jW:=jX.aS k4;obtain⟨m5,e5,e6,k5⟩:=iG g jW (b:=m1.next) aj ((o2.aU k3).aU k4) (dk (decide (v.k=0)));exact⟨m5,aJ (ajv v (dk (decide (v.k=0))) ..) (.mem e1<| .mem e2<| .mem l1<| .call e3<| .call e4<| .mem e5<| .mem e6 .nil),mJ jW k5 aj⟩
theorem aia {b:Nat}{v:V}(o:Obj m b 0 v.cells):cW (vI ((m.blk b).a9:Int)) (vP b 0) (eI ab 49 (vP b 0)) m=some (undef,m):=alm (vs:=v.cells) o rfl (af rfl) OZ.1 OZ.2 rfl
theorem Sf {m':Mem}{b:Nat}(k:Kp m m' eQ)(h:b<m.next):(m'.blk b).a9=(m.blk b).a9:=by rw[k.blk b h id]
theorem CN {m':Mem}{b:Nat}{v:V}(o:Obj m b 0 v.cells)(k:Kp m m' eQ):cW (vI ((m.blk b).a9:Int)) (vP b 0) (eI ab 49 (vP b 0)) m'=some (undef,m'):=by
 rw[<-Sf k o.lt];exact aia (o.aU k)
theorem alF (g:Gd m)(v:V):∃m',Ev K 273 [v.val] m (.bool (v.beq (dk true))) m'/\Kp m m' eQ:=by
 obtain⟨m1,e1,o1,k1,n1,_⟩:=aY g v.cells;have g1:=g.ext k1;have l1:fg 4 m.next 0 m1=some (v.val,m1):=bY (vs:=v.cells) o1 rfl (af rfl);obtain⟨m2,e2,k2⟩:=Wx (K:=K) g1 true;exact⟨m2,aJ (ajC v (dk true) ..) (.mem e1<| .mem l1<| .mem (dS _ _)<| .mem (bP g1)<| .call e2<| .mem (CN o1 k2)<| .val (Wb _ _ v (dk true)) .nil),k1.aS k2⟩
theorem alC (g:Gd m)(l r d:V):∃m',Ev K 331 [l.val,r.val,d.val] m (D8 l r d).val m'/\Kp m m' eQ:=by
 obtain⟨m1,e1,o1,k1,n1,_⟩:=aY g l.cells;obtain⟨m2,e2,o2,k2,n2,_⟩:=aY (g.ext k1) r.cells;have mn:=k1.aS k2;obtain⟨m3,e3,o3,k3,n3,_⟩:=aY (g.ext mn) d.cells;have jX:=mn.aS k3;obtain⟨m4,e4,o4,k4,n4,_⟩:=aY (g.ext jX) [vI 0,vI 0,.string .empty,.bool false];have jW:=jX.aS k4;have g4:=g.ext jW;have DJ:=((o1.aU k2).aU k3).aU k4;have Q7:=(o2.aU k3).aU k4;have o3':=o3.aU k4;have l1:fg 4 m.next 0 m4=some (l.val,m4):=bY (vs:=l.cells) DJ rfl (af rfl);have l2:fg 4 m1.next 0 m4=some (r.val,m4):=bY (vs:=r.cells) Q7 rfl (af rfl);have l3:fg 4 m2.next 0 m4=some (d.val,m4):=bY (vs:=d.cells) o3' rfl (af rfl);have v1:=Wb false false l d;have v2:=Wb false false r d;have done:l.beq d=true\/r.beq d=true->D8 l r d=d:=fun h=>bK h
 by_cases h1:l.beq d=true
 ·rw[h1]at v1;obtain⟨m5,e5,e6,k5⟩:=iG g jW (b:=m3.next) aj o4 d;rw[done (.inl h1)];exact⟨m5,aJ (af5 l r d ..) (.mem e1<| .mem e2<| .mem e3<| .mem e4<| .mem l1<| .mem l3<| .val v1<| .cond rfl<| .cond rfl<| .cond rfl<| .cond rfl<| .cond rfl<| .mem l3<| .mem e5<| .mem e6 .nil),mJ jW k5 aj⟩
 ·rw[Bool.not_eq_true]at h1;rw[h1]at v1
  by_cases h2:r.beq d=true
  ·rw[h2]at v2;obtain⟨m5,e5,e6,k5⟩:=iG g jW (b:=m3.next) aj o4 d;rw[done (.inr h2)];exact⟨m5,aJ (af2 l r d ..) (.mem e1<| .mem e2<| .mem e3<| .mem e4<| .mem l1<| .mem l3<| .val v1<| .cond rfl<| .mem l2<| .cond rfl<| .mem l3<| .cond rfl<| .val v2<| .cond rfl<| .cond rfl<| .mem l3<| .mem e5<| .mem e6 .nil),mJ jW k5 aj⟩
  ·rw[Bool.not_eq_true]at h2;rw[h2]at v2;have hn:D8 l r d=if l.k=0\/r.k=0 then cR else xh d:=bZ (by rw[h1,h2];simp);rw[hn];obtain⟨m5,e5,k5⟩:=QB (K:=K) g4 l;have sL:=jW.aS k5;have g5:=g4.ext k5
   by_cases h3:l.k=0
   ·rw[vc h3]at e5;rw[bK (.inl h3)];obtain⟨m6,e6,e7,k6⟩:=iG g sL (b:=m3.next) aj (o4.aU k5) cR;exact⟨m6,aJ (af3 l r d ..) (.mem e1<| .mem e2<| .mem e3<| .mem e4<| .mem l1<| .mem l3<| .val v1<| .cond rfl<| .mem l2<| .cond rfl<| .mem l3<| .cond rfl<| .val v2<| .cond rfl<| .cond rfl<| .mem l1<| .call e5<| .cond rfl<| .cond rfl<| .cond rfl<| .cond rfl<| .mem e6<| .mem e7 .nil),mJ sL k6 aj⟩
   ·rw[qV h3]at e5;have l2':fg 4 m1.next 0 m5=some (r.val,m5):=bY (vs:=r.cells) (Q7.aU k5) rfl (af rfl);obtain⟨m6,e6,k6⟩:=QB (K:=K) g5 r;have AY:=sL.aS k6;have g6:=g5.ext k6
    by_cases h4:r.k=0
    ·rw[vc h4]at e6;rw[bK (.inr h4)];obtain⟨m7,e7,e8,k7⟩:=iG g AY (b:=m3.next) aj ((o4.aU k5).aU k6) cR;exact⟨m7,aJ (af4 l r d ..) (.mem e1<| .mem e2<| .mem e3<| .mem e4<| .mem l1<| .mem l3<| .val v1<| .cond rfl<| .mem l2<| .cond rfl<| .mem l3<| .cond rfl<| .val v2<| .cond rfl<| .cond rfl<| .mem l1<| .call e5<| .cond rfl<| .mem l2'<| .cond rfl<| .call e6<| .cond rfl<| .cond rfl<| .mem e7<| .mem e8 .nil),mJ AY k7 aj⟩
    ·rw[qV h4]at e6;rw[bZ (by rintro(h|h);exact h3 h;exact h4 h)];have l3':fg 4 m2.next 0 m6=some (d.val,m6):=bY (vs:=d.cells) ((o3'.aU k5).aU k6) rfl (af rfl);obtain⟨m7,e7,k7⟩:=aii (K:=K) g6 d;have Km:=AY.aS k7;obtain⟨m8,e8,e9,k8⟩:=iG g Km (b:=m3.next) aj (((o4.aU k5).aU k6).aU k7) (xh d);exact⟨m8,aJ (af6 l r d (xh d) ..) (.mem e1<| .mem e2<| .mem e3<| .mem e4<| .mem l1<| .mem l3<| .val v1<| .cond rfl<| .mem l2<| .cond rfl<| .mem l3<| .cond rfl<| .val v2<| .cond rfl<| .cond rfl<| .mem l1<| .call e5<| .cond rfl<| .mem l2'<| .cond rfl<| .call e6<| .cond rfl<| .cond rfl<| .mem l3'<| .call e7<| .mem e8<| .mem e9 .nil),mJ Km k8 aj⟩
theorem alx (a b:Int):Ev K 338 [vI a,vI b] m (.tuple #[vI (Pp a b).1,.bool (Pp a b).2]) m:=aJ (ajy a b _) (.val (eq4 ..) .nil)
theorem alw (a b:Int):Ev K 339 [vI a,vI b] m (.tuple #[vI (Qp a b).1,.bool (Qp a b).2]) m:=aJ (ajx a b _) (.val (eq4 ..) .nil)
theorem alv (a b:Int):Ev K 340 [vI a,vI b] m (.tuple #[vI (EI a b).1,.bool (EI a b).2]) m:=by
 by_cases h1:a=0
 ·rw[show EI a b=(0,true)from bK (.inl h1)];exact aJ (afS a b) (.cond (rN h1)<| .cond (rN h1)<| .cond (rN h1)<| .cond rfl .nil)
 ·by_cases h2:b=0
  ·rw[show EI a b=(0,true)from bK (.inr h2)];exact aJ (afT a b) (.cond (gh h1)<| .cond (gh h1)<| .cond (gh h1)<| .cond (rN h2) .nil)
  ·have hp:EI a b=(jq a b,decide (yH (jq a b) b=a)&&(eX (jq a b) 0== !(eX a 0==eX b 0))):=bZ (by rintro(h|h);exact h1 h;exact h2 h);rw[hp]
   by_cases h3:yH (jq a b) b=a
   ·rw[vc h3];exact aJ (afU a b _ _ _) (.cond (gh h1)<| .cond (gh h1)<| .cond (gh h1)<| .cond (gh h2)<| .val (ne4 ..)<| .val (Qo _ _ h2)<| .cond (rN h3)<| .cond (rN h3)<| .cond (rN h3)<| .cond (rN h3)<| .val (eq4 ..)<| .cond (rN h3) .nil)
   ·rw[qV h3];exact aJ (afV a b _ _) (.cond (gh h1)<| .cond (gh h1)<| .cond (gh h1)<| .cond (gh h2)<| .val (ne4 ..)<| .val (Qo _ _ h2)<| .cond (gh h3)<| .cond (gh h3)<| .cond (gh h3)<| .cond (gh h3)<| .cond (gh h3) .nil)
theorem alu (a b:Int):Ev K 341 [vI a,vI b] m (.tuple #[vI (Lg a b).1,.bool (Lg a b).2]) m:=by
 by_cases h1:b=0
 ·rw[show Lg a b=(0,false)from bK (.inl h1)];exact aJ (afO a b) (.cond (rN h1)<| .cond (rN h1)<| .cond (rN h1)<| .cond (rN h1)<| .cond (rN h1)<| .cond rfl .nil)
 ·by_cases h2:a= -9223372036854775808
  ·by_cases h3:b= -1
   ·rw[show Lg a b=(0,false)from bK (.inr ⟨h2,h3⟩)];exact aJ (afQ a b) (.cond (gh h1)<| .cond (gh h1)<| .cond (gh h1)<| .cond (rN h2)<| .cond (rN h2)<| .cond (gh h1)<| .cond (rN h2)<| .cond (gh h1)<| .cond (rN h3) .nil)
   ·rw[show Lg a b=(yH a b,true)from bZ (by rintro(h|h);exact h1 h;exact h3 h.2)];exact aJ (afP a b _) (.cond (gh h1)<| .cond (gh h1)<| .cond (gh h1)<| .cond (rN h2)<| .cond (rN h2)<| .cond (gh h1)<| .cond (rN h2)<| .cond (gh h1)<| .cond (gh h3)<| .val (Qo _ _ h1) .nil)
  ·rw[show Lg a b=(yH a b,true)from bZ (by rintro(h|h);exact h1 h;exact h2 h.1)];exact aJ (afR a b _) (.cond (gh h1)<| .cond (gh h1)<| .cond (gh h1)<| .cond (gh h2)<| .cond (gh h2)<| .cond (gh h1)<| .cond (gh h2)<| .cond (gh h1)<| .cond rfl<| .val (Qo _ _ h1) .nil)
theorem als (a b:Int):Ev K 342 [vI a,vI b] m (.tuple #[vI (SC a b).1,.bool (SC a b).2]) m:=by
 by_cases h1:b=0
 ·rw[show SC a b=(0,false)from bK h1];exact aJ (afM a b) (.cond (rN h1) .nil)
 ·rw[show SC a b=(PB a b,true)from bZ h1];exact aJ (afN a b _) (.cond (gh h1)<| .val (Wj _ _ h1) .nil)
theorem aly (op a b:Int):Ev K 337 [vI op,vI a,vI b] m (.tuple #[vI (Ao op a b).1,.bool (Ao op a b).2]) m:=by
 unfold Ao
 by_cases h1:op=17
 ·rw[bK h1];exact aJ (abN op a b _ _) (.cond (rN h1)<| .call (alx a b) .nil)
 ·rw[bZ h1]
  by_cases h2:op=18
  ·rw[bK h2];exact aJ (abM op a b _ _) (.cond (gh h1)<| .cond (rN h2)<| .call (alw a b) .nil)
  ·rw[bZ h2]
   by_cases h3:op=10
   ·rw[bK h3];exact aJ (abL op a b _ _) (.cond (gh h1)<| .cond (gh h2)<| .cond (rN h3)<| .call (alv a b) .nil)
   ·rw[bZ h3]
    by_cases h4:op=19
    ·rw[bK h4];exact aJ (abK op a b _ _) (.cond (gh h1)<| .cond (gh h2)<| .cond (gh h3)<| .cond (rN h4)<| .call (alu a b) .nil)
    ·rw[bZ h4];exact aJ (abJ op a b _ _) (.cond (gh h1)<| .cond (gh h2)<| .cond (gh h3)<| .cond (gh h4)<| .call (als a b) .nil)
theorem alB (g:Gd m)(op a b:Int):∃m',Ev K 333 [vI op,vI a,vI b] m (.tuple #[(ky op a b).1.val,vI (ky op a b).2]) m'/\Kp m m' eQ:=by
 obtain⟨m1,e1,o1,k1,n1,_⟩:=aY g [vI 0,vI 0,.string .empty,.bool false];have e2:=aly (K:=K) (m:=m1) op a b;obtain⟨⟨x,y⟩,hx⟩:∃x,Ao op a b=x:=⟨_,rfl⟩;unfold ky;rw[hx]at e2⊢;cases y with
 |true=>
  obtain⟨m2,e3,e4,k2⟩:=iG g k1 (ai _) o1 (fU x);exact⟨m2,aJ (af0 op a b x _) (.mem e1<| .call e2<| .cond rfl<| .mem e3<| .mem e4 .nil),mJ k1 k2 (ai _)⟩
 |false=>
  obtain⟨m2,e3,e4,k2⟩:=iG g k1 (ai _) o1 cR;exact⟨m2,aJ (af1 op a b x _) (.mem e1<| .call e2<| .cond rfl<| .mem e3<| .mem e4 .nil),mJ k1 k2 (ai _)⟩
theorem alA (g:Gd m)(a b:ByteArray)(ha:a.size<2^60)(hb:b.size<2^60):∃m',Ev K 334 [.string a,.string b] m (.tuple #[(z8 a b).1.val,vI (z8 a b).2]) m'/\Kp m m' eQ:=by
 obtain⟨m1,e1,o1,k1,n1,_⟩:=aY g [vI 0,vI 0,.string .empty,.bool false];have hg:sV (eh (a.size:Int) (b.size:Int)) 250=decide (250<a.size+b.size):=by
  rw[j6 ⟨aj,aj⟩,r7,Bool.eq_iff_iff,jE,jE];omega
 unfold z8
 by_cases h:250<a.size+b.size
 ·rw[bK h];obtain⟨m2,e3,e4,k2⟩:=iG g k1 (ai _) o1 cR;exact⟨m2,aJ (afZ a b _) (.mem e1<| .cond (by rw[hg,vc h])<| .mem e3<| .mem e4 .nil),mJ k1 k2 (ai _)⟩
 ·rw[bZ h];obtain⟨m2,e3,e4,k2⟩:=iG g k1 (ai _) o1 ⟨2,0,a++b,false⟩;have hc:uj a b=some (.string (a++b)):=by
   unfold uj;have :Nat.blt (a.size+b.size) 9223372036854775808=true:=Nat.ble_eq_true_of_le aj;rw[this]
  exact⟨m2,aJ (afY a b _) (.mem e1<| .cond (by rw[hg,qV h])<| .val hc<| .mem e3<| .mem e4 .nil),mJ k1 k2 (ai _)⟩
theorem alz (op o:Int):Ev K 335 [vI op,vI o] m (.bool (tT op o)) m:=by
 unfold tT
 by_cases h1:op=11
 ·rw[bK h1];exact aJ (abT op o) (.cond (rN h1) .nil)
 ·rw[bZ h1]
  by_cases h2:op=12
  ·rw[bK h2];exact aJ (abS op o) (.cond (gh h1)<| .cond (rN h2) .nil)
  ·rw[bZ h2]
   by_cases h3:op=13
   ·rw[bK h3];exact aJ (abR op o) (.cond (gh h1)<| .cond (gh h2)<| .cond (rN h3) .nil)
   ·rw[bZ h3]
    by_cases h4:op=14
    ·rw[bK h4];exact aJ (abQ op o) (.cond (gh h1)<| .cond (gh h2)<| .cond (gh h3)<| .cond (rN h4) .nil)
    ·rw[bZ h4]
     by_cases h5:op=15
     ·rw[bK h5];exact aJ (abP op o) (.cond (gh h1)<| .cond (gh h2)<| .cond (gh h3)<| .cond (gh h4)<| .cond (rN h5) .nil)
     ·rw[bZ h5];exact aJ (abO op o) (.cond (gh h1)<| .cond (gh h2)<| .cond (gh h3)<| .cond (gh h4)<| .cond (gh h5) .nil)
end
end Go.AM
namespace Go.AM
set_option maxRecDepth 1000000
open Go Go.Conc Go.Proofs
section
variable {K:gI}{m:Mem}
theorem alD (g:Gd m)(op:Int)(l r:V)(hl:l.s.size<2^60)(hr:r.s.size<2^60):∃m',Ev K 330 [vI op,l.val,r.val] m (.tuple #[(wj op l r).1.val,vI (wj op l r).2]) m'/\Kp m m' eQ:=by
 obtain⟨m1,e1,o1,k1,n1,_⟩:=aY g l.cells;obtain⟨m2,e2,o2,k2,n2,_⟩:=aY (g.ext k1) r.cells;have mn:=k1.aS k2;obtain⟨m3,e3,o3,k3,n3,_⟩:=aY (g.ext mn) [vI 0,vI 0,.string .empty,.bool false];have jX:=mn.aS k3;have g3:=g.ext jX;have DJ:=(o1.aU k2).aU k3;have Q7:=o2.aU k3;have l1:fg 4 m.next 0 m3=some (l.val,m3):=bY (vs:=l.cells) DJ rfl (af rfl);have l2:fg 4 m1.next 0 m3=some (r.val,m3):=bY (vs:=r.cells) Q7 rfl (af rfl)
 by_cases h1:op=23\/op=37
 ·rw[show wj op l r=(D8 l r (dk (cN op 37)),0)from bK h1];obtain⟨m4,e4,k4⟩:=Wx (K:=K) g3 (cN op 37);have jW:=jX.aS k4;have g4:=g3.ext k4;obtain⟨m5,e5,k5⟩:=alC (K:=K) g4 l r (dk (cN op 37));have sL:=jW.aS k5;have g5:=g4.ext k5;obtain⟨m6,e6,e7,k6⟩:=iG g sL (b:=m2.next) aj ((o3.aU k4).aU k5) (D8 l r (dk (cN op 37)));refine⟨m6,?_,mJ sL k6 aj⟩
  by_cases h2:op=23
  ·exact aJ (agc op l r (D8 l r (dk (cN op 37))) (dk (cN op 37)) ..) (.mem e1<| .mem e2<| .mem e3<| .cond (rN h2)<| .cond (rN h2)<| .mem l1<| .mem (dS _ _)<| .mem l2<| .mem (dS _ _)<| .mem (bP g3)<| .call e4<| .mem (CN DJ k4)<| .mem (CN Q7 k4)<| .mem (bP g4)<| .call e5<| .mem (bP g5)<| .mem e6<| .mem e7 .nil)
  ·have h3:=h1.resolve_left h2;exact aJ (af8 op l r (D8 l r (dk (cN op 37))) (dk (cN op 37)) ..) (.mem e1<| .mem e2<| .mem e3<| .cond (gh h2)<| .cond (rN h3)<| .mem l1<| .mem (dS _ _)<| .mem l2<| .mem (dS _ _)<| .mem (bP g3)<| .call e4<| .mem (CN DJ k4)<| .mem (CN Q7 k4)<| .mem (bP g4)<| .call e5<| .mem (bP g5)<| .mem e6<| .mem e7 .nil)
 ·have ha:¬op=23:=fun h=>h1 (.inl h)
  have hb:¬op=37:=fun h=>h1 (.inr h)
  have hB:wj op l r=if l.k=0\/r.k=0 then(cR,0)else if op=17\/op=18\/op=10\/op=19\/op=20 then ky op l.n r.n else if op=21 then z8 l.s r.s else(dk (tT op (mh l r)),0):=bZ h1;rw[hB];obtain⟨m4,e4,k4⟩:=QB (K:=K) g3 l;have jW:=jX.aS k4;have g4:=g3.ext k4
  by_cases h3:l.k=0
  ·rw[vc h3]at e4;rw[bK (.inl h3)];obtain⟨m6,e6,e7,k6⟩:=iG g jW (b:=m2.next) aj (o3.aU k4) cR;exact⟨m6,aJ (af9 op l r ..) (.mem e1<| .mem e2<| .mem e3<| .cond (gh ha)<| .cond (gh hb)<| .mem l1<| .call e4<| .cond rfl<| .cond rfl<| .cond rfl<| .cond rfl<| .mem e6<| .mem e7 .nil),mJ jW k6 aj⟩
  ·rw[qV h3]at e4;have l2':fg 4 m1.next 0 m4=some (r.val,m4):=bY (vs:=r.cells) (Q7.aU k4) rfl (af rfl);obtain⟨m5,e5,k5⟩:=QB (K:=K) g4 r;have sL:=jW.aS k5;have g5:=g4.ext k5;have o3':=(o3.aU k4).aU k5
   by_cases h4:r.k=0
   ·rw[vc h4]at e5;rw[bK (.inr h4)];obtain⟨m6,e6,e7,k6⟩:=iG g sL (b:=m2.next) aj o3' cR;exact⟨m6,aJ (af7 op l r ..) (.mem e1<| .mem e2<| .mem e3<| .cond (gh ha)<| .cond (gh hb)<| .mem l1<| .call e4<| .cond rfl<| .mem l2'<| .cond rfl<| .call e5<| .cond rfl<| .cond rfl<| .mem e6<| .mem e7 .nil),mJ sL k6 aj⟩
   ·rw[qV h4]at e5;rw[bZ (by rintro(h|h);exact h3 h;exact h4 h)];have la:aT m.next 1 m5=some (vI l.n,m5):=aO ((DJ.aU k4).aU k5) rfl;have lb:aT m1.next 1 m5=some (vI r.n,m5):=aO ((Q7.aU k4).aU k5) rfl
    by_cases h5:op=17\/op=18\/op=10\/op=19\/op=20
    ·rw[bK h5];obtain⟨m6,e6,k6⟩:=alB (K:=K) g5 op l.n r.n;have AY:=sL.aS k6;obtain⟨m7,e7,e8,k7⟩:=iG g AY (b:=m2.next) aj (o3'.aU k6) (ky op l.n r.n).1;refine⟨m7,?_,mJ AY k7 aj⟩
     by_cases x1:op=17
     ·have y1:=rN x1;have z1:=gh ha;have z2:=gh hb;exact aJ (abY op _ l r (ky op l.n r.n).1 ..) wI
     ·by_cases x2:op=18
      ·have y1:=gh x1;have y2:=rN x2;have z1:=gh ha;have z2:=gh hb;exact aJ (abX op _ l r (ky op l.n r.n).1 ..) wI
      ·by_cases x3:op=10
       ·have y1:=gh x1;have y2:=gh x2;have y3:=rN x3;have z1:=gh ha;have z2:=gh hb;exact aJ (abW op _ l r (ky op l.n r.n).1 ..) wI
       ·by_cases x4:op=19
        ·have y1:=gh x1;have y2:=gh x2;have y3:=gh x3;have y4:=rN x4;have z1:=gh ha;have z2:=gh hb;exact aJ (abV op _ l r (ky op l.n r.n).1 ..) wI
        ·have x5:op=20:=aj;have y1:=gh x1;have y2:=gh x2;have y3:=gh x3;have y4:=gh x4;have y5:=rN x5;have z1:=gh ha;have z2:=gh hb;exact aJ (abU op _ l r (ky op l.n r.n).1 ..) wI
    ·rw[bZ h5];have x1:¬op=17:=aj;have x2:¬op=18:=aj;have x3:¬op=10:=aj;have x4:¬op=19:=aj;have x5:¬op=20:=aj
     by_cases h6:op=21
     ·rw[bK h6];have sa:aT m.next 2 m5=some (.string l.s,m5):=aO ((DJ.aU k4).aU k5) rfl;have sb:aT m1.next 2 m5=some (.string r.s,m5):=aO ((Q7.aU k4).aU k5) rfl;obtain⟨m6,e6,k6⟩:=alA (K:=K) g5 l.s r.s hl hr;have AY:=sL.aS k6;obtain⟨m7,e7,e8,k7⟩:=iG g AY (b:=m2.next) aj (o3'.aU k6) (z8 l.s r.s).1;exact⟨m7,aJ (aga op _ l r (z8 l.s r.s).1 ..) (.mem e1<| .mem e2<| .mem e3<| .cond (gh ha)<| .cond (gh hb)<| .mem l1<| .call e4<| .cond rfl<| .mem l2'<| .cond rfl<| .call e5<| .cond rfl<| .cond rfl<| .cond (gh x1)<| .cond (gh x2)<| .cond (gh x3)<| .cond (gh x4)<| .cond (gh x5)<| .cond (rN h6)<| .mem sa<| .mem sb<| .call e6<| .mem e7<| .mem e8 .nil),mJ AY k7 aj⟩
     ·rw[bZ h6];have l1':fg 4 m.next 0 m5=some (l.val,m5):=bY (vs:=l.cells) ((DJ.aU k4).aU k5) rfl (af rfl);have aj9:fg 4 m1.next 0 m5=some (r.val,m5):=bY (vs:=r.cells) ((Q7.aU k4).aU k5) rfl (af rfl);obtain⟨m6,e6,k6⟩:=ais (K:=K) g5 l r;have AY:=sL.aS k6;have g6:=g5.ext k6;obtain⟨m7,e7,k7⟩:=Wx (K:=K) g6 (tT op (mh l r));have Km:=AY.aS k7;obtain⟨m8,e8,e9,k8⟩:=iG g Km (b:=m2.next) aj ((o3'.aU k6).aU k7) (dk (tT op (mh l r)));exact⟨m8,aJ (agb op (mh l r) l r (dk (tT op (mh l r))) (tT op (mh l r)) ..) (.mem e1<| .mem e2<| .mem e3<| .cond (gh ha)<| .cond (gh hb)<| .mem l1<| .call e4<| .cond rfl<| .mem l2'<| .cond rfl<| .call e5<| .cond rfl<| .cond rfl<| .cond (gh x1)<| .cond (gh x2)<| .cond (gh x3)<| .cond (gh x4)<| .cond (gh x5)<| .cond (gh h6)<| .mem l1'<| .mem aj9<| .call e6<| .call (alz op (mh l r))<| .call e7<| .mem e8<| .mem e9 .nil),mJ Km k8 aj⟩
end
end Go.AM
namespace Go.AM
set_option maxRecDepth 1000000
open Go Go.Conc Go.Proofs
def ft (cv:Nat->Int->Int->V):X->V×Int
 | .lit v=>(v,0)
 | .bin op l r=>if(ft cv l).2≠0 then(cR,(ft cv l).2)else if(ft cv r).2≠0 then(cR,(ft cv r).2)else wj op (ft cv l).1 (ft cv r).1
 | .no x=>if(ft cv x).2≠0 then(cR,(ft cv x).2)else(xh (ft cv x).1,0)
 | .LQ x=>if(ft cv x).2≠0 then(cR,(ft cv x).2)else(dk (decide ((ft cv x).1.k=0)),0)
 | .pU p i j=>(cv p i j,0)
def X.all(L:V->Prop)(C:Nat->Int->Int->Prop):X->Prop
 | .lit v=>L v
 | .bin _ l r=>l.all L C/\r.all L C
 | .no x=>x.all L C
 | .LQ x=>x.all L C
 | .pU p i j=>C p i j
def iw (v:V):Prop:=v.s.size<2^60
theorem yD:iw cR:=by show(ByteArray.empty).size<_;decide
theorem MH {op:Int}{l r:V}:iw (wj op l r).1:=by
 have h0:=yD;have ht:∀b,iw (dk b):=fun b=>by show(ByteArray.empty).size<_;decide
 unfold wj
 split
 ·show iw (D8 l r _)
  unfold D8
  split
  ·exact ht _
  ·split
   ·exact h0
   ·unfold xh
    split
    ·exact h0
    ·exact ht _
 ·split
  ·exact h0
  ·split
   ·unfold ky
    split
    ·show(ByteArray.empty).size<_;decide
    ·exact h0
   ·split
    ·unfold z8
     split
     ·exact h0
     ·rename_i h
      show(l.s++r.s).size<_
      rw[ByteArray.size_append];omega
    ·exact ht _
theorem EM {cv:Nat->Int->Int->V}:∀{x:X},x.all iw (fun p i j=>iw (cv p i j))->iw (ft cv x).1
 | .lit v,h=>h
 | .bin op l r,h=>by
  unfold ft
  split
  ·exact yD
  ·split
   ·exact yD
   ·exact MH
 | .no x,h=>by
  unfold ft
  split
  ·exact yD
  ·show iw (xh _)
   unfold xh
   split
   ·exact yD
   ·show(ByteArray.empty).size<_;decide
 | .LQ x,h=>by
  unfold ft
  split
  ·exact yD
  ·show(ByteArray.empty).size<_;decide
 | .pU p i j,h=>h
theorem Yf {b:Nat}:dN ab (.iface 305 (vP b 0)) "Of"=some (329,vP b 0)/\dN ab (.iface 390 (vP b 0)) "Of"=some (348,vP b 0)/\dN ab (.iface 393 (vP b 0)) "Of"=some (349,vP b 0)/\dN ab (.iface 317 (vP b 0)) "Of"=some (346,vP b 0)/\dN ab (.iface 396 (vP b 0)) "Of"=some (351,vP b 0):=by
 refine⟨?_,?_,?_,?_,?_⟩<;>kernel_rfl
section
variable {K:gI}{B:Nat->Prop}
theorem agf (q:Nat)(rw :ae)(op x y z:Int)(lv rv:ae)(l r u:V)(bW dz:Nat):Path 329 [vP q 0,rw]
 [dZ nY bW,
  .mem (aT q 1) lv,
  .eE (dN ab lv "Of") [rw] (.tuple #[bQ l,vI x]),
  dZ nY dz,
  jQ dz 0 (sE l),
  bu (sT x 0) true,
  jQ bW 0 [vI 0,vI 0,pV,.bool false],
  sD 49 bW (.agg #[vI 0,vI 0,pV,.bool false])]
 (.tuple #[.agg #[vI 0,vI 0,pV,.bool false],vI x]):=fu
theorem age (q:Nat)(rw :ae)(op x y z:Int)(lv rv:ae)(l r u:V)(bW dz ij:Nat):Path 329 [vP q 0,rw]
 [dZ nY bW,
  .mem (aT q 1) lv,
  .eE (dN ab lv "Of") [rw] (.tuple #[bQ l,vI 0]),
  dZ nY dz,
  jQ dz 0 (sE l),
  dH,
  .mem (aT q 2) rv,
  .eE (dN ab rv "Of") [rw] (.tuple #[bQ r,vI y]),
  dZ nY ij,
  jQ ij 0 (sE r),
  bu (sT y 0) true,
  jQ bW 0 [vI 0,vI 0,pV,.bool false],
  sD 49 bW (.agg #[vI 0,vI 0,pV,.bool false])]
 (.tuple #[.agg #[vI 0,vI 0,pV,.bool false],vI y]):=fu
theorem agd (q:Nat)(rw :ae)(op x y z:Int)(lv rv:ae)(l r u:V)(bW dz ij:Nat):Path 329 [vP q 0,rw]
 [dZ nY bW,
  .mem (aT q 1) lv,
  .eE (dN ab lv "Of") [rw] (.tuple #[bQ l,vI 0]),
  dZ nY dz,
  jQ dz 0 (sE l),
  dH,
  .mem (aT q 2) rv,
  .eE (dN ab rv "Of") [rw] (.tuple #[bQ r,vI 0]),
  dZ nY ij,
  jQ ij 0 (sE r),
  dH,
  .mem (aT q 0) (vI op),
  iO 4 dz (bQ l),
  iO 4 ij (bQ r),
  pT,
  .call 330 [vI op,bQ l,bQ r] (.tuple #[bQ u,vI z]),
  pT,
  jQ bW 0 (sE u),
  sD 49 bW (bQ u)]
 (.tuple #[bQ u,vI z]):=fu
theorem ajw (q:Nat)(rw :ae)(u:V)(bW:Nat):Path 346 [vP q 0,rw]
 [dZ nY bW,
  iO 4 q (bQ u),
  jQ bW 0 (sE u),
  sD 49 bW (bQ u)]
 (.tuple #[bQ u,vI 0]):=fu
theorem afL (q:Nat)(rw xv:ae)(x:Int)(l:V)(bW dz:Nat):Path 348 [vP q 0,rw]
 [dZ nY bW,
  .mem (aT q 0) xv,
  .eE (dN ab xv "Of") [rw] (.tuple #[bQ l,vI x]),
  dZ nY dz,
  jQ dz 0 (sE l),
  bu (sT x 0) true,
  jQ bW 0 [vI 0,vI 0,pV,.bool false],
  sD 49 bW (.agg #[vI 0,vI 0,pV,.bool false])]
 (.tuple #[.agg #[vI 0,vI 0,pV,.bool false],vI x]):=fu
theorem afK (q:Nat)(rw xv:ae)(l u:V)(bW dz:Nat):Path 348 [vP q 0,rw]
 [dZ nY bW,
  .mem (aT q 0) xv,
  .eE (dN ab xv "Of") [rw] (.tuple #[bQ l,vI 0]),
  dZ nY dz,
  jQ dz 0 (sE l),
  dH,
  iO 4 dz (bQ l),
  .call 336 [bQ l] (bQ u),
  jQ bW 0 (sE u),
  sD 49 bW (bQ u)]
 (.tuple #[bQ u,vI 0]):=fu
theorem afJ (q:Nat)(rw xv:ae)(x:Int)(l:V)(bW dz:Nat):Path 349 [vP q 0,rw]
 [dZ nY bW,
  .mem (aT q 0) xv,
  .eE (dN ab xv "Of") [rw] (.tuple #[bQ l,vI x]),
  dZ nY dz,
  jQ dz 0 (sE l),
  bu (sT x 0) true,
  jQ bW 0 [vI 0,vI 0,pV,.bool false],
  sD 49 bW (.agg #[vI 0,vI 0,pV,.bool false])]
 (.tuple #[.agg #[vI 0,vI 0,pV,.bool false],vI x]):=fu
theorem afI (q:Nat)(rw xv:ae)(l u:V)(bW dz:Nat):Path 349 [vP q 0,rw]
 [dZ nY bW,
  .mem (aT q 0) xv,
  .eE (dN ab xv "Of") [rw] (.tuple #[bQ l,vI 0]),
  dZ nY dz,
  jQ dz 0 (sE l),
  dH,
  iO 4 dz (bQ l),
  .call 350 [bQ l] (bQ u),
  jQ bW 0 (sE u),
  sD 49 bW (bQ u)]
 (.tuple #[bQ u,vI 0]):=fu
theorem aQ.sK{K:gI}{nt:Nat}{c:Code}{i id:Nat}{st jB zJ:Ss}{e:Exit}{b:Code}(h:HQ K nt b 100000 st (.exit id) jB)(k:aQ K nt c (i+1) jB e zJ)(hl:iW c i=some (id,b):=by kernel_rfl)(ep:kl nt c b i id=true:=by kernel_rfl):aQ K nt c i st e zJ:=aQ.xp hl ep h rfl k
theorem neT {a:Int}(h:a≠0):(.bool (sT a 0):ae)= .bool true:=by rw[tK,vc h]
theorem cOf {R:Mem->Prop}{cv:Nat->Int->Int->V}{rv:ae}(hR:∀m m',R m->Kp m m' eQ->R m')
  (akT:∀p i j m b,iw (cv p i j)->Gd m->R m->Obj m b 0 [vP p 0,vI i,vI j]->∃m',Ev K 351 [vP b 0,rv] m (.tuple #[(cv p i j).val,vI 0]) m'/\Kp m m' eQ):
  ∀(x:X) (m:Mem) (xv:ae),Gd m->R m->XR B x m xv->x.all iw (fun p i j=>iw (cv p i j))->
   ∃f b m',dN ab xv "Of"=some (f,vP b 0)/\Ev K f [vP b 0,rv] m (.tuple #[(ft cv x).1.val,vI (ft cv x).2]) m'/\Kp m m' eQ:=by
 intro x
 induction x with
 |lit u=>
  rintro m xv g hr ⟨b,rfl,hb,ob⟩ hs;obtain⟨m1,e1,o1,k1,n1,_⟩:=aY g [vI 0,vI 0,.string .empty,.bool false];have l1:fg 4 b 0 m1=some (u.val,m1):=bY (vs:=u.cells) (ob.aU k1) rfl (af rfl);obtain⟨m2,e2,e3,k2⟩:=iG g k1 (ai _) o1 u;exact⟨346,b,m2,Yf.2.2.2.1,aJ (ajw b rv u _) (.mem e1<| .mem l1<| .mem e2<| .mem e3 .nil),mJ k1 k2 (ai _)⟩
 |pU p i j=>
  rintro m xv g hr ⟨b,rfl,hb,ob⟩ hs;obtain⟨m',e,k⟩:=akT p i j m b hs g hr ob;exact⟨351,b,m',Yf.2.2.2.2,e,k⟩
 |no x ih=>
  rintro m xv g hr ⟨b,xv,rfl,hb,ob,hx⟩ hs;obtain⟨m1,e1,o1,k1,n1,_⟩:=aY g [vI 0,vI 0,.string .empty,.bool false];have g1:=g.ext k1;have l1:aT b 0 m1=some (xv,m1):=aO (ob.aU k1) rfl;obtain⟨f,b',m2,hm,e2,k2⟩:=ih m1 xv g1 (hR _ _ hr k1) (XR.ext k1 (fun _ _ h=>h) hx) hs;have mn:=k1.aS k2;have g2:=g.ext mn;obtain⟨m3,m4,e3,e4,o4,k4,n4⟩:=kY g2 [vI 0,vI 0,.string .empty,.bool false] (ft cv x).1.cells rfl rfl;have jW:=mn.aS k4;have g4:=g.ext jW
  by_cases h:(ft cv x).2=0
  ·have l2:fg 4 m2.next 0 m4=some ((ft cv x).1.val,m4):=bY (vs:=(ft cv x).1.cells) o4 rfl (af rfl);obtain⟨m5,e5,k5⟩:=aii (K:=K) g4 (ft cv x).1;have sL:=jW.aS k5;obtain⟨m6,e6,e7,k6⟩:=iG g sL (ai _) (((o1.aU k2).aU k4).aU k5) (xh (ft cv x).1);rw[show ft cv (.no x)=(xh (ft cv x).1,0)from bZ (by rw[h];simp)];rw[h]at e2;exact⟨348,b,m6,Yf.2.1,aJ (afK b rv xv (ft cv x).1 (xh (ft cv x).1) ..) (.mem e1<| .mem l1<| .eE hm e2<| .mem e3<| .mem e4<| .cond rfl<| .mem l2<| .call e5<| .mem e6<| .mem e7 .nil),mJ sL k6 (ai _)⟩
  ·obtain⟨m6,e6,e7,k6⟩:=iG g jW (ai _) ((o1.aU k2).aU k4) cR;rw[show ft cv (.no x)=(cR,(ft cv x).2)from bK h];exact⟨348,b,m6,Yf.2.1,aJ (afL b rv xv (ft cv x).2 (ft cv x).1 ..) (.mem e1<| .mem l1<| .eE hm e2<| .mem e3<| .mem e4<| .cond (neT h)<| .mem e6<| .mem e7 .nil),mJ jW k6 (ai _)⟩
 |LQ x ih=>
  rintro m xv g hr ⟨b,xv,rfl,hb,ob,hx⟩ hs;obtain⟨m1,e1,o1,k1,n1,_⟩:=aY g [vI 0,vI 0,.string .empty,.bool false];have g1:=g.ext k1;have l1:aT b 0 m1=some (xv,m1):=aO (ob.aU k1) rfl;obtain⟨f,b',m2,hm,e2,k2⟩:=ih m1 xv g1 (hR _ _ hr k1) (XR.ext k1 (fun _ _ h=>h) hx) hs;have mn:=k1.aS k2;have g2:=g.ext mn;obtain⟨m3,m4,e3,e4,o4,k4,n4⟩:=kY g2 [vI 0,vI 0,.string .empty,.bool false] (ft cv x).1.cells rfl rfl;have jW:=mn.aS k4;have g4:=g.ext jW
  by_cases h:(ft cv x).2=0
  ·have l2:fg 4 m2.next 0 m4=some ((ft cv x).1.val,m4):=bY (vs:=(ft cv x).1.cells) o4 rfl (af rfl);obtain⟨m5,e5,k5⟩:=alr (K:=K) g4 (ft cv x).1;have sL:=jW.aS k5;obtain⟨m6,e6,e7,k6⟩:=iG g sL (ai _) (((o1.aU k2).aU k4).aU k5) (dk (decide ((ft cv x).1.k=0)));rw[show ft cv (.LQ x)=(dk (decide ((ft cv x).1.k=0)),0)from bZ (by rw[h];simp)];rw[h]at e2;exact⟨349,b,m6,Yf.2.2.1,aJ (afI b rv xv (ft cv x).1 (dk (decide ((ft cv x).1.k=0))) ..) (.mem e1<| .mem l1<| .eE hm e2<| .mem e3<| .mem e4<| .cond rfl<| .mem l2<| .call e5<| .mem e6<| .mem e7 .nil),mJ sL k6 (ai _)⟩
  ·obtain⟨m6,e6,e7,k6⟩:=iG g jW (ai _) ((o1.aU k2).aU k4) cR;rw[show ft cv (.LQ x)=(cR,(ft cv x).2)from bK h];exact⟨349,b,m6,Yf.2.2.1,aJ (afJ b rv xv (ft cv x).2 (ft cv x).1 ..) (.mem e1<| .mem l1<| .eE hm e2<| .mem e3<| .mem e4<| .cond (neT h)<| .mem e6<| .mem e7 .nil),mJ jW k6 (ai _)⟩
 |bin op l r ihl ihr=>
  rintro m xv g hr ⟨b,lv,rv',rfl,hb,ob,hl,wC⟩ hs;obtain⟨m1,e1,o1,k1,n1,_⟩:=aY g [vI 0,vI 0,.string .empty,.bool false];have g1:=g.ext k1;have l1:aT b 1 m1=some (lv,m1):=aO (ob.aU k1) rfl;obtain⟨f,b',m2,hm,e2,k2⟩:=ihl m1 lv g1 (hR _ _ hr k1) (XR.ext k1 (fun _ _ h=>h) hl) hs.1;have mn:=k1.aS k2;have g2:=g.ext mn;obtain⟨m3,m4,e3,e4,o4,k4,n4⟩:=kY g2 [vI 0,vI 0,.string .empty,.bool false] (ft cv l).1.cells rfl rfl;have jW:=mn.aS k4;have g4:=g.ext jW;have o14:=(o1.aU k2).aU k4
  by_cases h:(ft cv l).2=0
  ·have l2:aT b 2 m4=some (rv',m4):=aO (ob.aU jW) rfl;rw[h]at e2;obtain⟨f',b'',m5,hm',e5,k5⟩:=ihr m4 rv' g4 (hR _ _ hr jW) (XR.ext jW (fun _ _ h=>h) wC) hs.2;have sL:=jW.aS k5;have g5:=g.ext sL;obtain⟨m6,m7,e6,e7,o7,k7,n7⟩:=kY g5 [vI 0,vI 0,.string .empty,.bool false] (ft cv r).1.cells rfl rfl;have Km:=sL.aS k7;have g7:=g.ext Km;have o17:=(o14.aU k5).aU k7
   by_cases h':(ft cv r).2=0
   ·rw[h']at e5;have la:aT b 0 m7=some (vI op,m7):=aO (ob.aU Km) rfl;have lb:fg 4 m2.next 0 m7=some ((ft cv l).1.val,m7):=bY (vs:=(ft cv l).1.cells) ((o4.aU k5).aU k7) rfl (af rfl);have lc:fg 4 m5.next 0 m7=some ((ft cv r).1.val,m7):=bY (vs:=(ft cv r).1.cells) o7 rfl (af rfl);obtain⟨m8,e8,k8⟩:=alD (K:=K) g7 op (ft cv l).1 (ft cv r).1 (EM hs.1) (EM hs.2);have Xa:=Km.aS k8;obtain⟨m9,e9,Qm,k9⟩:=iG g Xa (ai _) (o17.aU k8) (wj op (ft cv l).1 (ft cv r).1).1;rw[show ft cv (.bin op l r)=wj op (ft cv l).1 (ft cv r).1 from by show(if _ then _ else _)=_;rw[bZ (by rw[h];simp),bZ (by rw[h'];simp)]];exact⟨329,b,m9,Yf.1,aJ (agd b rv op 0 0 (wj op (ft cv l).1 (ft cv r).1).2 lv rv' (ft cv l).1 (ft cv r).1 (wj op (ft cv l).1 (ft cv r).1).1 ..) (.mem e1<| .mem l1<| .eE hm e2<| .mem e3<| .mem e4<| .cond rfl<| .mem l2<| .eE hm' e5<| .mem e6<| .mem e7<| .cond rfl<| .mem la<| .mem lb<| .mem lc<| .mem (bP g7)<| .call e8<| .mem (bP (g.ext Xa))<| .mem e9<| .mem Qm .nil),mJ Xa k9 (ai _)⟩
   ·obtain⟨m9,e9,Qm,k9⟩:=iG g Km (ai _) o17 cR;rw[show ft cv (.bin op l r)=(cR,(ft cv r).2)from by show(if _ then _ else _)=_;rw[bZ (by rw[h];simp),bK h']];exact⟨329,b,m9,Yf.1,aJ (age b rv 0 0 (ft cv r).2 0 lv rv' (ft cv l).1 (ft cv r).1 cR ..) (.mem e1<| .mem l1<| .eE hm e2<| .mem e3<| .mem e4<| .cond rfl<| .mem l2<| .eE hm' e5<| .mem e6<| .mem e7<| .cond (neT h')<| .mem e9<| .mem Qm .nil),mJ Km k9 (ai _)⟩
  ·obtain⟨m9,e9,Qm,k9⟩:=iG g jW (ai _) o14 cR;rw[show ft cv (.bin op l r)=(cR,(ft cv l).2)from bK h];exact⟨329,b,m9,Yf.1,aJ (agf b rv 0 (ft cv l).2 0 0 lv rv' (ft cv l).1 cR cR ..) (.mem e1<| .mem l1<| .eE hm e2<| .mem e3<| .mem e4<| .cond (neT h)<| .mem e9<| .mem Qm .nil),mJ jW k9 (ai _)⟩
end
end Go.AM
namespace Go.AM
set_option maxRecDepth 1000000
open Go Go.Conc Go.Proofs
def fD (l:List V):List ae:=l.flatMap V.cells
theorem iq (l:List V):(fD l).length=l.length*4:=by
 unfold fD
 induction l with
 |nil=>rfl
 |cons a l ih=>simp only[List.flatMap_cons,List.length_append,ih,List.length_cons];show 4+_=_;omega
theorem vw:∀{l:List V}{i:Nat}{x:V},l[i]?=some x->((fD l).drop (i*4)).take 4=x.cells
 |a::l,0,x,h=>by
  simp only[List.getElem?_cons_zero,ah]at h;subst h;unfold fD;rw[List.flatMap_cons,Nat.zero_mul,List.drop_zero];exact List.take_left' rfl
 |a::l,i+1,x,h=>by
  unfold fD;have :(i+1)*4=a.cells.length+i*4:=by show _=4+_;omega
  rw[List.flatMap_cons,this,List.drop_length_add_append];exact vw (l:=l) (by simpa using h)
abbrev rK (m:Mem)(v:ae)(l:List V):Prop:=nm m v 4 l.length (fD l)
theorem rK.ld{m:Mem}{l:List V}{i b n c:Nat}{x:V}(h:rK m (vL b 0 n c) l)(hx:l[i]?=some x):fg 4 b (0+i*4) m=some (x.val,m):=by
 obtain⟨_,⟨e,_⟩|⟨b',c',e,ho,_⟩⟩:=h
 ·cases e
 ·cases e;have cA:=(List.getElem?_eq_some_iff.1 hx).1;exact bY ho (by rw[Nat.zero_add];exact vw hx) (by rw[iq];omega)
def cC:List V->List V->Int
 | [],[]=>0
 | [],_::_=> -1
 |_::_,[]=>1
 |a::l,b::r=>if mh a b≠0 then mh a b else cC l r
section
variable {K:gI}{m:Mem}
theorem Tc:lF 154 3 [6]=true:=bG
theorem GA:iW (bV 154) 2=some (0,(fT 154 [2])):=bG
theorem GF:kl (jx 154) (bV 154) (fT 154 [2]) 2 0=true:=bG
theorem afi (pa la ca pb lb cb:Nat):eS 154 0 2 [0,1,2] [vL pa 0 la ca,vL pb 0 lb cb,.func (.func 155) #[] #[]]
 []
 .normal [0,1,2,11,12,13] [vL pa 0 la ca,vL pb 0 lb cb,.func (.func 155) #[] #[],vL pa 0 la ca,vI la,vI 0]:=iD
theorem afc (i pa la ca pb lb cb:Nat):eA 154 [2] 0 99 [0,1,2,11,12,13] [vL pa 0 la ca,vL pb 0 lb cb,.func (.func 155) #[] #[],vL pa 0 la ca,vI la,vI i]
 [bu (eX i la) false]
 (.exit 0) [0,1] [vL pa 0 la ca,vL pb 0 lb cb]:=iD
theorem afg (i pa la ca pb lb cb:Nat)(x:V)(bW:Nat):eA 154 [2] 0 99 [0,1,2,11,12,13] [vL pa 0 la ca,vL pb 0 lb cb,.func (.func 155) #[] #[],vL pa 0 la ca,vI la,vI i]
 [bu (eX i la) true,
  .idx i la i,
  .mem (fg 4 pa (0+i*4)) (bQ x),
  dZ nY bW,
  jQ bW 0 (sE x),
  bu (xJ i lb) true]
 .ret [6] [vI 1]:=iD
theorem afd (i pa la ca pb lb cb:Nat)(x y:V)(c:Int)(bW dz:Nat):eA 154 [2] 0 99 [0,1,2,11,12,13] [vL pa 0 la ca,vL pb 0 lb cb,.func (.func 155) #[] #[],vL pa 0 la ca,vI la,vI i]
 [bu (eX i la) true,
  .idx i la i,
  .mem (fg 4 pa (0+i*4)) (bQ x),
  dZ nY bW,
  jQ bW 0 (sE x),
  bu (xJ i lb) false,
  .idx i lb i,
  .mem (fg 4 pb (0+i*4)) (bQ y),
  dZ nY dz,
  jQ dz 0 (sE y),
  iO 4 bW (bQ x),
  iO 4 dz (bQ y),
  .fw (.func (.func 155) #[] #[]) [bQ x,bQ y] (vI c),
  bu (sT c 0) true]
 .ret [6] [vI c]:=iD
theorem afe (i pa la ca pb lb cb:Nat)(x y:V)(c:Int)(bW dz:Nat):eA 154 [2] 0 99 [0,1,2,11,12,13] [vL pa 0 la ca,vL pb 0 lb cb,.func (.func 155) #[] #[],vL pa 0 la ca,vI la,vI i]
 [bu (eX i la) true,
  .idx i la i,
  .mem (fg 4 pa (0+i*4)) (bQ x),
  dZ nY bW,
  jQ bW 0 (sE x),
  bu (xJ i lb) false,
  .idx i lb i,
  .mem (fg 4 pb (0+i*4)) (bQ y),
  dZ nY dz,
  jQ dz 0 (sE y),
  iO 4 bW (bQ x),
  iO 4 dz (bQ y),
  .fw (.func (.func 155) #[] #[]) [bQ x,bQ y] (vI c),
  bu (sT c 0) false]
 .normal [0,1,2,11,12,13] [vL pa 0 la ca,vL pb 0 lb cb,.func (.func 155) #[] #[],vL pa 0 la ca,vI la,vI (eh i 1)]:=iD
theorem aff (pa la ca pb lb cb:Nat):eS 154 3 99 [0,1] [vL pa 0 la ca,vL pb 0 lb cb]
 [bu (eX la lb) true]
 .ret [6] [vI (-1)]:=iD
theorem afh (pa la ca pb lb cb:Nat):eS 154 3 99 [0,1] [vL pa 0 la ca,vL pb 0 lb cb]
 [bu (eX la lb) false]
 .ret [6] [vI 0]:=iD
theorem ajU (pa la ca pb lb cb:Nat)(x1:Int):Path 117 [vL pa 0 la ca,vL pb 0 lb cb]
 [.call 154 [vL pa 0 la ca,vL pb 0 lb cb,.func (.func 155) #[] #[]] (vI x1)]
 (vI x1):=fu
theorem uK:tI 154 [2]:=bG
theorem ET:(dK (bV 154)).length<=99:=af bG
theorem alO (g:Gd m){a b:List V}{pa ca pb cb:Nat}(ha:rK m (vL pa 0 a.length ca) a)(hb:rK m (vL pb 0 b.length cb) b)(hl:a.length<99999):
  ∃m',Ev K 154 [vL pa 0 a.length ca,vL pb 0 b.length cb,.func (.func 155) #[] #[]] m (vI (cC a b)) m'/\Kp m m' eQ:=by
 obtain⟨A,hA⟩:∃A,A=vL pa 0 a.length ca:=⟨_,rfl⟩;obtain⟨B,hB⟩:∃B,B=vL pb 0 b.length cb:=⟨_,rfl⟩;obtain⟨t0,h0,e0⟩:=cj (K:=K) (tm:=entry [vL pa 0 a.length ca,vL pb 0 b.length cb,.func (.func 155) #[] #[]]) (afi pa a.length ca pb b.length cb) rfl (.nil (m:=m));obtain⟨e,t1,m1,he,hx,kp,hp⟩:=qq (K:=K) (nt:=jx 154) (a:=fT 154 [2])
  (Inv:=fun n tm m'=>∃i,n=a.length-i/\i<=a.length/\i<=b.length/\dM [0,1,2,11,12,13] tm=[A,B,.func (.func 155) #[] #[],A,vI (a.length:Int),vI i]/\Kp m m' eQ/\cC a b=cC (a.drop i) (b.drop i))
  (dG:=fun e tm m'=>Kp m m' eQ/\((e= .exit 0/\dM [0,1] tm=[A,B]/\a.length<=b.length/\cC a b=cC [] (b.drop a.length))\/(e= .ret/\dM [6] tm=[vI (cC a b)])))
  (by
   rintro n tm m1 ⟨i,rfl,hi,hib,hg,k,hc⟩;have g1:=g.ext k;have Y3:=ha.aU k;have nX:=hb.aU k;rw[hA,hB]at hg
   by_cases h1:i<a.length
   ·obtain⟨x,hx⟩:∃x,a[i]?=some x:=⟨a[i],List.getElem?_eq_getElem h1⟩;have hda:a.drop i=x::a.drop (i+1):=by rw[List.drop_eq_getElem_cons h1];congr 1;exact Option.some.inj ((List.getElem?_eq_getElem h1).symm.trans hx)
    have c1:(.bool (eX i (a.length:Int)):ae)= .bool true:=by rw[eH,vc aj]
    obtain⟨m2,m3,e2,e3,o3,k3,n3⟩:=kY g1 (V.cells ⟨0,0,.empty,false⟩) x.cells rfl rfl
    by_cases h2:i<b.length
    ·obtain⟨y,hy⟩:∃y,b[i]?=some y:=⟨b[i],List.getElem?_eq_getElem h2⟩;have hdb:b.drop i=y::b.drop (i+1):=by rw[List.drop_eq_getElem_cons h2];congr 1;exact Option.some.inj ((List.getElem?_eq_getElem h2).symm.trans hy)
     have g3:=g1.ext k3;obtain⟨m4,m5,e4,e5,o5,k5,n5⟩:=kY g3 (V.cells ⟨0,0,.empty,false⟩) y.cells rfl rfl;have g5:=g3.ext k5;obtain⟨m6,e6,k6⟩:=ais (K:=K) g5 x y;have kk:=((k.aS k3).aS k5).aS k6
     by_cases h3:mh x y=0
     ·left
      have hv:sT (mh x y) 0=false:=by rw[tK,qV (by simp[h3])]
      obtain⟨t2,gm,gA⟩:=bL uK (afe i pa a.length ca pb b.length cb x y _ _ _) hg (.cond c1<| .idx rfl h1<| .mem (rK.ld Y3 hx)<| .mem e2<| .mem e3<| .cond (by rw[vR,qV aj])<| .idx rfl h2<| .mem (rK.ld (nX.aU k3) hy)<| .mem e4<| .mem e5<| .mem (bY (o3.aU k5) rfl (ai 4))<| .mem (bY o5 rfl (ai 4))<| .fw e6<| .cond (by rw[hv]) .nil);refine⟨a.length-(i+1),t2,m6,aj,gm,i+1,rfl,h1,h2,?_,kk,?_⟩
      ·rw[gA,j6 ⟨aj,aj⟩,hA,hB];rfl
      ·rw[hc,hda,hdb]
       show(if mh x y≠0 then mh x y else cC (a.drop (i+1)) (b.drop (i+1)))=_
       rw[bZ (by simp[h3])]
     ·right
      have hv:sT (mh x y) 0=true:=by rw[tK,vc h3]
      obtain⟨t2,gm,gA⟩:=bL uK (afd i pa a.length ca pb b.length cb x y _ _ _) hg (.cond c1<| .idx rfl h1<| .mem (rK.ld Y3 hx)<| .mem e2<| .mem e3<| .cond (by rw[vR,qV aj])<| .idx rfl h2<| .mem (rK.ld (nX.aU k3) hy)<| .mem e4<| .mem e5<| .mem (bY (o3.aU k5) rfl (ai 4))<| .mem (bY o5 rfl (ai 4))<| .fw e6<| .cond (by rw[hv]) .nil);refine⟨_,t2,m6,(by intro h;cases h),gm,kk,.inr ⟨rfl,?_⟩⟩;rw[gA,hc,hda,hdb]
      show _=[vI (if mh x y≠0 then mh x y else _)]
      rw[bK h3]
    ·right
     obtain⟨t2,gm,gA⟩:=bL uK (afg i pa a.length ca pb b.length cb x _) hg
      (.cond c1<| .idx rfl h1<| .mem (rK.ld Y3 hx)<| .mem e2<| .mem e3<| .cond (by rw[vR,vc aj]) .nil)
     refine⟨_,t2,m3,(by intro h;cases h),gm,k.aS k3,.inr ⟨rfl,?_⟩⟩;rw[gA,hc,hda,show b.drop i=[]from List.drop_of_length_le aj];rfl
   ·right
    obtain⟨t2,gm,gA⟩:=bL uK (afc i pa a.length ca pb b.length cb) hg (.cond (by rw[eH,qV aj]) .nil);refine⟨_,t2,m1,(by intro h;cases h),gm,k,.inl ⟨rfl,by rw[gA,hA,hB],aj,?_⟩⟩;have :i=a.length:=aj;rw[hc,this,List.drop_length])
  (n:=a.length) (k:=100000) (tm:=t0) (m:=m) ⟨0,aj,aj,aj,by rw[e0,hA,hB];rfl,Kp.refl _ _,rfl⟩ aj
 refine⟨m1,?_,kp⟩;rcases hp with⟨rfl,hg,hle,hc⟩|⟨rfl,hg⟩
 ·rw[hA,hB]at hg
  by_cases h1:a.length<b.length
  ·obtain⟨t2,h2,e2⟩:=cj (aff pa a.length ca pb b.length cb) hg (.cond (K:=K) (by rw[eH,vc aj]) (.nil (m:=m1)));have hr:cC a b= -1:=by rw[hc,List.drop_eq_getElem_cons h1];rfl
   rw[hr];exact fW Tc (aQ.cut h0 (aQ.xp GA GF hx rfl (aQ.last h2 ET))) (.inr rfl) e2
  ·obtain⟨t2,h2,e2⟩:=cj (afh pa a.length ca pb b.length cb) hg (.cond (K:=K) (by rw[eH,qV aj]) (.nil (m:=m1)));have hr:cC a b=0:=by rw[hc,List.drop_of_length_le aj];rfl
   rw[hr];exact fW Tc (aQ.cut h0 (aQ.xp GA GF hx rfl (aQ.last h2 ET))) (.inr rfl) e2
 ·exact fW Tc (aQ.cut h0 (aQ.ES GA GF hx bG)) (.inr rfl) hg
theorem alT (g:Gd m){a b:List V}{pa ca pb cb:Nat}(ha:rK m (vL pa 0 a.length ca) a)(hb:rK m (vL pb 0 b.length cb) b)(hl:a.length<99999):
  ∃m',Ev K 117 [vL pa 0 a.length ca,vL pb 0 b.length cb] m (vI (cC a b)) m'/\Kp m m' eQ:=by
 obtain⟨m1,e1,k1⟩:=alO (K:=K) g ha hb hl;exact⟨m1,aJ (ajU ..) (.call e1 .nil),k1⟩
end
end Go.AM
namespace Go.AM
set_option maxRecDepth 1000000
open Go Go.Conc Go.Proofs
section
variable {K:gI}{c:Nat}{M1 M2:ae}{B:Nat->Prop}
theorem ah9 {m m0:Mem}{S:Nat->Prop}{v:ae}{b s:Nat}(g:Gd m0)(k:Kp m0 m S)(hb:m0.next<=b)(hv:mZ v=some b)(hs:(m.blk b).a9=s):cW (vI s) v (pH v) m=some (undef,m):=adH hv (by rw[k.floor];have :=g.fn;omega) hs
end
end Go.AM
namespace Go.AM
set_option maxRecDepth 1000000
open Go Go.Conc Go.Proofs
def A9 {α:Type}(E:nB α)(sz:Nat)(B:Nat->Prop)(m:Mem)(acc:List α)(sv:ae):Prop:=
 (acc=[]/\sv= .slice none 0 0)\/∃b cs c,sv=vL b 0 acc.length c/\(c=fp\/c=acc.length)/\0<acc.length/\B b/\Obj m b sz cs/\cp (fun x u=>E.R (fun y=>B y/\y≠b) x m u/\okV sz u) acc cs
section
variable {α:Type}{E:nB α}{sz t:Nat}{m0 m m1:Mem}{acc:List α}{sv v:ae}{S B B':Nat->Prop}{x:α}
theorem A9.ext(h:A9 E sz B m acc sv)(k:Kp m m1 S)(hS:∀b,B b->¬S b):A9 E sz B m1 acc sv:=by
 rcases h with h|⟨b,cs,c,e,hc,hp,hb,ob,ik⟩
 ·exact .inl h
 ·exact .inr ⟨b,cs,c,e,hc,hp,hb,ob.ext k (hS b hb),ik.mono fun x u _ w=>⟨E.ext w.1 k fun y hy=>hS y hy.1,w.2⟩⟩
theorem A9.aU(h:A9 E sz B m acc sv)(k:Kp m m1 eQ):A9 E sz B m1 acc sv:=h.ext k fun _ _ h=>h
theorem A9.fin(h:A9 E sz B m acc sv):(aW E sz).R B acc m sv:=by
 rcases h with⟨rfl,rfl⟩|⟨b,cs,c,rfl,hc,hp,hb,ob,ik⟩
 ·exact aW.nil
 ·exact⟨cs,ob.sl ik.one.1 hc,fun b' o' n' c' e=>(by cases e;exact hb),ik.mono fun x u _ w=>⟨E.mono w.1 fun y hy=>hy.1,w.2⟩⟩
theorem A9.nil:A9 E sz B m [] (.slice none 0 0):= .inl ⟨rfl,rfl⟩
theorem A9.add(h:A9 E sz B m acc sv)(g:Gd m)(g0:Gd m0)(h0:Kp m0 m S)(ht:sZ.contains (t,sz)=true)(hs6:sz<=6)(hB0:∀b,B b->m0.next<=b/\b<m.next)(q:E.R B' x m v)(hd:∀b,B b->¬B' b)(Js:∀b,B' b->b<m.next)(ov:okV sz v)(hl:acc.length<2^30):
  ∃m2 m3 s',bI ab t 1 [(0,v)] m=some (vL m.next 0 1 1,m2)/\Gd m2/\Kp m m2 eQ/\cJ ab #[t,t] sv (vL m.next 0 1 1) m2=some (s',m3)/\Kp m m3 B/\A9 E sz (fun y=>B y\/B' y\/y=m.next+1) m3 (acc++[x]) s'/\mH s'=true/\m3.next=m.next+2:=by
 obtain⟨o2,k2,n2⟩:=gB g (k:={kind:=1,sz:=sz,cs:=v.cells.toList.map some}) (cs:=v.cells.toList) rfl rfl rfl;obtain⟨m2,yn⟩:∃m2,m2=m.alloc {kind:=1,sz:=sz,cs:=v.cells.toList.map some}:=⟨_,rfl⟩;have e2:=bs1 (m:=m) ht ov.1 hs6;rw[<-yn]at e2 o2 k2 n2;have g2:=g.ext k2;have ym:nm m2 (vL m.next 0 1 1) sz 1 v.cells.toList:=o2.sl (by simp[ov.1]) (.inr rfl);have q2:=E.ext q k2 fun _ _ h=>h
 rcases h with⟨rfl,rfl⟩|⟨b,cs,c,rfl,hc,hp,hb,ob,ik⟩
 ·obtain⟨m3,e3,o3,k3,n3⟩:=OX g2 ht ym ov.2 gC gC;refine⟨m2,m3,_,e2,g2,k2,e3,(k2.aS k3).vF,?_,rfl,aj⟩;refine .inr ⟨m2.next,_,fp,rfl,.inl rfl,cY,.inr (.inr aj),o3,⟨v,[],cY,⟨E.mono (E.ext q2 k3 fun _ _ h=>h) fun y hy=>⟨.inr (.inl hy),by have :=Js y hy;omega⟩,ov⟩,rfl⟩⟩
 ·have nX:=(hB0 b hb).1;have mr:=(hB0 b hb).2;have ob2:=ob.aU k2;have G3:∃m3,cJ ab #[t,t] (vL b 0 acc.length c) (vL m.next 0 1 1) m2=some (vL m2.next 0 (acc.length+1) fp,m3)/\Obj m3 m2.next sz (cs++v.cells.toList)/\Kp m2 m3 (fun y=>y=b)/\m3.next=m2.next+1:=by
   rcases hc with rfl|rfl
   ·exact ZH (rest:=[]) g2 ht (by simpa using ob2) ik.one.1 (g0.own (h0.aS k2) nX) ym ov.2 aj
   ·obtain⟨m3,x1,x2,x3,x4⟩:=J' g2 ht ob2 ik.one.1 gC ym ov.2 aj;exact⟨m3,x1,x2,x3.vF,x4⟩
  obtain⟨m3,e3,o3,k3,n3⟩:=G3;refine⟨m2,m3,_,e2,g2,k2,e3,(k2.vF.trans (k3.mono fun y _ h=>by rw[h];exact hb) fun _ _ h=>h),?_,rfl,aj⟩;have U':Kp m m3 (fun y=>y=b):=k2.vF.trans k3 fun _ _ h=>h
  refine .inr ⟨m2.next,_,fp,cY,.inl rfl,cY,.inr (.inr aj),o3,cp.snoc ⟨E.mono (E.ext q U' fun y hy e=>hd b hb (e▸hy)) fun y hy=>⟨.inr (.inl hy),by have :=Js y hy;omega⟩,ov⟩
   (ik.mono fun x u _ w=>⟨E.mono (E.ext w.1 U' fun y hy e=>hy.2 e) fun y hy=>⟨.inl hy.1,by have :=hB0 y hy.1;omega⟩,w.2⟩)⟩
end
def iJ:nB (Option X) where
 R B x m v:=match x with |none=>v= .nilIface|some x=>XR B x m v
 mono:=by
  rintro B B' x m v h k;cases x with
  |none=>exact h
  |some x=>exact XR.mono k h
 ext:=by
  rintro B S x m m' v h k hs;cases x with
  |none=>exact h
  |some x=>exact XR.ext k hs h
end Go.AM
namespace Go.AM
set_option maxRecDepth 1000000
open Go Go.Conc Go.Proofs
theorem Ie:∀(vs c a d:List ae),c.length=vs.length->q8 (a++(c++d)) a.length vs=a++(vs++d)
 | [],[],a,d,_=>rfl
 | [],x::c,a,d,h=>by simp at h
 |v::vs,[],a,d,h=>by simp at h
 |v::vs,x::c,a,d,h=>by
  unfold q8;have e:(a++(x::c++d)).set a.length v=(a++[v])++(c++d):=cY;rw[e,show a.length+1=(a++[v]).length by simp,Ie vs c (a++[v]) d (by simpa using h)];simp
theorem rQ (a b:List V):fD (a++b)=fD a++fD b:=by unfold fD;simp
theorem zz (x:V)(b:List V):fD (x::b)=x.cells++fD b:=by unfold fD;simp
theorem ai0 {a b:List V}(x u:V):q8 (fD (a++x::b)) (a.length*4) u.cells=fD (a++[u]++b):=by
 rw[rQ,zz,<-iq a,Ie u.cells x.cells (fD a) (fD b) rfl,rQ,rQ,zz];simp[fD]
theorem ZT:ab.underlying 47=some (.slice 49):=bG
theorem aaW:gO ab 49=some cR.val:=bG
noncomputable def N5:Bool:=match ab.info? 49 with |some i=>Nat.beq i.size 4&&Nat.ble i.bytes 1000|none=>false
theorem acJ:∃i,ab.info? 49=some i/\i.size=4/\i.bytes<=1000:=by
 have h:N5=true:=bG;unfold N5 at h
 split at h
 ·rename_i i hi;rw[ag]at h;exact⟨i,hi,az h.1,af h.2⟩
 ·cases h
theorem aiQ (n:Nat):((Array.range (n*4)).map (cR.val.cells[·%cR.val.cells.size]!)).toList=fD (List.replicate n cR):=by
 rw[Array.toList_map,Array.toList_range]
 induction n with
 |zero=>rfl
 |succ n ih=>
  rw[show(n+1)*4=n*4+4 by omega,List.range_add,List.map_append,ih,List.replicate_succ',rQ]
  congr 1
  have h:cR.val.cells.size=4:=rfl;have e0:(n*4+0)%4=0:=aj;have e1:(n*4+1)%4=1:=aj;have e2:(n*4+2)%4=2:=aj;have e3:(n*4+3)%4=3:=aj
  show[cR.val.cells[(n*4+0)%cR.val.cells.size]!,cR.val.cells[(n*4+1)%cR.val.cells.size]!,cR.val.cells[(n*4+2)%cR.val.cells.size]!,cR.val.cells[(n*4+3)%cR.val.cells.size]!]=_
  rw[h,e0,e1,e2,e3];rfl
theorem aj6 {m:Mem}{n:Nat}(hn:n<2^30):fV ab 47 (vI n) (vI n) m=some (vL m.next 0 n n,m.alloc {kind:=1,sz:=4,cs:=(fD (List.replicate n cR)).map some}):=by
 obtain⟨i,h1,h2,h3⟩:=acJ;unfold fV;simp only[ZT,h1,aaW];have hm:(n:Int)*(i.bytes:Int)<=(n:Int)*1000:=Int.mul_le_mul_of_nonneg_left aj aj;rw[bK ⟨aj,aj,aj,aj⟩];have e:((n:Int).toNat)=n:=aj;rw[e,h2,aiQ]
def bS:nB (List V) where
 R B x m v:=∃b c,v=vL b 0 x.length c/\B b/\Obj m b 4 (fD x)/\(c=fp\/c=x.length)
 mono:=by
  rintro B B' x m v ⟨b,c,e,hb,o,h⟩ k;exact⟨b,c,e,k b hb,o,h⟩
 ext:=by
  rintro B S x m m' v ⟨b,c,e,hb,o,h⟩ k hs;exact⟨b,c,e,hb,o.ext k (hs b hb),h⟩
theorem bS.ok{B:Nat->Prop}{x:List V}{m:Mem}{v:ae}(h:bS.R B x m v):okV 1 v:=by
 obtain⟨b,c,rfl,_⟩:=h;exact⟨rfl,by simp[ae.cells,ae.oneCell']⟩
def sU (cv:Nat->Int->Int->V):List X->List V->List V×Int
 | [],acc=>(acc,0)
 |x::l,acc=>if(ft cv x).2≠0 then([],(ft cv x).2)else sU cv l (acc++[(ft cv x).1])
structure Scope (K:gI)(R:Mem->Prop)(cv:Nat->Int->Int->V)(rv:ae):Prop where
 keep:∀m m',R m->Kp m m' eQ->R m'
 pU:∀p i j m b,iw (cv p i j)->Gd m->R m->Obj m b 0 [vP p 0,vI i,vI j]->∃m',Ev K 351 [vP b 0,rv] m (.tuple #[(cv p i j).val,vI 0]) m'/\Kp m m' eQ
def okX (cv:Nat->Int->Int->V)(x:X):Prop:=x.all iw (fun p i j=>iw (cv p i j))
section
variable {K:gI}{B:Nat->Prop}{m m0:Mem}
theorem afF (n cc:Nat)(a:Option Addr)(sv rv:ae)(bW:Nat):eS 111 0 3 [0,1,2] [sv,.slice a n cc,rv]
 [.mem (fV ab 47 (vI n) (vI n)) (vL bW 0 n n)]
 .normal [0,2,8,16,17,18] [sv,rv,vL bW 0 n n,.slice a n cc,vI n,vI 0]:=iD
theorem afC (q n cc i:Nat)(a:Option Addr)(sv rv:ae):eA 111 [3] 0 99 [0,2,8,16,17,18] [sv,rv,vL q 0 n n,.slice a n cc,vI n,vI i]
 [bu (eX i n) false]
 (.exit 0) [0,8] [sv,vL q 0 n n]:=iD
theorem afE (p q n cc i:Nat)(sv rv xv:ae)(u:V)(z:Int)(bW:Nat):eA 111 [3] 0 99 [0,2,8,16,17,18] [sv,rv,vL q 0 n n,vL p 0 n cc,vI n,vI i]
 [bu (eX i n) true,
  .idx i n i,
  .mem (aT p (0+i*1)) xv,
  .eE (dN ab xv "Of") [rv] (.tuple #[bQ u,vI z]),
  dZ nY bW,
  jQ bW 0 (sE u),
  bu (sT z 0) true]
 .ret [6,7] [kB,vI z]:=iD
theorem afD (p q n cc i:Nat)(sv rv xv:ae)(u:V)(bW:Nat):eA 111 [3] 0 99 [0,2,8,16,17,18] [sv,rv,vL q 0 n n,vL p 0 n cc,vI n,vI i]
 [bu (eX i n) true,
  .idx i n i,
  .mem (aT p (0+i*1)) xv,
  .eE (dN ab xv "Of") [rv] (.tuple #[bQ u,vI 0]),
  dZ nY bW,
  jQ bW 0 (sE u),
  dH,
  iO 4 bW (bQ u),
  .idx i n i,
  jQ q (0+i*4) (sE u)]
 .normal [0,2,8,16,17,18] [sv,rv,vL q 0 n n,vL p 0 n cc,vI n,vI (eh i 1)]:=iD
theorem afB (q n:Nat)(sv Nb:ae)(bW:Nat):eS 111 4 99 [0,8] [sv,vL q 0 n n]
 [.mem (bI ab 29 1 [(0,(vL q 0 n n))]) (vL bW 0 1 1),
  .mem (cJ ab #[29,29] sv (vL bW 0 1 1)) Nb]
 .ret [6,7] [Nb,vI 0]:=iD
theorem agL:lF 111 3 [6,7]=true:=bG
theorem PS:(dK (bV 111)).length<=99:=af bG
theorem Gm:tI 111 [3]:=bG
end
end Go.AM
