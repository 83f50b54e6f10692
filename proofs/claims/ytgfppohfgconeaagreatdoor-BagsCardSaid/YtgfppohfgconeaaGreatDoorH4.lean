/-
  What the claim stands on, part 4.
-/
import Derived.Test.YtgfppohfgconeaaGreatDoorH3
import Derived.Conc.CrowdBase
import Derived.Conc.Beside
set_option linter.unusedVariables false
set_option linter.unusedSimpArgs false
open Go renaming Value → ae, Goroutine → ak, World → ao, Program → aC
open Bool renaming and_eq_true → ag, false_eq_true → cF
open Option.some renaming injEq → ah
open Nat renaming le_refl → aj, eq_of_beq_eq_true → ay, lt_of_lt_of_le → aW
open Prod.mk renaming injEq → au
open Option renaming map_eq_some_iff → az, map_some → cU
open List renaming all_eq_true → aB, mem_cons → aL
namespace Go.AM
open Go Go.Conc
theorem WA {e:Exit}(he:e≠ .normal){x:Code}{k todo:List Item}(h:Out e (.code x::k) todo):Out e k todo:=by
 cases e with
 |normal=>exact absurd rfl he
 |ret=>exact h
 |exit id=>exact h
 |goto l=>exact h
 |_=>exact h.elim
section
variable {P:aC}{X:Ext}{main:Bool}{J:JT}{F:Mem->Mem->Prop}{nt:Nat}{call:cE}
theorem DU {b:Frame}{a:Act}{k:List Item}{cs:List Frame}{w:ao}{c:Code}:stepG P main (G (b.at a (.inScope c::k)) cs) w= .go (G (b.at a k) cs) w:=by simp[G,stepG,stepG.exec,Frame.at]
theorem Ih {b:Frame}{a:Act}{k:List Item}{cs:List Frame}{w:ao}{c:Code}:stepG P main (G (b.at a (.code (.scope c)::k)) cs) w= .go (G (b.at a (.code c:: .inScope c::k)) cs) w:=by simp[G,stepG,stepG.exec,Frame.at]
theorem Lc {b:Frame}{a:Act}{k k':List Item}{cs:List Frame}{w:ao}{l:Nat}(h:gotoIn l k=some k'):stepG P main (G (b.at a (.code (.goto l)::k)) cs) w= .go (G (b.at a k') cs) w:=by simp[G,stepG,stepG.exec,Frame.at,h]
def HR (P:aC)(J:JT)(F:Mem->Mem->Prop)(nt:Nat)(call:cE)(c:Code)(f:Go.AM.F):Prop:=
 ∀{st jL:Ss}{e:Exit},f call st=some (e,jL)->Wf st.mem->F st.mem jL.mem/\∃n,∀k,eN P J nt st jL (.code c::k) (Out e k) n
theorem E2 (hJ:∀σ,fY P main (J σ))(hF:wX F){body:Code}{fb:Go.AM.F}(hb:HR P J F nt call body fb):∀(N:Nat) {st jL:Ss}{e:Exit},xN fb call N st=some (e,jL)->Wf st.mem->
  F st.mem jL.mem/\∃n,∀k,eN P J nt st jL (.code body:: .inLoop body::k) (Out e k) n
 |0,st,jL,e,h,_=>by cases h
 |N+1,st,jL,e,h,hw=>by
  unfold xN at h
  split at h
  ·rename_i iq h1;obtain⟨g1,n,g2⟩:=hb h1 hw;obtain⟨g3,m,g4⟩:=E2 hJ hF hb N h ((hF.mv g1).wf hw);refine⟨hF.trans g1 g3,(m+1)+n,fun k=>eN.trans (g2 _) (hF.mv g1) fun A hA=>?_⟩;have hA':A= .inLoop body::k:=hA;subst hA';exact eN.trans (eN.move hJ stepG_inLoop) (Mv.refl _) fun A hA=>by subst hA;exact g4 k
  ·rename_i r dQ;obtain⟨g1,n,g2⟩:=hb h hw;refine⟨g1,n,fun k=>(g2 (.inLoop body::k)).weaken fun A hA=>?_⟩;cases e with
   |normal=>exact absurd h (dQ jL)
   |ret=>exact hA
   |exit id=>exact hA
   |goto l=>exact hA
   |_=>exact hA.elim
theorem BN (hJ:∀σ,fY P main (J σ))(hF:wX F){body:Code}{has:Nat->Bool}{R8:Nat->Option Go.AM.F}(gS:∀l c f,findLabel body l=some c->R8 l=some f->HR P J F nt call c f)(acn:∀l,has l=(findLabel body l).isSome):
  ∀(N:Nat) {c:Code}{fb:Go.AM.F},HR P J F nt call c fb->∀{st jL:Ss}{e:Exit},yN has R8 call N fb st=some (e,jL)->Wf st.mem->
   F st.mem jL.mem/\∃n,∀k,eN P J nt st jL (.code c:: .inScope body::k) (Out e k) n
 |0,c,fb,_,st,jL,e,h,_=>by cases h
 |N+1,c,fb,hc,st,jL,e,h,hw=>by
  unfold yN at h
  split at h
  ·rename_i l iq h1;obtain⟨g1,n,g2⟩:=hc h1 hw;cases OH:findLabel body l with
   |some c2=>
    rw[acn,OH]at h;simp only[Option.isSome_some,if_true]at h
    split at h
    ·rename_i f2 Mp;obtain⟨g3,m,g4⟩:=BN hJ hF gS acn N (gS l c2 f2 OH Mp) h ((hF.mv g1).wf hw);refine⟨hF.trans g1 g3,(m+1)+n,fun k=>eN.trans (g2 _) (hF.mv g1) fun A hA=>?_⟩;obtain⟨k',rfl,hg⟩:=hA;have Mo:gotoIn l k'=some (.code c2:: .inScope body::k):=by
      rw[hg]
      show gotoIn l (.inScope body::k)=_
      simp only[gotoIn,OH]
     exact eN.trans (eN.move hJ (Lc Mo)) (Mv.refl _) fun A hA=>by subst hA;exact g4 k
    ·cases h
   |none=>
    rw[acn,OH]at h;simp only[Option.isSome_none,cF,if_false,ah,au]at h;obtain⟨rfl,rfl⟩:=h;refine⟨g1,n,fun k=>(g2 _).weaken fun A hA=>?_⟩;obtain⟨k',rfl,hg⟩:=hA;refine⟨k',rfl,?_⟩;rw[hg];simp only[gotoIn,OH]
  ·rename_i r dQ;obtain⟨g1,n,g2⟩:=hc h hw;cases e with
   |normal=>
    refine⟨g1,1+n,fun k=>eN.trans (g2 _) (hF.mv g1) fun A hA=>?_⟩;have hA':A= .inScope body::k:=hA;subst hA';exact eN.move hJ DU
   |ret=>exact⟨g1,n,fun k=>(g2 _).weaken fun A hA=>hA⟩
   |exit id=>exact⟨g1,n,fun k=>(g2 _).weaken fun A hA=>hA⟩
   |goto l=>exact absurd h (dQ l jL)
   |_=>exact⟨g1,n,fun k=>(g2 _).weaken fun A hA=>hA.elim⟩
theorem FA (hJ:∀σ,fY P main (J σ))(hX:qd P X)(hF:wX F)(C:fT P X main J F call)(qy:nt<=512):∀(n:Nat) (c:Code) (f:Go.AM.F),comp P nt n c=some f->HR P J F nt call c f:=by
 intro n
 induction n with
 |zero=>intro c f h;unfold comp at h;cases h
 |succ n ih=>
  intro c f h st jL e hf hw;cases c with
  |skip=>
   unfold comp at h;cases h;unfold xz at hf;simp only[ah,au]at hf;obtain⟨rfl,rfl⟩:=hf;exact⟨hF.refl _,1,fun k=>eN.move hJ stepG_skip⟩
  |label l=>
   unfold comp at h;cases h;unfold xz at hf;simp only[ah,au]at hf;obtain⟨rfl,rfl⟩:=hf;exact⟨hF.refl _,1,fun k=>eN.move hJ stepG_label⟩
  |seq a b=>
   unfold comp at h;simp only[]at h
   split at h
   ·rename_i fa ha
    split at h
    ·rename_i fb hb;cases h;unfold oE at hf
     split at hf
     ·rename_i iq h1;obtain⟨g1,n1,g2⟩:=ih a fa ha h1 hw;obtain⟨g3,n2,g4⟩:=ih b fb hb hf ((hF.mv g1).wf hw);refine⟨hF.trans g1 g3,(n2+n1)+1,fun k=>eN.trans (eN.move hJ stepG_seq) (Mv.refl _) fun A hA=>?_⟩;subst hA;exact eN.trans (g2 _) (hF.mv g1) fun A hA=>by
       have hA':A= .code b::k:=hA;subst hA';exact g4 k
     ·rename_i dQ;obtain⟨g1,n1,g2⟩:=ih a fa ha hf hw;refine⟨g1,n1+1,fun k=>eN.trans (eN.move hJ stepG_seq) (Mv.refl _) fun A hA=>?_⟩;subst hA;exact(g2 _).weaken fun A hA=>WA (fun he=>dQ jL (by rw[hf,he])) hA
    ·cases h
   ·cases h
  |cond x a b=>
   unfold comp at h;simp only[]at h
   split at h
   ·rename_i hgx
    split at h
    ·rename_i fa ha
     split at h
     ·rename_i fb hb;have hcf:=aH h;cases hcf;unfold OV at hf;have vK:∀(t:Bool),dz st.tm x= .bool t->∀k,eN P J nt st st (.code (.cond x a b)::k) (·= .code (if t then a else b)::k) 1:=by
       intro t ht k;refine⟨fun{E bl σ ρ w bb aa cs n} hk H haa Ox=>?_⟩;have hv:=JO haa.tm H hgx;rw[ht]at hv;have dV:aa.eval x= .bool t:=(aF rfl).1 hv;refine mL (hJ σ) rfl (fun w=>stepG_cond dV) fun aN jJ=>?_
       exact Ox σ ρ aN aa _ rfl (dw.le_refl _) (.of fun _ _=>rfl) (H.keeps jJ) haa
      split at hf
      ·rename_i ht;obtain⟨g1,n1,g2⟩:=ih a fa ha hf hw;exact⟨g1,n1+1,fun k=>eN.trans (vK true ht k) (Mv.refl _) fun A hA=>by subst hA;exact g2 k⟩
      ·rename_i ht;obtain⟨g1,n1,g2⟩:=ih b fb hb hf hw;exact⟨g1,n1+1,fun k=>eN.trans (vK false ht k) (Mv.refl _) fun A hA=>by subst hA;exact g2 k⟩
      ·cases hf
     ·cases h
    ·cases h
   ·cases h
  |block id b=>
   unfold comp at h;simp only[]at h
   split at h
   ·rename_i fb hb;cases h;unfold HA at hf
    split at hf
    ·rename_i j iq h1;obtain⟨g1,n1,g2⟩:=ih b fb hb h1 hw
     split at hf
     ·rename_i hj;simp only[ah,au]at hf;obtain⟨rfl,rfl⟩:=hf;have qO:=ay hj;subst qO;refine⟨g1,(1+n1)+1,fun k=>eN.trans (eN.move hJ stepG_block) (Mv.refl _) fun A hA=>?_⟩;subst hA;refine eN.trans (g2 _) (hF.mv g1) fun A hA=>?_
      obtain⟨k',rfl,he⟩:=hA;have G7:exitTo j k'=some k:=by rw[he];simp[exitTo]
      exact eN.move hJ (stepG_exit G7)
     ·rename_i hj;simp only[ah,au]at hf;obtain⟨rfl,rfl⟩:=hf;refine⟨g1,n1+1,fun k=>eN.trans (eN.move hJ stepG_block) (Mv.refl _) fun A hA=>?_⟩;subst hA;refine(g2 _).weaken fun A hA=>?_
      obtain⟨k',rfl,he⟩:=hA;refine⟨k',rfl,?_⟩;rw[he];have dQ:(id==j)=false:=by
       rw[Kk]at hj;simp only[iB]at hj;simpa using fun h=>hj h.symm
      simp only[exitTo,dQ,cF,if_false]
    ·rename_i dQ;obtain⟨g1,n1,g2⟩:=ih b fb hb hf hw;cases e with
     |normal=>
      refine⟨g1,(1+n1)+1,fun k=>eN.trans (eN.move hJ stepG_block) (Mv.refl _) fun A hA=>?_⟩;subst hA;refine eN.trans (g2 _) (hF.mv g1) fun A hA=>?_
      have hA':A= .inBlock id::k:=hA;subst hA';exact eN.move hJ stepG_inBlock
     |exit j=>exact absurd hf (dQ j jL)
     |ret=>exact⟨g1,n1+1,fun k=>eN.trans (eN.move hJ stepG_block) (Mv.refl _) fun A hA=>by subst hA;exact(g2 _).weaken fun A hA=>hA⟩
     |goto l=>exact⟨g1,n1+1,fun k=>eN.trans (eN.move hJ stepG_block) (Mv.refl _) fun A hA=>by subst hA;exact(g2 _).weaken fun A hA=>hA⟩
     |_=>exact⟨g1,n1+1,fun k=>eN.trans (eN.move hJ stepG_block) (Mv.refl _) fun A hA=>by subst hA;exact(g2 _).weaken fun A hA=>hA.elim⟩
   ·cases h
  |loop b=>
   unfold comp at h;simp only[]at h
   split at h
   ·rename_i fb hb;cases h;unfold Y' at hf;obtain⟨g1,n1,g2⟩:=E2 hJ hF (ih b fb hb) _ hf hw;exact⟨g1,n1+1,fun k=>eN.trans (eN.move hJ stepG_loop) (Mv.refl _) fun A hA=>by subst hA;exact g2 k⟩
   ·cases h
  |exit id=>
   unfold comp at h;cases h;unfold Fs at hf;simp only[ah,au]at hf;obtain⟨rfl,rfl⟩:=hf;exact⟨hF.refl _,0,fun k=>eN.here ⟨k,rfl,rfl⟩⟩
  |ret=>
   unfold comp at h;cases h;unfold Fs at hf;simp only[ah,au]at hf;obtain⟨rfl,rfl⟩:=hf;exact⟨hF.refl _,0,fun k=>eN.here ⟨k,rfl⟩⟩
  |goto l=>
   unfold comp at h;cases h;unfold Fs at hf;simp only[ah,au]at hf;obtain⟨rfl,rfl⟩:=hf;exact⟨hF.refl _,0,fun k=>eN.here ⟨k,rfl,rfl⟩⟩
  |scope b=>
   unfold comp at h;simp only[]at h
   split at h
   ·rename_i fb hb;cases h;obtain⟨g1,n1,g2⟩:=BN hJ hF (body:=b) (has:=fun l=>(findLabel b l).isSome) (R8:=fun l=>(findLabel b l).bind (comp P nt n)) (fun l c2 f2 OH Mp=>ih c2 f2 (by rw[OH]at Mp;exact Mp)) (fun l=>rfl) _ (ih b fb hb) hf hw;exact⟨g1,n1+1,fun k=>eN.trans (eN.move hJ Ih) (Mv.refl _) fun A hA=>by subst hA;exact g2 k⟩
   ·cases h
  |region id ops draw=>
   obtain⟨rfl,g1,c,g2⟩:=IF hJ hX hF C qy h hf hw;exact⟨g1,c,fun k=>(g2 k).weaken fun A hA=>hA⟩
  |_=>unfold comp at h;cases h
end
end Go.AM
namespace Go.AM
open Go Go.Conc
theorem nF (l:List ae):KG l=l.getD 0 undef:=by cases l<;>rfl
theorem dd (l:List ae)(i:Nat):(j5 l).getD i undef=l.getD (i+1) undef:=by cases l<;>simp[j5]
theorem By (l:List ae)(i:Nat):(QZ l).getD i undef=l.getD (i+8) undef:=by
 unfold QZ;simp only[dd]
theorem Iz (l:List ae){i:Nat}(hi:i<8):(Gj l).get i=l.getD i undef:=by
 match i,hi with
 |0,_=>exact nF l
 |1,_=>show KG (j5 l)=_;rw[nF,dd]
 |2,_=>show KG (j5 (j5 l))=_;rw[nF,dd,dd]
 |3,_=>show KG (j5 (j5 (j5 l)))=_;rw[nF,dd,dd,dd]
 |4,_=>show KG (j5 (j5 (j5 (j5 l))))=_;rw[nF,dd,dd,dd,dd]
 |5,_=>show KG (j5 (j5 (j5 (j5 (j5 l)))))=_;rw[nF,dd,dd,dd,dd,dd]
 |6,_=>show KG (j5 (j5 (j5 (j5 (j5 (j5 l))))))=_;rw[nF,dd,dd,dd,dd,dd,dd]
 |7,_=>show KG (j5 (j5 (j5 (j5 (j5 (j5 (j5 l)))))))=_;rw[nF,dd,dd,dd,dd,dd,dd,dd]
theorem RG {l:List ae}{tm:Tm}(h:DS l=some tm){t:Nat}(ht:t<512):dj t tm=l.getD t undef:=by
 have hlen:∀i,l.getD (i+16) undef=undef:=fun i=>by
  rw[show i+16=(i+8)+8 by omega,<-By,<-By];unfold DS at h
  split at h
  ·rename_i e;rw[e];rfl
  ·cases h
 unfold DS at h
 split at h
 ·simp only[ah]at h;subst h;have d (x k:Nat):rP x k=x / k%8:=rfl;have e8:Nat.mod t 8=t%8:=rfl;have Zs:∀i,pU.get i=undef:=fun i=>N8.Hc _ _
  have ab1:∀i,jZ.get i=pU:=fun i=>N8.Hc _ _
  unfold dj
  by_cases h1:t<64
  ·rw[show rP t 64=0 by rw[d];omega]
   show((⟨Gj l,Gj (QZ l),pU,pU,pU,pU,pU,pU⟩:N8 (N8 ae)).get (rP t 8)).get (Nat.mod t 8)=_
   by_cases h2:t<8
   ·rw[show rP t 8=0 by rw[d];omega]
    show(Gj l).get (Nat.mod t 8)=_
    rw[Iz _ ai,e8,Nat.mod_eq_of_lt h2]
   ·by_cases h3:t<16
    ·rw[show rP t 8=1 by rw[d];omega]
     show(Gj (QZ l)).get (Nat.mod t 8)=_
     rw[Iz _ ai,By,e8]
     congr 1
     omega
    ·have hu:=hlen (t-16);rw[show t-16+16=t by omega]at hu;rw[hu];have :∀i,2<=i->i<8->(⟨Gj l,Gj (QZ l),pU,pU,pU,pU,pU,pU⟩:N8 (N8 ae)).get i=pU:=fun i h1 h2=>by
      match i,h1,h2 with
      |2,_,_|3,_,_|4,_,_|5,_,_|6,_,_|7,_,_=>rfl
     rw[this _ (by rw[d];omega) (by rw[d];omega)];exact Zs _
  ·have hu:=hlen (t-16);rw[show t-16+16=t by omega]at hu;rw[hu];have :∀(x:N8 (N8 ae)) i,1<=i->i<8->(⟨x,jZ,jZ,jZ,jZ,jZ,jZ,jZ⟩:Tm).get i=jZ:=fun x i h1 h2=>by
    match i,h1,h2 with
    |1,_,_|2,_,_|3,_,_|4,_,_|5,_,_|6,_,_|7,_,_=>rfl
   rw[this _ _ (by rw[d];omega) (by rw[d];omega),ab1];exact Zs _
 ·cases h
section
variable {P:aC}{X:Ext}{main:Bool}{J:JT}{F:Mem->Mem->Prop}{nt:Nat}{call:cE}{E:Perm}{bl:ao}{σ:nz}{ρ:dw}{m m':Mem}{w:ao}
theorem Fu {args:List ae}{bJ:Array ae}{tm:Tm}(h:DS args=some tm)(hr:bH (aQ ρ) args bJ.toList)(hl:args.length<=nt)(qy:nt<=512):tq nt ρ tm [] {tmps:=bJ++Array.replicate (nt-bJ.size) undef,defers:=[]}:=by
 have hlen:bJ.size=args.length:=by have :=hr.length;simpa using this.symm
 refine⟨by simp;omega,fun t ht=>?_,trivial⟩;rw[RG h ai];have e:(bJ++Array.replicate (nt-bJ.size) undef).getD t undef=bJ.toList.getD t undef:=by
  rw[Array.getD_eq_getD_getElem?,List.getD_eq_getElem?_getD,Array.getElem?_append]
  split
  ·simp
  ·rename_i h1;have h2:bJ.toList[t]?=none:=List.getElem?_eq_none (by simpa using h1);rw[h2,Array.getElem?_replicate]
   split<;>rfl
 rw[e];exact hr.getD mE t
theorem tH (hs:fL ρ m w){N:Nat}{tm:Tm}{a:Act}{df:Df}(ha:tq nt ρ tm df a):∀{rs:List ResultVar}{vs:List ae},vj P nt m tm rs=some vs->∀{Q:List ae->ao->Prop},(∀qV,bH (aQ ρ) vs qV->Q qV w)->
  dR P (ax ρ m) N (rs.mapM fun r=>match r with | .tmp t=>(pure (a.tmps.getD t undef):Sem ae)| .cell x t=>do loadVar t (<-asAddr (a.tmps.getD x undef))) Q w
 | [],vs,h,Q,hq=>by
  simp only[vj,ah]at h;subst h;rw[List.mapM_nil];exact hq [] trivial
 | .tmp t::rs,vs,h,Q,hq=>by
  unfold vj at h
  split at h
  ·rename_i ht;rw[j3,iB]at ht
   split at h
   ·rename_i vs1 h1;cases h;rw[List.mapM_cons,ar]
    show dR P (ax ρ m) N _ Q w
    rw[ar];exact tH hs ha h1 fun qV Qa=>hq _ ⟨ha.tm t ht,Qa⟩
   ·cases h
  ·cases h
 | .cell x t::rs,vs,h,Q,hq=>by
  unfold vj at h
  split at h
  ·rename_i hx;rw[j3,iB]at hx
   split at h
   ·rename_i v vs1 hv h1;cases h;have hp:=ha.tm x hx;obtain⟨bb,oo,KI⟩:∃b o,dj x tm= .pointer (some ⟨b,o,none⟩):=by
     unfold ky at hv
     split at hv
     ·rename_i h2;exact⟨_,_,h2⟩
     ·cases hv
    rw[List.mapM_cons,ar];have ZB:=z7 (P:=P) (N:=N) hs hp hv (Q:=fun v' w'=>dR P (ax ρ m) N (rs.mapM fun r=>match r with | .tmp t=>(pure (a.tmps.getD t undef):Sem ae)| .cell x t=>do loadVar t (<-asAddr (a.tmps.getD x undef))) (fun qV ix=>Q (v'::qV) ix) w')
     fun v' Oq=>tH hs ha h1 fun qV Qa=>hq (v'::qV) ⟨Oq,Qa⟩
    rw[KI]at hp;obtain⟨pl,dB,_,e⟩:=cP.1 hp;rw[e]at ZB;simp only[];rw[e];have acf:dR P (ax ρ m) N (loadVar t ⟨pl.c,pl.d+oo,none⟩) (fun v' w'=>dR P (ax ρ m) N (rs.mapM fun r=>match r with | .tmp t=>(pure (a.tmps.getD t undef):Sem ae)| .cell x t=>do loadVar t (<-asAddr (a.tmps.getD x undef))) (fun qV ix=>Q (v'::qV) ix) w') w:=ZB
    show dR P (ax ρ m) N (loadVar t ⟨pl.c,pl.d+oo,none⟩) _ w
    refine IZ acf fun v' w' h3=>?_
    rw[ar];exact h3
   ·cases h
  ·cases h
theorem zP (hs:fL ρ m w){N:Nat}{tm:Tm}{a:Act}{df:Df}(ha:tq nt ρ tm df a){fn:Func}{v:ae}(h:lC P nt fn.results.toList tm m=some v){Q:ae->ao->Prop}(hq:∀v',aQ ρ v v'->Q v' w):
  dR P (ax ρ m) N (results fn a.tmps) Q w:=by
 unfold results;rw[ar,Array.mapM_eq_mapM_toList]
 show dR P (ax ρ m) N (_<$> _) _ w
 rw[map_eq_pure_bind,ar];unfold lC at h;have fin:∀{vs:List ae},vj P nt m tm fn.results.toList=some vs->v=(match vs with | [x]=>x|l=> .tuple l.toArray)->dR P (ax ρ m) N (fn.results.toList.mapM fun r=>match r with | .tmp t=>(pure (a.tmps.getD t undef):Sem ae)| .cell x t=>do loadVar t (<-asAddr (a.tmps.getD x undef)))
   (fun qV w'=>dR P (ax ρ m) N (pure qV.toArray) (fun Rt ix=>dR P (ax ρ m) N (pure (if h:Rt.size=1 then Rt[0]else .tuple Rt)) Q ix) w') w:=by
  intro vs Qa hv;refine tH hs ha Qa fun qV hr=>?_
  show Q (if h:qV.toArray.size=1 then qV.toArray[0]else .tuple qV.toArray) w
  refine hq _ ?_;rw[hv]
  match vs,qV,hr with
  | [],[],_=>exact eQ.2 ⟨_,rfl,trivial⟩
  | [x],[x'],hr=>exact hr.1
  |x::y::l,x'::y'::l',hr=>
   rw[dif_neg du];exact eQ.2 ⟨_,rfl,hr⟩
 split at h
 ·rename_i u hu;cases h;exact fin hu rfl
 ·rename_i vs dQ Qa;cases h;refine fin Qa ?_
  split
  ·rename_i x;exact absurd rfl (dQ x)
  ·rfl
 ·cases h
theorem vh {b:Frame}{a:Act}{todo:List Item}{cs:List Frame}{ds:List Deferred}{f:FuncId}{fn:Func}{args cap:Array ae}{d:Deferred}(hd:a.defers=d::ds)(ZH:d={target:= .fn (.func f) cap,args:=args})(hf:P.funcs[f]?=some fn)(Jv:(fn.name== "runtime.NumGoroutine")=false)(hb:fn.body.isSome=true):
  stepG P main (G {b.at a todo with mode:= .returning} cs) w= .go (G (Frame.enter P f (args++cap) .deferred) ({b.at ⟨a.tmps,ds⟩ todo with mode:= .returning}::cs)) w #[]:=by
 have h1:¬fn.name= "runtime.NumGoroutine":=by simpa using Jv
 have h2:¬fn.body=none:=by cases hx:fn.body<;>simp_all
 subst ZH;simp[G,stepG,unwind,callDeferred,Frame.at,hd,invoke,callFunc,hf,h1,h2,GStep.after,seen_none]
theorem F8 {b:Frame}{a:Act}{todo:List Item}{cs:List Frame}{fn:Func}{c:Frame}{v:ae}{w':ao}(hn:b.kind= .normal\/(b.kind= .deferred/\c.mode= .returning))(hd:a.defers=[])(hf:P.funcs[b.fn]?=some fn)(hr:(results fn a.tmps).run P w= .ok v w'):
  stepG P main (G {b.at a todo with mode:= .returning} (c::cs)) w= .go (G (if b.kind= .normal then c.finish v else c) cs) w' (seen P b.fn ((results fn a.tmps).events P w #[])):=by
 rcases hn with hn|⟨hn,hm⟩
 ·simp[G,stepG,unwind,doReturn,Frame.at,hn,hd,hf,hr,GStep.after]
 ·simp[G,stepG,unwind,doReturn,Frame.at,hn,hd,hf,hr,GStep.after,hm]
theorem uk (hJ:∀σ,fY P main (J σ))(hX:qd P X)(hF:wX F)(C:fT P X main J F call):∀{df:Df}{m m':Mem},oQ P X call df m=some m'->Wf m->F m m'/\∃c,
  ∀{E:Perm}{bl:ao}{σ:nz}{ρ:dw}{w:ao}{b:Frame}{a:Act}{todo:List Item}{cs:List Frame}{n:Nat}{tm:Tm},dk P E bl σ ρ m w->tq nt ρ tm df a->
   (∀gj bq w',ρ.le bq->rK m ρ bq->dk P E bl gj bq m' w'->tq nt bq tm [] ⟨a.tmps,[]⟩->J gj n ((ax bq m').or E) (G {b.at ⟨a.tmps,[]⟩ todo with mode:= .returning} cs) w')->
   J σ (n+c) ((ax ρ m).or E) (G {b.at a todo with mode:= .returning} cs) w
 | [],m,m',h,hw=>by
  simp only[oQ,ah]at h;subst h;refine⟨hF.refl _,0,fun{E bl σ ρ w b a todo cs n tm} H ha hn=>?_⟩;have hd:a.defers=[]:=by
   have :=ha.df;cases h:a.defers with
   |nil=>rfl
   |cons x l=>rw[h]at this;exact this.elim
  have e:a=⟨a.tmps,[]⟩:=by cases a;simp only at hd;subst hd;rfl
  have :=hn σ ρ w (dw.le_refl _) (.of fun _ _=>rfl) H (by rw[<-e];exact ha);rw[<-e]at this;exact this
 |(f,args)::ds,m,m',h,hw=>by
  unfold oQ at h
  split at h
  ·rename_i hb;simp only[ag,Bool.not_eq_true',Bool.or_eq_false_iff]at hb;obtain⟨hb,nN,nU⟩:=hb
   split at h
   ·rename_i v m1 gu;obtain⟨g1,_,g2⟩:=C f args m v m1 hw gu;obtain⟨c,g2⟩:=g2 hb;obtain⟨h1,c',h2⟩:=uk hJ hX hF C h ((hF.mv g1).wf hw);obtain⟨fn,hf,tj⟩:=Kh hb;refine⟨hF.trans g1 h1,c'+c+1,fun{E bl σ ρ w b a todo cs n tm} H ha hn=>?_⟩;obtain⟨d,ds',vt⟩:∃d ds',a.defers=d::ds':=by
     have :=ha.df;cases h:a.defers with
     |nil=>rw[h]at this;exact this.elim
     |cons x l=>exact⟨x,l,rfl⟩
    have VC:=ha.df;rw[vt]at VC;obtain⟨⟨cap,ZH,hda⟩,gS⟩:=VC;have yD:d={target:= .fn (.func f) cap,args:=d.args}:=by cases d;simp only at ZH;subst ZH;rfl
    refine mL (hJ σ) rfl (fun w=>vh vt yD hf (hX.names f fn hf tj) tj) fun aN jJ=>?_
    have gi:=H.keeps jJ
    show J σ (n+(c'+c)) _ _ _
    rw[<-Nat.add_assoc];refine g2 _ _ cs (n+c') .deferred gi hda (.inr ⟨rfl,rfl,Nat.ne_of_beq_eq_false nN,Nat.ne_of_beq_eq_false nU⟩) fun gj bq v' w' hle hold H' hv=>?_
    rw[bW du];refine h2 (a:=⟨a.tmps,ds'⟩) (tm:=tm) H' ⟨ha.size,fun t ht=>(ha.tm t ht).jN hle,gS.mono fun _ _ x=>x.jN hle⟩ fun tx fg ix nT kD pZ xY=>?_
    exact hn tx fg ix (dw.le_trans hle nT) (hold.trans (hF.mv g1) kD) pZ xY
   ·cases h
  ·cases h
theorem QI (hJ:∀σ,fY P main (J σ))(hX:qd P X)(hF:wX F)(C:fT P X main J F call){f:Nat}{fn:Func}{c:Code}(hf:P.funcs[f]?=some fn)(hc:fn.body=some c){n:Nat}{b:Go.AM.F}(qy:fn.ntmps<=512)(hb:comp P fn.ntmps n c=some b)
  {args:List ae}{m m':Mem}{v:ae}(hw:Wf m)(h:yr P X fn.ntmps fn.results.toList b call args m=some (v,m')):F m m'/\∃c,
   ∀{E:Perm}{bl:ao}{σ:nz}{ρ:dw}{w:ao} (bJ:Array ae) (fr:Frame) (cs:List Frame) (n:Nat) (kind:CallKind),
   dk P E bl σ ρ m w->bH (aQ ρ) args bJ.toList->(kind= .normal\/(kind= .deferred/\fr.mode= .returning))->
   (∀gj bq v' w',ρ.le bq->rK m ρ bq->dk P E bl gj bq m' w'->aQ bq v v'->J gj n ((ax bq m').or E) (G (if kind= .normal then fr.finish v' else fr) cs) w')->
   J σ (n+c) ((ax ρ m).or E) (G (Frame.enter P f bJ kind) (fr::cs)) w:=by
 unfold yr at h
 split at h
 ·cases h
 ·rename_i tm Xp
  split at Xp
  ·rename_i hlen;rw[Dn,iB]at hlen
   split at h
   ·cases h
   ·rename_i st fp
    split at h
    ·cases h
    ·rename_i m2 nL
     split at h
     ·rename_i v2 CH;cases h;unfold OR at fp;obtain⟨e,Ff,he⟩:∃e,b call ⟨tm,m,[]⟩=some (e,st)/\(e= .normal\/e= .ret):=by
       split at fp
       ·rename_i s hs;cases fp;exact⟨_,hs,.inl rfl⟩
       ·rename_i s hs;cases fp;exact⟨_,hs,.inr rfl⟩
       ·cases fp
      obtain⟨g1,c1,g2⟩:=FA hJ hX hF C qy n c b hb Ff hw;have Oo:=(hF.mv g1).wf hw;obtain⟨g3,c2,g4⟩:=uk (nt:=fn.ntmps) hJ hX hF C nL Oo;refine⟨hF.trans g1 g3,((1+c2)+1)+c1,fun{E bl σ ρ w} bJ fr cs n kind H hr iA hn=>?_⟩;have ha:=Fu Xp hr hlen qy;obtain⟨bb,ny,HV,hbf⟩:∃bb:Frame,Frame.enter P f bJ kind=bb.at {tmps:=bJ++Array.replicate (fn.ntmps-bJ.size) undef,defers:=[]} [.code c]/\bb.kind=kind/\bb.fn=f:=by
       rcases iA with rfl|⟨rfl,_⟩
       ·exact⟨base f,enter_at bJ hf hc,rfl,rfl⟩
       ·exact⟨baseD f,enter_atD bJ hf hc,rfl,rfl⟩
      have dQ:bb.kind≠ .early:=by rw[HV];rcases iA with rfl|⟨rfl,_⟩<;>simp
      rw[ny,<-Nat.add_assoc];refine(g2 []).go dQ H ha fun gj bq w' a' todo T1 hle hold H' mn=>?_
      have abU:(∀aN,dk P E bl gj bq st.mem aN->J gj (n+(1+c2)) ((ax bq st.mem).or E) (G {bb.at a' todo with mode:= .returning} (fr::cs)) aN)->J gj (n+((1+c2)+1)) ((ax bq st.mem).or E) (G (bb.at a' todo) (fr::cs)) w':=by
       intro hJ';have vK:∀w,stepG P main (G (bb.at a' todo) (fr::cs)) w= .go (G {bb.at a' todo with mode:= .returning} (fr::cs)) w #[]:=by
        intro w;rcases he with rfl|rfl
        ·have e:todo=[]:=T1;subst e;exact stepG_end
        ·obtain⟨k',rfl⟩:=T1;exact stepG_ret'
       exact mL (hJ gj) rfl vK fun aN jJ=>hJ' aN (H'.keeps jJ)
      refine abU fun aN gi=>?_
      rw[<-Nat.add_assoc];refine g4 (tm:=st.tm) gi mn fun tx fg ix nT kD pZ xY=>?_
      have j0:rK m ρ fg:=hold.trans (hF.mv g1) kD;refine q0 hJ pZ rfl fun ph vA=>?_
      obtain⟨v',Bq,gR,⟨hv,TQ⟩,_,dV⟩:=mI (P:=P) (R:=ax fg m') (N:=ph.heap.size) (Q:=fun v' w'=>aQ fg v v'/\w'=ph) (aj _)
       (zP (N:=ph.heap.size) vA.jM (a:=⟨a'.tmps,[]⟩) xY CH fun v' hv=>⟨hv,rfl⟩)
      rw[TQ]at gR;obtain⟨evs,zh,eZ⟩:=dV #[];have om:∀e∈seen P bb.fn ((results fn a'.tmps).events P ph #[]),nJ (ax fg m') e:=fun e hx=>eZ e (by have :=mem_seen hx;rw[zh]at this;simpa using this)
      refine⟨_,fg,m',ph,_,F8 (a:=⟨a'.tmps,[]⟩) (by rw[HV];exact iA) rfl (by rw[hbf];exact hf) gR,Left.refl vA.jM,tu.refl ..,fun e he=> .inl (om e he),(kz om _).symm,?_⟩;rw[HV];exact hn tx fg v' ph (dw.le_trans hle nT) j0 vA hv
     ·cases h
  ·cases Xp
end
end Go.AM
namespace Go.AM
open Go Go.Conc
section
variable {P:aC}{X:Ext}{main:Bool}{J:JT}{F:Mem->Mem->Prop}
theorem XZ {f:Nat}{args:List ae}{m m':Mem}{v:ae}(h:uj X f args m=some (v,m')):wW m m':=by
 unfold uj at h
 split at h
 ·split at h
  ·simp only[ah,au]at h;obtain⟨_,rfl⟩:=h;exact wW.deaf _ _
  ·cases h
 ·split at h
  ·split at h
   ·simp only[ah,au]at h;obtain⟨_,rfl⟩:=h;exact wW.deaf _ _
   ·cases h
  ·split at h
   ·split at h
    ·simp only[ah,au]at h;obtain⟨_,rfl⟩:=h;exact wW.refl _
    ·cases h
   ·split at h
    ·split at h
     ·simp only[ah,au]at h;obtain⟨_,rfl⟩:=h;exact wW.refl _
     ·cases h
    ·split at h
     ·split at h
      ·split at h
       ·split at h
        ·obtain⟨m2,yC,he⟩:=az.1 h;simp only[au]at he;obtain⟨_,rfl⟩:=he;exact(jg.dP yC).w
        ·split at h
         ·simp only[ah,au]at h;obtain⟨_,rfl⟩:=h;exact wW.refl _
         ·cases h
       ·cases h
      ·cases h
     ·split at h
      ·split at h
       ·split at h
        ·obtain⟨m2,yC,he⟩:=az.1 h;simp only[au]at he;obtain⟨_,rfl⟩:=he;exact(jg.dP yC).w
        ·cases h
       ·cases h
      ·cases h
theorem RH (hJ:∀σ,fY P main (J σ))(hX:qd P X)(hF:wX F){call:cE}(C:fT P X main J F call):fT P X main J F fun f args m=>(jY P X f).body call args m:=by
 intro f args m v m' hw h
 replace h:(jY P X f).body call args m=some (v,m'):=h
 unfold jY at h
 split at h
 ·rename_i fn hf
  split at h
  ·rename_i c hc
   split at h
   ·rename_i b hb
    split at hb
    ·rename_i qy;rw[Dn,iB]at qy;obtain⟨g1,k,g2⟩:=QI hJ hX hF C hf hc qy hb hw h;refine⟨g1,fun tj=>?_,fun _=>⟨k,fun bJ fr cs n kind H hr hk hn=>g2 bJ fr cs n kind H hr (hk.imp id fun h=>⟨h.1,h.2.1⟩) hn⟩⟩;unfold dY at tj;rw[hf]at tj;simp[hc]at tj
    ·cases hb
   ·cases h
  ·rename_i hc;refine⟨hF.fr (XZ h),fun _=>h,fun tj=>?_⟩;unfold dY at tj;rw[hf]at tj;simp[hc]at tj
 ·cases h
theorem J' (hJ:∀σ,fY P main (J σ))(hX:qd P X)(hF:wX F):∀n,fT P X main J F (mr P X n)
 |0=>by intro f args m v m' hw h;cases h
 |n+1=>RH hJ hX hF (J' hJ hX hF n)
end
end Go.AM
namespace Go.AM
open Go Go.Conc
open Go.ConcN (RelBy fork_knows)
open Go.ConcR (stA smA)
inductive WS where
 |work(R:Perm)
 |rel(R:Perm)(r:Nat)
 |old
def WS.eh:WS->Option Perm
 | .work R=>some R
 | .rel R _=>some R
 | .old=>none
def TP (R:Perm):Loc->Prop
 | .cell a=>a.spot=none/\R.rd a.block a.off
 | .obj r=>R.ob r
 |_=>False
def Xl (R:Perm):Loc->Prop
 | .cell a=>a.spot=none/\R.wr a.block a.off
 | .obj r=>R.ob r
 |_=>False
def shl (sh:Nat->Prop):Loc->Prop
 | .cell a=>sh a.block/\a.spot=none/\a.off<=1
 |_=>False
structure l7 (R S:Perm):Prop where
 cell:∀b o,R.wr b o->¬S.rd b o
 obj:∀b,R.ob b->¬S.ob b
structure Lay (sh:Nat->Prop)(D:Nat->WS)(size:Nat)(w:ao):Prop where
 low:∀k R,k<size->(D k).eh=some R->w9 R w
 HY:∀j k R S,j≠k->j<size->k<size->(D j).eh=some R->(D k).eh=some S->l7 R S
 DW:∀k R,k<size->(D k).eh=some R->∀b o,R.rd b o->sh b->¬o<=1
 sh:∀b,sh b->b<w.heap.size
structure TI (Wg:Nat)(sh:Nat->Prop)(D:Nat->WS)(size N:Nat)(t:Trace):Prop where
 nr:∀said,¬Race said t
 gs:∀op∈t,op.g<size
 low:∀i a,touchAt t i=some a->a.loc.low N
 Za:∀k R,k<size->D k= .work R->∀i a,touchAt t i=some a->Xl R a.loc->Knows t k i
 knR:∀k R,k<size->D k= .work R->∀i a,touchAt t i=some a->TP R a.loc->a.write=true->Knows t k i
 nW:∀i a,touchAt t i=some a->Knows t 0 i\/(∃k R,t.g? i=some k/\0<k/\k<size/\D k= .work R)\/(∃k R r,t.g? i=some k/\0<k/\k<size/\D k= .rel R r/\i<=r)\/(shl sh a.loc/\a.kind= .atomic)
 shp:∀i a,touchAt t i=some a->shl sh a.loc->a.kind= .atomic\/(Knows t 0 i/\(a.kind= .plain->∀k,k<size->D k≠ .old->Knows t k i))
 ID:∀k R r,k<size->D k= .rel R r->RelBy (stA Wg) t k r
 norel:∀a,NoRelease a t
 cnt:∀i k,t.g? i=some k->0<k->D k= .old->t.counts i->Knows t 0 i
 main:∃R,D 0= .work R
theorem Md {R R':Perm}{N:Nat}(h:eK R R' N){l:Loc}(hl:l.low N)(hw:Xl R' l):Xl R l:=by
 cases l with
 |cell a=>exact⟨hw.1,(h.wr _ _ hw.2).elim id fun hn=>absurd (show a.block<N from hl) ai⟩
 |obj r=>exact(h.ob _ hw).elim id fun hn=>absurd (show r<N from hl) ai
 |_=>exact hw.elim
theorem Me {R R':Perm}{N:Nat}(h:eK R R' N){l:Loc}(hl:l.low N)(hw:TP R' l):TP R l:=by
 cases l with
 |cell a=>exact⟨hw.1,(h.rd _ _ hw.2).elim id fun hn=>absurd (show a.block<N from hl) ai⟩
 |obj r=>exact(h.ob _ hw).elim id fun hn=>absurd (show r<N from hl) ai
 |_=>exact hw.elim
theorem Ol {R S:Perm}(h:l7 R S){l:Loc}(h1:Xl R l):¬TP S l:=by
 intro h2;cases l with
 |cell a=>exact h.cell _ _ h1.2 h2.2
 |obj r=>exact h.obj _ h1 h2
 |_=>exact h1.elim
theorem Oj {R:Perm}(h:∀b o,R.wr b o->R.rd b o){l:Loc}(h1:Xl R l):TP R l:=by
 cases l with
 |cell a=>exact⟨h1.1,h _ _ h1.2⟩
 |obj r=>exact h1
 |_=>exact h1.elim
theorem xS {R:Perm}{sh:Nat->Prop}(h:∀b o,R.rd b o->sh b->¬o<=1){l:Loc}(h1:TP R l):¬shl sh l:=by
 intro h2;cases l with
 |cell a=>exact h _ _ h1.2 h2.1 h2.2.2
 |obj r=>exact h2.elim
 |_=>exact h2.elim
section
variable {Wg:Nat}{sh:Nat->Prop}{D D':Nat->WS}{size N N':Nat}{t u:Trace}{k:Nat}{w:ao}
theorem TI.app(h:TI Wg sh D size N t)(L:Lay sh D size w)(hk:k<size)(hN:N<=N')
  (dQ:∀j,j≠k->D' j=D j)(hD:D' k=D k\/∃R R',D k= .work R/\D' k= .work R'/\eK R R' N)
  (hg:∀op∈u,op.g=k)(hl:∀op∈u,∀b,op.act.touch?=some b->b.loc.low N')(hr:∀op∈u,∀a,op.act≠ .mark (.release a))
  (hu:∀op∈u,∀b,op.act.touch?=some b->(∃R,D k= .work R/\TP R b.loc/\(b.write=true->Xl R b.loc))\/(D k≠ .old/\shl sh b.loc/\b.kind≠ .plain/\(b.kind= .said->k=0)))
  (zf:∀R r,D k= .rel R r->RelBy (stA Wg) (t++u) k r):TI Wg sh D' size N' (t++u):=by
 have old:∀{i:Nat}{a:Touch},touchAt (t++u) i=some a->(touchAt t i=some a/\i<t.size)\/(t.size<=i/\∃op∈u,(t++u)[i]?=some op/\op.act.touch?=some a):=by
  intro i a ha;obtain⟨x,hx,hxa⟩:=touch_of ha;rcases getElem?_append_cases hx with⟨hi,vp⟩|⟨hi,hxu⟩
  ·exact .inl ⟨by rw[touchAt_of vp];exact hxa,hi⟩
  ·exact .inr ⟨hi,x,hxu,hx,hxa⟩
 have own:∀{i:Nat}{op:MemOp},(t++u)[i]?=some op->op∈u->Knows (t++u) k i:=by
  intro i op hi dC;have :=knows_own hi;rwa[hg op dC]at this
 have hold:∀j,D' j= .old↔D j= .old:=by
  intro j
  by_cases hj:j=k
  ·subst hj;rcases hD with e|⟨R,R',e1,e2,_⟩
   ·rw[e]
   ·rw[e1,e2];simp
  ·rw[dQ j hj]
 have Zl:∀j R',D' j= .work R'->∃R,D j= .work R/\eK R R' N:=by
  intro j R' qO
  by_cases hj:j=k
  ·subst hj;rcases hD with e|⟨R,eM,e1,e2,e3⟩
   ·rw[e]at qO;exact⟨R',qO,eK.refl _ _⟩
   ·rw[e2]at qO;cases qO;exact⟨R,e1,e3⟩
  ·rw[dQ j hj]at qO;exact⟨R',qO,eK.refl _ _⟩
 have ag2:∀j R r,D' j= .rel R r->D j= .rel R r:=by
  intro j R r qO
  by_cases hj:j=k
  ·subst hj;rcases hD with e|⟨R,eM,e1,e2,e3⟩
   ·rw[e]at qO;exact qO
   ·rw[e2]at qO;cases qO
  ·rw[dQ j hj]at qO;exact qO
 refine⟨fun said=>noRace_append (h.nr said) hg fun i a ha op dC b hb hc=>?_,fun op dC=>?_,fun i a ha=>?_,fun j S hj pX i a ha hw=>?_,fun j S hj pX i a ha hw tY=>?_,fun i a ha=>?_,fun i a ha hs=>?_,fun j R r hj j6=>?_,fun a=>(h.norel a).app fun op dC=>hr op dC a,fun i j hi hj sQ hc=>?_,?_⟩
 ·rcases hu op dC b hb with⟨R,hR,h1,h2⟩|⟨Q7,h1,h2,h3⟩
  ·cases ZL:b.write with
   |true=>exact h.Za k R hk hR i a ha (by rw[hc.1];exact h2 ZL)
   |false=>exact h.knR k R hk hR i a ha (by rw[hc.1];exact h1) (hc.2.2.1.resolve_right (by simp[ZL]))
  ·rcases h.shp i a ha (by rw[hc.1];exact h1)with e|⟨e1,e2⟩
   ·rcases hc.2.2.2 with x|x|⟨_,x,_⟩
    ·rw[e]at x;cases x
    ·exact absurd x h2
    ·rw[e]at x;cases x
   ·rcases hc.2.2.2 with x|x|⟨_,_,x⟩
    ·exact e2 x k hk Q7
    ·exact absurd x h2
    ·rw[h3 x];exact e1
 ·rcases Array.mem_append.1 dC with h1|h1
  ·exact h.gs op h1
  ·rw[hg op h1];exact hk
 ·rcases old ha with⟨mn,_⟩|⟨_,op,dC,hi,hb⟩
  ·exact Loc.low_mono hN (h.low i a mn)
  ·exact hl op dC a hb
 ·obtain⟨adm,hS,ml⟩:=Zl j S pX;rcases old ha with⟨mn,_⟩|⟨_,op,dC,hi,hb⟩
  ·exact(h.Za j adm hj hS i a mn (Md ml (h.low i a mn) hw)).app u
  ·by_cases G4:j=k
   ·subst G4;exact own hi dC
   ·rw[dQ j G4]at pX;have hS':(D j).eh=some S:=by rw[pX];rfl
    rcases hu op dC a hb with⟨R,hR,h1,h2⟩|⟨_,h1,_,_⟩
    ·exact absurd h1 (Ol (L.HY j k S R G4 hj hk hS' (by rw[hR];rfl)) hw)
    ·exact absurd h1 (xS (L.DW j S hj hS') (Oj (L.low j S hj hS').wr hw))
 ·obtain⟨adm,hS,ml⟩:=Zl j S pX;rcases old ha with⟨mn,_⟩|⟨_,op,dC,hi,hb⟩
  ·exact(h.knR j adm hj hS i a mn (Me ml (h.low i a mn) hw) tY).app u
  ·by_cases G4:j=k
   ·subst G4;exact own hi dC
   ·rw[dQ j G4]at pX;have hS':(D j).eh=some S:=by rw[pX];rfl
    rcases hu op dC a hb with⟨R,hR,h1,h2⟩|⟨_,h1,_,_⟩
    ·exact absurd hw (Ol (L.HY k j R S (Ne.symm G4) hk hj (by rw[hR];rfl) hS') (h2 tY))
    ·exact absurd h1 (xS (L.DW j S hj hS') hw)
 ·rcases old ha with⟨mn,hi⟩|⟨_,op,dC,hi,hb⟩
  ·rcases h.nW i a mn with h1|⟨j,R,h1,h2,h3,h4⟩|⟨j,R,r,h1,h2,h3,h4,h5⟩|h1
   ·exact .inl (h1.app u)
   ·refine .inr (.inl ?_)
    by_cases hj:j=k
    ·subst hj;rcases hD with e|⟨eM,R',e1,e2,_⟩
     ·exact⟨j,R,by rw[g?_old hi];exact h1,h2,h3,by rw[e];exact h4⟩
     ·exact⟨j,R',by rw[g?_old hi];exact h1,h2,h3,e2⟩
    ·exact⟨j,R,by rw[g?_old hi];exact h1,h2,h3,by rw[dQ j hj];exact h4⟩
   ·refine .inr (.inr (.inl ⟨j,R,r,by rw[g?_old hi];exact h1,h2,h3,?_,h5⟩))
    by_cases hj:j=k
    ·subst hj;rcases hD with e|⟨eM,R',e1,e2,_⟩
     ·rw[e];exact h4
     ·rw[h4]at e1;cases e1
    ·rw[dQ j hj];exact h4
   ·exact .inr (.inr (.inr h1))
  ·rcases Nat.eq_zero_or_pos k with h0|iC
   ·subst h0;exact .inl (own hi dC)
   ·have hgi:(t++u).g? i=some k:=by simp[Trace.g?,hi,hg op dC]
    rcases hu op dC a hb with⟨R,hR,h1,h2⟩|⟨Q7,h1,h2,h3⟩
    ·rcases hD with e|⟨eM,R',e1,e2,_⟩
     ·exact .inr (.inl ⟨k,R,hgi,iC,hk,by rw[e];exact hR⟩)
     ·exact .inr (.inl ⟨k,R',hgi,iC,hk,e2⟩)
    ·refine .inr (.inr (.inr ⟨h1,?_⟩));cases hkd:a.kind with
     |plain=>exact absurd hkd h2
     |atomic=>rfl
     |said=>have :=h3 hkd;omega
 ·rcases old ha with⟨mn,hi⟩|⟨_,op,dC,hi,hb⟩
  ·rcases h.shp i a mn hs with e|⟨e1,e2⟩
   ·exact .inl e
   ·exact .inr ⟨e1.app u,fun hp j hj sQ=>(e2 hp j hj (fun hx=>sQ ((hold j).2 hx))).app u⟩
  ·rcases hu op dC a hb with⟨R,hR,h1,h2⟩|⟨Q7,h1,h2,h3⟩
   ·exact absurd hs (xS (L.DW k R hk (by rw[hR];rfl)) h1)
   ·cases hkd:a.kind with
    |plain=>exact absurd hkd h2
    |atomic=>exact .inl rfl
    |said=>
     refine .inr ⟨?_,fun hx=>by cases hx⟩;have h0:=h3 hkd;subst h0;exact own hi dC
 ·have ahk:=ag2 j R r j6
  by_cases G4:j=k
  ·subst G4;exact zf R r ahk
  ·exact(h.ID j R r hj ahk).appOther hg (Ne.symm G4)
 ·have XF:=(hold j).1 sQ;have cB:i<t.size\/t.size<=i:=Nat.lt_or_ge i t.size;rcases cB with cB|uV
  ·exact(h.cnt i j (by rw[<-g?_old (u:=u) cB];exact hi) hj XF ((counts_old cB).1 hc)).app u
  ·exfalso
   obtain⟨x,hx,_⟩:=hc;obtain⟨op,ho,hox⟩:=touch_of hx;have hgi:op.g=j:=by simp only[Trace.g?,ho,cU,ah]at hi;exact hi
   rcases getElem?_append_cases ho with⟨h1,_⟩|⟨_,hou⟩
   ·omega
   ·have G4:j=k:=hgi.symm.trans (hg op hou);subst G4;rcases hu op hou x hox with⟨R,hR,_⟩|⟨Q7,_⟩
    ·rw[hR]at XF;cases XF
    ·exact Q7 XF
 ·obtain⟨R,hR⟩:=h.main
  by_cases h0:(0:Nat)=k
  ·subst h0;rcases hD with e|⟨_,R',_,e2,_⟩
   ·exact⟨R,by rw[e];exact hR⟩
   ·exact⟨R',e2⟩
  ·exact⟨R,by rw[dQ 0 h0];exact hR⟩
end
end Go.AM
namespace Go.AM
open Go Go.Conc
open Go.ConcN (RelBy fork_knows upd upd_same upd_ne)
open Go.ConcR (stA smA)
theorem CE {R S:Perm}(h:∀b o,R.wr b o->S.wr b o)(ho:∀b,R.ob b->S.ob b){l:Loc}(hw:Xl R l):Xl S l:=by
 cases l with
 |cell a=>exact⟨hw.1,h _ _ hw.2⟩
 |obj r=>exact ho _ hw
 |_=>exact hw.elim
theorem CF {R S:Perm}(h:∀b o,R.rd b o->S.rd b o)(ho:∀b,R.ob b->S.ob b){l:Loc}(hw:TP R l):TP S l:=by
 cases l with
 |cell a=>exact⟨hw.1,h _ _ hw.2⟩
 |obj r=>exact ho _ hw
 |_=>exact hw.elim
structure jv (R S:Perm):Prop where
 rd:∀b o,R.rd b o->S.rd b o
 wr:∀b o,R.wr b o->S.wr b o
 ob:∀b,R.ob b->S.ob b
section
variable {Wg QS:Nat}{sh:Nat->Prop}{D:Nat->WS}{size N:Nat}{t:Trace}{k:Nat}{w:ao}
theorem TI.begin(h:TI Wg sh D size N t){R eM:Perm}(hD:D 0= .work R)(hold:∀j,0<j->j<size->D j= .old)(hs:jv eM R)(h0:R.wr QS 0)(h1:R.wr QS 1)(ig:0<size):
  TI QS (fun b=>sh b\/b=QS) (upd D 0 (.work eM)) size N t:=by
 have hn:∀j,0<j->upd D 0 (.work eM) j=D j:=fun j hj=>upd_ne D _ ai
 refine⟨h.nr,h.gs,h.low,fun j S hj pX i a ha hw=>?_,fun j S hj pX i a ha hw tY=>?_,fun i a ha=>?_,fun i a ha wY=>?_,fun j S r hj j6=>?_,h.norel,fun i j hi hj sQ hc=>h.cnt i j hi hj (by rw[<-hn j hj];exact sQ) hc,⟨eM,upd_same ..⟩⟩
 ·rcases Nat.eq_zero_or_pos j with rfl|hp
  ·rw[upd_same]at pX;cases pX;exact h.Za 0 R hj hD i a ha (CE hs.wr hs.ob hw)
  ·rw[hn j hp,hold j hp hj]at pX;cases pX
 ·rcases Nat.eq_zero_or_pos j with rfl|hp
  ·rw[upd_same]at pX;cases pX;exact h.knR 0 R hj hD i a ha (CF hs.rd hs.ob hw) tY
  ·rw[hn j hp,hold j hp hj]at pX;cases pX
 ·rcases h.nW i a ha with h2|⟨j,S,_,h3,h4,h5⟩|⟨j,S,r,_,h3,h4,h5,_⟩|h2
  ·exact .inl h2
  ·rw[hold j h3 h4]at h5;cases h5
  ·rw[hold j h3 h4]at h5;cases h5
  ·refine .inr (.inr (.inr ⟨?_,h2.2⟩));have :=h2.1;cases hl:a.loc with
   |cell x=>rw[hl]at this;exact⟨.inl this.1,this.2⟩
   |_=>rw[hl]at this;exact this.elim
 ·have key:Knows t 0 i->a.kind= .atomic\/(Knows t 0 i/\(a.kind= .plain->∀k,k<size->upd D 0 (.work eM) k≠ .old->Knows t k i)):=fun hk=>
   .inr ⟨hk,fun _ j hj sQ=>by
    rcases Nat.eq_zero_or_pos j with rfl|hp
    ·exact hk
    ·rw[hn j hp]at sQ;exact absurd (hold j hp hj) sQ⟩
  cases hl:a.loc with
  |cell x=>
   rw[hl]at wY;obtain⟨h2|h2,h3,h4⟩:=wY
   ·rcases h.shp i a ha (by rw[hl];exact⟨h2,h3,h4⟩)with e|⟨e,_⟩
    ·exact .inl e
    ·exact key e
   ·refine key (h.Za 0 R ig hD i a ha ?_);rw[hl];refine⟨h3,?_⟩;rw[h2];rcases(show x.off=0\/x.off=1 by omega)with e|e<;>rw[e]<;>assumption
  |_=>rw[hl]at wY;exact wY.elim
 ·rcases Nat.eq_zero_or_pos j with rfl|hp
  ·rw[upd_same]at j6;cases j6
  ·rw[hn j hp,hold j hp hj]at j6;cases j6
theorem TI.fork(h:TI Wg sh D size N t){R eM Rc:Perm}(hD:D 0= .work R)(h1:jv eM R)(hc:jv Rc R)(ig:0<size){x y:MemOp}(hx:x.g=0/\x.act= .go size)(hy:y.g=size/\y.act= .start)(h0:Deaf t 0=0)(hk:Deaf t size=0):
  TI Wg sh (upd (upd D 0 (.work eM)) size (.work Rc)) (size+1) N (t++#[x,y]):=by
 have qy:∀op∈ #[x,y],∀b,op.act.touch?=some b->False:=by
  intro op dC b hb;simp only[List.mem_toArray,aL,List.not_mem_nil,or_false]at dC;rcases dC with rfl|rfl
  ·rw[hx.2]at hb;cases hb
  ·rw[hy.2]at hb;cases hb
 have old:∀{i:Nat}{a:Touch},touchAt (t++#[x,y]) i=some a->touchAt t i=some a/\i<t.size:=by
  intro i a ha;obtain⟨z,hz,hza⟩:=touch_of ha;rcases getElem?_append_cases hz with⟨hi,Om⟩|⟨_,hzu⟩
  ·exact⟨by rw[touchAt_of Om];exact hza,hi⟩
  ·exact(qy z hzu a hza).elim
 have hn:∀j,0<j->j<size->upd (upd D 0 (.work eM)) size (.work Rc) j=D j:=fun j h1 h2=>by rw[upd_ne _ _ ai,upd_ne _ _ ai]
 have hz:upd (upd D 0 (.work eM)) size (.work Rc) 0= .work eM:=by rw[upd_ne _ _ ai,upd_same]
 have hq:upd (upd D 0 (.work eM)) size (.work Rc) size= .work Rc:=upd_same ..;have three:∀j,j<size+1->j=0\/(0<j/\j<size)\/j=size:=fun j hj=>by omega
 have kn:∀{i:Nat},Knows t 0 i->Knows (t++#[x,y]) size i:=fun Ah=>fork_knows hx hy h0 hk Ah
 refine⟨fun said=>?_,fun op dC=>?_,fun i a ha=>h.low i a (old ha).1,fun j S hj pX i a ha hw=>?_,fun j S hj pX i a ha hw tY=>?_,fun i a ha=>?_,fun i a ha wY=>?_,fun j S r hj j6=>?_,fun a=>(h.norel a).app fun op dC=>?_,fun i j hi hj sQ hcn=>?_,⟨eM,hz⟩⟩
 ·have e:t++#[x,y]=(t++#[x])++#[y]:=by apply Array.ext';simp
  rw[e];refine noRace_append (g:=size) (noRace_append (g:=0) (h.nr said) (fun op dC=>by simp at dC;rw[dC];exact hx.1) (fun i a _ op dC b hb _=>(qy op (by simp at dC⊢;exact .inl dC) b hb).elim))
   (fun op dC=>by simp at dC;rw[dC];exact hy.1) (fun i a _ op dC b hb _=>(qy op (by simp at dC⊢;exact .inr dC) b hb).elim)
 ·rcases Array.mem_append.1 dC with h2|h2
  ·exact Nat.lt_succ_of_lt (h.gs op h2)
  ·simp only[List.mem_toArray,aL,List.not_mem_nil,or_false]at h2;rcases h2 with rfl|rfl
   ·rw[hx.1];omega
   ·rw[hy.1];omega
 ·obtain⟨mn,_⟩:=old ha;rcases three j hj with rfl|⟨g1,g2⟩|rfl
  ·rw[hz]at pX;cases pX;exact(h.Za 0 R ig hD i a mn (CE h1.wr h1.ob hw)).app _
  ·rw[hn j g1 g2]at pX;exact(h.Za j S g2 pX i a mn hw).app _
  ·rw[hq]at pX;cases pX;exact kn (h.Za 0 R ig hD i a mn (CE hc.wr hc.ob hw))
 ·obtain⟨mn,_⟩:=old ha;rcases three j hj with rfl|⟨g1,g2⟩|rfl
  ·rw[hz]at pX;cases pX;exact(h.knR 0 R ig hD i a mn (CF h1.rd h1.ob hw) tY).app _
  ·rw[hn j g1 g2]at pX;exact(h.knR j S g2 pX i a mn hw tY).app _
  ·rw[hq]at pX;cases pX;exact kn (h.knR 0 R ig hD i a mn (CF hc.rd hc.ob hw) tY)
 ·obtain⟨mn,hi⟩:=old ha;rcases h.nW i a mn with h2|⟨j,S,h2,h3,h4,h5⟩|⟨j,S,r,h2,h3,h4,h5,h6⟩|h2
  ·exact .inl (h2.app _)
  ·exact .inr (.inl ⟨j,S,by rw[g?_old hi];exact h2,h3,ai,by rw[hn j h3 h4];exact h5⟩)
  ·exact .inr (.inr (.inl ⟨j,S,r,by rw[g?_old hi];exact h2,h3,ai,by rw[hn j h3 h4];exact h5,h6⟩))
  ·exact .inr (.inr (.inr h2))
 ·obtain⟨mn,hi⟩:=old ha;rcases h.shp i a mn wY with e|⟨e1,e2⟩
  ·exact .inl e
  ·refine .inr ⟨e1.app _,fun hp j hj sQ=>?_⟩;rcases three j hj with rfl|⟨g1,g2⟩|rfl
   ·exact e1.app _
   ·exact(e2 hp j g2 (by rw[<-hn j g1 g2];exact sQ)).app _
   ·exact kn e1
 ·rcases three j hj with rfl|⟨g1,g2⟩|rfl
  ·rw[hz]at j6;cases j6
  ·rw[hn j g1 g2]at j6;have hb:=h.ID j S r g2 j6;refine hb.app fun i hi hgi=>?_
   rintro⟨b,gA,_⟩;obtain⟨op,ho,Bf⟩:=touch_of gA;rcases getElem?_append_cases ho with⟨cB,_⟩|⟨_,hou⟩
   ·omega
   ·exact qy op hou b Bf
  ·rw[hq]at j6;cases j6
 ·simp only[List.mem_toArray,aL,List.not_mem_nil,or_false]at dC;rcases dC with rfl|rfl
  ·rw[hx.2];simp
  ·rw[hy.2];simp
 ·have cB:i<t.size:=by
   obtain⟨b,hb,_⟩:=hcn;exact(old hb).2
  have CN:j<size:=by
   obtain⟨op,ho,hog⟩:=az.1 (show((t++#[x,y])[i]?).map (·.g)=some j from hi);rw[getElem?_append_old cB]at ho;rw[<-hog];exact h.gs op (mem_of_getElem? ho)
  rw[hn j hj CN]at sQ;exact(h.cnt i j (by rw[<-g?_old (u:=#[x,y]) cB];exact hi) hj sQ ((counts_old cB).1 hcn)).app _
theorem TI.Sf(h:TI Wg sh D size N t){R:Perm}(hk:k<size)(iC:0<k)(hD:D k= .work R){r:Nat}(hr:RelBy (stA Wg) t k r)(hl:t.size<=r+1):
  TI Wg sh (upd D k (.rel R r)) size N t:=by
 have hn:∀j,j≠k->upd D k (.rel R r) j=D j:=fun j hj=>upd_ne D _ hj
 have ho:∀j,upd D k (.rel R r) j= .old->D j= .old:=fun j hj=>by
  by_cases e:j=k
  ·subst e;rw[upd_same]at hj;cases hj
  ·rw[hn j e]at hj;exact hj
 refine⟨h.nr,h.gs,h.low,fun j S hj pX i a ha hw=>?_,fun j S hj pX i a ha hw tY=>?_,fun i a ha=>?_,fun i a ha wY=>?_,fun j S r' hj j6=>?_,h.norel,fun i j hi hj sQ hc=>h.cnt i j hi hj (ho j sQ) hc,?_⟩
 ·by_cases e:j=k
  ·subst e;rw[upd_same]at pX;cases pX
  ·rw[hn j e]at pX;exact h.Za j S hj pX i a ha hw
 ·by_cases e:j=k
  ·subst e;rw[upd_same]at pX;cases pX
  ·rw[hn j e]at pX;exact h.knR j S hj pX i a ha hw tY
 ·rcases h.nW i a ha with h2|⟨j,S,h2,h3,h4,h5⟩|⟨j,S,r',h2,h3,h4,h5,h6⟩|h2
  ·exact .inl h2
  ·by_cases e:j=k
   ·subst e;refine .inr (.inr (.inl ⟨j,R,r,h2,h3,h4,upd_same ..,?_⟩));obtain⟨op,dC,_⟩:=touch_of ha;have :=lt_size_of_getElem? dC;omega
   ·exact .inr (.inl ⟨j,S,h2,h3,h4,by rw[hn j e];exact h5⟩)
  ·have e:j≠k:=by rintro rfl;rw[hD]at h5;cases h5
   exact .inr (.inr (.inl ⟨j,S,r',h2,h3,h4,by rw[hn j e];exact h5,h6⟩))
  ·exact .inr (.inr (.inr h2))
 ·rcases h.shp i a ha wY with e|⟨e1,e2⟩
  ·exact .inl e
  ·refine .inr ⟨e1,fun hp j hj sQ=>e2 hp j hj fun hx=>?_⟩
   by_cases e:j=k
   ·subst e;rw[hD]at hx;cases hx
   ·exact sQ (by rw[hn j e];exact hx)
 ·by_cases e:j=k
  ·subst e;rw[upd_same]at j6;cases j6;exact hr
  ·rw[hn j e]at j6;exact h.ID j S r' hj j6
 ·obtain⟨S,hS⟩:=h.main;exact⟨S,by rw[hn 0 ai];exact hS⟩
theorem TI.Ve(h:TI Wg sh D size N t)(ig:0<size)(lQ:∀j,0<j->j<size->(∃R r,D j= .rel R r)\/D j= .old){x:MemOp}(hx:x.g=0/\x.act= .mark (.acquire (stA Wg)))(h0:Deaf t 0=0)
  {R':Perm}(ag0:∀b o,R'.rd b o->sh b->¬o<=1)(tY:∀b o,R'.wr b o->R'.rd b o):TI Wg sh (fun j=>if j=0 then .work R' else .old) size N (t++#[x]):=by
 have qy:∀op∈ #[x],∀b,op.act.touch?=some b->False:=by
  intro op dC b hb;simp only[List.mem_toArray,aL,List.not_mem_nil,or_false]at dC;subst dC;rw[hx.2]at hb;cases hb
 have old:∀{i:Nat}{a:Touch},touchAt (t++#[x]) i=some a->touchAt t i=some a/\i<t.size:=by
  intro i a ha;obtain⟨z,hz,hza⟩:=touch_of ha;rcases getElem?_append_cases hz with⟨hi,Om⟩|⟨_,hzu⟩
  ·exact⟨by rw[touchAt_of Om];exact hza,hi⟩
  ·exact(qy z hzu a hza).elim
 have OB:(t++#[x])[t.size]?=some x:=du;have zd:∀op∈ #[x],op.g=0:=by intro op dC;simp at dC;rw[dC];exact hx.1
 have ahM:∀j R r,0<j->j<size->D j= .rel R r->∀i,t.g? i=some j->i<=r->Knows (t++#[x]) 0 i:=by
  intro j R r hj CN j6 i hi hir;have hr:RelBy (stA Wg) (t++#[x]) j r:=(h.ID j R r CN j6).appOther zd ai;have E9:r<t.size:=lt_of_act? (h.ID j R r CN j6).act;have hq:(t++#[x]).act? t.size=some (.mark (.acquire (stA Wg))):=by rw[act?_of OB,hx.2]
  have hh:(t++#[x]).heard t.size:=⟨0,by simp[Trace.g?,hx.1],by rw[deaf_old (aj _)];exact h0⟩;have hn:NoRelease (stA Wg) (t++#[x]):=(h.norel _).app fun op dC=>by simp at dC;rw[dC,hx.2];simp
  have e:HappensBefore (t++#[x]) r t.size:= .single (.inr ⟨.marked E9 (.inr hr.act) hq (fun k _ _=>hn k),hr.heard,hh⟩);refine⟨t.size,x,OB,hx.1,.inr ?_⟩;rcases Nat.lt_or_ge i r with cB|uV
  ·exact .trans (.single (.inl ⟨cB,j,by rw[g?_old ai];exact hi,hr.g⟩)) e
  ·obtain rfl:i=r:=ai;exact e
 have Uy:∀i a,touchAt (t++#[x]) i=some a->Knows (t++#[x]) 0 i\/(shl sh a.loc/\a.kind= .atomic):=by
  intro i a ha;obtain⟨mn,hi⟩:=old ha;rcases h.nW i a mn with h2|⟨j,S,h2,h3,h4,h5⟩|⟨j,S,r',h2,h3,h4,h5,h6⟩|h2
  ·exact .inl (h2.app _)
  ·rcases lQ j h3 h4 with⟨_,_,e⟩|e<;>rw[h5]at e<;>cases e
  ·exact .inl (ahM j S r' h3 h4 h5 i h2 h6)
  ·exact .inr h2
 have D0:∀j S,(if j=0 then WS.work R' else .old)= .work S->j=0/\S=R':=by
  intro j S hj
  split at hj
  ·rename_i e;cases hj;exact⟨e,rfl⟩
  ·cases hj
 refine⟨fun said=>noRace_append (h.nr said) zd fun i a _ op dC b hb _=>(qy op dC b hb).elim,fun op dC=>?_,fun i a ha=>h.low i a (old ha).1,fun j S hj pX i a ha hw=>?_,fun j S hj pX i a ha hw abS=>?_,fun i a ha=>(Uy i a ha).imp id fun e=> .inr (.inr e),fun i a ha wY=>?_,fun j S r hj j6=>?_,
  fun a=>(h.norel a).app fun op dC=>(by simp at dC;rw[dC,hx.2];simp),fun i j hi hj sQ hc=>?_,⟨R',rfl⟩⟩
 ·rcases Array.mem_append.1 dC with h2|h2
  ·exact h.gs op h2
  ·rw[zd op h2];exact ig
 ·obtain⟨rfl,rfl⟩:=D0 j S pX;exact(Uy i a ha).resolve_right fun e=>xS ag0 (Oj tY hw) e.1
 ·obtain⟨rfl,rfl⟩:=D0 j S pX;exact(Uy i a ha).resolve_right fun e=>xS ag0 hw e.1
 ·rcases h.shp i a (old ha).1 wY with e|⟨e1,_⟩
  ·exact .inl e
  ·refine .inr ⟨e1.app _,fun _ j hj sQ=>?_⟩
   replace sQ:¬(if j=0 then WS.work R' else .old)= .old:=sQ
   split at sQ
   ·rename_i e;subst e;exact e1.app _
   ·exact absurd rfl sQ
 ·replace j6:(if j=0 then WS.work R' else .old)= .rel S r:=j6
  split at j6<;>cases j6
 ·have cB:i<t.size:=by
   obtain⟨b,hb,_⟩:=hc;exact(old hb).2
  have Ej:t.g? i=some j:=by rw[<-g?_old (u:=#[x]) cB];exact hi
  have CN:j<size:=by
   obtain⟨op,ho,hog⟩:=az.1 (show(t[i]?).map (·.g)=some j from Ej);rw[<-hog];exact h.gs op (mem_of_getElem? ho)
  rcases lQ j hj CN with⟨R,r,e⟩|e
  ·refine ahM j R r hj CN e i Ej (Nat.le_of_not_lt fun ahh=>?_);exact(h.ID j R r CN e).after i ahh Ej ((counts_old cB).1 hc)
  ·exact(h.cnt i j Ej hj e ((counts_old cB).1 hc)).app _
theorem TI.over(h:TI Wg sh D size N t)(lQ:∀j,0<j->j<size->D j= .old):t.HandedOver:=by
 intro i g hg dQ hc;have hgs:g<size:=by
  obtain⟨op,ho,hog⟩:=az.1 (show(t[i]?).map (·.g)=some g from hg);rw[<-hog];exact h.gs op (mem_of_getElem? ho)
 obtain⟨q,z,h1,h2,h3⟩:=h.cnt i g hg ai (lQ g ai hgs) hc;refine⟨q,by simp[Trace.g?,h1,h2],?_⟩;rcases h3 with rfl|h3
 ·exfalso
  have :some g=some z.g:=by rw[<-hg];simp[Trace.g?,h1]
  rw[h2]at this;cases this;exact dQ rfl
 ·exact h3
end
end Go.AM
namespace Go.AM
open Go Go.Conc
open Go.ConcR (stA smA KK rd wr mk)
structure rQ (Wg:Nat)(w:ao)(st sm:Int):Prop where
 st:w.cell? ⟨Wg,0,none⟩=some (.int .u64 st)
 sm:w.cell? ⟨Wg,1,none⟩=some (.int .u32 sm)
 fz:∀o,o<=1->w.frozen? ⟨Wg,o,none⟩=false
def FK (Wg:Nat)(w:ao):Prop:=∃st sm,rQ Wg w st sm
def Pe (σ:nz)(w:ao):Prop:=
 match σ with
 | .fD g=>FK g.Wg w
 |_=>True
def setSt (Wg:Nat)(x:Int)(w:ao):ao:=w.setCell (stA Wg) (.int .u64 x)
def setSm (Wg:Nat)(x:Int)(w:ao):ao:=w.setCell (smA Wg) (.int .u32 x)
def VM:Nat:=4
inductive DSt where
 |k1|d1|d2|d3|d4
section
variable (P:aC)(Wg:Nat)
inductive DStep (J:DSt->ak->Prop)(n:Nat):DSt->ak->ao->Prop
 |quiet {s:DSt}{g g':ak}{w:ao}:stepG P false g w= .go g' w #[]->J s g'->DStep J n s g w
 |k1 {g g':ak}{w:ao}:stepG P false g w= .go g' w #[mk .disable]->J .d1 g'->DStep J n .k1 g w
 |d1 {g:ak}{w:ao}:(∀v wt:Nat,wt<=1->v<VM->rQ Wg w (((v:Int)+1)*KK+wt) 0->
   ∃g',stepG P false g w= .go g' (setSt Wg ((v:Int)*KK+wt) w) #[rd (stA Wg),wr (stA Wg)]/\((v=0/\wt=1)->J .d2 g')/\(¬(v=0/\wt=1)->QuitsD P n 1 g'))->DStep J n .d1 g w
 |d2 {g:ak}{w:ao}:(rQ Wg w 1 0->∃g',stepG P false g w= .go g' w #[rd (stA Wg)]/\J .d3 g')->DStep J n .d2 g w
 |d3 {g:ak}{w:ao}:(rQ Wg w 1 0->∃g',stepG P false g w= .go g' (setSt Wg 0 w) #[wr (stA Wg)]/\J .d4 g')->DStep J n .d3 g w
 |d4 {g:ak}{w:ao}:mayWake P g=true->(rQ Wg w 0 0->∃g',stepG P false g w= .go g' (setSm Wg 1 w) (semEvents (smA Wg))/\QuitsD P n 1 g')->DStep J n .d4 g w
def JD:Nat->DSt->ak->Prop
 |0,_,_=>False
 |n+1,s,g=>g.status= .running/\∀w,FK Wg w->DStep P Wg (JD n) n s g w
variable (p:dm)
inductive O9 (J:Perm->ak->ao->Prop)(n:Nat)(R:Perm)(g:ak)(w:ao):Prop
 |own {R':Perm}{g':ak}{w':ao}{es:Array Event}:Stepped P false R g w R' g' w' es->J R' g' w'->O9 J n R g w
 |rel {g':ak}:R.deaf=0->p.ok R w->stepG P false g w= .go g' w #[mk (.releaseMerge (stA Wg))]->JD P Wg n .k1 g'->O9 J n R g w
def JW:Nat->Perm->ak->ao->Prop
 |0,_,_,_=>False
 |n+1,R,g,w=>JW n R g w\/(g.status= .running/\∀aN,bg R w aN->FK Wg aN->O9 P Wg p (JW n) n R g aN)
end
def HL (p:dm):Prop:=∀R w aN,p.ok R w->bg R w aN->p.ok R aN
section
variable (P:aC)(Fin:ae->ao->Prop)
inductive rL (J:nz->Perm->ak->ao->Prop):nz->Perm->ak->ao->Prop
 |own {σ:nz}{R R':Perm}{g g':ak}{w w':ao}{es:Array Event}:g.status= .running->Stepped P true R g w R' g' w' es->J σ R' g' w'->rL J σ R g w
 |ends {R:Perm}{g:ak}{w w':ao}{v:ae}{es:Array Event}:g.status= .running->stepG P true g w= .ended (.done v) w' es->(∀e∈es,nJ R e)->R.deaf=0->Fin v w'->rL J .idle R g w
 |wR {R eM:Perm}{g:ak}{w:ao}{Wg:Nat}:jv eM R->(∀b o,eM.wr b o->eM.rd b o)->eM.deaf=R.deaf->R.wr Wg 0->R.wr Wg 1->rQ Wg w 0 0->(∀o,o<=1->¬eM.rd Wg o)->J (.fD ⟨Wg,[],.opn 0⟩) eM g w->rL J .idle R g w
 |add {Wg V:Nat}{ps:List dm}{R:Perm}{g:ak}{w:ao}:g.status= .running->V<VM->
   (∀v:Nat,v<=V->rQ Wg w ((v:Int)*KK) 0->∃g',stepG P true g w= .go g' (setSt Wg (((v:Int)+1)*KK) w) #[rd (stA Wg),wr (stA Wg)]/\J (.fD ⟨Wg,ps,.added V⟩) R g' w)->rL J (.fD ⟨Wg,ps,.opn V⟩) R g w
 |said {Wg:Nat}{ps:List dm}{s:Sub}{R:Perm}{g g':ak}{w:ao}{es:Array Event}:g.status= .running->stepG P true g w= .go g' w es->(∀e∈es,e=mk (.read (smA Wg))\/e=mk (.write (smA Wg)))->
   J (.fD ⟨Wg,ps,s⟩) R g' w->rL J (.fD ⟨Wg,ps,s⟩) R g w
 |spawn {Wg V kc:Nat}{ps:List dm}{p:dm}{R eM Rc:Perm}{g g' child:ak}{w:ao}:g.status= .running->R.deaf=0->stepG P true g w= .spawn g' child w #[]->
   jv eM R->jv Rc R->(∀b o,eM.wr b o->eM.rd b o)->(∀b o,Rc.wr b o->Rc.rd b o)->eM.deaf=0->Rc.deaf=0->l7 eM Rc->l7 Rc eM->HL p->JW P Wg p kc Rc child w->
   J (.fD ⟨Wg,p::ps,.opn (V+1)⟩) eM g' w->rL J (.fD ⟨Wg,ps,.added V⟩) R g w
 |load {Wg V:Nat}{ps:List dm}{R:Perm}{g:ak}{w:ao}:g.status= .running->
   (∀v:Nat,v<=V->rQ Wg w ((v:Int)*KK) 0->∃g',stepG P true g w= .go g' w #[rd (stA Wg)]/\(v=0->J (.fD ⟨Wg,ps,.fin⟩) R g' w)/\(v≠0->J (.fD ⟨Wg,ps,.seen v⟩) R g' w))->rL J (.fD ⟨Wg,ps,.opn V⟩) R g w
 |cas {Wg vs:Nat}{ps:List dm}{R:Perm}{g:ak}{w:ao}:g.status= .running->
   (∀v:Nat,v<=vs->rQ Wg w ((v:Int)*KK) 0->(v=vs->∃g',stepG P true g w= .go g' (setSt Wg ((v:Int)*KK+1) w) #[rd (stA Wg),wr (stA Wg)]/\J (.fD ⟨Wg,ps,.reg⟩) R g' w)/\
    (v≠vs->∃g',stepG P true g w= .go g' w #[rd (stA Wg)]/\J (.fD ⟨Wg,ps,.opn (vs-1)⟩) R g' w))->rL J (.fD ⟨Wg,ps,.seen vs⟩) R g w
 |sem {Wg:Nat}{ps:List dm}{R:Perm}{g:ak}{w:ao}:g.status= .running->g.offers=none->(∀st,rQ Wg w st 0->stepG P true g w= .go {g with status:= .blocked} w #[])->
   (rQ Wg w 0 1->∃g',stepG P true g w= .go g' (setSm Wg 0 w) (semEvents (smA Wg))/\J (.fD ⟨Wg,ps,.Uu⟩) R g' w)->rL J (.fD ⟨Wg,ps,.reg⟩) R g w
 |last {Wg:Nat}{ps:List dm}{R:Perm}{g:ak}{w:ao}:g.status= .running->(rQ Wg w 0 0->∃g',stepG P true g w= .go g' w #[rd (stA Wg)]/\J (.fD ⟨Wg,ps,.fin⟩) R g' w)->rL J (.fD ⟨Wg,ps,.Uu⟩) R g w
 |acq {Wg:Nat}{ps:List dm}{R:Perm}{g g':ak}{w:ao}:g.status= .running->R.deaf=0->stepG P true g w= .go g' w #[mk (.acquire (stA Wg))]->
   (∀Rs:List Perm,bH (fun p S=>p.ok S w/\w9 S w/\l7 R S/\l7 S R) ps Rs->Rs.Pairwise (fun S T=>l7 S T/\l7 T S)->
    ∃R',R'.deaf=0/\(∀b o,R'.wr b o->R'.rd b o)/\(∀b o,R'.rd b o->R.rd b o\/∃S∈Rs,S.rd b o)/\(∀b,R'.ob b->R.ob b\/∃S∈Rs,S.ob b)/\J .idle R' g' w)->rL J (.fD ⟨Wg,ps,.fin⟩) R g w
def JM:nz->Nat->Perm->ak->ao->Prop
 |_,0,_,_,_=>False
 |σ,n+1,R,g,w=>JM σ n R g w\/∀aN,bg R w aN->Pe σ aN->rL P Fin (fun gj R' g' w'=>JM gj n R' g' w') σ R g aN
end
section
variable {P:aC}{Fin:ae->ao->Prop}{Wg:Nat}{p:dm}
theorem rA:fY P false (fun n R g w=>JW P Wg p n R g w):=
 ⟨fun h=> .inl h,fun hr h=> .inr ⟨hr,fun aN hk _=>let⟨g',w',es,R',h1,h2⟩:=h aN hk; .own h1 h2⟩⟩
theorem iz:∀σ,fY P true (JM P Fin σ):=fun σ=>
 ⟨fun h=> .inl h,fun hr h=> .inr fun aN hk _=>let⟨g',w',es,R',h1,h2⟩:=h aN hk; .own hr h1 h2⟩
theorem JW.keeps:∀{n:Nat}{R:Perm}{g:ak}{w aN:ao},JW P Wg p n R g w->bg R w aN->JW P Wg p n R g aN
 |0,_,_,_,_,h,_=>h
 |n+1,R,g,w,aN,h,k=>h.imp (fun x=>x.keeps k) fun x=>⟨x.1,fun ix k₂=>x.2 ix (k.trans k₂)⟩
theorem JM.keeps:∀{n:Nat}{σ:nz}{R:Perm}{g:ak}{w aN:ao},JM P Fin σ n R g w->bg R w aN->JM P Fin σ n R g aN
 |0,_,_,_,_,_,h,_=>h
 |n+1,σ,R,g,w,aN,h,k=>h.imp (fun x=>x.keeps k) fun x ix k₂=>x ix (k.trans k₂)
theorem JW.out:∀{n:Nat}{R:Perm}{g:ak}{w:ao},JW P Wg p n R g w->∃m,m<n/\g.status= .running/\(FK Wg w->O9 P Wg p (JW P Wg p m) m R g w)
 |0,_,_,_,h=>h.elim
 |n+1,R,g,w,h=>h.elim (fun x=>let⟨m,h1,h2⟩:=JW.out x;⟨m,ai,h2⟩) fun x=>⟨n,ai,x.1,x.2 w (bg.refl _ _)⟩
theorem JM.out:∀{n:Nat}{σ:nz}{R:Perm}{g:ak}{w:ao},JM P Fin σ n R g w->∃m,m<n/\(Pe σ w->rL P Fin (fun gj R' g' w'=>JM P Fin gj m R' g' w') σ R g w)
 |0,_,_,_,_,h=>h.elim
 |n+1,σ,R,g,w,h=>h.elim (fun x=>let⟨m,h1,h2⟩:=JM.out x;⟨m,ai,h2⟩) fun x=>⟨n,ai,x w (bg.refl _ _)⟩
theorem JM.le{n m:Nat}{σ:nz}{R:Perm}{g:ak}{w:ao}(h:JM P Fin σ n R g w)(hn:n<=m):JM P Fin σ m R g w:=(iz σ).le hn h
theorem JD.mono:∀{n:Nat}{s:DSt}{g:ak},JD P Wg n s g->g.status= .running
 |0,_,_,h=>h.elim
 |_+1,_,_,h=>h.1
end
end Go.AM
namespace Go.AM
open Go Go.Conc
open Go.ConcN (RelBy upd upd_same upd_ne)
open Go.ConcR (stA smA KK rd wr mk)
theorem ui (w:ao)(a:Addr)(v:ae)(b o:Nat):(w.setCell a v).frozen? ⟨b,o,none⟩=w.frozen? ⟨b,o,none⟩:=by
 unfold ao.frozen? ao.setCell;simp only[Array.getElem?_modify]
 by_cases h:a.block=b
 ·subst h;cases hb:w.heap[a.block]? with
  |none=>simp
  |some x=>cases x with
   |cells c e f=>simp
   |_=>simp
 ·simp[h]
theorem size_setCell (w:ao)(a:Addr)(v:ae):(w.setCell a v).heap.size=w.heap.size:=by simp[ao.setCell]
theorem heap_setCell (w:ao)(a:Addr)(v:ae)(b:Nat)(h:a.block≠b):(w.setCell a v).heap[b]?=w.heap[b]?:=by
 unfold ao.setCell;simp only[Array.getElem?_modify,h,if_false]
theorem DX {w:ao}{b o:Nat}{v:ae}(h:w.cell? ⟨b,o,none⟩=some v):w.shape? b≠none:=by
 unfold ao.cell? at h;unfold ao.shape?;cases hb:w.heap[b]? with
 |none=>simp[hb]at h
 |some x=>cases x<;>simp_all
section
variable {Wg:Nat}{w w':ao}{st sm x:Int}{R S:Perm}
theorem rQ.setSt(h:rQ Wg w st sm)(x:Int):rQ Wg (setSt Wg x w) x sm:=by
 refine⟨?_,?_,fun o ho=>(ui ..).trans (h.fz o ho)⟩
 ·show(w.setCell (stA Wg) _).cell? _=_
  rw[gY _ _ _ _ _ rfl];simp[stA,h.st]
 ·show(w.setCell (stA Wg) _).cell? _=_
  rw[gY _ _ _ _ _ rfl];simp[stA,h.sm]
theorem rQ.setSm(h:rQ Wg w st sm)(x:Int):rQ Wg (setSm Wg x w) st x:=by
 refine⟨?_,?_,fun o ho=>(ui ..).trans (h.fz o ho)⟩
 ·show(w.setCell (smA Wg) _).cell? _=_
  rw[gY _ _ _ _ _ rfl];simp[smA,h.st]
 ·show(w.setCell (smA Wg) _).cell? _=_
  rw[gY _ _ _ _ _ rfl];simp[smA,h.sm]
theorem rQ.at(h:rQ Wg w st sm)(d:Nat):rQ Wg (w.at d) st sm:=⟨h.st,h.sm,h.fz⟩
theorem vH {o:Nat}{v u:ae}(hl:w9 R w)(hs:¬R.rd Wg o)(hc:w.cell? ⟨Wg,o,none⟩=some u):bg R w (w.setCell ⟨Wg,o,none⟩ v):=by
 refine⟨rfl,rfl,rfl,by rw[size_setCell];exact aj _,fun b _=>qJ ..,fun b x hr=>?_,fun b x _=>oO ..,fun b hb=>heap_setCell _ _ _ _ fun e=>?_⟩
 ·rw[gY _ _ _ _ _ rfl]
  split
  ·rename_i h;obtain⟨rfl,rfl,_⟩:=h;exact absurd hr hs
  ·rfl
 ·simp only at e;subst e;exact DX hc (hl.ob _ hb).2
theorem qx (hl:w9 R w)(hs:∀o,o<=1->¬R.rd Wg o)(h:rQ Wg w st sm):bg R w (setSt Wg x w):=vH hl (hs 0 ai) h.st
theorem Aa (hl:w9 R w)(hs:∀o,o<=1->¬R.rd Wg o)(h:rQ Wg w st sm):bg R w (setSm Wg x w):=vH hl (hs 1 ai) h.sm
theorem rQ.OX(h:rQ Wg w st sm)(c:tu R w.heap.size w w')(hW:Wg<w.heap.size)(hs:∀o,o<=1->¬R.wr Wg o):rQ Wg w' st sm:=
 ⟨(c.cell Wg 0 hW (hs 0 ai)).trans h.st,(c.cell Wg 1 hW (hs 1 ai)).trans h.sm,fun o ho=>(uh (c.qQ Wg o hW)).trans (h.fz o ho)⟩
theorem E5 (c:tu R w.heap.size w w')(hd:l7 R S)(hl:w9 S w):bg S w w':=
 ⟨c.tape,c.os,c.output,c.size,fun b hb=>c.shape b hb,fun b o hr=>c.cell b o (hl.rd b o hr) fun hw=>hd.cell b o hw hr,fun b o hb=>c.qQ b o hb,
  fun b hb=>c.obj b (hl.ob b hb).1 (fun hr=>hd.obj b hr hb) (hl.ob b hb).2⟩
end
section
variable {sh:Nat->Prop}{D:Nat->WS}{size k Wg:Nat}{w w':ao}{R R':Perm}
theorem Lay.own(L:Lay sh D size w)(hk:k<size)(hD:D k= .work R)(ml:eK R R' w.heap.size)(hl:w9 R' w')(hs:w.heap.size<=w'.heap.size)
  (gm:∀j S,j≠k->j<size->(D j).eh=some S->bg S w w'):Lay sh (upd D k (.work R')) size w':=by
 have hp:(D k).eh=some R:=by rw[hD];rfl
 have Dh:∀j S,(upd D k (.work R') j).eh=some S->(j=k/\S=R')\/(j≠k/\(D j).eh=some S):=by
  intro j S h
  by_cases e:j=k
  ·subst e;rw[upd_same]at h;exact .inl ⟨rfl,(Option.some.inj h).symm⟩
  ·rw[upd_ne _ _ e]at h;exact .inr ⟨e,h⟩
 have CM:=L.low k R hk hp;have dl:∀j S,j≠k->j<size->(D j).eh=some S->l7 R' S:=by
  intro j S hj CN hS;have d:=L.HY k j R S (Ne.symm hj) hk CN hp hS;have l:=L.low j S CN hS;exact⟨fun b o h1 h2=>(ml.wr b o h1).elim (fun x=>d.cell b o x h2) fun x=>absurd (l.rd b o h2) ai,fun b h1 h2=>(ml.ob b h1).elim (fun x=>d.obj b x h2) fun x=>absurd (l.ob b h2).1 ai⟩
 have dr:∀j S,j≠k->j<size->(D j).eh=some S->l7 S R':=by
  intro j S hj CN hS;have d:=L.HY j k S R hj CN hk hS hp;have l:=L.low j S CN hS;exact⟨fun b o h1 h2=>(ml.rd b o h2).elim (fun x=>d.cell b o h1 x) fun x=>absurd (l.rd b o (l.wr b o h1)) ai,fun b h1 h2=>(ml.ob b h2).elim (fun x=>d.obj b h1 x) fun x=>absurd (l.ob b h1).1 ai⟩
 refine⟨fun j S hj hS=>?_,fun i j S T jq hi hj hS hT=>?_,fun j S hj hS b o hr hb=>?_,fun b hb=>aW (L.sh b hb) hs⟩
 ·rcases Dh j S hS with⟨rfl,rfl⟩|⟨e,h⟩
  ·exact hl
  ·exact(L.low j S hj h).keeps (gm j S e hj h)
 ·rcases Dh i S hS with⟨rfl,rfl⟩|⟨e,h⟩
  ·rcases Dh j T hT with⟨rfl,rfl⟩|⟨e',h'⟩
   ·exact absurd rfl jq
   ·exact dl j T e' hj h'
  ·rcases Dh j T hT with⟨rfl,rfl⟩|⟨e',h'⟩
   ·exact dr i S e hi h
   ·exact L.HY i j S T jq hi hj h h'
 ·rcases Dh j S hS with⟨rfl,rfl⟩|⟨e,h⟩
  ·exact(ml.rd b o hr).elim (fun x=>L.DW j R hk hp b o x hb) fun x=>absurd (L.sh b hb) ai
  ·exact L.DW j S hj h b o hr hb
theorem Lay.FX(L:Lay sh D size w)(hs:w.heap.size<=w'.heap.size)(gm:∀j S,j<size->(D j).eh=some S->bg S w w'):Lay sh D size w':=
 ⟨fun j S hj hS=>(L.low j S hj hS).keeps (gm j S hj hS),L.HY,L.DW,fun b hb=>aW (L.sh b hb) hs⟩
theorem Lay.same{D':Nat->WS}(L:Lay sh D size w)(h:∀j,j<size->(D' j).eh=(D j).eh\/(D' j).eh=none):Lay sh D' size w:=by
 have key:∀j S,j<size->(D' j).eh=some S->(D j).eh=some S:=fun j S hj hS=>by
  rcases h j hj with e|e
  ·rw[<-e];exact hS
  ·rw[e]at hS;cases hS
 exact⟨fun j S hj hS=>L.low j S hj (key j S hj hS),fun i j S T jq hi hj hS hT=>L.HY i j S T jq hi hj (key i S hi hS) (key j T hj hT),fun j S hj hS=>L.DW j S hj (key j S hj hS),L.sh⟩
end
end Go.AM
namespace Go.AM
open Go Go.Conc
open Go.ConcN (RelBy upd upd_same upd_ne sumTo sumTo_upd sumTo_congr le_sumTo)
open Go.ConcR (stA smA KK rd wr mk)
theorem rE {R:Perm}{e:Event}{b:Touch}(hl:∀b o,R.wr b o->R.rd b o)(h:EvW R e)(hb:(MemAct.ofEvent e).touch?=some b):TP R b.loc/\(b.write=true->Xl R b.loc):=by
 obtain⟨loc,FR,sy⟩:=e;rcases h with h|h|h
 ·cases loc with
  |cell a=>
   rw[ofEvent_cell0]at hb;simp only[MemAct.touch?,ah]at hb;subst hb;obtain⟨h1,h2⟩:=h;refine⟨⟨h1,?_⟩,fun hw=>⟨h1,?_⟩⟩
   ·by_cases hw:FR=true
    ·simp only[hw,if_true]at h2;exact hl _ _ h2
    ·simp only[hw,if_false]at h2;exact h2
   ·simp only at hw;simp only[hw,if_true]at h2;exact h2
  |obj r=>
   obtain⟨h1,h2⟩:=h;simp only at h2;subst h2;cases FR<;>simp[MemAct.ofEvent,MemAct.touch?]at hb<;>subst hb<;>exact⟨h1,fun _=>h1⟩
  |mark m=>
   have hm:GG m:=h;cases m<;>simp_all [MemAct.ofEvent,MemAct.touch?,GG]
  |_=>exact h.elim
 ·simp only at h;subst h;simp[MemAct.ofEvent,MemAct.touch?]at hb
 ·simp only at h;subst h;simp[MemAct.ofEvent,MemAct.touch?]at hb
theorem C1 {R:Perm}{e:Event}(h:EvW R e)(a:Addr):MemAct.ofEvent e≠ .mark (.release a):=by
 intro hx;have hl:=Go.ConcR.loc_of_ofEvent hx;rcases h with h|h|h
 ·unfold nJ at h;rw[hl]at h;exact h
 ·rw[h]at hl;cases hl
 ·rw[h]at hl;cases hl
theorem G3 {R:Perm}{w:ao}(h:w9 R w){l:Loc}(hl:TP R l):l.low w.heap.size:=by
 cases l with
 |cell a=>exact h.rd _ _ hl.2
 |obj r=>exact(h.ob _ hl).1
 |_=>trivial
def Vc (size:Nat)(S:Nat->Nat):Nat:=sumTo size fun i=>if 5<=S i then 1 else 0
def OpenSt (lo size:Nat)(S:Nat->Nat):Prop:=∀i,lo<=i->i<size->S i=7\/S i=6\/S i=5\/S i=1
def AllQuit (lo size:Nat)(S:Nat->Nat):Prop:=∀i,lo<=i->i<size->S i=1
inductive Mode (lo size:Nat)(S:Nat->Nat):Sub->Bool->Int->Int->Prop
 |opn {V:Nat}:OpenSt lo size S->Vc size S<=V->V<=VM->Mode lo size S (.opn V) false ((Vc size S:Nat)*KK) 0
 |added {V:Nat}:OpenSt lo size S->Vc size S<=V->V<VM->Mode lo size S (.added V) false (((Vc size S:Nat)+1)*KK) 0
 |seen {vs:Nat}:OpenSt lo size S->Vc size S<=vs->1<=vs->vs<=VM->Mode lo size S (.seen vs) false ((Vc size S:Nat)*KK) 0
 |reg {b:Bool}:OpenSt lo size S->1<=Vc size S->Vc size S<=VM->Mode lo size S .reg b ((Vc size S:Nat)*KK+1) 0
 |last {b:Bool} (L:Nat):lo<=L->L<size->S L=4\/S L=3\/S L=2->(∀i,lo<=i->i<size->i≠L->S i=1)->Mode lo size S .reg b (if S L=2 then 0 else 1) 0
 |sema:AllQuit lo size S->Mode lo size S .reg false 0 1
 |Uu:AllQuit lo size S->Mode lo size S .Uu false 0 0
 |fin:AllQuit lo size S->Mode lo size S .fin false 0 0
section
variable {lo size:Nat}{S:Nat->Nat}{s:Sub}{b:Bool}{st sm:Int}
theorem KZ (S:Nat->Nat){i x:Nat}(hi:i<size):Vc size (upd S i x)+(if 5<=S i then 1 else 0)=Vc size S+(if 5<=x then 1 else 0):=
 sumTo_upd S x (fun y=>if 5<=y then 1 else 0) hi
theorem K0 (S:Nat->Nat){i:Nat}(hi:i<size)(h:5<=S i):1<=Vc size S:=by
 have :=le_sumTo (f:=fun i=>if 5<=S i then 1 else 0) hi;simp only[h,if_true]at this;exact this
theorem aan (S:Nat->Nat){i j:Nat}(hi:i<size)(hj:j<size)(jq:j≠i)(h:5<=S i)(h':5<=S j):2<=Vc size S:=by
 have h1:=KZ S (x:=0) hi;have h2:=K0 (upd S i 0) hj (by rw[upd_ne _ _ jq];exact h');simp only[h,if_true]at h1;simp at h1;omega
theorem VW (h:Vc size S=0){i:Nat}(hi:i<size):¬5<=S i:=fun h5=>by have :=K0 S hi h5;omega
theorem Mode.Bt(h:Mode lo size S s b st sm)(b':Bool)(hb:b'=b\/b'=false):Mode lo size S s b' st sm:=by
 rcases hb with rfl|rfl
 ·exact h
 ·cases h with
  |opn h1 h2 h3=>exact .opn h1 h2 h3
  |added h1 h2 h3=>exact .added h1 h2 h3
  |seen h1 h2 h3 h4=>exact .seen h1 h2 h3 h4
  |reg h1 h2 h3=>exact .reg h1 h2 h3
  |last L h1 h2 h3 h4=>exact .last L h1 h2 h3 h4
  |sema h1=>exact .sema h1
  |Uu h1=>exact .Uu h1
  |fin h1=>exact .fin h1
theorem Mode.ahI(h:Mode lo size S s b st sm){i x:Nat}(jd:lo<=i)(hi:i<size)(h5:5<=S i)(hx:x=7\/x=6\/x=5):Mode lo size (upd S i x) s b st sm:=by
 have hv:Vc size (upd S i x)=Vc size S:=by
  have :=KZ S (x:=x) hi;simp only[h5,if_true,show 5<=x by omega]at this;omega
 have ho:OpenSt lo size S->OpenSt lo size (upd S i x):=fun h a h1 h2=>by
  by_cases e:a=i
  ·subst e;rw[upd_same];omega
  ·rw[upd_ne _ _ e];exact h a h1 h2
 cases h with
 |opn h1 h2 h3=>rw[<-hv]at h2⊢;exact .opn (ho h1) h2 h3
 |added h1 h2 h3=>rw[<-hv]at h2⊢;exact .added (ho h1) h2 h3
 |seen h1 h2 h3 h4=>rw[<-hv]at h2⊢;exact .seen (ho h1) h2 h3 h4
 |reg h1 h2 h3=>rw[<-hv]at h2 h3⊢;exact .reg (ho h1) h2 h3
 |last L h1 h2 h3 h4=>
  by_cases e:i=L
  ·subst e;omega
  ·have :=h4 i jd hi e;omega
 |sema h1=>have :=h1 i jd hi;omega
 |Uu h1=>have :=h1 i jd hi;omega
 |fin h1=>have :=h1 i jd hi;omega
theorem Mode.isLast(h:Mode lo size S s b st sm){i:Nat}(jd:lo<=i)(hi:i<size)(hs:S i=4\/S i=3\/S i=2):
  s= .reg/\(∀a,lo<=a->a<size->a≠i->S a=1)/\st=(if S i=2 then 0 else 1)/\sm=0:=by
 cases h with
 |opn h1 _ _=>have :=h1 i jd hi;omega
 |added h1 _ _=>have :=h1 i jd hi;omega
 |seen h1 _ _ _=>have :=h1 i jd hi;omega
 |reg h1 _ _=>have :=h1 i jd hi;omega
 |last L h1 h2 h3 h4=>
  by_cases e:i=L
  ·subst e;exact⟨rfl,h4,rfl,rfl⟩
  ·have :=h4 i jd hi e;omega
 |sema h1=>have :=h1 i jd hi;omega
 |Uu h1=>have :=h1 i jd hi;omega
 |fin h1=>have :=h1 i jd hi;omega
theorem Mode.minus(h:Mode lo size S s b st sm){i:Nat}(jd:lo<=i)(hi:i<size)(hs:S i=5):
  ∃v wt:Nat,wt<=1/\v<VM/\st=((v:Int)+1)*KK+wt/\sm=0/\((v=0/\wt=1)->Mode lo size (upd S i 4) s b ((v:Int)*KK+wt) 0)/\(¬(v=0/\wt=1)->Mode lo size (upd S i 1) s b ((v:Int)*KK+wt) 0):=by
 have hp:=K0 S hi (by omega:5<=S i);have hv:∀x,¬5<=x->Vc size (upd S i x)+1=Vc size S:=by
  intro x hx;have :=KZ S (x:=x) hi;simp only[show 5<=S i by omega,if_true,hx,if_false]at this;omega
 have ho:OpenSt lo size S->OpenSt lo size (upd S i 1):=fun h a h1 h2=>by
  by_cases e:a=i
  ·subst e;rw[upd_same];simp
  ·rw[upd_ne _ _ e];exact h a h1 h2
 have h1:=hv 1 ai;obtain⟨v,hvv⟩:∃v,Vc size S=v+1:=⟨Vc size S-1,ai⟩;have e1:Vc size (upd S i 1)=v:=ai;cases h with
 |opn h2 h3 h4=>
  refine⟨v,0,ai,ai,?_,rfl,fun x=>absurd x.2 ai,fun _=>?_⟩
  ·rw[hvv];simp
  ·have :Mode lo size (upd S i 1) (.opn _) false ((Vc size (upd S i 1):Nat)*KK) 0:= .opn (ho h2) (by omega:Vc size (upd S i 1)<= _) h4;rw[e1]at this;simpa using this
 |added h2 h3 h4=>
  refine⟨v+1,0,ai,ai,?_,rfl,fun x=>absurd x.2 ai,fun _=>?_⟩
  ·rw[hvv];simp
  ·have :Mode lo size (upd S i 1) (.added _) false (((Vc size (upd S i 1):Nat)+1)*KK) 0:= .added (ho h2) (by omega:Vc size (upd S i 1)<= _) h4;rw[e1]at this;simpa using this
 |seen h2 h3 h4 h5=>
  refine⟨v,0,ai,ai,?_,rfl,fun x=>absurd x.2 ai,fun _=>?_⟩
  ·rw[hvv];simp
  ·have :Mode lo size (upd S i 1) (.seen _) false ((Vc size (upd S i 1):Nat)*KK) 0:= .seen (ho h2) (by omega:Vc size (upd S i 1)<= _) h4 h5;rw[e1]at this;simpa using this
 |reg h2 h3 h4=>
  refine⟨v,1,ai,ai,?_,rfl,fun x=>?_,fun x=>?_⟩
  ·rw[hvv];simp
  ·obtain⟨rfl,_⟩:=x;have :Mode lo size (upd S i 4) .reg b (if upd S i 4 i=2 then 0 else 1) 0:= .last i jd hi (by rw[upd_same];simp) fun a VH Ut dQ=>by
    rw[upd_ne _ _ dQ];have h6:=h2 a VH Ut
    by_cases h7:5<=S a
    ·have :=aan S hi Ut dQ ai h7;omega
    ·omega
   rw[upd_same]at this;simpa using this
  ·have :Mode lo size (upd S i 1) .reg b ((Vc size (upd S i 1):Nat)*KK+1) 0:= .reg (ho h2) ai ai;rw[e1]at this;simpa using this
 |last L h2 h3 h4 h5=>
  by_cases e:i=L
  ·subst e;omega
  ·have :=h5 i jd hi e;omega
 |sema h2=>have :=h2 i jd hi;omega
 |Uu h2=>have :=h2 i jd hi;omega
 |fin h2=>have :=h2 i jd hi;omega
theorem allQuit_of (h:OpenSt lo size S)(h0:Vc size S=0):AllQuit lo size S:=fun i h1 h2=>by
 have :=h i h1 h2;have :=VW h0 h2;omega
end
section
variable (P:aC)(Wg:Nat)(p:dm)
inductive WSit:WS->Nat->Nat->Nat->ak->ao->Prop
 |work {R:Perm}{n:Nat}{g:ak}{w:ao}:JW P Wg p n R g w->WSit (.work R) 7 n R.deaf g w
 |k1 {R:Perm}{r n:Nat}{g:ak}{w:ao}:JD P Wg n .k1 g->WSit (.rel R r) 6 n 0 g w
 |d1 {R:Perm}{r n:Nat}{g:ak}{w:ao}:JD P Wg n .d1 g->WSit (.rel R r) 5 n 1 g w
 |d2 {R:Perm}{r n:Nat}{g:ak}{w:ao}:JD P Wg n .d2 g->WSit (.rel R r) 4 n 1 g w
 |d3 {R:Perm}{r n:Nat}{g:ak}{w:ao}:JD P Wg n .d3 g->WSit (.rel R r) 3 n 1 g w
 |d4 {R:Perm}{r n:Nat}{g:ak}{w:ao}:JD P Wg n .d4 g->WSit (.rel R r) 2 n 1 g w
 |gone {R:Perm}{r n d:Nat}{g:ak}{w:ao}:QuitsD P n d g->WSit (.rel R r) 1 n d g w
 |old {n d:Nat}{g:ak}{w:ao}:QuitsD P n d g->WSit .old 0 n d g w
end
section
variable {P:aC}{Wg:Nat}{p:dm}{ws:WS}{s n d:Nat}{g:ak}{w w':ao}
theorem WSit.status(h:WSit P Wg p ws s n d g w):g.status= .running\/(g.status= .finished/\s<=1):=by
 cases h with
 |work h=>exact .inl (JW.out h).choose_spec.2.1
 |k1 h=>exact .inl h.mono
 |d1 h=>exact .inl h.mono
 |d2 h=>exact .inl h.mono
 |d3 h=>exact .inl h.mono
 |d4 h=>exact .inl h.mono
 |gone h=>exact h.status.imp id fun x=>⟨x,ai⟩
 |old h=>exact h.status.imp id fun x=>⟨x,ai⟩
theorem WSit.woken(h:WSit P Wg p ws s n d g w)(a b:ak)(w':ao):woken P a b w' g=g:=by
 unfold Go.Conc.woken
 split
 ·exact again_running _ (h.status.imp id (·.1))
 ·rfl
theorem WSit.keeps(h:WSit P Wg p ws s n d g w)(k:∀R,ws.eh=some R->bg R w w'):WSit P Wg p ws s n d g w':=by
 cases h with
 |work h=>exact .work (h.keeps (k _ rfl))
 |k1 h=>exact .k1 h
 |d1 h=>exact .d1 h
 |d2 h=>exact .d2 h
 |d3 h=>exact .d3 h
 |d4 h=>exact .d4 h
 |gone h=>exact .gone h
 |old h=>exact .old h
end
structure Com (P:aC)(Wg:Nat)(sh:Nat->Prop)(lo:Nat)(D:Nat->WS)(S F:Nat->Nat)(ps:Nat->dm)(gs:Array ak)(w:ao)(t:Trace):Prop where
 lom:1<=lo/\lo<=gs.size
 wk:∀i,0<i->i<gs.size->∃g,gs[i]?=some g/\WSit P Wg (ps i) (D i) (S i) (F i) (Deaf t i) g w
 old:∀i,i<lo->S i=0
 act:∀i,lo<=i->i<gs.size->S i≠0
 post:∀i R r,i<gs.size->D i= .rel R r->(ps i).ok R w
 Ga:∀i,lo<=i->i<gs.size->HL (ps i)
 above:∀j,gs.size<=j->Deaf t j=0
 lay:Lay sh D gs.size w
 ti:TI Wg sh D gs.size w.heap.size t
end Go.AM
namespace Go.AM
open Go Go.Conc
open Go.ConcN (RelBy upd upd_same upd_ne sumTo sumTo_upd sumTo_congr le_sumTo)
open Go.ConcR (stA smA KK rd wr mk)
def Ay (σ:nz)(Wg:Nat)(sh:Nat->Prop)(lo size:Nat)(S:Nat->Nat)(ps:Nat->dm)(b:Bool)(w:ao):Prop:=
 match σ with
 | .Br=>False
 | .idle=>lo=size/\b=false
 | .fD gr=>gr.Wg=Wg/\sh Wg/\gr.vG=((List.range (size-lo)).map fun i=>ps (lo+i)).reverse/\∃st sm,rQ Wg w st sm/\Mode lo size S gr.sub b st sm
theorem Ay.live{σ:nz}{Wg:Nat}{sh:Nat->Prop}{lo size:Nat}{S:Nat->Nat}{ps:Nat->dm}{b:Bool}{w:ao}(h:Ay σ Wg sh lo size S ps b w):Pe σ w:=by
 cases σ with
 |Br=>trivial
 |idle=>trivial
 |fD gr=>obtain⟨rfl,_,_,st,sm,h1,_⟩:=h;exact⟨st,sm,h1⟩
def nD (b:Bool)(g:ak):ak:=if b then{g with status:= .blocked}else g
structure IV (P:aC)(Fin:ae->ao->Prop)(gs:Array ak)(w:ao)(t:Trace)(σ:nz)(n:Nat)(R:Perm)(g:ak)(Wg:Nat)(sh:Nat->Prop)(lo:Nat)(D:Nat->WS)(S F:Nat->Nat)(ps:Nat->dm)(b:Bool):Prop where
 main:gs[0]?=some (nD b g)
 blk:b=true->g.status= .running/\g.offers=none
 jm:JM P Fin σ n R g w
 perm:D 0= .work R
 deaf:Deaf t 0=R.deaf
 ei:Com P Wg sh lo D S F ps gs w t
 fD:Ay σ Wg sh lo gs.size S ps b w
def meas (n:Nat)(b:Bool)(size:Nat)(F:Nat->Nat):Nat×Nat:=(n,(if b then 0 else 1)+2*sumTo size F)
def Inv (P:aC)(Fin:ae->ao->Prop)(μ:Nat×Nat)(m:Machine)(t:Trace):Prop:=
 ∃gs w sl σ n R g Wg sh lo D S F ps b,m=crowd gs w sl/\IV P Fin gs w t σ n R g Wg sh lo D S F ps b/\μ=meas n b gs.size F
section
variable {P:aC}{Fin:ae->ao->Prop}{gs:Array ak}{w w':ao}{t:Trace}{σ:nz}{n:Nat}{R:Perm}{g:ak}{Wg:Nat}{sh:Nat->Prop}{lo:Nat}{D:Nat->WS}{S F:Nat->Nat}{ps:Nat->dm}{b:Bool}{sl:Option (Nat×Nat)}
theorem IV.size(I:IV P Fin gs w t σ n R g Wg sh lo D S F ps b):0<gs.size:=(Array.getElem?_eq_some_iff.1 I.main).1
theorem IV.Tk(I:IV P Fin gs w t σ n R g Wg sh lo D S F ps b):w9 R w:=I.ei.lay.low 0 R I.size (by rw[I.perm];rfl)
theorem JM.running:∀(n:Nat) {σ:nz}{R:Perm}{g:ak}{w:ao},JM P Fin σ n R g w->Pe σ w->g.status= .running:=by
 intro n
 induction n using Nat.strongRecOn with
 |_ n ih=>
  intro σ R g w h hl;obtain⟨m,hm,hs⟩:=h.out;cases hs hl with
  |own h _ _=>exact h
  |ends h _ _ _ _=>exact h
  |wR _ _ _ _ _ h1 _ h2=>exact ih m hm h2 ⟨_,_,h1⟩
  |add h _ _=>exact h
  |said h _ _ _=>exact h
  |spawn h=>exact h
  |load h _=>exact h
  |cas h _=>exact h
  |sem h _ _ _=>exact h
  |last h _=>exact h
  |acq h _ _ _=>exact h
theorem I8 (hb:b=false->g.status= .running):awake (nD b g):=by
 cases b with
 |false=>exact awake_of (.inl (hb rfl))
 |true=>exact awake_of (.inr (.inl rfl))
theorem H4 {a a':ak}(gR:g.status= .running)(ab9:b=true->g.offers=none)(mn:a'.status= .running\/a'.status= .finished):
  ∃b',woken P a a' w' (nD b g)=nD b' g/\(b'=b\/b'=false)/\(mayWake P a=true->b'=false):=by
 have hc:(a'.status != .blocked&&a'.status != .waiting)=true:=by rcases mn with h|h<;>rw[h]<;>rfl
 cases b with
 |false=>
  refine⟨false,?_,.inl rfl,fun _=>rfl⟩
  show woken P a a' w' g=g
  exact woken_running gR
 |true=>
  by_cases hm:mayWake P a=true
  ·refine⟨false,?_,.inr rfl,fun _=>rfl⟩;unfold Go.Conc.woken;rw[bj (by rw[ag]at hc;simp[hm,hc.1,hc.2])];exact Go.ConcR.again_blocked gR (ab9 rfl) w'
  ·refine⟨true,?_,.inl rfl,fun h=>absurd h hm⟩;unfold Go.Conc.woken;rw[bW (by simp[hm])]
theorem IV.running(I:IV P Fin gs w t σ n R g Wg sh lo D S F ps b):g.status= .running:=JM.running n I.jm I.fD.live
theorem IV.worker(I:IV P Fin gs w t σ n R g Wg sh lo D S F ps b){i:Nat}(wE:0<i)(hi:i<gs.size){a a':ak}{es:Array Event}(ha:gs[i]?=some a)(fp:stepG P false a w= .go a' w' es)
  {ws:WS}{s m:Nat}(gm:∀j T,j≠i->j<gs.size->(D j).eh=some T->bg T w w')(Xt:WSit P Wg (ps i) ws s m (deafBehind (Deaf t i) es) a' w')(ag8:∀T r,ws= .rel T r->(ps i).ok T w')
  (hold:s=0↔S i=0)(T7:Lay sh (upd D i ws) gs.size w')(TU:TI Wg sh (upd D i ws) gs.size w'.heap.size (t++MemOp.ofEvents i a.frame.fn a.frame.place es))(Fb:m<F i)
  (AN:∀b',(b'=b\/b'=false)->(mayWake P a=true->b'=false)->Ay σ Wg sh lo gs.size (upd S i s) ps b' w'):
  ∃m₁ ops pf,runT P (crowd gs w sl) i=(.next m₁,ops)/\Lt2 pf (meas n b gs.size F)/\Inv P Fin pf m₁ (t++ops):=by
 have gR:=runT_crowd_go (P:=P) (sl:=sl) (i:=i) ha (by rw[show(i==0)=false by simp;omega];exact fp);have acd:i≠0:=ai;obtain⟨b',nN,nU,hb3⟩:=H4 (P:=P) (w':=w') (a:=a) (a':=a') I.running (fun h=>(I.blk h).2) (Xt.status.imp id (·.1));have ig:((gs.map (woken P a a' w')).setIfInBounds i a').size=gs.size:=du;have Mk:∀op∈MemOp.ofEvents i a.frame.fn a.frame.place es,op.g=i:=Go.ConcR.g_of_ofEvents;have hkR:bg R w w':=gm 0 R ai I.size (by rw[I.perm];rfl);refine⟨_,_,_,gR,?_,_,w',sl,σ,n,R,g,Wg,sh,lo,upd D i ws,upd S i s,upd F i m,ps,b',rfl,⟨?_,fun h=>?_,I.jm.keeps hkR,by rw[upd_ne _ _ ai];exact I.perm,?_,⟨?_,fun j Jz hj=>?_,fun j hj=>?_,fun j Qf hj=>?_,fun j T r hj j6=>?_,?_,fun j hj=>?_,?_,?_⟩,?_⟩,rfl⟩
 ·rw[ig];unfold meas;refine Prod.Lex.right _ ?_;have h1:=sumTo_upd F m id hi;simp only[id]at h1;have h2:(if b' then 0 else 1)<=(if b then 0 else 1)+1:=by split<;>split<;>omega
  have h3:(sumTo gs.size fun x=>upd F i m x)=sumTo gs.size (upd F i m):=rfl;have h4:(sumTo gs.size fun x=>F x)=sumTo gs.size F:=rfl;rw[h3,h4]at h1;omega
 ·rw[Array.getElem?_setIfInBounds_ne acd,Array.getElem?_map,I.main,cU,nN]
 ·rcases nU with rfl|rfl
  ·exact I.blk h
  ·cases h
 ·rw[Deaf_other t ai _ Mk];exact I.deaf
 ·rw[ig];exact I.ei.lom
 ·rw[ig]at hj
  by_cases e:j=i
  ·subst e;refine⟨a',by rw[Array.getElem?_setIfInBounds_self_of_lt (by simpa using hi)],?_⟩;rw[upd_same,upd_same,upd_same,Deaf_own];exact Xt
  ·obtain⟨x,hx,ss⟩:=I.ei.wk j Jz hj;refine⟨x,by rw[Array.getElem?_setIfInBounds_ne (Ne.symm e),Array.getElem?_map,hx,cU,ss.woken],?_⟩;rw[upd_ne _ _ e,upd_ne _ _ e,upd_ne _ _ e,Deaf_other t (Ne.symm e) _ Mk];exact ss.keeps fun T hT=>gm j T e hj hT
 ·by_cases e:j=i
  ·subst e;rw[upd_same];exact hold.2 (I.ei.old j hj)
  ·rw[upd_ne _ _ e];exact I.ei.old j hj
 ·rw[ig]at hj
  by_cases e:j=i
  ·subst e;rw[upd_same];exact fun h=>I.ei.act j Qf hj (hold.1 h)
  ·rw[upd_ne _ _ e];exact I.ei.act j Qf hj
 ·rw[ig]at hj
  by_cases e:j=i
  ·subst e;rw[upd_same]at j6;exact ag8 T r j6
  ·rw[upd_ne _ _ e]at j6;have jd:lo<=j:=Nat.le_of_not_lt fun cB=>by
    have h0:=I.ei.old j cB;rcases Nat.eq_zero_or_pos j with rfl|hp
    ·rw[I.perm]at j6;cases j6
    ·obtain⟨x,_,ss⟩:=I.ei.wk j hp hj;rw[h0,j6]at ss;cases ss
   exact I.ei.Ga j jd hj T w w' (I.ei.post j T r hj j6) (gm j T e hj (by rw[j6];rfl))
 ·rw[ig];exact I.ei.Ga
 ·rw[ig]at hj;rw[Deaf_other t (show i≠j by omega) _ Mk];exact I.ei.above j hj
 ·rw[ig];exact T7
 ·rw[ig];exact TU
 ·rw[ig];exact AN b' nU hb3
end
end Go.AM
namespace Go.AM
open Go Go.Conc
open Go.ConcN (RelBy upd upd_same upd_ne sumTo)
open Go.ConcR (stA smA KK rd wr mk)
theorem kg {α:Type}(f:Nat->α)(i:Nat):upd f i (f i)=f:=by
 funext a
 by_cases h:a=i
 ·subst h;rw[upd_same]
 ·rw[upd_ne _ _ h]
def KP (Wg:Nat)(e:Event):Prop:=e.loc= .mark .disable\/e.loc= .mark .enable\/∃o FR,o<=1/\e=⟨.cell ⟨Wg,o,none⟩,FR,true⟩
theorem u6 {Wg:Nat}{e:Event}(h:KP Wg e):(MemAct.ofEvent e).touch?=none\/∃o FR,o<=1/\e=⟨.cell ⟨Wg,o,none⟩,FR,true⟩/\(MemAct.ofEvent e).touch?=some ⟨.cell ⟨Wg,o,none⟩,FR,.atomic⟩:=by
 obtain⟨loc,FR,sy⟩:=e;rcases h with h|h|⟨o,wr',h1,h2⟩
 ·simp only at h;subst h;exact .inl rfl
 ·simp only at h;subst h;exact .inl rfl
 ·cases h2;exact .inr ⟨o,_,h1,rfl,rfl⟩
theorem zy {Wg:Nat}{e:Event}(h:KP Wg e)(a:Addr):MemAct.ofEvent e≠ .mark (.release a):=by
 intro hx;have hl:=Go.ConcR.loc_of_ofEvent hx;rcases h with h|h|⟨o,wr',h1,h2⟩
 ·rw[h]at hl;cases hl
 ·rw[h]at hl;cases hl
 ·rw[h2]at hl;cases hl
theorem yt (Wg:Nat)(FR:Bool):KP Wg ⟨.cell (stA Wg),FR,true⟩:= .inr (.inr ⟨0,FR,ai,rfl⟩)
theorem O4 (Wg:Nat)(FR:Bool):KP Wg ⟨.cell (smA Wg),FR,true⟩:= .inr (.inr ⟨1,FR,ai,rfl⟩)
theorem Qv (Wg:Nat):deafBehind 1 (semEvents (smA Wg))=1:=rfl
section
variable {P:aC}{Fin:ae->ao->Prop}{gs:Array ak}{w w':ao}{t:Trace}{σ:nz}{n:Nat}{R:Perm}{g:ak}{Wg:Nat}{sh:Nat->Prop}{lo:Nat}{D:Nat->WS}{S F:Nat->Nat}{ps:Nat->dm}{b:Bool}{sl:Option (Nat×Nat)}
theorem IV.so(I:IV P Fin gs w t σ n R g Wg sh lo D S F ps b){i:Nat}(hi:i<gs.size)(hS:S i≠0):
  lo<=i/\∃gr,σ= .fD gr/\gr.Wg=Wg/\sh Wg/\gr.vG=((List.range (gs.size-lo)).map fun i=>ps (lo+i)).reverse/\∃st sm,rQ Wg w st sm/\Mode lo gs.size S gr.sub b st sm:=by
 have jd:lo<=i:=Nat.le_of_not_lt fun h=>hS (I.ei.old i h)
 refine⟨jd,?_⟩;have hg:=I.fD;cases σ with
 |Br=>exact hg.elim
 |idle=>obtain⟨h,_⟩:=hg;omega
 |fD gr=>exact⟨gr,rfl,hg⟩
theorem IV.uw(I:IV P Fin gs w t σ n R g Wg sh lo D S F ps b){i:Nat}(wE:0<i)(hi:i<gs.size){a a':ak}{es:Array Event}(ha:gs[i]?=some a)(fp:stepG P false a w= .go a' w' es)
  {T:Perm}{r s m:Nat}(hD:D i= .rel T r)(gm:∀j U,j<gs.size->(D j).eh=some U->bg U w w')(ig:w'.heap.size=w.heap.size)(fI:sh Wg)
  (dV:∀j e,es[j]?=some e->KP Wg e/\((MemAct.ofEvent e).touch?=none\/0<deafBehind (Deaf t i) (es.extract 0 j)))
  (Xt:WSit P Wg (ps i) (.rel T r) s m (deafBehind (Deaf t i) es) a' w')(hs:s≠0)(hS:S i≠0)(Fb:m<F i)
  (AN:∀b',(b'=b\/b'=false)->(mayWake P a=true->b'=false)->Ay σ Wg sh lo gs.size (upd S i s) ps b' w'):
  ∃m₁ ops pf,runT P (crowd gs w sl) i=(.next m₁,ops)/\Lt2 pf (meas n b gs.size F)/\Inv P Fin pf m₁ (t++ops):=by
 have zg:∀e∈es,KP Wg e:=fun e he=>by
  obtain⟨j,hj,rfl⟩:=Array.mem_iff_getElem.1 he;exact(dV j _ (Array.getElem?_eq_getElem hj)).1
 have Jq:upd D i (.rel T r)=D:=by rw[<-hD];exact kg D i
 have hW:Wg<w.heap.size:=I.ei.lay.sh Wg fI;refine I.worker wE hi ha fp (fun j U _ hj hU=>gm j U hj hU) Xt (fun T' r' h=>?_) ⟨fun h=>absurd h hs,fun h=>absurd h hS⟩ ?_ ?_ Fb AN
 ·cases h;have jd:=(I.so hi hS).1;exact I.ei.Ga i jd hi T w w' (I.ei.post i T r hi hD) (gm i T hi (by rw[hD];rfl))
 ·rw[Jq];exact I.ei.lay.FX ai gm
 ·rw[Jq,ig];refine I.ei.ti.app I.ei.lay hi (aj _) (fun _ _=>rfl) (.inl rfl) Go.ConcR.g_of_ofEvents (fun op dC bb hb=>?_) (fun op dC ad=>?_) (fun op dC bb hb=>?_) (fun T' r' hD'=>?_)
  ·obtain⟨e,he,rfl⟩:=Go.Conc.mem_ofEvents dC;rcases u6 (zg e he)with h|⟨o,FR,ho,_,h⟩
   ·simp only at hb;rw[h]at hb;cases hb
   ·simp only at hb;rw[h]at hb;cases hb;exact hW
  ·obtain⟨e,he,rfl⟩:=Go.Conc.mem_ofEvents dC;exact zy (zg e he) ad
  ·obtain⟨e,he,rfl⟩:=Go.Conc.mem_ofEvents dC;refine .inr ⟨by rw[hD];simp,?_⟩;rcases u6 (zg e he)with h|⟨o,FR,ho,_,h⟩
   ·simp only at hb;rw[h]at hb;cases hb
   ·simp only at hb;rw[h]at hb;cases hb;exact⟨⟨fI,rfl,ho⟩,du,du⟩
  ·refine(I.ei.ti.ID i T' r' hi hD').appOwn _ _ _ fun j e he=>?_
   obtain⟨h1,h2⟩:=dV j e he;rcases u6 h1 with h|⟨o,FR,ho,G7,h⟩
   ·exact .inl h
   ·rcases h2 with h2|h2
    ·rw[h]at h2;cases h2
    ·exact .inr ⟨⟨_,_,G7⟩,h2⟩
theorem yb:∀(d:Nat) (j:Nat) (e:Event),(#[]:Array Event)[j]?=some e->KP Wg e/\((MemAct.ofEvent e).touch?=none\/0<deafBehind d ((#[]:Array Event).extract 0 j)):=by
 intro d j e h;simp at h
theorem X1 {d:Nat}{es:Array Event}(h1:∀e∈es,KP Wg e)(hd:0<d)(h:∀e∈es,e.loc≠ .mark .enable):∀(j:Nat) (e:Event),es[j]?=some e->KP Wg e/\((MemAct.ofEvent e).touch?=none\/0<deafBehind d (es.extract 0 j)):=by
 intro j e he;refine⟨h1 e (Array.mem_of_getElem? he),.inr ?_⟩;have key:∀(l:List Event) (d:Nat),0<d->(∀e∈l,e.loc≠ .mark .enable)->0<l.foldl (fun d e=>match e.loc with | .mark .disable=>d+1| .mark .enable=>d-1|_=>d) d:=by
  intro l
  induction l with
  |nil=>intro d hd _;exact hd
  |cons e l ih=>
   intro d hd hl;rw[List.foldl_cons];refine ih _ ?_ fun x hx=>hl x (by simp[hx])
   have :=hl e du
   split
   ·omega
   ·rename_i hh;exact absurd hh this
   ·exact hd
 have ahq:deafBehind d (es.extract 0 j)=(es.toList.take j).foldl (fun d e=>match e.loc with | .mark .disable=>d+1| .mark .enable=>d-1|_=>d) d:=by
  unfold deafBehind;rw[<-Array.foldl_toList,Array.toList_extract];rfl
 rw[ahq];exact key _ d hd fun x hx=>h x (by simpa using List.mem_of_mem_take hx)
end
end Go.AM
namespace Go.AM
open Go Go.Conc
open Go.ConcN (RelBy upd upd_same upd_ne sumTo)
open Go.ConcR (stA smA KK rd wr mk)
section
variable {P:aC}{Fin:ae->ao->Prop}{gs:Array ak}{w w':ao}{t:Trace}{σ:nz}{n:Nat}{R:Perm}{g:ak}{Wg:Nat}{sh:Nat->Prop}{lo:Nat}{D:Nat->WS}{S F:Nat->Nat}{ps:Nat->dm}{b:Bool}{sl:Option (Nat×Nat)}
theorem WQ {e:Event}(h:e.mute=true):KP Wg e:=by
 obtain⟨loc,FR,sy⟩:=e;cases loc with
 |mark m=>cases m<;>simp_all [Event.mute,KP]
 |_=>simp[Event.mute]at h
theorem IV.V7(I:IV P Fin gs w t σ n R g Wg sh lo D S F ps b){i:Nat}(wE:0<i)(hi:i<gs.size){a a':ak}{es:Array Event}(ha:gs[i]?=some a){T T':Perm}{m:Nat}(hD:D i= .work T)(hS:S i=7)(nL:Deaf t i=T.deaf)
  (fp:Stepped P false T a w T' a' w' es)(hj:JW P Wg (ps i) m T' a' w')(Fb:m<F i):
  ∃m₁ ops pf,runT P (crowd gs w sl) i=(.next m₁,ops)/\Lt2 pf (meas n b gs.size F)/\Inv P Fin pf m₁ (t++ops):=by
 have hp:(D i).eh=some T:=by rw[hD];rfl
 have hlT:=I.ei.lay.low i T hi hp;have gm:∀j U,j≠i->j<gs.size->(D j).eh=some U->bg U w w':=fun j U hj CN hU=>E5 fp.OX (I.ei.lay.HY i j T U (Ne.symm hj) hi CN hp hU) (I.ei.lay.low j U CN hU)
 obtain⟨jd,gr,rfl,G5,fI,iR,st,sm,jC,fC⟩:=I.so hi ai;have hex:upd S i 7=S:=by rw[<-hS];exact kg S i
 refine I.worker (ws:= .work T') (s:=7) (m:=m) wE hi ha fp.step gm (by rw[nL,<-fp.deaf];exact .work hj) (fun _ _ h=>by cases h) ⟨fun h=>by omega,fun h=>by omega⟩ ?_ ?_ Fb ?_
 ·exact I.ei.lay.own hi hD fp.within (fp.low hlT) fp.OX.size gm
 ·refine I.ei.ti.app I.ei.lay hi fp.OX.size (fun j hj=>upd_ne _ _ hj) (.inr ⟨T,T',hD,upd_same ..,fp.within⟩) Go.ConcR.g_of_ofEvents (fun op dC bb hb=>?_) (fun op dC ad=>?_) (fun op dC bb hb=>?_) (fun HK r h=>by rw[hD]at h;cases h)
  ·obtain⟨e,he,rfl⟩:=Go.Conc.mem_ofEvents dC;exact Loc.low_mono fp.OX.size (G3 hlT (rE hlT.wr (fp.ev e he) hb).1)
  ·obtain⟨e,he,rfl⟩:=Go.Conc.mem_ofEvents dC;exact C1 (fp.ev e he) ad
  ·obtain⟨e,he,rfl⟩:=Go.Conc.mem_ofEvents dC;exact .inl ⟨T,hD,rE hlT.wr (fp.ev e he) hb⟩
 ·intro b' gA _;refine⟨G5,fI,iR,st,sm,jC.OX fp.OX (I.ei.lay.sh Wg fI) fun o ho hw=>I.ei.lay.DW i T hi hp Wg o (hlT.wr _ _ hw) fI ho,?_⟩;rw[hex];exact fC.Bt b' gA
theorem IV.V6(I:IV P Fin gs w t σ n R g Wg sh lo D S F ps b){i:Nat}(wE:0<i)(hi:i<gs.size){a a':ak}(ha:gs[i]?=some a){T:Perm}{m:Nat}(hD:D i= .work T)(hS:S i=7)(nL:Deaf t i=T.deaf)(h0:T.deaf=0)
  (eZ:(ps i).ok T w)(fp:stepG P false a w= .go a' w #[Go.ConcR.mk (.releaseMerge (stA Wg))])(hj:JD P Wg m .k1 a')(Fb:m<F i):
  ∃m₁ ops pf,runT P (crowd gs w sl) i=(.next m₁,ops)/\Lt2 pf (meas n b gs.size F)/\Inv P Fin pf m₁ (t++ops):=by
 have hp:(D i).eh=some T:=by rw[hD];rfl
 obtain⟨jd,gr,rfl,G5,fI,iR,st,sm,jC,fC⟩:=I.so hi ai;have hd0:Deaf t i=0:=nL.trans h0;have ig:(t++MemOp.ofEvents i a.frame.fn a.frame.place #[Go.ConcR.mk (.releaseMerge (stA Wg))]).size=t.size+1:=by rw[ofEvents_eq];simp
 refine I.worker (ws:= .rel T t.size) (s:=6) (m:=m) wE hi ha fp (fun j U _ _ _=>bg.refl _ _) ?_ (fun HK r h=>by cases h;exact eZ) ⟨fun h=>by omega,fun h=>by omega⟩ ?_ ?_ Fb ?_
 ·rw[hd0];exact .k1 hj
 ·refine I.ei.lay.same fun j hj=> .inl ?_
  by_cases e:j=i
  ·subst e;rw[upd_same,hD];rfl
  ·rw[upd_ne _ _ e]
 ·refine TI.Sf (R:=T) (k:=i) (I.ei.ti.app I.ei.lay hi (aj _) (fun _ _=>rfl) (.inl rfl) Go.ConcR.g_of_ofEvents (fun op dC bb hb=>?_) (fun op dC ad=>?_) (fun op dC bb hb=>?_) (fun HK r h=>by rw[hD]at h;cases h)) hi wE hD (RelBy.new hd0 _ _) ai
  all_goals
   obtain⟨e,he,rfl⟩:=Go.Conc.mem_ofEvents dC;simp only[List.mem_toArray,aL,List.not_mem_nil,or_false]at he;subst he
  ·exact absurd hb (by simp[Go.ConcR.mk,MemAct.ofEvent,MemAct.touch?])
  ·simp[Go.ConcR.mk,MemAct.ofEvent]
  ·exact absurd hb (by simp[Go.ConcR.mk,MemAct.ofEvent,MemAct.touch?])
 ·intro b' gA _;exact⟨G5,fI,iR,st,sm,jC,(fC.ahI jd hi ai (.inr (.inl rfl))).Bt b' gA⟩
theorem IV.Ie(I:IV P Fin gs w t σ n R g Wg sh lo D S F ps b){i:Nat}(wE:0<i)(hi:i<gs.size){a:ak}(ha:gs[i]?=some a)(gR:a.status= .running){k d:Nat}(hq:QuitsD P k d a)(hk:k<=F i)(nL:Deaf t i=d)
  (hs:(∃T r,D i= .rel T r/\S i=1)\/(D i= .old/\S i=0)):
  ∃m₁ ops pf,runT P (crowd gs w sl) i=(.next m₁,ops)/\Lt2 pf (meas n b gs.size F)/\Inv P Fin pf m₁ (t++ops):=by
 cases k with
 |zero=>rw[hq.1]at gR;cases gR
 |succ k=>
  rcases hq with⟨hf,_⟩|⟨_,a',es,hm,fp,xU⟩
  ·rw[hf]at gR;cases gR
  have hex:∀x,S i=x->upd S i x=S:=fun x h=>by rw[<-h];exact kg S i
  have XL:∀x,D i=x->upd D i x=D:=fun x h=>by rw[<-h];exact kg D i
  have AN:∀x,S i=x->∀b',(b'=b\/b'=false)->(mayWake P a=true->b'=false)->Ay σ Wg sh lo gs.size (upd S i x) ps b' w:=by
   intro x hx b' gA _;rw[hex x hx];have hg:=I.fD;cases σ with
   |Br=>exact hg.elim
   |idle=>
    refine⟨hg.1,?_⟩;rcases gA with rfl|rfl
    ·exact hg.2
    ·rfl
   |fD gr=>
    obtain⟨h1,h2,h3,st,sm,h4,h5⟩:=hg;exact⟨h1,h2,h3,st,sm,h4,h5.Bt b' gA⟩
  have Mf:∀e∈es,(MemAct.ofEvent e).touch?=none:=fun e he=>touch_mute (hm e he)
  have TU:TI Wg sh D gs.size w.heap.size (t++MemOp.ofEvents i a.frame.fn a.frame.place es):=by
   refine I.ei.ti.app I.ei.lay hi (aj _) (fun _ _=>rfl) (.inl rfl) Go.ConcR.g_of_ofEvents (fun op dC bb hb=>?_) (fun op dC ad=>?_) (fun op dC bb hb=>?_) (fun HK r h=>?_)
   ·obtain⟨e,he,rfl⟩:=Go.Conc.mem_ofEvents dC;rw[Mf e he]at hb;cases hb
   ·obtain⟨e,he,rfl⟩:=Go.Conc.mem_ofEvents dC;exact zy (Wg:=Wg) (WQ (hm e he)) ad
   ·obtain⟨e,he,rfl⟩:=Go.Conc.mem_ofEvents dC;rw[Mf e he]at hb;cases hb
   ·exact(I.ei.ti.ID i HK r hi h).appOwn _ _ _ fun j e he=> .inl (Mf e (Array.mem_of_getElem? he))
  rcases hs with⟨T,r,hD,hS⟩|⟨hD,hS⟩
  ·refine I.worker (ws:= .rel T r) (s:=1) (m:=k) wE hi ha (fp w) (fun j U _ _ _=>bg.refl _ _) (by rw[nL];exact .gone xU) (fun HK r' h=>by cases h;exact I.ei.post i T r hi hD) ⟨fun h=>by omega,fun h=>by omega⟩ ?_ ?_ ai (AN 1 hS)
   ·rw[XL _ hD];exact I.ei.lay
   ·rw[XL _ hD];exact TU
  ·refine I.worker (ws:= .old) (s:=0) (m:=k) wE hi ha (fp w) (fun j U _ _ _=>bg.refl _ _) (by rw[nL];exact .old xU) (fun HK r' h=>by cases h) ⟨fun h=>hS,fun h=>rfl⟩ ?_ ?_ ai (AN 0 hS)
   ·rw[XL _ hD];exact I.ei.lay
   ·rw[XL _ hD];exact TU
end
end Go.AM
namespace Go.AM
open Go Go.Conc
open Go.ConcN (RelBy upd upd_same upd_ne sumTo)
open Go.ConcR (stA smA KK rd wr)
section
variable {P:aC}{Fin:ae->ao->Prop}{gs:Array ak}{w w':ao}{t:Trace}{σ:nz}{n:Nat}{R:Perm}{g:ak}{Wg:Nat}{sh:Nat->Prop}{lo:Nat}{D:Nat->WS}{S F:Nat->Nat}{ps:Nat->dm}{b:Bool}{sl:Option (Nat×Nat)}
theorem acD {d:Nat}:∀(j:Nat) (e:Event),(#[Go.ConcR.mk .disable]:Array Event)[j]?=some e->KP Wg e/\((MemAct.ofEvent e).touch?=none\/0<deafBehind d ((#[Go.ConcR.mk .disable]:Array Event).extract 0 j)):=by
 intro j e h;have he:e∈(#[Go.ConcR.mk .disable]:Array Event):=Array.mem_of_getElem? h;simp only[List.mem_toArray,aL,List.not_mem_nil,or_false]at he;subst he;exact⟨.inl rfl,.inl rfl⟩
theorem acC:∀(j:Nat) (e:Event),(semEvents (smA Wg))[j]?=some e->KP Wg e/\((MemAct.ofEvent e).touch?=none\/0<deafBehind 1 ((semEvents (smA Wg)).extract 0 j)):=by
 intro j e h;have hj:j<4:=by
  have :=(Array.getElem?_eq_some_iff.1 h).1;simpa[semEvents]using this
 match j,hj with
 |0,_=>simp[semEvents]at h;subst h;exact⟨.inl rfl,.inl rfl⟩
 |1,_=>simp[semEvents]at h;subst h;exact⟨O4 Wg false,.inr (by simp[semEvents,deafBehind])⟩
 |2,_=>simp[semEvents]at h;subst h;exact⟨O4 Wg true,.inr (by simp[semEvents,deafBehind])⟩
 |3,_=>simp[semEvents]at h;subst h;exact⟨.inr (.inl rfl),.inl rfl⟩
theorem Bg {es:Array Event}(h:∀e∈es,e=rd (stA Wg)\/e=wr (stA Wg)):∀(j:Nat) (e:Event),es[j]?=some e->KP Wg e/\((MemAct.ofEvent e).touch?=none\/0<deafBehind 1 (es.extract 0 j)):=
 X1 (fun e he=>(h e he).elim (fun x=>x▸yt Wg false) fun x=>x▸yt Wg true) ai fun e he=>(h e he).elim (fun x=>by rw[x];simp[rd]) fun x=>by rw[x];simp[wr]
theorem jT {es:Array Event}(h:∀e∈es,e=rd (stA Wg)\/e=wr (stA Wg))(d:Nat):deafBehind d es=d:=by
 have :=od d es.toList fun e he=>(h e (by simpa using he)).elim (fun x=>by rw[x];simp[rd]) fun x=>by rw[x];simp[wr]
 simpa using this
set_option maxHeartbeats 1000000 in
theorem IV.stepW(I:IV P Fin gs w t σ n R g Wg sh lo D S F ps b){i:Nat}(wE:0<i)(hi:i<gs.size){a:ak}(ha:gs[i]?=some a)(gR:a.status= .running):
  ∃m₁ ops pf,runT P (crowd gs w sl) i=(.next m₁,ops)/\Lt2 pf (meas n b gs.size F)/\Inv P Fin pf m₁ (t++ops):=by
 obtain⟨al6,Uo,hs⟩:=I.ei.wk i wE hi;obtain rfl:a=al6:=by rw[ha]at Uo;exact Option.some.inj Uo
 clear Uo;generalize hD:D i=ws at hs;generalize hS:S i=s at hs;generalize hF:F i=f at hs;generalize nL:Deaf t i=d at hs;cases hs with
 |work hj=>
  obtain⟨m,hm,_,hw⟩:=hj.out;obtain⟨_,gr,_,_,fI,_,st,sm,jC,_⟩:=I.so hi ai;cases hw ⟨st,sm,jC⟩with
  |own h1 h2=>exact I.V7 wE hi ha hD hS nL h1 h2 ai
  |rel h1 h2 h3 h4=>exact I.V6 wE hi ha hD hS nL h1 h2 h3 h4 ai
 |gone hq=>exact I.Ie wE hi ha gR hq ai nL (.inl ⟨_,_,hD,hS⟩)
 |old hq=>exact I.Ie wE hi ha gR hq ai nL (.inr ⟨hD,hS⟩)
 |k1 hj=>
  obtain⟨jd,gr,rfl,G5,fI,iR,st,sm,jC,fC⟩:=I.so hi ai;cases f with
  |zero=>exact hj.elim
  |succ m=>
   have hex:upd S i 6=S:=by rw[<-hS];exact kg S i
   cases hj.2 w ⟨st,sm,jC⟩with
   |quiet h1 h2=>
    exact I.uw (s:=6) (m:=m) wE hi ha h1 hD (fun _ _ _ _=>bg.refl _ _) rfl fI (yb _) (by rw[nL];exact .k1 h2) ai ai ai
     fun b' gA _=>⟨G5,fI,iR,st,sm,jC,by rw[hex];exact fC.Bt b' gA⟩
   |k1 h1 h2=>
    exact I.uw (s:=5) (m:=m) wE hi ha h1 hD (fun _ _ _ _=>bg.refl _ _) rfl fI acD (by rw[nL];exact .d1 h2) ai ai ai
     fun b' gA _=>⟨G5,fI,iR,st,sm,jC,(fC.ahI jd hi ai (.inr (.inr rfl))).Bt b' gA⟩
 |d1 hj=>
  obtain⟨jd,gr,rfl,G5,fI,iR,st,sm,jC,fC⟩:=I.so hi ai;cases f with
  |zero=>exact hj.elim
  |succ m=>
   have hex:upd S i 5=S:=by rw[<-hS];exact kg S i
   cases hj.2 w ⟨st,sm,jC⟩with
   |quiet h1 h2=>
    exact I.uw (s:=5) (m:=m) wE hi ha h1 hD (fun _ _ _ _=>bg.refl _ _) rfl fI (yb _) (by rw[nL];exact .d1 h2) ai ai ai
     fun b' gA _=>⟨G5,fI,iR,st,sm,jC,by rw[hex];exact fC.Bt b' gA⟩
   |d1 h1=>
    obtain⟨v,wt,Ad,hv,rfl,rfl,OB,aca⟩:=fC.minus jd hi hS;obtain⟨a',h2,h3,h4⟩:=h1 v wt Ad hv jC;have hk:∀j U,j<gs.size->(D j).eh=some U->bg U w (setSt Wg ((v:Int)*KK+wt) w):=fun j U hj hU=>qx (I.ei.lay.low j U hj hU) (fun o ho hr=>I.ei.lay.DW j U hj hU Wg o hr fI ho) jC
    have VA:∀e∈(#[rd (stA Wg),wr (stA Wg)]:Array Event),e=rd (stA Wg)\/e=wr (stA Wg):=by intro e he;simpa using he
    by_cases hc:v=0/\wt=1
    ·exact I.uw (s:=4) (m:=m) wE hi ha h2 hD hk (size_setCell ..) fI (by rw[nL];exact Bg VA) (by rw[nL,jT VA];exact .d2 (h3 hc)) ai ai ai
      fun b' gA _=>⟨G5,fI,iR,_,_,jC.setSt _,(OB hc).Bt b' gA⟩
    ·exact I.uw (s:=1) (m:=m) wE hi ha h2 hD hk (size_setCell ..) fI (by rw[nL];exact Bg VA) (by rw[nL,jT VA];exact .gone (h4 hc)) ai ai ai
      fun b' gA _=>⟨G5,fI,iR,_,_,jC.setSt _,(aca hc).Bt b' gA⟩
 |d2 hj=>
  obtain⟨jd,gr,rfl,G5,fI,iR,st,sm,jC,fC⟩:=I.so hi ai;obtain⟨Js,Jt,rfl,rfl⟩:=fC.isLast jd hi ai;cases f with
  |zero=>exact hj.elim
  |succ m=>
   have hex:upd S i 4=S:=by rw[<-hS];exact kg S i
   cases hj.2 w ⟨_,_,jC⟩with
   |quiet h1 h2=>
    exact I.uw (s:=4) (m:=m) wE hi ha h1 hD (fun _ _ _ _=>bg.refl _ _) rfl fI (yb _) (by rw[nL];exact .d2 h2) ai ai ai
     fun b' gA _=>⟨G5,fI,iR,_,_,jC,by rw[hex];exact fC.Bt b' gA⟩
   |d2 h1=>
    rw[hS]at jC;obtain⟨a',h2,h3⟩:=h1 jC;have VA:∀e∈(#[rd (stA Wg)]:Array Event),e=rd (stA Wg)\/e=wr (stA Wg):=by intro e he;simp at he;exact .inl he
    refine I.uw (s:=3) (m:=m) wE hi ha h2 hD (fun _ _ _ _=>bg.refl _ _) rfl fI (by rw[nL];exact Bg VA) (by rw[nL,jT VA];exact .d3 h3) ai ai ai
     fun b' gA _=>⟨G5,fI,iR,_,_,jC,?_⟩
    have :Mode lo gs.size (upd S i 3) .reg b' (if upd S i 3 i=2 then 0 else 1) 0:= .last i jd hi (by rw[upd_same];simp) fun a h1 h2 h3=>by rw[upd_ne _ _ h3];exact Jt a h1 h2 h3
    rw[upd_same]at this;rw[Js];exact this
 |d3 hj=>
  obtain⟨jd,gr,rfl,G5,fI,iR,st,sm,jC,fC⟩:=I.so hi ai;obtain⟨Js,Jt,rfl,rfl⟩:=fC.isLast jd hi ai;cases f with
  |zero=>exact hj.elim
  |succ m=>
   have hex:upd S i 3=S:=by rw[<-hS];exact kg S i
   cases hj.2 w ⟨_,_,jC⟩with
   |quiet h1 h2=>
    exact I.uw (s:=3) (m:=m) wE hi ha h1 hD (fun _ _ _ _=>bg.refl _ _) rfl fI (yb _) (by rw[nL];exact .d3 h2) ai ai ai
     fun b' gA _=>⟨G5,fI,iR,_,_,jC,by rw[hex];exact fC.Bt b' gA⟩
   |d3 h1=>
    rw[hS]at jC;obtain⟨a',h2,h3⟩:=h1 jC;have hk:∀j U,j<gs.size->(D j).eh=some U->bg U w (setSt Wg 0 w):=fun j U hj hU=>qx (I.ei.lay.low j U hj hU) (fun o ho hr=>I.ei.lay.DW j U hj hU Wg o hr fI ho) jC
    have VA:∀e∈(#[wr (stA Wg)]:Array Event),e=rd (stA Wg)\/e=wr (stA Wg):=by intro e he;simp at he;exact .inr he
    refine I.uw (s:=2) (m:=m) wE hi ha h2 hD hk (size_setCell ..) fI (by rw[nL];exact Bg VA) (by rw[nL,jT VA];exact .d4 h3) ai ai ai
     fun b' gA _=>⟨G5,fI,iR,_,_,jC.setSt _,?_⟩
    have :Mode lo gs.size (upd S i 2) .reg b' (if upd S i 2 i=2 then 0 else 1) 0:= .last i jd hi (by rw[upd_same];simp) fun a h1 h2 h3=>by rw[upd_ne _ _ h3];exact Jt a h1 h2 h3
    rw[upd_same]at this;rw[Js];exact this
 |d4 hj=>
  obtain⟨jd,gr,rfl,G5,fI,iR,st,sm,jC,fC⟩:=I.so hi ai;obtain⟨Js,Jt,rfl,rfl⟩:=fC.isLast jd hi ai;cases f with
  |zero=>exact hj.elim
  |succ m=>
   have hex:upd S i 2=S:=by rw[<-hS];exact kg S i
   cases hj.2 w ⟨_,_,jC⟩with
   |quiet h1 h2=>
    exact I.uw (s:=2) (m:=m) wE hi ha h1 hD (fun _ _ _ _=>bg.refl _ _) rfl fI (yb _) (by rw[nL];exact .d4 h2) ai ai ai
     fun b' gA _=>⟨G5,fI,iR,_,_,jC,by rw[hex];exact fC.Bt b' gA⟩
   |d4 Oy h1=>
    rw[hS]at jC;obtain⟨a',h2,h3⟩:=h1 jC;have hk:∀j U,j<gs.size->(D j).eh=some U->bg U w (setSm Wg 1 w):=fun j U hj hU=>Aa (I.ei.lay.low j U hj hU) (fun o ho hr=>I.ei.lay.DW j U hj hU Wg o hr fI ho) jC
    refine I.uw (s:=1) (m:=m) wE hi ha h2 hD hk (size_setCell ..) fI (by rw[nL];exact acC) (by rw[nL,Qv];exact .gone h3) ai ai ai
     fun b' gA Ei=>⟨G5,fI,iR,_,_,jC.setSm _,?_⟩
    rw[Ei Oy,Js];refine .sema fun x h1 h2=>?_
    by_cases e:x=i
    ·subst e;rw[upd_same]
    ·rw[upd_ne _ _ e];exact Jt x h1 h2 e
end
end Go.AM
namespace Go.AM
open Go Go.Conc
open Go.ConcN (RelBy upd upd_same upd_ne sumTo)
open Go.ConcR (stA smA KK rd wr)
section
variable {P:aC}{Fin:ae->ao->Prop}{gs:Array ak}{w w':ao}{t:Trace}{σ gj:nz}{n m:Nat}{R R':Perm}{g a':ak}{Wg:Nat}{sh:Nat->Prop}{lo:Nat}{D:Nat->WS}{S F:Nat->Nat}{ps:Nat->dm}{b b':Bool}{sl:Option (Nat×Nat)}{es:Array Event}
theorem IV.adV(I:IV P Fin gs w t σ n R g Wg sh lo D S F ps false)(fp:stepG P true g w= .go a' w' es):
  runT P (crowd gs w sl) 0=(.next (crowd (gs.setIfInBounds 0 a') w' sl),MemOp.ofEvents 0 g.frame.fn g.frame.place es):=by
 have h:=runT_crowd_go (P:=P) (sl:=sl) (i:=0) I.main (show stepG P (0==0) (nD false g) w= .go a' w' es from fp);have e:(gs.map (woken P (nD false g) a' w')).setIfInBounds 0 a'=gs.setIfInBounds 0 a':=by
  apply Array.ext_getElem?;intro j
  by_cases hj:j=0
  ·subst hj;simp[I.size]
  ·rw[Array.getElem?_setIfInBounds_ne (Ne.symm hj),Array.getElem?_setIfInBounds_ne (Ne.symm hj),Array.getElem?_map];rcases Nat.lt_or_ge j gs.size with cB|uV
   ·obtain⟨x,hx,ss⟩:=I.ei.wk j ai cB;rw[hx,cU,ss.woken]
   ·rw[Array.getElem?_eq_none uV];rfl
 rw[e]at h;exact h
theorem IV.alv(I:IV P Fin gs w t σ n R g Wg sh lo D S F ps b)(a':ak){u:Trace}(hu:∀op∈u,op.g=0)(gm:∀j U,0<j->j<gs.size->(D j).eh=some U->bg U w w')
  (T7:Lay sh (upd D 0 (.work R')) gs.size w')(TU:TI Wg sh (upd D 0 (.work R')) gs.size w'.heap.size (t++u)):Com P Wg sh lo (upd D 0 (.work R')) S F ps (gs.setIfInBounds 0 a') w' (t++u):=by
 have ig:(gs.setIfInBounds 0 a').size=gs.size:=du;refine⟨by rw[ig];exact I.ei.lom,fun j Jz hj=>?_,I.ei.old,fun j h1 h2=>I.ei.act j h1 (by rw[ig]at h2;exact h2),fun j T r hj j6=>?_,by rw[ig];exact I.ei.Ga,fun j hj=>?_,by rw[ig];exact T7,by rw[ig];exact TU⟩
 ·rw[ig]at hj;obtain⟨x,hx,ss⟩:=I.ei.wk j Jz hj;refine⟨x,by rw[Array.getElem?_setIfInBounds_ne ai];exact hx,?_⟩;rw[upd_ne _ _ ai,Deaf_other t ai _ hu];exact ss.keeps fun T hT=>gm j T Jz hj hT
 ·rw[ig]at hj;rcases Nat.eq_zero_or_pos j with rfl|hp
  ·rw[upd_same]at j6;cases j6
  ·rw[upd_ne _ _ ai]at j6;have jd:lo<=j:=Nat.le_of_not_lt fun cB=>by
    obtain⟨x,_,ss⟩:=I.ei.wk j hp hj;rw[I.ei.old j cB,j6]at ss;cases ss
   exact I.ei.Ga j jd hj T w w' (I.ei.post j T r hj j6) (gm j T hp hj (by rw[j6];rfl))
 ·rw[ig]at hj;rw[Deaf_other t (show 0≠j by have :=I.size;omega) _ hu];exact I.ei.above j hj
theorem IV.Tg(I:IV P Fin gs w t σ n R g Wg sh lo D S F ps false)(fp:stepG P true g w= .go a' w' es){g':ak}(mn:a'=nD b' g')(j7:b'=true->g'.status= .running/\g'.offers=none)
  (hm:m<n\/(m=n/\b'=true))(Ua:JM P Fin gj m R' g' w')(nL:deafBehind R.deaf es=R'.deaf)(gm:∀j U,0<j->j<gs.size->(D j).eh=some U->bg U w w')
  (T7:Lay sh (upd D 0 (.work R')) gs.size w')(TU:TI Wg sh (upd D 0 (.work R')) gs.size w'.heap.size (t++MemOp.ofEvents 0 g.frame.fn g.frame.place es))(AN:Ay gj Wg sh lo gs.size S ps b' w'):
  ∃m₁ ops pf,runT P (crowd gs w sl) 0=(.next m₁,ops)/\Lt2 pf (meas n false gs.size F)/\Inv P Fin pf m₁ (t++ops):=by
 have ig:(gs.setIfInBounds 0 a').size=gs.size:=du;refine⟨_,_,meas m b' (gs.setIfInBounds 0 a').size F,I.adV fp,?_,_,w',sl,gj,m,R',g',Wg,sh,lo,upd D 0 (.work R'),S,F,ps,b',rfl,⟨?_,j7,Ua,upd_same ..,?_,I.alv a' Go.ConcR.g_of_ofEvents gm T7 TU,by rw[ig];exact AN⟩,rfl⟩
 ·rw[ig];unfold meas;rcases hm with h|⟨rfl,rfl⟩
  ·exact Prod.Lex.left _ _ h
  ·exact Prod.Lex.right _ du
 ·rw[Array.getElem?_setIfInBounds_self_of_lt I.size,mn]
 ·rw[Deaf_own,I.deaf,nL]
theorem IV.WU(I:IV P Fin gs w t σ n R g Wg sh lo D S F ps false)(fp:Stepped P true R g w R' a' w' es)(hm:m<n)(Ua:JM P Fin σ m R' a' w'):
  ∃m₁ ops pf,runT P (crowd gs w sl) 0=(.next m₁,ops)/\Lt2 pf (meas n false gs.size F)/\Inv P Fin pf m₁ (t++ops):=by
 have hp:(D 0).eh=some R:=by rw[I.perm];rfl
 have CM:=I.Tk;have gm:∀j U,0<j->j<gs.size->(D j).eh=some U->bg U w w':=fun j U hj CN hU=>E5 fp.OX (I.ei.lay.HY 0 j R U ai I.size CN hp hU) (I.ei.lay.low j U CN hU)
 refine I.Tg (b':=false) (g':=a') (m:=m) fp.step rfl g8 (.inl hm) Ua fp.deaf.symm gm ?_ ?_ ?_
 ·exact I.ei.lay.own I.size I.perm fp.within (fp.low CM) fp.OX.size fun j U hj CN hU=>gm j U ai CN hU
 ·refine I.ei.ti.app I.ei.lay I.size fp.OX.size (fun j hj=>upd_ne _ _ hj) (.inr ⟨R,R',I.perm,upd_same ..,fp.within⟩) Go.ConcR.g_of_ofEvents (fun op dC bb hb=>?_) (fun op dC ad=>?_) (fun op dC bb hb=>?_) (fun HK r h=>by rw[I.perm]at h;cases h)
  ·obtain⟨e,he,rfl⟩:=Go.Conc.mem_ofEvents dC;exact Loc.low_mono fp.OX.size (G3 CM (rE CM.wr (fp.ev e he) hb).1)
  ·obtain⟨e,he,rfl⟩:=Go.Conc.mem_ofEvents dC;exact C1 (fp.ev e he) ad
  ·obtain⟨e,he,rfl⟩:=Go.Conc.mem_ofEvents dC;exact .inl ⟨R,I.perm,rE CM.wr (fp.ev e he) hb⟩
 ·have hg:=I.fD;cases σ with
  |Br=>exact hg.elim
  |idle=>exact hg
  |fD gr=>
   obtain⟨h1,h2,h3,st,sm,h4,h5⟩:=hg;exact⟨h1,h2,h3,st,sm,h4.OX fp.OX (I.ei.lay.sh Wg h2) fun o ho hw=>I.ei.lay.DW 0 R I.size hp Wg o (CM.wr _ _ hw) h2 ho,h5⟩
theorem IV.lM(I:IV P Fin gs w t σ n R g Wg sh lo D S F ps false)(fp:stepG P true g w= .go a' w' es){g':ak}(mn:a'=nD b' g')(j7:b'=true->g'.status= .running/\g'.offers=none)
  (hm:m<n\/(m=n/\b'=true))(Ua:JM P Fin gj m R g' w)(nL:deafBehind R.deaf es=R.deaf)(gm:∀j U,j<gs.size->(D j).eh=some U->bg U w w')(ig:w'.heap.size=w.heap.size)(fI:sh Wg)
  (dV:∀e∈es,KP Wg e\/e=Go.ConcR.mk (.read (smA Wg))\/e=Go.ConcR.mk (.write (smA Wg)))(AN:Ay gj Wg sh lo gs.size S ps b' w'):
  ∃m₁ ops pf,runT P (crowd gs w sl) 0=(.next m₁,ops)/\Lt2 pf (meas n false gs.size F)/\Inv P Fin pf m₁ (t++ops):=by
 have Jq:upd D 0 (.work R)=D:=by rw[<-I.perm];exact kg D 0
 have hW:Wg<w.heap.size:=I.ei.lay.sh Wg fI;have Xq:∀e∈es,∀bb,(MemAct.ofEvent e).touch?=some bb->shl sh bb.loc/\bb.kind≠ .plain/\bb.loc.low w.heap.size:=by
  intro e he bb hb;rcases dV e he with h|rfl|rfl
  ·rcases u6 h with h|⟨o,FR,ho,_,h⟩
   ·rw[h]at hb;cases hb
   ·rw[h]at hb;cases hb;exact⟨⟨fI,rfl,ho⟩,du,hW⟩
  ·simp only[Go.ConcR.mk,MemAct.ofEvent,MemAct.touch?,ah]at hb;subst hb;exact⟨⟨fI,rfl,by simp[smA]⟩,du,hW⟩
  ·simp only[Go.ConcR.mk,MemAct.ofEvent,MemAct.touch?,ah]at hb;subst hb;exact⟨⟨fI,rfl,by simp[smA]⟩,du,hW⟩
 refine I.Tg (g':=g') fp mn j7 hm (Ua.keeps (gm 0 R I.size (by rw[I.perm];rfl))) nL (fun j U _ hj hU=>gm j U hj hU) ?_ ?_ AN
 ·rw[Jq];exact I.ei.lay.FX ai gm
 ·rw[Jq,ig];refine I.ei.ti.app I.ei.lay I.size (aj _) (fun _ _=>rfl) (.inl rfl) Go.ConcR.g_of_ofEvents (fun op dC bb hb=>?_) (fun op dC ad=>?_) (fun op dC bb hb=>?_) (fun HK r h=>by rw[I.perm]at h;cases h)
  ·obtain⟨e,he,rfl⟩:=Go.Conc.mem_ofEvents dC;exact(Xq e he bb hb).2.2
  ·obtain⟨e,he,rfl⟩:=Go.Conc.mem_ofEvents dC;rcases dV e he with h|rfl|rfl
   ·exact zy h ad
   ·simp[Go.ConcR.mk,MemAct.ofEvent]
   ·simp[Go.ConcR.mk,MemAct.ofEvent]
  ·obtain⟨e,he,rfl⟩:=Go.Conc.mem_ofEvents dC;have h:=Xq e he bb hb;exact .inr ⟨by rw[I.perm];simp,h.1,h.2.1,fun _=>rfl⟩
end
end Go.AM
namespace Go.AM
open Go Go.Conc
open Go.ConcN (RelBy upd upd_same upd_ne sumTo sumTo_congr)
open Go.ConcR (stA smA KK rd wr)
theorem lt2_trans {a b c:Nat×Nat}(h:Lt2 a b)(h':Lt2 b c):Lt2 a c:=by
 obtain⟨a1,a2⟩:=a;obtain⟨b1,b2⟩:=b;obtain⟨c1,c2⟩:=c;rcases Prod.lex_def.1 h with h|⟨h1,h2⟩<;>rcases Prod.lex_def.1 h' with k|⟨k1,k2⟩<;>simp only at*
 ·exact Prod.Lex.left _ _ ai
 ·exact Prod.Lex.left _ _ ai
 ·exact Prod.Lex.left _ _ ai
 ·subst h1;subst k1;exact Prod.Lex.right _ ai
theorem C8 {t:Trace}{x y:MemOp}{k:Nat}(hx:x.g=0/\x.act= .go k)(hy:y.g=k/\y.act= .start)(j:Nat):Deaf (t++#[x,y]) j=Deaf t j:=by
 have :=Deaf_append t j [x,y];rw[show([x,y]:List MemOp).toArray=#[x,y]from rfl]at this;rw[this];simp[deafStep,hx.2,hy.2]
theorem VX {size:Nat}{S:Nat->Nat}(h:∀i,i<size->S i=0):Vc size S=0:=by
 unfold Vc;rw[sumTo_congr (g:=fun _=>0) fun i hi=>by rw[h i hi];rfl]
 induction size with
 |zero=>rfl
 |succ k ih=>simp only[sumTo];exact ih fun i hi=>h i ai
theorem Nk {S:Nat->Nat}:∀{size:Nat},1<=Vc size S->∃i,i<size/\5<=S i
 |0,h=>by simp[Vc,sumTo]at h
 |k+1,h=>by
  by_cases h5:5<=S k
  ·exact⟨k,ai,h5⟩
  ·have :1<=Vc k S:=by simp only[Vc,sumTo,h5,if_false]at h⊢;omega
   obtain⟨i,h1,h2⟩:=Nk this;exact⟨i,ai,h2⟩
section
variable {P:aC}{Fin:ae->ao->Prop}{gs:Array ak}{w w':ao}{t:Trace}{σ gj:nz}{n m:Nat}{R R' eM Rc:Perm}{g g' a' child:ak}{Wg:Nat}{sh:Nat->Prop}{lo:Nat}{D:Nat->WS}{S F:Nat->Nat}{ps:Nat->dm}{b b':Bool}{sl:Option (Nat×Nat)}{es:Array Event}
theorem IV.IY(I:IV P Fin gs w t σ n R g Wg sh lo D S F ps b){j:Nat}(h0:0<j)(hj:j<gs.size)(hS:S j=0):D j= .old/\∃x,gs[j]?=some x/\QuitsD P (F j) (Deaf t j) x:=by
 obtain⟨x,hx,ss⟩:=I.ei.wk j h0 hj;rw[hS]at ss;generalize hD:D j=ws at ss;generalize hd:Deaf t j=d at ss;generalize F j=f at ss;cases ss with
 |old hq=>exact⟨rfl,x,hx,hd▸hq⟩
theorem IV.wR(I:IV P Fin gs w t .idle n R g Wg sh lo D S F ps false){QS:Nat}(hs:jv eM R)(tY:∀b o,eM.wr b o->eM.rd b o)(hd:eM.deaf=R.deaf)(h0:R.wr QS 0)(h1:R.wr QS 1)(jC:rQ QS w 0 0)(Q7:∀o,o<=1->¬eM.rd QS o)
  (Ua:JM P Fin (.fD ⟨QS,[],.opn 0⟩) m eM g w):IV P Fin gs w t (.fD ⟨QS,[],.opn 0⟩) m eM g QS (fun b=>sh b\/b=QS) lo (upd D 0 (.work eM)) S F ps false:=by
 obtain⟨jd,_⟩:lo=gs.size/\false=false:=I.fD;have hS:∀j,j<gs.size->S j=0:=fun j hj=>I.ei.old j ai
 have hold:∀j,0<j->j<gs.size->D j= .old:=fun j Jz hj=>(I.IY Jz hj (hS j hj)).1
 have hn:∀j,0<j->upd D 0 (.work eM) j=D j:=fun j hj=>upd_ne D _ ai
 have CM:=I.Tk;have Qe:w9 eM w:=⟨fun b o x=>CM.rd b o (hs.rd b o x),tY,fun b x=>CM.ob b (hs.ob b x)⟩;refine⟨I.main,fun h=>(by cases h),Ua,upd_same ..,I.deaf.trans hd.symm,⟨I.ei.lom,fun j Jz hj=>?_,I.ei.old,I.ei.act,fun j T r hj j6=>?_,I.ei.Ga,I.ei.above,?_,I.ei.ti.begin I.perm hold hs h0 h1 I.size⟩,?_⟩
 ·obtain⟨e,x,hx,hq⟩:=I.IY Jz hj (hS j hj);refine⟨x,hx,?_⟩;rw[hn j Jz,e,hS j hj];exact .old hq
 ·rcases Nat.eq_zero_or_pos j with rfl|hp
  ·rw[upd_same]at j6;cases j6
  ·rw[hn j hp,hold j hp hj]at j6;cases j6
 ·have key:∀j T,j<gs.size->(upd D 0 (.work eM) j).eh=some T->j=0/\T=eM:=by
   intro j T hj hT;rcases Nat.eq_zero_or_pos j with rfl|hp
   ·rw[upd_same]at hT;exact⟨rfl,(Option.some.inj hT).symm⟩
   ·rw[hn j hp,hold j hp hj]at hT;cases hT
  refine⟨fun j T hj hT=>?_,fun i j T U jq hi hj hT hU=>?_,fun j T hj hT b o hr hb=>?_,fun b hb=>?_⟩
  ·obtain⟨_,rfl⟩:=key j T hj hT;exact Qe
  ·obtain⟨rfl,_⟩:=key i T hi hT;obtain⟨rfl,_⟩:=key j U hj hU;exact absurd rfl jq
  ·obtain⟨rfl,rfl⟩:=key j T hj hT;rcases hb with hb|rfl
   ·exact I.ei.lay.DW 0 R I.size (by rw[I.perm];rfl) b o (hs.rd b o hr) hb
   ·exact fun ho=>Q7 o ho hr
  ·rcases hb with hb|rfl
   ·exact I.ei.lay.sh b hb
   ·exact CM.rd b 0 (CM.wr b 0 h0)
 ·refine⟨rfl,.inr rfl,by simp[jd],0,0,jC,?_⟩;have hv:=VX hS;have :Mode lo gs.size S (.opn 0) false ((Vc gs.size S:Nat)*KK) 0:= .opn (fun i h1 h2=>by omega) ai ai;rw[hv]at this;simpa using this
theorem IV.spawns{V kc:Nat}{pl:List dm}{p:dm}(I:IV P Fin gs w t (.fD ⟨Wg,pl,.added V⟩) n R g Wg sh lo D S F ps false)(h0:R.deaf=0)(fp:stepG P true g w= .spawn g' child w #[])
  (h1:jv eM R)(hc:jv Rc R)(Oo:∀b o,eM.wr b o->eM.rd b o)(hwc:∀b o,Rc.wr b o->Rc.rd b o)(Uj:eM.deaf=0)(hdc:Rc.deaf=0)(Ek:l7 eM Rc)(ahu:l7 Rc eM)(agZ:HL p)(hjw:JW P Wg p kc Rc child w)(hm:m<n)
  (Ua:JM P Fin (.fD ⟨Wg,p::pl,.opn (V+1)⟩) m eM g' w):
  ∃m₁ ops pf,runT P (crowd gs w sl) 0=(.next m₁,ops)/\Lt2 pf (meas n false gs.size F)/\Inv P Fin pf m₁ (t++ops):=by
 have gR:=runT_crowd_spawn (P:=P) (sl:=sl) (i:=0) I.main (show stepG P (0==0) (nD false g) w= .spawn g' child w #[]from fp);obtain⟨_,fI,dB,st,sm,jC,fC⟩:=I.fD;have iC:=I.size;have CM:=I.Tk;obtain⟨x,hx⟩:∃x:MemOp,x={g:=0,fn:=(nD false g).frame.fn,pos:=(nD false g).frame.place,act:= .go gs.size}:=⟨_,rfl⟩;obtain⟨y,hy⟩:∃y:MemOp,y={g:=gs.size,fn:=child.frame.fn,pos:=(nD false g).frame.place,act:= .start}:=⟨_,rfl⟩;have Mk:((MemOp.ofEvents 0 (nD false g).frame.fn (nD false g).frame.place #[]).push x).push y=#[x,y]:=by rw[ofEvents_eq];simp
 rw[<-hx,<-hy,Mk]at gR;have hxg:x.g=0/\x.act= .go gs.size:=by rw[hx];exact⟨rfl,rfl⟩
 have hyg:y.g=gs.size/\y.act= .start:=by rw[hy];exact⟨rfl,rfl⟩
 have ig:((gs.setIfInBounds 0 g').push child).size=gs.size+1:=du;have jd:=I.ei.lom;have hn:∀{α:Type} (f:Nat->α) (v:α) j,j<gs.size->upd f gs.size v j=f j:=fun f v j hj=>upd_ne f v ai
 have hD:∀j,0<j->j<gs.size->upd (upd D 0 (.work eM)) gs.size (.work Rc) j=D j:=fun j h1 h2=>by rw[hn _ _ j h2,upd_ne _ _ ai]
 have ZQ:upd (upd D 0 (.work eM)) gs.size (.work Rc) 0= .work eM:=by rw[hn _ _ 0 iC,upd_same]
 have three:∀j,j<gs.size+1->j=0\/(0<j/\j<gs.size)\/j=gs.size:=fun j hj=>by omega
 refine⟨_,_,meas m false ((gs.setIfInBounds 0 g').push child).size (upd F gs.size kc),gR,Prod.Lex.left _ _ hm,_,w,sl,.fD ⟨Wg,p::pl,.opn (V+1)⟩,m,eM,g',Wg,sh,lo,upd (upd D 0 (.work eM)) gs.size (.work Rc),upd S gs.size 7,upd F gs.size kc,upd ps gs.size p,false,rfl,
  ⟨?_,fun h=>(by cases h),Ua,ZQ,?_,⟨?_,fun j Jz qO=>?_,fun j qO=>?_,fun j JJ h2=>?_,fun j T r qO j6=>?_,fun j JJ h2=>?_,fun j qO=>?_,?_,?_⟩,?_⟩,rfl⟩
 ·rw[Array.getElem?_push_lt (by simp;omega),<-Array.getElem?_eq_getElem];simp[nD,iC]
 ·rw[C8 hxg hyg,I.deaf,h0,Uj]
 ·rw[ig];omega
 ·rw[ig]at qO;rw[C8 hxg hyg];rcases three j qO with rfl|⟨_,g2⟩|rfl
  ·omega
  ·obtain⟨z,hz,Vx⟩:=I.ei.wk j Jz g2;refine⟨z,?_,by rw[hD j Jz g2,hn _ _ j g2,hn _ _ j g2,hn _ _ j g2];exact Vx⟩;rw[Array.getElem?_push_lt (by simp;omega),<-Array.getElem?_eq_getElem,Array.getElem?_setIfInBounds_ne ai];exact hz
  ·refine⟨child,?_,?_⟩
   ·have e:gs.size=(gs.setIfInBounds 0 g').size:=du
    conv=>lhs;rw[e]
    exact Array.getElem?_push_size
   ·simp only[upd_same];rw[I.ei.above gs.size (aj _),<-hdc];exact .work hjw
 ·rw[hn _ _ j ai];exact I.ei.old j qO
 ·rw[ig]at h2;rcases Nat.lt_or_ge j gs.size with cB|uV
  ·rw[hn _ _ j cB];exact I.ei.act j JJ cB
  ·obtain rfl:j=gs.size:=ai;rw[upd_same];omega
 ·rw[ig]at qO;rcases three j qO with rfl|⟨g1,g2⟩|rfl
  ·rw[ZQ]at j6;cases j6
  ·rw[hD j g1 g2]at j6;rw[hn _ _ j g2];exact I.ei.post j T r g2 j6
  ·rw[upd_same]at j6;cases j6
 ·rw[ig]at h2;rcases Nat.lt_or_ge j gs.size with cB|uV
  ·rw[hn _ _ j cB];exact I.ei.Ga j JJ cB
  ·obtain rfl:j=gs.size:=ai;rw[upd_same];exact agZ
 ·rw[ig]at qO;rw[C8 hxg hyg];exact I.ei.above j ai
 ·rw[ig];have key:∀j T,j<gs.size+1->(upd (upd D 0 (.work eM)) gs.size (.work Rc) j).eh=some T->(j=0/\T=eM)\/(0<j/\j<gs.size/\(D j).eh=some T)\/(j=gs.size/\T=Rc):=by
   intro j T hj hT;rcases three j hj with rfl|⟨g1,g2⟩|rfl
   ·rw[ZQ]at hT;exact .inl ⟨rfl,(Option.some.inj hT).symm⟩
   ·rw[hD j g1 g2]at hT;exact .inr (.inl ⟨g1,g2,hT⟩)
   ·rw[upd_same]at hT;exact .inr (.inr ⟨rfl,(Option.some.inj hT).symm⟩)
  have hp:(D 0).eh=some R:=by rw[I.perm];rfl
  have dl:∀{T U:Perm},jv T R->l7 R U->l7 T U:=fun h d=>⟨fun b o x=>d.cell b o (h.wr b o x),fun b x=>d.obj b (h.ob b x)⟩
  have dr:∀{T U:Perm},jv T R->l7 U R->l7 U T:=fun h d=>⟨fun b o x y=>d.cell b o x (h.rd b o y),fun b x y=>d.obj b x (h.ob b y)⟩
  refine⟨fun j T hj hT=>?_,fun i j T U jq hi hj hT hU=>?_,fun j T hj hT b o hr hb=>?_,I.ei.lay.sh⟩
  ·rcases key j T hj hT with⟨_,rfl⟩|⟨_,g2,Qm⟩|⟨_,rfl⟩
   ·exact⟨fun b o x=>CM.rd b o (h1.rd b o x),Oo,fun b x=>CM.ob b (h1.ob b x)⟩
   ·exact I.ei.lay.low j T g2 Qm
   ·exact⟨fun b o x=>CM.rd b o (hc.rd b o x),hwc,fun b x=>CM.ob b (hc.ob b x)⟩
  ·rcases key i T hi hT with⟨rfl,rfl⟩|⟨g1,g2,Qm⟩|⟨rfl,rfl⟩<;>rcases key j U hj hU with⟨rfl,rfl⟩|⟨g3,g4,hU'⟩|⟨rfl,rfl⟩
   ·exact absurd rfl jq
   ·exact dl h1 (I.ei.lay.HY 0 j R U jq iC g4 hp hU')
   ·exact Ek
   ·exact dr h1 (I.ei.lay.HY i 0 T R jq g2 iC Qm hp)
   ·exact I.ei.lay.HY i j T U jq g2 g4 Qm hU'
   ·exact dr hc (I.ei.lay.HY i 0 T R ai g2 iC Qm hp)
   ·exact ahu
   ·exact dl hc (I.ei.lay.HY 0 j R U ai iC g4 hp hU')
   ·exact absurd rfl jq
  ·rcases key j T hj hT with⟨_,rfl⟩|⟨_,g2,Qm⟩|⟨_,rfl⟩
   ·exact I.ei.lay.DW 0 R iC hp b o (h1.rd b o hr) hb
   ·exact I.ei.lay.DW j T g2 Qm b o hr hb
   ·exact I.ei.lay.DW 0 R iC hp b o (hc.rd b o hr) hb
 ·rw[ig];exact I.ei.ti.fork I.perm h1 hc iC hxg hyg (I.deaf.trans h0) (I.ei.above gs.size (aj _))
 ·rw[ig];refine⟨rfl,fI,?_,st,sm,jC,?_⟩
  ·rw[show gs.size+1-lo=(gs.size-lo)+1 by omega,List.range_succ,List.map_append,List.reverse_append];simp only[List.map_cons,List.map_nil,List.reverse_cons,List.reverse_nil,List.nil_append,List.cons_append];rw[show lo+(gs.size-lo)=gs.size by omega,upd_same]
   show p::pl=p::_
   rw[show pl=_ from dB]
   congr 2
   refine List.map_congr_left fun i hi=>?_
   rw[hn _ _ _ (by have :=List.mem_range.1 hi;omega)]
  ·have hv:Vc (gs.size+1) (upd S gs.size 7)=Vc gs.size S+1:=by
    simp only[Vc,sumTo,upd_same];rw[sumTo_congr (g:=fun i=>if 5<=S i then 1 else 0) fun i hi=>by rw[hn _ _ i hi]];rfl
   cases fC with
   |added h2 h3 h4=>
    have :Mode lo (gs.size+1) (upd S gs.size 7) (.opn (V+1)) false ((Vc (gs.size+1) (upd S gs.size 7):Nat)*KK) 0:= .opn (fun i h5 h6=>by
     rcases Nat.lt_or_ge i gs.size with cB|uV
     ·rw[hn _ _ i cB];exact h2 i h5 cB
     ·obtain rfl:i=gs.size:=ai;rw[upd_same];simp) ai ai
    rw[hv]at this;simpa using this
end
end Go.AM
namespace Go.AM
open Go Go.Conc
open Go.ConcN (RelBy upd upd_same upd_ne sumTo sumTo_congr)
open Go.ConcR (stA smA KK rd wr)
section
variable {P:aC}{Fin:ae->ao->Prop}{gs:Array ak}{w w':ao}{t:Trace}{σ gj:nz}{n m:Nat}{R R' eM Rc:Perm}{g g' a' child:ak}{Wg:Nat}{sh:Nat->Prop}{lo:Nat}{D:Nat->WS}{S F:Nat->Nat}{ps:Nat->dm}{b b':Bool}{sl:Option (Nat×Nat)}{es:Array Event}
theorem IV.adZ(I:IV P Fin gs w t σ n R g Wg sh lo D S F ps b){j:Nat}(h0:0<j)(hj:j<gs.size)(hS:S j=1):∃T r,D j= .rel T r/\∃x,gs[j]?=some x/\QuitsD P (F j) (Deaf t j) x:=by
 obtain⟨x,hx,ss⟩:=I.ei.wk j h0 hj;rw[hS]at ss;generalize hD:D j=ws at ss;generalize hd:Deaf t j=d at ss;generalize F j=f at ss;cases ss with
 |gone hq=>exact⟨_,_,rfl,x,hx,hd▸hq⟩
theorem IV.agL{pl:List dm}(I:IV P Fin gs w t (.fD ⟨Wg,pl,.fin⟩) n R g Wg sh lo D S F ps false)(h0:R.deaf=0)(fp:stepG P true g w= .go g' w #[Go.ConcR.mk (.acquire (stA Wg))])(hm:m<n)
  (hj:∀Rs:List Perm,bH (fun p S=>p.ok S w/\w9 S w/\l7 R S/\l7 S R) pl Rs->Rs.Pairwise (fun S T=>l7 S T/\l7 T S)->
    ∃R',R'.deaf=0/\(∀b o,R'.wr b o->R'.rd b o)/\(∀b o,R'.rd b o->R.rd b o\/∃S∈Rs,S.rd b o)/\(∀b,R'.ob b->R.ob b\/∃S∈Rs,S.ob b)/\JM P Fin .idle m R' g' w):
  ∃m₁ ops pf,runT P (crowd gs w sl) 0=(.next m₁,ops)/\Lt2 pf (meas n false gs.size F)/\Inv P Fin pf m₁ (t++ops):=by
 have gR:=I.adV (sl:=sl) fp;obtain⟨_,fI,dB,st,sm,jC,fC⟩:=I.fD;have hq:AllQuit lo gs.size S:=by cases fC with |fin h=>exact h
 have jd:=I.ei.lom;have iC:=I.size;have hp0:(D 0).eh=some R:=by rw[I.perm];rfl
 have zf:∀j,lo<=j->j<gs.size->∃T r,D j= .rel T r/\∃x,gs[j]?=some x/\QuitsD P (F j) (Deaf t j) x:=fun j h1 h2=>I.adZ ai h2 (hq j h1 h2)
 let pm:Nat->Perm:=fun i=>((D (lo+i)).eh).getD R
 have hpm:∀i,i<gs.size-lo->∃r,D (lo+i)= .rel (pm i) r/\(D (lo+i)).eh=some (pm i):=fun i hi=>by
  obtain⟨T,r,hT,_⟩:=zf (lo+i) ai ai;have :pm i=T:=by show((D (lo+i)).eh).getD R=T;rw[hT];rfl
  exact⟨r,by rw[this];exact hT,by rw[this,hT];rfl⟩
 have hR2:bH (fun p S=>p.ok S w/\w9 S w/\l7 R S/\l7 S R) pl ((List.range (gs.size-lo)).reverse.map pm):=by
  rw[show pl=_ from dB,<-List.map_reverse];refine bH.pF fun i hi=>?_
  have Ej:i<gs.size-lo:=by simpa using hi
  obtain⟨r,h1,h2⟩:=hpm i Ej;exact⟨I.ei.post (lo+i) (pm i) r ai h1,I.ei.lay.low (lo+i) (pm i) ai h2,I.ei.lay.HY 0 (lo+i) R (pm i) ai iC ai hp0 h2,I.ei.lay.HY (lo+i) 0 (pm i) R ai ai iC h2 hp0⟩
 have hPW:((List.range (gs.size-lo)).reverse.map pm).Pairwise (fun S T=>l7 S T/\l7 T S):=by
  rw[List.pairwise_map];have XA:(List.range (gs.size-lo)).reverse.Nodup:=List.pairwise_reverse.2 (List.Pairwise.imp (fun h=>Ne.symm h) List.nodup_range);refine List.Pairwise.imp_of_mem (fun{i j} hi hj dQ=>?_) XA;have Ej:i<gs.size-lo:=by simpa using hi
  have qO:j<gs.size-lo:=by simpa using hj
  obtain⟨_,_,h2⟩:=hpm i Ej;obtain⟨_,_,h4⟩:=hpm j qO;have Ml:lo+i≠lo+j:=fun h=>dQ ai
  exact⟨I.ei.lay.HY (lo+i) (lo+j) _ _ Ml ai ai h2 h4,I.ei.lay.HY (lo+j) (lo+i) _ _ (Ne.symm Ml) ai ai h4 h2⟩
 obtain⟨R',yD,abS,ag3,akB,Ua⟩:=hj _ hR2 hPW;have zg:∀T∈(List.range (gs.size-lo)).reverse.map pm,∃j,j<gs.size/\(D j).eh=some T:=by
  intro T hT;obtain⟨i,hi,rfl⟩:=List.mem_map.1 hT;have Ej:i<gs.size-lo:=by simpa using hi
  obtain⟨_,_,h2⟩:=hpm i Ej;exact⟨lo+i,ai,h2⟩
 have CM:=I.Tk;have Ag:w9 R' w:=by
  refine⟨fun b o x=>?_,abS,fun b x=>?_⟩
  ·rcases ag3 b o x with h|⟨T,hT,h⟩
   ·exact CM.rd b o h
   ·obtain⟨j,hj,hjT⟩:=zg T hT;exact(I.ei.lay.low j T hj hjT).rd b o h
  ·rcases akB b x with h|⟨T,hT,h⟩
   ·exact CM.ob b h
   ·obtain⟨j,hj,hjT⟩:=zg T hT;exact(I.ei.lay.low j T hj hjT).ob b h
 have Zr:∀b o,R'.rd b o->sh b->¬o<=1:=by
  intro b o x hb;rcases ag3 b o x with h|⟨T,hT,h⟩
  ·exact I.ei.lay.DW 0 R iC hp0 b o h hb
  ·obtain⟨j,hj,hjT⟩:=zg T hT;exact I.ei.lay.DW j T hj hjT b o h hb
 obtain⟨x,hx⟩:∃x:MemOp,x={g:=0,fn:=g.frame.fn,pos:=g.frame.place,act:= .mark (.acquire (stA Wg))}:=⟨_,rfl⟩;have Mk:MemOp.ofEvents 0 g.frame.fn g.frame.place #[Go.ConcR.mk (.acquire (stA Wg))]=#[x]:=by rw[ofEvents_eq,hx];simp[Go.ConcR.ofEvent_mk]
 rw[Mk]at gR;have hxg:∀op∈(#[x]:Array MemOp),op.g=0:=by intro op dC;simp at dC;rw[dC,hx]
 have nL:∀j,Deaf (t++#[x]) j=Deaf t j:=by
  intro j;rw[Deaf_push];simp[deafStep,hx]
 have ig:(gs.setIfInBounds 0 g').size=gs.size:=du;have key:∀j T,(if j=0 then WS.work R' else .old).eh=some T->j=0/\T=R':=by
  intro j T hT
  split at hT
  ·rename_i e;exact⟨e,(Option.some.inj hT).symm⟩
  ·cases hT
 refine⟨_,_,meas m false (gs.setIfInBounds 0 g').size F,gR,Prod.Lex.left _ _ hm,_,w,sl,.idle,m,R',g',Wg,sh,gs.size,fun j=>if j=0 then .work R' else .old,fun _=>0,F,ps,false,rfl,
  ⟨?_,fun h=>(by cases h),Ua,rfl,?_,⟨by rw[ig];omega,fun j Jz qO=>?_,fun _ _=>rfl,fun j h1 h2=>(by rw[ig]at h2;omega),fun j T r qO j6=>?_,fun j h1 h2=>(by rw[ig]at h2;omega),fun j qO=>?_,?_,?_⟩,?_⟩,rfl⟩
 ·rw[Array.getElem?_setIfInBounds_self_of_lt iC];rfl
 ·rw[nL,I.deaf,h0,yD]
 ·rw[ig]at qO;have akM:j≠0:=ai;have :∃x,gs[j]?=some x/\QuitsD P (F j) (Deaf t j) x:=by
   rcases Nat.lt_or_ge j lo with cB|uV
   ·exact(I.IY Jz qO (I.ei.old j cB)).2
   ·obtain⟨_,_,_,h⟩:=zf j uV qO;exact h
  obtain⟨z,hz,xU⟩:=this;refine⟨z,by rw[Array.getElem?_setIfInBounds_ne ai];exact hz,?_⟩;rw[bW akM,nL];exact .old xU
 ·replace j6:(if j=0 then WS.work R' else .old)= .rel T r:=j6
  split at j6<;>cases j6
 ·rw[ig]at qO;rw[nL];exact I.ei.above j qO
 ·rw[ig];refine⟨fun j T hj hT=>?_,fun i j T U jq hi hj hT hU=>?_,fun j T hj hT b o hr hb=>?_,I.ei.lay.sh⟩
  ·obtain⟨_,rfl⟩:=key j T hT;exact Ag
  ·exact absurd ((key i T hT).1.trans (key j U hU).1.symm) jq
  ·obtain⟨_,rfl⟩:=key j T hT;exact Zr b o hr hb
 ·rw[ig];refine I.ei.ti.Ve iC (fun j h1 h2=>?_) (by rw[hx];exact⟨rfl,rfl⟩) (I.deaf.trans h0) Zr abS;rcases Nat.lt_or_ge j lo with cB|uV
  ·exact .inr (I.IY h1 h2 (I.ei.old j cB)).1
  ·obtain⟨T,r,hT,_⟩:=zf j uV h2;exact .inl ⟨T,r,hT⟩
 ·exact⟨ig.symm,rfl⟩
theorem IV.ends(I:IV P Fin gs w t .idle n R g Wg sh lo D S F ps false){v:ae}(fp:stepG P true g w= .ended (.done v) w' es)(dV:∀e∈es,nJ R e)(rC:Fin v w'):
  ∃o aN ops,runT P (crowd gs w sl) 0=(.ended o aN,ops)/\∀bl Nu,Good P Fin (crowd gs bl Nu) o aN (t++ops):=by
 obtain⟨jd,_⟩:lo=gs.size/\false=false:=I.fD;have CM:=I.Tk;have hold:∀j,0<j->j<gs.size->D j= .old/\∃x,gs[j]?=some x/\QuitsD P (F j) (Deaf t j) x:=fun j h1 h2=>I.IY h1 h2 (I.ei.old j ai)
 have TU:TI Wg sh D gs.size w.heap.size (t++MemOp.ofEvents 0 g.frame.fn g.frame.place es):=by
  refine I.ei.ti.app I.ei.lay I.size (aj _) (fun _ _=>rfl) (.inl rfl) Go.ConcR.g_of_ofEvents (fun op dC bb hb=>?_) (fun op dC ad=>?_) (fun op dC bb hb=>?_) (fun HK r h=>by rw[I.perm]at h;cases h)
  ·obtain⟨e,he,rfl⟩:=Go.Conc.mem_ofEvents dC;exact G3 CM (rE CM.wr (.inl (dV e he)) hb).1
  ·obtain⟨e,he,rfl⟩:=Go.Conc.mem_ofEvents dC;exact C1 (.inl (dV e he)) ad
  ·obtain⟨e,he,rfl⟩:=Go.Conc.mem_ofEvents dC;exact .inl ⟨R,I.perm,rE CM.wr (.inl (dV e he)) hb⟩
 refine⟨_,_,_,runT_many_ended (P:=P) (sl:=sl) (i:=0) I.main (show stepG P (0==0) (nD false g) w=_ from fp),fun bl Nu=>⟨v,rfl,rC,TU.nr,TU.over fun j h1 h2=>(hold j h1 h2).1,⟨fun x hx=>?_,rfl⟩,fun j x hx hj=>?_⟩⟩
 ·obtain⟨j,hj⟩:=List.mem_iff_getElem?.1 hx;rw[List.getElem?_drop]at hj;have qO:gs[1+j]?=some x:=by simpa[crowd]using hj
  obtain⟨_,y,hy,hq⟩:=hold (1+j) ai (Array.getElem?_eq_some_iff.1 qO).1;rw[qO]at hy;cases hy;exact⟨_,hq.leaves⟩
 ·have vp:gs[j]?=some x:=hx;obtain⟨_,y,hy,hq⟩:=hold j ai (Array.getElem?_eq_some_iff.1 vp).1;rw[vp]at hy;cases hy;refine⟨F j,?_⟩;have e:(t++MemOp.ofEvents 0 g.frame.fn g.frame.place es).deaf j (t++MemOp.ofEvents 0 g.frame.fn g.frame.place es).size=Deaf t j:=
   Deaf_other t (g:=j) (g':=0) ai _ Go.ConcR.g_of_ofEvents
  show x.endsWith P bl (F j) ((t++MemOp.ofEvents 0 g.frame.fn g.frame.place es).deaf j (t++MemOp.ofEvents 0 g.frame.fn g.frame.place es).size)=some 0
  rw[e];exact hq.hears _
set_option maxHeartbeats 1000000 in
theorem step0:∀(n:Nat) {σ:nz}{R:Perm}{Wg:Nat}{sh:Nat->Prop}{lo:Nat}{D:Nat->WS}{S F:Nat->Nat}{ps:Nat->dm},IV P Fin gs w t σ n R g Wg sh lo D S F ps false->
  (∃o aN ops,runT P (crowd gs w sl) 0=(.ended o aN,ops)/\∀bl Nu,Good P Fin (crowd gs bl Nu) o aN (t++ops))\/
  (∃m₁ ops pf,runT P (crowd gs w sl) 0=(.next m₁,ops)/\Lt2 pf (meas n false gs.size F)/\Inv P Fin pf m₁ (t++ops)):=by
 intro n
 induction n using Nat.strongRecOn with
 |_ n ih=>
  intro σ R Wg sh lo D S F ps I;obtain⟨m,hm,hs⟩:=I.jm.out;have Ah:∀j U,j<gs.size->(D j).eh=some U->bg U w w:=fun _ _ _ _=>bg.refl _ _
  cases hs I.fD.live with
  |own _ h1 h2=>exact .inr (I.WU h1 hm h2)
  |ends _ h1 h2 _ h4=>exact .inl (I.ends h1 h2 h4)
  |wR h1 h2 h3 h4 h5 h6 h7 h8=>
   rcases ih m hm (I.wR h1 h2 h3 h4 h5 h6 h7 h8)with h|⟨m₁,ops,pf,g1,g2,g3⟩
   ·exact .inl h
   ·exact .inr ⟨m₁,ops,pf,g1,lt2_trans g2 (Prod.Lex.left _ _ hm),g3⟩
  |add _ hV h1=>
   obtain⟨rfl,fI,dB,st,sm,jC,fC⟩:=I.fD;cases fC with
   |opn h2 h3 h4=>
    obtain⟨g',h5,h6⟩:=h1 _ h3 jC;have hk:∀j U,j<gs.size->(D j).eh=some U->bg U w (setSt _ (((Vc gs.size S:Nat)+1)*KK) w):=fun j U hj hU=>qx (I.ei.lay.low j U hj hU) (fun o ho hr=>I.ei.lay.DW j U hj hU _ o hr fI ho) jC
    refine .inr (I.lM (b':=false) h5 rfl g8 (.inl hm) h6 (jT (by intro e he;simpa using he) _) hk (size_setCell ..) fI (fun e he=> .inl ?_) ⟨rfl,fI,dB,_,_,jC.setSt _,.added h2 h3 hV⟩);simp at he;rcases he with rfl|rfl
    ·exact yt _ _
    ·exact yt _ _
  |said _ h1 h2 h3=>
   obtain⟨rfl,fI,dB,st,sm,jC,fC⟩:=I.fD;refine .inr (I.lM (b':=false) h1 rfl g8 (.inl hm) h3 ?_ Ah rfl fI (fun e he=> .inr (h2 e he)) ⟨rfl,fI,dB,st,sm,jC,fC⟩);have :=od R.deaf (_:Array Event).toList fun e he=>(h2 e (by simpa using he)).elim (fun x=>by rw[x];simp[Go.ConcR.mk]) fun x=>by rw[x];simp[Go.ConcR.mk]
   simpa using this
  |spawn _ h1 h2 h3 h4 h5 h6 h7 h8 h9 h10 h11 KJ h13=>
   have hW:=I.fD.1;simp only at hW;subst hW;exact .inr (I.spawns h1 h2 h3 h4 h5 h6 h7 h8 h9 h10 h11 KJ hm h13)
  |load _ h1=>
   obtain⟨hW,fI,dB,st,sm,jC,fC⟩:=I.fD
   replace hW:=hW.symm
   simp only at hW;subst hW;cases fC with
   |opn h2 h3 h4=>
    obtain⟨g',h5,h6,h7⟩:=h1 _ h3 jC;have HV:∀e∈(#[rd (stA Wg)]:Array Event),KP Wg e\/e=Go.ConcR.mk (.read (smA Wg))\/e=Go.ConcR.mk (.write (smA Wg)):=fun e he=> .inl (by simp at he;subst he;exact yt _ _)
    have nL:deafBehind R.deaf (#[rd (stA Wg)]:Array Event)=R.deaf:=jT (by intro e he;simp at he;exact .inl he) _
    by_cases hv:Vc gs.size S=0
    ·refine .inr (I.lM (b':=false) h5 rfl g8 (.inl hm) (h6 hv) nL Ah rfl fI HV ⟨rfl,fI,dB,_,_,jC,?_⟩);have :=Mode.fin (allQuit_of h2 hv);rw[hv];simpa using this
    ·exact .inr (I.lM (b':=false) h5 rfl g8 (.inl hm) (h7 hv) nL Ah rfl fI HV ⟨rfl,fI,dB,_,_,jC,.seen h2 (aj _) ai ai⟩)
  |cas _ h1=>
   obtain⟨rfl,fI,dB,st,sm,jC,fC⟩:=I.fD;cases fC with
   |seen h2 h3 h4 h5=>
    obtain⟨akO,ahf⟩:=h1 _ h3 jC;rcases Nat.eq_or_lt_of_le h3 with hv|hv
    ·obtain⟨g',h6,h7⟩:=akO hv;have hk:∀j U,j<gs.size->(D j).eh=some U->bg U w (setSt _ ((Vc gs.size S:Nat)*KK+1) w):=fun j U hj hU=>qx (I.ei.lay.low j U hj hU) (fun o ho hr=>I.ei.lay.DW j U hj hU _ o hr fI ho) jC
     refine .inr (I.lM (b':=false) h6 rfl g8 (.inl hm) h7 (jT (by intro e he;simpa using he) _) hk (size_setCell ..) fI (fun e he=> .inl ?_) ⟨rfl,fI,dB,_,_,jC.setSt _,.reg h2 ai ai⟩);simp at he;rcases he with rfl|rfl
     ·exact yt _ _
     ·exact yt _ _
    ·obtain⟨g',h6,h7⟩:=ahf (Nat.ne_of_lt hv);exact .inr (I.lM (b':=false) h6 rfl g8 (.inl hm) h7 (jT (by intro e he;simp at he;exact .inl he) _) Ah rfl fI (fun e he=> .inl (by simp at he;subst he;exact yt _ _)) ⟨rfl,fI,dB,_,_,jC,.opn h2 ai ai⟩)
  |sem hr ab9 h1 h2=>
   obtain⟨rfl,fI,dB,st,sm,jC,fC⟩:=I.fD;have j7:∀jL,rQ _ w jL 0->Mode lo gs.size S .reg true jL 0->(∃m₁ ops pf,runT P (crowd gs w sl) 0=(.next m₁,ops)/\Lt2 pf (meas n false gs.size F)/\Inv P Fin pf m₁ (t++ops)):=fun jL Ei hmo=>
    I.lM (b':=true) (g':=g) (h1 jL Ei) rfl (fun _=>⟨hr,ab9⟩) (.inr ⟨rfl,rfl⟩) I.jm rfl Ah rfl fI (fun e he=>by simp at he) ⟨rfl,fI,dB,jL,0,Ei,hmo⟩
   cases fC with
   |reg h3 h4 h5=>exact .inr (j7 _ jC (.reg h3 h4 h5))
   |last L h3 h4 h5 h6=>exact .inr (j7 _ jC (.last L h3 h4 h5 h6))
   |sema h3=>
    obtain⟨g',h4,h5⟩:=h2 jC;have hk:∀j U,j<gs.size->(D j).eh=some U->bg U w (setSm _ 0 w):=fun j U hj hU=>Aa (I.ei.lay.low j U hj hU) (fun o ho hr=>I.ei.lay.DW j U hj hU _ o hr fI ho) jC
    refine .inr (I.lM (b':=false) h4 rfl g8 (.inl hm) h5 (by simp[semEvents,deafBehind]) hk (size_setCell ..) fI (fun e he=> .inl ?_) ⟨rfl,fI,dB,_,_,jC.setSm _,.Uu h3⟩);simp[semEvents]at he;rcases he with rfl|rfl|rfl|rfl
    ·exact .inl rfl
    ·exact O4 _ _
    ·exact O4 _ _
    ·exact .inr (.inl rfl)
  |last _ h1=>
   obtain⟨rfl,fI,dB,st,sm,jC,fC⟩:=I.fD;cases fC with
   |Uu h3=>
    obtain⟨g',h4,h5⟩:=h1 jC;exact .inr (I.lM (b':=false) h4 rfl g8 (.inl hm) h5 (jT (by intro e he;simp at he;exact .inl he) _) Ah rfl fI (fun e he=> .inl (by simp at he;subst he;exact yt _ _)) ⟨rfl,fI,dB,_,_,jC,.fin h3⟩)
  |acq _ h1 h2 h3=>
   have hW:=I.fD.1;simp only at hW;subst hW;exact .inr (I.agL h1 h2 hm h3)
end
end Go.AM
namespace Go.AM
open Go Go.Conc
open Go.ConcN (RelBy upd upd_same upd_ne sumTo sumTo_congr)
open Go.ConcR (stA smA KK rd wr)
section
variable {P:aC}{Fin:ae->ao->Prop}{gs:Array ak}{w w':ao}{t:Trace}{σ gj:nz}{n m:Nat}{R:Perm}{g:ak}{Wg:Nat}{sh:Nat->Prop}{lo:Nat}{D:Nat->WS}{S F:Nat->Nat}{ps:Nat->dm}{b:Bool}{sl:Option (Nat×Nat)}
theorem IV.at(I:IV P Fin gs w t σ n R g Wg sh lo D S F ps b)(d:Nat):IV P Fin gs (w.at d) t σ n R g Wg sh lo D S F ps b:=by
 have hk:∀T,bg T w (w.at d):=fun T=>bg.at T w d
 refine⟨I.main,I.blk,I.jm.keeps (hk R),I.perm,I.deaf,⟨I.ei.lom,fun j h1 h2=>?_,I.ei.old,I.ei.act,fun j T r hj j6=>?_,I.ei.Ga,I.ei.above,I.ei.lay.FX (aj _) fun j T _ _=>hk T,I.ei.ti⟩,?_⟩
 ·obtain⟨x,hx,ss⟩:=I.ei.wk j h1 h2;exact⟨x,hx,ss.keeps fun T _=>hk T⟩
 ·have jd:lo<=j:=Nat.le_of_not_lt fun cB=>by
   have h0:=I.ei.old j cB;rcases Nat.eq_zero_or_pos j with rfl|hp
   ·rw[I.perm]at j6;cases j6
   ·obtain⟨x,_,ss⟩:=I.ei.wk j hp hj;rw[h0,j6]at ss;cases ss
  exact I.ei.Ga j jd hj T w _ (I.ei.post j T r hj j6) (hk T)
 ·have hg:=I.fD;cases σ with
  |Br=>exact hg.elim
  |idle=>exact hg
  |fD gr=>
   obtain⟨h1,h2,h3,st,sm,h4,h5⟩:=hg;exact⟨h1,h2,h3,st,sm,h4.at d,h5⟩
theorem IV.V'(I:IV P Fin gs w t σ n R g Wg sh lo D S F ps b):∃(i:Nat) (x:ak),gs[i]?=some x/\x.status= .running:=by
 cases b with
 |false=>exact⟨0,_,I.main,I.running⟩
 |true=>
  have key:∀i,i<gs.size->2<=S i->∃(i:Nat) (x:ak),gs[i]?=some x/\x.status= .running:=by
   intro i hi h2;have wE:0<i:=Nat.pos_of_ne_zero fun e=>by
    subst e;have :=I.ei.old 0 (by have :=I.ei.lom;omega);omega
   obtain⟨x,hx,ss⟩:=I.ei.wk i wE hi;exact⟨i,x,hx,ss.status.elim id fun h=>by omega⟩
  have hg:=I.fD;cases σ with
  |Br=>exact hg.elim
  |idle=>obtain⟨_,h⟩:=hg;cases h
  |fD gr=>
   obtain⟨_,_,_,st,sm,_,fC⟩:=hg;generalize hgs:gr.sub=s at fC;cases fC with
   |reg h1 h2 h3=>
    obtain⟨i,hi,h5⟩:=Nk h2;exact key i hi ai
   |last L h1 h2 h3 h4=>exact key L h2 ai
theorem IV.awake(I:IV P Fin gs w t σ n R g Wg sh lo D S F ps b):∀x∈gs,awake x:=by
 intro x hx;obtain⟨i,hi,rfl⟩:=Array.mem_iff_getElem.1 hx;rcases Nat.eq_zero_or_pos i with rfl|hp
 ·have :gs[0]=nD b g:=by have :=I.main;rw[Array.getElem?_eq_getElem hi]at this;exact Option.some.inj this
  rw[this];exact I8 fun _=>I.running
 ·obtain⟨x,hx,ss⟩:=I.ei.wk i hp hi;rw[Array.getElem?_eq_getElem hi]at hx;rw[Option.some.inj hx];exact awake_of (ss.status.elim .inl fun h=> .inr (.inr h.1))
theorem TK (μ:Nat×Nat)(m:Machine)(t:Trace)(h:Inv P Fin μ m t):
  (∃o w ops,stepT P m=(.ended o w,ops)/\Good P Fin m o w (t++ops))\/(∃m' ops pf,stepT P m=(.next m',ops)/\Lt2 pf μ/\Inv P Fin pf m' (t++ops)):=by
 obtain⟨gs,w,sl,σ,n,R,g,Wg,sh,lo,D,S,F,ps,b,rfl,I,rfl⟩:=h;obtain⟨i,x,d,sl',hx,hr,fp⟩:=crowd_pick (P:=P) (w:=w) (sl:=sl) I.awake I.V';have I':=I.at d;have hi:i<gs.size:=(Array.getElem?_eq_some_iff.1 hx).1;rcases Nat.eq_zero_or_pos i with rfl|hp
 ·cases b with
  |true=>
   rw[I.main]at hx;cases hx;cases hr
  |false=>
   rcases step0 (sl:=sl') n I' with⟨o,aN,ops,h1,h2⟩|⟨m₁,ops,pf,h1,h2,h3⟩
   ·exact .inl ⟨o,aN,ops,fp.trans h1,h2 w sl⟩
   ·exact .inr ⟨m₁,ops,pf,fp.trans h1,h2,h3⟩
 ·obtain⟨m₁,ops,pf,h1,h2,h3⟩:=I'.stepW (sl:=sl') hp hi hx hr;exact .inr ⟨m₁,ops,pf,fp.trans h1,h2,h3⟩
theorem GH {W:ao}(hj:JM P Fin .idle n R g W)(hl:w9 R W)(hd:R.deaf=0):
  ∃N last o w' t',runNT P (N+1) (solo g W) #[]=(.ended o w',t')/\runN P N (solo g W)= .next last/\step P last= .ended o w'/\Good P Fin last o w' t':=by
 refine run_of_inv (Prod.lex ⟨(·< ·),Nat.lt_wfRel.wf⟩ ⟨(·< ·),Nat.lt_wfRel.wf⟩).wf (Inv P Fin) (Good P Fin) TK (meas n false 1 (fun _=>0)) _ _ ?_;have h0:∀{i:Nat}{a:Touch},touchAt #[] i=some a->False:=fun h=>by simp[touchAt,Trace.act?]at h
 refine⟨#[g],W,none,.idle,n,R,g,0,fun _=>False,1,fun _=> .work R,fun _=>0,fun _=>0,fun _=>⟨fun _ _=>True⟩,false,rfl,⟨rfl,fun h=>(by cases h),hj,rfl,hd.symm▸rfl,⟨du,fun i h1 h2=>?_,fun _ _=>rfl,fun i h1 h2=>?_,fun i T r hi h=>(by cases h),fun i h1 h2=>?_,fun _ _=>rfl,?_,?_⟩,⟨rfl,rfl⟩⟩,rfl⟩
 ·simp at h2;omega
 ·simp at h2;omega
 ·simp at h2;omega
 ·refine⟨fun k T hk hT=>?_,fun j k T U G4 hj hk _ _=>?_,fun k T hk hT b o hr hb=>hb.elim,fun b hb=>hb.elim⟩
  ·cases hT;exact hl
  ·simp at hj hk;omega
 ·refine⟨fun said=>?_,fun op dC=>(by simp at dC),fun i a ha=>(h0 ha).elim,fun k T hk hT i a ha=>(h0 ha).elim,fun k T hk hT i a ha=>(h0 ha).elim,fun i a ha=>(h0 ha).elim,fun i a ha=>(h0 ha).elim,fun k T r hk h=>(by cases h),fun a i h=>(by simp[Trace.act?]at h),fun i k hi=>(by simp[Trace.g?]at hi),⟨R,rfl⟩⟩;rintro⟨i,j,_,⟨a,b,ha,_⟩,_⟩;simp[Trace.act?]at ha
end
end Go.AM
namespace Go.AM
open Go Go.Conc
section
variable {P:aC}{E:Perm}{bl:ao}{ρ:dw}{m aV:Mem}{w:ao}{wa d o:Nat}{p:Pl}
theorem fL.fields(h:fL ρ m w)(fl:Nat)(op:List Span)(wg:Option Nat)(pn:List AT):fL ρ {m with floor:=fl,opn:=op,wg:=wg,pend:=pn} w:=
 ⟨h.mo,h.cells,h.kN,h.thaw,h.maps,h.kX,h.sep,h.rB,h.vars⟩
theorem GR {l:List Span}(h:l.all (fun s=>wx m s&&s.1 !=wa)=true):∀s∈l,s.2.1=s.1+1/\m.base<=s.1/\m.floor<=s.1/\s.1<m.next/\(m.blk s.1).kind=1/\s.1≠wa:=by
 intro s hs;rw[aB]at h;have :=h s hs;simp only[wx,ag,iB,beq_iff_eq,bne_iff_ne]at this;obtain⟨⟨⟨⟨⟨⟨h1,h2⟩,h3⟩,h4⟩,h5⟩,_⟩,h6⟩:=this;exact⟨h1,h2,h3,h4,h5,h6⟩
theorem mS {l:List Span}{b o:Nat}(h:bz l b o=true):∃s∈l,s.1<=b/\b<s.2.1/\(s.2.2=none\/s.2.2=some o):=by
 unfold bz at h;rw[List.any_eq_true]at h;obtain⟨s,hs,h⟩:=h;simp only[ag,iB]at h;refine⟨s,hs,h.1.1,h.1.2,?_⟩;have h2:=h.2
 split at h2
 ·rename_i e;exact .inl e
 ·rename_i y e;exact .inr (by rw[e];simpa using h2)
theorem CW (hg:m.wg=none)(h:kU wa d o m=some aV):∃l,aV={m.a9 wa {}with wg:=some wa,opn:=l,floor:=m.next}/\oK m d o 4=some l/\m.dK wa 0 2=some [.int .u64 0,.int .u32 0]/\m.dh wa 0 2=true/\m.fA wa=true/\
  (m.blk wa).pos=1/\(m.blk wa).cs.length=2/\m.bh=[]/\m.opn=[]/\m.pend=[]/\m.floor=m.base/\l.all (fun s=>wx m s&&s.1 !=wa)=true/\js l=true:=by
 unfold kU at h;rw[hg]at h;simp only[]at h
 split at h
 ·rename_i l hl ZD
  split at h
  ·rename_i hc;simp only[ah]at h;simp only[ag,iB,beq_iff_eq]at hc;obtain⟨⟨⟨⟨⟨⟨⟨⟨⟨c1,c2⟩,c3⟩,c4⟩,c5⟩,c6⟩,c7⟩,c8⟩,c9⟩,c10⟩:=hc;exact⟨l,h.symm,ZD,hl,c1,c2,c3,c4,c5,c6,c7,c8,c9,c10⟩
  ·cases h
 ·cases h
theorem JK (H:dk P E bl .idle ρ m w)(h:kU wa d o m=some aV)(hp:ρ wa=some p):
  p.d=0/\dk P E bl (.fD ⟨p.c,[],.opn 0⟩) ρ aV w/\jv ((ax ρ aV).or E) ((ax ρ m).or E)/\(∀b o,((ax ρ aV).or E).wr b o->((ax ρ aV).or E).rd b o)/\aV.deaf=m.deaf/\
   ((ax ρ m).or E).wr p.c 0/\((ax ρ m).or E).wr p.c 1/\rQ p.c w 0 0/\∀x,x<=1->¬((ax ρ aV).or E).rd p.c x:=by
 obtain⟨hgw,hgp,hgh⟩:m.wg=none/\m.pend=[]/\m.home<=m.next:=H.fD;obtain⟨l,rfl,ZD,hl,c1,c2,c3,c4,c5,c6,c7,c8,c9,c10⟩:=CW hgw h;have hs:=H.jM;have hk:(m.blk wa).kind=1:=(Mem.pG hl).1;have hd:p.d=0:=hs.vars wa p hp hk c3;obtain⟨_,tZ,_⟩:=hs.cells wa p hp hk;have kY:∀i,i<2->∃v,[ae.int .u64 0,ae.int .u32 0][i]?=some v/\m.cell wa i=some v:=fun i hi=>by
  obtain⟨v,h1,h2⟩:=(Mem.pG hl).2.2 i hi;exact⟨v,h1,by simpa using h2⟩
 have sS:=Mem.ku c1;have tY:∀i,i<2->(ax ρ m).wr p.c i:=fun i hi=>by
  obtain⟨v,_,hc⟩:=kY i hi;have h1:=(Mem.qM c1 hi).2;have :=yI (ρ:=ρ) (m:=m) hp (o:=i) ai ⟨Mem.eE hc,by simpa using h1⟩;rw[hd]at this;simpa using this
 have HU:wa<m.next:=hs.mo wa p hp;have j7:∀b,({m.a9 wa {}with wg:=some wa,opn:=l,floor:=m.next}:Mem).blk b=if wa=b then{bK:=m.tick}else m.blk b:=fun b=>Mem.eC ..
 have hR:∀b x,({m.a9 wa {}with wg:=some wa,opn:=l,floor:=m.next}:Mem).nC b x->b≠wa/\m.nC b x:=by
  intro b x hr;obtain⟨h1,h2,h3⟩:=hr;rw[j7]at h1 h3
  by_cases e:wa=b
  ·rw[bj e]at h1;cases h1
  ·rw[bW e]at h1 h3;exact⟨fun x=>e x.symm,h1,h2,h3⟩
 have hW:∀b x,({m.a9 wa {}with wg:=some wa,opn:=l,floor:=m.next}:Mem).okW b x->m.okW b x:=by
  intro b x hw;obtain⟨h1,h2⟩:=hw;have h3:=(hR b x h1).2;refine⟨h3,.inl ?_⟩;rcases h2 with h2|h2
  ·exact absurd h3.1 (by rw[H.wf.x8 b h2];simp)
  ·obtain⟨s,s9,g1,g2,_⟩:=mS h2;obtain⟨e1,_,e3,_⟩:=GR c9 s s9;omega
 have Zu:∀b x,(ax ρ {m.a9 wa {}with wg:=some wa,opn:=l,floor:=m.next}).rd b x->(ax ρ m).rd b x:=fun b x ⟨b',p',g1,g2,g3,g4,g5⟩=>⟨b',p',g1,g2,g3,g4,(hR _ _ g5).2⟩
 have agQ:∀b x,(ax ρ {m.a9 wa {}with wg:=some wa,opn:=l,floor:=m.next}).wr b x->(ax ρ m).wr b x:=fun b x ⟨b',p',g1,g2,g3,g4,g5⟩=>⟨b',p',g1,g2,g3,g4,hW _ _ g5⟩
 have Bf:∀b,(ax ρ {m.a9 wa {}with wg:=some wa,opn:=l,floor:=m.next}).ob b->(ax ρ m).ob b:=by
  rintro b ⟨b',p',g1,g2,g3,g4⟩;rw[j7]at g3
  by_cases e:wa=b'
  ·rw[bj e]at g3;rcases g3 with g3|g3<;>cases g3
  ·rw[bW e]at g3;exact⟨b',p',g1,g2,g3,g4⟩
 have abW:fL ρ ({m.a9 wa {}with wg:=some wa,opn:=l,floor:=m.next}:Mem) w:=(hs.kill wa).fields m.next l (some wa) m.pend;have hwc:rQ p.c w 0 0:=by
  have hv:∀i,i<2->∀u,m.cell wa i=some u->(∀u',aQ ρ u u'->u'=u)->w.cell? ⟨p.c,i,none⟩=some u:=by
   intro i hi u hu eF;obtain⟨v',g1,g2⟩:=hs.kN wa p i u hp hu;rw[hd,Nat.zero_add]at g1;rw[g1,eF v' g2]
  refine⟨hv 0 ai _ ?_ fun u' hu=>(aF (by rfl)).1 hu,hv 1 ai _ ?_ fun u' hu=>(aF (by rfl)).1 hu,fun x hx=>?_⟩
  ·obtain⟨v,g1,g2⟩:=kY 0 ai;simp only[List.getElem?_cons_zero,ah]at g1;subst g1;exact g2
  ·obtain⟨v,g1,g2⟩:=kY 1 ai;simp only[List.getElem?_cons_succ,List.getElem?_cons_zero,ah]at g1;subst g1;exact g2
  ·have :=hs.thaw wa p x hp ai hk sS;rw[hd,Nat.zero_add]at this;exact this
 have Q7:∀x,x<=1->¬((ax ρ {m.a9 wa {}with wg:=some wa,opn:=l,floor:=m.next}).or E).rd p.c x:=by
  intro x hx hr;rcases hr with⟨b',p',g1,g2,g3,g4,g5⟩|hr
  ·obtain⟨dQ,eZ⟩:=hR _ _ g5;obtain⟨_,_,h3⟩:=hs.sep b' wa p' p dQ g1 hp (by rw[eZ.1];simp) (by rw[hk];simp) g2;omega
  ·exact(H.apart.cell p.c x hr).2 (tY x ai)
 refine⟨hd,⟨abW,H.rest,⟨fun b x he=>⟨(H.apart.cell b x he).1,fun hw=>(H.apart.cell b x he).2 (agQ b x hw)⟩,fun b he=>⟨(H.apart.obj b he).1,fun hw=>(H.apart.obj b he).2.1 (Bf b hw),(H.apart.obj b he).2.2⟩,H.apart.wf⟩,H.nW,?_,?_,fun b q x g1 gb g3 g4 g5=>H.M9 b q x g1 gb g3 g4 (hR _ _ g5).2,fun b x he hr=>H.ew b x he (Zu b x hr)⟩,
  ⟨fun b x hr=>hr.imp (Zu b x) id,fun b x hw=>hw.imp (agQ b x) id,fun b hb=>hb.imp (Bf b) id⟩,fun b x hw=>hw.elim (fun y=> .inl (lI y)) fun y=> .inr (H.apart.wf b x y),rfl,.inl (tY 0 ai),.inl (tY 1 ai),hwc,Q7⟩
 ·refine⟨rfl,du,⟨hgh,by show m.base<=m.next;rw[<-c8];exact H.wf.fl⟩,wa,rfl,HU,HU,fun q hq=>?_,?_⟩
  ·rw[hp]at hq;cases hq;exact⟨rfl,hd⟩
  ·refine⟨?_,fun x hx=>?_,?_⟩
   ·show bH _ m.pend []
    rw[hgp];trivial
   ·have vp:x∈m.bh:=hx;rw[c5]at vp;cases vp
   ·show m.pend.Pairwise _
    rw[hgp];exact List.Pairwise.nil
 ·have hw:=(jg.own c2).2.2 H.wf;exact⟨hw.bK,hw.x8,hw.bh,aj _,hw.live⟩
end
end Go.AM
namespace Go.AM
open Go Go.Conc
def dD (m:Mem)(l rest:List Span):Mem:={m with home:=m.next,floor:=m.next,opn:=l,bh:=rest++m.bh,wg:=none,pend:=[]}
def qI (m m2:Mem)(l rest:List Span):AT:={lo:=m.next,hi:=m2.next,oL:=l,bh:=rest++m.bh,heap:=m2.heap}
def jG (m m2:Mem)(l rest:List Span):Mem:=
 {m2 with home:=m.home,floor:=m2.next,opn:=rest,wg:=m.wg,bh:=(m.next,m2.next,none)::(l++m.bh),pend:=qI m m2 l rest::m.pend}
theorem J0 (s:Span)(l:List Span)(b o:Nat):bz (s::l) b o=(bz [s] b o||bz l b o):=by simp[bz]
theorem qS (l l':List Span)(b o:Nat):bz (l++l') b o=(bz l b o||bz l' b o):=by simp[bz,List.any_append]
theorem FY (s:Span)(l:List Span)(b:Nat):aJ (s::l) b=(aJ [s] b||aJ l b):=by simp[aJ]
theorem tE (l l':List Span)(b:Nat):aJ (l++l') b=(aJ l b||aJ l' b):=by simp[aJ,List.any_append]
section
variable {P:aC}{E:Perm}{bl:ao}{ρ:dw}{m m2:Mem}{w:ao}{l rest:List Span}{b o:Nat}{p:Pl}
theorem kV (hf:Fr (dD m l rest) m2)(hb:b<m.next):
  m2.blk b=m.blk b\/((m2.blk b).kind=0/\gI l b=true)\/((m.blk b).kind=1/\(m2.blk b).kind=1/\(m2.blk b).sz=(m.blk b).sz/\(m2.blk b).pos=(m.blk b).pos/\(m2.blk b).cs.length=(m.blk b).cs.length/\
   ∀o:Nat,(m2.blk b).cs[o]?≠(m.blk b).cs[o]?->bz l b o=true):=by
 rcases hf.blk b with e|⟨_,h⟩
 ·exact .inl e
 ·rcases h with h|⟨_,_,h,hk⟩|⟨h,_⟩|⟨_,h1,h2,h3,h4,h5,h6⟩
  ·exact absurd (show m.next<=b from h) ai
  ·rcases h with h|h
   ·exact absurd (show m.next<=b from h) ai
   ·exact .inr (.inl ⟨hk,h⟩)
  ·exact absurd (show m.next<=b from h) ai
  ·refine .inr (.inr ⟨h1,h2,h3,h4,h5,fun o ho=>?_⟩);rcases(h6 o ho).2 with h|h
   ·exact absurd (show m.next<=b from h) ai
   ·exact h
theorem wK (hf:Fr (dD m l rest) m2)(hb:b<m.next)(hc:bz l b o=false):
  m2.blk b=m.blk b\/((m.blk b).kind=1/\(m2.blk b).kind=1/\(m2.blk b).cs.length=(m.blk b).cs.length/\(m2.blk b).cs[o]?=(m.blk b).cs[o]?):=by
 rcases kV hf hb with e|⟨_,h⟩|⟨h1,h2,_,_,h5,h6⟩
 ·exact .inl e
 ·rw[jU h o]at hc;cases hc
 ·refine .inr ⟨h1,h2,h5,?_⟩
  by_cases e:(m2.blk b).cs[o]?=(m.blk b).cs[o]?
  ·exact e
  ·rw[h6 o e]at hc;cases hc
theorem wQ (b:Nat):(jG m m2 l rest).blk b=m2.blk b:=rfl
theorem CO (h:bz (jG m m2 l rest).bh b o=false):bz l b o=false/\bz m.bh b o=false/\¬(m.next<=b/\b<m2.next):=by
 have h:bz ((m.next,m2.next,none)::(l++m.bh)) b o=false:=h;rw[J0,qS]at h;simp only[Bool.or_eq_false_iff]at h;refine⟨h.2.1,h.2.2,fun hx=>?_⟩;rw[mQ (l:=[((m.next,m2.next,none):Span)]) (List.mem_singleton.2 rfl) hx.1 hx.2 (.inl rfl)]at h;cases h.1
theorem rV (h:(jG m m2 l rest).bI b=true):m.bI b=true:=by
 unfold Mem.bI at h⊢;have h:(!aJ ((m.next,m2.next,none)::(l++m.bh)) b&&decide (m.home<=b))=true:=h;rw[FY,tE]at h;simp only[ag,Bool.not_eq_true',Bool.or_eq_false_iff]at h⊢;exact⟨h.1.2.2,h.2⟩
theorem Ll (hs:fL ρ m w)(hf:Fr (dD m l rest) m2):fL ρ (jG m m2 l rest) w:=by
 have XN:∀b p,ρ b=some p->b<m.next:=hs.mo;have hn:m.next<=m2.next:=hf.next;have hb:m2.base=m.base:=hf.base;have k1:∀b p,ρ b=some p->(m2.blk b).kind=1->(m.blk b).kind=1/\(m2.blk b).sz=(m.blk b).sz/\(m2.blk b).pos=(m.blk b).pos/\(m2.blk b).cs.length=(m.blk b).cs.length:=by
  intro b p hp hk;rcases kV hf (XN b p hp)with e|⟨h,_⟩|⟨h1,h2,h3,h4,h5,_⟩
  ·rw[e]at hk⊢;exact⟨hk,rfl,rfl,rfl⟩
  ·rw[h]at hk;cases hk
  ·exact⟨h1,h3,h4,h5⟩
 have k2:∀b p,ρ b=some p->(m2.blk b).kind≠0->(m2.blk b).kind≠1->m2.blk b=m.blk b:=by
  intro b p hp h0 h1;rcases kV hf (XN b p hp)with e|⟨h,_⟩|⟨_,h2,_⟩
  ·exact e
  ·exact absurd h h0
  ·exact absurd h2 h1
 refine⟨fun b p hp=>aW (XN b p hp) hn,fun b p hp hk=>?_,fun b p o v hp hc=>?_,fun b p o hp ho hk VE=>?_,fun b p hp hk ho=>?_,fun b p hp hk ho=>?_,fun b b' p p' dQ hp dG hk gh Zx=>?_,hs.rB,fun b p hp hk iC=>?_⟩
 ·obtain⟨g1,g2,g3,g4⟩:=k1 b p hp hk;obtain⟨h1,h2,h3⟩:=hs.cells b p hp g1;exact⟨h1.trans g2.symm,by rw[wQ,g4];exact h2,h3⟩
 ·unfold Mem.cell at hc
  split at hc
  ·rename_i hk;obtain⟨c1,c2,_⟩:=CO hk.2;have vM:(m2.blk b).kind=1:=hk.1;have hc:((m2.blk b).cs[o]?).join=some v:=hc;refine hs.kN b p o v hp ?_;unfold Mem.cell;rcases wK hf (XN b p hp) c1 with e|⟨g1,_,_,g4⟩
   ·rw[e]at hc vM;rw[bj ⟨vM,c2⟩];exact hc
   ·rw[bj ⟨g1,c2⟩,<-g4];exact hc
  ·cases hc
 ·exact hs.thaw b p o hp ho (k1 b p hp hk).1 (by rw[<-hb];exact VE)
 ·have e:=k2 b p hp (by rw[show(m2.blk b).kind=2 from hk];simp) (by rw[show(m2.blk b).kind=2 from hk];simp);have gh:(m2.blk b).kind=2:=hk;rw[wQ,e];rw[e]at gh;exact hs.maps b p hp gh (rV ho)
 ·have e:=k2 b p hp (by rw[show(m2.blk b).kind=3 from hk];simp) (by rw[show(m2.blk b).kind=3 from hk];simp);have gh:(m2.blk b).kind=3:=hk;rw[wQ,e];rw[e]at gh;exact hs.kX b p hp gh (rV ho)
 ·have kk:∀b p,ρ b=some p->(m2.blk b).kind≠0->(m2.blk b).kind=(m.blk b).kind:=by
   intro b p hp h0
   by_cases h1:(m2.blk b).kind=1
   ·rw[h1,(k1 b p hp h1).1]
   ·rw[k2 b p hp h0 h1]
  have e1:=kk b p hp hk;have e2:=kk b' p' dG gh;obtain⟨h1,h2,h3⟩:=hs.sep b b' p p' dQ hp dG (by rw[<-e1];exact hk) (by rw[<-e2];exact gh) Zx;exact⟨e1.trans h1,e2.trans h2,h3⟩
 ·obtain⟨g1,_,g3,_⟩:=k1 b p hp hk;exact hs.vars b p hp g1 (g3.symm.trans iC)
theorem Lm (hs:fL ρ m w)(pY:∀b,m.next<=b->(m.blk b).kind=0):fL ρ (dD m l rest) w:=by
 have ho:∀b,(dD m l rest).bI b=true->m.next<=b:=by
  intro b h;unfold Mem.bI at h;simp only[ag,iB]at h;exact h.2
 refine⟨hs.mo,hs.cells,fun b p o v hp hc=>?_,hs.thaw,fun b p hp hk hb=>?_,fun b p hp hk hb=>?_,hs.sep,hs.rB,hs.vars⟩
 ·unfold Mem.cell at hc
  split at hc
  ·rename_i hk;have h2:bz (rest++m.bh) b o=false:=hk.2;rw[qS]at h2;simp only[Bool.or_eq_false_iff]at h2;refine hs.kN b p o v hp ?_;unfold Mem.cell;rw[bj ⟨hk.1,h2.2⟩];exact hc
  ·cases hc
 ·exact absurd (ho b hb) (by have :=hs.mo b p hp;omega)
 ·exact absurd (ho b hb) (by have :=hs.mo b p hp;omega)
end
end Go.AM
