/-
  What the claim stands on, part 4.
-/
import Derived.Test.YtgfppohfgconeaaGreatDoorK3
import Derived.Conc.CompanyDraw
import Derived.Conc.CrowdBase
import Derived.Conc.Beside
set_option linter.unusedVariables false
set_option linter.unusedSimpArgs false
open Go renaming Value → ae, Goroutine → ak, World → au, Program → aD, Oper → gU
open Bool renaming and_eq_true → ag, false_eq_true → bU
open Option.some renaming injEq → ah
open Nat renaming le_refl → ai, eq_of_beq_eq_true → aA, lt_of_lt_of_le → aW
open Prod.mk renaming injEq → ay
open List renaming all_eq_true → aB, mem_cons → aI
open Option renaming map_eq_some_iff → aC, map_some → cN
namespace Go.AM
open Go Go.Conc
def Out (e:Exit)(k todo:List Item):Prop:=
 match e with
 | .normal=>todo=k
 | .ret=>∃k',todo= .code .ret::k'
 | .exit id=>∃k',todo= .code (.exit id)::k'/\exitTo id k'=exitTo id k
 | .goto l=>∃k',todo= .code (.goto l)::k'/\gotoIn l k'=gotoIn l k
 |_=>False
structure eL (P:aD)(J:JT)(nt:Nat)(st jX:Ss)(A:List Item)(B:List Item->Prop)(c:Nat):Prop where
 go:∀{E:Perm}{bq:au}{σ:nF}{ρ:dh}{w:au}{b:Frame}{a:Act}{cs:List Frame}{n:Nat},b.kind≠ .early->cU P E bq σ ρ st.mem w->tz nt ρ st.tm st.df a->
  (∀gu bu w' a' todo,B todo->ρ.le bu->rR st.mem ρ bu->cU P E bq gu bu jX.mem w'->tz nt bu jX.tm jX.df a'->J gu n ((az bu jX.mem).or E) (G (b.at a' todo) cs) w')->
  J σ (n+c) ((az ρ st.mem).or E) (G (b.at a A) cs) w
section
variable {P:aD}{X:Ext}{main:Bool}{J:JT}{F:Mem->Mem->Prop}{nt:Nat}{call:cB}
theorem eL.trans{st NK Z8:Ss}{A:List Item}{B C:List Item->Prop}{c d:Nat}(h:eL P J nt st NK A B c)(hn:Mv st.mem NK.mem)(k:∀A',B A'->eL P J nt NK Z8 A' C d):eL P J nt st Z8 A C (d+c):=by
 refine⟨fun{E bq σ ρ w b a cs n} hk H ha JE=>?_⟩;rw[<-Nat.add_assoc];refine h.go hk H ha fun gu bu w' a' todo hB hle hold H' mN=>(k todo hB).go hk H' mN fun tF eX iH Nm W0 hC og kU qg xY=>JE tF eX iH Nm W0 hC (dh.le_trans hle og) (hold.trans hn kU) qg xY
theorem eL.weaken{st jX:Ss}{A:List Item}{B C:List Item->Prop}{c:Nat}(h:eL P J nt st jX A B c)(k:∀A',B A'->C A'):eL P J nt st jX A C c:=by
 refine⟨fun{E bq σ ρ w b a cs n} hk H ha JE=>?_⟩;exact h.go hk H ha fun gu bu w' a' todo hB=>JE gu bu w' a' todo (k todo hB)
theorem eL.here{st:Ss}{A:List Item}{B:List Item->Prop}(h:B A):eL P J nt st st A B 0:=by
 refine⟨fun{E bq σ ρ w b a cs n} hk H ha JE=>?_⟩;exact JE σ ρ w a A h (dh.le_refl _) (.of fun _ _=>rfl) H ha
theorem eL.move(hJ:∀σ,gj P main (J σ)){st:Ss}{A A':List Item}(h:∀{b:Frame}{a:Act}{cs:List Frame}{w:au},stepG P main (G (b.at a A) cs) w= .go (G (b.at a A') cs) w #[]):eL P J nt st st A (·=A') 1:=by
 refine⟨fun{E bq σ ρ w b a cs n} hk H ha JE=>?_⟩;refine mJ (hJ σ) rfl (fun w=>h) fun aO jU=>?_
 exact JE σ ρ aO a A' rfl (dh.le_refl _) (.of fun _ _=>rfl) (H.keeps jU) ha
theorem xP (hJ:∀σ,gj P main (J σ))(hX:qh P X)(hF:wR F)(C:fW P X main J F call)(qD:nt<=512){ops:Array gU}:∀{l:List Nat}{f:iE}{tm:Tm}{m:Mem}{df:Df}{r:Ss},iw P nt ops (l.map fun i=>(0,i,0))=some f->f call tm m df=some r->Wf m->
  F m r.mem/\∃c,∀k,eL P J nt ⟨tm,m,df⟩ r (.inRegion ops l::k) (·= .inRegion ops []::k) c
 | [],f,tm,m,df,r,h,hf,hw=>by
  unfold iw at h;simp only[List.map_nil]at h;cases h;unfold Zp at hf;simp only[ah]at hf;subst hf;exact⟨hF.refl _,0,fun k=>eL.here rfl⟩
 |i::l,f,tm,m,df,r,h,hf,hw=>by
  simp only[List.map_cons]at h;obtain⟨rest,hr,ht⟩:=lq h;obtain⟨fe,m',ml,lK,AT,_⟩:=py ht hf;obtain⟨g1,c,g2⟩:=Tx hJ hX hF C qD hw lK;obtain⟨h1,c',h2⟩:=xP hJ hX hF C qD hr AT ((hF.mv g1).wf hw);refine⟨hF.trans g1 h1,c'+c,fun k=>?_⟩;refine eL.trans (NK:=⟨fe,m',ml⟩) (B:=(·= .inRegion ops l::k)) ?_ (hF.mv g1) fun A' hA=>by subst hA;exact h2 k
  refine⟨fun{E bq σ ρ w b a cs n} hk H ha JE=>?_⟩;exact g2 hk H ha fun gu bu w' a' hle hold H' mN=>JE gu bu w' a' _ rfl hle hold H' mN
theorem IE (hm:P.follows .mixedOrders=true)(ops:Array gU)(t:Nat):Region.schedule (P.follows .mixedOrders) ops t=Region.linearise .any ops t:=by
 unfold Region.schedule;rw[hm];rfl
theorem IM (hJ:∀σ,gj P main (J σ))(hX:qh P X)(hF:wR F)(C:fW P X main J F call)(qD:nt<=512){id:Nat}{ops:Array gU}{draw:Bool}{n:Nat}{f:Go.AM.F}(h:comp P nt (n+1) (.region id ops draw)=some f){st jX:Ss}{e:Exit}(hf:f call st=some (e,jX))(hw:Wf st.mem):
  e= .normal/\F st.mem jX.mem/\∃c,∀k,eL P J nt st jX (.code (.region id ops draw)::k) (·=k) c:=by
 unfold comp at h;simp only[]at h;have Jx:∀o:iE,P6 o call st=some (e,jX)->e= .normal/\o call st.tm st.mem st.df=some jX:=by
  intro o ho;unfold P6 at ho
  split at ho
  ·rename_i s hs;simp only[ah,ay]at ho;obtain⟨rfl,rfl⟩:=ho;exact⟨rfl,hs⟩
  ·cases ho
 have Hh:∀k,eL P J nt jX jX (.inRegion ops []::k) (·=k) 1:=fun k=>eL.move hJ stepG_region_end
 cases draw with
 |false=>
  simp only[bU,if_false]at h
  split at h
  ·rename_i o ho;cases h;obtain⟨h1,h2⟩:=Jx o hf;obtain⟨g1,c,g2⟩:=xP hJ hX hF C qD ho h2 hw;refine⟨h1,g1,(1+c)+1,fun k=>eL.trans (eL.move hJ stepG_region) (Mv.refl _) fun A hA=>?_⟩;subst hA;exact eL.trans (g2 k) (hF.mv g1) fun A hA=>by subst hA;exact Hh k
  ·cases h
 |true=>
  simp only[if_true]at h
  split at h
  ·rename_i T hT
   split at h
   ·rename_i o ho;cases h;obtain⟨h1,h2⟩:=Jx o hf;unfold VG at hT;simp only[]at hT
    split at hT
    ·rename_i hc;simp only[ah]at hT;subst hT;simp only[ag]at hc;have R:=Tf qD hc.1.1.1 hc.1.1.2 hc.1.2 hc.2;have hex:Ex ops nt jX st.tm (SS ops (Region.before ops) []) st.tm:=fun t ht=>⟨fun i hi=>(by
      rcases hi with⟨_,hi⟩|hi
      ·exact absurd hi (Nat.not_lt_zero _)
      ·cases hi),fun _=>rfl⟩
     obtain⟨g1,c,g2⟩:=Lr (pW:=st.mem.next) hJ hX hF C R (rest:=aE ops) (pre:=[]) (sS:=fun _=>st.tm) (vI:=fun _=>undef) rfl ho h2 hw hex (ai _)
      ⟨fun i _ hi=>absurd hi (Nat.not_lt_zero _),fun i _ hi=>absurd hi (Nat.not_lt_zero _),fun i j _ _ hi=>absurd hi (Nat.not_lt_zero _)⟩
     refine⟨h1,g1,1+(c+ops.size)+1,fun k=>?_⟩;refine⟨fun{E bq σ ρ w b a cs n} hk H ha JE=>?_⟩;rw[<-Nat.add_assoc];refine(hJ σ).step rfl fun aO jU=>?_
     have gq:=H.keeps jU;have alx:=bj.at ((az ρ st.mem).or E) aO (aO.drawn+1);refine⟨_,{aO with drawn:=aO.drawn+1},#[],(az ρ st.mem).or E,⟨stepG_region_draw,⟨rfl,rfl,rfl,ai _,fun _ _=>rfl,fun _ _ _ _=>rfl,fun _ _ _=>rfl,fun _ _ _ _=>rfl⟩,fun e he=>by simp at he,eJ.refl _ _,rfl,fun h=>⟨h.rd,h.wr,h.ob⟩⟩,?_⟩;rw[IE hX.mixed];have hL:=I4 R.ord (aO.tape aO.drawn (.order b.fn id));have hlen:(Region.linearise .any ops (aO.tape aO.drawn (.order b.fn id))).length<=ops.size:=by
      have h3:=hL.nodup.length_le_of_subset (fun x hx=>List.mem_range.2 (hL.lt x hx));simpa using h3
     have qg:=gq.keeps alx;have :=g2 (l:=Region.linearise .any ops (aO.tape aO.drawn (.order b.fn id))) (D:=fun _=>False) (n:=n+1) (k:=k) (cs:=cs) hk hL de (fun _ _ h=>h) qg ⟨ha.size,fun t ht i hi=>hi.elim,fun t ht _=>ha.tm t ht⟩ ha.df (fun i _ hi=>absurd hi (Nat.not_lt_zero _))
      (fun gu bu w' a' hle hold H' mN=>by
       refine(Hh k).go hk H' mN fun tF eX iH Nm todo ht og kU qg xY=>?_
       exact JE tF eX iH Nm todo ht (dh.le_trans hle og) (rR.trans (hF.mv g1) (.of hold) kU) qg xY)
     exact(hJ σ).le aj this
    ·cases hT
   ·cases h
  ·cases h
end
end Go.AM
namespace Go.AM
open Go Go.Conc
theorem X9 {e:Exit}(he:e≠ .normal){x:Code}{k todo:List Item}(h:Out e (.code x::k) todo):Out e k todo:=by
 cases e with
 |normal=>exact absurd rfl he
 |ret=>exact h
 |exit id=>exact h
 |goto l=>exact h
 |_=>exact h.elim
section
variable {P:aD}{X:Ext}{main:Bool}{J:JT}{F:Mem->Mem->Prop}{nt:Nat}{call:cB}
theorem Ec {b:Frame}{a:Act}{k:List Item}{cs:List Frame}{w:au}{c:Code}:stepG P main (G (b.at a (.inScope c::k)) cs) w= .go (G (b.at a k) cs) w:=by simp[G,stepG,stepG.exec,Frame.at]
theorem Iv {b:Frame}{a:Act}{k:List Item}{cs:List Frame}{w:au}{c:Code}:stepG P main (G (b.at a (.code (.scope c)::k)) cs) w= .go (G (b.at a (.code c:: .inScope c::k)) cs) w:=by simp[G,stepG,stepG.exec,Frame.at]
theorem Ln {b:Frame}{a:Act}{k k':List Item}{cs:List Frame}{w:au}{l:Nat}(h:gotoIn l k=some k'):stepG P main (G (b.at a (.code (.goto l)::k)) cs) w= .go (G (b.at a k') cs) w:=by simp[G,stepG,stepG.exec,Frame.at,h]
def HY (P:aD)(J:JT)(F:Mem->Mem->Prop)(nt:Nat)(call:cB)(c:Code)(f:Go.AM.F):Prop:=
 ∀{st jX:Ss}{e:Exit},f call st=some (e,jX)->Wf st.mem->F st.mem jX.mem/\∃n,∀k,eL P J nt st jX (.code c::k) (Out e k) n
theorem Fv (hJ:∀σ,gj P main (J σ))(hF:wR F){body:Code}{fb:Go.AM.F}(hb:HY P J F nt call body fb):∀(N:Nat) {st jX:Ss}{e:Exit},xK fb call N st=some (e,jX)->Wf st.mem->
  F st.mem jX.mem/\∃n,∀k,eL P J nt st jX (.code body:: .inLoop body::k) (Out e k) n
 |0,st,jX,e,h,_=>by cases h
 |N+1,st,jX,e,h,hw=>by
  unfold xK at h
  split at h
  ·rename_i jL h1;obtain⟨g1,n,g2⟩:=hb h1 hw;obtain⟨g3,m,g4⟩:=Fv hJ hF hb N h ((hF.mv g1).wf hw);refine⟨hF.trans g1 g3,(m+1)+n,fun k=>eL.trans (g2 _) (hF.mv g1) fun A hA=>?_⟩;have hA':A= .inLoop body::k:=hA;subst hA';exact eL.trans (eL.move hJ stepG_inLoop) (Mv.refl _) fun A hA=>by subst hA;exact g4 k
  ·rename_i r dH;obtain⟨g1,n,g2⟩:=hb h hw;refine⟨g1,n,fun k=>(g2 (.inLoop body::k)).weaken fun A hA=>?_⟩;cases e with
   |normal=>exact absurd h (dH jX)
   |ret=>exact hA
   |exit id=>exact hA
   |goto l=>exact hA
   |_=>exact hA.elim
theorem BM (hJ:∀σ,gj P main (J σ))(hF:wR F){body:Code}{has:Nat->Bool}{S7:Nat->Option Go.AM.F}(hZ:∀l c f,findLabel body l=some c->S7 l=some f->HY P J F nt call c f)(adw:∀l,has l=(findLabel body l).isSome):
  ∀(N:Nat) {c:Code}{fb:Go.AM.F},HY P J F nt call c fb->∀{st jX:Ss}{e:Exit},yR has S7 call N fb st=some (e,jX)->Wf st.mem->
   F st.mem jX.mem/\∃n,∀k,eL P J nt st jX (.code c:: .inScope body::k) (Out e k) n
 |0,c,fb,_,st,jX,e,h,_=>by cases h
 |N+1,c,fb,hc,st,jX,e,h,hw=>by
  unfold yR at h
  split at h
  ·rename_i l jL h1;obtain⟨g1,n,g2⟩:=hc h1 hw;cases H4:findLabel body l with
   |some c2=>
    rw[adw,H4]at h;simp only[Option.isSome_some,if_true]at h
    split at h
    ·rename_i f2 MC;obtain⟨g3,m,g4⟩:=BM hJ hF hZ adw N (hZ l c2 f2 H4 MC) h ((hF.mv g1).wf hw);refine⟨hF.trans g1 g3,(m+1)+n,fun k=>eL.trans (g2 _) (hF.mv g1) fun A hA=>?_⟩;obtain⟨k',rfl,hg⟩:=hA;have Hg:gotoIn l k'=some (.code c2:: .inScope body::k):=by
      rw[hg]
      show gotoIn l (.inScope body::k)=_
      simp only[gotoIn,H4]
     exact eL.trans (eL.move hJ (Ln Hg)) (Mv.refl _) fun A hA=>by subst hA;exact g4 k
    ·cases h
   |none=>
    rw[adw,H4]at h;simp only[Option.isSome_none,bU,if_false,ah,ay]at h;obtain⟨rfl,rfl⟩:=h;refine⟨g1,n,fun k=>(g2 _).weaken fun A hA=>?_⟩;obtain⟨k',rfl,hg⟩:=hA;refine⟨k',rfl,?_⟩;rw[hg];simp only[gotoIn,H4]
  ·rename_i r dH;obtain⟨g1,n,g2⟩:=hc h hw;cases e with
   |normal=>
    refine⟨g1,1+n,fun k=>eL.trans (g2 _) (hF.mv g1) fun A hA=>?_⟩;have hA':A= .inScope body::k:=hA;subst hA';exact eL.move hJ Ec
   |ret=>exact⟨g1,n,fun k=>(g2 _).weaken fun A hA=>hA⟩
   |exit id=>exact⟨g1,n,fun k=>(g2 _).weaken fun A hA=>hA⟩
   |goto l=>exact absurd h (dH l jX)
   |_=>exact⟨g1,n,fun k=>(g2 _).weaken fun A hA=>hA.elim⟩
theorem F4 (hJ:∀σ,gj P main (J σ))(hX:qh P X)(hF:wR F)(C:fW P X main J F call)(qD:nt<=512):∀(n:Nat) (c:Code) (f:Go.AM.F),comp P nt n c=some f->HY P J F nt call c f:=by
 intro n
 induction n with
 |zero=>intro c f h;unfold comp at h;cases h
 |succ n ih=>
  intro c f h st jX e hf hw;cases c with
  |skip=>
   unfold comp at h;cases h;unfold xr at hf;simp only[ah,ay]at hf;obtain⟨rfl,rfl⟩:=hf;exact⟨hF.refl _,1,fun k=>eL.move hJ stepG_skip⟩
  |label l=>
   unfold comp at h;cases h;unfold xr at hf;simp only[ah,ay]at hf;obtain⟨rfl,rfl⟩:=hf;exact⟨hF.refl _,1,fun k=>eL.move hJ stepG_label⟩
  |seq a b=>
   unfold comp at h;simp only[]at h
   split at h
   ·rename_i fa ha
    split at h
    ·rename_i fb hb;cases h;unfold oG at hf
     split at hf
     ·rename_i jL h1;obtain⟨g1,n1,g2⟩:=ih a fa ha h1 hw;obtain⟨g3,n2,g4⟩:=ih b fb hb hf ((hF.mv g1).wf hw);refine⟨hF.trans g1 g3,(n2+n1)+1,fun k=>eL.trans (eL.move hJ stepG_seq) (Mv.refl _) fun A hA=>?_⟩;subst hA;exact eL.trans (g2 _) (hF.mv g1) fun A hA=>by
       have hA':A= .code b::k:=hA;subst hA';exact g4 k
     ·rename_i dH;obtain⟨g1,n1,g2⟩:=ih a fa ha hf hw;refine⟨g1,n1+1,fun k=>eL.trans (eL.move hJ stepG_seq) (Mv.refl _) fun A hA=>?_⟩;subst hA;exact(g2 _).weaken fun A hA=>X9 (fun he=>dH jX (by rw[hf,he])) hA
    ·cases h
   ·cases h
  |cond x a b=>
   unfold comp at h;simp only[]at h
   split at h
   ·rename_i hgx
    split at h
    ·rename_i fa ha
     split at h
     ·rename_i fb hb;have hcf:=aK h;cases hcf;unfold VK at hf;have vG:∀(t:Bool),du st.tm x= .bool t->∀k,eL P J nt st st (.code (.cond x a b)::k) (·= .code (if t then a else b)::k) 1:=by
       intro t ht k;refine⟨fun{E bq σ ρ w bb aa cs n} hk H haa JE=>?_⟩;have hv:=J2 haa.tm H hgx;rw[ht]at hv;have dS:aa.eval x= .bool t:=(aF rfl).1 hv;refine mJ (hJ σ) rfl (fun w=>stepG_cond dS) fun aO jU=>?_
       exact JE σ ρ aO aa _ rfl (dh.le_refl _) (.of fun _ _=>rfl) (H.keeps jU) haa
      split at hf
      ·rename_i ht;obtain⟨g1,n1,g2⟩:=ih a fa ha hf hw;exact⟨g1,n1+1,fun k=>eL.trans (vG true ht k) (Mv.refl _) fun A hA=>by subst hA;exact g2 k⟩
      ·rename_i ht;obtain⟨g1,n1,g2⟩:=ih b fb hb hf hw;exact⟨g1,n1+1,fun k=>eL.trans (vG false ht k) (Mv.refl _) fun A hA=>by subst hA;exact g2 k⟩
      ·cases hf
     ·cases h
    ·cases h
   ·cases h
  |block id b=>
   unfold comp at h;simp only[]at h
   split at h
   ·rename_i fb hb;cases h;unfold HR at hf
    split at hf
    ·rename_i j jL h1;obtain⟨g1,n1,g2⟩:=ih b fb hb h1 hw
     split at hf
     ·rename_i hj;simp only[ah,ay]at hf;obtain⟨rfl,rfl⟩:=hf;have pY:=aA hj;subst pY;refine⟨g1,(1+n1)+1,fun k=>eL.trans (eL.move hJ stepG_block) (Mv.refl _) fun A hA=>?_⟩;subst hA;refine eL.trans (g2 _) (hF.mv g1) fun A hA=>?_
      obtain⟨k',rfl,he⟩:=hA;have JK:exitTo j k'=some k:=by rw[he];simp[exitTo]
      exact eL.move hJ (stepG_exit JK)
     ·rename_i hj;simp only[ah,ay]at hf;obtain⟨rfl,rfl⟩:=hf;refine⟨g1,n1+1,fun k=>eL.trans (eL.move hJ stepG_block) (Mv.refl _) fun A hA=>?_⟩;subst hA;refine(g2 _).weaken fun A hA=>?_
      obtain⟨k',rfl,he⟩:=hA;refine⟨k',rfl,?_⟩;rw[he];have dH:(id==j)=false:=by
       rw[Ku]at hj;simp only[jQ]at hj;simpa using fun h=>hj h.symm
      simp only[exitTo,dH,bU,if_false]
    ·rename_i dH;obtain⟨g1,n1,g2⟩:=ih b fb hb hf hw;cases e with
     |normal=>
      refine⟨g1,(1+n1)+1,fun k=>eL.trans (eL.move hJ stepG_block) (Mv.refl _) fun A hA=>?_⟩;subst hA;refine eL.trans (g2 _) (hF.mv g1) fun A hA=>?_
      have hA':A= .inBlock id::k:=hA;subst hA';exact eL.move hJ stepG_inBlock
     |exit j=>exact absurd hf (dH j jX)
     |ret=>exact⟨g1,n1+1,fun k=>eL.trans (eL.move hJ stepG_block) (Mv.refl _) fun A hA=>by subst hA;exact(g2 _).weaken fun A hA=>hA⟩
     |goto l=>exact⟨g1,n1+1,fun k=>eL.trans (eL.move hJ stepG_block) (Mv.refl _) fun A hA=>by subst hA;exact(g2 _).weaken fun A hA=>hA⟩
     |_=>exact⟨g1,n1+1,fun k=>eL.trans (eL.move hJ stepG_block) (Mv.refl _) fun A hA=>by subst hA;exact(g2 _).weaken fun A hA=>hA.elim⟩
   ·cases h
  |loop b=>
   unfold comp at h;simp only[]at h
   split at h
   ·rename_i fb hb;cases h;unfold aar at hf;obtain⟨g1,n1,g2⟩:=Fv hJ hF (ih b fb hb) _ hf hw;exact⟨g1,n1+1,fun k=>eL.trans (eL.move hJ stepG_loop) (Mv.refl _) fun A hA=>by subst hA;exact g2 k⟩
   ·cases h
  |exit id=>
   unfold comp at h;cases h;unfold FT at hf;simp only[ah,ay]at hf;obtain⟨rfl,rfl⟩:=hf;exact⟨hF.refl _,0,fun k=>eL.here ⟨k,rfl,rfl⟩⟩
  |ret=>
   unfold comp at h;cases h;unfold FT at hf;simp only[ah,ay]at hf;obtain⟨rfl,rfl⟩:=hf;exact⟨hF.refl _,0,fun k=>eL.here ⟨k,rfl⟩⟩
  |goto l=>
   unfold comp at h;cases h;unfold FT at hf;simp only[ah,ay]at hf;obtain⟨rfl,rfl⟩:=hf;exact⟨hF.refl _,0,fun k=>eL.here ⟨k,rfl,rfl⟩⟩
  |scope b=>
   unfold comp at h;simp only[]at h
   split at h
   ·rename_i fb hb;cases h;obtain⟨g1,n1,g2⟩:=BM hJ hF (body:=b) (has:=fun l=>(findLabel b l).isSome) (S7:=fun l=>(findLabel b l).bind (comp P nt n)) (fun l c2 f2 H4 MC=>ih c2 f2 (by rw[H4]at MC;exact MC)) (fun l=>rfl) _ (ih b fb hb) hf hw;exact⟨g1,n1+1,fun k=>eL.trans (eL.move hJ Iv) (Mv.refl _) fun A hA=>by subst hA;exact g2 k⟩
   ·cases h
  |region id ops draw=>
   obtain⟨rfl,g1,c,g2⟩:=IM hJ hX hF C qD h hf hw;exact⟨g1,c,fun k=>(g2 k).weaken fun A hA=>hA⟩
  |_=>unfold comp at h;cases h
end
end Go.AM
namespace Go.AM
open Go Go.Conc
theorem nP (l:List ae):KO l=l.getD 0 undef:=by cases l<;>rfl
theorem cQ (l:List ae)(i:Nat):(ko l).getD i undef=l.getD (i+1) undef:=by cases l<;>simp[ko]
theorem Bx (l:List ae)(i:Nat):(Ry l).getD i undef=l.getD (i+8) undef:=by
 unfold Ry;simp only[cQ]
theorem IF (l:List ae){i:Nat}(hi:i<8):(GC l).get i=l.getD i undef:=by
 match i,hi with
 |0,_=>exact nP l
 |1,_=>show KO (ko l)=_;rw[nP,cQ]
 |2,_=>show KO (ko (ko l))=_;rw[nP,cQ,cQ]
 |3,_=>show KO (ko (ko (ko l)))=_;rw[nP,cQ,cQ,cQ]
 |4,_=>show KO (ko (ko (ko (ko l))))=_;rw[nP,cQ,cQ,cQ,cQ]
 |5,_=>show KO (ko (ko (ko (ko (ko l)))))=_;rw[nP,cQ,cQ,cQ,cQ,cQ]
 |6,_=>show KO (ko (ko (ko (ko (ko (ko l))))))=_;rw[nP,cQ,cQ,cQ,cQ,cQ,cQ]
 |7,_=>show KO (ko (ko (ko (ko (ko (ko (ko l)))))))=_;rw[nP,cQ,cQ,cQ,cQ,cQ,cQ,cQ]
theorem Su {l:List ae}{tm:Tm}(h:Ea l=some tm){t:Nat}(ht:t<512):cY t tm=l.getD t undef:=by
 have hlen:∀i,l.getD (i+16) undef=undef:=fun i=>by
  rw[show i+16=(i+8)+8 by omega,<-Bx,<-Bx];unfold Ea at h
  split at h
  ·rename_i e;rw[e];rfl
  ·cases h
 unfold Ea at h
 split at h
 ·simp only[ah]at h;subst h;have d (x k:Nat):rW x k=x / k%8:=rfl;have e8:Nat.mod t 8=t%8:=rfl;have aaC:∀i,qd.get i=undef:=fun i=>N8.Hp _ _
  have ac8:∀i,iU.get i=qd:=fun i=>N8.Hp _ _
  unfold cY
  by_cases h1:t<64
  ·rw[show rW t 64=0 by rw[d];omega]
   show((⟨GC l,GC (Ry l),qd,qd,qd,qd,qd,qd⟩:N8 (N8 ae)).get (rW t 8)).get (Nat.mod t 8)=_
   by_cases h2:t<8
   ·rw[show rW t 8=0 by rw[d];omega]
    show(GC l).get (Nat.mod t 8)=_
    rw[IF _ aj,e8,Nat.mod_eq_of_lt h2]
   ·by_cases h3:t<16
    ·rw[show rW t 8=1 by rw[d];omega]
     show(GC (Ry l)).get (Nat.mod t 8)=_
     rw[IF _ aj,Bx,e8]
     congr 1
     omega
    ·have hu:=hlen (t-16);rw[show t-16+16=t by omega]at hu;rw[hu];have :∀i,2<=i->i<8->(⟨GC l,GC (Ry l),qd,qd,qd,qd,qd,qd⟩:N8 (N8 ae)).get i=qd:=fun i h1 h2=>by
      match i,h1,h2 with
      |2,_,_|3,_,_|4,_,_|5,_,_|6,_,_|7,_,_=>rfl
     rw[this _ (by rw[d];omega) (by rw[d];omega)];exact aaC _
  ·have hu:=hlen (t-16);rw[show t-16+16=t by omega]at hu;rw[hu];have :∀(x:N8 (N8 ae)) i,1<=i->i<8->(⟨x,iU,iU,iU,iU,iU,iU,iU⟩:Tm).get i=iU:=fun x i h1 h2=>by
    match i,h1,h2 with
    |1,_,_|2,_,_|3,_,_|4,_,_|5,_,_|6,_,_|7,_,_=>rfl
   rw[this _ _ (by rw[d];omega) (by rw[d];omega),ac8];exact aaC _
 ·cases h
section
variable {P:aD}{X:Ext}{main:Bool}{J:JT}{F:Mem->Mem->Prop}{nt:Nat}{call:cB}{E:Perm}{bq:au}{σ:nF}{ρ:dh}{m m':Mem}{w:au}
theorem FV {args:List ae}{bJ:Array ae}{tm:Tm}(h:Ea args=some tm)(hr:bB (aQ ρ) args bJ.toList)(hl:args.length<=nt)(qD:nt<=512):tz nt ρ tm [] {tmps:=bJ++Array.replicate (nt-bJ.size) undef,defers:=[]}:=by
 have hlen:bJ.size=args.length:=by have :=hr.length;simpa using this.symm
 refine⟨by simp;omega,fun t ht=>?_,trivial⟩;rw[Su h aj];have e:(bJ++Array.replicate (nt-bJ.size) undef).getD t undef=bJ.toList.getD t undef:=by
  rw[Array.getD_eq_getD_getElem?,List.getD_eq_getElem?_getD,Array.getElem?_append]
  split
  ·simp
  ·rename_i h1;have h2:bJ.toList[t]?=none:=List.getElem?_eq_none (by simpa using h1);rw[h2,Array.getElem?_replicate]
   split<;>rfl
 rw[e];exact hr.getD mD t
theorem tO (hs:fH ρ m w){N:Nat}{tm:Tm}{a:Act}{df:Df}(ha:tz nt ρ tm df a):∀{rs:List ResultVar}{vs:List ae},vj P nt m tm rs=some vs->∀{Q:List ae->au->Prop},(∀q0,bB (aQ ρ) vs q0->Q q0 w)->
  dA P (az ρ m) N (rs.mapM fun r=>match r with | .tmp t=>(pure (a.tmps.getD t undef):Sem ae)| .cell x t=>do loadVar t (<-asAddr (a.tmps.getD x undef))) Q w
 | [],vs,h,Q,hq=>by
  simp only[vj,ah]at h;subst h;rw[List.mapM_nil];exact hq [] trivial
 | .tmp t::rs,vs,h,Q,hq=>by
  unfold vj at h
  split at h
  ·rename_i ht;rw[kl,jQ]at ht
   split at h
   ·rename_i vs1 h1;cases h;rw[List.mapM_cons,ar]
    show dA P (az ρ m) N _ Q w
    rw[ar];exact tO hs ha h1 fun q0 QH=>hq _ ⟨ha.tm t ht,QH⟩
   ·cases h
  ·cases h
 | .cell x t::rs,vs,h,Q,hq=>by
  unfold vj at h
  split at h
  ·rename_i hx;rw[kl,jQ]at hx
   split at h
   ·rename_i v vs1 hv h1;cases h;have hp:=ha.tm x hx;obtain⟨bb,oo,KR⟩:∃b o,cY x tm= .pointer (some ⟨b,o,none⟩):=by
     unfold j9 at hv
     split at hv
     ·rename_i h2;exact⟨_,_,h2⟩
     ·cases hv
    rw[List.mapM_cons,ar];have aaH:=Ac (P:=P) (N:=N) hs hp hv (Q:=fun v' w'=>dA P (az ρ m) N (rs.mapM fun r=>match r with | .tmp t=>(pure (a.tmps.getD t undef):Sem ae)| .cell x t=>do loadVar t (<-asAddr (a.tmps.getD x undef))) (fun q0 iH=>Q (v'::q0) iH) w')
     fun v' OL=>tO hs ha h1 fun q0 QH=>hq (v'::q0) ⟨OL,QH⟩
    rw[KR]at hp;obtain⟨pl,dm,_,e⟩:=cL.1 hp;rw[e]at aaH;simp only[];rw[e];have adp:dA P (az ρ m) N (loadVar t ⟨pl.c,pl.d+oo,none⟩) (fun v' w'=>dA P (az ρ m) N (rs.mapM fun r=>match r with | .tmp t=>(pure (a.tmps.getD t undef):Sem ae)| .cell x t=>do loadVar t (<-asAddr (a.tmps.getD x undef))) (fun q0 iH=>Q (v'::q0) iH) w') w:=aaH
    show dA P (az ρ m) N (loadVar t ⟨pl.c,pl.d+oo,none⟩) _ w
    refine I6 adp fun v' w' h3=>?_
    rw[ar];exact h3
   ·cases h
  ·cases h
theorem zU (hs:fH ρ m w){N:Nat}{tm:Tm}{a:Act}{df:Df}(ha:tz nt ρ tm df a){fn:Func}{v:ae}(h:lS P nt fn.results.toList tm m=some v){Q:ae->au->Prop}(hq:∀v',aQ ρ v v'->Q v' w):
  dA P (az ρ m) N (results fn a.tmps) Q w:=by
 unfold results;rw[ar,Array.mapM_eq_mapM_toList]
 show dA P (az ρ m) N (_<$> _) _ w
 rw[map_eq_pure_bind,ar];unfold lS at h;have fin:∀{vs:List ae},vj P nt m tm fn.results.toList=some vs->v=(match vs with | [x]=>x|l=> .tuple l.toArray)->dA P (az ρ m) N (fn.results.toList.mapM fun r=>match r with | .tmp t=>(pure (a.tmps.getD t undef):Sem ae)| .cell x t=>do loadVar t (<-asAddr (a.tmps.getD x undef)))
   (fun q0 w'=>dA P (az ρ m) N (pure q0.toArray) (fun Sb iH=>dA P (az ρ m) N (pure (if h:Sb.size=1 then Sb[0]else .tuple Sb)) Q iH) w') w:=by
  intro vs QH hv;refine tO hs ha QH fun q0 hr=>?_
  show Q (if h:q0.toArray.size=1 then q0.toArray[0]else .tuple q0.toArray) w
  refine hq _ ?_;rw[hv]
  match vs,q0,hr with
  | [],[],_=>exact dU.2 ⟨_,rfl,trivial⟩
  | [x],[x'],hr=>exact hr.1
  |x::y::l,x'::y'::l',hr=>
   rw[dif_neg de];exact dU.2 ⟨_,rfl,hr⟩
 split at h
 ·rename_i u hu;cases h;exact fin hu rfl
 ·rename_i vs dH QH;cases h;refine fin QH ?_
  split
  ·rename_i x;exact absurd rfl (dH x)
  ·rfl
 ·cases h
theorem vh {b:Frame}{a:Act}{todo:List Item}{cs:List Frame}{ds:List Deferred}{f:FuncId}{fn:Func}{args cap:Array ae}{d:Deferred}(hd:a.defers=d::ds)(hdt:d={target:= .fn (.func f) cap,args:=args})(hf:P.funcs[f]?=some fn)(JC:(fn.name== "runtime.NumGoroutine")=false)(hb:fn.body.isSome=true):
  stepG P main (G {b.at a todo with mode:= .returning} cs) w= .go (G (Frame.enter P f (args++cap) .deferred) ({b.at ⟨a.tmps,ds⟩ todo with mode:= .returning}::cs)) w #[]:=by
 have h1:¬fn.name= "runtime.NumGoroutine":=by simpa using JC
 have h2:¬fn.body=none:=by cases hx:fn.body<;>simp_all
 subst hdt;simp[G,stepG,unwind,callDeferred,Frame.at,hd,invoke,callFunc,hf,h1,h2,GStep.after,seen_none]
theorem Gw {b:Frame}{a:Act}{todo:List Item}{cs:List Frame}{fn:Func}{c:Frame}{v:ae}{w':au}(hn:b.kind= .normal\/(b.kind= .deferred/\c.mode= .returning))(hd:a.defers=[])(hf:P.funcs[b.fn]?=some fn)(hr:(results fn a.tmps).run P w= .ok v w'):
  stepG P main (G {b.at a todo with mode:= .returning} (c::cs)) w= .go (G (if b.kind= .normal then c.finish v else c) cs) w' (seen P b.fn ((results fn a.tmps).events P w #[])):=by
 rcases hn with hn|⟨hn,hm⟩
 ·simp[G,stepG,unwind,doReturn,Frame.at,hn,hd,hf,hr,GStep.after]
 ·simp[G,stepG,unwind,doReturn,Frame.at,hn,hd,hf,hr,GStep.after,hm]
theorem uC (hJ:∀σ,gj P main (J σ))(hX:qh P X)(hF:wR F)(C:fW P X main J F call):∀{df:Df}{m m':Mem},oS P X call df m=some m'->Wf m->F m m'/\∃c,
  ∀{E:Perm}{bq:au}{σ:nF}{ρ:dh}{w:au}{b:Frame}{a:Act}{todo:List Item}{cs:List Frame}{n:Nat}{tm:Tm},cU P E bq σ ρ m w->tz nt ρ tm df a->
   (∀gu bu w',ρ.le bu->rR m ρ bu->cU P E bq gu bu m' w'->tz nt bu tm [] ⟨a.tmps,[]⟩->J gu n ((az bu m').or E) (G {b.at ⟨a.tmps,[]⟩ todo with mode:= .returning} cs) w')->
   J σ (n+c) ((az ρ m).or E) (G {b.at a todo with mode:= .returning} cs) w
 | [],m,m',h,hw=>by
  simp only[oS,ah]at h;subst h;refine⟨hF.refl _,0,fun{E bq σ ρ w b a todo cs n tm} H ha hn=>?_⟩;have hd:a.defers=[]:=by
   have :=ha.df;cases h:a.defers with
   |nil=>rfl
   |cons x l=>rw[h]at this;exact this.elim
  have e:a=⟨a.tmps,[]⟩:=by cases a;simp only at hd;subst hd;rfl
  have :=hn σ ρ w (dh.le_refl _) (.of fun _ _=>rfl) H (by rw[<-e];exact ha);rw[<-e]at this;exact this
 |(f,args)::ds,m,m',h,hw=>by
  unfold oS at h
  split at h
  ·rename_i hb;simp only[ag,Bool.not_eq_true',Bool.or_eq_false_iff]at hb;obtain⟨hb,nD,my⟩:=hb
   split at h
   ·rename_i v m1 gE;obtain⟨g1,_,g2⟩:=C f args m v m1 hw gE;obtain⟨c,g2⟩:=g2 hb;obtain⟨h1,c',h2⟩:=uC hJ hX hF C h ((hF.mv g1).wf hw);obtain⟨fn,hf,sF⟩:=Ks hb;refine⟨hF.trans g1 h1,c'+c+1,fun{E bq σ ρ w b a todo cs n tm} H ha hn=>?_⟩;obtain⟨d,ds',vt⟩:∃d ds',a.defers=d::ds':=by
     have :=ha.df;cases h:a.defers with
     |nil=>rw[h]at this;exact this.elim
     |cons x l=>exact⟨x,l,rfl⟩
    have WC:=ha.df;rw[vt]at WC;obtain⟨⟨cap,hdt,hda⟩,hZ⟩:=WC;have w6:d={target:= .fn (.func f) cap,args:=d.args}:=by cases d;simp only at hdt;subst hdt;rfl
    refine mJ (hJ σ) rfl (fun w=>vh vt w6 hf (hX.names f fn hf sF) sF) fun aO jU=>?_
    have gq:=H.keeps jU
    show J σ (n+(c'+c)) _ _ _
    rw[<-Nat.add_assoc];refine g2 _ _ cs (n+c') .deferred gq hda (.inr ⟨rfl,rfl,Nat.ne_of_beq_eq_false nD,Nat.ne_of_beq_eq_false my⟩) fun gu bu v' w' hle hold H' hv=>?_
    rw[bS de];refine h2 (a:=⟨a.tmps,ds'⟩) (tm:=tm) H' ⟨ha.size,fun t ht=>(ha.tm t ht).iJ hle,hZ.mono fun _ _ x=>x.iJ hle⟩ fun tF eX iH og kU qg xY=>?_
    exact hn tF eX iH (dh.le_trans hle og) (hold.trans (hF.mv g1) kU) qg xY
   ·cases h
  ·cases h
theorem Rh (hJ:∀σ,gj P main (J σ))(hX:qh P X)(hF:wR F)(C:fW P X main J F call){f:Nat}{fn:Func}{c:Code}(hf:P.funcs[f]?=some fn)(hc:fn.body=some c){n:Nat}{b:Go.AM.F}(qD:fn.ntmps<=512)(hb:comp P fn.ntmps n c=some b)
  {args:List ae}{m m':Mem}{v:ae}(hw:Wf m)(h:yp P X fn.ntmps fn.results.toList b call args m=some (v,m')):F m m'/\∃c,
   ∀{E:Perm}{bq:au}{σ:nF}{ρ:dh}{w:au} (bJ:Array ae) (fr:Frame) (cs:List Frame) (n:Nat) (kind:CallKind),
   cU P E bq σ ρ m w->bB (aQ ρ) args bJ.toList->(kind= .normal\/(kind= .deferred/\fr.mode= .returning))->
   (∀gu bu v' w',ρ.le bu->rR m ρ bu->cU P E bq gu bu m' w'->aQ bu v v'->J gu n ((az bu m').or E) (G (if kind= .normal then fr.finish v' else fr) cs) w')->
   J σ (n+c) ((az ρ m).or E) (G (Frame.enter P f bJ kind) (fr::cs)) w:=by
 unfold yp at h
 split at h
 ·cases h
 ·rename_i tm YL
  split at YL
  ·rename_i hlen;rw[Dw,jQ]at hlen
   split at h
   ·cases h
   ·rename_i st eD
    split at h
    ·cases h
    ·rename_i m2 nW
     split at h
     ·rename_i v2 xR;cases h;unfold Pb at eD;obtain⟨e,JP,he⟩:∃e,b call ⟨tm,m,[]⟩=some (e,st)/\(e= .normal\/e= .ret):=by
       split at eD
       ·rename_i s hs;cases eD;exact⟨_,hs,.inl rfl⟩
       ·rename_i s hs;cases eD;exact⟨_,hs,.inr rfl⟩
       ·cases eD
      obtain⟨g1,c1,g2⟩:=F4 hJ hX hF C qD n c b hb JP hw;have OK:=(hF.mv g1).wf hw;obtain⟨g3,c2,g4⟩:=uC (nt:=fn.ntmps) hJ hX hF C nW OK;refine⟨hF.trans g1 g3,((1+c2)+1)+c1,fun{E bq σ ρ w} bJ fr cs n kind H hr iM hn=>?_⟩;have ha:=FV YL hr hlen qD;obtain⟨bb,nC,H5,hbf⟩:∃bb:Frame,Frame.enter P f bJ kind=bb.at {tmps:=bJ++Array.replicate (fn.ntmps-bJ.size) undef,defers:=[]} [.code c]/\bb.kind=kind/\bb.fn=f:=by
       rcases iM with rfl|⟨rfl,_⟩
       ·exact⟨base f,enter_at bJ hf hc,rfl,rfl⟩
       ·exact⟨baseD f,enter_atD bJ hf hc,rfl,rfl⟩
      have dH:bb.kind≠ .early:=by rw[H5];rcases iM with rfl|⟨rfl,_⟩<;>simp
      rw[nC,<-Nat.add_assoc];refine(g2 []).go dH H ha fun gu bu w' a' todo UU hle hold H' mN=>?_
      have ac1:(∀aO,cU P E bq gu bu st.mem aO->J gu (n+(1+c2)) ((az bu st.mem).or E) (G {bb.at a' todo with mode:= .returning} (fr::cs)) aO)->J gu (n+((1+c2)+1)) ((az bu st.mem).or E) (G (bb.at a' todo) (fr::cs)) w':=by
       intro hJ';have vG:∀w,stepG P main (G (bb.at a' todo) (fr::cs)) w= .go (G {bb.at a' todo with mode:= .returning} (fr::cs)) w #[]:=by
        intro w;rcases he with rfl|rfl
        ·have e:todo=[]:=UU;subst e;exact stepG_end
        ·obtain⟨k',rfl⟩:=UU;exact stepG_ret'
       exact mJ (hJ gu) rfl vG fun aO jU=>hJ' aO (H'.keeps jU)
      refine ac1 fun aO gq=>?_
      rw[<-Nat.add_assoc];refine g4 (tm:=st.tm) gq mN fun tF eX iH og kU qg xY=>?_
      have kh:rR m ρ eX:=hold.trans (hF.mv g1) kU;refine rj hJ qg rfl fun pq vy=>?_
      obtain⟨v',Bq,hY,⟨hv,UI⟩,_,dS⟩:=mF (P:=P) (R:=az eX m') (N:=pq.heap.size) (Q:=fun v' w'=>aQ eX v v'/\w'=pq) (ai _)
       (zU (N:=pq.heap.size) vy.jY (a:=⟨a'.tmps,[]⟩) xY xR fun v' hv=>⟨hv,rfl⟩)
      rw[UI]at hY;obtain⟨evs,zo,er⟩:=dS #[];have mr:∀e∈seen P bb.fn ((results fn a'.tmps).events P pq #[]),nT (az eX m') e:=fun e hx=>er e (by have :=mem_seen hx;rw[zo]at this;simpa using this)
      refine⟨_,eX,m',pq,_,Gw (a:=⟨a'.tmps,[]⟩) (by rw[H5];exact iM) rfl (by rw[hbf];exact hf) hY,Left.refl vy.jY,tE.refl ..,fun e he=> .inl (mr e he),(kL mr _).symm,?_⟩;rw[H5];exact hn tF eX v' pq (dh.le_trans hle og) kh vy hv
     ·cases h
  ·cases YL
end
end Go.AM
namespace Go.AM
open Go Go.Conc
section
variable {P:aD}{X:Ext}{main:Bool}{J:JT}{F:Mem->Mem->Prop}
theorem Zm {f:Nat}{args:List ae}{m m':Mem}{v:ae}(h:uz X f args m=some (v,m')):wQ m m':=by
 unfold uz at h
 split at h
 ·split at h
  ·simp only[ah,ay]at h;obtain⟨_,rfl⟩:=h;exact wQ.deaf _ _
  ·cases h
 ·split at h
  ·split at h
   ·simp only[ah,ay]at h;obtain⟨_,rfl⟩:=h;exact wQ.deaf _ _
   ·cases h
  ·split at h
   ·split at h
    ·simp only[ah,ay]at h;obtain⟨_,rfl⟩:=h;exact wQ.refl _
    ·cases h
   ·split at h
    ·split at h
     ·simp only[ah,ay]at h;obtain⟨_,rfl⟩:=h;exact wQ.refl _
     ·cases h
    ·split at h
     ·split at h
      ·split at h
       ·split at h
        ·obtain⟨m2,yF,he⟩:=aC.1 h;simp only[ay]at he;obtain⟨_,rfl⟩:=he;exact(jk.dK yF).w
        ·split at h
         ·simp only[ah,ay]at h;obtain⟨_,rfl⟩:=h;exact wQ.refl _
         ·cases h
       ·cases h
      ·cases h
     ·split at h
      ·split at h
       ·split at h
        ·obtain⟨m2,yF,he⟩:=aC.1 h;simp only[ay]at he;obtain⟨_,rfl⟩:=he;exact(jk.dK yF).w
        ·cases h
       ·cases h
      ·cases h
theorem Sw (hJ:∀σ,gj P main (J σ))(hX:qh P X)(hF:wR F){call:cB}(C:fW P X main J F call):fW P X main J F fun f args m=>(j8 P X f).body call args m:=by
 intro f args m v m' hw h
 replace h:(j8 P X f).body call args m=some (v,m'):=h
 unfold j8 at h
 split at h
 ·rename_i fn hf
  split at h
  ·rename_i c hc
   split at h
   ·rename_i b hb
    split at hb
    ·rename_i qD;rw[Dw,jQ]at qD;obtain⟨g1,k,g2⟩:=Rh hJ hX hF C hf hc qD hb hw h;refine⟨g1,fun sF=>?_,fun _=>⟨k,fun bJ fr cs n kind H hr hk hn=>g2 bJ fr cs n kind H hr (hk.imp id fun h=>⟨h.1,h.2.1⟩) hn⟩⟩;unfold dM at sF;rw[hf]at sF;simp[hc]at sF
    ·cases hb
   ·cases h
  ·rename_i hc;refine⟨hF.fr (Zm h),fun _=>h,fun sF=>?_⟩;unfold dM at sF;rw[hf]at sF;simp[hc]at sF
 ·cases h
theorem Kj (hJ:∀σ,gj P main (J σ))(hX:qh P X)(hF:wR F):∀n,fW P X main J F (mA P X n)
 |0=>by intro f args m v m' hw h;cases h
 |n+1=>Sw hJ hX hF (Kj hJ hX hF n)
end
end Go.AM
namespace Go.AM
open Go Go.Conc
open Go.ConcN (RelBy fork_knows)
open Go.ConcR (stA smA)
inductive WS where
 |work(R:Perm)
 |rel(R:Perm)(r:Nat)
 |old
def WS.dY:WS->Option Perm
 | .work R=>some R
 | .rel R _=>some R
 | .old=>none
def UG (R:Perm):Loc->Prop
 | .cell a=>a.spot=none/\R.rd a.block a.off
 | .obj r=>R.ob r
 |_=>False
def YJ (R:Perm):Loc->Prop
 | .cell a=>a.spot=none/\R.wr a.block a.off
 | .obj r=>R.ob r
 |_=>False
def shl (sh:Nat->Prop):Loc->Prop
 | .cell a=>sh a.block/\a.spot=none/\a.off<=1
 |_=>False
structure mn (R S:Perm):Prop where
 cell:∀b o,R.wr b o->¬S.rd b o
 obj:∀b,R.ob b->¬S.ob b
structure Lay (sh:Nat->Prop)(D:Nat->WS)(size:Nat)(w:au):Prop where
 low:∀k R,k<size->(D k).dY=some R->w7 R w
 H9:∀j k R S,j≠k->j<size->k<size->(D j).dY=some R->(D k).dY=some S->mn R S
 Ee:∀k R,k<size->(D k).dY=some R->∀b o,R.rd b o->sh b->¬o<=1
 sh:∀b,sh b->b<w.heap.size
structure TI (Wg:Nat)(sh:Nat->Prop)(D:Nat->WS)(size N:Nat)(t:Trace):Prop where
 nr:∀said,¬Race said t
 gs:∀op∈t,op.g<size
 low:∀i a,touchAt t i=some a->a.loc.low N
 knW:∀k R,k<size->D k= .work R->∀i a,touchAt t i=some a->YJ R a.loc->Knows t k i
 knR:∀k R,k<size->D k= .work R->∀i a,touchAt t i=some a->UG R a.loc->a.write=true->Knows t k i
 oj:∀i a,touchAt t i=some a->Knows t 0 i\/(∃k R,t.g? i=some k/\0<k/\k<size/\D k= .work R)\/(∃k R r,t.g? i=some k/\0<k/\k<size/\D k= .rel R r/\i<=r)\/(shl sh a.loc/\a.kind= .atomic)
 shp:∀i a,touchAt t i=some a->shl sh a.loc->a.kind= .atomic\/(Knows t 0 i/\(a.kind= .plain->∀k,k<size->D k≠ .old->Knows t k i))
 IL:∀k R r,k<size->D k= .rel R r->RelBy (stA Wg) t k r
 norel:∀a,NoRelease a t
 cnt:∀i k,t.g? i=some k->0<k->D k= .old->t.counts i->Knows t 0 i
 main:∃R,D 0= .work R
theorem Mn {R R':Perm}{N:Nat}(h:eJ R R' N){l:Loc}(hl:l.low N)(hw:YJ R' l):YJ R l:=by
 cases l with
 |cell a=>exact⟨hw.1,(h.wr _ _ hw.2).elim id fun hn=>absurd (show a.block<N from hl) aj⟩
 |obj r=>exact(h.ob _ hw).elim id fun hn=>absurd (show r<N from hl) aj
 |_=>exact hw.elim
theorem Mo {R R':Perm}{N:Nat}(h:eJ R R' N){l:Loc}(hl:l.low N)(hw:UG R' l):UG R l:=by
 cases l with
 |cell a=>exact⟨hw.1,(h.rd _ _ hw.2).elim id fun hn=>absurd (show a.block<N from hl) aj⟩
 |obj r=>exact(h.ob _ hw).elim id fun hn=>absurd (show r<N from hl) aj
 |_=>exact hw.elim
theorem OH {R S:Perm}(h:mn R S){l:Loc}(h1:YJ R l):¬UG S l:=by
 intro h2;cases l with
 |cell a=>exact h.cell _ _ h1.2 h2.2
 |obj r=>exact h.obj _ h1 h2
 |_=>exact h1.elim
theorem OG {R:Perm}(h:∀b o,R.wr b o->R.rd b o){l:Loc}(h1:YJ R l):UG R l:=by
 cases l with
 |cell a=>exact⟨h1.1,h _ _ h1.2⟩
 |obj r=>exact h1
 |_=>exact h1.elim
theorem xQ {R:Perm}{sh:Nat->Prop}(h:∀b o,R.rd b o->sh b->¬o<=1){l:Loc}(h1:UG R l):¬shl sh l:=by
 intro h2;cases l with
 |cell a=>exact h _ _ h1.2 h2.1 h2.2.2
 |obj r=>exact h2.elim
 |_=>exact h2.elim
section
variable {Wg:Nat}{sh:Nat->Prop}{D D':Nat->WS}{size N N':Nat}{t u:Trace}{k:Nat}{w:au}
theorem TI.app(h:TI Wg sh D size N t)(L:Lay sh D size w)(hk:k<size)(hN:N<=N')
  (dH:∀j,j≠k->D' j=D j)(hD:D' k=D k\/∃R R',D k= .work R/\D' k= .work R'/\eJ R R' N)
  (hg:∀op∈u,op.g=k)(hl:∀op∈u,∀b,op.act.touch?=some b->b.loc.low N')(hr:∀op∈u,∀a,op.act≠ .mark (.release a))
  (hu:∀op∈u,∀b,op.act.touch?=some b->(∃R,D k= .work R/\UG R b.loc/\(b.write=true->YJ R b.loc))\/(D k≠ .old/\shl sh b.loc/\b.kind≠ .plain/\(b.kind= .said->k=0)))
  (zn:∀R r,D k= .rel R r->RelBy (stA Wg) (t++u) k r):TI Wg sh D' size N' (t++u):=by
 have old:∀{i:Nat}{a:Touch},touchAt (t++u) i=some a->(touchAt t i=some a/\i<t.size)\/(t.size<=i/\∃op∈u,(t++u)[i]?=some op/\op.act.touch?=some a):=by
  intro i a ha;obtain⟨x,hx,hxa⟩:=touch_of ha;rcases getElem?_append_cases hx with⟨hi,vq⟩|⟨hi,hxu⟩
  ·exact .inl ⟨by rw[touchAt_of vq];exact hxa,hi⟩
  ·exact .inr ⟨hi,x,hxu,hx,hxa⟩
 have own:∀{i:Nat}{op:MemOp},(t++u)[i]?=some op->op∈u->Knows (t++u) k i:=by
  intro i op hi dq;have :=knows_own hi;rwa[hg op dq]at this
 have hold:∀j,D' j= .old↔D j= .old:=by
  intro j
  by_cases hj:j=k
  ·subst hj;rcases hD with e|⟨R,R',e1,e2,_⟩
   ·rw[e]
   ·rw[e1,e2];simp
  ·rw[dH j hj]
 have aax:∀j R',D' j= .work R'->∃R,D j= .work R/\eJ R R' N:=by
  intro j R' pY
  by_cases hj:j=k
  ·subst hj;rcases hD with e|⟨R,eK,e1,e2,e3⟩
   ·rw[e]at pY;exact⟨R',pY,eJ.refl _ _⟩
   ·rw[e2]at pY;cases pY;exact⟨R,e1,e3⟩
  ·rw[dH j hj]at pY;exact⟨R',pY,eJ.refl _ _⟩
 have aht:∀j R r,D' j= .rel R r->D j= .rel R r:=by
  intro j R r pY
  by_cases hj:j=k
  ·subst hj;rcases hD with e|⟨R,eK,e1,e2,e3⟩
   ·rw[e]at pY;exact pY
   ·rw[e2]at pY;cases pY
  ·rw[dH j hj]at pY;exact pY
 refine⟨fun said=>noRace_append (h.nr said) hg fun i a ha op dq b hb hc=>?_,fun op dq=>?_,fun i a ha=>?_,fun j S hj qf i a ha hw=>?_,fun j S hj qf i a ha hw uj=>?_,fun i a ha=>?_,fun i a ha hs=>?_,fun j R r hj ku=>?_,fun a=>(h.norel a).app fun op dq=>hr op dq a,fun i j hi hj s6 hc=>?_,?_⟩
 ·rcases hu op dq b hb with⟨R,hR,h1,h2⟩|⟨JA,h1,h2,h3⟩
  ·cases hbw:b.write with
   |true=>exact h.knW k R hk hR i a ha (by rw[hc.1];exact h2 hbw)
   |false=>exact h.knR k R hk hR i a ha (by rw[hc.1];exact h1) (hc.2.2.1.resolve_right (by simp[hbw]))
  ·rcases h.shp i a ha (by rw[hc.1];exact h1)with e|⟨e1,e2⟩
   ·rcases hc.2.2.2 with x|x|⟨_,x,_⟩
    ·rw[e]at x;cases x
    ·exact absurd x h2
    ·rw[e]at x;cases x
   ·rcases hc.2.2.2 with x|x|⟨_,_,x⟩
    ·exact e2 x k hk JA
    ·exact absurd x h2
    ·rw[h3 x];exact e1
 ·rcases Array.mem_append.1 dq with h1|h1
  ·exact h.gs op h1
  ·rw[hg op h1];exact hk
 ·rcases old ha with⟨mN,_⟩|⟨_,op,dq,hi,hb⟩
  ·exact Loc.low_mono hN (h.low i a mN)
  ·exact hl op dq a hb
 ·obtain⟨aew,hS,ky⟩:=aax j S qf;rcases old ha with⟨mN,_⟩|⟨_,op,dq,hi,hb⟩
  ·exact(h.knW j aew hj hS i a mN (Mn ky (h.low i a mN) hw)).app u
  ·by_cases QK:j=k
   ·subst QK;exact own hi dq
   ·rw[dH j QK]at qf;have hS':(D j).dY=some S:=by rw[qf];rfl
    rcases hu op dq a hb with⟨R,hR,h1,h2⟩|⟨_,h1,_,_⟩
    ·exact absurd h1 (OH (L.H9 j k S R QK hj hk hS' (by rw[hR];rfl)) hw)
    ·exact absurd h1 (xQ (L.Ee j S hj hS') (OG (L.low j S hj hS').wr hw))
 ·obtain⟨aew,hS,ky⟩:=aax j S qf;rcases old ha with⟨mN,_⟩|⟨_,op,dq,hi,hb⟩
  ·exact(h.knR j aew hj hS i a mN (Mo ky (h.low i a mN) hw) uj).app u
  ·by_cases QK:j=k
   ·subst QK;exact own hi dq
   ·rw[dH j QK]at qf;have hS':(D j).dY=some S:=by rw[qf];rfl
    rcases hu op dq a hb with⟨R,hR,h1,h2⟩|⟨_,h1,_,_⟩
    ·exact absurd hw (OH (L.H9 k j R S (Ne.symm QK) hk hj (by rw[hR];rfl) hS') (h2 uj))
    ·exact absurd h1 (xQ (L.Ee j S hj hS') hw)
 ·rcases old ha with⟨mN,hi⟩|⟨_,op,dq,hi,hb⟩
  ·rcases h.oj i a mN with h1|⟨j,R,h1,h2,h3,h4⟩|⟨j,R,r,h1,h2,h3,h4,h5⟩|h1
   ·exact .inl (h1.app u)
   ·refine .inr (.inl ?_)
    by_cases hj:j=k
    ·subst hj;rcases hD with e|⟨eK,R',e1,e2,_⟩
     ·exact⟨j,R,by rw[g?_old hi];exact h1,h2,h3,by rw[e];exact h4⟩
     ·exact⟨j,R',by rw[g?_old hi];exact h1,h2,h3,e2⟩
    ·exact⟨j,R,by rw[g?_old hi];exact h1,h2,h3,by rw[dH j hj];exact h4⟩
   ·refine .inr (.inr (.inl ⟨j,R,r,by rw[g?_old hi];exact h1,h2,h3,?_,h5⟩))
    by_cases hj:j=k
    ·subst hj;rcases hD with e|⟨eK,R',e1,e2,_⟩
     ·rw[e];exact h4
     ·rw[h4]at e1;cases e1
    ·rw[dH j hj];exact h4
   ·exact .inr (.inr (.inr h1))
  ·rcases Nat.eq_zero_or_pos k with h0|iL
   ·subst h0;exact .inl (own hi dq)
   ·have hgi:(t++u).g? i=some k:=by simp[Trace.g?,hi,hg op dq]
    rcases hu op dq a hb with⟨R,hR,h1,h2⟩|⟨JA,h1,h2,h3⟩
    ·rcases hD with e|⟨eK,R',e1,e2,_⟩
     ·exact .inr (.inl ⟨k,R,hgi,iL,hk,by rw[e];exact hR⟩)
     ·exact .inr (.inl ⟨k,R',hgi,iL,hk,e2⟩)
    ·refine .inr (.inr (.inr ⟨h1,?_⟩));cases hkd:a.kind with
     |plain=>exact absurd hkd h2
     |atomic=>rfl
     |said=>have :=h3 hkd;omega
 ·rcases old ha with⟨mN,hi⟩|⟨_,op,dq,hi,hb⟩
  ·rcases h.shp i a mN hs with e|⟨e1,e2⟩
   ·exact .inl e
   ·exact .inr ⟨e1.app u,fun hp j hj s6=>(e2 hp j hj (fun hx=>s6 ((hold j).2 hx))).app u⟩
  ·rcases hu op dq a hb with⟨R,hR,h1,h2⟩|⟨JA,h1,h2,h3⟩
   ·exact absurd hs (xQ (L.Ee k R hk (by rw[hR];rfl)) h1)
   ·cases hkd:a.kind with
    |plain=>exact absurd hkd h2
    |atomic=>exact .inl rfl
    |said=>
     refine .inr ⟨?_,fun hx=>by cases hx⟩;have h0:=h3 hkd;subst h0;exact own hi dq
 ·have ahM:=aht j R r ku
  by_cases QK:j=k
  ·subst QK;exact zn R r ahM
  ·exact(h.IL j R r hj ahM).appOther hg (Ne.symm QK)
 ·have YZ:=(hold j).1 s6;have cC:i<t.size\/t.size<=i:=Nat.lt_or_ge i t.size;rcases cC with cC|w5
  ·exact(h.cnt i j (by rw[<-g?_old (u:=u) cC];exact hi) hj YZ ((counts_old cC).1 hc)).app u
  ·exfalso
   obtain⟨x,hx,_⟩:=hc;obtain⟨op,ho,hox⟩:=touch_of hx;have hgi:op.g=j:=by simp only[Trace.g?,ho,cN,ah]at hi;exact hi
   rcases getElem?_append_cases ho with⟨h1,_⟩|⟨_,hou⟩
   ·omega
   ·have QK:j=k:=hgi.symm.trans (hg op hou);subst QK;rcases hu op hou x hox with⟨R,hR,_⟩|⟨JA,_⟩
    ·rw[hR]at YZ;cases YZ
    ·exact JA YZ
 ·obtain⟨R,hR⟩:=h.main
  by_cases h0:(0:Nat)=k
  ·subst h0;rcases hD with e|⟨_,R',_,e2,_⟩
   ·exact⟨R,by rw[e];exact hR⟩
   ·exact⟨R',e2⟩
  ·exact⟨R,by rw[dH 0 h0];exact hR⟩
end
end Go.AM
namespace Go.AM
open Go Go.Conc
open Go.ConcN (RelBy fork_knows upd upd_same upd_ne)
open Go.ConcR (stA smA)
theorem CB {R S:Perm}(h:∀b o,R.wr b o->S.wr b o)(ho:∀b,R.ob b->S.ob b){l:Loc}(hw:YJ R l):YJ S l:=by
 cases l with
 |cell a=>exact⟨hw.1,h _ _ hw.2⟩
 |obj r=>exact ho _ hw
 |_=>exact hw.elim
theorem CC {R S:Perm}(h:∀b o,R.rd b o->S.rd b o)(ho:∀b,R.ob b->S.ob b){l:Loc}(hw:UG R l):UG S l:=by
 cases l with
 |cell a=>exact⟨hw.1,h _ _ hw.2⟩
 |obj r=>exact ho _ hw
 |_=>exact hw.elim
structure jF (R S:Perm):Prop where
 rd:∀b o,R.rd b o->S.rd b o
 wr:∀b o,R.wr b o->S.wr b o
 ob:∀b,R.ob b->S.ob b
section
variable {Wg Rr:Nat}{sh:Nat->Prop}{D:Nat->WS}{size N:Nat}{t:Trace}{k:Nat}{w:au}
theorem TI.begin(h:TI Wg sh D size N t){R eK:Perm}(hD:D 0= .work R)(hold:∀j,0<j->j<size->D j= .old)(hs:jF eK R)(h0:R.wr Rr 0)(h1:R.wr Rr 1)(iW:0<size):
  TI Rr (fun b=>sh b\/b=Rr) (upd D 0 (.work eK)) size N t:=by
 have hn:∀j,0<j->upd D 0 (.work eK) j=D j:=fun j hj=>upd_ne D _ aj
 refine⟨h.nr,h.gs,h.low,fun j S hj qf i a ha hw=>?_,fun j S hj qf i a ha hw uj=>?_,fun i a ha=>?_,fun i a ha yD=>?_,fun j S r hj ku=>?_,h.norel,fun i j hi hj s6 hc=>h.cnt i j hi hj (by rw[<-hn j hj];exact s6) hc,⟨eK,upd_same ..⟩⟩
 ·rcases Nat.eq_zero_or_pos j with rfl|hp
  ·rw[upd_same]at qf;cases qf;exact h.knW 0 R hj hD i a ha (CB hs.wr hs.ob hw)
  ·rw[hn j hp,hold j hp hj]at qf;cases qf
 ·rcases Nat.eq_zero_or_pos j with rfl|hp
  ·rw[upd_same]at qf;cases qf;exact h.knR 0 R hj hD i a ha (CC hs.rd hs.ob hw) uj
  ·rw[hn j hp,hold j hp hj]at qf;cases qf
 ·rcases h.oj i a ha with h2|⟨j,S,_,h3,h4,h5⟩|⟨j,S,r,_,h3,h4,h5,_⟩|h2
  ·exact .inl h2
  ·rw[hold j h3 h4]at h5;cases h5
  ·rw[hold j h3 h4]at h5;cases h5
  ·refine .inr (.inr (.inr ⟨?_,h2.2⟩));have :=h2.1;cases hl:a.loc with
   |cell x=>rw[hl]at this;exact⟨.inl this.1,this.2⟩
   |_=>rw[hl]at this;exact this.elim
 ·have key:Knows t 0 i->a.kind= .atomic\/(Knows t 0 i/\(a.kind= .plain->∀k,k<size->upd D 0 (.work eK) k≠ .old->Knows t k i)):=fun hk=>
   .inr ⟨hk,fun _ j hj s6=>by
    rcases Nat.eq_zero_or_pos j with rfl|hp
    ·exact hk
    ·rw[hn j hp]at s6;exact absurd (hold j hp hj) s6⟩
  cases hl:a.loc with
  |cell x=>
   rw[hl]at yD;obtain⟨h2|h2,h3,h4⟩:=yD
   ·rcases h.shp i a ha (by rw[hl];exact⟨h2,h3,h4⟩)with e|⟨e,_⟩
    ·exact .inl e
    ·exact key e
   ·refine key (h.knW 0 R iW hD i a ha ?_);rw[hl];refine⟨h3,?_⟩;rw[h2];rcases(show x.off=0\/x.off=1 by omega)with e|e<;>rw[e]<;>assumption
  |_=>rw[hl]at yD;exact yD.elim
 ·rcases Nat.eq_zero_or_pos j with rfl|hp
  ·rw[upd_same]at ku;cases ku
  ·rw[hn j hp,hold j hp hj]at ku;cases ku
theorem TI.fork(h:TI Wg sh D size N t){R eK Rc:Perm}(hD:D 0= .work R)(h1:jF eK R)(hc:jF Rc R)(iW:0<size){x y:MemOp}(hx:x.g=0/\x.act= .go size)(hy:y.g=size/\y.act= .start)(h0:Deaf t 0=0)(hk:Deaf t size=0):
  TI Wg sh (upd (upd D 0 (.work eK)) size (.work Rc)) (size+1) N (t++#[x,y]):=by
 have qD:∀op∈ #[x,y],∀b,op.act.touch?=some b->False:=by
  intro op dq b hb;simp only[List.mem_toArray,aI,List.not_mem_nil,or_false]at dq;rcases dq with rfl|rfl
  ·rw[hx.2]at hb;cases hb
  ·rw[hy.2]at hb;cases hb
 have old:∀{i:Nat}{a:Touch},touchAt (t++#[x,y]) i=some a->touchAt t i=some a/\i<t.size:=by
  intro i a ha;obtain⟨z,hz,hza⟩:=touch_of ha;rcases getElem?_append_cases hz with⟨hi,Ju⟩|⟨_,hzu⟩
  ·exact⟨by rw[touchAt_of Ju];exact hza,hi⟩
  ·exact(qD z hzu a hza).elim
 have hn:∀j,0<j->j<size->upd (upd D 0 (.work eK)) size (.work Rc) j=D j:=fun j h1 h2=>by rw[upd_ne _ _ aj,upd_ne _ _ aj]
 have hz:upd (upd D 0 (.work eK)) size (.work Rc) 0= .work eK:=by rw[upd_ne _ _ aj,upd_same]
 have hq:upd (upd D 0 (.work eK)) size (.work Rc) size= .work Rc:=upd_same ..;have three:∀j,j<size+1->j=0\/(0<j/\j<size)\/j=size:=fun j hj=>by omega
 have kn:∀{i:Nat},Knows t 0 i->Knows (t++#[x,y]) size i:=fun CH=>fork_knows hx hy h0 hk CH
 refine⟨fun said=>?_,fun op dq=>?_,fun i a ha=>h.low i a (old ha).1,fun j S hj qf i a ha hw=>?_,fun j S hj qf i a ha hw uj=>?_,fun i a ha=>?_,fun i a ha yD=>?_,fun j S r hj ku=>?_,fun a=>(h.norel a).app fun op dq=>?_,fun i j hi hj s6 hcn=>?_,⟨eK,hz⟩⟩
 ·have e:t++#[x,y]=(t++#[x])++#[y]:=by apply Array.ext';simp
  rw[e];refine noRace_append (g:=size) (noRace_append (g:=0) (h.nr said) (fun op dq=>by simp at dq;rw[dq];exact hx.1) (fun i a _ op dq b hb _=>(qD op (by simp at dq⊢;exact .inl dq) b hb).elim))
   (fun op dq=>by simp at dq;rw[dq];exact hy.1) (fun i a _ op dq b hb _=>(qD op (by simp at dq⊢;exact .inr dq) b hb).elim)
 ·rcases Array.mem_append.1 dq with h2|h2
  ·exact Nat.lt_succ_of_lt (h.gs op h2)
  ·simp only[List.mem_toArray,aI,List.not_mem_nil,or_false]at h2;rcases h2 with rfl|rfl
   ·rw[hx.1];omega
   ·rw[hy.1];omega
 ·obtain⟨mN,_⟩:=old ha;rcases three j hj with rfl|⟨g1,g2⟩|rfl
  ·rw[hz]at qf;cases qf;exact(h.knW 0 R iW hD i a mN (CB h1.wr h1.ob hw)).app _
  ·rw[hn j g1 g2]at qf;exact(h.knW j S g2 qf i a mN hw).app _
  ·rw[hq]at qf;cases qf;exact kn (h.knW 0 R iW hD i a mN (CB hc.wr hc.ob hw))
 ·obtain⟨mN,_⟩:=old ha;rcases three j hj with rfl|⟨g1,g2⟩|rfl
  ·rw[hz]at qf;cases qf;exact(h.knR 0 R iW hD i a mN (CC h1.rd h1.ob hw) uj).app _
  ·rw[hn j g1 g2]at qf;exact(h.knR j S g2 qf i a mN hw uj).app _
  ·rw[hq]at qf;cases qf;exact kn (h.knR 0 R iW hD i a mN (CC hc.rd hc.ob hw) uj)
 ·obtain⟨mN,hi⟩:=old ha;rcases h.oj i a mN with h2|⟨j,S,h2,h3,h4,h5⟩|⟨j,S,r,h2,h3,h4,h5,h6⟩|h2
  ·exact .inl (h2.app _)
  ·exact .inr (.inl ⟨j,S,by rw[g?_old hi];exact h2,h3,aj,by rw[hn j h3 h4];exact h5⟩)
  ·exact .inr (.inr (.inl ⟨j,S,r,by rw[g?_old hi];exact h2,h3,aj,by rw[hn j h3 h4];exact h5,h6⟩))
  ·exact .inr (.inr (.inr h2))
 ·obtain⟨mN,hi⟩:=old ha;rcases h.shp i a mN yD with e|⟨e1,e2⟩
  ·exact .inl e
  ·refine .inr ⟨e1.app _,fun hp j hj s6=>?_⟩;rcases three j hj with rfl|⟨g1,g2⟩|rfl
   ·exact e1.app _
   ·exact(e2 hp j g2 (by rw[<-hn j g1 g2];exact s6)).app _
   ·exact kn e1
 ·rcases three j hj with rfl|⟨g1,g2⟩|rfl
  ·rw[hz]at ku;cases ku
  ·rw[hn j g1 g2]at ku;have hb:=h.IL j S r g2 ku;refine hb.app fun i hi hgi=>?_
   rintro⟨b,iB,_⟩;obtain⟨op,ho,yE⟩:=touch_of iB;rcases getElem?_append_cases ho with⟨cC,_⟩|⟨_,hou⟩
   ·omega
   ·exact qD op hou b yE
  ·rw[hq]at ku;cases ku
 ·simp only[List.mem_toArray,aI,List.not_mem_nil,or_false]at dq;rcases dq with rfl|rfl
  ·rw[hx.2];simp
  ·rw[hy.2];simp
 ·have cC:i<t.size:=by
   obtain⟨b,hb,_⟩:=hcn;exact(old hb).2
  have CI:j<size:=by
   obtain⟨op,ho,hog⟩:=aC.1 (show((t++#[x,y])[i]?).map (·.g)=some j from hi);rw[getElem?_append_old cC]at ho;rw[<-hog];exact h.gs op (mem_of_getElem? ho)
  rw[hn j hj CI]at s6;exact(h.cnt i j (by rw[<-g?_old (u:=#[x,y]) cC];exact hi) hj s6 ((counts_old cC).1 hcn)).app _
theorem TI.Te(h:TI Wg sh D size N t){R:Perm}(hk:k<size)(iL:0<k)(hD:D k= .work R){r:Nat}(hr:RelBy (stA Wg) t k r)(hl:t.size<=r+1):
  TI Wg sh (upd D k (.rel R r)) size N t:=by
 have hn:∀j,j≠k->upd D k (.rel R r) j=D j:=fun j hj=>upd_ne D _ hj
 have ho:∀j,upd D k (.rel R r) j= .old->D j= .old:=fun j hj=>by
  by_cases e:j=k
  ·subst e;rw[upd_same]at hj;cases hj
  ·rw[hn j e]at hj;exact hj
 refine⟨h.nr,h.gs,h.low,fun j S hj qf i a ha hw=>?_,fun j S hj qf i a ha hw uj=>?_,fun i a ha=>?_,fun i a ha yD=>?_,fun j S r' hj ku=>?_,h.norel,fun i j hi hj s6 hc=>h.cnt i j hi hj (ho j s6) hc,?_⟩
 ·by_cases e:j=k
  ·subst e;rw[upd_same]at qf;cases qf
  ·rw[hn j e]at qf;exact h.knW j S hj qf i a ha hw
 ·by_cases e:j=k
  ·subst e;rw[upd_same]at qf;cases qf
  ·rw[hn j e]at qf;exact h.knR j S hj qf i a ha hw uj
 ·rcases h.oj i a ha with h2|⟨j,S,h2,h3,h4,h5⟩|⟨j,S,r',h2,h3,h4,h5,h6⟩|h2
  ·exact .inl h2
  ·by_cases e:j=k
   ·subst e;refine .inr (.inr (.inl ⟨j,R,r,h2,h3,h4,upd_same ..,?_⟩));obtain⟨op,dq,_⟩:=touch_of ha;have :=lt_size_of_getElem? dq;omega
   ·exact .inr (.inl ⟨j,S,h2,h3,h4,by rw[hn j e];exact h5⟩)
  ·have e:j≠k:=by rintro rfl;rw[hD]at h5;cases h5
   exact .inr (.inr (.inl ⟨j,S,r',h2,h3,h4,by rw[hn j e];exact h5,h6⟩))
  ·exact .inr (.inr (.inr h2))
 ·rcases h.shp i a ha yD with e|⟨e1,e2⟩
  ·exact .inl e
  ·refine .inr ⟨e1,fun hp j hj s6=>e2 hp j hj fun hx=>?_⟩
   by_cases e:j=k
   ·subst e;rw[hD]at hx;cases hx
   ·exact s6 (by rw[hn j e];exact hx)
 ·by_cases e:j=k
  ·subst e;rw[upd_same]at ku;cases ku;exact hr
  ·rw[hn j e]at ku;exact h.IL j S r' hj ku
 ·obtain⟨S,hS⟩:=h.main;exact⟨S,by rw[hn 0 aj];exact hS⟩
theorem TI.V'(h:TI Wg sh D size N t)(iW:0<size)(oh:∀j,0<j->j<size->(∃R r,D j= .rel R r)\/D j= .old){x:MemOp}(hx:x.g=0/\x.act= .mark (.acquire (stA Wg)))(h0:Deaf t 0=0)
  {R':Perm}(ahr:∀b o,R'.rd b o->sh b->¬o<=1)(uj:∀b o,R'.wr b o->R'.rd b o):TI Wg sh (fun j=>if j=0 then .work R' else .old) size N (t++#[x]):=by
 have qD:∀op∈ #[x],∀b,op.act.touch?=some b->False:=by
  intro op dq b hb;simp only[List.mem_toArray,aI,List.not_mem_nil,or_false]at dq;subst dq;rw[hx.2]at hb;cases hb
 have old:∀{i:Nat}{a:Touch},touchAt (t++#[x]) i=some a->touchAt t i=some a/\i<t.size:=by
  intro i a ha;obtain⟨z,hz,hza⟩:=touch_of ha;rcases getElem?_append_cases hz with⟨hi,Ju⟩|⟨_,hzu⟩
  ·exact⟨by rw[touchAt_of Ju];exact hza,hi⟩
  ·exact(qD z hzu a hza).elim
 have OU:(t++#[x])[t.size]?=some x:=de;have zl:∀op∈ #[x],op.g=0:=by intro op dq;simp at dq;rw[dq];exact hx.1
 have MS:∀j R r,0<j->j<size->D j= .rel R r->∀i,t.g? i=some j->i<=r->Knows (t++#[x]) 0 i:=by
  intro j R r hj CI ku i hi hir;have hr:RelBy (stA Wg) (t++#[x]) j r:=(h.IL j R r CI ku).appOther zl aj;have FD:r<t.size:=lt_of_act? (h.IL j R r CI ku).act;have hq:(t++#[x]).act? t.size=some (.mark (.acquire (stA Wg))):=by rw[act?_of OU,hx.2]
  have hh:(t++#[x]).heard t.size:=⟨0,by simp[Trace.g?,hx.1],by rw[deaf_old (ai _)];exact h0⟩;have hn:NoRelease (stA Wg) (t++#[x]):=(h.norel _).app fun op dq=>by simp at dq;rw[dq,hx.2];simp
  have e:HappensBefore (t++#[x]) r t.size:= .single (.inr ⟨.marked FD (.inr hr.act) hq (fun k _ _=>hn k),hr.heard,hh⟩);refine⟨t.size,x,OU,hx.1,.inr ?_⟩;rcases Nat.lt_or_ge i r with cC|w5
  ·exact .trans (.single (.inl ⟨cC,j,by rw[g?_old aj];exact hi,hr.g⟩)) e
  ·obtain rfl:i=r:=aj;exact e
 have Vs:∀i a,touchAt (t++#[x]) i=some a->Knows (t++#[x]) 0 i\/(shl sh a.loc/\a.kind= .atomic):=by
  intro i a ha;obtain⟨mN,hi⟩:=old ha;rcases h.oj i a mN with h2|⟨j,S,h2,h3,h4,h5⟩|⟨j,S,r',h2,h3,h4,h5,h6⟩|h2
  ·exact .inl (h2.app _)
  ·rcases oh j h3 h4 with⟨_,_,e⟩|e<;>rw[h5]at e<;>cases e
  ·exact .inl (MS j S r' h3 h4 h5 i h2 h6)
  ·exact .inr h2
 have D0:∀j S,(if j=0 then WS.work R' else .old)= .work S->j=0/\S=R':=by
  intro j S hj
  split at hj
  ·rename_i e;cases hj;exact⟨e,rfl⟩
  ·cases hj
 refine⟨fun said=>noRace_append (h.nr said) zl fun i a _ op dq b hb _=>(qD op dq b hb).elim,fun op dq=>?_,fun i a ha=>h.low i a (old ha).1,fun j S hj qf i a ha hw=>?_,fun j S hj qf i a ha hw acZ=>?_,fun i a ha=>(Vs i a ha).imp id fun e=> .inr (.inr e),fun i a ha yD=>?_,fun j S r hj ku=>?_,
  fun a=>(h.norel a).app fun op dq=>(by simp at dq;rw[dq,hx.2];simp),fun i j hi hj s6 hc=>?_,⟨R',rfl⟩⟩
 ·rcases Array.mem_append.1 dq with h2|h2
  ·exact h.gs op h2
  ·rw[zl op h2];exact iW
 ·obtain⟨rfl,rfl⟩:=D0 j S qf;exact(Vs i a ha).resolve_right fun e=>xQ ahr (OG uj hw) e.1
 ·obtain⟨rfl,rfl⟩:=D0 j S qf;exact(Vs i a ha).resolve_right fun e=>xQ ahr hw e.1
 ·rcases h.shp i a (old ha).1 yD with e|⟨e1,_⟩
  ·exact .inl e
  ·refine .inr ⟨e1.app _,fun _ j hj s6=>?_⟩
   replace s6:¬(if j=0 then WS.work R' else .old)= .old:=s6
   split at s6
   ·rename_i e;subst e;exact e1.app _
   ·exact absurd rfl s6
 ·replace ku:(if j=0 then WS.work R' else .old)= .rel S r:=ku
  split at ku<;>cases ku
 ·have cC:i<t.size:=by
   obtain⟨b,hb,_⟩:=hc;exact(old hb).2
  have Ez:t.g? i=some j:=by rw[<-g?_old (u:=#[x]) cC];exact hi
  have CI:j<size:=by
   obtain⟨op,ho,hog⟩:=aC.1 (show(t[i]?).map (·.g)=some j from Ez);rw[<-hog];exact h.gs op (mem_of_getElem? ho)
  rcases oh j hj CI with⟨R,r,e⟩|e
  ·refine MS j R r hj CI e i Ez (Nat.le_of_not_lt fun U1=>?_);exact(h.IL j R r CI e).after i U1 Ez ((counts_old cC).1 hc)
  ·exact(h.cnt i j Ez hj e ((counts_old cC).1 hc)).app _
theorem TI.over(h:TI Wg sh D size N t)(oh:∀j,0<j->j<size->D j= .old):t.HandedOver:=by
 intro i g hg dH hc;have hgs:g<size:=by
  obtain⟨op,ho,hog⟩:=aC.1 (show(t[i]?).map (·.g)=some g from hg);rw[<-hog];exact h.gs op (mem_of_getElem? ho)
 obtain⟨q,z,h1,h2,h3⟩:=h.cnt i g hg aj (oh g aj hgs) hc;refine⟨q,by simp[Trace.g?,h1,h2],?_⟩;rcases h3 with rfl|h3
 ·exfalso
  have :some g=some z.g:=by rw[<-hg];simp[Trace.g?,h1]
  rw[h2]at this;cases this;exact dH rfl
 ·exact h3
end
end Go.AM
namespace Go.AM
open Go Go.Conc
open Go.ConcR (stA smA KK rd wr mk)
structure rX (Wg:Nat)(w:au)(st sm:Int):Prop where
 st:w.cell? ⟨Wg,0,none⟩=some (.int .u64 st)
 sm:w.cell? ⟨Wg,1,none⟩=some (.int .u32 sm)
 fz:∀o,o<=1->w.frozen? ⟨Wg,o,none⟩=false
def Gb (Wg:Nat)(w:au):Prop:=∃st sm,rX Wg w st sm
def PF (σ:nF)(w:au):Prop:=
 match σ with
 | .fI g=>Gb g.Wg w
 |_=>True
def setSt (Wg:Nat)(x:Int)(w:au):au:=w.setCell (stA Wg) (.int .u64 x)
def setSm (Wg:Nat)(x:Int)(w:au):au:=w.setCell (smA Wg) (.int .u32 x)
def VM:Nat:=4
inductive DSt where
 |k1|d1|d2|d3|d4
section
variable (P:aD)(Wg:Nat)
inductive DStep (J:DSt->ak->Prop)(n:Nat):DSt->ak->au->Prop
 |quiet {s:DSt}{g g':ak}{w:au}:stepG P false g w= .go g' w #[]->J s g'->DStep J n s g w
 |k1 {g g':ak}{w:au}:stepG P false g w= .go g' w #[mk .disable]->J .d1 g'->DStep J n .k1 g w
 |d1 {g:ak}{w:au}:(∀v wt:Nat,wt<=1->v<VM->rX Wg w (((v:Int)+1)*KK+wt) 0->
   ∃g',stepG P false g w= .go g' (setSt Wg ((v:Int)*KK+wt) w) #[rd (stA Wg),wr (stA Wg)]/\((v=0/\wt=1)->J .d2 g')/\(¬(v=0/\wt=1)->QuitsD P n 1 g'))->DStep J n .d1 g w
 |d2 {g:ak}{w:au}:(rX Wg w 1 0->∃g',stepG P false g w= .go g' w #[rd (stA Wg)]/\J .d3 g')->DStep J n .d2 g w
 |d3 {g:ak}{w:au}:(rX Wg w 1 0->∃g',stepG P false g w= .go g' (setSt Wg 0 w) #[wr (stA Wg)]/\J .d4 g')->DStep J n .d3 g w
 |d4 {g:ak}{w:au}:mayWake P g=true->(rX Wg w 0 0->∃g',stepG P false g w= .go g' (setSm Wg 1 w) (semEvents (smA Wg))/\QuitsD P n 1 g')->DStep J n .d4 g w
def JD:Nat->DSt->ak->Prop
 |0,_,_=>False
 |n+1,s,g=>g.status= .running/\∀w,Gb Wg w->DStep P Wg (JD n) n s g w
variable (p:dQ)
inductive Pz (J:Perm->ak->au->Prop)(n:Nat)(R:Perm)(g:ak)(w:au):Prop
 |own {R':Perm}{g':ak}{w':au}{es:Array Event}:Stepped P false R g w R' g' w' es->J R' g' w'->Pz J n R g w
 |rel {g':ak}:R.deaf=0->p.ok R w->stepG P false g w= .go g' w #[mk (.releaseMerge (stA Wg))]->JD P Wg n .k1 g'->Pz J n R g w
def JW:Nat->Perm->ak->au->Prop
 |0,_,_,_=>False
 |n+1,R,g,w=>JW n R g w\/(g.status= .running/\∀aO,bj R w aO->Gb Wg aO->Pz P Wg p (JW n) n R g aO)
end
def HU (p:dQ):Prop:=∀R w aO,p.ok R w->bj R w aO->p.ok R aO
section
variable (P:aD)(Fin:ae->au->Prop)
inductive rS (J:nF->Perm->ak->au->Prop):nF->Perm->ak->au->Prop
 |own {σ:nF}{R R':Perm}{g g':ak}{w w':au}{es:Array Event}:g.status= .running->Stepped P true R g w R' g' w' es->J σ R' g' w'->rS J σ R g w
 |ends {R:Perm}{g:ak}{w w':au}{v:ae}{es:Array Event}:g.status= .running->stepG P true g w= .ended (.done v) w' es->(∀e∈es,nT R e)->R.deaf=0->Fin v w'->rS J .idle R g w
 |wM {R eK:Perm}{g:ak}{w:au}{Wg:Nat}:jF eK R->(∀b o,eK.wr b o->eK.rd b o)->eK.deaf=R.deaf->R.wr Wg 0->R.wr Wg 1->rX Wg w 0 0->(∀o,o<=1->¬eK.rd Wg o)->J (.fI ⟨Wg,[],.opn 0⟩) eK g w->rS J .idle R g w
 |add {Wg V:Nat}{ps:List dQ}{R:Perm}{g:ak}{w:au}:g.status= .running->V<VM->
   (∀v:Nat,v<=V->rX Wg w ((v:Int)*KK) 0->∃g',stepG P true g w= .go g' (setSt Wg (((v:Int)+1)*KK) w) #[rd (stA Wg),wr (stA Wg)]/\J (.fI ⟨Wg,ps,.added V⟩) R g' w)->rS J (.fI ⟨Wg,ps,.opn V⟩) R g w
 |said {Wg:Nat}{ps:List dQ}{s:Sub}{R:Perm}{g g':ak}{w:au}{es:Array Event}:g.status= .running->stepG P true g w= .go g' w es->(∀e∈es,e=mk (.read (smA Wg))\/e=mk (.write (smA Wg)))->
   J (.fI ⟨Wg,ps,s⟩) R g' w->rS J (.fI ⟨Wg,ps,s⟩) R g w
 |spawn {Wg V kc:Nat}{ps:List dQ}{p:dQ}{R eK Rc:Perm}{g g' child:ak}{w:au}:g.status= .running->R.deaf=0->stepG P true g w= .spawn g' child w #[]->
   jF eK R->jF Rc R->(∀b o,eK.wr b o->eK.rd b o)->(∀b o,Rc.wr b o->Rc.rd b o)->eK.deaf=0->Rc.deaf=0->mn eK Rc->mn Rc eK->HU p->JW P Wg p kc Rc child w->
   J (.fI ⟨Wg,p::ps,.opn (V+1)⟩) eK g' w->rS J (.fI ⟨Wg,ps,.added V⟩) R g w
 |load {Wg V:Nat}{ps:List dQ}{R:Perm}{g:ak}{w:au}:g.status= .running->
   (∀v:Nat,v<=V->rX Wg w ((v:Int)*KK) 0->∃g',stepG P true g w= .go g' w #[rd (stA Wg)]/\(v=0->J (.fI ⟨Wg,ps,.fin⟩) R g' w)/\(v≠0->J (.fI ⟨Wg,ps,.seen v⟩) R g' w))->rS J (.fI ⟨Wg,ps,.opn V⟩) R g w
 |cas {Wg vs:Nat}{ps:List dQ}{R:Perm}{g:ak}{w:au}:g.status= .running->
   (∀v:Nat,v<=vs->rX Wg w ((v:Int)*KK) 0->(v=vs->∃g',stepG P true g w= .go g' (setSt Wg ((v:Int)*KK+1) w) #[rd (stA Wg),wr (stA Wg)]/\J (.fI ⟨Wg,ps,.reg⟩) R g' w)/\
    (v≠vs->∃g',stepG P true g w= .go g' w #[rd (stA Wg)]/\J (.fI ⟨Wg,ps,.opn (vs-1)⟩) R g' w))->rS J (.fI ⟨Wg,ps,.seen vs⟩) R g w
 |sem {Wg:Nat}{ps:List dQ}{R:Perm}{g:ak}{w:au}:g.status= .running->g.offers=none->(∀st,rX Wg w st 0->stepG P true g w= .go {g with status:= .blocked} w #[])->
   (rX Wg w 0 1->∃g',stepG P true g w= .go g' (setSm Wg 0 w) (semEvents (smA Wg))/\J (.fI ⟨Wg,ps,.Vo⟩) R g' w)->rS J (.fI ⟨Wg,ps,.reg⟩) R g w
 |last {Wg:Nat}{ps:List dQ}{R:Perm}{g:ak}{w:au}:g.status= .running->(rX Wg w 0 0->∃g',stepG P true g w= .go g' w #[rd (stA Wg)]/\J (.fI ⟨Wg,ps,.fin⟩) R g' w)->rS J (.fI ⟨Wg,ps,.Vo⟩) R g w
 |acq {Wg:Nat}{ps:List dQ}{R:Perm}{g g':ak}{w:au}:g.status= .running->R.deaf=0->stepG P true g w= .go g' w #[mk (.acquire (stA Wg))]->
   (∀Rs:List Perm,bB (fun p S=>p.ok S w/\w7 S w/\mn R S/\mn S R) ps Rs->Rs.Pairwise (fun S T=>mn S T/\mn T S)->
    ∃R',R'.deaf=0/\(∀b o,R'.wr b o->R'.rd b o)/\(∀b o,R'.rd b o->R.rd b o\/∃S∈Rs,S.rd b o)/\(∀b,R'.ob b->R.ob b\/∃S∈Rs,S.ob b)/\J .idle R' g' w)->rS J (.fI ⟨Wg,ps,.fin⟩) R g w
def JM:nF->Nat->Perm->ak->au->Prop
 |_,0,_,_,_=>False
 |σ,n+1,R,g,w=>JM σ n R g w\/∀aO,bj R w aO->PF σ aO->rS P Fin (fun gu R' g' w'=>JM gu n R' g' w') σ R g aO
end
section
variable {P:aD}{Fin:ae->au->Prop}{Wg:Nat}{p:dQ}
theorem rF:gj P false (fun n R g w=>JW P Wg p n R g w):=
 ⟨fun h=> .inl h,fun hr h=> .inr ⟨hr,fun aO hk _=>let⟨g',w',es,R',h1,h2⟩:=h aO hk; .own h1 h2⟩⟩
theorem iK:∀σ,gj P true (JM P Fin σ):=fun σ=>
 ⟨fun h=> .inl h,fun hr h=> .inr fun aO hk _=>let⟨g',w',es,R',h1,h2⟩:=h aO hk; .own hr h1 h2⟩
theorem JW.keeps:∀{n:Nat}{R:Perm}{g:ak}{w aO:au},JW P Wg p n R g w->bj R w aO->JW P Wg p n R g aO
 |0,_,_,_,_,h,_=>h
 |n+1,R,g,w,aO,h,k=>h.imp (fun x=>x.keeps k) fun x=>⟨x.1,fun iH k₂=>x.2 iH (k.trans k₂)⟩
theorem JM.keeps:∀{n:Nat}{σ:nF}{R:Perm}{g:ak}{w aO:au},JM P Fin σ n R g w->bj R w aO->JM P Fin σ n R g aO
 |0,_,_,_,_,_,h,_=>h
 |n+1,σ,R,g,w,aO,h,k=>h.imp (fun x=>x.keeps k) fun x iH k₂=>x iH (k.trans k₂)
theorem JW.out:∀{n:Nat}{R:Perm}{g:ak}{w:au},JW P Wg p n R g w->∃m,m<n/\g.status= .running/\(Gb Wg w->Pz P Wg p (JW P Wg p m) m R g w)
 |0,_,_,_,h=>h.elim
 |n+1,R,g,w,h=>h.elim (fun x=>let⟨m,h1,h2⟩:=JW.out x;⟨m,aj,h2⟩) fun x=>⟨n,aj,x.1,x.2 w (bj.refl _ _)⟩
theorem JM.out:∀{n:Nat}{σ:nF}{R:Perm}{g:ak}{w:au},JM P Fin σ n R g w->∃m,m<n/\(PF σ w->rS P Fin (fun gu R' g' w'=>JM P Fin gu m R' g' w') σ R g w)
 |0,_,_,_,_,h=>h.elim
 |n+1,σ,R,g,w,h=>h.elim (fun x=>let⟨m,h1,h2⟩:=JM.out x;⟨m,aj,h2⟩) fun x=>⟨n,aj,x w (bj.refl _ _)⟩
theorem JM.le{n m:Nat}{σ:nF}{R:Perm}{g:ak}{w:au}(h:JM P Fin σ n R g w)(hn:n<=m):JM P Fin σ m R g w:=(iK σ).le hn h
theorem JD.mono:∀{n:Nat}{s:DSt}{g:ak},JD P Wg n s g->g.status= .running
 |0,_,_,h=>h.elim
 |_+1,_,_,h=>h.1
end
end Go.AM
namespace Go.AM
open Go Go.Conc
open Go.ConcN (RelBy upd upd_same upd_ne)
open Go.ConcR (stA smA KK rd wr mk)
theorem uw (w:au)(a:Addr)(v:ae)(b o:Nat):(w.setCell a v).frozen? ⟨b,o,none⟩=w.frozen? ⟨b,o,none⟩:=by
 unfold au.frozen? au.setCell;simp only[Array.getElem?_modify]
 by_cases h:a.block=b
 ·subst h;cases hb:w.heap[a.block]? with
  |none=>simp
  |some x=>cases x with
   |cells c e f=>simp
   |_=>simp
 ·simp[h]
theorem size_setCell (w:au)(a:Addr)(v:ae):(w.setCell a v).heap.size=w.heap.size:=by simp[au.setCell]
theorem heap_setCell (w:au)(a:Addr)(v:ae)(b:Nat)(h:a.block≠b):(w.setCell a v).heap[b]?=w.heap[b]?:=by
 unfold au.setCell;simp only[Array.getElem?_modify,h,if_false]
theorem Ef {w:au}{b o:Nat}{v:ae}(h:w.cell? ⟨b,o,none⟩=some v):w.shape? b≠none:=by
 unfold au.cell? at h;unfold au.shape?;cases hb:w.heap[b]? with
 |none=>simp[hb]at h
 |some x=>cases x<;>simp_all
section
variable {Wg:Nat}{w w':au}{st sm x:Int}{R S:Perm}
theorem rX.setSt(h:rX Wg w st sm)(x:Int):rX Wg (setSt Wg x w) x sm:=by
 refine⟨?_,?_,fun o ho=>(uw ..).trans (h.fz o ho)⟩
 ·show(w.setCell (stA Wg) _).cell? _=_
  rw[ik _ _ _ _ _ rfl];simp[stA,h.st]
 ·show(w.setCell (stA Wg) _).cell? _=_
  rw[ik _ _ _ _ _ rfl];simp[stA,h.sm]
theorem rX.setSm(h:rX Wg w st sm)(x:Int):rX Wg (setSm Wg x w) st x:=by
 refine⟨?_,?_,fun o ho=>(uw ..).trans (h.fz o ho)⟩
 ·show(w.setCell (smA Wg) _).cell? _=_
  rw[ik _ _ _ _ _ rfl];simp[smA,h.st]
 ·show(w.setCell (smA Wg) _).cell? _=_
  rw[ik _ _ _ _ _ rfl];simp[smA,h.sm]
theorem rX.at(h:rX Wg w st sm)(d:Nat):rX Wg (w.at d) st sm:=⟨h.st,h.sm,h.fz⟩
theorem vE {o:Nat}{v u:ae}(hl:w7 R w)(hs:¬R.rd Wg o)(hc:w.cell? ⟨Wg,o,none⟩=some u):bj R w (w.setCell ⟨Wg,o,none⟩ v):=by
 refine⟨rfl,rfl,rfl,by rw[size_setCell];exact ai _,fun b _=>qQ ..,fun b x hr=>?_,fun b x _=>oQ ..,fun b hb=>heap_setCell _ _ _ _ fun e=>?_⟩
 ·rw[ik _ _ _ _ _ rfl]
  split
  ·rename_i h;obtain⟨rfl,rfl,_⟩:=h;exact absurd hr hs
  ·rfl
 ·simp only at e;subst e;exact Ef hc (hl.ob _ hb).2
theorem qB (hl:w7 R w)(hs:∀o,o<=1->¬R.rd Wg o)(h:rX Wg w st sm):bj R w (setSt Wg x w):=vE hl (hs 0 aj) h.st
theorem Af (hl:w7 R w)(hs:∀o,o<=1->¬R.rd Wg o)(h:rX Wg w st sm):bj R w (setSm Wg x w):=vE hl (hs 1 aj) h.sm
theorem rX.Pn(h:rX Wg w st sm)(c:tE R w.heap.size w w')(hW:Wg<w.heap.size)(hs:∀o,o<=1->¬R.wr Wg o):rX Wg w' st sm:=
 ⟨(c.cell Wg 0 hW (hs 0 aj)).trans h.st,(c.cell Wg 1 hW (hs 1 aj)).trans h.sm,fun o ho=>(uu (c.qU Wg o hW)).trans (h.fz o ho)⟩
theorem Fx (c:tE R w.heap.size w w')(hd:mn R S)(hl:w7 S w):bj S w w':=
 ⟨c.tape,c.os,c.output,c.size,fun b hb=>c.shape b hb,fun b o hr=>c.cell b o (hl.rd b o hr) fun hw=>hd.cell b o hw hr,fun b o hb=>c.qU b o hb,
  fun b hb=>c.obj b (hl.ob b hb).1 (fun hr=>hd.obj b hr hb) (hl.ob b hb).2⟩
end
section
variable {sh:Nat->Prop}{D:Nat->WS}{size k Wg:Nat}{w w':au}{R R':Perm}
theorem Lay.own(L:Lay sh D size w)(hk:k<size)(hD:D k= .work R)(ky:eJ R R' w.heap.size)(hl:w7 R' w')(hs:w.heap.size<=w'.heap.size)
  (gy:∀j S,j≠k->j<size->(D j).dY=some S->bj S w w'):Lay sh (upd D k (.work R')) size w':=by
 have hp:(D k).dY=some R:=by rw[hD];rfl
 have Dq:∀j S,(upd D k (.work R') j).dY=some S->(j=k/\S=R')\/(j≠k/\(D j).dY=some S):=by
  intro j S h
  by_cases e:j=k
  ·subst e;rw[upd_same]at h;exact .inl ⟨rfl,(Option.some.inj h).symm⟩
  ·rw[upd_ne _ _ e]at h;exact .inr ⟨e,h⟩
 have CG:=L.low k R hk hp;have dl:∀j S,j≠k->j<size->(D j).dY=some S->mn R' S:=by
  intro j S hj CI hS;have d:=L.H9 k j R S (Ne.symm hj) hk CI hp hS;have l:=L.low j S CI hS;exact⟨fun b o h1 h2=>(ky.wr b o h1).elim (fun x=>d.cell b o x h2) fun x=>absurd (l.rd b o h2) aj,fun b h1 h2=>(ky.ob b h1).elim (fun x=>d.obj b x h2) fun x=>absurd (l.ob b h2).1 aj⟩
 have dr:∀j S,j≠k->j<size->(D j).dY=some S->mn S R':=by
  intro j S hj CI hS;have d:=L.H9 j k S R hj CI hk hS hp;have l:=L.low j S CI hS;exact⟨fun b o h1 h2=>(ky.rd b o h2).elim (fun x=>d.cell b o h1 x) fun x=>absurd (l.rd b o (l.wr b o h1)) aj,fun b h1 h2=>(ky.ob b h2).elim (fun x=>d.obj b h1 x) fun x=>absurd (l.ob b h1).1 aj⟩
 refine⟨fun j S hj hS=>?_,fun i j S T s7 hi hj hS hT=>?_,fun j S hj hS b o hr hb=>?_,fun b hb=>aW (L.sh b hb) hs⟩
 ·rcases Dq j S hS with⟨rfl,rfl⟩|⟨e,h⟩
  ·exact hl
  ·exact(L.low j S hj h).keeps (gy j S e hj h)
 ·rcases Dq i S hS with⟨rfl,rfl⟩|⟨e,h⟩
  ·rcases Dq j T hT with⟨rfl,rfl⟩|⟨e',h'⟩
   ·exact absurd rfl s7
   ·exact dl j T e' hj h'
  ·rcases Dq j T hT with⟨rfl,rfl⟩|⟨e',h'⟩
   ·exact dr i S e hi h
   ·exact L.H9 i j S T s7 hi hj h h'
 ·rcases Dq j S hS with⟨rfl,rfl⟩|⟨e,h⟩
  ·exact(ky.rd b o hr).elim (fun x=>L.Ee j R hk hp b o x hb) fun x=>absurd (L.sh b hb) aj
  ·exact L.Ee j S hj h b o hr hb
theorem Lay.abo(L:Lay sh D size w)(hs:w.heap.size<=w'.heap.size)(gy:∀j S,j<size->(D j).dY=some S->bj S w w'):Lay sh D size w':=
 ⟨fun j S hj hS=>(L.low j S hj hS).keeps (gy j S hj hS),L.H9,L.Ee,fun b hb=>aW (L.sh b hb) hs⟩
theorem Lay.same{D':Nat->WS}(L:Lay sh D size w)(h:∀j,j<size->(D' j).dY=(D j).dY\/(D' j).dY=none):Lay sh D' size w:=by
 have key:∀j S,j<size->(D' j).dY=some S->(D j).dY=some S:=fun j S hj hS=>by
  rcases h j hj with e|e
  ·rw[<-e];exact hS
  ·rw[e]at hS;cases hS
 exact⟨fun j S hj hS=>L.low j S hj (key j S hj hS),fun i j S T s7 hi hj hS hT=>L.H9 i j S T s7 hi hj (key i S hi hS) (key j T hj hT),fun j S hj hS=>L.Ee j S hj (key j S hj hS),L.sh⟩
end
end Go.AM
namespace Go.AM
open Go Go.Conc
open Go.ConcN (RelBy upd upd_same upd_ne sumTo sumTo_upd sumTo_congr le_sumTo)
open Go.ConcR (stA smA KK rd wr mk)
theorem rJ {R:Perm}{e:Event}{b:Touch}(hl:∀b o,R.wr b o->R.rd b o)(h:EvW R e)(hb:(MemAct.ofEvent e).touch?=some b):UG R b.loc/\(b.write=true->YJ R b.loc):=by
 obtain⟨loc,Gi,sy⟩:=e;rcases h with h|h|h
 ·cases loc with
  |cell a=>
   rw[ofEvent_cell0]at hb;simp only[MemAct.touch?,ah]at hb;subst hb;obtain⟨h1,h2⟩:=h;refine⟨⟨h1,?_⟩,fun hw=>⟨h1,?_⟩⟩
   ·by_cases hw:Gi=true
    ·simp only[hw,if_true]at h2;exact hl _ _ h2
    ·simp only[hw,if_false]at h2;exact h2
   ·simp only at hw;simp only[hw,if_true]at h2;exact h2
  |obj r=>
   obtain⟨h1,h2⟩:=h;simp only at h2;subst h2;cases Gi<;>simp[MemAct.ofEvent,MemAct.touch?]at hb<;>subst hb<;>exact⟨h1,fun _=>h1⟩
  |mark m=>
   have hm:GV m:=h;cases m<;>simp_all [MemAct.ofEvent,MemAct.touch?,GV]
  |_=>exact h.elim
 ·simp only at h;subst h;simp[MemAct.ofEvent,MemAct.touch?]at hb
 ·simp only at h;subst h;simp[MemAct.ofEvent,MemAct.touch?]at hb
theorem C3 {R:Perm}{e:Event}(h:EvW R e)(a:Addr):MemAct.ofEvent e≠ .mark (.release a):=by
 intro hx;have hl:=Go.ConcR.loc_of_ofEvent hx;rcases h with h|h|h
 ·unfold nT at h;rw[hl]at h;exact h
 ·rw[h]at hl;cases hl
 ·rw[h]at hl;cases hl
theorem He {R:Perm}{w:au}(h:w7 R w){l:Loc}(hl:UG R l):l.low w.heap.size:=by
 cases l with
 |cell a=>exact h.rd _ _ hl.2
 |obj r=>exact(h.ob _ hl).1
 |_=>trivial
def Vc (size:Nat)(S:Nat->Nat):Nat:=sumTo size fun i=>if 5<=S i then 1 else 0
def OpenSt (lo size:Nat)(S:Nat->Nat):Prop:=∀i,lo<=i->i<size->S i=7\/S i=6\/S i=5\/S i=1
def AllQuit (lo size:Nat)(S:Nat->Nat):Prop:=∀i,lo<=i->i<size->S i=1
inductive Mode (lo size:Nat)(S:Nat->Nat):Sub->Bool->Int->Int->Prop
 |opn {V:Nat}:OpenSt lo size S->Vc size S<=V->V<=VM->Mode lo size S (.opn V) false ((Vc size S:Nat)*KK) 0
 |added {V:Nat}:OpenSt lo size S->Vc size S<=V->V<VM->Mode lo size S (.added V) false (((Vc size S:Nat)+1)*KK) 0
 |seen {vs:Nat}:OpenSt lo size S->Vc size S<=vs->1<=vs->vs<=VM->Mode lo size S (.seen vs) false ((Vc size S:Nat)*KK) 0
 |reg {b:Bool}:OpenSt lo size S->1<=Vc size S->Vc size S<=VM->Mode lo size S .reg b ((Vc size S:Nat)*KK+1) 0
 |last {b:Bool} (L:Nat):lo<=L->L<size->S L=4\/S L=3\/S L=2->(∀i,lo<=i->i<size->i≠L->S i=1)->Mode lo size S .reg b (if S L=2 then 0 else 1) 0
 |sema:AllQuit lo size S->Mode lo size S .reg false 0 1
 |Vo:AllQuit lo size S->Mode lo size S .Vo false 0 0
 |fin:AllQuit lo size S->Mode lo size S .fin false 0 0
section
variable {lo size:Nat}{S:Nat->Nat}{s:Sub}{b:Bool}{st sm:Int}
theorem Lc (S:Nat->Nat){i x:Nat}(hi:i<size):Vc size (upd S i x)+(if 5<=S i then 1 else 0)=Vc size S+(if 5<=x then 1 else 0):=
 sumTo_upd S x (fun y=>if 5<=y then 1 else 0) hi
theorem Ld (S:Nat->Nat){i:Nat}(hi:i<size)(h:5<=S i):1<=Vc size S:=by
 have :=le_sumTo (f:=fun i=>if 5<=S i then 1 else 0) hi;simp only[h,if_true]at this;exact this
theorem abh (S:Nat->Nat){i j:Nat}(hi:i<size)(hj:j<size)(s7:j≠i)(h:5<=S i)(h':5<=S j):2<=Vc size S:=by
 have h1:=Lc S (x:=0) hi;have h2:=Ld (upd S i 0) hj (by rw[upd_ne _ _ s7];exact h');simp only[h,if_true]at h1;simp at h1;omega
theorem WW (h:Vc size S=0){i:Nat}(hi:i<size):¬5<=S i:=fun h5=>by have :=Ld S hi h5;omega
theorem Mode.Bt(h:Mode lo size S s b st sm)(b':Bool)(hb:b'=b\/b'=false):Mode lo size S s b' st sm:=by
 rcases hb with rfl|rfl
 ·exact h
 ·cases h with
  |opn h1 h2 h3=>exact .opn h1 h2 h3
  |added h1 h2 h3=>exact .added h1 h2 h3
  |seen h1 h2 h3 h4=>exact .seen h1 h2 h3 h4
  |reg h1 h2 h3=>exact .reg h1 h2 h3
  |last L h1 h2 h3 h4=>exact .last L h1 h2 h3 h4
  |sema h1=>exact .sema h1
  |Vo h1=>exact .Vo h1
  |fin h1=>exact .fin h1
theorem Mode.aib(h:Mode lo size S s b st sm){i x:Nat}(jH:lo<=i)(hi:i<size)(h5:5<=S i)(hx:x=7\/x=6\/x=5):Mode lo size (upd S i x) s b st sm:=by
 have hv:Vc size (upd S i x)=Vc size S:=by
  have :=Lc S (x:=x) hi;simp only[h5,if_true,show 5<=x by omega]at this;omega
 have ho:OpenSt lo size S->OpenSt lo size (upd S i x):=fun h a h1 h2=>by
  by_cases e:a=i
  ·subst e;rw[upd_same];omega
  ·rw[upd_ne _ _ e];exact h a h1 h2
 cases h with
 |opn h1 h2 h3=>rw[<-hv]at h2⊢;exact .opn (ho h1) h2 h3
 |added h1 h2 h3=>rw[<-hv]at h2⊢;exact .added (ho h1) h2 h3
 |seen h1 h2 h3 h4=>rw[<-hv]at h2⊢;exact .seen (ho h1) h2 h3 h4
 |reg h1 h2 h3=>rw[<-hv]at h2 h3⊢;exact .reg (ho h1) h2 h3
 |last L h1 h2 h3 h4=>
  by_cases e:i=L
  ·subst e;omega
  ·have :=h4 i jH hi e;omega
 |sema h1=>have :=h1 i jH hi;omega
 |Vo h1=>have :=h1 i jH hi;omega
 |fin h1=>have :=h1 i jH hi;omega
theorem Mode.isLast(h:Mode lo size S s b st sm){i:Nat}(jH:lo<=i)(hi:i<size)(hs:S i=4\/S i=3\/S i=2):
  s= .reg/\(∀a,lo<=a->a<size->a≠i->S a=1)/\st=(if S i=2 then 0 else 1)/\sm=0:=by
 cases h with
 |opn h1 _ _=>have :=h1 i jH hi;omega
 |added h1 _ _=>have :=h1 i jH hi;omega
 |seen h1 _ _ _=>have :=h1 i jH hi;omega
 |reg h1 _ _=>have :=h1 i jH hi;omega
 |last L h1 h2 h3 h4=>
  by_cases e:i=L
  ·subst e;exact⟨rfl,h4,rfl,rfl⟩
  ·have :=h4 i jH hi e;omega
 |sema h1=>have :=h1 i jH hi;omega
 |Vo h1=>have :=h1 i jH hi;omega
 |fin h1=>have :=h1 i jH hi;omega
theorem Mode.minus(h:Mode lo size S s b st sm){i:Nat}(jH:lo<=i)(hi:i<size)(hs:S i=5):
  ∃v wt:Nat,wt<=1/\v<VM/\st=((v:Int)+1)*KK+wt/\sm=0/\((v=0/\wt=1)->Mode lo size (upd S i 4) s b ((v:Int)*KK+wt) 0)/\(¬(v=0/\wt=1)->Mode lo size (upd S i 1) s b ((v:Int)*KK+wt) 0):=by
 have hp:=Ld S hi (by omega:5<=S i);have hv:∀x,¬5<=x->Vc size (upd S i x)+1=Vc size S:=by
  intro x hx;have :=Lc S (x:=x) hi;simp only[show 5<=S i by omega,if_true,hx,if_false]at this;omega
 have ho:OpenSt lo size S->OpenSt lo size (upd S i 1):=fun h a h1 h2=>by
  by_cases e:a=i
  ·subst e;rw[upd_same];simp
  ·rw[upd_ne _ _ e];exact h a h1 h2
 have h1:=hv 1 aj;obtain⟨v,hvv⟩:∃v,Vc size S=v+1:=⟨Vc size S-1,aj⟩;have e1:Vc size (upd S i 1)=v:=aj;cases h with
 |opn h2 h3 h4=>
  refine⟨v,0,aj,aj,?_,rfl,fun x=>absurd x.2 aj,fun _=>?_⟩
  ·rw[hvv];simp
  ·have :Mode lo size (upd S i 1) (.opn _) false ((Vc size (upd S i 1):Nat)*KK) 0:= .opn (ho h2) (by omega:Vc size (upd S i 1)<= _) h4;rw[e1]at this;simpa using this
 |added h2 h3 h4=>
  refine⟨v+1,0,aj,aj,?_,rfl,fun x=>absurd x.2 aj,fun _=>?_⟩
  ·rw[hvv];simp
  ·have :Mode lo size (upd S i 1) (.added _) false (((Vc size (upd S i 1):Nat)+1)*KK) 0:= .added (ho h2) (by omega:Vc size (upd S i 1)<= _) h4;rw[e1]at this;simpa using this
 |seen h2 h3 h4 h5=>
  refine⟨v,0,aj,aj,?_,rfl,fun x=>absurd x.2 aj,fun _=>?_⟩
  ·rw[hvv];simp
  ·have :Mode lo size (upd S i 1) (.seen _) false ((Vc size (upd S i 1):Nat)*KK) 0:= .seen (ho h2) (by omega:Vc size (upd S i 1)<= _) h4 h5;rw[e1]at this;simpa using this
 |reg h2 h3 h4=>
  refine⟨v,1,aj,aj,?_,rfl,fun x=>?_,fun x=>?_⟩
  ·rw[hvv];simp
  ·obtain⟨rfl,_⟩:=x;have :Mode lo size (upd S i 4) .reg b (if upd S i 4 i=2 then 0 else 1) 0:= .last i jH hi (by rw[upd_same];simp) fun a WH Vm dH=>by
    rw[upd_ne _ _ dH];have h6:=h2 a WH Vm
    by_cases h7:5<=S a
    ·have :=abh S hi Vm dH aj h7;omega
    ·omega
   rw[upd_same]at this;simpa using this
  ·have :Mode lo size (upd S i 1) .reg b ((Vc size (upd S i 1):Nat)*KK+1) 0:= .reg (ho h2) aj aj;rw[e1]at this;simpa using this
 |last L h2 h3 h4 h5=>
  by_cases e:i=L
  ·subst e;omega
  ·have :=h5 i jH hi e;omega
 |sema h2=>have :=h2 i jH hi;omega
 |Vo h2=>have :=h2 i jH hi;omega
 |fin h2=>have :=h2 i jH hi;omega
theorem allQuit_of (h:OpenSt lo size S)(h0:Vc size S=0):AllQuit lo size S:=fun i h1 h2=>by
 have :=h i h1 h2;have :=WW h0 h2;omega
end
section
variable (P:aD)(Wg:Nat)(p:dQ)
inductive WSit:WS->Nat->Nat->Nat->ak->au->Prop
 |work {R:Perm}{n:Nat}{g:ak}{w:au}:JW P Wg p n R g w->WSit (.work R) 7 n R.deaf g w
 |k1 {R:Perm}{r n:Nat}{g:ak}{w:au}:JD P Wg n .k1 g->WSit (.rel R r) 6 n 0 g w
 |d1 {R:Perm}{r n:Nat}{g:ak}{w:au}:JD P Wg n .d1 g->WSit (.rel R r) 5 n 1 g w
 |d2 {R:Perm}{r n:Nat}{g:ak}{w:au}:JD P Wg n .d2 g->WSit (.rel R r) 4 n 1 g w
 |d3 {R:Perm}{r n:Nat}{g:ak}{w:au}:JD P Wg n .d3 g->WSit (.rel R r) 3 n 1 g w
 |d4 {R:Perm}{r n:Nat}{g:ak}{w:au}:JD P Wg n .d4 g->WSit (.rel R r) 2 n 1 g w
 |gone {R:Perm}{r n d:Nat}{g:ak}{w:au}:QuitsD P n d g->WSit (.rel R r) 1 n d g w
 |old {n d:Nat}{g:ak}{w:au}:QuitsD P n d g->WSit .old 0 n d g w
end
section
variable {P:aD}{Wg:Nat}{p:dQ}{ws:WS}{s n d:Nat}{g:ak}{w w':au}
theorem WSit.status(h:WSit P Wg p ws s n d g w):g.status= .running\/(g.status= .finished/\s<=1):=by
 cases h with
 |work h=>exact .inl (JW.out h).choose_spec.2.1
 |k1 h=>exact .inl h.mono
 |d1 h=>exact .inl h.mono
 |d2 h=>exact .inl h.mono
 |d3 h=>exact .inl h.mono
 |d4 h=>exact .inl h.mono
 |gone h=>exact h.status.imp id fun x=>⟨x,aj⟩
 |old h=>exact h.status.imp id fun x=>⟨x,aj⟩
theorem WSit.woken(h:WSit P Wg p ws s n d g w)(a b:ak)(w':au):woken P a b w' g=g:=by
 unfold Go.Conc.woken
 split
 ·exact again_running _ (h.status.imp id (·.1))
 ·rfl
theorem WSit.keeps(h:WSit P Wg p ws s n d g w)(k:∀R,ws.dY=some R->bj R w w'):WSit P Wg p ws s n d g w':=by
 cases h with
 |work h=>exact .work (h.keeps (k _ rfl))
 |k1 h=>exact .k1 h
 |d1 h=>exact .d1 h
 |d2 h=>exact .d2 h
 |d3 h=>exact .d3 h
 |d4 h=>exact .d4 h
 |gone h=>exact .gone h
 |old h=>exact .old h
end
structure Com (P:aD)(Wg:Nat)(sh:Nat->Prop)(lo:Nat)(D:Nat->WS)(S F:Nat->Nat)(ps:Nat->dQ)(gs:Array ak)(w:au)(t:Trace):Prop where
 lom:1<=lo/\lo<=gs.size
 wk:∀i,0<i->i<gs.size->∃g,gs[i]?=some g/\WSit P Wg (ps i) (D i) (S i) (F i) (Deaf t i) g w
 old:∀i,i<lo->S i=0
 act:∀i,lo<=i->i<gs.size->S i≠0
 post:∀i R r,i<gs.size->D i= .rel R r->(ps i).ok R w
 Gy:∀i,lo<=i->i<gs.size->HU (ps i)
 above:∀j,gs.size<=j->Deaf t j=0
 lay:Lay sh D gs.size w
 ti:TI Wg sh D gs.size w.heap.size t
end Go.AM
namespace Go.AM
open Go Go.Conc
open Go.ConcN (RelBy upd upd_same upd_ne sumTo sumTo_upd sumTo_congr le_sumTo)
open Go.ConcR (stA smA KK rd wr mk)
def AA (σ:nF)(Wg:Nat)(sh:Nat->Prop)(lo size:Nat)(S:Nat->Nat)(ps:Nat->dQ)(b:Bool)(w:au):Prop:=
 match σ with
 | .Br=>False
 | .idle=>lo=size/\b=false
 | .fI gr=>gr.Wg=Wg/\sh Wg/\gr.vD=((List.range (size-lo)).map fun i=>ps (lo+i)).reverse/\∃st sm,rX Wg w st sm/\Mode lo size S gr.sub b st sm
theorem AA.live{σ:nF}{Wg:Nat}{sh:Nat->Prop}{lo size:Nat}{S:Nat->Nat}{ps:Nat->dQ}{b:Bool}{w:au}(h:AA σ Wg sh lo size S ps b w):PF σ w:=by
 cases σ with
 |Br=>trivial
 |idle=>trivial
 |fI gr=>obtain⟨rfl,_,_,st,sm,h1,_⟩:=h;exact⟨st,sm,h1⟩
def nL (b:Bool)(g:ak):ak:=if b then{g with status:= .blocked}else g
structure IV (P:aD)(Fin:ae->au->Prop)(gs:Array ak)(w:au)(t:Trace)(σ:nF)(n:Nat)(R:Perm)(g:ak)(Wg:Nat)(sh:Nat->Prop)(lo:Nat)(D:Nat->WS)(S F:Nat->Nat)(ps:Nat->dQ)(b:Bool):Prop where
 main:gs[0]?=some (nL b g)
 blk:b=true->g.status= .running/\g.offers=none
 jm:JM P Fin σ n R g w
 perm:D 0= .work R
 deaf:Deaf t 0=R.deaf
 eh:Com P Wg sh lo D S F ps gs w t
 fI:AA σ Wg sh lo gs.size S ps b w
def meas (n:Nat)(b:Bool)(size:Nat)(F:Nat->Nat):Nat×Nat:=(n,(if b then 0 else 1)+2*sumTo size F)
def Inv (P:aD)(Fin:ae->au->Prop)(μ:Nat×Nat)(m:Machine)(t:Trace):Prop:=
 ∃gs w sl σ n R g Wg sh lo D S F ps b,m=crowd gs w sl/\IV P Fin gs w t σ n R g Wg sh lo D S F ps b/\μ=meas n b gs.size F
section
variable {P:aD}{Fin:ae->au->Prop}{gs:Array ak}{w w':au}{t:Trace}{σ:nF}{n:Nat}{R:Perm}{g:ak}{Wg:Nat}{sh:Nat->Prop}{lo:Nat}{D:Nat->WS}{S F:Nat->Nat}{ps:Nat->dQ}{b:Bool}{sl:Option (Nat×Nat)}
theorem IV.size(I:IV P Fin gs w t σ n R g Wg sh lo D S F ps b):0<gs.size:=(Array.getElem?_eq_some_iff.1 I.main).1
theorem IV.Ub(I:IV P Fin gs w t σ n R g Wg sh lo D S F ps b):w7 R w:=I.eh.lay.low 0 R I.size (by rw[I.perm];rfl)
theorem JM.running:∀(n:Nat) {σ:nF}{R:Perm}{g:ak}{w:au},JM P Fin σ n R g w->PF σ w->g.status= .running:=by
 intro n
 induction n using Nat.strongRecOn with
 |_ n ih=>
  intro σ R g w h hl;obtain⟨m,hm,hs⟩:=h.out;cases hs hl with
  |own h _ _=>exact h
  |ends h _ _ _ _=>exact h
  |wM _ _ _ _ _ h1 _ h2=>exact ih m hm h2 ⟨_,_,h1⟩
  |add h _ _=>exact h
  |said h _ _ _=>exact h
  |spawn h=>exact h
  |load h _=>exact h
  |cas h _=>exact h
  |sem h _ _ _=>exact h
  |last h _=>exact h
  |acq h _ _ _=>exact h
theorem Je (hb:b=false->g.status= .running):awake (nL b g):=by
 cases b with
 |false=>exact awake_of (.inl (hb rfl))
 |true=>exact awake_of (.inr (.inl rfl))
theorem Ih {a a':ak}(hY:g.status= .running)(adj:b=true->g.offers=none)(mN:a'.status= .running\/a'.status= .finished):
  ∃b',woken P a a' w' (nL b g)=nL b' g/\(b'=b\/b'=false)/\(mayWake P a=true->b'=false):=by
 have hc:(a'.status != .blocked&&a'.status != .waiting)=true:=by rcases mN with h|h<;>rw[h]<;>rfl
 cases b with
 |false=>
  refine⟨false,?_,.inl rfl,fun _=>rfl⟩
  show woken P a a' w' g=g
  exact woken_running hY
 |true=>
  by_cases hm:mayWake P a=true
  ·refine⟨false,?_,.inr rfl,fun _=>rfl⟩;unfold Go.Conc.woken;rw[bC (by rw[ag]at hc;simp[hm,hc.1,hc.2])];exact Go.ConcR.again_blocked hY (adj rfl) w'
  ·refine⟨true,?_,.inl rfl,fun h=>absurd h hm⟩;unfold Go.Conc.woken;rw[bS (by simp[hm])]
theorem IV.running(I:IV P Fin gs w t σ n R g Wg sh lo D S F ps b):g.status= .running:=JM.running n I.jm I.fI.live
theorem IV.worker(I:IV P Fin gs w t σ n R g Wg sh lo D S F ps b){i:Nat}(xX:0<i)(hi:i<gs.size){a a':ak}{es:Array Event}(ha:gs[i]?=some a)(eD:stepG P false a w= .go a' w' es)
  {ws:WS}{s m:Nat}(gy:∀j T,j≠i->j<gs.size->(D j).dY=some T->bj T w w')(YP:WSit P Wg (ps i) ws s m (deafBehind (Deaf t i) es) a' w')(ahz:∀T r,ws= .rel T r->(ps i).ok T w')
  (hold:s=0↔S i=0)(U2:Lay sh (upd D i ws) gs.size w')(UK:TI Wg sh (upd D i ws) gs.size w'.heap.size (t++MemOp.ofEvents i a.frame.fn a.frame.place es))(FF:m<F i)
  (AS:∀b',(b'=b\/b'=false)->(mayWake P a=true->b'=false)->AA σ Wg sh lo gs.size (upd S i s) ps b' w'):
  ∃m₁ ops pk,runT P (crowd gs w sl) i=(.next m₁,ops)/\Lt2 pk (meas n b gs.size F)/\Inv P Fin pk m₁ (t++ops):=by
 have hY:=runT_crowd_go (P:=P) (sl:=sl) (i:=i) ha (by rw[show(i==0)=false by simp;omega];exact eD);have adn:i≠0:=aj;obtain⟨b',nD,my,hb3⟩:=Ih (P:=P) (w':=w') (a:=a) (a':=a') I.running (fun h=>(I.blk h).2) (YP.status.imp id (·.1));have iW:((gs.map (woken P a a' w')).setIfInBounds i a').size=gs.size:=de;have Mw:∀op∈MemOp.ofEvents i a.frame.fn a.frame.place es,op.g=i:=Go.ConcR.g_of_ofEvents;have hkR:bj R w w':=gy 0 R aj I.size (by rw[I.perm];rfl);refine⟨_,_,_,hY,?_,_,w',sl,σ,n,R,g,Wg,sh,lo,upd D i ws,upd S i s,upd F i m,ps,b',rfl,⟨?_,fun h=>?_,I.jm.keeps hkR,by rw[upd_ne _ _ aj];exact I.perm,?_,⟨?_,fun j OX hj=>?_,fun j hj=>?_,fun j KN hj=>?_,fun j T r hj ku=>?_,?_,fun j hj=>?_,?_,?_⟩,?_⟩,rfl⟩
 ·rw[iW];unfold meas;refine Prod.Lex.right _ ?_;have h1:=sumTo_upd F m id hi;simp only[id]at h1;have h2:(if b' then 0 else 1)<=(if b then 0 else 1)+1:=by split<;>split<;>omega
  have h3:(sumTo gs.size fun x=>upd F i m x)=sumTo gs.size (upd F i m):=rfl;have h4:(sumTo gs.size fun x=>F x)=sumTo gs.size F:=rfl;rw[h3,h4]at h1;omega
 ·rw[Array.getElem?_setIfInBounds_ne adn,Array.getElem?_map,I.main,cN,nD]
 ·rcases my with rfl|rfl
  ·exact I.blk h
  ·cases h
 ·rw[Deaf_other t aj _ Mw];exact I.deaf
 ·rw[iW];exact I.eh.lom
 ·rw[iW]at hj
  by_cases e:j=i
  ·subst e;refine⟨a',by rw[Array.getElem?_setIfInBounds_self_of_lt (by simpa using hi)],?_⟩;rw[upd_same,upd_same,upd_same,Deaf_own];exact YP
  ·obtain⟨x,hx,sD⟩:=I.eh.wk j OX hj;refine⟨x,by rw[Array.getElem?_setIfInBounds_ne (Ne.symm e),Array.getElem?_map,hx,cN,sD.woken],?_⟩;rw[upd_ne _ _ e,upd_ne _ _ e,upd_ne _ _ e,Deaf_other t (Ne.symm e) _ Mw];exact sD.keeps fun T hT=>gy j T e hj hT
 ·by_cases e:j=i
  ·subst e;rw[upd_same];exact hold.2 (I.eh.old j hj)
  ·rw[upd_ne _ _ e];exact I.eh.old j hj
 ·rw[iW]at hj
  by_cases e:j=i
  ·subst e;rw[upd_same];exact fun h=>I.eh.act j KN hj (hold.1 h)
  ·rw[upd_ne _ _ e];exact I.eh.act j KN hj
 ·rw[iW]at hj
  by_cases e:j=i
  ·subst e;rw[upd_same]at ku;exact ahz T r ku
  ·rw[upd_ne _ _ e]at ku;have jH:lo<=j:=Nat.le_of_not_lt fun cC=>by
    have h0:=I.eh.old j cC;rcases Nat.eq_zero_or_pos j with rfl|hp
    ·rw[I.perm]at ku;cases ku
    ·obtain⟨x,_,sD⟩:=I.eh.wk j hp hj;rw[h0,ku]at sD;cases sD
   exact I.eh.Gy j jH hj T w w' (I.eh.post j T r hj ku) (gy j T e hj (by rw[ku];rfl))
 ·rw[iW];exact I.eh.Gy
 ·rw[iW]at hj;rw[Deaf_other t (show i≠j by omega) _ Mw];exact I.eh.above j hj
 ·rw[iW];exact U2
 ·rw[iW];exact UK
 ·rw[iW];exact AS b' my hb3
end
end Go.AM
namespace Go.AM
open Go Go.Conc
open Go.ConcN (RelBy upd upd_same upd_ne sumTo)
open Go.ConcR (stA smA KK rd wr mk)
theorem kD {α:Type}(f:Nat->α)(i:Nat):upd f i (f i)=f:=by
 funext a
 by_cases h:a=i
 ·subst h;rw[upd_same]
 ·rw[upd_ne _ _ h]
def KZ (Wg:Nat)(e:Event):Prop:=e.loc= .mark .disable\/e.loc= .mark .enable\/∃o Gi,o<=1/\e=⟨.cell ⟨Wg,o,none⟩,Gi,true⟩
theorem ve {Wg:Nat}{e:Event}(h:KZ Wg e):(MemAct.ofEvent e).touch?=none\/∃o Gi,o<=1/\e=⟨.cell ⟨Wg,o,none⟩,Gi,true⟩/\(MemAct.ofEvent e).touch?=some ⟨.cell ⟨Wg,o,none⟩,Gi,.atomic⟩:=by
 obtain⟨loc,Gi,sy⟩:=e;rcases h with h|h|⟨o,wr',h1,h2⟩
 ·simp only at h;subst h;exact .inl rfl
 ·simp only at h;subst h;exact .inl rfl
 ·cases h2;exact .inr ⟨o,_,h1,rfl,rfl⟩
theorem zG {Wg:Nat}{e:Event}(h:KZ Wg e)(a:Addr):MemAct.ofEvent e≠ .mark (.release a):=by
 intro hx;have hl:=Go.ConcR.loc_of_ofEvent hx;rcases h with h|h|⟨o,wr',h1,h2⟩
 ·rw[h]at hl;cases hl
 ·rw[h]at hl;cases hl
 ·rw[h2]at hl;cases hl
theorem yq (Wg:Nat)(Gi:Bool):KZ Wg ⟨.cell (stA Wg),Gi,true⟩:= .inr (.inr ⟨0,Gi,aj,rfl⟩)
theorem Ps (Wg:Nat)(Gi:Bool):KZ Wg ⟨.cell (smA Wg),Gi,true⟩:= .inr (.inr ⟨1,Gi,aj,rfl⟩)
theorem Q3 (Wg:Nat):deafBehind 1 (semEvents (smA Wg))=1:=rfl
section
variable {P:aD}{Fin:ae->au->Prop}{gs:Array ak}{w w':au}{t:Trace}{σ:nF}{n:Nat}{R:Perm}{g:ak}{Wg:Nat}{sh:Nat->Prop}{lo:Nat}{D:Nat->WS}{S F:Nat->Nat}{ps:Nat->dQ}{b:Bool}{sl:Option (Nat×Nat)}
theorem IV.sx(I:IV P Fin gs w t σ n R g Wg sh lo D S F ps b){i:Nat}(hi:i<gs.size)(hS:S i≠0):
  lo<=i/\∃gr,σ= .fI gr/\gr.Wg=Wg/\sh Wg/\gr.vD=((List.range (gs.size-lo)).map fun i=>ps (lo+i)).reverse/\∃st sm,rX Wg w st sm/\Mode lo gs.size S gr.sub b st sm:=by
 have jH:lo<=i:=Nat.le_of_not_lt fun h=>hS (I.eh.old i h)
 refine⟨jH,?_⟩;have hg:=I.fI;cases σ with
 |Br=>exact hg.elim
 |idle=>obtain⟨h,_⟩:=hg;omega
 |fI gr=>exact⟨gr,rfl,hg⟩
theorem IV.uG(I:IV P Fin gs w t σ n R g Wg sh lo D S F ps b){i:Nat}(xX:0<i)(hi:i<gs.size){a a':ak}{es:Array Event}(ha:gs[i]?=some a)(eD:stepG P false a w= .go a' w' es)
  {T:Perm}{r s m:Nat}(hD:D i= .rel T r)(gy:∀j U,j<gs.size->(D j).dY=some U->bj U w w')(iW:w'.heap.size=w.heap.size)(fG:sh Wg)
  (dS:∀j e,es[j]?=some e->KZ Wg e/\((MemAct.ofEvent e).touch?=none\/0<deafBehind (Deaf t i) (es.extract 0 j)))
  (YP:WSit P Wg (ps i) (.rel T r) s m (deafBehind (Deaf t i) es) a' w')(hs:s≠0)(hS:S i≠0)(FF:m<F i)
  (AS:∀b',(b'=b\/b'=false)->(mayWake P a=true->b'=false)->AA σ Wg sh lo gs.size (upd S i s) ps b' w'):
  ∃m₁ ops pk,runT P (crowd gs w sl) i=(.next m₁,ops)/\Lt2 pk (meas n b gs.size F)/\Inv P Fin pk m₁ (t++ops):=by
 have um:∀e∈es,KZ Wg e:=fun e he=>by
  obtain⟨j,hj,rfl⟩:=Array.mem_iff_getElem.1 he;exact(dS j _ (Array.getElem?_eq_getElem hj)).1
 have Jv:upd D i (.rel T r)=D:=by rw[<-hD];exact kD D i
 have hW:Wg<w.heap.size:=I.eh.lay.sh Wg fG;refine I.worker xX hi ha eD (fun j U _ hj hU=>gy j U hj hU) YP (fun T' r' h=>?_) ⟨fun h=>absurd h hs,fun h=>absurd h hS⟩ ?_ ?_ FF AS
 ·cases h;have jH:=(I.sx hi hS).1;exact I.eh.Gy i jH hi T w w' (I.eh.post i T r hi hD) (gy i T hi (by rw[hD];rfl))
 ·rw[Jv];exact I.eh.lay.abo aj gy
 ·rw[Jv,iW];refine I.eh.ti.app I.eh.lay hi (ai _) (fun _ _=>rfl) (.inl rfl) Go.ConcR.g_of_ofEvents (fun op dq bb hb=>?_) (fun op dq ad=>?_) (fun op dq bb hb=>?_) (fun T' r' hD'=>?_)
  ·obtain⟨e,he,rfl⟩:=Go.Conc.mem_ofEvents dq;rcases ve (um e he)with h|⟨o,Gi,ho,_,h⟩
   ·simp only at hb;rw[h]at hb;cases hb
   ·simp only at hb;rw[h]at hb;cases hb;exact hW
  ·obtain⟨e,he,rfl⟩:=Go.Conc.mem_ofEvents dq;exact zG (um e he) ad
  ·obtain⟨e,he,rfl⟩:=Go.Conc.mem_ofEvents dq;refine .inr ⟨by rw[hD];simp,?_⟩;rcases ve (um e he)with h|⟨o,Gi,ho,_,h⟩
   ·simp only at hb;rw[h]at hb;cases hb
   ·simp only at hb;rw[h]at hb;cases hb;exact⟨⟨fG,rfl,ho⟩,de,de⟩
  ·refine(I.eh.ti.IL i T' r' hi hD').appOwn _ _ _ fun j e he=>?_
   obtain⟨h1,h2⟩:=dS j e he;rcases ve h1 with h|⟨o,Gi,ho,JK,h⟩
   ·exact .inl h
   ·rcases h2 with h2|h2
    ·rw[h]at h2;cases h2
    ·exact .inr ⟨⟨_,_,JK⟩,h2⟩
theorem yd:∀(d:Nat) (j:Nat) (e:Event),(#[]:Array Event)[j]?=some e->KZ Wg e/\((MemAct.ofEvent e).touch?=none\/0<deafBehind d ((#[]:Array Event).extract 0 j)):=by
 intro d j e h;simp at h
theorem Zn {d:Nat}{es:Array Event}(h1:∀e∈es,KZ Wg e)(hd:0<d)(h:∀e∈es,e.loc≠ .mark .enable):∀(j:Nat) (e:Event),es[j]?=some e->KZ Wg e/\((MemAct.ofEvent e).touch?=none\/0<deafBehind d (es.extract 0 j)):=by
 intro j e he;refine⟨h1 e (Array.mem_of_getElem? he),.inr ?_⟩;have key:∀(l:List Event) (d:Nat),0<d->(∀e∈l,e.loc≠ .mark .enable)->0<l.foldl (fun d e=>match e.loc with | .mark .disable=>d+1| .mark .enable=>d-1|_=>d) d:=by
  intro l
  induction l with
  |nil=>intro d hd _;exact hd
  |cons e l ih=>
   intro d hd hl;rw[List.foldl_cons];refine ih _ ?_ fun x hx=>hl x (by simp[hx])
   have :=hl e de
   split
   ·omega
   ·rename_i hh;exact absurd hh this
   ·exact hd
 have ahS:deafBehind d (es.extract 0 j)=(es.toList.take j).foldl (fun d e=>match e.loc with | .mark .disable=>d+1| .mark .enable=>d-1|_=>d) d:=by
  unfold deafBehind;rw[<-Array.foldl_toList,Array.toList_extract];rfl
 rw[ahS];exact key _ d hd fun x hx=>h x (by simpa using List.mem_of_mem_take hx)
end
end Go.AM
namespace Go.AM
open Go Go.Conc
open Go.ConcN (RelBy upd upd_same upd_ne sumTo)
open Go.ConcR (stA smA KK rd wr mk)
section
variable {P:aD}{Fin:ae->au->Prop}{gs:Array ak}{w w':au}{t:Trace}{σ:nF}{n:Nat}{R:Perm}{g:ak}{Wg:Nat}{sh:Nat->Prop}{lo:Nat}{D:Nat->WS}{S F:Nat->Nat}{ps:Nat->dQ}{b:Bool}{sl:Option (Nat×Nat)}
theorem Yk {e:Event}(h:e.mute=true):KZ Wg e:=by
 obtain⟨loc,Gi,sy⟩:=e;cases loc with
 |mark m=>cases m<;>simp_all [Event.mute,KZ]
 |_=>simp[Event.mute]at h
theorem IV.Xb(I:IV P Fin gs w t σ n R g Wg sh lo D S F ps b){i:Nat}(xX:0<i)(hi:i<gs.size){a a':ak}{es:Array Event}(ha:gs[i]?=some a){T T':Perm}{m:Nat}(hD:D i= .work T)(hS:S i=7)(nW:Deaf t i=T.deaf)
  (eD:Stepped P false T a w T' a' w' es)(hj:JW P Wg (ps i) m T' a' w')(FF:m<F i):
  ∃m₁ ops pk,runT P (crowd gs w sl) i=(.next m₁,ops)/\Lt2 pk (meas n b gs.size F)/\Inv P Fin pk m₁ (t++ops):=by
 have hp:(D i).dY=some T:=by rw[hD];rfl
 have hlT:=I.eh.lay.low i T hi hp;have gy:∀j U,j≠i->j<gs.size->(D j).dY=some U->bj U w w':=fun j U hj CI hU=>Fx eD.Pn (I.eh.lay.H9 i j T U (Ne.symm hj) hi CI hp hU) (I.eh.lay.low j U CI hU)
 obtain⟨jH,gr,rfl,Hf,fG,jg,st,sm,jM,fA⟩:=I.sx hi aj;have hex:upd S i 7=S:=by rw[<-hS];exact kD S i
 refine I.worker (ws:= .work T') (s:=7) (m:=m) xX hi ha eD.step gy (by rw[nW,<-eD.deaf];exact .work hj) (fun _ _ h=>by cases h) ⟨fun h=>by omega,fun h=>by omega⟩ ?_ ?_ FF ?_
 ·exact I.eh.lay.own hi hD eD.within (eD.low hlT) eD.Pn.size gy
 ·refine I.eh.ti.app I.eh.lay hi eD.Pn.size (fun j hj=>upd_ne _ _ hj) (.inr ⟨T,T',hD,upd_same ..,eD.within⟩) Go.ConcR.g_of_ofEvents (fun op dq bb hb=>?_) (fun op dq ad=>?_) (fun op dq bb hb=>?_) (fun HT r h=>by rw[hD]at h;cases h)
  ·obtain⟨e,he,rfl⟩:=Go.Conc.mem_ofEvents dq;exact Loc.low_mono eD.Pn.size (He hlT (rJ hlT.wr (eD.ev e he) hb).1)
  ·obtain⟨e,he,rfl⟩:=Go.Conc.mem_ofEvents dq;exact C3 (eD.ev e he) ad
  ·obtain⟨e,he,rfl⟩:=Go.Conc.mem_ofEvents dq;exact .inl ⟨T,hD,rJ hlT.wr (eD.ev e he) hb⟩
 ·intro b' iB _;refine⟨Hf,fG,jg,st,sm,jM.Pn eD.Pn (I.eh.lay.sh Wg fG) fun o ho hw=>I.eh.lay.Ee i T hi hp Wg o (hlT.wr _ _ hw) fG ho,?_⟩;rw[hex];exact fA.Bt b' iB
theorem IV.Xa(I:IV P Fin gs w t σ n R g Wg sh lo D S F ps b){i:Nat}(xX:0<i)(hi:i<gs.size){a a':ak}(ha:gs[i]?=some a){T:Perm}{m:Nat}(hD:D i= .work T)(hS:S i=7)(nW:Deaf t i=T.deaf)(h0:T.deaf=0)
  (er:(ps i).ok T w)(eD:stepG P false a w= .go a' w #[Go.ConcR.mk (.releaseMerge (stA Wg))])(hj:JD P Wg m .k1 a')(FF:m<F i):
  ∃m₁ ops pk,runT P (crowd gs w sl) i=(.next m₁,ops)/\Lt2 pk (meas n b gs.size F)/\Inv P Fin pk m₁ (t++ops):=by
 have hp:(D i).dY=some T:=by rw[hD];rfl
 obtain⟨jH,gr,rfl,Hf,fG,jg,st,sm,jM,fA⟩:=I.sx hi aj;have hd0:Deaf t i=0:=nW.trans h0;have iW:(t++MemOp.ofEvents i a.frame.fn a.frame.place #[Go.ConcR.mk (.releaseMerge (stA Wg))]).size=t.size+1:=by rw[ofEvents_eq];simp
 refine I.worker (ws:= .rel T t.size) (s:=6) (m:=m) xX hi ha eD (fun j U _ _ _=>bj.refl _ _) ?_ (fun HT r h=>by cases h;exact er) ⟨fun h=>by omega,fun h=>by omega⟩ ?_ ?_ FF ?_
 ·rw[hd0];exact .k1 hj
 ·refine I.eh.lay.same fun j hj=> .inl ?_
  by_cases e:j=i
  ·subst e;rw[upd_same,hD];rfl
  ·rw[upd_ne _ _ e]
 ·refine TI.Te (R:=T) (k:=i) (I.eh.ti.app I.eh.lay hi (ai _) (fun _ _=>rfl) (.inl rfl) Go.ConcR.g_of_ofEvents (fun op dq bb hb=>?_) (fun op dq ad=>?_) (fun op dq bb hb=>?_) (fun HT r h=>by rw[hD]at h;cases h)) hi xX hD (RelBy.new hd0 _ _) aj
  all_goals
   obtain⟨e,he,rfl⟩:=Go.Conc.mem_ofEvents dq;simp only[List.mem_toArray,aI,List.not_mem_nil,or_false]at he;subst he
  ·exact absurd hb (by simp[Go.ConcR.mk,MemAct.ofEvent,MemAct.touch?])
  ·simp[Go.ConcR.mk,MemAct.ofEvent]
  ·exact absurd hb (by simp[Go.ConcR.mk,MemAct.ofEvent,MemAct.touch?])
 ·intro b' iB _;exact⟨Hf,fG,jg,st,sm,jM,(fA.aib jH hi aj (.inr (.inl rfl))).Bt b' iB⟩
theorem IV.It(I:IV P Fin gs w t σ n R g Wg sh lo D S F ps b){i:Nat}(xX:0<i)(hi:i<gs.size){a:ak}(ha:gs[i]?=some a)(hY:a.status= .running){k d:Nat}(hq:QuitsD P k d a)(hk:k<=F i)(nW:Deaf t i=d)
  (hs:(∃T r,D i= .rel T r/\S i=1)\/(D i= .old/\S i=0)):
  ∃m₁ ops pk,runT P (crowd gs w sl) i=(.next m₁,ops)/\Lt2 pk (meas n b gs.size F)/\Inv P Fin pk m₁ (t++ops):=by
 cases k with
 |zero=>rw[hq.1]at hY;cases hY
 |succ k=>
  rcases hq with⟨hf,_⟩|⟨_,a',es,hm,eD,xS⟩
  ·rw[hf]at hY;cases hY
  have hex:∀x,S i=x->upd S i x=S:=fun x h=>by rw[<-h];exact kD S i
  have Y5:∀x,D i=x->upd D i x=D:=fun x h=>by rw[<-h];exact kD D i
  have AS:∀x,S i=x->∀b',(b'=b\/b'=false)->(mayWake P a=true->b'=false)->AA σ Wg sh lo gs.size (upd S i x) ps b' w:=by
   intro x hx b' iB _;rw[hex x hx];have hg:=I.fI;cases σ with
   |Br=>exact hg.elim
   |idle=>
    refine⟨hg.1,?_⟩;rcases iB with rfl|rfl
    ·exact hg.2
    ·rfl
   |fI gr=>
    obtain⟨h1,h2,h3,st,sm,h4,h5⟩:=hg;exact⟨h1,h2,h3,st,sm,h4,h5.Bt b' iB⟩
  have Mq:∀e∈es,(MemAct.ofEvent e).touch?=none:=fun e he=>touch_mute (hm e he)
  have UK:TI Wg sh D gs.size w.heap.size (t++MemOp.ofEvents i a.frame.fn a.frame.place es):=by
   refine I.eh.ti.app I.eh.lay hi (ai _) (fun _ _=>rfl) (.inl rfl) Go.ConcR.g_of_ofEvents (fun op dq bb hb=>?_) (fun op dq ad=>?_) (fun op dq bb hb=>?_) (fun HT r h=>?_)
   ·obtain⟨e,he,rfl⟩:=Go.Conc.mem_ofEvents dq;rw[Mq e he]at hb;cases hb
   ·obtain⟨e,he,rfl⟩:=Go.Conc.mem_ofEvents dq;exact zG (Wg:=Wg) (Yk (hm e he)) ad
   ·obtain⟨e,he,rfl⟩:=Go.Conc.mem_ofEvents dq;rw[Mq e he]at hb;cases hb
   ·exact(I.eh.ti.IL i HT r hi h).appOwn _ _ _ fun j e he=> .inl (Mq e (Array.mem_of_getElem? he))
  rcases hs with⟨T,r,hD,hS⟩|⟨hD,hS⟩
  ·refine I.worker (ws:= .rel T r) (s:=1) (m:=k) xX hi ha (eD w) (fun j U _ _ _=>bj.refl _ _) (by rw[nW];exact .gone xS) (fun HT r' h=>by cases h;exact I.eh.post i T r hi hD) ⟨fun h=>by omega,fun h=>by omega⟩ ?_ ?_ aj (AS 1 hS)
   ·rw[Y5 _ hD];exact I.eh.lay
   ·rw[Y5 _ hD];exact UK
  ·refine I.worker (ws:= .old) (s:=0) (m:=k) xX hi ha (eD w) (fun j U _ _ _=>bj.refl _ _) (by rw[nW];exact .old xS) (fun HT r' h=>by cases h) ⟨fun h=>hS,fun h=>rfl⟩ ?_ ?_ aj (AS 0 hS)
   ·rw[Y5 _ hD];exact I.eh.lay
   ·rw[Y5 _ hD];exact UK
end
end Go.AM
namespace Go.AM
open Go Go.Conc
open Go.ConcN (RelBy upd upd_same upd_ne sumTo)
open Go.ConcR (stA smA KK rd wr)
section
variable {P:aD}{Fin:ae->au->Prop}{gs:Array ak}{w w':au}{t:Trace}{σ:nF}{n:Nat}{R:Perm}{g:ak}{Wg:Nat}{sh:Nat->Prop}{lo:Nat}{D:Nat->WS}{S F:Nat->Nat}{ps:Nat->dQ}{b:Bool}{sl:Option (Nat×Nat)}
theorem adM {d:Nat}:∀(j:Nat) (e:Event),(#[Go.ConcR.mk .disable]:Array Event)[j]?=some e->KZ Wg e/\((MemAct.ofEvent e).touch?=none\/0<deafBehind d ((#[Go.ConcR.mk .disable]:Array Event).extract 0 j)):=by
 intro j e h;have he:e∈(#[Go.ConcR.mk .disable]:Array Event):=Array.mem_of_getElem? h;simp only[List.mem_toArray,aI,List.not_mem_nil,or_false]at he;subst he;exact⟨.inl rfl,.inl rfl⟩
theorem adL:∀(j:Nat) (e:Event),(semEvents (smA Wg))[j]?=some e->KZ Wg e/\((MemAct.ofEvent e).touch?=none\/0<deafBehind 1 ((semEvents (smA Wg)).extract 0 j)):=by
 intro j e h;have hj:j<4:=by
  have :=(Array.getElem?_eq_some_iff.1 h).1;simpa[semEvents]using this
 match j,hj with
 |0,_=>simp[semEvents]at h;subst h;exact⟨.inl rfl,.inl rfl⟩
 |1,_=>simp[semEvents]at h;subst h;exact⟨Ps Wg false,.inr (by simp[semEvents,deafBehind])⟩
 |2,_=>simp[semEvents]at h;subst h;exact⟨Ps Wg true,.inr (by simp[semEvents,deafBehind])⟩
 |3,_=>simp[semEvents]at h;subst h;exact⟨.inr (.inl rfl),.inl rfl⟩
theorem Bf {es:Array Event}(h:∀e∈es,e=rd (stA Wg)\/e=wr (stA Wg)):∀(j:Nat) (e:Event),es[j]?=some e->KZ Wg e/\((MemAct.ofEvent e).touch?=none\/0<deafBehind 1 (es.extract 0 j)):=
 Zn (fun e he=>(h e he).elim (fun x=>x▸yq Wg false) fun x=>x▸yq Wg true) aj fun e he=>(h e he).elim (fun x=>by rw[x];simp[rd]) fun x=>by rw[x];simp[wr]
theorem j5 {es:Array Event}(h:∀e∈es,e=rd (stA Wg)\/e=wr (stA Wg))(d:Nat):deafBehind d es=d:=by
 have :=oz d es.toList fun e he=>(h e (by simpa using he)).elim (fun x=>by rw[x];simp[rd]) fun x=>by rw[x];simp[wr]
 simpa using this
set_option maxHeartbeats 1000000 in
theorem IV.stepW(I:IV P Fin gs w t σ n R g Wg sh lo D S F ps b){i:Nat}(xX:0<i)(hi:i<gs.size){a:ak}(ha:gs[i]?=some a)(hY:a.status= .running):
  ∃m₁ ops pk,runT P (crowd gs w sl) i=(.next m₁,ops)/\Lt2 pk (meas n b gs.size F)/\Inv P Fin pk m₁ (t++ops):=by
 obtain⟨amz,Vg,hs⟩:=I.eh.wk i xX hi;obtain rfl:a=amz:=by rw[ha]at Vg;exact Option.some.inj Vg
 clear Vg;generalize hD:D i=ws at hs;generalize hS:S i=s at hs;generalize hF:F i=f at hs;generalize nW:Deaf t i=d at hs;cases hs with
 |work hj=>
  obtain⟨m,hm,_,hw⟩:=hj.out;obtain⟨_,gr,_,_,fG,_,st,sm,jM,_⟩:=I.sx hi aj;cases hw ⟨st,sm,jM⟩with
  |own h1 h2=>exact I.Xb xX hi ha hD hS nW h1 h2 aj
  |rel h1 h2 h3 h4=>exact I.Xa xX hi ha hD hS nW h1 h2 h3 h4 aj
 |gone hq=>exact I.It xX hi ha hY hq aj nW (.inl ⟨_,_,hD,hS⟩)
 |old hq=>exact I.It xX hi ha hY hq aj nW (.inr ⟨hD,hS⟩)
 |k1 hj=>
  obtain⟨jH,gr,rfl,Hf,fG,jg,st,sm,jM,fA⟩:=I.sx hi aj;cases f with
  |zero=>exact hj.elim
  |succ m=>
   have hex:upd S i 6=S:=by rw[<-hS];exact kD S i
   cases hj.2 w ⟨st,sm,jM⟩with
   |quiet h1 h2=>
    exact I.uG (s:=6) (m:=m) xX hi ha h1 hD (fun _ _ _ _=>bj.refl _ _) rfl fG (yd _) (by rw[nW];exact .k1 h2) aj aj aj
     fun b' iB _=>⟨Hf,fG,jg,st,sm,jM,by rw[hex];exact fA.Bt b' iB⟩
   |k1 h1 h2=>
    exact I.uG (s:=5) (m:=m) xX hi ha h1 hD (fun _ _ _ _=>bj.refl _ _) rfl fG adM (by rw[nW];exact .d1 h2) aj aj aj
     fun b' iB _=>⟨Hf,fG,jg,st,sm,jM,(fA.aib jH hi aj (.inr (.inr rfl))).Bt b' iB⟩
 |d1 hj=>
  obtain⟨jH,gr,rfl,Hf,fG,jg,st,sm,jM,fA⟩:=I.sx hi aj;cases f with
  |zero=>exact hj.elim
  |succ m=>
   have hex:upd S i 5=S:=by rw[<-hS];exact kD S i
   cases hj.2 w ⟨st,sm,jM⟩with
   |quiet h1 h2=>
    exact I.uG (s:=5) (m:=m) xX hi ha h1 hD (fun _ _ _ _=>bj.refl _ _) rfl fG (yd _) (by rw[nW];exact .d1 h2) aj aj aj
     fun b' iB _=>⟨Hf,fG,jg,st,sm,jM,by rw[hex];exact fA.Bt b' iB⟩
   |d1 h1=>
    obtain⟨v,wt,Ai,hv,rfl,rfl,OU,adk⟩:=fA.minus jH hi hS;obtain⟨a',h2,h3,h4⟩:=h1 v wt Ai hv jM;have hk:∀j U,j<gs.size->(D j).dY=some U->bj U w (setSt Wg ((v:Int)*KK+wt) w):=fun j U hj hU=>qB (I.eh.lay.low j U hj hU) (fun o ho hr=>I.eh.lay.Ee j U hj hU Wg o hr fG ho) jM
    have Wy:∀e∈(#[rd (stA Wg),wr (stA Wg)]:Array Event),e=rd (stA Wg)\/e=wr (stA Wg):=by intro e he;simpa using he
    by_cases hc:v=0/\wt=1
    ·exact I.uG (s:=4) (m:=m) xX hi ha h2 hD hk (size_setCell ..) fG (by rw[nW];exact Bf Wy) (by rw[nW,j5 Wy];exact .d2 (h3 hc)) aj aj aj
      fun b' iB _=>⟨Hf,fG,jg,_,_,jM.setSt _,(OU hc).Bt b' iB⟩
    ·exact I.uG (s:=1) (m:=m) xX hi ha h2 hD hk (size_setCell ..) fG (by rw[nW];exact Bf Wy) (by rw[nW,j5 Wy];exact .gone (h4 hc)) aj aj aj
      fun b' iB _=>⟨Hf,fG,jg,_,_,jM.setSt _,(adk hc).Bt b' iB⟩
 |d2 hj=>
  obtain⟨jH,gr,rfl,Hf,fG,jg,st,sm,jM,fA⟩:=I.sx hi aj;obtain⟨Jx,Jy,rfl,rfl⟩:=fA.isLast jH hi aj;cases f with
  |zero=>exact hj.elim
  |succ m=>
   have hex:upd S i 4=S:=by rw[<-hS];exact kD S i
   cases hj.2 w ⟨_,_,jM⟩with
   |quiet h1 h2=>
    exact I.uG (s:=4) (m:=m) xX hi ha h1 hD (fun _ _ _ _=>bj.refl _ _) rfl fG (yd _) (by rw[nW];exact .d2 h2) aj aj aj
     fun b' iB _=>⟨Hf,fG,jg,_,_,jM,by rw[hex];exact fA.Bt b' iB⟩
   |d2 h1=>
    rw[hS]at jM;obtain⟨a',h2,h3⟩:=h1 jM;have Wy:∀e∈(#[rd (stA Wg)]:Array Event),e=rd (stA Wg)\/e=wr (stA Wg):=by intro e he;simp at he;exact .inl he
    refine I.uG (s:=3) (m:=m) xX hi ha h2 hD (fun _ _ _ _=>bj.refl _ _) rfl fG (by rw[nW];exact Bf Wy) (by rw[nW,j5 Wy];exact .d3 h3) aj aj aj
     fun b' iB _=>⟨Hf,fG,jg,_,_,jM,?_⟩
    have :Mode lo gs.size (upd S i 3) .reg b' (if upd S i 3 i=2 then 0 else 1) 0:= .last i jH hi (by rw[upd_same];simp) fun a h1 h2 h3=>by rw[upd_ne _ _ h3];exact Jy a h1 h2 h3
    rw[upd_same]at this;rw[Jx];exact this
 |d3 hj=>
  obtain⟨jH,gr,rfl,Hf,fG,jg,st,sm,jM,fA⟩:=I.sx hi aj;obtain⟨Jx,Jy,rfl,rfl⟩:=fA.isLast jH hi aj;cases f with
  |zero=>exact hj.elim
  |succ m=>
   have hex:upd S i 3=S:=by rw[<-hS];exact kD S i
   cases hj.2 w ⟨_,_,jM⟩with
   |quiet h1 h2=>
    exact I.uG (s:=3) (m:=m) xX hi ha h1 hD (fun _ _ _ _=>bj.refl _ _) rfl fG (yd _) (by rw[nW];exact .d3 h2) aj aj aj
     fun b' iB _=>⟨Hf,fG,jg,_,_,jM,by rw[hex];exact fA.Bt b' iB⟩
   |d3 h1=>
    rw[hS]at jM;obtain⟨a',h2,h3⟩:=h1 jM;have hk:∀j U,j<gs.size->(D j).dY=some U->bj U w (setSt Wg 0 w):=fun j U hj hU=>qB (I.eh.lay.low j U hj hU) (fun o ho hr=>I.eh.lay.Ee j U hj hU Wg o hr fG ho) jM
    have Wy:∀e∈(#[wr (stA Wg)]:Array Event),e=rd (stA Wg)\/e=wr (stA Wg):=by intro e he;simp at he;exact .inr he
    refine I.uG (s:=2) (m:=m) xX hi ha h2 hD hk (size_setCell ..) fG (by rw[nW];exact Bf Wy) (by rw[nW,j5 Wy];exact .d4 h3) aj aj aj
     fun b' iB _=>⟨Hf,fG,jg,_,_,jM.setSt _,?_⟩
    have :Mode lo gs.size (upd S i 2) .reg b' (if upd S i 2 i=2 then 0 else 1) 0:= .last i jH hi (by rw[upd_same];simp) fun a h1 h2 h3=>by rw[upd_ne _ _ h3];exact Jy a h1 h2 h3
    rw[upd_same]at this;rw[Jx];exact this
 |d4 hj=>
  obtain⟨jH,gr,rfl,Hf,fG,jg,st,sm,jM,fA⟩:=I.sx hi aj;obtain⟨Jx,Jy,rfl,rfl⟩:=fA.isLast jH hi aj;cases f with
  |zero=>exact hj.elim
  |succ m=>
   have hex:upd S i 2=S:=by rw[<-hS];exact kD S i
   cases hj.2 w ⟨_,_,jM⟩with
   |quiet h1 h2=>
    exact I.uG (s:=2) (m:=m) xX hi ha h1 hD (fun _ _ _ _=>bj.refl _ _) rfl fG (yd _) (by rw[nW];exact .d4 h2) aj aj aj
     fun b' iB _=>⟨Hf,fG,jg,_,_,jM,by rw[hex];exact fA.Bt b' iB⟩
   |d4 OQ h1=>
    rw[hS]at jM;obtain⟨a',h2,h3⟩:=h1 jM;have hk:∀j U,j<gs.size->(D j).dY=some U->bj U w (setSm Wg 1 w):=fun j U hj hU=>Af (I.eh.lay.low j U hj hU) (fun o ho hr=>I.eh.lay.Ee j U hj hU Wg o hr fG ho) jM
    refine I.uG (s:=1) (m:=m) xX hi ha h2 hD hk (size_setCell ..) fG (by rw[nW];exact adL) (by rw[nW,Q3];exact .gone h3) aj aj aj
     fun b' iB zk=>⟨Hf,fG,jg,_,_,jM.setSm _,?_⟩
    rw[zk OQ,Jx];refine .sema fun x h1 h2=>?_
    by_cases e:x=i
    ·subst e;rw[upd_same]
    ·rw[upd_ne _ _ e];exact Jy x h1 h2 e
end
end Go.AM
namespace Go.AM
open Go Go.Conc
open Go.ConcN (RelBy upd upd_same upd_ne sumTo)
open Go.ConcR (stA smA KK rd wr)
section
variable {P:aD}{Fin:ae->au->Prop}{gs:Array ak}{w w':au}{t:Trace}{σ gu:nF}{n m:Nat}{R R':Perm}{g a':ak}{Wg:Nat}{sh:Nat->Prop}{lo:Nat}{D:Nat->WS}{S F:Nat->Nat}{ps:Nat->dQ}{b b':Bool}{sl:Option (Nat×Nat)}{es:Array Event}
theorem IV.ae8(I:IV P Fin gs w t σ n R g Wg sh lo D S F ps false)(eD:stepG P true g w= .go a' w' es):
  runT P (crowd gs w sl) 0=(.next (crowd (gs.setIfInBounds 0 a') w' sl),MemOp.ofEvents 0 g.frame.fn g.frame.place es):=by
 have h:=runT_crowd_go (P:=P) (sl:=sl) (i:=0) I.main (show stepG P (0==0) (nL false g) w= .go a' w' es from eD);have e:(gs.map (woken P (nL false g) a' w')).setIfInBounds 0 a'=gs.setIfInBounds 0 a':=by
  apply Array.ext_getElem?;intro j
  by_cases hj:j=0
  ·subst hj;simp[I.size]
  ·rw[Array.getElem?_setIfInBounds_ne (Ne.symm hj),Array.getElem?_setIfInBounds_ne (Ne.symm hj),Array.getElem?_map];rcases Nat.lt_or_ge j gs.size with cC|w5
   ·obtain⟨x,hx,sD⟩:=I.eh.wk j aj cC;rw[hx,cN,sD.woken]
   ·rw[Array.getElem?_eq_none w5];rfl
 rw[e]at h;exact h
theorem IV.alO(I:IV P Fin gs w t σ n R g Wg sh lo D S F ps b)(a':ak){u:Trace}(hu:∀op∈u,op.g=0)(gy:∀j U,0<j->j<gs.size->(D j).dY=some U->bj U w w')
  (U2:Lay sh (upd D 0 (.work R')) gs.size w')(UK:TI Wg sh (upd D 0 (.work R')) gs.size w'.heap.size (t++u)):Com P Wg sh lo (upd D 0 (.work R')) S F ps (gs.setIfInBounds 0 a') w' (t++u):=by
 have iW:(gs.setIfInBounds 0 a').size=gs.size:=de;refine⟨by rw[iW];exact I.eh.lom,fun j OX hj=>?_,I.eh.old,fun j h1 h2=>I.eh.act j h1 (by rw[iW]at h2;exact h2),fun j T r hj ku=>?_,by rw[iW];exact I.eh.Gy,fun j hj=>?_,by rw[iW];exact U2,by rw[iW];exact UK⟩
 ·rw[iW]at hj;obtain⟨x,hx,sD⟩:=I.eh.wk j OX hj;refine⟨x,by rw[Array.getElem?_setIfInBounds_ne aj];exact hx,?_⟩;rw[upd_ne _ _ aj,Deaf_other t aj _ hu];exact sD.keeps fun T hT=>gy j T OX hj hT
 ·rw[iW]at hj;rcases Nat.eq_zero_or_pos j with rfl|hp
  ·rw[upd_same]at ku;cases ku
  ·rw[upd_ne _ _ aj]at ku;have jH:lo<=j:=Nat.le_of_not_lt fun cC=>by
    obtain⟨x,_,sD⟩:=I.eh.wk j hp hj;rw[I.eh.old j cC,ku]at sD;cases sD
   exact I.eh.Gy j jH hj T w w' (I.eh.post j T r hj ku) (gy j T hp hj (by rw[ku];rfl))
 ·rw[iW]at hj;rw[Deaf_other t (show 0≠j by have :=I.size;omega) _ hu];exact I.eh.above j hj
theorem IV.T5(I:IV P Fin gs w t σ n R g Wg sh lo D S F ps false)(eD:stepG P true g w= .go a' w' es){g':ak}(mN:a'=nL b' g')(kz:b'=true->g'.status= .running/\g'.offers=none)
  (hm:m<n\/(m=n/\b'=true))(U3:JM P Fin gu m R' g' w')(nW:deafBehind R.deaf es=R'.deaf)(gy:∀j U,0<j->j<gs.size->(D j).dY=some U->bj U w w')
  (U2:Lay sh (upd D 0 (.work R')) gs.size w')(UK:TI Wg sh (upd D 0 (.work R')) gs.size w'.heap.size (t++MemOp.ofEvents 0 g.frame.fn g.frame.place es))(AS:AA gu Wg sh lo gs.size S ps b' w'):
  ∃m₁ ops pk,runT P (crowd gs w sl) 0=(.next m₁,ops)/\Lt2 pk (meas n false gs.size F)/\Inv P Fin pk m₁ (t++ops):=by
 have iW:(gs.setIfInBounds 0 a').size=gs.size:=de;refine⟨_,_,meas m b' (gs.setIfInBounds 0 a').size F,I.ae8 eD,?_,_,w',sl,gu,m,R',g',Wg,sh,lo,upd D 0 (.work R'),S,F,ps,b',rfl,⟨?_,kz,U3,upd_same ..,?_,I.alO a' Go.ConcR.g_of_ofEvents gy U2 UK,by rw[iW];exact AS⟩,rfl⟩
 ·rw[iW];unfold meas;rcases hm with h|⟨rfl,rfl⟩
  ·exact Prod.Lex.left _ _ h
  ·exact Prod.Lex.right _ de
 ·rw[Array.getElem?_setIfInBounds_self_of_lt I.size,mN]
 ·rw[Deaf_own,I.deaf,nW]
theorem IV.Yn(I:IV P Fin gs w t σ n R g Wg sh lo D S F ps false)(eD:Stepped P true R g w R' a' w' es)(hm:m<n)(U3:JM P Fin σ m R' a' w'):
  ∃m₁ ops pk,runT P (crowd gs w sl) 0=(.next m₁,ops)/\Lt2 pk (meas n false gs.size F)/\Inv P Fin pk m₁ (t++ops):=by
 have hp:(D 0).dY=some R:=by rw[I.perm];rfl
 have CG:=I.Ub;have gy:∀j U,0<j->j<gs.size->(D j).dY=some U->bj U w w':=fun j U hj CI hU=>Fx eD.Pn (I.eh.lay.H9 0 j R U aj I.size CI hp hU) (I.eh.lay.low j U CI hU)
 refine I.T5 (b':=false) (g':=a') (m:=m) eD.step rfl lQ (.inl hm) U3 eD.deaf.symm gy ?_ ?_ ?_
 ·exact I.eh.lay.own I.size I.perm eD.within (eD.low CG) eD.Pn.size fun j U hj CI hU=>gy j U aj CI hU
 ·refine I.eh.ti.app I.eh.lay I.size eD.Pn.size (fun j hj=>upd_ne _ _ hj) (.inr ⟨R,R',I.perm,upd_same ..,eD.within⟩) Go.ConcR.g_of_ofEvents (fun op dq bb hb=>?_) (fun op dq ad=>?_) (fun op dq bb hb=>?_) (fun HT r h=>by rw[I.perm]at h;cases h)
  ·obtain⟨e,he,rfl⟩:=Go.Conc.mem_ofEvents dq;exact Loc.low_mono eD.Pn.size (He CG (rJ CG.wr (eD.ev e he) hb).1)
  ·obtain⟨e,he,rfl⟩:=Go.Conc.mem_ofEvents dq;exact C3 (eD.ev e he) ad
  ·obtain⟨e,he,rfl⟩:=Go.Conc.mem_ofEvents dq;exact .inl ⟨R,I.perm,rJ CG.wr (eD.ev e he) hb⟩
 ·have hg:=I.fI;cases σ with
  |Br=>exact hg.elim
  |idle=>exact hg
  |fI gr=>
   obtain⟨h1,h2,h3,st,sm,h4,h5⟩:=hg;exact⟨h1,h2,h3,st,sm,h4.Pn eD.Pn (I.eh.lay.sh Wg h2) fun o ho hw=>I.eh.lay.Ee 0 R I.size hp Wg o (CG.wr _ _ hw) h2 ho,h5⟩
theorem IV.l8(I:IV P Fin gs w t σ n R g Wg sh lo D S F ps false)(eD:stepG P true g w= .go a' w' es){g':ak}(mN:a'=nL b' g')(kz:b'=true->g'.status= .running/\g'.offers=none)
  (hm:m<n\/(m=n/\b'=true))(U3:JM P Fin gu m R g' w)(nW:deafBehind R.deaf es=R.deaf)(gy:∀j U,j<gs.size->(D j).dY=some U->bj U w w')(iW:w'.heap.size=w.heap.size)(fG:sh Wg)
  (dS:∀e∈es,KZ Wg e\/e=Go.ConcR.mk (.read (smA Wg))\/e=Go.ConcR.mk (.write (smA Wg)))(AS:AA gu Wg sh lo gs.size S ps b' w'):
  ∃m₁ ops pk,runT P (crowd gs w sl) 0=(.next m₁,ops)/\Lt2 pk (meas n false gs.size F)/\Inv P Fin pk m₁ (t++ops):=by
 have Jv:upd D 0 (.work R)=D:=by rw[<-I.perm];exact kD D 0
 have hW:Wg<w.heap.size:=I.eh.lay.sh Wg fG;have YM:∀e∈es,∀bb,(MemAct.ofEvent e).touch?=some bb->shl sh bb.loc/\bb.kind≠ .plain/\bb.loc.low w.heap.size:=by
  intro e he bb hb;rcases dS e he with h|rfl|rfl
  ·rcases ve h with h|⟨o,Gi,ho,_,h⟩
   ·rw[h]at hb;cases hb
   ·rw[h]at hb;cases hb;exact⟨⟨fG,rfl,ho⟩,de,hW⟩
  ·simp only[Go.ConcR.mk,MemAct.ofEvent,MemAct.touch?,ah]at hb;subst hb;exact⟨⟨fG,rfl,by simp[smA]⟩,de,hW⟩
  ·simp only[Go.ConcR.mk,MemAct.ofEvent,MemAct.touch?,ah]at hb;subst hb;exact⟨⟨fG,rfl,by simp[smA]⟩,de,hW⟩
 refine I.T5 (g':=g') eD mN kz hm (U3.keeps (gy 0 R I.size (by rw[I.perm];rfl))) nW (fun j U _ hj hU=>gy j U hj hU) ?_ ?_ AS
 ·rw[Jv];exact I.eh.lay.abo aj gy
 ·rw[Jv,iW];refine I.eh.ti.app I.eh.lay I.size (ai _) (fun _ _=>rfl) (.inl rfl) Go.ConcR.g_of_ofEvents (fun op dq bb hb=>?_) (fun op dq ad=>?_) (fun op dq bb hb=>?_) (fun HT r h=>by rw[I.perm]at h;cases h)
  ·obtain⟨e,he,rfl⟩:=Go.Conc.mem_ofEvents dq;exact(YM e he bb hb).2.2
  ·obtain⟨e,he,rfl⟩:=Go.Conc.mem_ofEvents dq;rcases dS e he with h|rfl|rfl
   ·exact zG h ad
   ·simp[Go.ConcR.mk,MemAct.ofEvent]
   ·simp[Go.ConcR.mk,MemAct.ofEvent]
  ·obtain⟨e,he,rfl⟩:=Go.Conc.mem_ofEvents dq;have h:=YM e he bb hb;exact .inr ⟨by rw[I.perm];simp,h.1,h.2.1,fun _=>rfl⟩
end
end Go.AM
namespace Go.AM
open Go Go.Conc
open Go.ConcN (RelBy upd upd_same upd_ne sumTo sumTo_congr)
open Go.ConcR (stA smA KK rd wr)
theorem lt2_trans {a b c:Nat×Nat}(h:Lt2 a b)(h':Lt2 b c):Lt2 a c:=by
 obtain⟨a1,a2⟩:=a;obtain⟨b1,b2⟩:=b;obtain⟨c1,c2⟩:=c;rcases Prod.lex_def.1 h with h|⟨h1,h2⟩<;>rcases Prod.lex_def.1 h' with k|⟨k1,k2⟩<;>simp only at*
 ·exact Prod.Lex.left _ _ aj
 ·exact Prod.Lex.left _ _ aj
 ·exact Prod.Lex.left _ _ aj
 ·subst h1;subst k1;exact Prod.Lex.right _ aj
theorem Dd {t:Trace}{x y:MemOp}{k:Nat}(hx:x.g=0/\x.act= .go k)(hy:y.g=k/\y.act= .start)(j:Nat):Deaf (t++#[x,y]) j=Deaf t j:=by
 have :=Deaf_append t j [x,y];rw[show([x,y]:List MemOp).toArray=#[x,y]from rfl]at this;rw[this];simp[deafStep,hx.2,hy.2]
theorem WX {size:Nat}{S:Nat->Nat}(h:∀i,i<size->S i=0):Vc size S=0:=by
 unfold Vc;rw[sumTo_congr (g:=fun _=>0) fun i hi=>by rw[h i hi];rfl]
 induction size with
 |zero=>rfl
 |succ k ih=>simp only[sumTo];exact ih fun i hi=>h i aj
theorem NC {S:Nat->Nat}:∀{size:Nat},1<=Vc size S->∃i,i<size/\5<=S i
 |0,h=>by simp[Vc,sumTo]at h
 |k+1,h=>by
  by_cases h5:5<=S k
  ·exact⟨k,aj,h5⟩
  ·have :1<=Vc k S:=by simp only[Vc,sumTo,h5,if_false]at h⊢;omega
   obtain⟨i,h1,h2⟩:=NC this;exact⟨i,aj,h2⟩
section
variable {P:aD}{Fin:ae->au->Prop}{gs:Array ak}{w w':au}{t:Trace}{σ gu:nF}{n m:Nat}{R R' eK Rc:Perm}{g g' a' child:ak}{Wg:Nat}{sh:Nat->Prop}{lo:Nat}{D:Nat->WS}{S F:Nat->Nat}{ps:Nat->dQ}{b b':Bool}{sl:Option (Nat×Nat)}{es:Array Event}
theorem IV.I5(I:IV P Fin gs w t σ n R g Wg sh lo D S F ps b){j:Nat}(h0:0<j)(hj:j<gs.size)(hS:S j=0):D j= .old/\∃x,gs[j]?=some x/\QuitsD P (F j) (Deaf t j) x:=by
 obtain⟨x,hx,sD⟩:=I.eh.wk j h0 hj;rw[hS]at sD;generalize hD:D j=ws at sD;generalize hd:Deaf t j=d at sD;generalize F j=f at sD;cases sD with
 |old hq=>exact⟨rfl,x,hx,hd▸hq⟩
theorem IV.wM(I:IV P Fin gs w t .idle n R g Wg sh lo D S F ps false){Rr:Nat}(hs:jF eK R)(uj:∀b o,eK.wr b o->eK.rd b o)(hd:eK.deaf=R.deaf)(h0:R.wr Rr 0)(h1:R.wr Rr 1)(jM:rX Rr w 0 0)(JA:∀o,o<=1->¬eK.rd Rr o)
  (U3:JM P Fin (.fI ⟨Rr,[],.opn 0⟩) m eK g w):IV P Fin gs w t (.fI ⟨Rr,[],.opn 0⟩) m eK g Rr (fun b=>sh b\/b=Rr) lo (upd D 0 (.work eK)) S F ps false:=by
 obtain⟨jH,_⟩:lo=gs.size/\false=false:=I.fI;have hS:∀j,j<gs.size->S j=0:=fun j hj=>I.eh.old j aj
 have hold:∀j,0<j->j<gs.size->D j= .old:=fun j OX hj=>(I.I5 OX hj (hS j hj)).1
 have hn:∀j,0<j->upd D 0 (.work eK) j=D j:=fun j hj=>upd_ne D _ aj
 have CG:=I.Ub;have WB:w7 eK w:=⟨fun b o x=>CG.rd b o (hs.rd b o x),uj,fun b x=>CG.ob b (hs.ob b x)⟩;refine⟨I.main,fun h=>(by cases h),U3,upd_same ..,I.deaf.trans hd.symm,⟨I.eh.lom,fun j OX hj=>?_,I.eh.old,I.eh.act,fun j T r hj ku=>?_,I.eh.Gy,I.eh.above,?_,I.eh.ti.begin I.perm hold hs h0 h1 I.size⟩,?_⟩
 ·obtain⟨e,x,hx,hq⟩:=I.I5 OX hj (hS j hj);refine⟨x,hx,?_⟩;rw[hn j OX,e,hS j hj];exact .old hq
 ·rcases Nat.eq_zero_or_pos j with rfl|hp
  ·rw[upd_same]at ku;cases ku
  ·rw[hn j hp,hold j hp hj]at ku;cases ku
 ·have key:∀j T,j<gs.size->(upd D 0 (.work eK) j).dY=some T->j=0/\T=eK:=by
   intro j T hj hT;rcases Nat.eq_zero_or_pos j with rfl|hp
   ·rw[upd_same]at hT;exact⟨rfl,(Option.some.inj hT).symm⟩
   ·rw[hn j hp,hold j hp hj]at hT;cases hT
  refine⟨fun j T hj hT=>?_,fun i j T U s7 hi hj hT hU=>?_,fun j T hj hT b o hr hb=>?_,fun b hb=>?_⟩
  ·obtain⟨_,rfl⟩:=key j T hj hT;exact WB
  ·obtain⟨rfl,_⟩:=key i T hi hT;obtain⟨rfl,_⟩:=key j U hj hU;exact absurd rfl s7
  ·obtain⟨rfl,rfl⟩:=key j T hj hT;rcases hb with hb|rfl
   ·exact I.eh.lay.Ee 0 R I.size (by rw[I.perm];rfl) b o (hs.rd b o hr) hb
   ·exact fun ho=>JA o ho hr
  ·rcases hb with hb|rfl
   ·exact I.eh.lay.sh b hb
   ·exact CG.rd b 0 (CG.wr b 0 h0)
 ·refine⟨rfl,.inr rfl,by simp[jH],0,0,jM,?_⟩;have hv:=WX hS;have :Mode lo gs.size S (.opn 0) false ((Vc gs.size S:Nat)*KK) 0:= .opn (fun i h1 h2=>by omega) aj aj;rw[hv]at this;simpa using this
theorem IV.spawns{V kc:Nat}{pl:List dQ}{p:dQ}(I:IV P Fin gs w t (.fI ⟨Wg,pl,.added V⟩) n R g Wg sh lo D S F ps false)(h0:R.deaf=0)(eD:stepG P true g w= .spawn g' child w #[])
  (h1:jF eK R)(hc:jF Rc R)(OK:∀b o,eK.wr b o->eK.rd b o)(hwc:∀b o,Rc.wr b o->Rc.rd b o)(hd1:eK.deaf=0)(hdc:Rc.deaf=0)(EA:mn eK Rc)(ahW:mn Rc eK)(ahq:HU p)(hjw:JW P Wg p kc Rc child w)(hm:m<n)
  (U3:JM P Fin (.fI ⟨Wg,p::pl,.opn (V+1)⟩) m eK g' w):
  ∃m₁ ops pk,runT P (crowd gs w sl) 0=(.next m₁,ops)/\Lt2 pk (meas n false gs.size F)/\Inv P Fin pk m₁ (t++ops):=by
 have hY:=runT_crowd_spawn (P:=P) (sl:=sl) (i:=0) I.main (show stepG P (0==0) (nL false g) w= .spawn g' child w #[]from eD);obtain⟨_,fG,dm,st,sm,jM,fA⟩:=I.fI;have iL:=I.size;have CG:=I.Ub;obtain⟨x,hx⟩:∃x:MemOp,x={g:=0,fn:=(nL false g).frame.fn,pos:=(nL false g).frame.place,act:= .go gs.size}:=⟨_,rfl⟩;obtain⟨y,hy⟩:∃y:MemOp,y={g:=gs.size,fn:=child.frame.fn,pos:=(nL false g).frame.place,act:= .start}:=⟨_,rfl⟩;have Mw:((MemOp.ofEvents 0 (nL false g).frame.fn (nL false g).frame.place #[]).push x).push y=#[x,y]:=by rw[ofEvents_eq];simp
 rw[<-hx,<-hy,Mw]at hY;have hxg:x.g=0/\x.act= .go gs.size:=by rw[hx];exact⟨rfl,rfl⟩
 have hyg:y.g=gs.size/\y.act= .start:=by rw[hy];exact⟨rfl,rfl⟩
 have iW:((gs.setIfInBounds 0 g').push child).size=gs.size+1:=de;have jH:=I.eh.lom;have hn:∀{α:Type} (f:Nat->α) (v:α) j,j<gs.size->upd f gs.size v j=f j:=fun f v j hj=>upd_ne f v aj
 have hD:∀j,0<j->j<gs.size->upd (upd D 0 (.work eK)) gs.size (.work Rc) j=D j:=fun j h1 h2=>by rw[hn _ _ j h2,upd_ne _ _ aj]
 have O3:upd (upd D 0 (.work eK)) gs.size (.work Rc) 0= .work eK:=by rw[hn _ _ 0 iL,upd_same]
 have three:∀j,j<gs.size+1->j=0\/(0<j/\j<gs.size)\/j=gs.size:=fun j hj=>by omega
 refine⟨_,_,meas m false ((gs.setIfInBounds 0 g').push child).size (upd F gs.size kc),hY,Prod.Lex.left _ _ hm,_,w,sl,.fI ⟨Wg,p::pl,.opn (V+1)⟩,m,eK,g',Wg,sh,lo,upd (upd D 0 (.work eK)) gs.size (.work Rc),upd S gs.size 7,upd F gs.size kc,upd ps gs.size p,false,rfl,
  ⟨?_,fun h=>(by cases h),U3,O3,?_,⟨?_,fun j OX pY=>?_,fun j pY=>?_,fun j JS h2=>?_,fun j T r pY ku=>?_,fun j JS h2=>?_,fun j pY=>?_,?_,?_⟩,?_⟩,rfl⟩
 ·rw[Array.getElem?_push_lt (by simp;omega),<-Array.getElem?_eq_getElem];simp[nL,iL]
 ·rw[Dd hxg hyg,I.deaf,h0,hd1]
 ·rw[iW];omega
 ·rw[iW]at pY;rw[Dd hxg hyg];rcases three j pY with rfl|⟨_,g2⟩|rfl
  ·omega
  ·obtain⟨z,hz,hzs⟩:=I.eh.wk j OX g2;refine⟨z,?_,by rw[hD j OX g2,hn _ _ j g2,hn _ _ j g2,hn _ _ j g2];exact hzs⟩;rw[Array.getElem?_push_lt (by simp;omega),<-Array.getElem?_eq_getElem,Array.getElem?_setIfInBounds_ne aj];exact hz
  ·refine⟨child,?_,?_⟩
   ·have e:gs.size=(gs.setIfInBounds 0 g').size:=de
    conv=>lhs;rw[e]
    exact Array.getElem?_push_size
   ·simp only[upd_same];rw[I.eh.above gs.size (ai _),<-hdc];exact .work hjw
 ·rw[hn _ _ j aj];exact I.eh.old j pY
 ·rw[iW]at h2;rcases Nat.lt_or_ge j gs.size with cC|w5
  ·rw[hn _ _ j cC];exact I.eh.act j JS cC
  ·obtain rfl:j=gs.size:=aj;rw[upd_same];omega
 ·rw[iW]at pY;rcases three j pY with rfl|⟨g1,g2⟩|rfl
  ·rw[O3]at ku;cases ku
  ·rw[hD j g1 g2]at ku;rw[hn _ _ j g2];exact I.eh.post j T r g2 ku
  ·rw[upd_same]at ku;cases ku
 ·rw[iW]at h2;rcases Nat.lt_or_ge j gs.size with cC|w5
  ·rw[hn _ _ j cC];exact I.eh.Gy j JS cC
  ·obtain rfl:j=gs.size:=aj;rw[upd_same];exact ahq
 ·rw[iW]at pY;rw[Dd hxg hyg];exact I.eh.above j aj
 ·rw[iW];have key:∀j T,j<gs.size+1->(upd (upd D 0 (.work eK)) gs.size (.work Rc) j).dY=some T->(j=0/\T=eK)\/(0<j/\j<gs.size/\(D j).dY=some T)\/(j=gs.size/\T=Rc):=by
   intro j T hj hT;rcases three j hj with rfl|⟨g1,g2⟩|rfl
   ·rw[O3]at hT;exact .inl ⟨rfl,(Option.some.inj hT).symm⟩
   ·rw[hD j g1 g2]at hT;exact .inr (.inl ⟨g1,g2,hT⟩)
   ·rw[upd_same]at hT;exact .inr (.inr ⟨rfl,(Option.some.inj hT).symm⟩)
  have hp:(D 0).dY=some R:=by rw[I.perm];rfl
  have dl:∀{T U:Perm},jF T R->mn R U->mn T U:=fun h d=>⟨fun b o x=>d.cell b o (h.wr b o x),fun b x=>d.obj b (h.ob b x)⟩
  have dr:∀{T U:Perm},jF T R->mn U R->mn U T:=fun h d=>⟨fun b o x y=>d.cell b o x (h.rd b o y),fun b x y=>d.obj b x (h.ob b y)⟩
  refine⟨fun j T hj hT=>?_,fun i j T U s7 hi hj hT hU=>?_,fun j T hj hT b o hr hb=>?_,I.eh.lay.sh⟩
  ·rcases key j T hj hT with⟨_,rfl⟩|⟨_,g2,QQ⟩|⟨_,rfl⟩
   ·exact⟨fun b o x=>CG.rd b o (h1.rd b o x),OK,fun b x=>CG.ob b (h1.ob b x)⟩
   ·exact I.eh.lay.low j T g2 QQ
   ·exact⟨fun b o x=>CG.rd b o (hc.rd b o x),hwc,fun b x=>CG.ob b (hc.ob b x)⟩
  ·rcases key i T hi hT with⟨rfl,rfl⟩|⟨g1,g2,QQ⟩|⟨rfl,rfl⟩<;>rcases key j U hj hU with⟨rfl,rfl⟩|⟨g3,g4,hU'⟩|⟨rfl,rfl⟩
   ·exact absurd rfl s7
   ·exact dl h1 (I.eh.lay.H9 0 j R U s7 iL g4 hp hU')
   ·exact EA
   ·exact dr h1 (I.eh.lay.H9 i 0 T R s7 g2 iL QQ hp)
   ·exact I.eh.lay.H9 i j T U s7 g2 g4 QQ hU'
   ·exact dr hc (I.eh.lay.H9 i 0 T R aj g2 iL QQ hp)
   ·exact ahW
   ·exact dl hc (I.eh.lay.H9 0 j R U aj iL g4 hp hU')
   ·exact absurd rfl s7
  ·rcases key j T hj hT with⟨_,rfl⟩|⟨_,g2,QQ⟩|⟨_,rfl⟩
   ·exact I.eh.lay.Ee 0 R iL hp b o (h1.rd b o hr) hb
   ·exact I.eh.lay.Ee j T g2 QQ b o hr hb
   ·exact I.eh.lay.Ee 0 R iL hp b o (hc.rd b o hr) hb
 ·rw[iW];exact I.eh.ti.fork I.perm h1 hc iL hxg hyg (I.deaf.trans h0) (I.eh.above gs.size (ai _))
 ·rw[iW];refine⟨rfl,fG,?_,st,sm,jM,?_⟩
  ·rw[show gs.size+1-lo=(gs.size-lo)+1 by omega,List.range_succ,List.map_append,List.reverse_append];simp only[List.map_cons,List.map_nil,List.reverse_cons,List.reverse_nil,List.nil_append,List.cons_append];rw[show lo+(gs.size-lo)=gs.size by omega,upd_same]
   show p::pl=p::_
   rw[show pl=_ from dm]
   congr 2
   refine List.map_congr_left fun i hi=>?_
   rw[hn _ _ _ (by have :=List.mem_range.1 hi;omega)]
  ·have hv:Vc (gs.size+1) (upd S gs.size 7)=Vc gs.size S+1:=by
    simp only[Vc,sumTo,upd_same];rw[sumTo_congr (g:=fun i=>if 5<=S i then 1 else 0) fun i hi=>by rw[hn _ _ i hi]];rfl
   cases fA with
   |added h2 h3 h4=>
    have :Mode lo (gs.size+1) (upd S gs.size 7) (.opn (V+1)) false ((Vc (gs.size+1) (upd S gs.size 7):Nat)*KK) 0:= .opn (fun i h5 h6=>by
     rcases Nat.lt_or_ge i gs.size with cC|w5
     ·rw[hn _ _ i cC];exact h2 i h5 cC
     ·obtain rfl:i=gs.size:=aj;rw[upd_same];simp) aj aj
    rw[hv]at this;simpa using this
end
end Go.AM
namespace Go.AM
open Go Go.Conc
open Go.ConcN (RelBy upd upd_same upd_ne sumTo sumTo_congr)
open Go.ConcR (stA smA KK rd wr)
section
variable {P:aD}{Fin:ae->au->Prop}{gs:Array ak}{w w':au}{t:Trace}{σ gu:nF}{n m:Nat}{R R' eK Rc:Perm}{g g' a' child:ak}{Wg:Nat}{sh:Nat->Prop}{lo:Nat}{D:Nat->WS}{S F:Nat->Nat}{ps:Nat->dQ}{b b':Bool}{sl:Option (Nat×Nat)}{es:Array Event}
theorem IV.afd(I:IV P Fin gs w t σ n R g Wg sh lo D S F ps b){j:Nat}(h0:0<j)(hj:j<gs.size)(hS:S j=1):∃T r,D j= .rel T r/\∃x,gs[j]?=some x/\QuitsD P (F j) (Deaf t j) x:=by
 obtain⟨x,hx,sD⟩:=I.eh.wk j h0 hj;rw[hS]at sD;generalize hD:D j=ws at sD;generalize hd:Deaf t j=d at sD;generalize F j=f at sD;cases sD with
 |gone hq=>exact⟨_,_,rfl,x,hx,hd▸hq⟩
theorem IV.ahc{pl:List dQ}(I:IV P Fin gs w t (.fI ⟨Wg,pl,.fin⟩) n R g Wg sh lo D S F ps false)(h0:R.deaf=0)(eD:stepG P true g w= .go g' w #[Go.ConcR.mk (.acquire (stA Wg))])(hm:m<n)
  (hj:∀Rs:List Perm,bB (fun p S=>p.ok S w/\w7 S w/\mn R S/\mn S R) pl Rs->Rs.Pairwise (fun S T=>mn S T/\mn T S)->
    ∃R',R'.deaf=0/\(∀b o,R'.wr b o->R'.rd b o)/\(∀b o,R'.rd b o->R.rd b o\/∃S∈Rs,S.rd b o)/\(∀b,R'.ob b->R.ob b\/∃S∈Rs,S.ob b)/\JM P Fin .idle m R' g' w):
  ∃m₁ ops pk,runT P (crowd gs w sl) 0=(.next m₁,ops)/\Lt2 pk (meas n false gs.size F)/\Inv P Fin pk m₁ (t++ops):=by
 have hY:=I.ae8 (sl:=sl) eD;obtain⟨_,fG,dm,st,sm,jM,fA⟩:=I.fI;have hq:AllQuit lo gs.size S:=by cases fA with |fin h=>exact h
 have jH:=I.eh.lom;have iL:=I.size;have hp0:(D 0).dY=some R:=by rw[I.perm];rfl
 have zn:∀j,lo<=j->j<gs.size->∃T r,D j= .rel T r/\∃x,gs[j]?=some x/\QuitsD P (F j) (Deaf t j) x:=fun j h1 h2=>I.afd aj h2 (hq j h1 h2)
 let pm:Nat->Perm:=fun i=>((D (lo+i)).dY).getD R
 have hpm:∀i,i<gs.size-lo->∃r,D (lo+i)= .rel (pm i) r/\(D (lo+i)).dY=some (pm i):=fun i hi=>by
  obtain⟨T,r,hT,_⟩:=zn (lo+i) aj aj;have :pm i=T:=by show((D (lo+i)).dY).getD R=T;rw[hT];rfl
  exact⟨r,by rw[this];exact hT,by rw[this,hT];rfl⟩
 have hR2:bB (fun p S=>p.ok S w/\w7 S w/\mn R S/\mn S R) pl ((List.range (gs.size-lo)).reverse.map pm):=by
  rw[show pl=_ from dm,<-List.map_reverse];refine bB.pI fun i hi=>?_
  have Ez:i<gs.size-lo:=by simpa using hi
  obtain⟨r,h1,h2⟩:=hpm i Ez;exact⟨I.eh.post (lo+i) (pm i) r aj h1,I.eh.lay.low (lo+i) (pm i) aj h2,I.eh.lay.H9 0 (lo+i) R (pm i) aj iL aj hp0 h2,I.eh.lay.H9 (lo+i) 0 (pm i) R aj aj iL h2 hp0⟩
 have hPW:((List.range (gs.size-lo)).reverse.map pm).Pairwise (fun S T=>mn S T/\mn T S):=by
  rw[List.pairwise_map];have JB:(List.range (gs.size-lo)).reverse.Nodup:=List.pairwise_reverse.2 (List.Pairwise.imp (fun h=>Ne.symm h) List.nodup_range);refine List.Pairwise.imp_of_mem (fun{i j} hi hj dH=>?_) JB;have Ez:i<gs.size-lo:=by simpa using hi
  have pY:j<gs.size-lo:=by simpa using hj
  obtain⟨_,_,h2⟩:=hpm i Ez;obtain⟨_,_,h4⟩:=hpm j pY;have My:lo+i≠lo+j:=fun h=>dH aj
  exact⟨I.eh.lay.H9 (lo+i) (lo+j) _ _ My aj aj h2 h4,I.eh.lay.H9 (lo+j) (lo+i) _ _ (Ne.symm My) aj aj h4 h2⟩
 obtain⟨R',w6,acZ,ahu,akY,U3⟩:=hj _ hR2 hPW;have um:∀T∈(List.range (gs.size-lo)).reverse.map pm,∃j,j<gs.size/\(D j).dY=some T:=by
  intro T hT;obtain⟨i,hi,rfl⟩:=List.mem_map.1 hT;have Ez:i<gs.size-lo:=by simpa using hi
  obtain⟨_,_,h2⟩:=hpm i Ez;exact⟨lo+i,aj,h2⟩
 have CG:=I.Ub;have AR:w7 R' w:=by
  refine⟨fun b o x=>?_,acZ,fun b x=>?_⟩
  ·rcases ahu b o x with h|⟨T,hT,h⟩
   ·exact CG.rd b o h
   ·obtain⟨j,hj,hjT⟩:=um T hT;exact(I.eh.lay.low j T hj hjT).rd b o h
  ·rcases akY b x with h|⟨T,hT,h⟩
   ·exact CG.ob b h
   ·obtain⟨j,hj,hjT⟩:=um T hT;exact(I.eh.lay.low j T hj hjT).ob b h
 have aaB:∀b o,R'.rd b o->sh b->¬o<=1:=by
  intro b o x hb;rcases ahu b o x with h|⟨T,hT,h⟩
  ·exact I.eh.lay.Ee 0 R iL hp0 b o h hb
  ·obtain⟨j,hj,hjT⟩:=um T hT;exact I.eh.lay.Ee j T hj hjT b o h hb
 obtain⟨x,hx⟩:∃x:MemOp,x={g:=0,fn:=g.frame.fn,pos:=g.frame.place,act:= .mark (.acquire (stA Wg))}:=⟨_,rfl⟩;have Mw:MemOp.ofEvents 0 g.frame.fn g.frame.place #[Go.ConcR.mk (.acquire (stA Wg))]=#[x]:=by rw[ofEvents_eq,hx];simp[Go.ConcR.ofEvent_mk]
 rw[Mw]at hY;have hxg:∀op∈(#[x]:Array MemOp),op.g=0:=by intro op dq;simp at dq;rw[dq,hx]
 have nW:∀j,Deaf (t++#[x]) j=Deaf t j:=by
  intro j;rw[Deaf_push];simp[deafStep,hx]
 have iW:(gs.setIfInBounds 0 g').size=gs.size:=de;have key:∀j T,(if j=0 then WS.work R' else .old).dY=some T->j=0/\T=R':=by
  intro j T hT
  split at hT
  ·rename_i e;exact⟨e,(Option.some.inj hT).symm⟩
  ·cases hT
 refine⟨_,_,meas m false (gs.setIfInBounds 0 g').size F,hY,Prod.Lex.left _ _ hm,_,w,sl,.idle,m,R',g',Wg,sh,gs.size,fun j=>if j=0 then .work R' else .old,fun _=>0,F,ps,false,rfl,
  ⟨?_,fun h=>(by cases h),U3,rfl,?_,⟨by rw[iW];omega,fun j OX pY=>?_,fun _ _=>rfl,fun j h1 h2=>(by rw[iW]at h2;omega),fun j T r pY ku=>?_,fun j h1 h2=>(by rw[iW]at h2;omega),fun j pY=>?_,?_,?_⟩,?_⟩,rfl⟩
 ·rw[Array.getElem?_setIfInBounds_self_of_lt iL];rfl
 ·rw[nW,I.deaf,h0,w6]
 ·rw[iW]at pY;have ak5:j≠0:=aj;have :∃x,gs[j]?=some x/\QuitsD P (F j) (Deaf t j) x:=by
   rcases Nat.lt_or_ge j lo with cC|w5
   ·exact(I.I5 OX pY (I.eh.old j cC)).2
   ·obtain⟨_,_,_,h⟩:=zn j w5 pY;exact h
  obtain⟨z,hz,xS⟩:=this;refine⟨z,by rw[Array.getElem?_setIfInBounds_ne aj];exact hz,?_⟩;rw[bS ak5,nW];exact .old xS
 ·replace ku:(if j=0 then WS.work R' else .old)= .rel T r:=ku
  split at ku<;>cases ku
 ·rw[iW]at pY;rw[nW];exact I.eh.above j pY
 ·rw[iW];refine⟨fun j T hj hT=>?_,fun i j T U s7 hi hj hT hU=>?_,fun j T hj hT b o hr hb=>?_,I.eh.lay.sh⟩
  ·obtain⟨_,rfl⟩:=key j T hT;exact AR
  ·exact absurd ((key i T hT).1.trans (key j U hU).1.symm) s7
  ·obtain⟨_,rfl⟩:=key j T hT;exact aaB b o hr hb
 ·rw[iW];refine I.eh.ti.V' iL (fun j h1 h2=>?_) (by rw[hx];exact⟨rfl,rfl⟩) (I.deaf.trans h0) aaB acZ;rcases Nat.lt_or_ge j lo with cC|w5
  ·exact .inr (I.I5 h1 h2 (I.eh.old j cC)).1
  ·obtain⟨T,r,hT,_⟩:=zn j w5 h2;exact .inl ⟨T,r,hT⟩
 ·exact⟨iW.symm,rfl⟩
theorem IV.ends(I:IV P Fin gs w t .idle n R g Wg sh lo D S F ps false){v:ae}(eD:stepG P true g w= .ended (.done v) w' es)(dS:∀e∈es,nT R e)(pP:Fin v w'):
  ∃o aO ops,runT P (crowd gs w sl) 0=(.ended o aO,ops)/\∀bq NO,Good P Fin (crowd gs bq NO) o aO (t++ops):=by
 obtain⟨jH,_⟩:lo=gs.size/\false=false:=I.fI;have CG:=I.Ub;have hold:∀j,0<j->j<gs.size->D j= .old/\∃x,gs[j]?=some x/\QuitsD P (F j) (Deaf t j) x:=fun j h1 h2=>I.I5 h1 h2 (I.eh.old j aj)
 have UK:TI Wg sh D gs.size w.heap.size (t++MemOp.ofEvents 0 g.frame.fn g.frame.place es):=by
  refine I.eh.ti.app I.eh.lay I.size (ai _) (fun _ _=>rfl) (.inl rfl) Go.ConcR.g_of_ofEvents (fun op dq bb hb=>?_) (fun op dq ad=>?_) (fun op dq bb hb=>?_) (fun HT r h=>by rw[I.perm]at h;cases h)
  ·obtain⟨e,he,rfl⟩:=Go.Conc.mem_ofEvents dq;exact He CG (rJ CG.wr (.inl (dS e he)) hb).1
  ·obtain⟨e,he,rfl⟩:=Go.Conc.mem_ofEvents dq;exact C3 (.inl (dS e he)) ad
  ·obtain⟨e,he,rfl⟩:=Go.Conc.mem_ofEvents dq;exact .inl ⟨R,I.perm,rJ CG.wr (.inl (dS e he)) hb⟩
 refine⟨_,_,_,runT_many_ended (P:=P) (sl:=sl) (i:=0) I.main (show stepG P (0==0) (nL false g) w=_ from eD),fun bq NO=>⟨v,rfl,pP,UK.nr,UK.over fun j h1 h2=>(hold j h1 h2).1,⟨fun x hx=>?_,rfl⟩,fun j x hx hj=>?_⟩⟩
 ·obtain⟨j,hj⟩:=List.mem_iff_getElem?.1 hx;rw[List.getElem?_drop]at hj;have pY:gs[1+j]?=some x:=by simpa[crowd]using hj
  obtain⟨_,y,hy,hq⟩:=hold (1+j) aj (Array.getElem?_eq_some_iff.1 pY).1;rw[pY]at hy;cases hy;exact⟨_,hq.leaves⟩
 ·have vq:gs[j]?=some x:=hx;obtain⟨_,y,hy,hq⟩:=hold j aj (Array.getElem?_eq_some_iff.1 vq).1;rw[vq]at hy;cases hy;refine⟨F j,?_⟩;have e:(t++MemOp.ofEvents 0 g.frame.fn g.frame.place es).deaf j (t++MemOp.ofEvents 0 g.frame.fn g.frame.place es).size=Deaf t j:=
   Deaf_other t (g:=j) (g':=0) aj _ Go.ConcR.g_of_ofEvents
  show x.endsWith P bq (F j) ((t++MemOp.ofEvents 0 g.frame.fn g.frame.place es).deaf j (t++MemOp.ofEvents 0 g.frame.fn g.frame.place es).size)=some 0
  rw[e];exact hq.hears _
set_option maxHeartbeats 1000000 in
theorem step0:∀(n:Nat) {σ:nF}{R:Perm}{Wg:Nat}{sh:Nat->Prop}{lo:Nat}{D:Nat->WS}{S F:Nat->Nat}{ps:Nat->dQ},IV P Fin gs w t σ n R g Wg sh lo D S F ps false->
  (∃o aO ops,runT P (crowd gs w sl) 0=(.ended o aO,ops)/\∀bq NO,Good P Fin (crowd gs bq NO) o aO (t++ops))\/
  (∃m₁ ops pk,runT P (crowd gs w sl) 0=(.next m₁,ops)/\Lt2 pk (meas n false gs.size F)/\Inv P Fin pk m₁ (t++ops)):=by
 intro n
 induction n using Nat.strongRecOn with
 |_ n ih=>
  intro σ R Wg sh lo D S F ps I;obtain⟨m,hm,hs⟩:=I.jm.out;have CH:∀j U,j<gs.size->(D j).dY=some U->bj U w w:=fun _ _ _ _=>bj.refl _ _
  cases hs I.fI.live with
  |own _ h1 h2=>exact .inr (I.Yn h1 hm h2)
  |ends _ h1 h2 _ h4=>exact .inl (I.ends h1 h2 h4)
  |wM h1 h2 h3 h4 h5 h6 h7 h8=>
   rcases ih m hm (I.wM h1 h2 h3 h4 h5 h6 h7 h8)with h|⟨m₁,ops,pk,g1,g2,g3⟩
   ·exact .inl h
   ·exact .inr ⟨m₁,ops,pk,g1,lt2_trans g2 (Prod.Lex.left _ _ hm),g3⟩
  |add _ hV h1=>
   obtain⟨rfl,fG,dm,st,sm,jM,fA⟩:=I.fI;cases fA with
   |opn h2 h3 h4=>
    obtain⟨g',h5,h6⟩:=h1 _ h3 jM;have hk:∀j U,j<gs.size->(D j).dY=some U->bj U w (setSt _ (((Vc gs.size S:Nat)+1)*KK) w):=fun j U hj hU=>qB (I.eh.lay.low j U hj hU) (fun o ho hr=>I.eh.lay.Ee j U hj hU _ o hr fG ho) jM
    refine .inr (I.l8 (b':=false) h5 rfl lQ (.inl hm) h6 (j5 (by intro e he;simpa using he) _) hk (size_setCell ..) fG (fun e he=> .inl ?_) ⟨rfl,fG,dm,_,_,jM.setSt _,.added h2 h3 hV⟩);simp at he;rcases he with rfl|rfl
    ·exact yq _ _
    ·exact yq _ _
  |said _ h1 h2 h3=>
   obtain⟨rfl,fG,dm,st,sm,jM,fA⟩:=I.fI;refine .inr (I.l8 (b':=false) h1 rfl lQ (.inl hm) h3 ?_ CH rfl fG (fun e he=> .inr (h2 e he)) ⟨rfl,fG,dm,st,sm,jM,fA⟩);have :=oz R.deaf (_:Array Event).toList fun e he=>(h2 e (by simpa using he)).elim (fun x=>by rw[x];simp[Go.ConcR.mk]) fun x=>by rw[x];simp[Go.ConcR.mk]
   simpa using this
  |spawn _ h1 h2 h3 h4 h5 h6 h7 h8 h9 h10 h11 h12 h13=>
   have hW:=I.fI.1;simp only at hW;subst hW;exact .inr (I.spawns h1 h2 h3 h4 h5 h6 h7 h8 h9 h10 h11 h12 hm h13)
  |load _ h1=>
   obtain⟨hW,fG,dm,st,sm,jM,fA⟩:=I.fI
   replace hW:=hW.symm
   simp only at hW;subst hW;cases fA with
   |opn h2 h3 h4=>
    obtain⟨g',h5,h6,h7⟩:=h1 _ h3 jM;have H5:∀e∈(#[rd (stA Wg)]:Array Event),KZ Wg e\/e=Go.ConcR.mk (.read (smA Wg))\/e=Go.ConcR.mk (.write (smA Wg)):=fun e he=> .inl (by simp at he;subst he;exact yq _ _)
    have nW:deafBehind R.deaf (#[rd (stA Wg)]:Array Event)=R.deaf:=j5 (by intro e he;simp at he;exact .inl he) _
    by_cases hv:Vc gs.size S=0
    ·refine .inr (I.l8 (b':=false) h5 rfl lQ (.inl hm) (h6 hv) nW CH rfl fG H5 ⟨rfl,fG,dm,_,_,jM,?_⟩);have :=Mode.fin (allQuit_of h2 hv);rw[hv];simpa using this
    ·exact .inr (I.l8 (b':=false) h5 rfl lQ (.inl hm) (h7 hv) nW CH rfl fG H5 ⟨rfl,fG,dm,_,_,jM,.seen h2 (ai _) aj aj⟩)
  |cas _ h1=>
   obtain⟨rfl,fG,dm,st,sm,jM,fA⟩:=I.fI;cases fA with
   |seen h2 h3 h4 h5=>
    obtain⟨ak7,ahH⟩:=h1 _ h3 jM;rcases Nat.eq_or_lt_of_le h3 with hv|hv
    ·obtain⟨g',h6,h7⟩:=ak7 hv;have hk:∀j U,j<gs.size->(D j).dY=some U->bj U w (setSt _ ((Vc gs.size S:Nat)*KK+1) w):=fun j U hj hU=>qB (I.eh.lay.low j U hj hU) (fun o ho hr=>I.eh.lay.Ee j U hj hU _ o hr fG ho) jM
     refine .inr (I.l8 (b':=false) h6 rfl lQ (.inl hm) h7 (j5 (by intro e he;simpa using he) _) hk (size_setCell ..) fG (fun e he=> .inl ?_) ⟨rfl,fG,dm,_,_,jM.setSt _,.reg h2 aj aj⟩);simp at he;rcases he with rfl|rfl
     ·exact yq _ _
     ·exact yq _ _
    ·obtain⟨g',h6,h7⟩:=ahH (Nat.ne_of_lt hv);exact .inr (I.l8 (b':=false) h6 rfl lQ (.inl hm) h7 (j5 (by intro e he;simp at he;exact .inl he) _) CH rfl fG (fun e he=> .inl (by simp at he;subst he;exact yq _ _)) ⟨rfl,fG,dm,_,_,jM,.opn h2 aj aj⟩)
  |sem hr adj h1 h2=>
   obtain⟨rfl,fG,dm,st,sm,jM,fA⟩:=I.fI;have kz:∀jX,rX _ w jX 0->Mode lo gs.size S .reg true jX 0->(∃m₁ ops pk,runT P (crowd gs w sl) 0=(.next m₁,ops)/\Lt2 pk (meas n false gs.size F)/\Inv P Fin pk m₁ (t++ops)):=fun jX zk hmo=>
    I.l8 (b':=true) (g':=g) (h1 jX zk) rfl (fun _=>⟨hr,adj⟩) (.inr ⟨rfl,rfl⟩) I.jm rfl CH rfl fG (fun e he=>by simp at he) ⟨rfl,fG,dm,jX,0,zk,hmo⟩
   cases fA with
   |reg h3 h4 h5=>exact .inr (kz _ jM (.reg h3 h4 h5))
   |last L h3 h4 h5 h6=>exact .inr (kz _ jM (.last L h3 h4 h5 h6))
   |sema h3=>
    obtain⟨g',h4,h5⟩:=h2 jM;have hk:∀j U,j<gs.size->(D j).dY=some U->bj U w (setSm _ 0 w):=fun j U hj hU=>Af (I.eh.lay.low j U hj hU) (fun o ho hr=>I.eh.lay.Ee j U hj hU _ o hr fG ho) jM
    refine .inr (I.l8 (b':=false) h4 rfl lQ (.inl hm) h5 (by simp[semEvents,deafBehind]) hk (size_setCell ..) fG (fun e he=> .inl ?_) ⟨rfl,fG,dm,_,_,jM.setSm _,.Vo h3⟩);simp[semEvents]at he;rcases he with rfl|rfl|rfl|rfl
    ·exact .inl rfl
    ·exact Ps _ _
    ·exact Ps _ _
    ·exact .inr (.inl rfl)
  |last _ h1=>
   obtain⟨rfl,fG,dm,st,sm,jM,fA⟩:=I.fI;cases fA with
   |Vo h3=>
    obtain⟨g',h4,h5⟩:=h1 jM;exact .inr (I.l8 (b':=false) h4 rfl lQ (.inl hm) h5 (j5 (by intro e he;simp at he;exact .inl he) _) CH rfl fG (fun e he=> .inl (by simp at he;subst he;exact yq _ _)) ⟨rfl,fG,dm,_,_,jM,.fin h3⟩)
  |acq _ h1 h2 h3=>
   have hW:=I.fI.1;simp only at hW;subst hW;exact .inr (I.ahc h1 h2 hm h3)
end
end Go.AM
namespace Go.AM
open Go Go.Conc
open Go.ConcN (RelBy upd upd_same upd_ne sumTo sumTo_congr)
open Go.ConcR (stA smA KK rd wr)
section
variable {P:aD}{Fin:ae->au->Prop}{gs:Array ak}{w w':au}{t:Trace}{σ gu:nF}{n m:Nat}{R:Perm}{g:ak}{Wg:Nat}{sh:Nat->Prop}{lo:Nat}{D:Nat->WS}{S F:Nat->Nat}{ps:Nat->dQ}{b:Bool}{sl:Option (Nat×Nat)}
theorem IV.at(I:IV P Fin gs w t σ n R g Wg sh lo D S F ps b)(d:Nat):IV P Fin gs (w.at d) t σ n R g Wg sh lo D S F ps b:=by
 have hk:∀T,bj T w (w.at d):=fun T=>bj.at T w d
 refine⟨I.main,I.blk,I.jm.keeps (hk R),I.perm,I.deaf,⟨I.eh.lom,fun j h1 h2=>?_,I.eh.old,I.eh.act,fun j T r hj ku=>?_,I.eh.Gy,I.eh.above,I.eh.lay.abo (ai _) fun j T _ _=>hk T,I.eh.ti⟩,?_⟩
 ·obtain⟨x,hx,sD⟩:=I.eh.wk j h1 h2;exact⟨x,hx,sD.keeps fun T _=>hk T⟩
 ·have jH:lo<=j:=Nat.le_of_not_lt fun cC=>by
   have h0:=I.eh.old j cC;rcases Nat.eq_zero_or_pos j with rfl|hp
   ·rw[I.perm]at ku;cases ku
   ·obtain⟨x,_,sD⟩:=I.eh.wk j hp hj;rw[h0,ku]at sD;cases sD
  exact I.eh.Gy j jH hj T w _ (I.eh.post j T r hj ku) (hk T)
 ·have hg:=I.fI;cases σ with
  |Br=>exact hg.elim
  |idle=>exact hg
  |fI gr=>
   obtain⟨h1,h2,h3,st,sm,h4,h5⟩:=hg;exact⟨h1,h2,h3,st,sm,h4.at d,h5⟩
theorem IV.Xe(I:IV P Fin gs w t σ n R g Wg sh lo D S F ps b):∃(i:Nat) (x:ak),gs[i]?=some x/\x.status= .running:=by
 cases b with
 |false=>exact⟨0,_,I.main,I.running⟩
 |true=>
  have key:∀i,i<gs.size->2<=S i->∃(i:Nat) (x:ak),gs[i]?=some x/\x.status= .running:=by
   intro i hi h2;have xX:0<i:=Nat.pos_of_ne_zero fun e=>by
    subst e;have :=I.eh.old 0 (by have :=I.eh.lom;omega);omega
   obtain⟨x,hx,sD⟩:=I.eh.wk i xX hi;exact⟨i,x,hx,sD.status.elim id fun h=>by omega⟩
  have hg:=I.fI;cases σ with
  |Br=>exact hg.elim
  |idle=>obtain⟨_,h⟩:=hg;cases h
  |fI gr=>
   obtain⟨_,_,_,st,sm,_,fA⟩:=hg;generalize hgs:gr.sub=s at fA;cases fA with
   |reg h1 h2 h3=>
    obtain⟨i,hi,h5⟩:=NC h2;exact key i hi aj
   |last L h1 h2 h3 h4=>exact key L h2 aj
theorem IV.awake(I:IV P Fin gs w t σ n R g Wg sh lo D S F ps b):∀x∈gs,awake x:=by
 intro x hx;obtain⟨i,hi,rfl⟩:=Array.mem_iff_getElem.1 hx;rcases Nat.eq_zero_or_pos i with rfl|hp
 ·have :gs[0]=nL b g:=by have :=I.main;rw[Array.getElem?_eq_getElem hi]at this;exact Option.some.inj this
  rw[this];exact Je fun _=>I.running
 ·obtain⟨x,hx,sD⟩:=I.eh.wk i hp hi;rw[Array.getElem?_eq_getElem hi]at hx;rw[Option.some.inj hx];exact awake_of (sD.status.elim .inl fun h=> .inr (.inr h.1))
theorem UC (μ:Nat×Nat)(m:Machine)(t:Trace)(h:Inv P Fin μ m t):
  (∃o w ops,stepT P m=(.ended o w,ops)/\Good P Fin m o w (t++ops))\/(∃m' ops pk,stepT P m=(.next m',ops)/\Lt2 pk μ/\Inv P Fin pk m' (t++ops)):=by
 obtain⟨gs,w,sl,σ,n,R,g,Wg,sh,lo,D,S,F,ps,b,rfl,I,rfl⟩:=h;obtain⟨i,x,d,sl',hx,hr,eD⟩:=crowd_pick (P:=P) (w:=w) (sl:=sl) I.awake I.Xe;have I':=I.at d;have hi:i<gs.size:=(Array.getElem?_eq_some_iff.1 hx).1;rcases Nat.eq_zero_or_pos i with rfl|hp
 ·cases b with
  |true=>
   rw[I.main]at hx;cases hx;cases hr
  |false=>
   rcases step0 (sl:=sl') n I' with⟨o,aO,ops,h1,h2⟩|⟨m₁,ops,pk,h1,h2,h3⟩
   ·exact .inl ⟨o,aO,ops,eD.trans h1,h2 w sl⟩
   ·exact .inr ⟨m₁,ops,pk,eD.trans h1,h2,h3⟩
 ·obtain⟨m₁,ops,pk,h1,h2,h3⟩:=I'.stepW (sl:=sl') hp hi hx hr;exact .inr ⟨m₁,ops,pk,eD.trans h1,h2,h3⟩
theorem GY {W:au}(hj:JM P Fin .idle n R g W)(hl:w7 R W)(hd:R.deaf=0):
  ∃N last o w' t',runNT P (N+1) (solo g W) #[]=(.ended o w',t')/\runN P N (solo g W)= .next last/\step P last= .ended o w'/\Good P Fin last o w' t':=by
 refine run_of_inv (Prod.lex ⟨(·< ·),Nat.lt_wfRel.wf⟩ ⟨(·< ·),Nat.lt_wfRel.wf⟩).wf (Inv P Fin) (Good P Fin) UC (meas n false 1 (fun _=>0)) _ _ ?_;have h0:∀{i:Nat}{a:Touch},touchAt #[] i=some a->False:=fun h=>by simp[touchAt,Trace.act?]at h
 refine⟨#[g],W,none,.idle,n,R,g,0,fun _=>False,1,fun _=> .work R,fun _=>0,fun _=>0,fun _=>⟨fun _ _=>True⟩,false,rfl,⟨rfl,fun h=>(by cases h),hj,rfl,hd.symm▸rfl,⟨de,fun i h1 h2=>?_,fun _ _=>rfl,fun i h1 h2=>?_,fun i T r hi h=>(by cases h),fun i h1 h2=>?_,fun _ _=>rfl,?_,?_⟩,⟨rfl,rfl⟩⟩,rfl⟩
 ·simp at h2;omega
 ·simp at h2;omega
 ·simp at h2;omega
 ·refine⟨fun k T hk hT=>?_,fun j k T U QK hj hk _ _=>?_,fun k T hk hT b o hr hb=>hb.elim,fun b hb=>hb.elim⟩
  ·cases hT;exact hl
  ·simp at hj hk;omega
 ·refine⟨fun said=>?_,fun op dq=>(by simp at dq),fun i a ha=>(h0 ha).elim,fun k T hk hT i a ha=>(h0 ha).elim,fun k T hk hT i a ha=>(h0 ha).elim,fun i a ha=>(h0 ha).elim,fun i a ha=>(h0 ha).elim,fun k T r hk h=>(by cases h),fun a i h=>(by simp[Trace.act?]at h),fun i k hi=>(by simp[Trace.g?]at hi),⟨R,rfl⟩⟩;rintro⟨i,j,_,⟨a,b,ha,_⟩,_⟩;simp[Trace.act?]at ha
end
end Go.AM
namespace Go.AM
open Go Go.Conc
section
variable {P:aD}{E:Perm}{bq:au}{ρ:dh}{m aX:Mem}{w:au}{wa d o:Nat}{p:Pl}
theorem fH.fields(h:fH ρ m w)(fl:Nat)(op:List Span)(wg:Option Nat)(pn:List AX):fH ρ {m with floor:=fl,opn:=op,wg:=wg,pend:=pn} w:=
 ⟨h.mz,h.cells,h.lj,h.thaw,h.maps,h.lD,h.sep,h.rG,h.vars⟩
theorem G7 {l:List Span}(h:l.all (fun s=>wj m s&&s.1 !=wa)=true):∀s∈l,s.2.1=s.1+1/\m.base<=s.1/\m.floor<=s.1/\s.1<m.next/\(m.blk s.1).kind=1/\s.1≠wa:=by
 intro s hs;rw[aB]at h;have :=h s hs;simp only[wj,ag,jQ,beq_iff_eq,bne_iff_ne]at this;obtain⟨⟨⟨⟨⟨⟨h1,h2⟩,h3⟩,h4⟩,h5⟩,_⟩,h6⟩:=this;exact⟨h1,h2,h3,h4,h5,h6⟩
theorem mT {l:List Span}{b o:Nat}(h:bz l b o=true):∃s∈l,s.1<=b/\b<s.2.1/\(s.2.2=none\/s.2.2=some o):=by
 unfold bz at h;rw[List.any_eq_true]at h;obtain⟨s,hs,h⟩:=h;simp only[ag,jQ]at h;refine⟨s,hs,h.1.1,h.1.2,?_⟩;have h2:=h.2
 split at h2
 ·rename_i e;exact .inl e
 ·rename_i y e;exact .inr (by rw[e];simpa using h2)
theorem CR (hg:m.wg=none)(h:lu wa d o m=some aX):∃l,aX={m.a8 wa {}with wg:=some wa,opn:=l,floor:=m.next}/\oN m d o 4=some l/\m.dB wa 0 2=some [.int .u64 0,.int .u32 0]/\m.cS wa 0 2=true/\m.ft wa=true/\
  (m.blk wa).pos=1/\(m.blk wa).cs.length=2/\m.bl=[]/\m.opn=[]/\m.pend=[]/\m.floor=m.base/\l.all (fun s=>wj m s&&s.1 !=wa)=true/\jE l=true:=by
 unfold lu at h;rw[hg]at h;simp only[]at h
 split at h
 ·rename_i l hl Mz
  split at h
  ·rename_i hc;simp only[ah]at h;simp only[ag,jQ,beq_iff_eq]at hc;obtain⟨⟨⟨⟨⟨⟨⟨⟨⟨c1,c2⟩,c3⟩,c4⟩,c5⟩,c6⟩,c7⟩,c8⟩,c9⟩,c10⟩:=hc;exact⟨l,h.symm,Mz,hl,c1,c2,c3,c4,c5,c6,c7,c8,c9,c10⟩
  ·cases h
 ·cases h
theorem JU (H:cU P E bq .idle ρ m w)(h:lu wa d o m=some aX)(hp:ρ wa=some p):
  p.d=0/\cU P E bq (.fI ⟨p.c,[],.opn 0⟩) ρ aX w/\jF ((az ρ aX).or E) ((az ρ m).or E)/\(∀b o,((az ρ aX).or E).wr b o->((az ρ aX).or E).rd b o)/\aX.deaf=m.deaf/\
   ((az ρ m).or E).wr p.c 0/\((az ρ m).or E).wr p.c 1/\rX p.c w 0 0/\∀x,x<=1->¬((az ρ aX).or E).rd p.c x:=by
 obtain⟨hgw,hgp,hgh⟩:m.wg=none/\m.pend=[]/\m.home<=m.next:=H.fI;obtain⟨l,rfl,Mz,hl,c1,c2,c3,c4,c5,c6,c7,c8,c9,c10⟩:=CR hgw h;have hs:=H.jY;have hk:(m.blk wa).kind=1:=(Mem.pK hl).1;have hd:p.d=0:=hs.vars wa p hp hk c3;obtain⟨_,rH,_⟩:=hs.cells wa p hp hk;have lF:∀i,i<2->∃v,[ae.int .u64 0,ae.int .u32 0][i]?=some v/\m.cell wa i=some v:=fun i hi=>by
  obtain⟨v,h1,h2⟩:=(Mem.pK hl).2.2 i hi;exact⟨v,h1,by simpa using h2⟩
 have s9:=Mem.kJ c1;have uj:∀i,i<2->(az ρ m).wr p.c i:=fun i hi=>by
  obtain⟨v,_,hc⟩:=lF i hi;have h1:=(Mem.qT c1 hi).2;have :=yK (ρ:=ρ) (m:=m) hp (o:=i) aj ⟨Mem.eB hc,by simpa using h1⟩;rw[hd]at this;simpa using this
 have H3:wa<m.next:=hs.mz wa p hp;have kz:∀b,({m.a8 wa {}with wg:=some wa,opn:=l,floor:=m.next}:Mem).blk b=if wa=b then{aZ:=m.tick}else m.blk b:=fun b=>Mem.dE ..
 have hR:∀b x,({m.a8 wa {}with wg:=some wa,opn:=l,floor:=m.next}:Mem).nK b x->b≠wa/\m.nK b x:=by
  intro b x hr;obtain⟨h1,h2,h3⟩:=hr;rw[kz]at h1 h3
  by_cases e:wa=b
  ·rw[bC e]at h1;cases h1
  ·rw[bS e]at h1 h3;exact⟨fun x=>e x.symm,h1,h2,h3⟩
 have hW:∀b x,({m.a8 wa {}with wg:=some wa,opn:=l,floor:=m.next}:Mem).okW b x->m.okW b x:=by
  intro b x hw;obtain⟨h1,h2⟩:=hw;have h3:=(hR b x h1).2;refine⟨h3,.inl ?_⟩;rcases h2 with h2|h2
  ·exact absurd h3.1 (by rw[H.wf.x8 b h2];simp)
  ·obtain⟨s,sE,g1,g2,_⟩:=mT h2;obtain⟨e1,_,e3,_⟩:=G7 c9 s sE;omega
 have RI:∀b x,(az ρ {m.a8 wa {}with wg:=some wa,opn:=l,floor:=m.next}).rd b x->(az ρ m).rd b x:=fun b x ⟨b',p',g1,g2,g3,g4,g5⟩=>⟨b',p',g1,g2,g3,g4,(hR _ _ g5).2⟩
 have ahh:∀b x,(az ρ {m.a8 wa {}with wg:=some wa,opn:=l,floor:=m.next}).wr b x->(az ρ m).wr b x:=fun b x ⟨b',p',g1,g2,g3,g4,g5⟩=>⟨b',p',g1,g2,g3,g4,hW _ _ g5⟩
 have yE:∀b,(az ρ {m.a8 wa {}with wg:=some wa,opn:=l,floor:=m.next}).ob b->(az ρ m).ob b:=by
  rintro b ⟨b',p',g1,g2,g3,g4⟩;rw[kz]at g3
  by_cases e:wa=b'
  ·rw[bC e]at g3;rcases g3 with g3|g3<;>cases g3
  ·rw[bS e]at g3;exact⟨b',p',g1,g2,g3,g4⟩
 have ac3:fH ρ ({m.a8 wa {}with wg:=some wa,opn:=l,floor:=m.next}:Mem) w:=(hs.kill wa).fields m.next l (some wa) m.pend;have hwc:rX p.c w 0 0:=by
  have hv:∀i,i<2->∀u,m.cell wa i=some u->(∀u',aQ ρ u u'->u'=u)->w.cell? ⟨p.c,i,none⟩=some u:=by
   intro i hi u hu fj;obtain⟨v',g1,g2⟩:=hs.lj wa p i u hp hu;rw[hd,Nat.zero_add]at g1;rw[g1,fj v' g2]
  refine⟨hv 0 aj _ ?_ fun u' hu=>(aF (by rfl)).1 hu,hv 1 aj _ ?_ fun u' hu=>(aF (by rfl)).1 hu,fun x hx=>?_⟩
  ·obtain⟨v,g1,g2⟩:=lF 0 aj;simp only[List.getElem?_cons_zero,ah]at g1;subst g1;exact g2
  ·obtain⟨v,g1,g2⟩:=lF 1 aj;simp only[List.getElem?_cons_succ,List.getElem?_cons_zero,ah]at g1;subst g1;exact g2
  ·have :=hs.thaw wa p x hp aj hk s9;rw[hd,Nat.zero_add]at this;exact this
 have JA:∀x,x<=1->¬((az ρ {m.a8 wa {}with wg:=some wa,opn:=l,floor:=m.next}).or E).rd p.c x:=by
  intro x hx hr;rcases hr with⟨b',p',g1,g2,g3,g4,g5⟩|hr
  ·obtain⟨dH,er⟩:=hR _ _ g5;obtain⟨_,_,h3⟩:=hs.sep b' wa p' p dH g1 hp (by rw[er.1];simp) (by rw[hk];simp) g2;omega
  ·exact(H.apart.cell p.c x hr).2 (uj x aj)
 refine⟨hd,⟨ac3,H.rest,⟨fun b x he=>⟨(H.apart.cell b x he).1,fun hw=>(H.apart.cell b x he).2 (ahh b x hw)⟩,fun b he=>⟨(H.apart.obj b he).1,fun hw=>(H.apart.obj b he).2.1 (yE b hw),(H.apart.obj b he).2.2⟩,H.apart.wf⟩,H.oj,?_,?_,fun b q x g1 gb g3 g4 g5=>H.Nq b q x g1 gb g3 g4 (hR _ _ g5).2,fun b x he hr=>H.ew b x he (RI b x hr)⟩,
  ⟨fun b x hr=>hr.imp (RI b x) id,fun b x hw=>hw.imp (ahh b x) id,fun b hb=>hb.imp (yE b) id⟩,fun b x hw=>hw.elim (fun y=> .inl (lX y)) fun y=> .inr (H.apart.wf b x y),rfl,.inl (uj 0 aj),.inl (uj 1 aj),hwc,JA⟩
 ·refine⟨rfl,de,⟨hgh,by show m.base<=m.next;rw[<-c8];exact H.wf.fl⟩,wa,rfl,H3,H3,fun q hq=>?_,?_⟩
  ·rw[hp]at hq;cases hq;exact⟨rfl,hd⟩
  ·refine⟨?_,fun x hx=>?_,?_⟩
   ·show bB _ m.pend []
    rw[hgp];trivial
   ·have vq:x∈m.bl:=hx;rw[c5]at vq;cases vq
   ·show m.pend.Pairwise _
    rw[hgp];exact List.Pairwise.nil
 ·have hw:=(jk.own c2).2.2 H.wf;exact⟨hw.aZ,hw.x8,hw.bl,ai _,hw.live⟩
end
end Go.AM
