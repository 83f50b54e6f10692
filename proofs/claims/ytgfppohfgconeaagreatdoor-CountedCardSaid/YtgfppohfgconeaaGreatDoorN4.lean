/-
  What the claim stands on, part 4.
-/
import Derived.Test.YtgfppohfgconeaaGreatDoorN3
import Derived.Conc.CompanyDraw
import Derived.Conc.CrowdBase
import Derived.Conc.Beside
set_option linter.unusedVariables false
set_option linter.unusedSimpArgs false
open Go renaming Value → ae, Goroutine → ak, World → ay, Program → aD, Oper → im
open Bool renaming and_eq_true → ag, false_eq_true → bO
open Option.some renaming injEq → ah
open Nat renaming le_refl → ai, eq_of_beq_eq_true → az, lt_of_lt_of_le → a8
open Prod.mk renaming injEq → au
open Option renaming map_eq_some_iff → aB, map_some → cT
open List renaming all_eq_true → aE, mem_cons → aR
namespace Go.AM
open Go Go.Conc
def Out (e:Exit)(k todo:List Item):Prop:=
 match e with
 | .normal=>todo=k
 | .ret=>∃k',todo= .code .ret::k'
 | .exit id=>∃k',todo= .code (.exit id)::k'/\exitTo id k'=exitTo id k
 | .goto l=>∃k',todo= .code (.goto l)::k'/\gotoIn l k'=gotoIn l k
 |_=>False
structure eM (P:aD)(J:JT)(nt:Nat)(st jR:Ss)(A:List Item)(B:List Item->Prop)(c:Nat):Prop where
 go:∀{E:Perm}{bg:ay}{σ:mA}{ρ:cZ}{w:ay}{b:Frame}{a:Act}{cs:List Frame}{n:Nat},b.kind≠ .early->cQ P E bg σ ρ st.mem w->s7 nt ρ st.tm st.df a->
  (∀fX bq w' a' todo,B todo->ρ.le bq->qU st.mem ρ bq->cQ P E bg fX bq jR.mem w'->s7 nt bq jR.tm jR.df a'->J fX n ((aA bq jR.mem).or E) (G (b.at a' todo) cs) w')->
  J σ (n+c) ((aA ρ st.mem).or E) (G (b.at a A) cs) w
section
variable {P:aD}{X:Ext}{main:Bool}{J:JT}{F:Mem->Mem->Prop}{nt:Nat}{call:bJ}
theorem eM.trans{st Nc ZY:Ss}{A:List Item}{B C:List Item->Prop}{c d:Nat}(h:eM P J nt st Nc A B c)(hn:Mv st.mem Nc.mem)(k:∀A',B A'->eM P J nt Nc ZY A' C d):eM P J nt st ZY A C (d+c):=by
 refine⟨fun{E bg σ ρ w b a cs n} hk H ha Og=>?_⟩;rw[<-Nat.add_assoc];refine h.go hk H ha fun fX bq w' a' todo hB hle hold H' mQ=>(k todo hB).go hk H' mQ fun s9 eY iF ML XF hC oe kQ qe xI=>Og s9 eY iF ML XF hC (cZ.le_trans hle oe) (hold.trans hn kQ) qe xI
theorem eM.weaken{st jR:Ss}{A:List Item}{B C:List Item->Prop}{c:Nat}(h:eM P J nt st jR A B c)(k:∀A',B A'->C A'):eM P J nt st jR A C c:=by
 refine⟨fun{E bg σ ρ w b a cs n} hk H ha Og=>?_⟩;exact h.go hk H ha fun fX bq w' a' todo hB=>Og fX bq w' a' todo (k todo hB)
theorem eM.here{st:Ss}{A:List Item}{B:List Item->Prop}(h:B A):eM P J nt st st A B 0:=by
 refine⟨fun{E bg σ ρ w b a cs n} hk H ha Og=>?_⟩;exact Og σ ρ w a A h (cZ.le_refl _) (.of fun _ _=>rfl) H ha
theorem eM.move(hJ:∀σ,gi P main (J σ)){st:Ss}{A A':List Item}(h:∀{b:Frame}{a:Act}{cs:List Frame}{w:ay},stepG P main (G (b.at a A) cs) w= .go (G (b.at a A') cs) w #[]):eM P J nt st st A (·=A') 1:=by
 refine⟨fun{E bg σ ρ w b a cs n} hk H ha Og=>?_⟩;refine mM (hJ σ) rfl (fun w=>h) fun aN jM=>?_
 exact Og σ ρ aN a A' rfl (cZ.le_refl _) (.of fun _ _=>rfl) (H.keeps jM) ha
theorem xC (hJ:∀σ,gi P main (J σ))(hX:qf P X)(hF:wz F)(C:fe P X main J F call)(qx:nt<=512){ops:Array im}:∀{l:List Nat}{f:iC}{tm:Tm}{m:Mem}{df:Df}{r:Ss},ir P nt ops (l.map fun i=>(0,i,0))=some f->f call tm m df=some r->Wf m->
  F m r.mem/\∃c,∀k,eM P J nt ⟨tm,m,df⟩ r (.inRegion ops l::k) (·= .inRegion ops []::k) c
 | [],f,tm,m,df,r,h,hf,hw=>by
  unfold ir at h;simp only[List.map_nil]at h;cases h;unfold Ze at hf;simp only[ah]at hf;subst hf;exact⟨hF.refl _,0,fun k=>eM.here rfl⟩
 |i::l,f,tm,m,df,r,h,hf,hw=>by
  simp only[List.map_cons]at h;obtain⟨rest,hr,ht⟩:=kZ h;obtain⟨fC,m',ma,km,GZ,_⟩:=pd ht hf;obtain⟨g1,c,g2⟩:=SY hJ hX hF C qx hw km;obtain⟨h1,c',h2⟩:=xC hJ hX hF C qx hr GZ ((hF.mv g1).wf hw);refine⟨hF.trans g1 h1,c'+c,fun k=>?_⟩;refine eM.trans (Nc:=⟨fC,m',ma⟩) (B:=(·= .inRegion ops l::k)) ?_ (hF.mv g1) fun A' hA=>by subst hA;exact h2 k
  refine⟨fun{E bg σ ρ w b a cs n} hk H ha Og=>?_⟩;exact g2 hk H ha fun fX bq w' a' hle hold H' mQ=>Og fX bq w' a' _ rfl hle hold H' mQ
theorem Ih (hm:P.follows .mixedOrders=true)(ops:Array im)(t:Nat):Region.schedule (P.follows .mixedOrders) ops t=Region.linearise .any ops t:=by
 unfold Region.schedule;rw[hm];rfl
theorem Ip (hJ:∀σ,gi P main (J σ))(hX:qf P X)(hF:wz F)(C:fe P X main J F call)(qx:nt<=512){id:Nat}{ops:Array im}{draw:Bool}{n:Nat}{f:Go.AM.F}(h:comp P nt (n+1) (.region id ops draw)=some f){st jR:Ss}{e:Exit}(hf:f call st=some (e,jR))(hw:Wf st.mem):
  e= .normal/\F st.mem jR.mem/\∃c,∀k,eM P J nt st jR (.code (.region id ops draw)::k) (·=k) c:=by
 unfold comp at h;simp only[]at h;have I9:∀o:iC,PC o call st=some (e,jR)->e= .normal/\o call st.tm st.mem st.df=some jR:=by
  intro o ho;unfold PC at ho
  split at ho
  ·rename_i s hs;simp only[ah,au]at ho;obtain⟨rfl,rfl⟩:=ho;exact⟨rfl,hs⟩
  ·cases ho
 have G0:∀k,eM P J nt jR jR (.inRegion ops []::k) (·=k) 1:=fun k=>eM.move hJ stepG_region_end
 cases draw with
 |false=>
  simp only[bO,if_false]at h
  split at h
  ·rename_i o ho;cases h;obtain⟨h1,h2⟩:=I9 o hf;obtain⟨g1,c,g2⟩:=xC hJ hX hF C qx ho h2 hw;refine⟨h1,g1,(1+c)+1,fun k=>eM.trans (eM.move hJ stepG_region) (Mv.refl _) fun A hA=>?_⟩;subst hA;exact eM.trans (g2 k) (hF.mv g1) fun A hA=>by subst hA;exact G0 k
  ·cases h
 |true=>
  simp only[if_true]at h
  split at h
  ·rename_i T hT
   split at h
   ·rename_i o ho;cases h;obtain⟨h1,h2⟩:=I9 o hf;unfold Wi at hT;simp only[]at hT
    split at hT
    ·rename_i hc;simp only[ah]at hT;subst hT;simp only[ag]at hc;have R:=SE qx hc.1.1.1 hc.1.1.2 hc.1.2 hc.2;have hex:Ex ops nt jR st.tm (SS ops (Region.before ops) []) st.tm:=fun t ht=>⟨fun i hi=>(by
      rcases hi with⟨_,hi⟩|hi
      ·exact absurd hi (Nat.not_lt_zero _)
      ·cases hi),fun _=>rfl⟩
     obtain⟨g1,c,g2⟩:=KZ (pR:=st.mem.next) hJ hX hF C R (rest:=aF ops) (pre:=[]) (sF:=fun _=>st.tm) (vI:=fun _=>undef) rfl ho h2 hw hex (ai _)
      ⟨fun i _ hi=>absurd hi (Nat.not_lt_zero _),fun i _ hi=>absurd hi (Nat.not_lt_zero _),fun i j _ _ hi=>absurd hi (Nat.not_lt_zero _)⟩
     refine⟨h1,g1,1+(c+ops.size)+1,fun k=>?_⟩;refine⟨fun{E bg σ ρ w b a cs n} hk H ha Og=>?_⟩;rw[<-Nat.add_assoc];refine(hJ σ).step rfl fun aN jM=>?_
     have gp:=H.keeps jM;have ak3:=bh.at ((aA ρ st.mem).or E) aN (aN.drawn+1);refine⟨_,{aN with drawn:=aN.drawn+1},#[],(aA ρ st.mem).or E,⟨stepG_region_draw,⟨rfl,rfl,rfl,ai _,fun _ _=>rfl,fun _ _ _ _=>rfl,fun _ _ _=>rfl,fun _ _ _ _=>rfl⟩,fun e he=>by simp at he,eJ.refl _ _,rfl,fun h=>⟨h.rd,h.wr,h.ob⟩⟩,?_⟩;rw[Ih hX.mixed];have hL:=IC R.ord (aN.tape aN.drawn (.order b.fn id));have hlen:(Region.linearise .any ops (aN.tape aN.drawn (.order b.fn id))).length<=ops.size:=by
      have h3:=hL.nodup.length_le_of_subset (fun x hx=>List.mem_range.2 (hL.lt x hx));simpa using h3
     have qe:=gp.keeps ak3;have :=g2 (l:=Region.linearise .any ops (aN.tape aN.drawn (.order b.fn id))) (D:=fun _=>False) (n:=n+1) (k:=k) (cs:=cs) hk hL cY (fun _ _ h=>h) qe ⟨ha.size,fun t ht i hi=>hi.elim,fun t ht _=>ha.tm t ht⟩ ha.df (fun i _ hi=>absurd hi (Nat.not_lt_zero _))
      (fun fX bq w' a' hle hold H' mQ=>by
       refine(G0 k).go hk H' mQ fun s9 eY iF ML todo ht oe kQ qe xI=>?_
       exact Og s9 eY iF ML todo ht (cZ.le_trans hle oe) (qU.trans (hF.mv g1) (.of hold) kQ) qe xI)
     exact(hJ σ).le aj this
    ·cases hT
   ·cases h
  ·cases h
end
end Go.AM
namespace Go.AM
open Go Go.Conc
theorem X1 {e:Exit}(he:e≠ .normal){x:Code}{k todo:List Item}(h:Out e (.code x::k) todo):Out e k todo:=by
 cases e with
 |normal=>exact absurd rfl he
 |ret=>exact h
 |exit id=>exact h
 |goto l=>exact h
 |_=>exact h.elim
section
variable {P:aD}{X:Ext}{main:Bool}{J:JT}{F:Mem->Mem->Prop}{nt:Nat}{call:bJ}
theorem Dx {b:Frame}{a:Act}{k:List Item}{cs:List Frame}{w:ay}{c:Code}:stepG P main (G (b.at a (.inScope c::k)) cs) w= .go (G (b.at a k) cs) w:=by simp[G,stepG,stepG.exec,Frame.at]
theorem H7 {b:Frame}{a:Act}{k:List Item}{cs:List Frame}{w:ay}{c:Code}:stepG P main (G (b.at a (.code (.scope c)::k)) cs) w= .go (G (b.at a (.code c:: .inScope c::k)) cs) w:=by simp[G,stepG,stepG.exec,Frame.at]
theorem KS {b:Frame}{a:Act}{k k':List Item}{cs:List Frame}{w:ay}{l:Nat}(h:gotoIn l k=some k'):stepG P main (G (b.at a (.code (.goto l)::k)) cs) w= .go (G (b.at a k') cs) w:=by simp[G,stepG,stepG.exec,Frame.at,h]
def HA (P:aD)(J:JT)(F:Mem->Mem->Prop)(nt:Nat)(call:bJ)(c:Code)(f:Go.AM.F):Prop:=
 ∀{st jR:Ss}{e:Exit},f call st=some (e,jR)->Wf st.mem->F st.mem jR.mem/\∃n,∀k,eM P J nt st jR (.code c::k) (Out e k) n
theorem ER (hJ:∀σ,gi P main (J σ))(hF:wz F){body:Code}{fb:Go.AM.F}(hb:HA P J F nt call body fb):∀(N:Nat) {st jR:Ss}{e:Exit},xo fb call N st=some (e,jR)->Wf st.mem->
  F st.mem jR.mem/\∃n,∀k,eM P J nt st jR (.code body:: .inLoop body::k) (Out e k) n
 |0,st,jR,e,h,_=>by cases h
 |N+1,st,jR,e,h,hw=>by
  unfold xo at h
  split at h
  ·rename_i jB h1;obtain⟨g1,n,g2⟩:=hb h1 hw;obtain⟨g3,m,g4⟩:=ER hJ hF hb N h ((hF.mv g1).wf hw);refine⟨hF.trans g1 g3,(m+1)+n,fun k=>eM.trans (g2 _) (hF.mv g1) fun A hA=>?_⟩;have hA':A= .inLoop body::k:=hA;subst hA';exact eM.trans (eM.move hJ stepG_inLoop) (Mv.refl _) fun A hA=>by subst hA;exact g4 k
  ·rename_i r dO;obtain⟨g1,n,g2⟩:=hb h hw;refine⟨g1,n,fun k=>(g2 (.inLoop body::k)).weaken fun A hA=>?_⟩;cases e with
   |normal=>exact absurd h (dO jR)
   |ret=>exact hA
   |exit id=>exact hA
   |goto l=>exact hA
   |_=>exact hA.elim
theorem BB (hJ:∀σ,gi P main (J σ))(hF:wz F){body:Code}{has:Nat->Bool}{Sx:Nat->Option Go.AM.F}(gZ:∀l c f,findLabel body l=some c->Sx l=some f->HA P J F nt call c f)(adg:∀l,has l=(findLabel body l).isSome):
  ∀(N:Nat) {c:Code}{fb:Go.AM.F},HA P J F nt call c fb->∀{st jR:Ss}{e:Exit},yF has Sx call N fb st=some (e,jR)->Wf st.mem->
   F st.mem jR.mem/\∃n,∀k,eM P J nt st jR (.code c:: .inScope body::k) (Out e k) n
 |0,c,fb,_,st,jR,e,h,_=>by cases h
 |N+1,c,fb,hc,st,jR,e,h,hw=>by
  unfold yF at h
  split at h
  ·rename_i l jB h1;obtain⟨g1,n,g2⟩:=hc h1 hw;cases HF:findLabel body l with
   |some c2=>
    rw[adg,HF]at h;simp only[Option.isSome_some,if_true]at h
    split at h
    ·rename_i f2 Md;obtain⟨g3,m,g4⟩:=BB hJ hF gZ adg N (gZ l c2 f2 HF Md) h ((hF.mv g1).wf hw);refine⟨hF.trans g1 g3,(m+1)+n,fun k=>eM.trans (g2 _) (hF.mv g1) fun A hA=>?_⟩;obtain⟨k',rfl,hg⟩:=hA;have GX:gotoIn l k'=some (.code c2:: .inScope body::k):=by
      rw[hg]
      show gotoIn l (.inScope body::k)=_
      simp only[gotoIn,HF]
     exact eM.trans (eM.move hJ (KS GX)) (Mv.refl _) fun A hA=>by subst hA;exact g4 k
    ·cases h
   |none=>
    rw[adg,HF]at h;simp only[Option.isSome_none,bO,if_false,ah,au]at h;obtain⟨rfl,rfl⟩:=h;refine⟨g1,n,fun k=>(g2 _).weaken fun A hA=>?_⟩;obtain⟨k',rfl,hg⟩:=hA;refine⟨k',rfl,?_⟩;rw[hg];simp only[gotoIn,HF]
  ·rename_i r dO;obtain⟨g1,n,g2⟩:=hc h hw;cases e with
   |normal=>
    refine⟨g1,1+n,fun k=>eM.trans (g2 _) (hF.mv g1) fun A hA=>?_⟩;have hA':A= .inScope body::k:=hA;subst hA';exact eM.move hJ Dx
   |ret=>exact⟨g1,n,fun k=>(g2 _).weaken fun A hA=>hA⟩
   |exit id=>exact⟨g1,n,fun k=>(g2 _).weaken fun A hA=>hA⟩
   |goto l=>exact absurd h (dO l jR)
   |_=>exact⟨g1,n,fun k=>(g2 _).weaken fun A hA=>hA.elim⟩
theorem Fw (hJ:∀σ,gi P main (J σ))(hX:qf P X)(hF:wz F)(C:fe P X main J F call)(qx:nt<=512):∀(n:Nat) (c:Code) (f:Go.AM.F),comp P nt n c=some f->HA P J F nt call c f:=by
 intro n
 induction n with
 |zero=>intro c f h;unfold comp at h;cases h
 |succ n ih=>
  intro c f h st jR e hf hw;cases c with
  |skip=>
   unfold comp at h;cases h;unfold wY at hf;simp only[ah,au]at hf;obtain⟨rfl,rfl⟩:=hf;exact⟨hF.refl _,1,fun k=>eM.move hJ stepG_skip⟩
  |label l=>
   unfold comp at h;cases h;unfold wY at hf;simp only[ah,au]at hf;obtain⟨rfl,rfl⟩:=hf;exact⟨hF.refl _,1,fun k=>eM.move hJ stepG_label⟩
  |seq a b=>
   unfold comp at h;simp only[]at h
   split at h
   ·rename_i fa ha
    split at h
    ·rename_i fb hb;cases h;unfold oF at hf
     split at hf
     ·rename_i jB h1;obtain⟨g1,n1,g2⟩:=ih a fa ha h1 hw;obtain⟨g3,n2,g4⟩:=ih b fb hb hf ((hF.mv g1).wf hw);refine⟨hF.trans g1 g3,(n2+n1)+1,fun k=>eM.trans (eM.move hJ stepG_seq) (Mv.refl _) fun A hA=>?_⟩;subst hA;exact eM.trans (g2 _) (hF.mv g1) fun A hA=>by
       have hA':A= .code b::k:=hA;subst hA';exact g4 k
     ·rename_i dO;obtain⟨g1,n1,g2⟩:=ih a fa ha hf hw;refine⟨g1,n1+1,fun k=>eM.trans (eM.move hJ stepG_seq) (Mv.refl _) fun A hA=>?_⟩;subst hA;exact(g2 _).weaken fun A hA=>X1 (fun he=>dO jR (by rw[hf,he])) hA
    ·cases h
   ·cases h
  |cond x a b=>
   unfold comp at h;simp only[]at h
   split at h
   ·rename_i hgx
    split at h
    ·rename_i fa ha
     split at h
     ·rename_i fb hb;have hcf:=aK h;cases hcf;unfold Wq at hf;have vi:∀(t:Bool),dj st.tm x= .bool t->∀k,eM P J nt st st (.code (.cond x a b)::k) (·= .code (if t then a else b)::k) 1:=by
       intro t ht k;refine⟨fun{E bg σ ρ w bb aa cs n} hk H haa Og=>?_⟩;have hv:=Jz haa.tm H hgx;rw[ht]at hv;have dP:aa.eval x= .bool t:=(aG rfl).1 hv;refine mM (hJ σ) rfl (fun w=>stepG_cond dP) fun aN jM=>?_
       exact Og σ ρ aN aa _ rfl (cZ.le_refl _) (.of fun _ _=>rfl) (H.keeps jM) haa
      split at hf
      ·rename_i ht;obtain⟨g1,n1,g2⟩:=ih a fa ha hf hw;exact⟨g1,n1+1,fun k=>eM.trans (vi true ht k) (Mv.refl _) fun A hA=>by subst hA;exact g2 k⟩
      ·rename_i ht;obtain⟨g1,n1,g2⟩:=ih b fb hb hf hw;exact⟨g1,n1+1,fun k=>eM.trans (vi false ht k) (Mv.refl _) fun A hA=>by subst hA;exact g2 k⟩
      ·cases hf
     ·cases h
    ·cases h
   ·cases h
  |block id b=>
   unfold comp at h;simp only[]at h
   split at h
   ·rename_i fb hb;cases h;unfold Ht at hf
    split at hf
    ·rename_i j jB h1;obtain⟨g1,n1,g2⟩:=ih b fb hb h1 hw
     split at hf
     ·rename_i hj;simp only[ah,au]at hf;obtain⟨rfl,rfl⟩:=hf;have qy:=az hj;subst qy;refine⟨g1,(1+n1)+1,fun k=>eM.trans (eM.move hJ stepG_block) (Mv.refl _) fun A hA=>?_⟩;subst hA;refine eM.trans (g2 _) (hF.mv g1) fun A hA=>?_
      obtain⟨k',rfl,he⟩:=hA;have E4:exitTo j k'=some k:=by rw[he];simp[exitTo]
      exact eM.move hJ (stepG_exit E4)
     ·rename_i hj;simp only[ah,au]at hf;obtain⟨rfl,rfl⟩:=hf;refine⟨g1,n1+1,fun k=>eM.trans (eM.move hJ stepG_block) (Mv.refl _) fun A hA=>?_⟩;subst hA;refine(g2 _).weaken fun A hA=>?_
      obtain⟨k',rfl,he⟩:=hA;refine⟨k',rfl,?_⟩;rw[he];have dO:(id==j)=false:=by
       rw[J7]at hj;simp only[jE]at hj;simpa using fun h=>hj h.symm
      simp only[exitTo,dO,bO,if_false]
    ·rename_i dO;obtain⟨g1,n1,g2⟩:=ih b fb hb hf hw;cases e with
     |normal=>
      refine⟨g1,(1+n1)+1,fun k=>eM.trans (eM.move hJ stepG_block) (Mv.refl _) fun A hA=>?_⟩;subst hA;refine eM.trans (g2 _) (hF.mv g1) fun A hA=>?_
      have hA':A= .inBlock id::k:=hA;subst hA';exact eM.move hJ stepG_inBlock
     |exit j=>exact absurd hf (dO j jR)
     |ret=>exact⟨g1,n1+1,fun k=>eM.trans (eM.move hJ stepG_block) (Mv.refl _) fun A hA=>by subst hA;exact(g2 _).weaken fun A hA=>hA⟩
     |goto l=>exact⟨g1,n1+1,fun k=>eM.trans (eM.move hJ stepG_block) (Mv.refl _) fun A hA=>by subst hA;exact(g2 _).weaken fun A hA=>hA⟩
     |_=>exact⟨g1,n1+1,fun k=>eM.trans (eM.move hJ stepG_block) (Mv.refl _) fun A hA=>by subst hA;exact(g2 _).weaken fun A hA=>hA.elim⟩
   ·cases h
  |loop b=>
   unfold comp at h;simp only[]at h
   split at h
   ·rename_i fb hb;cases h;unfold aaj at hf;obtain⟨g1,n1,g2⟩:=ER hJ hF (ih b fb hb) _ hf hw;exact⟨g1,n1+1,fun k=>eM.trans (eM.move hJ stepG_loop) (Mv.refl _) fun A hA=>by subst hA;exact g2 k⟩
   ·cases h
  |exit id=>
   unfold comp at h;cases h;unfold Fg at hf;simp only[ah,au]at hf;obtain⟨rfl,rfl⟩:=hf;exact⟨hF.refl _,0,fun k=>eM.here ⟨k,rfl,rfl⟩⟩
  |ret=>
   unfold comp at h;cases h;unfold Fg at hf;simp only[ah,au]at hf;obtain⟨rfl,rfl⟩:=hf;exact⟨hF.refl _,0,fun k=>eM.here ⟨k,rfl⟩⟩
  |goto l=>
   unfold comp at h;cases h;unfold Fg at hf;simp only[ah,au]at hf;obtain⟨rfl,rfl⟩:=hf;exact⟨hF.refl _,0,fun k=>eM.here ⟨k,rfl,rfl⟩⟩
  |scope b=>
   unfold comp at h;simp only[]at h
   split at h
   ·rename_i fb hb;cases h;obtain⟨g1,n1,g2⟩:=BB hJ hF (body:=b) (has:=fun l=>(findLabel b l).isSome) (Sx:=fun l=>(findLabel b l).bind (comp P nt n)) (fun l c2 f2 HF Md=>ih c2 f2 (by rw[HF]at Md;exact Md)) (fun l=>rfl) _ (ih b fb hb) hf hw;exact⟨g1,n1+1,fun k=>eM.trans (eM.move hJ H7) (Mv.refl _) fun A hA=>by subst hA;exact g2 k⟩
   ·cases h
  |region id ops draw=>
   obtain⟨rfl,g1,c,g2⟩:=Ip hJ hX hF C qx h hf hw;exact⟨g1,c,fun k=>(g2 k).weaken fun A hA=>hA⟩
  |_=>unfold comp at h;cases h
end
end Go.AM
namespace Go.AM
open Go Go.Conc
theorem nQ (l:List ae):Kr l=l.getD 0 undef:=by cases l<;>rfl
theorem cO (l:List ae)(i:Nat):(kh l).getD i undef=l.getD (i+1) undef:=by cases l<;>simp[kh]
theorem Bm (l:List ae)(i:Nat):(Q3 l).getD i undef=l.getD (i+8) undef:=by
 unfold Q3;simp only[cO]
theorem Ik (l:List ae){i:Nat}(hi:i<8):(Ga l).get i=l.getD i undef:=by
 match i,hi with
 |0,_=>exact nQ l
 |1,_=>show Kr (kh l)=_;rw[nQ,cO]
 |2,_=>show Kr (kh (kh l))=_;rw[nQ,cO,cO]
 |3,_=>show Kr (kh (kh (kh l)))=_;rw[nQ,cO,cO,cO]
 |4,_=>show Kr (kh (kh (kh (kh l))))=_;rw[nQ,cO,cO,cO,cO]
 |5,_=>show Kr (kh (kh (kh (kh (kh l)))))=_;rw[nQ,cO,cO,cO,cO,cO]
 |6,_=>show Kr (kh (kh (kh (kh (kh (kh l))))))=_;rw[nQ,cO,cO,cO,cO,cO,cO]
 |7,_=>show Kr (kh (kh (kh (kh (kh (kh (kh l)))))))=_;rw[nQ,cO,cO,cO,cO,cO,cO,cO]
theorem RX {l:List ae}{tm:Tm}(h:Dw l=some tm){t:Nat}(ht:t<512):cV t tm=l.getD t undef:=by
 have hlen:∀i,l.getD (i+16) undef=undef:=fun i=>by
  rw[show i+16=(i+8)+8 by omega,<-Bm,<-Bm];unfold Dw at h
  split at h
  ·rename_i e;rw[e];rfl
  ·cases h
 unfold Dw at h
 split at h
 ·simp only[ah]at h;subst h;have d (x k:Nat):rO x k=x / k%8:=rfl;have e8:Nat.mod t 8=t%8:=rfl;have aar:∀i,pX.get i=undef:=fun i=>N8.G7 _ _
  have acT:∀i,iP.get i=pX:=fun i=>N8.G7 _ _
  unfold cV
  by_cases h1:t<64
  ·rw[show rO t 64=0 by rw[d];omega]
   show((⟨Ga l,Ga (Q3 l),pX,pX,pX,pX,pX,pX⟩:N8 (N8 ae)).get (rO t 8)).get (Nat.mod t 8)=_
   by_cases h2:t<8
   ·rw[show rO t 8=0 by rw[d];omega]
    show(Ga l).get (Nat.mod t 8)=_
    rw[Ik _ aj,e8,Nat.mod_eq_of_lt h2]
   ·by_cases h3:t<16
    ·rw[show rO t 8=1 by rw[d];omega]
     show(Ga (Q3 l)).get (Nat.mod t 8)=_
     rw[Ik _ aj,Bm,e8]
     congr 1
     omega
    ·have hu:=hlen (t-16);rw[show t-16+16=t by omega]at hu;rw[hu];have :∀i,2<=i->i<8->(⟨Ga l,Ga (Q3 l),pX,pX,pX,pX,pX,pX⟩:N8 (N8 ae)).get i=pX:=fun i h1 h2=>by
      match i,h1,h2 with
      |2,_,_|3,_,_|4,_,_|5,_,_|6,_,_|7,_,_=>rfl
     rw[this _ (by rw[d];omega) (by rw[d];omega)];exact aar _
  ·have hu:=hlen (t-16);rw[show t-16+16=t by omega]at hu;rw[hu];have :∀(x:N8 (N8 ae)) i,1<=i->i<8->(⟨x,iP,iP,iP,iP,iP,iP,iP⟩:Tm).get i=iP:=fun x i h1 h2=>by
    match i,h1,h2 with
    |1,_,_|2,_,_|3,_,_|4,_,_|5,_,_|6,_,_|7,_,_=>rfl
   rw[this _ _ (by rw[d];omega) (by rw[d];omega),acT];exact aar _
 ·cases h
section
variable {P:aD}{X:Ext}{main:Bool}{J:JT}{F:Mem->Mem->Prop}{nt:Nat}{call:bJ}{E:Perm}{bg:ay}{σ:mA}{ρ:cZ}{m m':Mem}{w:ay}
theorem Fi {args:List ae}{bj:Array ae}{tm:Tm}(h:Dw args=some tm)(hr:bC (aP ρ) args bj.toList)(hl:args.length<=nt)(qx:nt<=512):s7 nt ρ tm [] {tmps:=bj++Array.replicate (nt-bj.size) undef,defers:=[]}:=by
 have hlen:bj.size=args.length:=by have :=hr.length;simpa using this.symm
 refine⟨by simp;omega,fun t ht=>?_,trivial⟩;rw[RX h aj];have e:(bj++Array.replicate (nt-bj.size) undef).getD t undef=bj.toList.getD t undef:=by
  rw[Array.getD_eq_getD_getElem?,List.getD_eq_getElem?_getD,Array.getElem?_append]
  split
  ·simp
  ·rename_i h1;have h2:bj.toList[t]?=none:=List.getElem?_eq_none (by simpa using h1);rw[h2,Array.getElem?_replicate]
   split<;>rfl
 rw[e];exact hr.getD mF t
theorem tC (hs:fI ρ m w){N:Nat}{tm:Tm}{a:Act}{df:Df}(ha:s7 nt ρ tm df a):∀{rs:List ResultVar}{vs:List ae},u2 P nt m tm rs=some vs->∀{Q:List ae->ay->Prop},(∀qX,bC (aP ρ) vs qX->Q qX w)->
  dA P (aA ρ m) N (rs.mapM fun r=>match r with | .tmp t=>(pure (a.tmps.getD t undef):Sem ae)| .cell x t=>do loadVar t (<-asAddr (a.tmps.getD x undef))) Q w
 | [],vs,h,Q,hq=>by
  simp only[u2,ah]at h;subst h;rw[List.mapM_nil];exact hq [] trivial
 | .tmp t::rs,vs,h,Q,hq=>by
  unfold u2 at h
  split at h
  ·rename_i ht;rw[jz,jE]at ht
   split at h
   ·rename_i vs1 h1;cases h;rw[List.mapM_cons,ar]
    show dA P (aA ρ m) N _ Q w
    rw[ar];exact tC hs ha h1 fun qX Qb=>hq _ ⟨ha.tm t ht,Qb⟩
   ·cases h
  ·cases h
 | .cell x t::rs,vs,h,Q,hq=>by
  unfold u2 at h
  split at h
  ·rename_i hx;rw[jz,jE]at hx
   split at h
   ·rename_i v vs1 hv h1;cases h;have hp:=ha.tm x hx;obtain⟨bb,oo,Ks⟩:∃b o,cV x tm= .pointer (some ⟨b,o,none⟩):=by
     unfold j9 at hv
     split at hv
     ·rename_i h2;exact⟨_,_,h2⟩
     ·cases hv
    rw[List.mapM_cons,ar];have aaw:=zZ (P:=P) (N:=N) hs hp hv (Q:=fun v' w'=>dA P (aA ρ m) N (rs.mapM fun r=>match r with | .tmp t=>(pure (a.tmps.getD t undef):Sem ae)| .cell x t=>do loadVar t (<-asAddr (a.tmps.getD x undef))) (fun qX iF=>Q (v'::qX) iF) w')
     fun v' Rd=>tC hs ha h1 fun qX Qb=>hq (v'::qX) ⟨Rd,Qb⟩
    rw[Ks]at hp;obtain⟨pl,dd,_,e⟩:=cH.1 hp;rw[e]at aaw;simp only[];rw[e];have ac8:dA P (aA ρ m) N (loadVar t ⟨pl.c,pl.d+oo,none⟩) (fun v' w'=>dA P (aA ρ m) N (rs.mapM fun r=>match r with | .tmp t=>(pure (a.tmps.getD t undef):Sem ae)| .cell x t=>do loadVar t (<-asAddr (a.tmps.getD x undef))) (fun qX iF=>Q (v'::qX) iF) w') w:=aaw
    show dA P (aA ρ m) N (loadVar t ⟨pl.c,pl.d+oo,none⟩) _ w
    refine IG ac8 fun v' w' h3=>?_
    rw[ar];exact h3
   ·cases h
  ·cases h
theorem zL (hs:fI ρ m w){N:Nat}{tm:Tm}{a:Act}{df:Df}(ha:s7 nt ρ tm df a){fn:Func}{v:ae}(h:lR P nt fn.results.toList tm m=some v){Q:ae->ay->Prop}(hq:∀v',aP ρ v v'->Q v' w):
  dA P (aA ρ m) N (results fn a.tmps) Q w:=by
 unfold results;rw[ar,Array.mapM_eq_mapM_toList]
 show dA P (aA ρ m) N (_<$> _) _ w
 rw[map_eq_pure_bind,ar];unfold lR at h;have fin:∀{vs:List ae},u2 P nt m tm fn.results.toList=some vs->v=(match vs with | [x]=>x|l=> .tuple l.toArray)->dA P (aA ρ m) N (fn.results.toList.mapM fun r=>match r with | .tmp t=>(pure (a.tmps.getD t undef):Sem ae)| .cell x t=>do loadVar t (<-asAddr (a.tmps.getD x undef)))
   (fun qX w'=>dA P (aA ρ m) N (pure qX.toArray) (fun Rx iF=>dA P (aA ρ m) N (pure (if h:Rx.size=1 then Rx[0]else .tuple Rx)) Q iF) w') w:=by
  intro vs Qb hv;refine tC hs ha Qb fun qX hr=>?_
  show Q (if h:qX.toArray.size=1 then qX.toArray[0]else .tuple qX.toArray) w
  refine hq _ ?_;rw[hv]
  match vs,qX,hr with
  | [],[],_=>exact dQ.2 ⟨_,rfl,trivial⟩
  | [x],[x'],hr=>exact hr.1
  |x::y::l,x'::y'::l',hr=>
   rw[dif_neg cY];exact dQ.2 ⟨_,rfl,hr⟩
 split at h
 ·rename_i u hu;cases h;exact fin hu rfl
 ·rename_i vs dO Qb;cases h;refine fin Qb ?_
  split
  ·rename_i x;exact absurd rfl (dO x)
  ·rfl
 ·cases h
theorem uY {b:Frame}{a:Act}{todo:List Item}{cs:List Frame}{ds:List Deferred}{f:FuncId}{fn:Func}{args cap:Array ae}{d:Deferred}(hd:a.defers=d::ds)(hdt:d={target:= .fn (.func f) cap,args:=args})(hf:P.funcs[f]?=some fn)(Je:(fn.name== "runtime.NumGoroutine")=false)(hb:fn.body.isSome=true):
  stepG P main (G {b.at a todo with mode:= .returning} cs) w= .go (G (Frame.enter P f (args++cap) .deferred) ({b.at ⟨a.tmps,ds⟩ todo with mode:= .returning}::cs)) w #[]:=by
 have h1:¬fn.name= "runtime.NumGoroutine":=by simpa using Je
 have h2:¬fn.body=none:=by cases hx:fn.body<;>simp_all
 subst hdt;simp[G,stepG,unwind,callDeferred,Frame.at,hd,invoke,callFunc,hf,h1,h2,GStep.after,seen_none]
theorem FY {b:Frame}{a:Act}{todo:List Item}{cs:List Frame}{fn:Func}{c:Frame}{v:ae}{w':ay}(hn:b.kind= .normal\/(b.kind= .deferred/\c.mode= .returning))(hd:a.defers=[])(hf:P.funcs[b.fn]?=some fn)(hr:(results fn a.tmps).run P w= .ok v w'):
  stepG P main (G {b.at a todo with mode:= .returning} (c::cs)) w= .go (G (if b.kind= .normal then c.finish v else c) cs) w' (seen P b.fn ((results fn a.tmps).events P w #[])):=by
 rcases hn with hn|⟨hn,hm⟩
 ·simp[G,stepG,unwind,doReturn,Frame.at,hn,hd,hf,hr,GStep.after]
 ·simp[G,stepG,unwind,doReturn,Frame.at,hn,hd,hf,hr,GStep.after,hm]
theorem ug (hJ:∀σ,gi P main (J σ))(hX:qf P X)(hF:wz F)(C:fe P X main J F call):∀{df:Df}{m m':Mem},oP P X call df m=some m'->Wf m->F m m'/\∃c,
  ∀{E:Perm}{bg:ay}{σ:mA}{ρ:cZ}{w:ay}{b:Frame}{a:Act}{todo:List Item}{cs:List Frame}{n:Nat}{tm:Tm},cQ P E bg σ ρ m w->s7 nt ρ tm df a->
   (∀fX bq w',ρ.le bq->qU m ρ bq->cQ P E bg fX bq m' w'->s7 nt bq tm [] ⟨a.tmps,[]⟩->J fX n ((aA bq m').or E) (G {b.at ⟨a.tmps,[]⟩ todo with mode:= .returning} cs) w')->
   J σ (n+c) ((aA ρ m).or E) (G {b.at a todo with mode:= .returning} cs) w
 | [],m,m',h,hw=>by
  simp only[oP,ah]at h;subst h;refine⟨hF.refl _,0,fun{E bg σ ρ w b a todo cs n tm} H ha hn=>?_⟩;have hd:a.defers=[]:=by
   have :=ha.df;cases h:a.defers with
   |nil=>rfl
   |cons x l=>rw[h]at this;exact this.elim
  have e:a=⟨a.tmps,[]⟩:=by cases a;simp only at hd;subst hd;rfl
  have :=hn σ ρ w (cZ.le_refl _) (.of fun _ _=>rfl) H (by rw[<-e];exact ha);rw[<-e]at this;exact this
 |(f,args)::ds,m,m',h,hw=>by
  unfold oP at h
  split at h
  ·rename_i hb;simp only[ag,Bool.not_eq_true',Bool.or_eq_false_iff]at hb;obtain⟨hb,nX,mr⟩:=hb
   split at h
   ·rename_i v m1 fK;obtain⟨g1,_,g2⟩:=C f args m v m1 hw fK;obtain⟨c,g2⟩:=g2 hb;obtain⟨h1,c',h2⟩:=ug hJ hX hF C h ((hF.mv g1).wf hw);obtain⟨fn,hf,ry⟩:=J4 hb;refine⟨hF.trans g1 h1,c'+c+1,fun{E bg σ ρ w b a todo cs n tm} H ha hn=>?_⟩;obtain⟨d,ds',u7⟩:∃d ds',a.defers=d::ds':=by
     have :=ha.df;cases h:a.defers with
     |nil=>rw[h]at this;exact this.elim
     |cons x l=>exact⟨x,l,rfl⟩
    have Xh:=ha.df;rw[u7]at Xh;obtain⟨⟨cap,hdt,hda⟩,gZ⟩:=Xh;have DW:d={target:= .fn (.func f) cap,args:=d.args}:=by cases d;simp only at hdt;subst hdt;rfl
    refine mM (hJ σ) rfl (fun w=>uY u7 DW hf (hX.names f fn hf ry) ry) fun aN jM=>?_
    have gp:=H.keeps jM
    show J σ (n+(c'+c)) _ _ _
    rw[<-Nat.add_assoc];refine g2 _ _ cs (n+c') .deferred gp hda (.inr ⟨rfl,rfl,Nat.ne_of_beq_eq_false nX,Nat.ne_of_beq_eq_false mr⟩) fun fX bq v' w' hle hold H' hv=>?_
    rw[bZ cY];refine h2 (a:=⟨a.tmps,ds'⟩) (tm:=tm) H' ⟨ha.size,fun t ht=>(ha.tm t ht).iA hle,gZ.mono fun _ _ x=>x.iA hle⟩ fun s9 eY iF oe kQ qe xI=>?_
    exact hn s9 eY iF (cZ.le_trans hle oe) (hold.trans (hF.mv g1) kQ) qe xI
   ·cases h
  ·cases h
theorem QH (hJ:∀σ,gi P main (J σ))(hX:qf P X)(hF:wz F)(C:fe P X main J F call){f:Nat}{fn:Func}{c:Code}(hf:P.funcs[f]?=some fn)(hc:fn.body=some c){n:Nat}{b:Go.AM.F}(qx:fn.ntmps<=512)(hb:comp P fn.ntmps n c=some b)
  {args:List ae}{m m':Mem}{v:ae}(hw:Wf m)(h:ye P X fn.ntmps fn.results.toList b call args m=some (v,m')):F m m'/\∃c,
   ∀{E:Perm}{bg:ay}{σ:mA}{ρ:cZ}{w:ay} (bj:Array ae) (fr:Frame) (cs:List Frame) (n:Nat) (kind:CallKind),
   cQ P E bg σ ρ m w->bC (aP ρ) args bj.toList->(kind= .normal\/(kind= .deferred/\fr.mode= .returning))->
   (∀fX bq v' w',ρ.le bq->qU m ρ bq->cQ P E bg fX bq m' w'->aP bq v v'->J fX n ((aA bq m').or E) (G (if kind= .normal then fr.finish v' else fr) cs) w')->
   J σ (n+c) ((aA ρ m).or E) (G (Frame.enter P f bj kind) (fr::cs)) w:=by
 unfold ye at h
 split at h
 ·cases h
 ·rename_i tm YE
  split at YE
  ·rename_i hlen;rw[yf,jE]at hlen
   split at h
   ·cases h
   ·rename_i st ei
    split at h
    ·cases h
    ·rename_i m2 nV
     split at h
     ·rename_i v2 Cd;cases h;unfold OH at ei;obtain⟨e,Jo,he⟩:∃e,b call ⟨tm,m,[]⟩=some (e,st)/\(e= .normal\/e= .ret):=by
       split at ei
       ·rename_i s hs;cases ei;exact⟨_,hs,.inl rfl⟩
       ·rename_i s hs;cases ei;exact⟨_,hs,.inr rfl⟩
       ·cases ei
      obtain⟨g1,c1,g2⟩:=Fw hJ hX hF C qx n c b hb Jo hw;have Oa:=(hF.mv g1).wf hw;obtain⟨g3,c2,g4⟩:=ug (nt:=fn.ntmps) hJ hX hF C nV Oa;refine⟨hF.trans g1 g3,((1+c2)+1)+c1,fun{E bg σ ρ w} bj fr cs n kind H hr iH hn=>?_⟩;have ha:=Fi YE hr hlen qx;obtain⟨bb,nA,HH,hbf⟩:∃bb:Frame,Frame.enter P f bj kind=bb.at {tmps:=bj++Array.replicate (fn.ntmps-bj.size) undef,defers:=[]} [.code c]/\bb.kind=kind/\bb.fn=f:=by
       rcases iH with rfl|⟨rfl,_⟩
       ·exact⟨base f,enter_at bj hf hc,rfl,rfl⟩
       ·exact⟨baseD f,enter_atD bj hf hc,rfl,rfl⟩
      have dO:bb.kind≠ .early:=by rw[HH];rcases iH with rfl|⟨rfl,_⟩<;>simp
      rw[nA,<-Nat.add_assoc];refine(g2 []).go dO H ha fun fX bq w' a' todo Vx hle hold H' mQ=>?_
      have acM:(∀aN,cQ P E bg fX bq st.mem aN->J fX (n+(1+c2)) ((aA bq st.mem).or E) (G {bb.at a' todo with mode:= .returning} (fr::cs)) aN)->J fX (n+((1+c2)+1)) ((aA bq st.mem).or E) (G (bb.at a' todo) (fr::cs)) w':=by
       intro hJ';have vi:∀w,stepG P main (G (bb.at a' todo) (fr::cs)) w= .go (G {bb.at a' todo with mode:= .returning} (fr::cs)) w #[]:=by
        intro w;rcases he with rfl|rfl
        ·have e:todo=[]:=Vx;subst e;exact stepG_end
        ·obtain⟨k',rfl⟩:=Vx;exact stepG_ret'
       exact mM (hJ fX) rfl vi fun aN jM=>hJ' aN (H'.keeps jM)
      refine acM fun aN gp=>?_
      rw[<-Nat.add_assoc];refine g4 (tm:=st.tm) gp mQ fun s9 eY iF oe kQ qe xI=>?_
      have kg:qU m ρ eY:=hold.trans (hF.mv g1) kQ;refine q5 hJ qe rfl fun o0 va=>?_
      obtain⟨v',Be,gY,⟨hv,Vl⟩,_,dP⟩:=mI (P:=P) (R:=aA eY m') (N:=o0.heap.size) (Q:=fun v' w'=>aP eY v v'/\w'=o0) (ai _)
       (zL (N:=o0.heap.size) va.jF (a:=⟨a'.tmps,[]⟩) xI Cd fun v' hv=>⟨hv,rfl⟩)
      rw[Vl]at gY;obtain⟨evs,y7,ep⟩:=dP #[];have mo:∀e∈seen P bb.fn ((results fn a'.tmps).events P o0 #[]),nT (aA eY m') e:=fun e hx=>ep e (by have :=mem_seen hx;rw[y7]at this;simpa using this)
      refine⟨_,eY,m',o0,_,FY (a:=⟨a'.tmps,[]⟩) (by rw[HH];exact iH) rfl (by rw[hbf];exact hf) gY,Left.refl va.jF,s8.refl ..,fun e he=> .inl (mo e he),(kI mo _).symm,?_⟩;rw[HH];exact hn s9 eY v' o0 (cZ.le_trans hle oe) kg va hv
     ·cases h
  ·cases YE
end
end Go.AM
namespace Go.AM
open Go Go.Conc
section
variable {P:aD}{X:Ext}{main:Bool}{J:JT}{F:Mem->Mem->Prop}
theorem Za {f:Nat}{args:List ae}{m m':Mem}{v:ae}(h:tZ X f args m=some (v,m')):wy m m':=by
 unfold tZ at h
 split at h
 ·split at h
  ·simp only[ah,au]at h;obtain⟨_,rfl⟩:=h;exact wy.deaf _ _
  ·cases h
 ·split at h
  ·split at h
   ·simp only[ah,au]at h;obtain⟨_,rfl⟩:=h;exact wy.deaf _ _
   ·cases h
  ·split at h
   ·split at h
    ·simp only[ah,au]at h;obtain⟨_,rfl⟩:=h;exact wy.refl _
    ·cases h
   ·split at h
    ·split at h
     ·simp only[ah,au]at h;obtain⟨_,rfl⟩:=h;exact wy.refl _
     ·cases h
    ·split at h
     ·split at h
      ·split at h
       ·split at h
        ·obtain⟨m2,yn,he⟩:=aB.1 h;simp only[au]at he;obtain⟨_,rfl⟩:=he;exact(jb.dD yn).w
        ·split at h
         ·simp only[ah,au]at h;obtain⟨_,rfl⟩:=h;exact wy.refl _
         ·cases h
       ·cases h
      ·cases h
     ·split at h
      ·split at h
       ·split at h
        ·obtain⟨m2,yn,he⟩:=aB.1 h;simp only[au]at he;obtain⟨_,rfl⟩:=he;exact(jb.dD yn).w
        ·cases h
       ·cases h
      ·cases h
theorem RY (hJ:∀σ,gi P main (J σ))(hX:qf P X)(hF:wz F){call:bJ}(C:fe P X main J F call):fe P X main J F fun f args m=>(kE P X f).body call args m:=by
 intro f args m v m' hw h
 replace h:(kE P X f).body call args m=some (v,m'):=h
 unfold kE at h
 split at h
 ·rename_i fn hf
  split at h
  ·rename_i c hc
   split at h
   ·rename_i b hb
    split at hb
    ·rename_i qx;rw[yf,jE]at qx;obtain⟨g1,k,g2⟩:=QH hJ hX hF C hf hc qx hb hw h;refine⟨g1,fun ry=>?_,fun _=>⟨k,fun bj fr cs n kind H hr hk hn=>g2 bj fr cs n kind H hr (hk.imp id fun h=>⟨h.1,h.2.1⟩) hn⟩⟩;unfold dE at ry;rw[hf]at ry;simp[hc]at ry
    ·cases hb
   ·cases h
  ·rename_i hc;refine⟨hF.fr (Za h),fun _=>h,fun ry=>?_⟩;unfold dE at ry;rw[hf]at ry;simp[hc]at ry
 ·cases h
theorem JV (hJ:∀σ,gi P main (J σ))(hX:qf P X)(hF:wz F):∀n,fe P X main J F (gJ P X n)
 |0=>by intro f args m v m' hw h;cases h
 |n+1=>RY hJ hX hF (JV hJ hX hF n)
end
end Go.AM
namespace Go.AM
open Go Go.Conc
open Go.ConcN (RelBy fork_knows)
open Go.ConcR (stA smA)
inductive WS where
 |work(R:Perm)
 |rel(R:Perm)(r:Nat)
 |old
def WS.dW:WS->Option Perm
 | .work R=>some R
 | .rel R _=>some R
 | .old=>none
def Vj (R:Perm):Loc->Prop
 | .cell a=>a.spot=none/\R.rd a.block a.off
 | .obj r=>R.ob r
 |_=>False
def YC (R:Perm):Loc->Prop
 | .cell a=>a.spot=none/\R.wr a.block a.off
 | .obj r=>R.ob r
 |_=>False
def shl (sh:Nat->Prop):Loc->Prop
 | .cell a=>sh a.block/\a.spot=none/\a.off<=1
 |_=>False
structure ml (R S:Perm):Prop where
 cell:∀b o,R.wr b o->¬S.rd b o
 obj:∀b,R.ob b->¬S.ob b
structure Lay (sh:Nat->Prop)(D:Nat->WS)(size:Nat)(w:ay):Prop where
 low:∀k R,k<size->(D k).dW=some R->wG R w
 HL:∀j k R S,j≠k->j<size->k<size->(D j).dW=some R->(D k).dW=some S->ml R S
 Dz:∀k R,k<size->(D k).dW=some R->∀b o,R.rd b o->sh b->¬o<=1
 sh:∀b,sh b->b<w.heap.size
structure TI (Wg:Nat)(sh:Nat->Prop)(D:Nat->WS)(size N:Nat)(t:Trace):Prop where
 nr:∀said,¬Race said t
 gs:∀op∈t,op.g<size
 low:∀i a,touchAt t i=some a->a.loc.low N
 knW:∀k R,k<size->D k= .work R->∀i a,touchAt t i=some a->YC R a.loc->Knows t k i
 knR:∀k R,k<size->D k= .work R->∀i a,touchAt t i=some a->Vj R a.loc->a.write=true->Knows t k i
 og:∀i a,touchAt t i=some a->Knows t 0 i\/(∃k R,t.g? i=some k/\0<k/\k<size/\D k= .work R)\/(∃k R r,t.g? i=some k/\0<k/\k<size/\D k= .rel R r/\i<=r)\/(shl sh a.loc/\a.kind= .atomic)
 shp:∀i a,touchAt t i=some a->shl sh a.loc->a.kind= .atomic\/(Knows t 0 i/\(a.kind= .plain->∀k,k<size->D k≠ .old->Knows t k i))
 Io:∀k R r,k<size->D k= .rel R r->RelBy (stA Wg) t k r
 norel:∀a,NoRelease a t
 cnt:∀i k,t.g? i=some k->0<k->D k= .old->t.counts i->Knows t 0 i
 main:∃R,D 0= .work R
theorem LS {R R':Perm}{N:Nat}(h:eJ R R' N){l:Loc}(hl:l.low N)(hw:YC R' l):YC R l:=by
 cases l with
 |cell a=>exact⟨hw.1,(h.wr _ _ hw.2).elim id fun hn=>absurd (show a.block<N from hl) aj⟩
 |obj r=>exact(h.ob _ hw).elim id fun hn=>absurd (show r<N from hl) aj
 |_=>exact hw.elim
theorem LU {R R':Perm}{N:Nat}(h:eJ R R' N){l:Loc}(hl:l.low N)(hw:Vj R' l):Vj R l:=by
 cases l with
 |cell a=>exact⟨hw.1,(h.rd _ _ hw.2).elim id fun hn=>absurd (show a.block<N from hl) aj⟩
 |obj r=>exact(h.ob _ hw).elim id fun hn=>absurd (show r<N from hl) aj
 |_=>exact hw.elim
theorem N7 {R S:Perm}(h:ml R S){l:Loc}(h1:YC R l):¬Vj S l:=by
 intro h2;cases l with
 |cell a=>exact h.cell _ _ h1.2 h2.2
 |obj r=>exact h.obj _ h1 h2
 |_=>exact h1.elim
theorem N6 {R:Perm}(h:∀b o,R.wr b o->R.rd b o){l:Loc}(h1:YC R l):Vj R l:=by
 cases l with
 |cell a=>exact⟨h1.1,h _ _ h1.2⟩
 |obj r=>exact h1
 |_=>exact h1.elim
theorem xD {R:Perm}{sh:Nat->Prop}(h:∀b o,R.rd b o->sh b->¬o<=1){l:Loc}(h1:Vj R l):¬shl sh l:=by
 intro h2;cases l with
 |cell a=>exact h _ _ h1.2 h2.1 h2.2.2
 |obj r=>exact h2.elim
 |_=>exact h2.elim
section
variable {Wg:Nat}{sh:Nat->Prop}{D D':Nat->WS}{size N N':Nat}{t u:Trace}{k:Nat}{w:ay}
theorem TI.app(h:TI Wg sh D size N t)(L:Lay sh D size w)(hk:k<size)(hN:N<=N')
  (dO:∀j,j≠k->D' j=D j)(hD:D' k=D k\/∃R R',D k= .work R/\D' k= .work R'/\eJ R R' N)
  (hg:∀op∈u,op.g=k)(hl:∀op∈u,∀b,op.act.touch?=some b->b.loc.low N')(hr:∀op∈u,∀a,op.act≠ .mark (.release a))
  (hu:∀op∈u,∀b,op.act.touch?=some b->(∃R,D k= .work R/\Vj R b.loc/\(b.write=true->YC R b.loc))\/(D k≠ .old/\shl sh b.loc/\b.kind≠ .plain/\(b.kind= .said->k=0)))
  (yZ:∀R r,D k= .rel R r->RelBy (stA Wg) (t++u) k r):TI Wg sh D' size N' (t++u):=by
 have old:∀{i:Nat}{a:Touch},touchAt (t++u) i=some a->(touchAt t i=some a/\i<t.size)\/(t.size<=i/\∃op∈u,(t++u)[i]?=some op/\op.act.touch?=some a):=by
  intro i a ha;obtain⟨x,hx,hxa⟩:=touch_of ha;rcases getElem?_append_cases hx with⟨hi,u5⟩|⟨hi,hxu⟩
  ·exact .inl ⟨by rw[touchAt_of u5];exact hxa,hi⟩
  ·exact .inr ⟨hi,x,hxu,hx,hxa⟩
 have own:∀{i:Nat}{op:MemOp},(t++u)[i]?=some op->op∈u->Knows (t++u) k i:=by
  intro i op hi di;have :=knows_own hi;rwa[hg op di]at this
 have hold:∀j,D' j= .old↔D j= .old:=by
  intro j
  by_cases hj:j=k
  ·subst hj;rcases hD with e|⟨R,R',e1,e2,_⟩
   ·rw[e]
   ·rw[e1,e2];simp
  ·rw[dO j hj]
 have aan:∀j R',D' j= .work R'->∃R,D j= .work R/\eJ R R' N:=by
  intro j R' qy
  by_cases hj:j=k
  ·subst hj;rcases hD with e|⟨R,eK,e1,e2,e3⟩
   ·rw[e]at qy;exact⟨R',qy,eJ.refl _ _⟩
   ·rw[e2]at qy;cases qy;exact⟨R,e1,e3⟩
  ·rw[dO j hj]at qy;exact⟨R',qy,eJ.refl _ _⟩
 have ahb:∀j R r,D' j= .rel R r->D j= .rel R r:=by
  intro j R r qy
  by_cases hj:j=k
  ·subst hj;rcases hD with e|⟨R,eK,e1,e2,e3⟩
   ·rw[e]at qy;exact qy
   ·rw[e2]at qy;cases qy
  ·rw[dO j hj]at qy;exact qy
 refine⟨fun said=>noRace_append (h.nr said) hg fun i a ha op di b hb hc=>?_,fun op di=>?_,fun i a ha=>?_,fun j S hj qd i a ha hw=>?_,fun j S hj qd i a ha hw tS=>?_,fun i a ha=>?_,fun i a ha hs=>?_,fun j R r hj ko=>?_,fun a=>(h.norel a).app fun op di=>hr op di a,fun i j hi hj sM hc=>?_,?_⟩
 ·rcases hu op di b hb with⟨R,hR,h1,h2⟩|⟨Jd,h1,h2,h3⟩
  ·cases hbw:b.write with
   |true=>exact h.knW k R hk hR i a ha (by rw[hc.1];exact h2 hbw)
   |false=>exact h.knR k R hk hR i a ha (by rw[hc.1];exact h1) (hc.2.2.1.resolve_right (by simp[hbw]))
  ·rcases h.shp i a ha (by rw[hc.1];exact h1)with e|⟨e1,e2⟩
   ·rcases hc.2.2.2 with x|x|⟨_,x,_⟩
    ·rw[e]at x;cases x
    ·exact absurd x h2
    ·rw[e]at x;cases x
   ·rcases hc.2.2.2 with x|x|⟨_,_,x⟩
    ·exact e2 x k hk Jd
    ·exact absurd x h2
    ·rw[h3 x];exact e1
 ·rcases Array.mem_append.1 di with h1|h1
  ·exact h.gs op h1
  ·rw[hg op h1];exact hk
 ·rcases old ha with⟨mQ,_⟩|⟨_,op,di,hi,hb⟩
  ·exact Loc.low_mono hN (h.low i a mQ)
  ·exact hl op di a hb
 ·obtain⟨aea,hS,nN⟩:=aan j S qd;rcases old ha with⟨mQ,_⟩|⟨_,op,di,hi,hb⟩
  ·exact(h.knW j aea hj hS i a mQ (LS nN (h.low i a mQ) hw)).app u
  ·by_cases Qd:j=k
   ·subst Qd;exact own hi di
   ·rw[dO j Qd]at qd;have hS':(D j).dW=some S:=by rw[qd];rfl
    rcases hu op di a hb with⟨R,hR,h1,h2⟩|⟨_,h1,_,_⟩
    ·exact absurd h1 (N7 (L.HL j k S R Qd hj hk hS' (by rw[hR];rfl)) hw)
    ·exact absurd h1 (xD (L.Dz j S hj hS') (N6 (L.low j S hj hS').wr hw))
 ·obtain⟨aea,hS,nN⟩:=aan j S qd;rcases old ha with⟨mQ,_⟩|⟨_,op,di,hi,hb⟩
  ·exact(h.knR j aea hj hS i a mQ (LU nN (h.low i a mQ) hw) tS).app u
  ·by_cases Qd:j=k
   ·subst Qd;exact own hi di
   ·rw[dO j Qd]at qd;have hS':(D j).dW=some S:=by rw[qd];rfl
    rcases hu op di a hb with⟨R,hR,h1,h2⟩|⟨_,h1,_,_⟩
    ·exact absurd hw (N7 (L.HL k j R S (Ne.symm Qd) hk hj (by rw[hR];rfl) hS') (h2 tS))
    ·exact absurd h1 (xD (L.Dz j S hj hS') hw)
 ·rcases old ha with⟨mQ,hi⟩|⟨_,op,di,hi,hb⟩
  ·rcases h.og i a mQ with h1|⟨j,R,h1,h2,h3,h4⟩|⟨j,R,r,h1,h2,h3,h4,h5⟩|h1
   ·exact .inl (h1.app u)
   ·refine .inr (.inl ?_)
    by_cases hj:j=k
    ·subst hj;rcases hD with e|⟨eK,R',e1,e2,_⟩
     ·exact⟨j,R,by rw[g?_old hi];exact h1,h2,h3,by rw[e];exact h4⟩
     ·exact⟨j,R',by rw[g?_old hi];exact h1,h2,h3,e2⟩
    ·exact⟨j,R,by rw[g?_old hi];exact h1,h2,h3,by rw[dO j hj];exact h4⟩
   ·refine .inr (.inr (.inl ⟨j,R,r,by rw[g?_old hi];exact h1,h2,h3,?_,h5⟩))
    by_cases hj:j=k
    ·subst hj;rcases hD with e|⟨eK,R',e1,e2,_⟩
     ·rw[e];exact h4
     ·rw[h4]at e1;cases e1
    ·rw[dO j hj];exact h4
   ·exact .inr (.inr (.inr h1))
  ·rcases Nat.eq_zero_or_pos k with h0|iN
   ·subst h0;exact .inl (own hi di)
   ·have hgi:(t++u).g? i=some k:=by simp[Trace.g?,hi,hg op di]
    rcases hu op di a hb with⟨R,hR,h1,h2⟩|⟨Jd,h1,h2,h3⟩
    ·rcases hD with e|⟨eK,R',e1,e2,_⟩
     ·exact .inr (.inl ⟨k,R,hgi,iN,hk,by rw[e];exact hR⟩)
     ·exact .inr (.inl ⟨k,R',hgi,iN,hk,e2⟩)
    ·refine .inr (.inr (.inr ⟨h1,?_⟩));cases hkd:a.kind with
     |plain=>exact absurd hkd h2
     |atomic=>rfl
     |said=>have :=h3 hkd;omega
 ·rcases old ha with⟨mQ,hi⟩|⟨_,op,di,hi,hb⟩
  ·rcases h.shp i a mQ hs with e|⟨e1,e2⟩
   ·exact .inl e
   ·exact .inr ⟨e1.app u,fun hp j hj sM=>(e2 hp j hj (fun hx=>sM ((hold j).2 hx))).app u⟩
  ·rcases hu op di a hb with⟨R,hR,h1,h2⟩|⟨Jd,h1,h2,h3⟩
   ·exact absurd hs (xD (L.Dz k R hk (by rw[hR];rfl)) h1)
   ·cases hkd:a.kind with
    |plain=>exact absurd hkd h2
    |atomic=>exact .inl rfl
    |said=>
     refine .inr ⟨?_,fun hx=>by cases hx⟩;have h0:=h3 hkd;subst h0;exact own hi di
 ·have ahu:=ahb j R r ko
  by_cases Qd:j=k
  ·subst Qd;exact yZ R r ahu
  ·exact(h.Io j R r hj ahu).appOther hg (Ne.symm Qd)
 ·have YQ:=(hold j).1 sM;have cA:i<t.size\/t.size<=i:=Nat.lt_or_ge i t.size;rcases cA with cA|Ad
  ·exact(h.cnt i j (by rw[<-g?_old (u:=u) cA];exact hi) hj YQ ((counts_old cA).1 hc)).app u
  ·exfalso
   obtain⟨x,hx,_⟩:=hc;obtain⟨op,ho,hox⟩:=touch_of hx;have hgi:op.g=j:=by simp only[Trace.g?,ho,cT,ah]at hi;exact hi
   rcases getElem?_append_cases ho with⟨h1,_⟩|⟨_,hou⟩
   ·omega
   ·have Qd:j=k:=hgi.symm.trans (hg op hou);subst Qd;rcases hu op hou x hox with⟨R,hR,_⟩|⟨Jd,_⟩
    ·rw[hR]at YQ;cases YQ
    ·exact Jd YQ
 ·obtain⟨R,hR⟩:=h.main
  by_cases h0:(0:Nat)=k
  ·subst h0;rcases hD with e|⟨_,R',_,e2,_⟩
   ·exact⟨R,by rw[e];exact hR⟩
   ·exact⟨R',e2⟩
  ·exact⟨R,by rw[dO 0 h0];exact hR⟩
end
end Go.AM
namespace Go.AM
open Go Go.Conc
open Go.ConcN (RelBy fork_knows upd upd_same upd_ne)
open Go.ConcR (stA smA)
theorem Ca {R S:Perm}(h:∀b o,R.wr b o->S.wr b o)(ho:∀b,R.ob b->S.ob b){l:Loc}(hw:YC R l):YC S l:=by
 cases l with
 |cell a=>exact⟨hw.1,h _ _ hw.2⟩
 |obj r=>exact ho _ hw
 |_=>exact hw.elim
theorem Cb {R S:Perm}(h:∀b o,R.rd b o->S.rd b o)(ho:∀b,R.ob b->S.ob b){l:Loc}(hw:Vj R l):Vj S l:=by
 cases l with
 |cell a=>exact⟨hw.1,h _ _ hw.2⟩
 |obj r=>exact ho _ hw
 |_=>exact hw.elim
structure je (R S:Perm):Prop where
 rd:∀b o,R.rd b o->S.rd b o
 wr:∀b o,R.wr b o->S.wr b o
 ob:∀b,R.ob b->S.ob b
section
variable {Wg QW:Nat}{sh:Nat->Prop}{D:Nat->WS}{size N:Nat}{t:Trace}{k:Nat}{w:ay}
theorem TI.begin(h:TI Wg sh D size N t){R eK:Perm}(hD:D 0= .work R)(hold:∀j,0<j->j<size->D j= .old)(hs:je eK R)(h0:R.wr QW 0)(h1:R.wr QW 1)(iB:0<size):
  TI QW (fun b=>sh b\/b=QW) (upd D 0 (.work eK)) size N t:=by
 have hn:∀j,0<j->upd D 0 (.work eK) j=D j:=fun j hj=>upd_ne D _ aj
 refine⟨h.nr,h.gs,h.low,fun j S hj qd i a ha hw=>?_,fun j S hj qd i a ha hw tS=>?_,fun i a ha=>?_,fun i a ha ym=>?_,fun j S r hj ko=>?_,h.norel,fun i j hi hj sM hc=>h.cnt i j hi hj (by rw[<-hn j hj];exact sM) hc,⟨eK,upd_same ..⟩⟩
 ·rcases Nat.eq_zero_or_pos j with rfl|hp
  ·rw[upd_same]at qd;cases qd;exact h.knW 0 R hj hD i a ha (Ca hs.wr hs.ob hw)
  ·rw[hn j hp,hold j hp hj]at qd;cases qd
 ·rcases Nat.eq_zero_or_pos j with rfl|hp
  ·rw[upd_same]at qd;cases qd;exact h.knR 0 R hj hD i a ha (Cb hs.rd hs.ob hw) tS
  ·rw[hn j hp,hold j hp hj]at qd;cases qd
 ·rcases h.og i a ha with h2|⟨j,S,_,h3,h4,h5⟩|⟨j,S,r,_,h3,h4,h5,_⟩|h2
  ·exact .inl h2
  ·rw[hold j h3 h4]at h5;cases h5
  ·rw[hold j h3 h4]at h5;cases h5
  ·refine .inr (.inr (.inr ⟨?_,h2.2⟩));have :=h2.1;cases hl:a.loc with
   |cell x=>rw[hl]at this;exact⟨.inl this.1,this.2⟩
   |_=>rw[hl]at this;exact this.elim
 ·have key:Knows t 0 i->a.kind= .atomic\/(Knows t 0 i/\(a.kind= .plain->∀k,k<size->upd D 0 (.work eK) k≠ .old->Knows t k i)):=fun hk=>
   .inr ⟨hk,fun _ j hj sM=>by
    rcases Nat.eq_zero_or_pos j with rfl|hp
    ·exact hk
    ·rw[hn j hp]at sM;exact absurd (hold j hp hj) sM⟩
  cases hl:a.loc with
  |cell x=>
   rw[hl]at ym;obtain⟨h2|h2,h3,h4⟩:=ym
   ·rcases h.shp i a ha (by rw[hl];exact⟨h2,h3,h4⟩)with e|⟨e,_⟩
    ·exact .inl e
    ·exact key e
   ·refine key (h.knW 0 R iB hD i a ha ?_);rw[hl];refine⟨h3,?_⟩;rw[h2];rcases(show x.off=0\/x.off=1 by omega)with e|e<;>rw[e]<;>assumption
  |_=>rw[hl]at ym;exact ym.elim
 ·rcases Nat.eq_zero_or_pos j with rfl|hp
  ·rw[upd_same]at ko;cases ko
  ·rw[hn j hp,hold j hp hj]at ko;cases ko
theorem TI.fork(h:TI Wg sh D size N t){R eK Rc:Perm}(hD:D 0= .work R)(h1:je eK R)(hc:je Rc R)(iB:0<size){x y:MemOp}(hx:x.g=0/\x.act= .go size)(hy:y.g=size/\y.act= .start)(h0:Deaf t 0=0)(hk:Deaf t size=0):
  TI Wg sh (upd (upd D 0 (.work eK)) size (.work Rc)) (size+1) N (t++#[x,y]):=by
 have qx:∀op∈ #[x,y],∀b,op.act.touch?=some b->False:=by
  intro op di b hb;simp only[List.mem_toArray,aR,List.not_mem_nil,or_false]at di;rcases di with rfl|rfl
  ·rw[hx.2]at hb;cases hb
  ·rw[hy.2]at hb;cases hb
 have old:∀{i:Nat}{a:Touch},touchAt (t++#[x,y]) i=some a->touchAt t i=some a/\i<t.size:=by
  intro i a ha;obtain⟨z,hz,hza⟩:=touch_of ha;rcases getElem?_append_cases hz with⟨hi,LW⟩|⟨_,hzu⟩
  ·exact⟨by rw[touchAt_of LW];exact hza,hi⟩
  ·exact(qx z hzu a hza).elim
 have hn:∀j,0<j->j<size->upd (upd D 0 (.work eK)) size (.work Rc) j=D j:=fun j h1 h2=>by rw[upd_ne _ _ aj,upd_ne _ _ aj]
 have hz:upd (upd D 0 (.work eK)) size (.work Rc) 0= .work eK:=by rw[upd_ne _ _ aj,upd_same]
 have hq:upd (upd D 0 (.work eK)) size (.work Rc) size= .work Rc:=upd_same ..;have three:∀j,j<size+1->j=0\/(0<j/\j<size)\/j=size:=fun j hj=>by omega
 have kn:∀{i:Nat},Knows t 0 i->Knows (t++#[x,y]) size i:=fun Cj=>fork_knows hx hy h0 hk Cj
 refine⟨fun said=>?_,fun op di=>?_,fun i a ha=>h.low i a (old ha).1,fun j S hj qd i a ha hw=>?_,fun j S hj qd i a ha hw tS=>?_,fun i a ha=>?_,fun i a ha ym=>?_,fun j S r hj ko=>?_,fun a=>(h.norel a).app fun op di=>?_,fun i j hi hj sM hcn=>?_,⟨eK,hz⟩⟩
 ·have e:t++#[x,y]=(t++#[x])++#[y]:=by apply Array.ext';simp
  rw[e];refine noRace_append (g:=size) (noRace_append (g:=0) (h.nr said) (fun op di=>by simp at di;rw[di];exact hx.1) (fun i a _ op di b hb _=>(qx op (by simp at di⊢;exact .inl di) b hb).elim))
   (fun op di=>by simp at di;rw[di];exact hy.1) (fun i a _ op di b hb _=>(qx op (by simp at di⊢;exact .inr di) b hb).elim)
 ·rcases Array.mem_append.1 di with h2|h2
  ·exact Nat.lt_succ_of_lt (h.gs op h2)
  ·simp only[List.mem_toArray,aR,List.not_mem_nil,or_false]at h2;rcases h2 with rfl|rfl
   ·rw[hx.1];omega
   ·rw[hy.1];omega
 ·obtain⟨mQ,_⟩:=old ha;rcases three j hj with rfl|⟨g1,g2⟩|rfl
  ·rw[hz]at qd;cases qd;exact(h.knW 0 R iB hD i a mQ (Ca h1.wr h1.ob hw)).app _
  ·rw[hn j g1 g2]at qd;exact(h.knW j S g2 qd i a mQ hw).app _
  ·rw[hq]at qd;cases qd;exact kn (h.knW 0 R iB hD i a mQ (Ca hc.wr hc.ob hw))
 ·obtain⟨mQ,_⟩:=old ha;rcases three j hj with rfl|⟨g1,g2⟩|rfl
  ·rw[hz]at qd;cases qd;exact(h.knR 0 R iB hD i a mQ (Cb h1.rd h1.ob hw) tS).app _
  ·rw[hn j g1 g2]at qd;exact(h.knR j S g2 qd i a mQ hw tS).app _
  ·rw[hq]at qd;cases qd;exact kn (h.knR 0 R iB hD i a mQ (Cb hc.rd hc.ob hw) tS)
 ·obtain⟨mQ,hi⟩:=old ha;rcases h.og i a mQ with h2|⟨j,S,h2,h3,h4,h5⟩|⟨j,S,r,h2,h3,h4,h5,h6⟩|h2
  ·exact .inl (h2.app _)
  ·exact .inr (.inl ⟨j,S,by rw[g?_old hi];exact h2,h3,aj,by rw[hn j h3 h4];exact h5⟩)
  ·exact .inr (.inr (.inl ⟨j,S,r,by rw[g?_old hi];exact h2,h3,aj,by rw[hn j h3 h4];exact h5,h6⟩))
  ·exact .inr (.inr (.inr h2))
 ·obtain⟨mQ,hi⟩:=old ha;rcases h.shp i a mQ ym with e|⟨e1,e2⟩
  ·exact .inl e
  ·refine .inr ⟨e1.app _,fun hp j hj sM=>?_⟩;rcases three j hj with rfl|⟨g1,g2⟩|rfl
   ·exact e1.app _
   ·exact(e2 hp j g2 (by rw[<-hn j g1 g2];exact sM)).app _
   ·exact kn e1
 ·rcases three j hj with rfl|⟨g1,g2⟩|rfl
  ·rw[hz]at ko;cases ko
  ·rw[hn j g1 g2]at ko;have hb:=h.Io j S r g2 ko;refine hb.app fun i hi hgi=>?_
   rintro⟨b,iL,_⟩;obtain⟨op,ho,Ab⟩:=touch_of iL;rcases getElem?_append_cases ho with⟨cA,_⟩|⟨_,hou⟩
   ·omega
   ·exact qx op hou b Ab
  ·rw[hq]at ko;cases ko
 ·simp only[List.mem_toArray,aR,List.not_mem_nil,or_false]at di;rcases di with rfl|rfl
  ·rw[hx.2];simp
  ·rw[hy.2];simp
 ·have cA:i<t.size:=by
   obtain⟨b,hb,_⟩:=hcn;exact(old hb).2
  have Ck:j<size:=by
   obtain⟨op,ho,hog⟩:=aB.1 (show((t++#[x,y])[i]?).map (·.g)=some j from hi);rw[getElem?_append_old cA]at ho;rw[<-hog];exact h.gs op (mem_of_getElem? ho)
  rw[hn j hj Ck]at sM;exact(h.cnt i j (by rw[<-g?_old (u:=#[x,y]) cA];exact hi) hj sM ((counts_old cA).1 hcn)).app _
theorem TI.SD(h:TI Wg sh D size N t){R:Perm}(hk:k<size)(iN:0<k)(hD:D k= .work R){r:Nat}(hr:RelBy (stA Wg) t k r)(hl:t.size<=r+1):
  TI Wg sh (upd D k (.rel R r)) size N t:=by
 have hn:∀j,j≠k->upd D k (.rel R r) j=D j:=fun j hj=>upd_ne D _ hj
 have ho:∀j,upd D k (.rel R r) j= .old->D j= .old:=fun j hj=>by
  by_cases e:j=k
  ·subst e;rw[upd_same]at hj;cases hj
  ·rw[hn j e]at hj;exact hj
 refine⟨h.nr,h.gs,h.low,fun j S hj qd i a ha hw=>?_,fun j S hj qd i a ha hw tS=>?_,fun i a ha=>?_,fun i a ha ym=>?_,fun j S r' hj ko=>?_,h.norel,fun i j hi hj sM hc=>h.cnt i j hi hj (ho j sM) hc,?_⟩
 ·by_cases e:j=k
  ·subst e;rw[upd_same]at qd;cases qd
  ·rw[hn j e]at qd;exact h.knW j S hj qd i a ha hw
 ·by_cases e:j=k
  ·subst e;rw[upd_same]at qd;cases qd
  ·rw[hn j e]at qd;exact h.knR j S hj qd i a ha hw tS
 ·rcases h.og i a ha with h2|⟨j,S,h2,h3,h4,h5⟩|⟨j,S,r',h2,h3,h4,h5,h6⟩|h2
  ·exact .inl h2
  ·by_cases e:j=k
   ·subst e;refine .inr (.inr (.inl ⟨j,R,r,h2,h3,h4,upd_same ..,?_⟩));obtain⟨op,di,_⟩:=touch_of ha;have :=lt_size_of_getElem? di;omega
   ·exact .inr (.inl ⟨j,S,h2,h3,h4,by rw[hn j e];exact h5⟩)
  ·have e:j≠k:=by rintro rfl;rw[hD]at h5;cases h5
   exact .inr (.inr (.inl ⟨j,S,r',h2,h3,h4,by rw[hn j e];exact h5,h6⟩))
  ·exact .inr (.inr (.inr h2))
 ·rcases h.shp i a ha ym with e|⟨e1,e2⟩
  ·exact .inl e
  ·refine .inr ⟨e1,fun hp j hj sM=>e2 hp j hj fun hx=>?_⟩
   by_cases e:j=k
   ·subst e;rw[hD]at hx;cases hx
   ·exact sM (by rw[hn j e];exact hx)
 ·by_cases e:j=k
  ·subst e;rw[upd_same]at ko;cases ko;exact hr
  ·rw[hn j e]at ko;exact h.Io j S r' hj ko
 ·obtain⟨S,hS⟩:=h.main;exact⟨S,by rw[hn 0 aj];exact hS⟩
theorem TI.WM(h:TI Wg sh D size N t)(iB:0<size)(pF:∀j,0<j->j<size->(∃R r,D j= .rel R r)\/D j= .old){x:MemOp}(hx:x.g=0/\x.act= .mark (.acquire (stA Wg)))(h0:Deaf t 0=0)
  {R':Perm}(ag9:∀b o,R'.rd b o->sh b->¬o<=1)(tS:∀b o,R'.wr b o->R'.rd b o):TI Wg sh (fun j=>if j=0 then .work R' else .old) size N (t++#[x]):=by
 have qx:∀op∈ #[x],∀b,op.act.touch?=some b->False:=by
  intro op di b hb;simp only[List.mem_toArray,aR,List.not_mem_nil,or_false]at di;subst di;rw[hx.2]at hb;cases hb
 have old:∀{i:Nat}{a:Touch},touchAt (t++#[x]) i=some a->touchAt t i=some a/\i<t.size:=by
  intro i a ha;obtain⟨z,hz,hza⟩:=touch_of ha;rcases getElem?_append_cases hz with⟨hi,LW⟩|⟨_,hzu⟩
  ·exact⟨by rw[touchAt_of LW];exact hza,hi⟩
  ·exact(qx z hzu a hza).elim
 have Ol:(t++#[x])[t.size]?=some x:=cY;have vN:∀op∈ #[x],op.g=0:=by intro op di;simp at di;rw[di];exact hx.1
 have ah1:∀j R r,0<j->j<size->D j= .rel R r->∀i,t.g? i=some j->i<=r->Knows (t++#[x]) 0 i:=by
  intro j R r hj Ck ko i hi hir;have hr:RelBy (stA Wg) (t++#[x]) j r:=(h.Io j R r Ck ko).appOther vN aj;have EZ:r<t.size:=lt_of_act? (h.Io j R r Ck ko).act;have hq:(t++#[x]).act? t.size=some (.mark (.acquire (stA Wg))):=by rw[act?_of Ol,hx.2]
  have hh:(t++#[x]).heard t.size:=⟨0,by simp[Trace.g?,hx.1],by rw[deaf_old (ai _)];exact h0⟩;have hn:NoRelease (stA Wg) (t++#[x]):=(h.norel _).app fun op di=>by simp at di;rw[di,hx.2];simp
  have e:HappensBefore (t++#[x]) r t.size:= .single (.inr ⟨.marked EZ (.inr hr.act) hq (fun k _ _=>hn k),hr.heard,hh⟩);refine⟨t.size,x,Ol,hx.1,.inr ?_⟩;rcases Nat.lt_or_ge i r with cA|Ad
  ·exact .trans (.single (.inl ⟨cA,j,by rw[g?_old aj];exact hi,hr.g⟩)) e
  ·obtain rfl:i=r:=aj;exact e
 have V3:∀i a,touchAt (t++#[x]) i=some a->Knows (t++#[x]) 0 i\/(shl sh a.loc/\a.kind= .atomic):=by
  intro i a ha;obtain⟨mQ,hi⟩:=old ha;rcases h.og i a mQ with h2|⟨j,S,h2,h3,h4,h5⟩|⟨j,S,r',h2,h3,h4,h5,h6⟩|h2
  ·exact .inl (h2.app _)
  ·rcases pF j h3 h4 with⟨_,_,e⟩|e<;>rw[h5]at e<;>cases e
  ·exact .inl (ah1 j S r' h3 h4 h5 i h2 h6)
  ·exact .inr h2
 have D0:∀j S,(if j=0 then WS.work R' else .old)= .work S->j=0/\S=R':=by
  intro j S hj
  split at hj
  ·rename_i e;cases hj;exact⟨e,rfl⟩
  ·cases hj
 refine⟨fun said=>noRace_append (h.nr said) vN fun i a _ op di b hb _=>(qx op di b hb).elim,fun op di=>?_,fun i a ha=>h.low i a (old ha).1,fun j S hj qd i a ha hw=>?_,fun j S hj qd i a ha hw acK=>?_,fun i a ha=>(V3 i a ha).imp id fun e=> .inr (.inr e),fun i a ha ym=>?_,fun j S r hj ko=>?_,
  fun a=>(h.norel a).app fun op di=>(by simp at di;rw[di,hx.2];simp),fun i j hi hj sM hc=>?_,⟨R',rfl⟩⟩
 ·rcases Array.mem_append.1 di with h2|h2
  ·exact h.gs op h2
  ·rw[vN op h2];exact iB
 ·obtain⟨rfl,rfl⟩:=D0 j S qd;exact(V3 i a ha).resolve_right fun e=>xD ag9 (N6 tS hw) e.1
 ·obtain⟨rfl,rfl⟩:=D0 j S qd;exact(V3 i a ha).resolve_right fun e=>xD ag9 hw e.1
 ·rcases h.shp i a (old ha).1 ym with e|⟨e1,_⟩
  ·exact .inl e
  ·refine .inr ⟨e1.app _,fun _ j hj sM=>?_⟩
   replace sM:¬(if j=0 then WS.work R' else .old)= .old:=sM
   split at sM
   ·rename_i e;subst e;exact e1.app _
   ·exact absurd rfl sM
 ·replace ko:(if j=0 then WS.work R' else .old)= .rel S r:=ko
  split at ko<;>cases ko
 ·have cA:i<t.size:=by
   obtain⟨b,hb,_⟩:=hc;exact(old hb).2
  have GV:t.g? i=some j:=by rw[<-g?_old (u:=#[x]) cA];exact hi
  have Ck:j<size:=by
   obtain⟨op,ho,hog⟩:=aB.1 (show(t[i]?).map (·.g)=some j from GV);rw[<-hog];exact h.gs op (mem_of_getElem? ho)
  rcases pF j hj Ck with⟨R,r,e⟩|e
  ·refine ah1 j R r hj Ck e i GV (Nat.le_of_not_lt fun ahp=>?_);exact(h.Io j R r Ck e).after i ahp GV ((counts_old cA).1 hc)
  ·exact(h.cnt i j GV hj e ((counts_old cA).1 hc)).app _
theorem TI.over(h:TI Wg sh D size N t)(pF:∀j,0<j->j<size->D j= .old):t.HandedOver:=by
 intro i g hg dO hc;have hgs:g<size:=by
  obtain⟨op,ho,hog⟩:=aB.1 (show(t[i]?).map (·.g)=some g from hg);rw[<-hog];exact h.gs op (mem_of_getElem? ho)
 obtain⟨q,z,h1,h2,h3⟩:=h.cnt i g hg aj (pF g aj hgs) hc;refine⟨q,by simp[Trace.g?,h1,h2],?_⟩;rcases h3 with rfl|h3
 ·exfalso
  have :some g=some z.g:=by rw[<-hg];simp[Trace.g?,h1]
  rw[h2]at this;cases this;exact dO rfl
 ·exact h3
end
end Go.AM
namespace Go.AM
open Go Go.Conc
open Go.ConcR (stA smA KK rd wr mk)
structure rP (Wg:Nat)(w:ay)(st sm:Int):Prop where
 st:w.cell? ⟨Wg,0,none⟩=some (.int .u64 st)
 sm:w.cell? ⟨Wg,1,none⟩=some (.int .u32 sm)
 fz:∀o,o<=1->w.frozen? ⟨Wg,o,none⟩=false
def FF (Wg:Nat)(w:ay):Prop:=∃st sm,rP Wg w st sm
def Pa (σ:mA)(w:ay):Prop:=
 match σ with
 | .fL g=>FF g.Wg w
 |_=>True
def setSt (Wg:Nat)(x:Int)(w:ay):ay:=w.setCell (stA Wg) (.int .u64 x)
def setSm (Wg:Nat)(x:Int)(w:ay):ay:=w.setCell (smA Wg) (.int .u32 x)
def VM:Nat:=4
inductive DSt where
 |k1|d1|d2|d3|d4
section
variable (P:aD)(Wg:Nat)
inductive DStep (J:DSt->ak->Prop)(n:Nat):DSt->ak->ay->Prop
 |quiet {s:DSt}{g g':ak}{w:ay}:stepG P false g w= .go g' w #[]->J s g'->DStep J n s g w
 |k1 {g g':ak}{w:ay}:stepG P false g w= .go g' w #[mk .disable]->J .d1 g'->DStep J n .k1 g w
 |d1 {g:ak}{w:ay}:(∀v wt:Nat,wt<=1->v<VM->rP Wg w (((v:Int)+1)*KK+wt) 0->
   ∃g',stepG P false g w= .go g' (setSt Wg ((v:Int)*KK+wt) w) #[rd (stA Wg),wr (stA Wg)]/\((v=0/\wt=1)->J .d2 g')/\(¬(v=0/\wt=1)->QuitsD P n 1 g'))->DStep J n .d1 g w
 |d2 {g:ak}{w:ay}:(rP Wg w 1 0->∃g',stepG P false g w= .go g' w #[rd (stA Wg)]/\J .d3 g')->DStep J n .d2 g w
 |d3 {g:ak}{w:ay}:(rP Wg w 1 0->∃g',stepG P false g w= .go g' (setSt Wg 0 w) #[wr (stA Wg)]/\J .d4 g')->DStep J n .d3 g w
 |d4 {g:ak}{w:ay}:mayWake P g=true->(rP Wg w 0 0->∃g',stepG P false g w= .go g' (setSm Wg 1 w) (semEvents (smA Wg))/\QuitsD P n 1 g')->DStep J n .d4 g w
def JD:Nat->DSt->ak->Prop
 |0,_,_=>False
 |n+1,s,g=>g.status= .running/\∀w,FF Wg w->DStep P Wg (JD n) n s g w
variable (p:dG)
inductive O2 (J:Perm->ak->ay->Prop)(n:Nat)(R:Perm)(g:ak)(w:ay):Prop
 |own {R':Perm}{g':ak}{w':ay}{es:Array Event}:Stepped P false R g w R' g' w' es->J R' g' w'->O2 J n R g w
 |rel {g':ak}:R.deaf=0->p.ok R w->stepG P false g w= .go g' w #[mk (.releaseMerge (stA Wg))]->JD P Wg n .k1 g'->O2 J n R g w
def JW:Nat->Perm->ak->ay->Prop
 |0,_,_,_=>False
 |n+1,R,g,w=>JW n R g w\/(g.status= .running/\∀aN,bh R w aN->FF Wg aN->O2 P Wg p (JW n) n R g aN)
end
def Hx (p:dG):Prop:=∀R w aN,p.ok R w->bh R w aN->p.ok R aN
section
variable (P:aD)(Fin:ae->ay->Prop)
inductive rL (J:mA->Perm->ak->ay->Prop):mA->Perm->ak->ay->Prop
 |own {σ:mA}{R R':Perm}{g g':ak}{w w':ay}{es:Array Event}:g.status= .running->Stepped P true R g w R' g' w' es->J σ R' g' w'->rL J σ R g w
 |ends {R:Perm}{g:ak}{w w':ay}{v:ae}{es:Array Event}:g.status= .running->stepG P true g w= .ended (.done v) w' es->(∀e∈es,nT R e)->R.deaf=0->Fin v w'->rL J .idle R g w
 |wm {R eK:Perm}{g:ak}{w:ay}{Wg:Nat}:je eK R->(∀b o,eK.wr b o->eK.rd b o)->eK.deaf=R.deaf->R.wr Wg 0->R.wr Wg 1->rP Wg w 0 0->(∀o,o<=1->¬eK.rd Wg o)->J (.fL ⟨Wg,[],.opn 0⟩) eK g w->rL J .idle R g w
 |add {Wg V:Nat}{ps:List dG}{R:Perm}{g:ak}{w:ay}:g.status= .running->V<VM->
   (∀v:Nat,v<=V->rP Wg w ((v:Int)*KK) 0->∃g',stepG P true g w= .go g' (setSt Wg (((v:Int)+1)*KK) w) #[rd (stA Wg),wr (stA Wg)]/\J (.fL ⟨Wg,ps,.added V⟩) R g' w)->rL J (.fL ⟨Wg,ps,.opn V⟩) R g w
 |said {Wg:Nat}{ps:List dG}{s:Sub}{R:Perm}{g g':ak}{w:ay}{es:Array Event}:g.status= .running->stepG P true g w= .go g' w es->(∀e∈es,e=mk (.read (smA Wg))\/e=mk (.write (smA Wg)))->
   J (.fL ⟨Wg,ps,s⟩) R g' w->rL J (.fL ⟨Wg,ps,s⟩) R g w
 |spawn {Wg V kc:Nat}{ps:List dG}{p:dG}{R eK Rc:Perm}{g g' child:ak}{w:ay}:g.status= .running->R.deaf=0->stepG P true g w= .spawn g' child w #[]->
   je eK R->je Rc R->(∀b o,eK.wr b o->eK.rd b o)->(∀b o,Rc.wr b o->Rc.rd b o)->eK.deaf=0->Rc.deaf=0->ml eK Rc->ml Rc eK->Hx p->JW P Wg p kc Rc child w->
   J (.fL ⟨Wg,p::ps,.opn (V+1)⟩) eK g' w->rL J (.fL ⟨Wg,ps,.added V⟩) R g w
 |load {Wg V:Nat}{ps:List dG}{R:Perm}{g:ak}{w:ay}:g.status= .running->
   (∀v:Nat,v<=V->rP Wg w ((v:Int)*KK) 0->∃g',stepG P true g w= .go g' w #[rd (stA Wg)]/\(v=0->J (.fL ⟨Wg,ps,.fin⟩) R g' w)/\(v≠0->J (.fL ⟨Wg,ps,.seen v⟩) R g' w))->rL J (.fL ⟨Wg,ps,.opn V⟩) R g w
 |cas {Wg vs:Nat}{ps:List dG}{R:Perm}{g:ak}{w:ay}:g.status= .running->
   (∀v:Nat,v<=vs->rP Wg w ((v:Int)*KK) 0->(v=vs->∃g',stepG P true g w= .go g' (setSt Wg ((v:Int)*KK+1) w) #[rd (stA Wg),wr (stA Wg)]/\J (.fL ⟨Wg,ps,.reg⟩) R g' w)/\
    (v≠vs->∃g',stepG P true g w= .go g' w #[rd (stA Wg)]/\J (.fL ⟨Wg,ps,.opn (vs-1)⟩) R g' w))->rL J (.fL ⟨Wg,ps,.seen vs⟩) R g w
 |sem {Wg:Nat}{ps:List dG}{R:Perm}{g:ak}{w:ay}:g.status= .running->g.offers=none->(∀st,rP Wg w st 0->stepG P true g w= .go {g with status:= .blocked} w #[])->
   (rP Wg w 0 1->∃g',stepG P true g w= .go g' (setSm Wg 0 w) (semEvents (smA Wg))/\J (.fL ⟨Wg,ps,.V0⟩) R g' w)->rL J (.fL ⟨Wg,ps,.reg⟩) R g w
 |last {Wg:Nat}{ps:List dG}{R:Perm}{g:ak}{w:ay}:g.status= .running->(rP Wg w 0 0->∃g',stepG P true g w= .go g' w #[rd (stA Wg)]/\J (.fL ⟨Wg,ps,.fin⟩) R g' w)->rL J (.fL ⟨Wg,ps,.V0⟩) R g w
 |acq {Wg:Nat}{ps:List dG}{R:Perm}{g g':ak}{w:ay}:g.status= .running->R.deaf=0->stepG P true g w= .go g' w #[mk (.acquire (stA Wg))]->
   (∀Rs:List Perm,bC (fun p S=>p.ok S w/\wG S w/\ml R S/\ml S R) ps Rs->Rs.Pairwise (fun S T=>ml S T/\ml T S)->
    ∃R',R'.deaf=0/\(∀b o,R'.wr b o->R'.rd b o)/\(∀b o,R'.rd b o->R.rd b o\/∃S∈Rs,S.rd b o)/\(∀b,R'.ob b->R.ob b\/∃S∈Rs,S.ob b)/\J .idle R' g' w)->rL J (.fL ⟨Wg,ps,.fin⟩) R g w
def JM:mA->Nat->Perm->ak->ay->Prop
 |_,0,_,_,_=>False
 |σ,n+1,R,g,w=>JM σ n R g w\/∀aN,bh R w aN->Pa σ aN->rL P Fin (fun fX R' g' w'=>JM fX n R' g' w') σ R g aN
end
section
variable {P:aD}{Fin:ae->ay->Prop}{Wg:Nat}{p:dG}
theorem rq:gi P false (fun n R g w=>JW P Wg p n R g w):=
 ⟨fun h=> .inl h,fun hr h=> .inr ⟨hr,fun aN hk _=>let⟨g',w',es,R',h1,h2⟩:=h aN hk; .own h1 h2⟩⟩
theorem gX:∀σ,gi P true (JM P Fin σ):=fun σ=>
 ⟨fun h=> .inl h,fun hr h=> .inr fun aN hk _=>let⟨g',w',es,R',h1,h2⟩:=h aN hk; .own hr h1 h2⟩
theorem JW.keeps:∀{n:Nat}{R:Perm}{g:ak}{w aN:ay},JW P Wg p n R g w->bh R w aN->JW P Wg p n R g aN
 |0,_,_,_,_,h,_=>h
 |n+1,R,g,w,aN,h,k=>h.imp (fun x=>x.keeps k) fun x=>⟨x.1,fun iF k₂=>x.2 iF (k.trans k₂)⟩
theorem JM.keeps:∀{n:Nat}{σ:mA}{R:Perm}{g:ak}{w aN:ay},JM P Fin σ n R g w->bh R w aN->JM P Fin σ n R g aN
 |0,_,_,_,_,_,h,_=>h
 |n+1,σ,R,g,w,aN,h,k=>h.imp (fun x=>x.keeps k) fun x iF k₂=>x iF (k.trans k₂)
theorem JW.out:∀{n:Nat}{R:Perm}{g:ak}{w:ay},JW P Wg p n R g w->∃m,m<n/\g.status= .running/\(FF Wg w->O2 P Wg p (JW P Wg p m) m R g w)
 |0,_,_,_,h=>h.elim
 |n+1,R,g,w,h=>h.elim (fun x=>let⟨m,h1,h2⟩:=JW.out x;⟨m,aj,h2⟩) fun x=>⟨n,aj,x.1,x.2 w (bh.refl _ _)⟩
theorem JM.out:∀{n:Nat}{σ:mA}{R:Perm}{g:ak}{w:ay},JM P Fin σ n R g w->∃m,m<n/\(Pa σ w->rL P Fin (fun fX R' g' w'=>JM P Fin fX m R' g' w') σ R g w)
 |0,_,_,_,_,h=>h.elim
 |n+1,σ,R,g,w,h=>h.elim (fun x=>let⟨m,h1,h2⟩:=JM.out x;⟨m,aj,h2⟩) fun x=>⟨n,aj,x w (bh.refl _ _)⟩
theorem JM.le{n m:Nat}{σ:mA}{R:Perm}{g:ak}{w:ay}(h:JM P Fin σ n R g w)(hn:n<=m):JM P Fin σ m R g w:=(gX σ).le hn h
theorem JD.mono:∀{n:Nat}{s:DSt}{g:ak},JD P Wg n s g->g.status= .running
 |0,_,_,h=>h.elim
 |_+1,_,_,h=>h.1
end
end Go.AM
namespace Go.AM
open Go Go.Conc
open Go.ConcN (RelBy upd upd_same upd_ne)
open Go.ConcR (stA smA KK rd wr mk)
theorem tX (w:ay)(a:Addr)(v:ae)(b o:Nat):(w.setCell a v).frozen? ⟨b,o,none⟩=w.frozen? ⟨b,o,none⟩:=by
 unfold ay.frozen? ay.setCell;simp only[Array.getElem?_modify]
 by_cases h:a.block=b
 ·subst h;cases hb:w.heap[a.block]? with
  |none=>simp
  |some x=>cases x with
   |cells c e f=>simp
   |_=>simp
 ·simp[h]
theorem size_setCell (w:ay)(a:Addr)(v:ae):(w.setCell a v).heap.size=w.heap.size:=by simp[ay.setCell]
theorem heap_setCell (w:ay)(a:Addr)(v:ae)(b:Nat)(h:a.block≠b):(w.setCell a v).heap[b]?=w.heap[b]?:=by
 unfold ay.setCell;simp only[Array.getElem?_modify,h,if_false]
theorem DC {w:ay}{b o:Nat}{v:ae}(h:w.cell? ⟨b,o,none⟩=some v):w.shape? b≠none:=by
 unfold ay.cell? at h;unfold ay.shape?;cases hb:w.heap[b]? with
 |none=>simp[hb]at h
 |some x=>cases x<;>simp_all
section
variable {Wg:Nat}{w w':ay}{st sm x:Int}{R S:Perm}
theorem rP.setSt(h:rP Wg w st sm)(x:Int):rP Wg (setSt Wg x w) x sm:=by
 refine⟨?_,?_,fun o ho=>(tX ..).trans (h.fz o ho)⟩
 ·show(w.setCell (stA Wg) _).cell? _=_
  rw[ie _ _ _ _ _ rfl];simp[stA,h.st]
 ·show(w.setCell (stA Wg) _).cell? _=_
  rw[ie _ _ _ _ _ rfl];simp[stA,h.sm]
theorem rP.setSm(h:rP Wg w st sm)(x:Int):rP Wg (setSm Wg x w) st x:=by
 refine⟨?_,?_,fun o ho=>(tX ..).trans (h.fz o ho)⟩
 ·show(w.setCell (smA Wg) _).cell? _=_
  rw[ie _ _ _ _ _ rfl];simp[smA,h.st]
 ·show(w.setCell (smA Wg) _).cell? _=_
  rw[ie _ _ _ _ _ rfl];simp[smA,h.sm]
theorem rP.at(h:rP Wg w st sm)(d:Nat):rP Wg (w.at d) st sm:=⟨h.st,h.sm,h.fz⟩
theorem vh {o:Nat}{v u:ae}(hl:wG R w)(hs:¬R.rd Wg o)(hc:w.cell? ⟨Wg,o,none⟩=some u):bh R w (w.setCell ⟨Wg,o,none⟩ v):=by
 refine⟨rfl,rfl,rfl,by rw[size_setCell];exact ai _,fun b _=>qL ..,fun b x hr=>?_,fun b x _=>oK ..,fun b hb=>heap_setCell _ _ _ _ fun e=>?_⟩
 ·rw[ie _ _ _ _ _ rfl]
  split
  ·rename_i h;obtain⟨rfl,rfl,_⟩:=h;exact absurd hr hs
  ·rfl
 ·simp only at e;subst e;exact DC hc (hl.ob _ hb).2
theorem qw (hl:wG R w)(hs:∀o,o<=1->¬R.rd Wg o)(h:rP Wg w st sm):bh R w (setSt Wg x w):=vh hl (hs 0 aj) h.st
theorem z7 (hl:wG R w)(hs:∀o,o<=1->¬R.rd Wg o)(h:rP Wg w st sm):bh R w (setSm Wg x w):=vh hl (hs 1 aj) h.sm
theorem rP.OR(h:rP Wg w st sm)(c:s8 R w.heap.size w w')(hW:Wg<w.heap.size)(hs:∀o,o<=1->¬R.wr Wg o):rP Wg w' st sm:=
 ⟨(c.cell Wg 0 hW (hs 0 aj)).trans h.st,(c.cell Wg 1 hW (hs 1 aj)).trans h.sm,fun o ho=>(tW (c.qP Wg o hW)).trans (h.fz o ho)⟩
theorem EU (c:s8 R w.heap.size w w')(hd:ml R S)(hl:wG S w):bh S w w':=
 ⟨c.tape,c.os,c.output,c.size,fun b hb=>c.shape b hb,fun b o hr=>c.cell b o (hl.rd b o hr) fun hw=>hd.cell b o hw hr,fun b o hb=>c.qP b o hb,
  fun b hb=>c.obj b (hl.ob b hb).1 (fun hr=>hd.obj b hr hb) (hl.ob b hb).2⟩
end
section
variable {sh:Nat->Prop}{D:Nat->WS}{size k Wg:Nat}{w w':ay}{R R':Perm}
theorem Lay.own(L:Lay sh D size w)(hk:k<size)(hD:D k= .work R)(nN:eJ R R' w.heap.size)(hl:wG R' w')(hs:w.heap.size<=w'.heap.size)
  (gv:∀j S,j≠k->j<size->(D j).dW=some S->bh S w w'):Lay sh (upd D k (.work R')) size w':=by
 have hp:(D k).dW=some R:=by rw[hD];rfl
 have CW:∀j S,(upd D k (.work R') j).dW=some S->(j=k/\S=R')\/(j≠k/\(D j).dW=some S):=by
  intro j S h
  by_cases e:j=k
  ·subst e;rw[upd_same]at h;exact .inl ⟨rfl,(Option.some.inj h).symm⟩
  ·rw[upd_ne _ _ e]at h;exact .inr ⟨e,h⟩
 have Ci:=L.low k R hk hp;have dl:∀j S,j≠k->j<size->(D j).dW=some S->ml R' S:=by
  intro j S hj Ck hS;have d:=L.HL k j R S (Ne.symm hj) hk Ck hp hS;have l:=L.low j S Ck hS;exact⟨fun b o h1 h2=>(nN.wr b o h1).elim (fun x=>d.cell b o x h2) fun x=>absurd (l.rd b o h2) aj,fun b h1 h2=>(nN.ob b h1).elim (fun x=>d.obj b x h2) fun x=>absurd (l.ob b h2).1 aj⟩
 have dr:∀j S,j≠k->j<size->(D j).dW=some S->ml S R':=by
  intro j S hj Ck hS;have d:=L.HL j k S R hj Ck hk hS hp;have l:=L.low j S Ck hS;exact⟨fun b o h1 h2=>(nN.rd b o h2).elim (fun x=>d.cell b o h1 x) fun x=>absurd (l.rd b o (l.wr b o h1)) aj,fun b h1 h2=>(nN.ob b h2).elim (fun x=>d.obj b h1 x) fun x=>absurd (l.ob b h1).1 aj⟩
 refine⟨fun j S hj hS=>?_,fun i j S T sN hi hj hS hT=>?_,fun j S hj hS b o hr hb=>?_,fun b hb=>a8 (L.sh b hb) hs⟩
 ·rcases CW j S hS with⟨rfl,rfl⟩|⟨e,h⟩
  ·exact hl
  ·exact(L.low j S hj h).keeps (gv j S e hj h)
 ·rcases CW i S hS with⟨rfl,rfl⟩|⟨e,h⟩
  ·rcases CW j T hT with⟨rfl,rfl⟩|⟨e',h'⟩
   ·exact absurd rfl sN
   ·exact dl j T e' hj h'
  ·rcases CW j T hT with⟨rfl,rfl⟩|⟨e',h'⟩
   ·exact dr i S e hi h
   ·exact L.HL i j S T sN hi hj h h'
 ·rcases CW j S hS with⟨rfl,rfl⟩|⟨e,h⟩
  ·exact(nN.rd b o hr).elim (fun x=>L.Dz j R hk hp b o x hb) fun x=>absurd (L.sh b hb) aj
  ·exact L.Dz j S hj h b o hr hb
theorem Lay.abb(L:Lay sh D size w)(hs:w.heap.size<=w'.heap.size)(gv:∀j S,j<size->(D j).dW=some S->bh S w w'):Lay sh D size w':=
 ⟨fun j S hj hS=>(L.low j S hj hS).keeps (gv j S hj hS),L.HL,L.Dz,fun b hb=>a8 (L.sh b hb) hs⟩
theorem Lay.same{D':Nat->WS}(L:Lay sh D size w)(h:∀j,j<size->(D' j).dW=(D j).dW\/(D' j).dW=none):Lay sh D' size w:=by
 have key:∀j S,j<size->(D' j).dW=some S->(D j).dW=some S:=fun j S hj hS=>by
  rcases h j hj with e|e
  ·rw[<-e];exact hS
  ·rw[e]at hS;cases hS
 exact⟨fun j S hj hS=>L.low j S hj (key j S hj hS),fun i j S T sN hi hj hS hT=>L.HL i j S T sN hi hj (key i S hi hS) (key j T hj hT),fun j S hj hS=>L.Dz j S hj (key j S hj hS),L.sh⟩
end
end Go.AM
namespace Go.AM
open Go Go.Conc
open Go.ConcN (RelBy upd upd_same upd_ne sumTo sumTo_upd sumTo_congr le_sumTo)
open Go.ConcR (stA smA KK rd wr mk)
theorem rB {R:Perm}{e:Event}{b:Touch}(hl:∀b o,R.wr b o->R.rd b o)(h:EvW R e)(hb:(MemAct.ofEvent e).touch?=some b):Vj R b.loc/\(b.write=true->YC R b.loc):=by
 obtain⟨loc,FM,sy⟩:=e;rcases h with h|h|h
 ·cases loc with
  |cell a=>
   rw[ofEvent_cell0]at hb;simp only[MemAct.touch?,ah]at hb;subst hb;obtain⟨h1,h2⟩:=h;refine⟨⟨h1,?_⟩,fun hw=>⟨h1,?_⟩⟩
   ·by_cases hw:FM=true
    ·simp only[hw,if_true]at h2;exact hl _ _ h2
    ·simp only[hw,if_false]at h2;exact h2
   ·simp only at hw;simp only[hw,if_true]at h2;exact h2
  |obj r=>
   obtain⟨h1,h2⟩:=h;simp only at h2;subst h2;cases FM<;>simp[MemAct.ofEvent,MemAct.touch?]at hb<;>subst hb<;>exact⟨h1,fun _=>h1⟩
  |mark m=>
   have hm:Gu m:=h;cases m<;>simp_all [MemAct.ofEvent,MemAct.touch?,Gu]
  |_=>exact h.elim
 ·simp only at h;subst h;simp[MemAct.ofEvent,MemAct.touch?]at hb
 ·simp only at h;subst h;simp[MemAct.ofEvent,MemAct.touch?]at hb
theorem Cx {R:Perm}{e:Event}(h:EvW R e)(a:Addr):MemAct.ofEvent e≠ .mark (.release a):=by
 intro hx;have hl:=Go.ConcR.loc_of_ofEvent hx;rcases h with h|h|h
 ·unfold nT at h;rw[hl]at h;exact h
 ·rw[h]at hl;cases hl
 ·rw[h]at hl;cases hl
theorem GP {R:Perm}{w:ay}(h:wG R w){l:Loc}(hl:Vj R l):l.low w.heap.size:=by
 cases l with
 |cell a=>exact h.rd _ _ hl.2
 |obj r=>exact(h.ob _ hl).1
 |_=>trivial
def Vc (size:Nat)(S:Nat->Nat):Nat:=sumTo size fun i=>if 5<=S i then 1 else 0
def OpenSt (lo size:Nat)(S:Nat->Nat):Prop:=∀i,lo<=i->i<size->S i=7\/S i=6\/S i=5\/S i=1
def AllQuit (lo size:Nat)(S:Nat->Nat):Prop:=∀i,lo<=i->i<size->S i=1
inductive Mode (lo size:Nat)(S:Nat->Nat):Sub->Bool->Int->Int->Prop
 |opn {V:Nat}:OpenSt lo size S->Vc size S<=V->V<=VM->Mode lo size S (.opn V) false ((Vc size S:Nat)*KK) 0
 |added {V:Nat}:OpenSt lo size S->Vc size S<=V->V<VM->Mode lo size S (.added V) false (((Vc size S:Nat)+1)*KK) 0
 |seen {vs:Nat}:OpenSt lo size S->Vc size S<=vs->1<=vs->vs<=VM->Mode lo size S (.seen vs) false ((Vc size S:Nat)*KK) 0
 |reg {b:Bool}:OpenSt lo size S->1<=Vc size S->Vc size S<=VM->Mode lo size S .reg b ((Vc size S:Nat)*KK+1) 0
 |last {b:Bool} (L:Nat):lo<=L->L<size->S L=4\/S L=3\/S L=2->(∀i,lo<=i->i<size->i≠L->S i=1)->Mode lo size S .reg b (if S L=2 then 0 else 1) 0
 |sema:AllQuit lo size S->Mode lo size S .reg false 0 1
 |V0:AllQuit lo size S->Mode lo size S .V0 false 0 0
 |fin:AllQuit lo size S->Mode lo size S .fin false 0 0
section
variable {lo size:Nat}{S:Nat->Nat}{s:Sub}{b:Bool}{st sm:Int}
theorem KD (S:Nat->Nat){i x:Nat}(hi:i<size):Vc size (upd S i x)+(if 5<=S i then 1 else 0)=Vc size S+(if 5<=x then 1 else 0):=
 sumTo_upd S x (fun y=>if 5<=y then 1 else 0) hi
theorem KF (S:Nat->Nat){i:Nat}(hi:i<size)(h:5<=S i):1<=Vc size S:=by
 have :=le_sumTo (f:=fun i=>if 5<=S i then 1 else 0) hi;simp only[h,if_true]at this;exact this
theorem aa5 (S:Nat->Nat){i j:Nat}(hi:i<size)(hj:j<size)(sN:j≠i)(h:5<=S i)(h':5<=S j):2<=Vc size S:=by
 have h1:=KD S (x:=0) hi;have h2:=KF (upd S i 0) hj (by rw[upd_ne _ _ sN];exact h');simp only[h,if_true]at h1;simp at h1;omega
theorem Xw (h:Vc size S=0){i:Nat}(hi:i<size):¬5<=S i:=fun h5=>by have :=KF S hi h5;omega
theorem Mode.Bi(h:Mode lo size S s b st sm)(b':Bool)(hb:b'=b\/b'=false):Mode lo size S s b' st sm:=by
 rcases hb with rfl|rfl
 ·exact h
 ·cases h with
  |opn h1 h2 h3=>exact .opn h1 h2 h3
  |added h1 h2 h3=>exact .added h1 h2 h3
  |seen h1 h2 h3 h4=>exact .seen h1 h2 h3 h4
  |reg h1 h2 h3=>exact .reg h1 h2 h3
  |last L h1 h2 h3 h4=>exact .last L h1 h2 h3 h4
  |sema h1=>exact .sema h1
  |V0 h1=>exact .V0 h1
  |fin h1=>exact .fin h1
theorem Mode.ahU(h:Mode lo size S s b st sm){i x:Nat}(lD:lo<=i)(hi:i<size)(h5:5<=S i)(hx:x=7\/x=6\/x=5):Mode lo size (upd S i x) s b st sm:=by
 have hv:Vc size (upd S i x)=Vc size S:=by
  have :=KD S (x:=x) hi;simp only[h5,if_true,show 5<=x by omega]at this;omega
 have ho:OpenSt lo size S->OpenSt lo size (upd S i x):=fun h a h1 h2=>by
  by_cases e:a=i
  ·subst e;rw[upd_same];omega
  ·rw[upd_ne _ _ e];exact h a h1 h2
 cases h with
 |opn h1 h2 h3=>rw[<-hv]at h2⊢;exact .opn (ho h1) h2 h3
 |added h1 h2 h3=>rw[<-hv]at h2⊢;exact .added (ho h1) h2 h3
 |seen h1 h2 h3 h4=>rw[<-hv]at h2⊢;exact .seen (ho h1) h2 h3 h4
 |reg h1 h2 h3=>rw[<-hv]at h2 h3⊢;exact .reg (ho h1) h2 h3
 |last L h1 h2 h3 h4=>
  by_cases e:i=L
  ·subst e;omega
  ·have :=h4 i lD hi e;omega
 |sema h1=>have :=h1 i lD hi;omega
 |V0 h1=>have :=h1 i lD hi;omega
 |fin h1=>have :=h1 i lD hi;omega
theorem Mode.isLast(h:Mode lo size S s b st sm){i:Nat}(lD:lo<=i)(hi:i<size)(hs:S i=4\/S i=3\/S i=2):
  s= .reg/\(∀a,lo<=a->a<size->a≠i->S a=1)/\st=(if S i=2 then 0 else 1)/\sm=0:=by
 cases h with
 |opn h1 _ _=>have :=h1 i lD hi;omega
 |added h1 _ _=>have :=h1 i lD hi;omega
 |seen h1 _ _ _=>have :=h1 i lD hi;omega
 |reg h1 _ _=>have :=h1 i lD hi;omega
 |last L h1 h2 h3 h4=>
  by_cases e:i=L
  ·subst e;exact⟨rfl,h4,rfl,rfl⟩
  ·have :=h4 i lD hi e;omega
 |sema h1=>have :=h1 i lD hi;omega
 |V0 h1=>have :=h1 i lD hi;omega
 |fin h1=>have :=h1 i lD hi;omega
theorem Mode.minus(h:Mode lo size S s b st sm){i:Nat}(lD:lo<=i)(hi:i<size)(hs:S i=5):
  ∃v wt:Nat,wt<=1/\v<VM/\st=((v:Int)+1)*KK+wt/\sm=0/\((v=0/\wt=1)->Mode lo size (upd S i 4) s b ((v:Int)*KK+wt) 0)/\(¬(v=0/\wt=1)->Mode lo size (upd S i 1) s b ((v:Int)*KK+wt) 0):=by
 have hp:=KF S hi (by omega:5<=S i);have hv:∀x,¬5<=x->Vc size (upd S i x)+1=Vc size S:=by
  intro x hx;have :=KD S (x:=x) hi;simp only[show 5<=S i by omega,if_true,hx,if_false]at this;omega
 have ho:OpenSt lo size S->OpenSt lo size (upd S i 1):=fun h a h1 h2=>by
  by_cases e:a=i
  ·subst e;rw[upd_same];simp
  ·rw[upd_ne _ _ e];exact h a h1 h2
 have h1:=hv 1 aj;obtain⟨v,hvv⟩:∃v,Vc size S=v+1:=⟨Vc size S-1,aj⟩;have e1:Vc size (upd S i 1)=v:=aj;cases h with
 |opn h2 h3 h4=>
  refine⟨v,0,aj,aj,?_,rfl,fun x=>absurd x.2 aj,fun _=>?_⟩
  ·rw[hvv];simp
  ·have :Mode lo size (upd S i 1) (.opn _) false ((Vc size (upd S i 1):Nat)*KK) 0:= .opn (ho h2) (by omega:Vc size (upd S i 1)<= _) h4;rw[e1]at this;simpa using this
 |added h2 h3 h4=>
  refine⟨v+1,0,aj,aj,?_,rfl,fun x=>absurd x.2 aj,fun _=>?_⟩
  ·rw[hvv];simp
  ·have :Mode lo size (upd S i 1) (.added _) false (((Vc size (upd S i 1):Nat)+1)*KK) 0:= .added (ho h2) (by omega:Vc size (upd S i 1)<= _) h4;rw[e1]at this;simpa using this
 |seen h2 h3 h4 h5=>
  refine⟨v,0,aj,aj,?_,rfl,fun x=>absurd x.2 aj,fun _=>?_⟩
  ·rw[hvv];simp
  ·have :Mode lo size (upd S i 1) (.seen _) false ((Vc size (upd S i 1):Nat)*KK) 0:= .seen (ho h2) (by omega:Vc size (upd S i 1)<= _) h4 h5;rw[e1]at this;simpa using this
 |reg h2 h3 h4=>
  refine⟨v,1,aj,aj,?_,rfl,fun x=>?_,fun x=>?_⟩
  ·rw[hvv];simp
  ·obtain⟨rfl,_⟩:=x;have :Mode lo size (upd S i 4) .reg b (if upd S i 4 i=2 then 0 else 1) 0:= .last i lD hi (by rw[upd_same];simp) fun a Y3 VY dO=>by
    rw[upd_ne _ _ dO];have h6:=h2 a Y3 VY
    by_cases h7:5<=S a
    ·have :=aa5 S hi VY dO aj h7;omega
    ·omega
   rw[upd_same]at this;simpa using this
  ·have :Mode lo size (upd S i 1) .reg b ((Vc size (upd S i 1):Nat)*KK+1) 0:= .reg (ho h2) aj aj;rw[e1]at this;simpa using this
 |last L h2 h3 h4 h5=>
  by_cases e:i=L
  ·subst e;omega
  ·have :=h5 i lD hi e;omega
 |sema h2=>have :=h2 i lD hi;omega
 |V0 h2=>have :=h2 i lD hi;omega
 |fin h2=>have :=h2 i lD hi;omega
theorem allQuit_of (h:OpenSt lo size S)(h0:Vc size S=0):AllQuit lo size S:=fun i h1 h2=>by
 have :=h i h1 h2;have :=Xw h0 h2;omega
end
section
variable (P:aD)(Wg:Nat)(p:dG)
inductive WSit:WS->Nat->Nat->Nat->ak->ay->Prop
 |work {R:Perm}{n:Nat}{g:ak}{w:ay}:JW P Wg p n R g w->WSit (.work R) 7 n R.deaf g w
 |k1 {R:Perm}{r n:Nat}{g:ak}{w:ay}:JD P Wg n .k1 g->WSit (.rel R r) 6 n 0 g w
 |d1 {R:Perm}{r n:Nat}{g:ak}{w:ay}:JD P Wg n .d1 g->WSit (.rel R r) 5 n 1 g w
 |d2 {R:Perm}{r n:Nat}{g:ak}{w:ay}:JD P Wg n .d2 g->WSit (.rel R r) 4 n 1 g w
 |d3 {R:Perm}{r n:Nat}{g:ak}{w:ay}:JD P Wg n .d3 g->WSit (.rel R r) 3 n 1 g w
 |d4 {R:Perm}{r n:Nat}{g:ak}{w:ay}:JD P Wg n .d4 g->WSit (.rel R r) 2 n 1 g w
 |gone {R:Perm}{r n d:Nat}{g:ak}{w:ay}:QuitsD P n d g->WSit (.rel R r) 1 n d g w
 |old {n d:Nat}{g:ak}{w:ay}:QuitsD P n d g->WSit .old 0 n d g w
end
section
variable {P:aD}{Wg:Nat}{p:dG}{ws:WS}{s n d:Nat}{g:ak}{w w':ay}
theorem WSit.status(h:WSit P Wg p ws s n d g w):g.status= .running\/(g.status= .finished/\s<=1):=by
 cases h with
 |work h=>exact .inl (JW.out h).choose_spec.2.1
 |k1 h=>exact .inl h.mono
 |d1 h=>exact .inl h.mono
 |d2 h=>exact .inl h.mono
 |d3 h=>exact .inl h.mono
 |d4 h=>exact .inl h.mono
 |gone h=>exact h.status.imp id fun x=>⟨x,aj⟩
 |old h=>exact h.status.imp id fun x=>⟨x,aj⟩
theorem WSit.woken(h:WSit P Wg p ws s n d g w)(a b:ak)(w':ay):woken P a b w' g=g:=by
 unfold Go.Conc.woken
 split
 ·exact again_running _ (h.status.imp id (·.1))
 ·rfl
theorem WSit.keeps(h:WSit P Wg p ws s n d g w)(k:∀R,ws.dW=some R->bh R w w'):WSit P Wg p ws s n d g w':=by
 cases h with
 |work h=>exact .work (h.keeps (k _ rfl))
 |k1 h=>exact .k1 h
 |d1 h=>exact .d1 h
 |d2 h=>exact .d2 h
 |d3 h=>exact .d3 h
 |d4 h=>exact .d4 h
 |gone h=>exact .gone h
 |old h=>exact .old h
end
structure Com (P:aD)(Wg:Nat)(sh:Nat->Prop)(lo:Nat)(D:Nat->WS)(S F:Nat->Nat)(ps:Nat->dG)(gs:Array ak)(w:ay)(t:Trace):Prop where
 lom:1<=lo/\lo<=gs.size
 wk:∀i,0<i->i<gs.size->∃g,gs[i]?=some g/\WSit P Wg (ps i) (D i) (S i) (F i) (Deaf t i) g w
 old:∀i,i<lo->S i=0
 act:∀i,lo<=i->i<gs.size->S i≠0
 post:∀i R r,i<gs.size->D i= .rel R r->(ps i).ok R w
 F4:∀i,lo<=i->i<gs.size->Hx (ps i)
 above:∀j,gs.size<=j->Deaf t j=0
 lay:Lay sh D gs.size w
 ti:TI Wg sh D gs.size w.heap.size t
end Go.AM
namespace Go.AM
open Go Go.Conc
open Go.ConcN (RelBy upd upd_same upd_ne sumTo sumTo_upd sumTo_congr le_sumTo)
open Go.ConcR (stA smA KK rd wr mk)
def At (σ:mA)(Wg:Nat)(sh:Nat->Prop)(lo size:Nat)(S:Nat->Nat)(ps:Nat->dG)(b:Bool)(w:ay):Prop:=
 match σ with
 | .AL=>False
 | .idle=>lo=size/\b=false
 | .fL gr=>gr.Wg=Wg/\sh Wg/\gr.vf=((List.range (size-lo)).map fun i=>ps (lo+i)).reverse/\∃st sm,rP Wg w st sm/\Mode lo size S gr.sub b st sm
theorem At.live{σ:mA}{Wg:Nat}{sh:Nat->Prop}{lo size:Nat}{S:Nat->Nat}{ps:Nat->dG}{b:Bool}{w:ay}(h:At σ Wg sh lo size S ps b w):Pa σ w:=by
 cases σ with
 |AL=>trivial
 |idle=>trivial
 |fL gr=>obtain⟨rfl,_,_,st,sm,h1,_⟩:=h;exact⟨st,sm,h1⟩
def nJ (b:Bool)(g:ak):ak:=if b then{g with status:= .blocked}else g
structure IV (P:aD)(Fin:ae->ay->Prop)(gs:Array ak)(w:ay)(t:Trace)(σ:mA)(n:Nat)(R:Perm)(g:ak)(Wg:Nat)(sh:Nat->Prop)(lo:Nat)(D:Nat->WS)(S F:Nat->Nat)(ps:Nat->dG)(b:Bool):Prop where
 main:gs[0]?=some (nJ b g)
 blk:b=true->g.status= .running/\g.offers=none
 jm:JM P Fin σ n R g w
 perm:D 0= .work R
 deaf:Deaf t 0=R.deaf
 dX:Com P Wg sh lo D S F ps gs w t
 fL:At σ Wg sh lo gs.size S ps b w
def meas (n:Nat)(b:Bool)(size:Nat)(F:Nat->Nat):Nat×Nat:=(n,(if b then 0 else 1)+2*sumTo size F)
def Inv (P:aD)(Fin:ae->ay->Prop)(μ:Nat×Nat)(m:Machine)(t:Trace):Prop:=
 ∃gs w sl σ n R g Wg sh lo D S F ps b,m=crowd gs w sl/\IV P Fin gs w t σ n R g Wg sh lo D S F ps b/\μ=meas n b gs.size F
section
variable {P:aD}{Fin:ae->ay->Prop}{gs:Array ak}{w w':ay}{t:Trace}{σ:mA}{n:Nat}{R:Perm}{g:ak}{Wg:Nat}{sh:Nat->Prop}{lo:Nat}{D:Nat->WS}{S F:Nat->Nat}{ps:Nat->dG}{b:Bool}{sl:Option (Nat×Nat)}
theorem IV.size(I:IV P Fin gs w t σ n R g Wg sh lo D S F ps b):0<gs.size:=(Array.getElem?_eq_some_iff.1 I.main).1
theorem IV.TB(I:IV P Fin gs w t σ n R g Wg sh lo D S F ps b):wG R w:=I.dX.lay.low 0 R I.size (by rw[I.perm];rfl)
theorem JM.running:∀(n:Nat) {σ:mA}{R:Perm}{g:ak}{w:ay},JM P Fin σ n R g w->Pa σ w->g.status= .running:=by
 intro n
 induction n using Nat.strongRecOn with
 |_ n ih=>
  intro σ R g w h hl;obtain⟨m,hm,hs⟩:=h.out;cases hs hl with
  |own h _ _=>exact h
  |ends h _ _ _ _=>exact h
  |wm _ _ _ _ _ h1 _ h2=>exact ih m hm h2 ⟨_,_,h1⟩
  |add h _ _=>exact h
  |said h _ _ _=>exact h
  |spawn h=>exact h
  |load h _=>exact h
  |cas h _=>exact h
  |sem h _ _ _=>exact h
  |last h _=>exact h
  |acq h _ _ _=>exact h
theorem IN (hb:b=false->g.status= .running):awake (nJ b g):=by
 cases b with
 |false=>exact awake_of (.inl (hb rfl))
 |true=>exact awake_of (.inr (.inl rfl))
theorem HS {a a':ak}(gY:g.status= .running)(ac2:b=true->g.offers=none)(mQ:a'.status= .running\/a'.status= .finished):
  ∃b',woken P a a' w' (nJ b g)=nJ b' g/\(b'=b\/b'=false)/\(mayWake P a=true->b'=false):=by
 have hc:(a'.status != .blocked&&a'.status != .waiting)=true:=by rcases mQ with h|h<;>rw[h]<;>rfl
 cases b with
 |false=>
  refine⟨false,?_,.inl rfl,fun _=>rfl⟩
  show woken P a a' w' g=g
  exact woken_running gY
 |true=>
  by_cases hm:mayWake P a=true
  ·refine⟨false,?_,.inr rfl,fun _=>rfl⟩;unfold Go.Conc.woken;rw[bK (by rw[ag]at hc;simp[hm,hc.1,hc.2])];exact Go.ConcR.again_blocked gY (ac2 rfl) w'
  ·refine⟨true,?_,.inl rfl,fun h=>absurd h hm⟩;unfold Go.Conc.woken;rw[bZ (by simp[hm])]
theorem IV.running(I:IV P Fin gs w t σ n R g Wg sh lo D S F ps b):g.status= .running:=JM.running n I.jm I.fL.live
theorem IV.worker(I:IV P Fin gs w t σ n R g Wg sh lo D S F ps b){i:Nat}(xH:0<i)(hi:i<gs.size){a a':ak}{es:Array Event}(ha:gs[i]?=some a)(ei:stepG P false a w= .go a' w' es)
  {ws:WS}{s m:Nat}(gv:∀j T,j≠i->j<gs.size->(D j).dW=some T->bh T w w')(YI:WSit P Wg (ps i) ws s m (deafBehind (Deaf t i) es) a' w')(Ja:∀T r,ws= .rel T r->(ps i).ok T w')
  (hold:s=0↔S i=0)(VD:Lay sh (upd D i ws) gs.size w')(Vn:TI Wg sh (upd D i ws) gs.size w'.heap.size (t++MemOp.ofEvents i a.frame.fn a.frame.place es))(E0:m<F i)
  (AH:∀b',(b'=b\/b'=false)->(mayWake P a=true->b'=false)->At σ Wg sh lo gs.size (upd S i s) ps b' w'):
  ∃m₁ ops oZ,runT P (crowd gs w sl) i=(.next m₁,ops)/\Lt2 oZ (meas n b gs.size F)/\Inv P Fin oZ m₁ (t++ops):=by
 have gY:=runT_crowd_go (P:=P) (sl:=sl) (i:=i) ha (by rw[show(i==0)=false by simp;omega];exact ei);have ac6:i≠0:=aj;obtain⟨b',nX,mr,hb3⟩:=HS (P:=P) (w':=w') (a:=a) (a':=a') I.running (fun h=>(I.blk h).2) (YI.status.imp id (·.1));have iB:((gs.map (woken P a a' w')).setIfInBounds i a').size=gs.size:=cY;have L5:∀op∈MemOp.ofEvents i a.frame.fn a.frame.place es,op.g=i:=Go.ConcR.g_of_ofEvents;have hkR:bh R w w':=gv 0 R aj I.size (by rw[I.perm];rfl);refine⟨_,_,_,gY,?_,_,w',sl,σ,n,R,g,Wg,sh,lo,upd D i ws,upd S i s,upd F i m,ps,b',rfl,⟨?_,fun h=>?_,I.jm.keeps hkR,by rw[upd_ne _ _ aj];exact I.perm,?_,⟨?_,fun j Oq hj=>?_,fun j hj=>?_,fun j hj1 hj=>?_,fun j T r hj ko=>?_,?_,fun j hj=>?_,?_,?_⟩,?_⟩,rfl⟩
 ·rw[iB];unfold meas;refine Prod.Lex.right _ ?_;have h1:=sumTo_upd F m id hi;simp only[id]at h1;have h2:(if b' then 0 else 1)<=(if b then 0 else 1)+1:=by split<;>split<;>omega
  have h3:(sumTo gs.size fun x=>upd F i m x)=sumTo gs.size (upd F i m):=rfl;have h4:(sumTo gs.size fun x=>F x)=sumTo gs.size F:=rfl;rw[h3,h4]at h1;omega
 ·rw[Array.getElem?_setIfInBounds_ne ac6,Array.getElem?_map,I.main,cT,nX]
 ·rcases mr with rfl|rfl
  ·exact I.blk h
  ·cases h
 ·rw[Deaf_other t aj _ L5];exact I.deaf
 ·rw[iB];exact I.dX.lom
 ·rw[iB]at hj
  by_cases e:j=i
  ·subst e;refine⟨a',by rw[Array.getElem?_setIfInBounds_self_of_lt (by simpa using hi)],?_⟩;rw[upd_same,upd_same,upd_same,Deaf_own];exact YI
  ·obtain⟨x,hx,tR⟩:=I.dX.wk j Oq hj;refine⟨x,by rw[Array.getElem?_setIfInBounds_ne (Ne.symm e),Array.getElem?_map,hx,cT,tR.woken],?_⟩;rw[upd_ne _ _ e,upd_ne _ _ e,upd_ne _ _ e,Deaf_other t (Ne.symm e) _ L5];exact tR.keeps fun T hT=>gv j T e hj hT
 ·by_cases e:j=i
  ·subst e;rw[upd_same];exact hold.2 (I.dX.old j hj)
  ·rw[upd_ne _ _ e];exact I.dX.old j hj
 ·rw[iB]at hj
  by_cases e:j=i
  ·subst e;rw[upd_same];exact fun h=>I.dX.act j hj1 hj (hold.1 h)
  ·rw[upd_ne _ _ e];exact I.dX.act j hj1 hj
 ·rw[iB]at hj
  by_cases e:j=i
  ·subst e;rw[upd_same]at ko;exact Ja T r ko
  ·rw[upd_ne _ _ e]at ko;have lD:lo<=j:=Nat.le_of_not_lt fun cA=>by
    have h0:=I.dX.old j cA;rcases Nat.eq_zero_or_pos j with rfl|hp
    ·rw[I.perm]at ko;cases ko
    ·obtain⟨x,_,tR⟩:=I.dX.wk j hp hj;rw[h0,ko]at tR;cases tR
   exact I.dX.F4 j lD hj T w w' (I.dX.post j T r hj ko) (gv j T e hj (by rw[ko];rfl))
 ·rw[iB];exact I.dX.F4
 ·rw[iB]at hj;rw[Deaf_other t (show i≠j by omega) _ L5];exact I.dX.above j hj
 ·rw[iB];exact VD
 ·rw[iB];exact Vn
 ·rw[iB];exact AH b' mr hb3
end
end Go.AM
namespace Go.AM
open Go Go.Conc
open Go.ConcN (RelBy upd upd_same upd_ne sumTo)
open Go.ConcR (stA smA KK rd wr mk)
theorem kC {α:Type}(f:Nat->α)(i:Nat):upd f i (f i)=f:=by
 funext a
 by_cases h:a=i
 ·subst h;rw[upd_same]
 ·rw[upd_ne _ _ h]
def Kx (Wg:Nat)(e:Event):Prop:=e.loc= .mark .disable\/e.loc= .mark .enable\/∃o FM,o<=1/\e=⟨.cell ⟨Wg,o,none⟩,FM,true⟩
theorem uU {Wg:Nat}{e:Event}(h:Kx Wg e):(MemAct.ofEvent e).touch?=none\/∃o FM,o<=1/\e=⟨.cell ⟨Wg,o,none⟩,FM,true⟩/\(MemAct.ofEvent e).touch?=some ⟨.cell ⟨Wg,o,none⟩,FM,.atomic⟩:=by
 obtain⟨loc,FM,sy⟩:=e;rcases h with h|h|⟨o,wr',h1,h2⟩
 ·simp only at h;subst h;exact .inl rfl
 ·simp only at h;subst h;exact .inl rfl
 ·cases h2;exact .inr ⟨o,_,h1,rfl,rfl⟩
theorem zs {Wg:Nat}{e:Event}(h:Kx Wg e)(a:Addr):MemAct.ofEvent e≠ .mark (.release a):=by
 intro hx;have hl:=Go.ConcR.loc_of_ofEvent hx;rcases h with h|h|⟨o,wr',h1,h2⟩
 ·rw[h]at hl;cases hl
 ·rw[h]at hl;cases hl
 ·rw[h2]at hl;cases hl
theorem yg (Wg:Nat)(FM:Bool):Kx Wg ⟨.cell (stA Wg),FM,true⟩:= .inr (.inr ⟨0,FM,aj,rfl⟩)
theorem OW (Wg:Nat)(FM:Bool):Kx Wg ⟨.cell (smA Wg),FM,true⟩:= .inr (.inr ⟨1,FM,aj,rfl⟩)
theorem Qt (Wg:Nat):deafBehind 1 (semEvents (smA Wg))=1:=rfl
section
variable {P:aD}{Fin:ae->ay->Prop}{gs:Array ak}{w w':ay}{t:Trace}{σ:mA}{n:Nat}{R:Perm}{g:ak}{Wg:Nat}{sh:Nat->Prop}{lo:Nat}{D:Nat->WS}{S F:Nat->Nat}{ps:Nat->dG}{b:Bool}{sl:Option (Nat×Nat)}
theorem IV.rW(I:IV P Fin gs w t σ n R g Wg sh lo D S F ps b){i:Nat}(hi:i<gs.size)(hS:S i≠0):
  lo<=i/\∃gr,σ= .fL gr/\gr.Wg=Wg/\sh Wg/\gr.vf=((List.range (gs.size-lo)).map fun i=>ps (lo+i)).reverse/\∃st sm,rP Wg w st sm/\Mode lo gs.size S gr.sub b st sm:=by
 have lD:lo<=i:=Nat.le_of_not_lt fun h=>hS (I.dX.old i h)
 refine⟨lD,?_⟩;have hg:=I.fL;cases σ with
 |AL=>exact hg.elim
 |idle=>obtain⟨h,_⟩:=hg;omega
 |fL gr=>exact⟨gr,rfl,hg⟩
theorem IV.um(I:IV P Fin gs w t σ n R g Wg sh lo D S F ps b){i:Nat}(xH:0<i)(hi:i<gs.size){a a':ak}{es:Array Event}(ha:gs[i]?=some a)(ei:stepG P false a w= .go a' w' es)
  {T:Perm}{r s m:Nat}(hD:D i= .rel T r)(gv:∀j U,j<gs.size->(D j).dW=some U->bh U w w')(iB:w'.heap.size=w.heap.size)(fN:sh Wg)
  (dP:∀j e,es[j]?=some e->Kx Wg e/\((MemAct.ofEvent e).touch?=none\/0<deafBehind (Deaf t i) (es.extract 0 j)))
  (YI:WSit P Wg (ps i) (.rel T r) s m (deafBehind (Deaf t i) es) a' w')(hs:s≠0)(hS:S i≠0)(E0:m<F i)
  (AH:∀b',(b'=b\/b'=false)->(mayWake P a=true->b'=false)->At σ Wg sh lo gs.size (upd S i s) ps b' w'):
  ∃m₁ ops oZ,runT P (crowd gs w sl) i=(.next m₁,ops)/\Lt2 oZ (meas n b gs.size F)/\Inv P Fin oZ m₁ (t++ops):=by
 have y6:∀e∈es,Kx Wg e:=fun e he=>by
  obtain⟨j,hj,rfl⟩:=Array.mem_iff_getElem.1 he;exact(dP j _ (Array.getElem?_eq_getElem hj)).1
 have I7:upd D i (.rel T r)=D:=by rw[<-hD];exact kC D i
 have hW:Wg<w.heap.size:=I.dX.lay.sh Wg fN;refine I.worker xH hi ha ei (fun j U _ hj hU=>gv j U hj hU) YI (fun T' r' h=>?_) ⟨fun h=>absurd h hs,fun h=>absurd h hS⟩ ?_ ?_ E0 AH
 ·cases h;have lD:=(I.rW hi hS).1;exact I.dX.F4 i lD hi T w w' (I.dX.post i T r hi hD) (gv i T hi (by rw[hD];rfl))
 ·rw[I7];exact I.dX.lay.abb aj gv
 ·rw[I7,iB];refine I.dX.ti.app I.dX.lay hi (ai _) (fun _ _=>rfl) (.inl rfl) Go.ConcR.g_of_ofEvents (fun op di bb hb=>?_) (fun op di ad=>?_) (fun op di bb hb=>?_) (fun T' r' hD'=>?_)
  ·obtain⟨e,he,rfl⟩:=Go.Conc.mem_ofEvents di;rcases uU (y6 e he)with h|⟨o,FM,ho,_,h⟩
   ·simp only at hb;rw[h]at hb;cases hb
   ·simp only at hb;rw[h]at hb;cases hb;exact hW
  ·obtain⟨e,he,rfl⟩:=Go.Conc.mem_ofEvents di;exact zs (y6 e he) ad
  ·obtain⟨e,he,rfl⟩:=Go.Conc.mem_ofEvents di;refine .inr ⟨by rw[hD];simp,?_⟩;rcases uU (y6 e he)with h|⟨o,FM,ho,_,h⟩
   ·simp only at hb;rw[h]at hb;cases hb
   ·simp only at hb;rw[h]at hb;cases hb;exact⟨⟨fN,rfl,ho⟩,cY,cY⟩
  ·refine(I.dX.ti.Io i T' r' hi hD').appOwn _ _ _ fun j e he=>?_
   obtain⟨h1,h2⟩:=dP j e he;rcases uU h1 with h|⟨o,FM,ho,E4,h⟩
   ·exact .inl h
   ·rcases h2 with h2|h2
    ·rw[h]at h2;cases h2
    ·exact .inr ⟨⟨_,_,E4⟩,h2⟩
theorem xP:∀(d:Nat) (j:Nat) (e:Event),(#[]:Array Event)[j]?=some e->Kx Wg e/\((MemAct.ofEvent e).touch?=none\/0<deafBehind d ((#[]:Array Event).extract 0 j)):=by
 intro d j e h;simp at h
theorem Zb {d:Nat}{es:Array Event}(h1:∀e∈es,Kx Wg e)(hd:0<d)(h:∀e∈es,e.loc≠ .mark .enable):∀(j:Nat) (e:Event),es[j]?=some e->Kx Wg e/\((MemAct.ofEvent e).touch?=none\/0<deafBehind d (es.extract 0 j)):=by
 intro j e he;refine⟨h1 e (Array.mem_of_getElem? he),.inr ?_⟩;have key:∀(l:List Event) (d:Nat),0<d->(∀e∈l,e.loc≠ .mark .enable)->0<l.foldl (fun d e=>match e.loc with | .mark .disable=>d+1| .mark .enable=>d-1|_=>d) d:=by
  intro l
  induction l with
  |nil=>intro d hd _;exact hd
  |cons e l ih=>
   intro d hd hl;rw[List.foldl_cons];refine ih _ ?_ fun x hx=>hl x (by simp[hx])
   have :=hl e cY
   split
   ·omega
   ·rename_i hh;exact absurd hh this
   ·exact hd
 have ahA:deafBehind d (es.extract 0 j)=(es.toList.take j).foldl (fun d e=>match e.loc with | .mark .disable=>d+1| .mark .enable=>d-1|_=>d) d:=by
  unfold deafBehind;rw[<-Array.foldl_toList,Array.toList_extract];rfl
 rw[ahA];exact key _ d hd fun x hx=>h x (by simpa using List.mem_of_mem_take hx)
end
end Go.AM
namespace Go.AM
open Go Go.Conc
open Go.ConcN (RelBy upd upd_same upd_ne sumTo)
open Go.ConcR (stA smA KK rd wr mk)
section
variable {P:aD}{Fin:ae->ay->Prop}{gs:Array ak}{w w':ay}{t:Trace}{σ:mA}{n:Nat}{R:Perm}{g:ak}{Wg:Nat}{sh:Nat->Prop}{lo:Nat}{D:Nat->WS}{S F:Nat->Nat}{ps:Nat->dG}{b:Bool}{sl:Option (Nat×Nat)}
theorem Yc {e:Event}(h:e.mute=true):Kx Wg e:=by
 obtain⟨loc,FM,sy⟩:=e;cases loc with
 |mark m=>cases m<;>simp_all [Event.mute,Kx]
 |_=>simp[Event.mute]at h
theorem IV.XK(I:IV P Fin gs w t σ n R g Wg sh lo D S F ps b){i:Nat}(xH:0<i)(hi:i<gs.size){a a':ak}{es:Array Event}(ha:gs[i]?=some a){T T':Perm}{m:Nat}(hD:D i= .work T)(hS:S i=7)(nV:Deaf t i=T.deaf)
  (ei:Stepped P false T a w T' a' w' es)(hj:JW P Wg (ps i) m T' a' w')(E0:m<F i):
  ∃m₁ ops oZ,runT P (crowd gs w sl) i=(.next m₁,ops)/\Lt2 oZ (meas n b gs.size F)/\Inv P Fin oZ m₁ (t++ops):=by
 have hp:(D i).dW=some T:=by rw[hD];rfl
 have hlT:=I.dX.lay.low i T hi hp;have gv:∀j U,j≠i->j<gs.size->(D j).dW=some U->bh U w w':=fun j U hj Ck hU=>EU ei.OR (I.dX.lay.HL i j T U (Ne.symm hj) hi Ck hp hU) (I.dX.lay.low j U Ck hU)
 obtain⟨lD,gr,rfl,GW,fN,iY,st,sm,jD,fB⟩:=I.rW hi aj;have hex:upd S i 7=S:=by rw[<-hS];exact kC S i
 refine I.worker (ws:= .work T') (s:=7) (m:=m) xH hi ha ei.step gv (by rw[nV,<-ei.deaf];exact .work hj) (fun _ _ h=>by cases h) ⟨fun h=>by omega,fun h=>by omega⟩ ?_ ?_ E0 ?_
 ·exact I.dX.lay.own hi hD ei.within (ei.low hlT) ei.OR.size gv
 ·refine I.dX.ti.app I.dX.lay hi ei.OR.size (fun j hj=>upd_ne _ _ hj) (.inr ⟨T,T',hD,upd_same ..,ei.within⟩) Go.ConcR.g_of_ofEvents (fun op di bb hb=>?_) (fun op di ad=>?_) (fun op di bb hb=>?_) (fun Hw r h=>by rw[hD]at h;cases h)
  ·obtain⟨e,he,rfl⟩:=Go.Conc.mem_ofEvents di;exact Loc.low_mono ei.OR.size (GP hlT (rB hlT.wr (ei.ev e he) hb).1)
  ·obtain⟨e,he,rfl⟩:=Go.Conc.mem_ofEvents di;exact Cx (ei.ev e he) ad
  ·obtain⟨e,he,rfl⟩:=Go.Conc.mem_ofEvents di;exact .inl ⟨T,hD,rB hlT.wr (ei.ev e he) hb⟩
 ·intro b' iL _;refine⟨GW,fN,iY,st,sm,jD.OR ei.OR (I.dX.lay.sh Wg fN) fun o ho hw=>I.dX.lay.Dz i T hi hp Wg o (hlT.wr _ _ hw) fN ho,?_⟩;rw[hex];exact fB.Bi b' iL
theorem IV.XJ(I:IV P Fin gs w t σ n R g Wg sh lo D S F ps b){i:Nat}(xH:0<i)(hi:i<gs.size){a a':ak}(ha:gs[i]?=some a){T:Perm}{m:Nat}(hD:D i= .work T)(hS:S i=7)(nV:Deaf t i=T.deaf)(h0:T.deaf=0)
  (ep:(ps i).ok T w)(ei:stepG P false a w= .go a' w #[Go.ConcR.mk (.releaseMerge (stA Wg))])(hj:JD P Wg m .k1 a')(E0:m<F i):
  ∃m₁ ops oZ,runT P (crowd gs w sl) i=(.next m₁,ops)/\Lt2 oZ (meas n b gs.size F)/\Inv P Fin oZ m₁ (t++ops):=by
 have hp:(D i).dW=some T:=by rw[hD];rfl
 obtain⟨lD,gr,rfl,GW,fN,iY,st,sm,jD,fB⟩:=I.rW hi aj;have hd0:Deaf t i=0:=nV.trans h0;have iB:(t++MemOp.ofEvents i a.frame.fn a.frame.place #[Go.ConcR.mk (.releaseMerge (stA Wg))]).size=t.size+1:=by rw[ofEvents_eq];simp
 refine I.worker (ws:= .rel T t.size) (s:=6) (m:=m) xH hi ha ei (fun j U _ _ _=>bh.refl _ _) ?_ (fun Hw r h=>by cases h;exact ep) ⟨fun h=>by omega,fun h=>by omega⟩ ?_ ?_ E0 ?_
 ·rw[hd0];exact .k1 hj
 ·refine I.dX.lay.same fun j hj=> .inl ?_
  by_cases e:j=i
  ·subst e;rw[upd_same,hD];rfl
  ·rw[upd_ne _ _ e]
 ·refine TI.SD (R:=T) (k:=i) (I.dX.ti.app I.dX.lay hi (ai _) (fun _ _=>rfl) (.inl rfl) Go.ConcR.g_of_ofEvents (fun op di bb hb=>?_) (fun op di ad=>?_) (fun op di bb hb=>?_) (fun Hw r h=>by rw[hD]at h;cases h)) hi xH hD (RelBy.new hd0 _ _) aj
  all_goals
   obtain⟨e,he,rfl⟩:=Go.Conc.mem_ofEvents di;simp only[List.mem_toArray,aR,List.not_mem_nil,or_false]at he;subst he
  ·exact absurd hb (by simp[Go.ConcR.mk,MemAct.ofEvent,MemAct.touch?])
  ·simp[Go.ConcR.mk,MemAct.ofEvent]
  ·exact absurd hb (by simp[Go.ConcR.mk,MemAct.ofEvent,MemAct.touch?])
 ·intro b' iL _;exact⟨GW,fN,iY,st,sm,jD,(fB.ahU lD hi aj (.inr (.inl rfl))).Bi b' iL⟩
theorem IV.H5(I:IV P Fin gs w t σ n R g Wg sh lo D S F ps b){i:Nat}(xH:0<i)(hi:i<gs.size){a:ak}(ha:gs[i]?=some a)(gY:a.status= .running){k d:Nat}(hq:QuitsD P k d a)(hk:k<=F i)(nV:Deaf t i=d)
  (hs:(∃T r,D i= .rel T r/\S i=1)\/(D i= .old/\S i=0)):
  ∃m₁ ops oZ,runT P (crowd gs w sl) i=(.next m₁,ops)/\Lt2 oZ (meas n b gs.size F)/\Inv P Fin oZ m₁ (t++ops):=by
 cases k with
 |zero=>rw[hq.1]at gY;cases gY
 |succ k=>
  rcases hq with⟨hf,_⟩|⟨_,a',es,hm,ei,A0⟩
  ·rw[hf]at gY;cases gY
  have hex:∀x,S i=x->upd S i x=S:=fun x h=>by rw[<-h];exact kC S i
  have YV:∀x,D i=x->upd D i x=D:=fun x h=>by rw[<-h];exact kC D i
  have AH:∀x,S i=x->∀b',(b'=b\/b'=false)->(mayWake P a=true->b'=false)->At σ Wg sh lo gs.size (upd S i x) ps b' w:=by
   intro x hx b' iL _;rw[hex x hx];have hg:=I.fL;cases σ with
   |AL=>exact hg.elim
   |idle=>
    refine⟨hg.1,?_⟩;rcases iL with rfl|rfl
    ·exact hg.2
    ·rfl
   |fL gr=>
    obtain⟨h1,h2,h3,st,sm,h4,h5⟩:=hg;exact⟨h1,h2,h3,st,sm,h4,h5.Bi b' iL⟩
  have LX:∀e∈es,(MemAct.ofEvent e).touch?=none:=fun e he=>touch_mute (hm e he)
  have Vn:TI Wg sh D gs.size w.heap.size (t++MemOp.ofEvents i a.frame.fn a.frame.place es):=by
   refine I.dX.ti.app I.dX.lay hi (ai _) (fun _ _=>rfl) (.inl rfl) Go.ConcR.g_of_ofEvents (fun op di bb hb=>?_) (fun op di ad=>?_) (fun op di bb hb=>?_) (fun Hw r h=>?_)
   ·obtain⟨e,he,rfl⟩:=Go.Conc.mem_ofEvents di;rw[LX e he]at hb;cases hb
   ·obtain⟨e,he,rfl⟩:=Go.Conc.mem_ofEvents di;exact zs (Wg:=Wg) (Yc (hm e he)) ad
   ·obtain⟨e,he,rfl⟩:=Go.Conc.mem_ofEvents di;rw[LX e he]at hb;cases hb
   ·exact(I.dX.ti.Io i Hw r hi h).appOwn _ _ _ fun j e he=> .inl (LX e (Array.mem_of_getElem? he))
  rcases hs with⟨T,r,hD,hS⟩|⟨hD,hS⟩
  ·refine I.worker (ws:= .rel T r) (s:=1) (m:=k) xH hi ha (ei w) (fun j U _ _ _=>bh.refl _ _) (by rw[nV];exact .gone A0) (fun Hw r' h=>by cases h;exact I.dX.post i T r hi hD) ⟨fun h=>by omega,fun h=>by omega⟩ ?_ ?_ aj (AH 1 hS)
   ·rw[YV _ hD];exact I.dX.lay
   ·rw[YV _ hD];exact Vn
  ·refine I.worker (ws:= .old) (s:=0) (m:=k) xH hi ha (ei w) (fun j U _ _ _=>bh.refl _ _) (by rw[nV];exact .old A0) (fun Hw r' h=>by cases h) ⟨fun h=>hS,fun h=>rfl⟩ ?_ ?_ aj (AH 0 hS)
   ·rw[YV _ hD];exact I.dX.lay
   ·rw[YV _ hD];exact Vn
end
end Go.AM
namespace Go.AM
open Go Go.Conc
open Go.ConcN (RelBy upd upd_same upd_ne sumTo)
open Go.ConcR (stA smA KK rd wr)
section
variable {P:aD}{Fin:ae->ay->Prop}{gs:Array ak}{w w':ay}{t:Trace}{σ:mA}{n:Nat}{R:Perm}{g:ak}{Wg:Nat}{sh:Nat->Prop}{lo:Nat}{D:Nat->WS}{S F:Nat->Nat}{ps:Nat->dG}{b:Bool}{sl:Option (Nat×Nat)}
theorem adw {d:Nat}:∀(j:Nat) (e:Event),(#[Go.ConcR.mk .disable]:Array Event)[j]?=some e->Kx Wg e/\((MemAct.ofEvent e).touch?=none\/0<deafBehind d ((#[Go.ConcR.mk .disable]:Array Event).extract 0 j)):=by
 intro j e h;have he:e∈(#[Go.ConcR.mk .disable]:Array Event):=Array.mem_of_getElem? h;simp only[List.mem_toArray,aR,List.not_mem_nil,or_false]at he;subst he;exact⟨.inl rfl,.inl rfl⟩
theorem adv:∀(j:Nat) (e:Event),(semEvents (smA Wg))[j]?=some e->Kx Wg e/\((MemAct.ofEvent e).touch?=none\/0<deafBehind 1 ((semEvents (smA Wg)).extract 0 j)):=by
 intro j e h;have hj:j<4:=by
  have :=(Array.getElem?_eq_some_iff.1 h).1;simpa[semEvents]using this
 match j,hj with
 |0,_=>simp[semEvents]at h;subst h;exact⟨.inl rfl,.inl rfl⟩
 |1,_=>simp[semEvents]at h;subst h;exact⟨OW Wg false,.inr (by simp[semEvents,deafBehind])⟩
 |2,_=>simp[semEvents]at h;subst h;exact⟨OW Wg true,.inr (by simp[semEvents,deafBehind])⟩
 |3,_=>simp[semEvents]at h;subst h;exact⟨.inr (.inl rfl),.inl rfl⟩
theorem A2 {es:Array Event}(h:∀e∈es,e=rd (stA Wg)\/e=wr (stA Wg)):∀(j:Nat) (e:Event),es[j]?=some e->Kx Wg e/\((MemAct.ofEvent e).touch?=none\/0<deafBehind 1 (es.extract 0 j)):=
 Zb (fun e he=>(h e he).elim (fun x=>x▸yg Wg false) fun x=>x▸yg Wg true) aj fun e he=>(h e he).elim (fun x=>by rw[x];simp[rd]) fun x=>by rw[x];simp[wr]
theorem j4 {es:Array Event}(h:∀e∈es,e=rd (stA Wg)\/e=wr (stA Wg))(d:Nat):deafBehind d es=d:=by
 have :=om d es.toList fun e he=>(h e (by simpa using he)).elim (fun x=>by rw[x];simp[rd]) fun x=>by rw[x];simp[wr]
 simpa using this
set_option maxHeartbeats 1000000 in
theorem IV.stepW(I:IV P Fin gs w t σ n R g Wg sh lo D S F ps b){i:Nat}(xH:0<i)(hi:i<gs.size){a:ak}(ha:gs[i]?=some a)(gY:a.status= .running):
  ∃m₁ ops oZ,runT P (crowd gs w sl) i=(.next m₁,ops)/\Lt2 oZ (meas n b gs.size F)/\Inv P Fin oZ m₁ (t++ops):=by
 obtain⟨alW,VT,hs⟩:=I.dX.wk i xH hi;obtain rfl:a=alW:=by rw[ha]at VT;exact Option.some.inj VT
 clear VT;generalize hD:D i=ws at hs;generalize hS:S i=s at hs;generalize hF:F i=f at hs;generalize nV:Deaf t i=d at hs;cases hs with
 |work hj=>
  obtain⟨m,hm,_,hw⟩:=hj.out;obtain⟨_,gr,_,_,fN,_,st,sm,jD,_⟩:=I.rW hi aj;cases hw ⟨st,sm,jD⟩with
  |own h1 h2=>exact I.XK xH hi ha hD hS nV h1 h2 aj
  |rel h1 h2 h3 h4=>exact I.XJ xH hi ha hD hS nV h1 h2 h3 h4 aj
 |gone hq=>exact I.H5 xH hi ha gY hq aj nV (.inl ⟨_,_,hD,hS⟩)
 |old hq=>exact I.H5 xH hi ha gY hq aj nV (.inr ⟨hD,hS⟩)
 |k1 hj=>
  obtain⟨lD,gr,rfl,GW,fN,iY,st,sm,jD,fB⟩:=I.rW hi aj;cases f with
  |zero=>exact hj.elim
  |succ m=>
   have hex:upd S i 6=S:=by rw[<-hS];exact kC S i
   cases hj.2 w ⟨st,sm,jD⟩with
   |quiet h1 h2=>
    exact I.um (s:=6) (m:=m) xH hi ha h1 hD (fun _ _ _ _=>bh.refl _ _) rfl fN (xP _) (by rw[nV];exact .k1 h2) aj aj aj
     fun b' iL _=>⟨GW,fN,iY,st,sm,jD,by rw[hex];exact fB.Bi b' iL⟩
   |k1 h1 h2=>
    exact I.um (s:=5) (m:=m) xH hi ha h1 hD (fun _ _ _ _=>bh.refl _ _) rfl fN adw (by rw[nV];exact .d1 h2) aj aj aj
     fun b' iL _=>⟨GW,fN,iY,st,sm,jD,(fB.ahU lD hi aj (.inr (.inr rfl))).Bi b' iL⟩
 |d1 hj=>
  obtain⟨lD,gr,rfl,GW,fN,iY,st,sm,jD,fB⟩:=I.rW hi aj;cases f with
  |zero=>exact hj.elim
  |succ m=>
   have hex:upd S i 5=S:=by rw[<-hS];exact kC S i
   cases hj.2 w ⟨st,sm,jD⟩with
   |quiet h1 h2=>
    exact I.um (s:=5) (m:=m) xH hi ha h1 hD (fun _ _ _ _=>bh.refl _ _) rfl fN (xP _) (by rw[nV];exact .d1 h2) aj aj aj
     fun b' iL _=>⟨GW,fN,iY,st,sm,jD,by rw[hex];exact fB.Bi b' iL⟩
   |d1 h1=>
    obtain⟨v,wt,z9,hv,rfl,rfl,Ol,ac3⟩:=fB.minus lD hi hS;obtain⟨a',h2,h3,h4⟩:=h1 v wt z9 hv jD;have hk:∀j U,j<gs.size->(D j).dW=some U->bh U w (setSt Wg ((v:Int)*KK+wt) w):=fun j U hj hU=>qw (I.dX.lay.low j U hj hU) (fun o ho hr=>I.dX.lay.Dz j U hj hU Wg o hr fN ho) jD
    have Xd:∀e∈(#[rd (stA Wg),wr (stA Wg)]:Array Event),e=rd (stA Wg)\/e=wr (stA Wg):=by intro e he;simpa using he
    by_cases hc:v=0/\wt=1
    ·exact I.um (s:=4) (m:=m) xH hi ha h2 hD hk (size_setCell ..) fN (by rw[nV];exact A2 Xd) (by rw[nV,j4 Xd];exact .d2 (h3 hc)) aj aj aj
      fun b' iL _=>⟨GW,fN,iY,_,_,jD.setSt _,(Ol hc).Bi b' iL⟩
    ·exact I.um (s:=1) (m:=m) xH hi ha h2 hD hk (size_setCell ..) fN (by rw[nV];exact A2 Xd) (by rw[nV,j4 Xd];exact .gone (h4 hc)) aj aj aj
      fun b' iL _=>⟨GW,fN,iY,_,_,jD.setSt _,(ac3 hc).Bi b' iL⟩
 |d2 hj=>
  obtain⟨lD,gr,rfl,GW,fN,iY,st,sm,jD,fB⟩:=I.rW hi aj;obtain⟨I9,Jb,rfl,rfl⟩:=fB.isLast lD hi aj;cases f with
  |zero=>exact hj.elim
  |succ m=>
   have hex:upd S i 4=S:=by rw[<-hS];exact kC S i
   cases hj.2 w ⟨_,_,jD⟩with
   |quiet h1 h2=>
    exact I.um (s:=4) (m:=m) xH hi ha h1 hD (fun _ _ _ _=>bh.refl _ _) rfl fN (xP _) (by rw[nV];exact .d2 h2) aj aj aj
     fun b' iL _=>⟨GW,fN,iY,_,_,jD,by rw[hex];exact fB.Bi b' iL⟩
   |d2 h1=>
    rw[hS]at jD;obtain⟨a',h2,h3⟩:=h1 jD;have Xd:∀e∈(#[rd (stA Wg)]:Array Event),e=rd (stA Wg)\/e=wr (stA Wg):=by intro e he;simp at he;exact .inl he
    refine I.um (s:=3) (m:=m) xH hi ha h2 hD (fun _ _ _ _=>bh.refl _ _) rfl fN (by rw[nV];exact A2 Xd) (by rw[nV,j4 Xd];exact .d3 h3) aj aj aj
     fun b' iL _=>⟨GW,fN,iY,_,_,jD,?_⟩
    have :Mode lo gs.size (upd S i 3) .reg b' (if upd S i 3 i=2 then 0 else 1) 0:= .last i lD hi (by rw[upd_same];simp) fun a h1 h2 h3=>by rw[upd_ne _ _ h3];exact Jb a h1 h2 h3
    rw[upd_same]at this;rw[I9];exact this
 |d3 hj=>
  obtain⟨lD,gr,rfl,GW,fN,iY,st,sm,jD,fB⟩:=I.rW hi aj;obtain⟨I9,Jb,rfl,rfl⟩:=fB.isLast lD hi aj;cases f with
  |zero=>exact hj.elim
  |succ m=>
   have hex:upd S i 3=S:=by rw[<-hS];exact kC S i
   cases hj.2 w ⟨_,_,jD⟩with
   |quiet h1 h2=>
    exact I.um (s:=3) (m:=m) xH hi ha h1 hD (fun _ _ _ _=>bh.refl _ _) rfl fN (xP _) (by rw[nV];exact .d3 h2) aj aj aj
     fun b' iL _=>⟨GW,fN,iY,_,_,jD,by rw[hex];exact fB.Bi b' iL⟩
   |d3 h1=>
    rw[hS]at jD;obtain⟨a',h2,h3⟩:=h1 jD;have hk:∀j U,j<gs.size->(D j).dW=some U->bh U w (setSt Wg 0 w):=fun j U hj hU=>qw (I.dX.lay.low j U hj hU) (fun o ho hr=>I.dX.lay.Dz j U hj hU Wg o hr fN ho) jD
    have Xd:∀e∈(#[wr (stA Wg)]:Array Event),e=rd (stA Wg)\/e=wr (stA Wg):=by intro e he;simp at he;exact .inr he
    refine I.um (s:=2) (m:=m) xH hi ha h2 hD hk (size_setCell ..) fN (by rw[nV];exact A2 Xd) (by rw[nV,j4 Xd];exact .d4 h3) aj aj aj
     fun b' iL _=>⟨GW,fN,iY,_,_,jD.setSt _,?_⟩
    have :Mode lo gs.size (upd S i 2) .reg b' (if upd S i 2 i=2 then 0 else 1) 0:= .last i lD hi (by rw[upd_same];simp) fun a h1 h2 h3=>by rw[upd_ne _ _ h3];exact Jb a h1 h2 h3
    rw[upd_same]at this;rw[I9];exact this
 |d4 hj=>
  obtain⟨lD,gr,rfl,GW,fN,iY,st,sm,jD,fB⟩:=I.rW hi aj;obtain⟨I9,Jb,rfl,rfl⟩:=fB.isLast lD hi aj;cases f with
  |zero=>exact hj.elim
  |succ m=>
   have hex:upd S i 2=S:=by rw[<-hS];exact kC S i
   cases hj.2 w ⟨_,_,jD⟩with
   |quiet h1 h2=>
    exact I.um (s:=2) (m:=m) xH hi ha h1 hD (fun _ _ _ _=>bh.refl _ _) rfl fN (xP _) (by rw[nV];exact .d4 h2) aj aj aj
     fun b' iL _=>⟨GW,fN,iY,_,_,jD,by rw[hex];exact fB.Bi b' iL⟩
   |d4 Oh h1=>
    rw[hS]at jD;obtain⟨a',h2,h3⟩:=h1 jD;have hk:∀j U,j<gs.size->(D j).dW=some U->bh U w (setSm Wg 1 w):=fun j U hj hU=>z7 (I.dX.lay.low j U hj hU) (fun o ho hr=>I.dX.lay.Dz j U hj hU Wg o hr fN ho) jD
    refine I.um (s:=1) (m:=m) xH hi ha h2 hD hk (size_setCell ..) fN (by rw[nV];exact adv) (by rw[nV,Qt];exact .gone h3) aj aj aj
     fun b' iL DT=>⟨GW,fN,iY,_,_,jD.setSm _,?_⟩
    rw[DT Oh,I9];refine .sema fun x h1 h2=>?_
    by_cases e:x=i
    ·subst e;rw[upd_same]
    ·rw[upd_ne _ _ e];exact Jb x h1 h2 e
end
end Go.AM
namespace Go.AM
open Go Go.Conc
open Go.ConcN (RelBy upd upd_same upd_ne sumTo)
open Go.ConcR (stA smA KK rd wr)
section
variable {P:aD}{Fin:ae->ay->Prop}{gs:Array ak}{w w':ay}{t:Trace}{σ fX:mA}{n m:Nat}{R R':Perm}{g a':ak}{Wg:Nat}{sh:Nat->Prop}{lo:Nat}{D:Nat->WS}{S F:Nat->Nat}{ps:Nat->dG}{b b':Bool}{sl:Option (Nat×Nat)}{es:Array Event}
theorem IV.aeD(I:IV P Fin gs w t σ n R g Wg sh lo D S F ps false)(ei:stepG P true g w= .go a' w' es):
  runT P (crowd gs w sl) 0=(.next (crowd (gs.setIfInBounds 0 a') w' sl),MemOp.ofEvents 0 g.frame.fn g.frame.place es):=by
 have h:=runT_crowd_go (P:=P) (sl:=sl) (i:=0) I.main (show stepG P (0==0) (nJ false g) w= .go a' w' es from ei);have e:(gs.map (woken P (nJ false g) a' w')).setIfInBounds 0 a'=gs.setIfInBounds 0 a':=by
  apply Array.ext_getElem?;intro j
  by_cases hj:j=0
  ·subst hj;simp[I.size]
  ·rw[Array.getElem?_setIfInBounds_ne (Ne.symm hj),Array.getElem?_setIfInBounds_ne (Ne.symm hj),Array.getElem?_map];rcases Nat.lt_or_ge j gs.size with cA|Ad
   ·obtain⟨x,hx,tR⟩:=I.dX.wk j aj cA;rw[hx,cT,tR.woken]
   ·rw[Array.getElem?_eq_none Ad];rfl
 rw[e]at h;exact h
theorem IV.ali(I:IV P Fin gs w t σ n R g Wg sh lo D S F ps b)(a':ak){u:Trace}(hu:∀op∈u,op.g=0)(gv:∀j U,0<j->j<gs.size->(D j).dW=some U->bh U w w')
  (VD:Lay sh (upd D 0 (.work R')) gs.size w')(Vn:TI Wg sh (upd D 0 (.work R')) gs.size w'.heap.size (t++u)):Com P Wg sh lo (upd D 0 (.work R')) S F ps (gs.setIfInBounds 0 a') w' (t++u):=by
 have iB:(gs.setIfInBounds 0 a').size=gs.size:=cY;refine⟨by rw[iB];exact I.dX.lom,fun j Oq hj=>?_,I.dX.old,fun j h1 h2=>I.dX.act j h1 (by rw[iB]at h2;exact h2),fun j T r hj ko=>?_,by rw[iB];exact I.dX.F4,fun j hj=>?_,by rw[iB];exact VD,by rw[iB];exact Vn⟩
 ·rw[iB]at hj;obtain⟨x,hx,tR⟩:=I.dX.wk j Oq hj;refine⟨x,by rw[Array.getElem?_setIfInBounds_ne aj];exact hx,?_⟩;rw[upd_ne _ _ aj,Deaf_other t aj _ hu];exact tR.keeps fun T hT=>gv j T Oq hj hT
 ·rw[iB]at hj;rcases Nat.eq_zero_or_pos j with rfl|hp
  ·rw[upd_same]at ko;cases ko
  ·rw[upd_ne _ _ aj]at ko;have lD:lo<=j:=Nat.le_of_not_lt fun cA=>by
    obtain⟨x,_,tR⟩:=I.dX.wk j hp hj;rw[I.dX.old j cA,ko]at tR;cases tR
   exact I.dX.F4 j lD hj T w w' (I.dX.post j T r hj ko) (gv j T hp hj (by rw[ko];rfl))
 ·rw[iB]at hj;rw[Deaf_other t (show 0≠j by have :=I.size;omega) _ hu];exact I.dX.above j hj
theorem IV.Tz(I:IV P Fin gs w t σ n R g Wg sh lo D S F ps false)(ei:stepG P true g w= .go a' w' es){g':ak}(mQ:a'=nJ b' g')(kq:b'=true->g'.status= .running/\g'.offers=none)
  (hm:m<n\/(m=n/\b'=true))(VE:JM P Fin fX m R' g' w')(nV:deafBehind R.deaf es=R'.deaf)(gv:∀j U,0<j->j<gs.size->(D j).dW=some U->bh U w w')
  (VD:Lay sh (upd D 0 (.work R')) gs.size w')(Vn:TI Wg sh (upd D 0 (.work R')) gs.size w'.heap.size (t++MemOp.ofEvents 0 g.frame.fn g.frame.place es))(AH:At fX Wg sh lo gs.size S ps b' w'):
  ∃m₁ ops oZ,runT P (crowd gs w sl) 0=(.next m₁,ops)/\Lt2 oZ (meas n false gs.size F)/\Inv P Fin oZ m₁ (t++ops):=by
 have iB:(gs.setIfInBounds 0 a').size=gs.size:=cY;refine⟨_,_,meas m b' (gs.setIfInBounds 0 a').size F,I.aeD ei,?_,_,w',sl,fX,m,R',g',Wg,sh,lo,upd D 0 (.work R'),S,F,ps,b',rfl,⟨?_,kq,VE,upd_same ..,?_,I.ali a' Go.ConcR.g_of_ofEvents gv VD Vn,by rw[iB];exact AH⟩,rfl⟩
 ·rw[iB];unfold meas;rcases hm with h|⟨rfl,rfl⟩
  ·exact Prod.Lex.left _ _ h
  ·exact Prod.Lex.right _ cY
 ·rw[Array.getElem?_setIfInBounds_self_of_lt I.size,mQ]
 ·rw[Deaf_own,I.deaf,nV]
theorem IV.Ye(I:IV P Fin gs w t σ n R g Wg sh lo D S F ps false)(ei:Stepped P true R g w R' a' w' es)(hm:m<n)(VE:JM P Fin σ m R' a' w'):
  ∃m₁ ops oZ,runT P (crowd gs w sl) 0=(.next m₁,ops)/\Lt2 oZ (meas n false gs.size F)/\Inv P Fin oZ m₁ (t++ops):=by
 have hp:(D 0).dW=some R:=by rw[I.perm];rfl
 have Ci:=I.TB;have gv:∀j U,0<j->j<gs.size->(D j).dW=some U->bh U w w':=fun j U hj Ck hU=>EU ei.OR (I.dX.lay.HL 0 j R U aj I.size Ck hp hU) (I.dX.lay.low j U Ck hU)
 refine I.Tz (b':=false) (g':=a') (m:=m) ei.step rfl nU (.inl hm) VE ei.deaf.symm gv ?_ ?_ ?_
 ·exact I.dX.lay.own I.size I.perm ei.within (ei.low Ci) ei.OR.size fun j U hj Ck hU=>gv j U aj Ck hU
 ·refine I.dX.ti.app I.dX.lay I.size ei.OR.size (fun j hj=>upd_ne _ _ hj) (.inr ⟨R,R',I.perm,upd_same ..,ei.within⟩) Go.ConcR.g_of_ofEvents (fun op di bb hb=>?_) (fun op di ad=>?_) (fun op di bb hb=>?_) (fun Hw r h=>by rw[I.perm]at h;cases h)
  ·obtain⟨e,he,rfl⟩:=Go.Conc.mem_ofEvents di;exact Loc.low_mono ei.OR.size (GP Ci (rB Ci.wr (ei.ev e he) hb).1)
  ·obtain⟨e,he,rfl⟩:=Go.Conc.mem_ofEvents di;exact Cx (ei.ev e he) ad
  ·obtain⟨e,he,rfl⟩:=Go.Conc.mem_ofEvents di;exact .inl ⟨R,I.perm,rB Ci.wr (ei.ev e he) hb⟩
 ·have hg:=I.fL;cases σ with
  |AL=>exact hg.elim
  |idle=>exact hg
  |fL gr=>
   obtain⟨h1,h2,h3,st,sm,h4,h5⟩:=hg;exact⟨h1,h2,h3,st,sm,h4.OR ei.OR (I.dX.lay.sh Wg h2) fun o ho hw=>I.dX.lay.Dz 0 R I.size hp Wg o (Ci.wr _ _ hw) h2 ho,h5⟩
theorem IV.lZ(I:IV P Fin gs w t σ n R g Wg sh lo D S F ps false)(ei:stepG P true g w= .go a' w' es){g':ak}(mQ:a'=nJ b' g')(kq:b'=true->g'.status= .running/\g'.offers=none)
  (hm:m<n\/(m=n/\b'=true))(VE:JM P Fin fX m R g' w)(nV:deafBehind R.deaf es=R.deaf)(gv:∀j U,j<gs.size->(D j).dW=some U->bh U w w')(iB:w'.heap.size=w.heap.size)(fN:sh Wg)
  (dP:∀e∈es,Kx Wg e\/e=Go.ConcR.mk (.read (smA Wg))\/e=Go.ConcR.mk (.write (smA Wg)))(AH:At fX Wg sh lo gs.size S ps b' w'):
  ∃m₁ ops oZ,runT P (crowd gs w sl) 0=(.next m₁,ops)/\Lt2 oZ (meas n false gs.size F)/\Inv P Fin oZ m₁ (t++ops):=by
 have I7:upd D 0 (.work R)=D:=by rw[<-I.perm];exact kC D 0
 have hW:Wg<w.heap.size:=I.dX.lay.sh Wg fN;have YF:∀e∈es,∀bb,(MemAct.ofEvent e).touch?=some bb->shl sh bb.loc/\bb.kind≠ .plain/\bb.loc.low w.heap.size:=by
  intro e he bb hb;rcases dP e he with h|rfl|rfl
  ·rcases uU h with h|⟨o,FM,ho,_,h⟩
   ·rw[h]at hb;cases hb
   ·rw[h]at hb;cases hb;exact⟨⟨fN,rfl,ho⟩,cY,hW⟩
  ·simp only[Go.ConcR.mk,MemAct.ofEvent,MemAct.touch?,ah]at hb;subst hb;exact⟨⟨fN,rfl,by simp[smA]⟩,cY,hW⟩
  ·simp only[Go.ConcR.mk,MemAct.ofEvent,MemAct.touch?,ah]at hb;subst hb;exact⟨⟨fN,rfl,by simp[smA]⟩,cY,hW⟩
 refine I.Tz (g':=g') ei mQ kq hm (VE.keeps (gv 0 R I.size (by rw[I.perm];rfl))) nV (fun j U _ hj hU=>gv j U hj hU) ?_ ?_ AH
 ·rw[I7];exact I.dX.lay.abb aj gv
 ·rw[I7,iB];refine I.dX.ti.app I.dX.lay I.size (ai _) (fun _ _=>rfl) (.inl rfl) Go.ConcR.g_of_ofEvents (fun op di bb hb=>?_) (fun op di ad=>?_) (fun op di bb hb=>?_) (fun Hw r h=>by rw[I.perm]at h;cases h)
  ·obtain⟨e,he,rfl⟩:=Go.Conc.mem_ofEvents di;exact(YF e he bb hb).2.2
  ·obtain⟨e,he,rfl⟩:=Go.Conc.mem_ofEvents di;rcases dP e he with h|rfl|rfl
   ·exact zs h ad
   ·simp[Go.ConcR.mk,MemAct.ofEvent]
   ·simp[Go.ConcR.mk,MemAct.ofEvent]
  ·obtain⟨e,he,rfl⟩:=Go.Conc.mem_ofEvents di;have h:=YF e he bb hb;exact .inr ⟨by rw[I.perm];simp,h.1,h.2.1,fun _=>rfl⟩
end
end Go.AM
namespace Go.AM
open Go Go.Conc
open Go.ConcN (RelBy upd upd_same upd_ne sumTo sumTo_congr)
open Go.ConcR (stA smA KK rd wr)
theorem lt2_trans {a b c:Nat×Nat}(h:Lt2 a b)(h':Lt2 b c):Lt2 a c:=by
 obtain⟨a1,a2⟩:=a;obtain⟨b1,b2⟩:=b;obtain⟨c1,c2⟩:=c;rcases Prod.lex_def.1 h with h|⟨h1,h2⟩<;>rcases Prod.lex_def.1 h' with k|⟨k1,k2⟩<;>simp only at*
 ·exact Prod.Lex.left _ _ aj
 ·exact Prod.Lex.left _ _ aj
 ·exact Prod.Lex.left _ _ aj
 ·subst h1;subst k1;exact Prod.Lex.right _ aj
theorem CG {t:Trace}{x y:MemOp}{k:Nat}(hx:x.g=0/\x.act= .go k)(hy:y.g=k/\y.act= .start)(j:Nat):Deaf (t++#[x,y]) j=Deaf t j:=by
 have :=Deaf_append t j [x,y];rw[show([x,y]:List MemOp).toArray=#[x,y]from rfl]at this;rw[this];simp[deafStep,hx.2,hy.2]
theorem Xx {size:Nat}{S:Nat->Nat}(h:∀i,i<size->S i=0):Vc size S=0:=by
 unfold Vc;rw[sumTo_congr (g:=fun _=>0) fun i hi=>by rw[h i hi];rfl]
 induction size with
 |zero=>rfl
 |succ k ih=>simp only[sumTo];exact ih fun i hi=>h i aj
theorem MZ {S:Nat->Nat}:∀{size:Nat},1<=Vc size S->∃i,i<size/\5<=S i
 |0,h=>by simp[Vc,sumTo]at h
 |k+1,h=>by
  by_cases h5:5<=S k
  ·exact⟨k,aj,h5⟩
  ·have :1<=Vc k S:=by simp only[Vc,sumTo,h5,if_false]at h⊢;omega
   obtain⟨i,h1,h2⟩:=MZ this;exact⟨i,aj,h2⟩
section
variable {P:aD}{Fin:ae->ay->Prop}{gs:Array ak}{w w':ay}{t:Trace}{σ fX:mA}{n m:Nat}{R R' eK Rc:Perm}{g g' a' child:ak}{Wg:Nat}{sh:Nat->Prop}{lo:Nat}{D:Nat->WS}{S F:Nat->Nat}{ps:Nat->dG}{b b':Bool}{sl:Option (Nat×Nat)}{es:Array Event}
theorem IV.IF(I:IV P Fin gs w t σ n R g Wg sh lo D S F ps b){j:Nat}(h0:0<j)(hj:j<gs.size)(hS:S j=0):D j= .old/\∃x,gs[j]?=some x/\QuitsD P (F j) (Deaf t j) x:=by
 obtain⟨x,hx,tR⟩:=I.dX.wk j h0 hj;rw[hS]at tR;generalize hD:D j=ws at tR;generalize hd:Deaf t j=d at tR;generalize F j=f at tR;cases tR with
 |old hq=>exact⟨rfl,x,hx,hd▸hq⟩
theorem IV.wm(I:IV P Fin gs w t .idle n R g Wg sh lo D S F ps false){QW:Nat}(hs:je eK R)(tS:∀b o,eK.wr b o->eK.rd b o)(hd:eK.deaf=R.deaf)(h0:R.wr QW 0)(h1:R.wr QW 1)(jD:rP QW w 0 0)(Jd:∀o,o<=1->¬eK.rd QW o)
  (VE:JM P Fin (.fL ⟨QW,[],.opn 0⟩) m eK g w):IV P Fin gs w t (.fL ⟨QW,[],.opn 0⟩) m eK g QW (fun b=>sh b\/b=QW) lo (upd D 0 (.work eK)) S F ps false:=by
 obtain⟨lD,_⟩:lo=gs.size/\false=false:=I.fL;have hS:∀j,j<gs.size->S j=0:=fun j hj=>I.dX.old j aj
 have hold:∀j,0<j->j<gs.size->D j= .old:=fun j Oq hj=>(I.IF Oq hj (hS j hj)).1
 have hn:∀j,0<j->upd D 0 (.work eK) j=D j:=fun j hj=>upd_ne D _ aj
 have Ci:=I.TB;have Xg:wG eK w:=⟨fun b o x=>Ci.rd b o (hs.rd b o x),tS,fun b x=>Ci.ob b (hs.ob b x)⟩;refine⟨I.main,fun h=>(by cases h),VE,upd_same ..,I.deaf.trans hd.symm,⟨I.dX.lom,fun j Oq hj=>?_,I.dX.old,I.dX.act,fun j T r hj ko=>?_,I.dX.F4,I.dX.above,?_,I.dX.ti.begin I.perm hold hs h0 h1 I.size⟩,?_⟩
 ·obtain⟨e,x,hx,hq⟩:=I.IF Oq hj (hS j hj);refine⟨x,hx,?_⟩;rw[hn j Oq,e,hS j hj];exact .old hq
 ·rcases Nat.eq_zero_or_pos j with rfl|hp
  ·rw[upd_same]at ko;cases ko
  ·rw[hn j hp,hold j hp hj]at ko;cases ko
 ·have key:∀j T,j<gs.size->(upd D 0 (.work eK) j).dW=some T->j=0/\T=eK:=by
   intro j T hj hT;rcases Nat.eq_zero_or_pos j with rfl|hp
   ·rw[upd_same]at hT;exact⟨rfl,(Option.some.inj hT).symm⟩
   ·rw[hn j hp,hold j hp hj]at hT;cases hT
  refine⟨fun j T hj hT=>?_,fun i j T U sN hi hj hT hU=>?_,fun j T hj hT b o hr hb=>?_,fun b hb=>?_⟩
  ·obtain⟨_,rfl⟩:=key j T hj hT;exact Xg
  ·obtain⟨rfl,_⟩:=key i T hi hT;obtain⟨rfl,_⟩:=key j U hj hU;exact absurd rfl sN
  ·obtain⟨rfl,rfl⟩:=key j T hj hT;rcases hb with hb|rfl
   ·exact I.dX.lay.Dz 0 R I.size (by rw[I.perm];rfl) b o (hs.rd b o hr) hb
   ·exact fun ho=>Jd o ho hr
  ·rcases hb with hb|rfl
   ·exact I.dX.lay.sh b hb
   ·exact Ci.rd b 0 (Ci.wr b 0 h0)
 ·refine⟨rfl,.inr rfl,by simp[lD],0,0,jD,?_⟩;have hv:=Xx hS;have :Mode lo gs.size S (.opn 0) false ((Vc gs.size S:Nat)*KK) 0:= .opn (fun i h1 h2=>by omega) aj aj;rw[hv]at this;simpa using this
theorem IV.spawns{V kc:Nat}{pl:List dG}{p:dG}(I:IV P Fin gs w t (.fL ⟨Wg,pl,.added V⟩) n R g Wg sh lo D S F ps false)(h0:R.deaf=0)(ei:stepG P true g w= .spawn g' child w #[])
  (h1:je eK R)(hc:je Rc R)(Oa:∀b o,eK.wr b o->eK.rd b o)(hwc:∀b o,Rc.wr b o->Rc.rd b o)(hd1:eK.deaf=0)(hdc:Rc.deaf=0)(DV:ml eK Rc)(ahE:ml Rc eK)(ag8:Hx p)(hjw:JW P Wg p kc Rc child w)(hm:m<n)
  (VE:JM P Fin (.fL ⟨Wg,p::pl,.opn (V+1)⟩) m eK g' w):
  ∃m₁ ops oZ,runT P (crowd gs w sl) 0=(.next m₁,ops)/\Lt2 oZ (meas n false gs.size F)/\Inv P Fin oZ m₁ (t++ops):=by
 have gY:=runT_crowd_spawn (P:=P) (sl:=sl) (i:=0) I.main (show stepG P (0==0) (nJ false g) w= .spawn g' child w #[]from ei);obtain⟨_,fN,dd,st,sm,jD,fB⟩:=I.fL;have iN:=I.size;have Ci:=I.TB;obtain⟨x,hx⟩:∃x:MemOp,x={g:=0,fn:=(nJ false g).frame.fn,pos:=(nJ false g).frame.place,act:= .go gs.size}:=⟨_,rfl⟩;obtain⟨y,hy⟩:∃y:MemOp,y={g:=gs.size,fn:=child.frame.fn,pos:=(nJ false g).frame.place,act:= .start}:=⟨_,rfl⟩;have L5:((MemOp.ofEvents 0 (nJ false g).frame.fn (nJ false g).frame.place #[]).push x).push y=#[x,y]:=by rw[ofEvents_eq];simp
 rw[<-hx,<-hy,L5]at gY;have hxg:x.g=0/\x.act= .go gs.size:=by rw[hx];exact⟨rfl,rfl⟩
 have hyg:y.g=gs.size/\y.act= .start:=by rw[hy];exact⟨rfl,rfl⟩
 have iB:((gs.setIfInBounds 0 g').push child).size=gs.size+1:=cY;have lD:=I.dX.lom;have hn:∀{α:Type} (f:Nat->α) (v:α) j,j<gs.size->upd f gs.size v j=f j:=fun f v j hj=>upd_ne f v aj
 have hD:∀j,0<j->j<gs.size->upd (upd D 0 (.work eK)) gs.size (.work Rc) j=D j:=fun j h1 h2=>by rw[hn _ _ j h2,upd_ne _ _ aj]
 have OA:upd (upd D 0 (.work eK)) gs.size (.work Rc) 0= .work eK:=by rw[hn _ _ 0 iN,upd_same]
 have three:∀j,j<gs.size+1->j=0\/(0<j/\j<gs.size)\/j=gs.size:=fun j hj=>by omega
 refine⟨_,_,meas m false ((gs.setIfInBounds 0 g').push child).size (upd F gs.size kc),gY,Prod.Lex.left _ _ hm,_,w,sl,.fL ⟨Wg,p::pl,.opn (V+1)⟩,m,eK,g',Wg,sh,lo,upd (upd D 0 (.work eK)) gs.size (.work Rc),upd S gs.size 7,upd F gs.size kc,upd ps gs.size p,false,rfl,
  ⟨?_,fun h=>(by cases h),VE,OA,?_,⟨?_,fun j Oq qy=>?_,fun j qy=>?_,fun j Rj h2=>?_,fun j T r qy ko=>?_,fun j Rj h2=>?_,fun j qy=>?_,?_,?_⟩,?_⟩,rfl⟩
 ·rw[Array.getElem?_push_lt (by simp;omega),<-Array.getElem?_eq_getElem];simp[nJ,iN]
 ·rw[CG hxg hyg,I.deaf,h0,hd1]
 ·rw[iB];omega
 ·rw[iB]at qy;rw[CG hxg hyg];rcases three j qy with rfl|⟨_,g2⟩|rfl
  ·omega
  ·obtain⟨z,hz,hzs⟩:=I.dX.wk j Oq g2;refine⟨z,?_,by rw[hD j Oq g2,hn _ _ j g2,hn _ _ j g2,hn _ _ j g2];exact hzs⟩;rw[Array.getElem?_push_lt (by simp;omega),<-Array.getElem?_eq_getElem,Array.getElem?_setIfInBounds_ne aj];exact hz
  ·refine⟨child,?_,?_⟩
   ·have e:gs.size=(gs.setIfInBounds 0 g').size:=cY
    conv=>lhs;rw[e]
    exact Array.getElem?_push_size
   ·simp only[upd_same];rw[I.dX.above gs.size (ai _),<-hdc];exact .work hjw
 ·rw[hn _ _ j aj];exact I.dX.old j qy
 ·rw[iB]at h2;rcases Nat.lt_or_ge j gs.size with cA|Ad
  ·rw[hn _ _ j cA];exact I.dX.act j Rj cA
  ·obtain rfl:j=gs.size:=aj;rw[upd_same];omega
 ·rw[iB]at qy;rcases three j qy with rfl|⟨g1,g2⟩|rfl
  ·rw[OA]at ko;cases ko
  ·rw[hD j g1 g2]at ko;rw[hn _ _ j g2];exact I.dX.post j T r g2 ko
  ·rw[upd_same]at ko;cases ko
 ·rw[iB]at h2;rcases Nat.lt_or_ge j gs.size with cA|Ad
  ·rw[hn _ _ j cA];exact I.dX.F4 j Rj cA
  ·obtain rfl:j=gs.size:=aj;rw[upd_same];exact ag8
 ·rw[iB]at qy;rw[CG hxg hyg];exact I.dX.above j aj
 ·rw[iB];have key:∀j T,j<gs.size+1->(upd (upd D 0 (.work eK)) gs.size (.work Rc) j).dW=some T->(j=0/\T=eK)\/(0<j/\j<gs.size/\(D j).dW=some T)\/(j=gs.size/\T=Rc):=by
   intro j T hj hT;rcases three j hj with rfl|⟨g1,g2⟩|rfl
   ·rw[OA]at hT;exact .inl ⟨rfl,(Option.some.inj hT).symm⟩
   ·rw[hD j g1 g2]at hT;exact .inr (.inl ⟨g1,g2,hT⟩)
   ·rw[upd_same]at hT;exact .inr (.inr ⟨rfl,(Option.some.inj hT).symm⟩)
  have hp:(D 0).dW=some R:=by rw[I.perm];rfl
  have dl:∀{T U:Perm},je T R->ml R U->ml T U:=fun h d=>⟨fun b o x=>d.cell b o (h.wr b o x),fun b x=>d.obj b (h.ob b x)⟩
  have dr:∀{T U:Perm},je T R->ml U R->ml U T:=fun h d=>⟨fun b o x y=>d.cell b o x (h.rd b o y),fun b x y=>d.obj b x (h.ob b y)⟩
  refine⟨fun j T hj hT=>?_,fun i j T U sN hi hj hT hU=>?_,fun j T hj hT b o hr hb=>?_,I.dX.lay.sh⟩
  ·rcases key j T hj hT with⟨_,rfl⟩|⟨_,g2,Xl⟩|⟨_,rfl⟩
   ·exact⟨fun b o x=>Ci.rd b o (h1.rd b o x),Oa,fun b x=>Ci.ob b (h1.ob b x)⟩
   ·exact I.dX.lay.low j T g2 Xl
   ·exact⟨fun b o x=>Ci.rd b o (hc.rd b o x),hwc,fun b x=>Ci.ob b (hc.ob b x)⟩
  ·rcases key i T hi hT with⟨rfl,rfl⟩|⟨g1,g2,Xl⟩|⟨rfl,rfl⟩<;>rcases key j U hj hU with⟨rfl,rfl⟩|⟨g3,g4,hU'⟩|⟨rfl,rfl⟩
   ·exact absurd rfl sN
   ·exact dl h1 (I.dX.lay.HL 0 j R U sN iN g4 hp hU')
   ·exact DV
   ·exact dr h1 (I.dX.lay.HL i 0 T R sN g2 iN Xl hp)
   ·exact I.dX.lay.HL i j T U sN g2 g4 Xl hU'
   ·exact dr hc (I.dX.lay.HL i 0 T R aj g2 iN Xl hp)
   ·exact ahE
   ·exact dl hc (I.dX.lay.HL 0 j R U aj iN g4 hp hU')
   ·exact absurd rfl sN
  ·rcases key j T hj hT with⟨_,rfl⟩|⟨_,g2,Xl⟩|⟨_,rfl⟩
   ·exact I.dX.lay.Dz 0 R iN hp b o (h1.rd b o hr) hb
   ·exact I.dX.lay.Dz j T g2 Xl b o hr hb
   ·exact I.dX.lay.Dz 0 R iN hp b o (hc.rd b o hr) hb
 ·rw[iB];exact I.dX.ti.fork I.perm h1 hc iN hxg hyg (I.deaf.trans h0) (I.dX.above gs.size (ai _))
 ·rw[iB];refine⟨rfl,fN,?_,st,sm,jD,?_⟩
  ·rw[show gs.size+1-lo=(gs.size-lo)+1 by omega,List.range_succ,List.map_append,List.reverse_append];simp only[List.map_cons,List.map_nil,List.reverse_cons,List.reverse_nil,List.nil_append,List.cons_append];rw[show lo+(gs.size-lo)=gs.size by omega,upd_same]
   show p::pl=p::_
   rw[show pl=_ from dd]
   congr 2
   refine List.map_congr_left fun i hi=>?_
   rw[hn _ _ _ (by have :=List.mem_range.1 hi;omega)]
  ·have hv:Vc (gs.size+1) (upd S gs.size 7)=Vc gs.size S+1:=by
    simp only[Vc,sumTo,upd_same];rw[sumTo_congr (g:=fun i=>if 5<=S i then 1 else 0) fun i hi=>by rw[hn _ _ i hi]];rfl
   cases fB with
   |added h2 h3 h4=>
    have :Mode lo (gs.size+1) (upd S gs.size 7) (.opn (V+1)) false ((Vc (gs.size+1) (upd S gs.size 7):Nat)*KK) 0:= .opn (fun i h5 h6=>by
     rcases Nat.lt_or_ge i gs.size with cA|Ad
     ·rw[hn _ _ i cA];exact h2 i h5 cA
     ·obtain rfl:i=gs.size:=aj;rw[upd_same];simp) aj aj
    rw[hv]at this;simpa using this
end
end Go.AM
namespace Go.AM
open Go Go.Conc
open Go.ConcN (RelBy upd upd_same upd_ne sumTo sumTo_congr)
open Go.ConcR (stA smA KK rd wr)
section
variable {P:aD}{Fin:ae->ay->Prop}{gs:Array ak}{w w':ay}{t:Trace}{σ fX:mA}{n m:Nat}{R R' eK Rc:Perm}{g g' a' child:ak}{Wg:Nat}{sh:Nat->Prop}{lo:Nat}{D:Nat->WS}{S F:Nat->Nat}{ps:Nat->dG}{b b':Bool}{sl:Option (Nat×Nat)}{es:Array Event}
theorem IV.aeJ(I:IV P Fin gs w t σ n R g Wg sh lo D S F ps b){j:Nat}(h0:0<j)(hj:j<gs.size)(hS:S j=1):∃T r,D j= .rel T r/\∃x,gs[j]?=some x/\QuitsD P (F j) (Deaf t j) x:=by
 obtain⟨x,hx,tR⟩:=I.dX.wk j h0 hj;rw[hS]at tR;generalize hD:D j=ws at tR;generalize hd:Deaf t j=d at tR;generalize F j=f at tR;cases tR with
 |gone hq=>exact⟨_,_,rfl,x,hx,hd▸hq⟩
theorem IV.agY{pl:List dG}(I:IV P Fin gs w t (.fL ⟨Wg,pl,.fin⟩) n R g Wg sh lo D S F ps false)(h0:R.deaf=0)(ei:stepG P true g w= .go g' w #[Go.ConcR.mk (.acquire (stA Wg))])(hm:m<n)
  (hj:∀Rs:List Perm,bC (fun p S=>p.ok S w/\wG S w/\ml R S/\ml S R) pl Rs->Rs.Pairwise (fun S T=>ml S T/\ml T S)->
    ∃R',R'.deaf=0/\(∀b o,R'.wr b o->R'.rd b o)/\(∀b o,R'.rd b o->R.rd b o\/∃S∈Rs,S.rd b o)/\(∀b,R'.ob b->R.ob b\/∃S∈Rs,S.ob b)/\JM P Fin .idle m R' g' w):
  ∃m₁ ops oZ,runT P (crowd gs w sl) 0=(.next m₁,ops)/\Lt2 oZ (meas n false gs.size F)/\Inv P Fin oZ m₁ (t++ops):=by
 have gY:=I.aeD (sl:=sl) ei;obtain⟨_,fN,dd,st,sm,jD,fB⟩:=I.fL;have hq:AllQuit lo gs.size S:=by cases fB with |fin h=>exact h
 have lD:=I.dX.lom;have iN:=I.size;have hp0:(D 0).dW=some R:=by rw[I.perm];rfl
 have yZ:∀j,lo<=j->j<gs.size->∃T r,D j= .rel T r/\∃x,gs[j]?=some x/\QuitsD P (F j) (Deaf t j) x:=fun j h1 h2=>I.aeJ aj h2 (hq j h1 h2)
 let pm:Nat->Perm:=fun i=>((D (lo+i)).dW).getD R
 have hpm:∀i,i<gs.size-lo->∃r,D (lo+i)= .rel (pm i) r/\(D (lo+i)).dW=some (pm i):=fun i hi=>by
  obtain⟨T,r,hT,_⟩:=yZ (lo+i) aj aj;have :pm i=T:=by show((D (lo+i)).dW).getD R=T;rw[hT];rfl
  exact⟨r,by rw[this];exact hT,by rw[this,hT];rfl⟩
 have hR2:bC (fun p S=>p.ok S w/\wG S w/\ml R S/\ml S R) pl ((List.range (gs.size-lo)).reverse.map pm):=by
  rw[show pl=_ from dd,<-List.map_reverse];refine bC.px fun i hi=>?_
  have GV:i<gs.size-lo:=by simpa using hi
  obtain⟨r,h1,h2⟩:=hpm i GV;exact⟨I.dX.post (lo+i) (pm i) r aj h1,I.dX.lay.low (lo+i) (pm i) aj h2,I.dX.lay.HL 0 (lo+i) R (pm i) aj iN aj hp0 h2,I.dX.lay.HL (lo+i) 0 (pm i) R aj aj iN h2 hp0⟩
 have hPW:((List.range (gs.size-lo)).reverse.map pm).Pairwise (fun S T=>ml S T/\ml T S):=by
  rw[List.pairwise_map];have hnd:(List.range (gs.size-lo)).reverse.Nodup:=List.pairwise_reverse.2 (List.Pairwise.imp (fun h=>Ne.symm h) List.nodup_range);refine List.Pairwise.imp_of_mem (fun{i j} hi hj dO=>?_) hnd;have GV:i<gs.size-lo:=by simpa using hi
  have qy:j<gs.size-lo:=by simpa using hj
  obtain⟨_,_,h2⟩:=hpm i GV;obtain⟨_,_,h4⟩:=hpm j qy;have Ma:lo+i≠lo+j:=fun h=>dO aj
  exact⟨I.dX.lay.HL (lo+i) (lo+j) _ _ Ma aj aj h2 h4,I.dX.lay.HL (lo+j) (lo+i) _ _ (Ne.symm Ma) aj aj h4 h2⟩
 obtain⟨R',DW,acK,ahc,akA,VE⟩:=hj _ hR2 hPW;have y6:∀T∈(List.range (gs.size-lo)).reverse.map pm,∃j,j<gs.size/\(D j).dW=some T:=by
  intro T hT;obtain⟨i,hi,rfl⟩:=List.mem_map.1 hT;have GV:i<gs.size-lo:=by simpa using hi
  obtain⟨_,_,h2⟩:=hpm i GV;exact⟨lo+i,aj,h2⟩
 have Ci:=I.TB;have A1:wG R' w:=by
  refine⟨fun b o x=>?_,acK,fun b x=>?_⟩
  ·rcases ahc b o x with h|⟨T,hT,h⟩
   ·exact Ci.rd b o h
   ·obtain⟨j,hj,hjT⟩:=y6 T hT;exact(I.dX.lay.low j T hj hjT).rd b o h
  ·rcases akA b x with h|⟨T,hT,h⟩
   ·exact Ci.ob b h
   ·obtain⟨j,hj,hjT⟩:=y6 T hT;exact(I.dX.lay.low j T hj hjT).ob b h
 have aaq:∀b o,R'.rd b o->sh b->¬o<=1:=by
  intro b o x hb;rcases ahc b o x with h|⟨T,hT,h⟩
  ·exact I.dX.lay.Dz 0 R iN hp0 b o h hb
  ·obtain⟨j,hj,hjT⟩:=y6 T hT;exact I.dX.lay.Dz j T hj hjT b o h hb
 obtain⟨x,hx⟩:∃x:MemOp,x={g:=0,fn:=g.frame.fn,pos:=g.frame.place,act:= .mark (.acquire (stA Wg))}:=⟨_,rfl⟩;have L5:MemOp.ofEvents 0 g.frame.fn g.frame.place #[Go.ConcR.mk (.acquire (stA Wg))]=#[x]:=by rw[ofEvents_eq,hx];simp[Go.ConcR.ofEvent_mk]
 rw[L5]at gY;have hxg:∀op∈(#[x]:Array MemOp),op.g=0:=by intro op di;simp at di;rw[di,hx]
 have nV:∀j,Deaf (t++#[x]) j=Deaf t j:=by
  intro j;rw[Deaf_push];simp[deafStep,hx]
 have iB:(gs.setIfInBounds 0 g').size=gs.size:=cY;have key:∀j T,(if j=0 then WS.work R' else .old).dW=some T->j=0/\T=R':=by
  intro j T hT
  split at hT
  ·rename_i e;exact⟨e,(Option.some.inj hT).symm⟩
  ·cases hT
 refine⟨_,_,meas m false (gs.setIfInBounds 0 g').size F,gY,Prod.Lex.left _ _ hm,_,w,sl,.idle,m,R',g',Wg,sh,gs.size,fun j=>if j=0 then .work R' else .old,fun _=>0,F,ps,false,rfl,
  ⟨?_,fun h=>(by cases h),VE,rfl,?_,⟨by rw[iB];omega,fun j Oq qy=>?_,fun _ _=>rfl,fun j h1 h2=>(by rw[iB]at h2;omega),fun j T r qy ko=>?_,fun j h1 h2=>(by rw[iB]at h2;omega),fun j qy=>?_,?_,?_⟩,?_⟩,rfl⟩
 ·rw[Array.getElem?_setIfInBounds_self_of_lt iN];rfl
 ·rw[nV,I.deaf,h0,DW]
 ·rw[iB]at qy;have akH:j≠0:=aj;have :∃x,gs[j]?=some x/\QuitsD P (F j) (Deaf t j) x:=by
   rcases Nat.lt_or_ge j lo with cA|Ad
   ·exact(I.IF Oq qy (I.dX.old j cA)).2
   ·obtain⟨_,_,_,h⟩:=yZ j Ad qy;exact h
  obtain⟨z,hz,A0⟩:=this;refine⟨z,by rw[Array.getElem?_setIfInBounds_ne aj];exact hz,?_⟩;rw[bZ akH,nV];exact .old A0
 ·replace ko:(if j=0 then WS.work R' else .old)= .rel T r:=ko
  split at ko<;>cases ko
 ·rw[iB]at qy;rw[nV];exact I.dX.above j qy
 ·rw[iB];refine⟨fun j T hj hT=>?_,fun i j T U sN hi hj hT hU=>?_,fun j T hj hT b o hr hb=>?_,I.dX.lay.sh⟩
  ·obtain⟨_,rfl⟩:=key j T hT;exact A1
  ·exact absurd ((key i T hT).1.trans (key j U hU).1.symm) sN
  ·obtain⟨_,rfl⟩:=key j T hT;exact aaq b o hr hb
 ·rw[iB];refine I.dX.ti.WM iN (fun j h1 h2=>?_) (by rw[hx];exact⟨rfl,rfl⟩) (I.deaf.trans h0) aaq acK;rcases Nat.lt_or_ge j lo with cA|Ad
  ·exact .inr (I.IF h1 h2 (I.dX.old j cA)).1
  ·obtain⟨T,r,hT,_⟩:=yZ j Ad h2;exact .inl ⟨T,r,hT⟩
 ·exact⟨iB.symm,rfl⟩
theorem IV.ends(I:IV P Fin gs w t .idle n R g Wg sh lo D S F ps false){v:ae}(ei:stepG P true g w= .ended (.done v) w' es)(dP:∀e∈es,nT R e)(nP:Fin v w'):
  ∃o aN ops,runT P (crowd gs w sl) 0=(.ended o aN,ops)/\∀bg Nh,Good P Fin (crowd gs bg Nh) o aN (t++ops):=by
 obtain⟨lD,_⟩:lo=gs.size/\false=false:=I.fL;have Ci:=I.TB;have hold:∀j,0<j->j<gs.size->D j= .old/\∃x,gs[j]?=some x/\QuitsD P (F j) (Deaf t j) x:=fun j h1 h2=>I.IF h1 h2 (I.dX.old j aj)
 have Vn:TI Wg sh D gs.size w.heap.size (t++MemOp.ofEvents 0 g.frame.fn g.frame.place es):=by
  refine I.dX.ti.app I.dX.lay I.size (ai _) (fun _ _=>rfl) (.inl rfl) Go.ConcR.g_of_ofEvents (fun op di bb hb=>?_) (fun op di ad=>?_) (fun op di bb hb=>?_) (fun Hw r h=>by rw[I.perm]at h;cases h)
  ·obtain⟨e,he,rfl⟩:=Go.Conc.mem_ofEvents di;exact GP Ci (rB Ci.wr (.inl (dP e he)) hb).1
  ·obtain⟨e,he,rfl⟩:=Go.Conc.mem_ofEvents di;exact Cx (.inl (dP e he)) ad
  ·obtain⟨e,he,rfl⟩:=Go.Conc.mem_ofEvents di;exact .inl ⟨R,I.perm,rB Ci.wr (.inl (dP e he)) hb⟩
 refine⟨_,_,_,runT_many_ended (P:=P) (sl:=sl) (i:=0) I.main (show stepG P (0==0) (nJ false g) w=_ from ei),fun bg Nh=>⟨v,rfl,nP,Vn.nr,Vn.over fun j h1 h2=>(hold j h1 h2).1,⟨fun x hx=>?_,rfl⟩,fun j x hx hj=>?_⟩⟩
 ·obtain⟨j,hj⟩:=List.mem_iff_getElem?.1 hx;rw[List.getElem?_drop]at hj;have qy:gs[1+j]?=some x:=by simpa[crowd]using hj
  obtain⟨_,y,hy,hq⟩:=hold (1+j) aj (Array.getElem?_eq_some_iff.1 qy).1;rw[qy]at hy;cases hy;exact⟨_,hq.leaves⟩
 ·have u5:gs[j]?=some x:=hx;obtain⟨_,y,hy,hq⟩:=hold j aj (Array.getElem?_eq_some_iff.1 u5).1;rw[u5]at hy;cases hy;refine⟨F j,?_⟩;have e:(t++MemOp.ofEvents 0 g.frame.fn g.frame.place es).deaf j (t++MemOp.ofEvents 0 g.frame.fn g.frame.place es).size=Deaf t j:=
   Deaf_other t (g:=j) (g':=0) aj _ Go.ConcR.g_of_ofEvents
  show x.endsWith P bg (F j) ((t++MemOp.ofEvents 0 g.frame.fn g.frame.place es).deaf j (t++MemOp.ofEvents 0 g.frame.fn g.frame.place es).size)=some 0
  rw[e];exact hq.hears _
set_option maxHeartbeats 1000000 in
theorem step0:∀(n:Nat) {σ:mA}{R:Perm}{Wg:Nat}{sh:Nat->Prop}{lo:Nat}{D:Nat->WS}{S F:Nat->Nat}{ps:Nat->dG},IV P Fin gs w t σ n R g Wg sh lo D S F ps false->
  (∃o aN ops,runT P (crowd gs w sl) 0=(.ended o aN,ops)/\∀bg Nh,Good P Fin (crowd gs bg Nh) o aN (t++ops))\/
  (∃m₁ ops oZ,runT P (crowd gs w sl) 0=(.next m₁,ops)/\Lt2 oZ (meas n false gs.size F)/\Inv P Fin oZ m₁ (t++ops)):=by
 intro n
 induction n using Nat.strongRecOn with
 |_ n ih=>
  intro σ R Wg sh lo D S F ps I;obtain⟨m,hm,hs⟩:=I.jm.out;have Cj:∀j U,j<gs.size->(D j).dW=some U->bh U w w:=fun _ _ _ _=>bh.refl _ _
  cases hs I.fL.live with
  |own _ h1 h2=>exact .inr (I.Ye h1 hm h2)
  |ends _ h1 h2 _ h4=>exact .inl (I.ends h1 h2 h4)
  |wm h1 h2 h3 h4 h5 h6 h7 h8=>
   rcases ih m hm (I.wm h1 h2 h3 h4 h5 h6 h7 h8)with h|⟨m₁,ops,oZ,g1,g2,g3⟩
   ·exact .inl h
   ·exact .inr ⟨m₁,ops,oZ,g1,lt2_trans g2 (Prod.Lex.left _ _ hm),g3⟩
  |add _ hV h1=>
   obtain⟨rfl,fN,dd,st,sm,jD,fB⟩:=I.fL;cases fB with
   |opn h2 h3 h4=>
    obtain⟨g',h5,h6⟩:=h1 _ h3 jD;have hk:∀j U,j<gs.size->(D j).dW=some U->bh U w (setSt _ (((Vc gs.size S:Nat)+1)*KK) w):=fun j U hj hU=>qw (I.dX.lay.low j U hj hU) (fun o ho hr=>I.dX.lay.Dz j U hj hU _ o hr fN ho) jD
    refine .inr (I.lZ (b':=false) h5 rfl nU (.inl hm) h6 (j4 (by intro e he;simpa using he) _) hk (size_setCell ..) fN (fun e he=> .inl ?_) ⟨rfl,fN,dd,_,_,jD.setSt _,.added h2 h3 hV⟩);simp at he;rcases he with rfl|rfl
    ·exact yg _ _
    ·exact yg _ _
  |said _ h1 h2 h3=>
   obtain⟨rfl,fN,dd,st,sm,jD,fB⟩:=I.fL;refine .inr (I.lZ (b':=false) h1 rfl nU (.inl hm) h3 ?_ Cj rfl fN (fun e he=> .inr (h2 e he)) ⟨rfl,fN,dd,st,sm,jD,fB⟩);have :=om R.deaf (_:Array Event).toList fun e he=>(h2 e (by simpa using he)).elim (fun x=>by rw[x];simp[Go.ConcR.mk]) fun x=>by rw[x];simp[Go.ConcR.mk]
   simpa using this
  |spawn _ h1 h2 h3 h4 h5 h6 h7 h8 h9 h10 h11 h12 h13=>
   have hW:=I.fL.1;simp only at hW;subst hW;exact .inr (I.spawns h1 h2 h3 h4 h5 h6 h7 h8 h9 h10 h11 h12 hm h13)
  |load _ h1=>
   obtain⟨hW,fN,dd,st,sm,jD,fB⟩:=I.fL
   replace hW:=hW.symm
   simp only at hW;subst hW;cases fB with
   |opn h2 h3 h4=>
    obtain⟨g',h5,h6,h7⟩:=h1 _ h3 jD;have HH:∀e∈(#[rd (stA Wg)]:Array Event),Kx Wg e\/e=Go.ConcR.mk (.read (smA Wg))\/e=Go.ConcR.mk (.write (smA Wg)):=fun e he=> .inl (by simp at he;subst he;exact yg _ _)
    have nV:deafBehind R.deaf (#[rd (stA Wg)]:Array Event)=R.deaf:=j4 (by intro e he;simp at he;exact .inl he) _
    by_cases hv:Vc gs.size S=0
    ·refine .inr (I.lZ (b':=false) h5 rfl nU (.inl hm) (h6 hv) nV Cj rfl fN HH ⟨rfl,fN,dd,_,_,jD,?_⟩);have :=Mode.fin (allQuit_of h2 hv);rw[hv];simpa using this
    ·exact .inr (I.lZ (b':=false) h5 rfl nU (.inl hm) (h7 hv) nV Cj rfl fN HH ⟨rfl,fN,dd,_,_,jD,.seen h2 (ai _) aj aj⟩)
  |cas _ h1=>
   obtain⟨rfl,fN,dd,st,sm,jD,fB⟩:=I.fL;cases fB with
   |seen h2 h3 h4 h5=>
    obtain⟨akJ,ahn⟩:=h1 _ h3 jD;rcases Nat.eq_or_lt_of_le h3 with hv|hv
    ·obtain⟨g',h6,h7⟩:=akJ hv;have hk:∀j U,j<gs.size->(D j).dW=some U->bh U w (setSt _ ((Vc gs.size S:Nat)*KK+1) w):=fun j U hj hU=>qw (I.dX.lay.low j U hj hU) (fun o ho hr=>I.dX.lay.Dz j U hj hU _ o hr fN ho) jD
     refine .inr (I.lZ (b':=false) h6 rfl nU (.inl hm) h7 (j4 (by intro e he;simpa using he) _) hk (size_setCell ..) fN (fun e he=> .inl ?_) ⟨rfl,fN,dd,_,_,jD.setSt _,.reg h2 aj aj⟩);simp at he;rcases he with rfl|rfl
     ·exact yg _ _
     ·exact yg _ _
    ·obtain⟨g',h6,h7⟩:=ahn (Nat.ne_of_lt hv);exact .inr (I.lZ (b':=false) h6 rfl nU (.inl hm) h7 (j4 (by intro e he;simp at he;exact .inl he) _) Cj rfl fN (fun e he=> .inl (by simp at he;subst he;exact yg _ _)) ⟨rfl,fN,dd,_,_,jD,.opn h2 aj aj⟩)
  |sem hr ac2 h1 h2=>
   obtain⟨rfl,fN,dd,st,sm,jD,fB⟩:=I.fL;have kq:∀jR,rP _ w jR 0->Mode lo gs.size S .reg true jR 0->(∃m₁ ops oZ,runT P (crowd gs w sl) 0=(.next m₁,ops)/\Lt2 oZ (meas n false gs.size F)/\Inv P Fin oZ m₁ (t++ops)):=fun jR DT hmo=>
    I.lZ (b':=true) (g':=g) (h1 jR DT) rfl (fun _=>⟨hr,ac2⟩) (.inr ⟨rfl,rfl⟩) I.jm rfl Cj rfl fN (fun e he=>by simp at he) ⟨rfl,fN,dd,jR,0,DT,hmo⟩
   cases fB with
   |reg h3 h4 h5=>exact .inr (kq _ jD (.reg h3 h4 h5))
   |last L h3 h4 h5 h6=>exact .inr (kq _ jD (.last L h3 h4 h5 h6))
   |sema h3=>
    obtain⟨g',h4,h5⟩:=h2 jD;have hk:∀j U,j<gs.size->(D j).dW=some U->bh U w (setSm _ 0 w):=fun j U hj hU=>z7 (I.dX.lay.low j U hj hU) (fun o ho hr=>I.dX.lay.Dz j U hj hU _ o hr fN ho) jD
    refine .inr (I.lZ (b':=false) h4 rfl nU (.inl hm) h5 (by simp[semEvents,deafBehind]) hk (size_setCell ..) fN (fun e he=> .inl ?_) ⟨rfl,fN,dd,_,_,jD.setSm _,.V0 h3⟩);simp[semEvents]at he;rcases he with rfl|rfl|rfl|rfl
    ·exact .inl rfl
    ·exact OW _ _
    ·exact OW _ _
    ·exact .inr (.inl rfl)
  |last _ h1=>
   obtain⟨rfl,fN,dd,st,sm,jD,fB⟩:=I.fL;cases fB with
   |V0 h3=>
    obtain⟨g',h4,h5⟩:=h1 jD;exact .inr (I.lZ (b':=false) h4 rfl nU (.inl hm) h5 (j4 (by intro e he;simp at he;exact .inl he) _) Cj rfl fN (fun e he=> .inl (by simp at he;subst he;exact yg _ _)) ⟨rfl,fN,dd,_,_,jD,.fin h3⟩)
  |acq _ h1 h2 h3=>
   have hW:=I.fL.1;simp only at hW;subst hW;exact .inr (I.agY h1 h2 hm h3)
end
end Go.AM
namespace Go.AM
open Go Go.Conc
open Go.ConcN (RelBy upd upd_same upd_ne sumTo sumTo_congr)
open Go.ConcR (stA smA KK rd wr)
section
variable {P:aD}{Fin:ae->ay->Prop}{gs:Array ak}{w w':ay}{t:Trace}{σ fX:mA}{n m:Nat}{R:Perm}{g:ak}{Wg:Nat}{sh:Nat->Prop}{lo:Nat}{D:Nat->WS}{S F:Nat->Nat}{ps:Nat->dG}{b:Bool}{sl:Option (Nat×Nat)}
theorem IV.at(I:IV P Fin gs w t σ n R g Wg sh lo D S F ps b)(d:Nat):IV P Fin gs (w.at d) t σ n R g Wg sh lo D S F ps b:=by
 have hk:∀T,bh T w (w.at d):=fun T=>bh.at T w d
 refine⟨I.main,I.blk,I.jm.keeps (hk R),I.perm,I.deaf,⟨I.dX.lom,fun j h1 h2=>?_,I.dX.old,I.dX.act,fun j T r hj ko=>?_,I.dX.F4,I.dX.above,I.dX.lay.abb (ai _) fun j T _ _=>hk T,I.dX.ti⟩,?_⟩
 ·obtain⟨x,hx,tR⟩:=I.dX.wk j h1 h2;exact⟨x,hx,tR.keeps fun T _=>hk T⟩
 ·have lD:lo<=j:=Nat.le_of_not_lt fun cA=>by
   have h0:=I.dX.old j cA;rcases Nat.eq_zero_or_pos j with rfl|hp
   ·rw[I.perm]at ko;cases ko
   ·obtain⟨x,_,tR⟩:=I.dX.wk j hp hj;rw[h0,ko]at tR;cases tR
  exact I.dX.F4 j lD hj T w _ (I.dX.post j T r hj ko) (hk T)
 ·have hg:=I.fL;cases σ with
  |AL=>exact hg.elim
  |idle=>exact hg
  |fL gr=>
   obtain⟨h1,h2,h3,st,sm,h4,h5⟩:=hg;exact⟨h1,h2,h3,st,sm,h4.at d,h5⟩
theorem IV.XO(I:IV P Fin gs w t σ n R g Wg sh lo D S F ps b):∃(i:Nat) (x:ak),gs[i]?=some x/\x.status= .running:=by
 cases b with
 |false=>exact⟨0,_,I.main,I.running⟩
 |true=>
  have key:∀i,i<gs.size->2<=S i->∃(i:Nat) (x:ak),gs[i]?=some x/\x.status= .running:=by
   intro i hi h2;have xH:0<i:=Nat.pos_of_ne_zero fun e=>by
    subst e;have :=I.dX.old 0 (by have :=I.dX.lom;omega);omega
   obtain⟨x,hx,tR⟩:=I.dX.wk i xH hi;exact⟨i,x,hx,tR.status.elim id fun h=>by omega⟩
  have hg:=I.fL;cases σ with
  |AL=>exact hg.elim
  |idle=>obtain⟨_,h⟩:=hg;cases h
  |fL gr=>
   obtain⟨_,_,_,st,sm,_,fB⟩:=hg;generalize hgs:gr.sub=s at fB;cases fB with
   |reg h1 h2 h3=>
    obtain⟨i,hi,h5⟩:=MZ h2;exact key i hi aj
   |last L h1 h2 h3 h4=>exact key L h2 aj
theorem IV.awake(I:IV P Fin gs w t σ n R g Wg sh lo D S F ps b):∀x∈gs,awake x:=by
 intro x hx;obtain⟨i,hi,rfl⟩:=Array.mem_iff_getElem.1 hx;rcases Nat.eq_zero_or_pos i with rfl|hp
 ·have :gs[0]=nJ b g:=by have :=I.main;rw[Array.getElem?_eq_getElem hi]at this;exact Option.some.inj this
  rw[this];exact IN fun _=>I.running
 ·obtain⟨x,hx,tR⟩:=I.dX.wk i hp hi;rw[Array.getElem?_eq_getElem hi]at hx;rw[Option.some.inj hx];exact awake_of (tR.status.elim .inl fun h=> .inr (.inr h.1))
theorem Vh (μ:Nat×Nat)(m:Machine)(t:Trace)(h:Inv P Fin μ m t):
  (∃o w ops,stepT P m=(.ended o w,ops)/\Good P Fin m o w (t++ops))\/(∃m' ops oZ,stepT P m=(.next m',ops)/\Lt2 oZ μ/\Inv P Fin oZ m' (t++ops)):=by
 obtain⟨gs,w,sl,σ,n,R,g,Wg,sh,lo,D,S,F,ps,b,rfl,I,rfl⟩:=h;obtain⟨i,x,d,sl',hx,hr,ei⟩:=crowd_pick (P:=P) (w:=w) (sl:=sl) I.awake I.XO;have I':=I.at d;have hi:i<gs.size:=(Array.getElem?_eq_some_iff.1 hx).1;rcases Nat.eq_zero_or_pos i with rfl|hp
 ·cases b with
  |true=>
   rw[I.main]at hx;cases hx;cases hr
  |false=>
   rcases step0 (sl:=sl') n I' with⟨o,aN,ops,h1,h2⟩|⟨m₁,ops,oZ,h1,h2,h3⟩
   ·exact .inl ⟨o,aN,ops,ei.trans h1,h2 w sl⟩
   ·exact .inr ⟨m₁,ops,oZ,ei.trans h1,h2,h3⟩
 ·obtain⟨m₁,ops,oZ,h1,h2,h3⟩:=I'.stepW (sl:=sl') hp hi hx hr;exact .inr ⟨m₁,ops,oZ,ei.trans h1,h2,h3⟩
theorem Gw {W:ay}(hj:JM P Fin .idle n R g W)(hl:wG R W)(hd:R.deaf=0):
  ∃N last o w' t',runNT P (N+1) (solo g W) #[]=(.ended o w',t')/\runN P N (solo g W)= .next last/\step P last= .ended o w'/\Good P Fin last o w' t':=by
 refine run_of_inv (Prod.lex ⟨(·< ·),Nat.lt_wfRel.wf⟩ ⟨(·< ·),Nat.lt_wfRel.wf⟩).wf (Inv P Fin) (Good P Fin) Vh (meas n false 1 (fun _=>0)) _ _ ?_;have h0:∀{i:Nat}{a:Touch},touchAt #[] i=some a->False:=fun h=>by simp[touchAt,Trace.act?]at h
 refine⟨#[g],W,none,.idle,n,R,g,0,fun _=>False,1,fun _=> .work R,fun _=>0,fun _=>0,fun _=>⟨fun _ _=>True⟩,false,rfl,⟨rfl,fun h=>(by cases h),hj,rfl,hd.symm▸rfl,⟨cY,fun i h1 h2=>?_,fun _ _=>rfl,fun i h1 h2=>?_,fun i T r hi h=>(by cases h),fun i h1 h2=>?_,fun _ _=>rfl,?_,?_⟩,⟨rfl,rfl⟩⟩,rfl⟩
 ·simp at h2;omega
 ·simp at h2;omega
 ·simp at h2;omega
 ·refine⟨fun k T hk hT=>?_,fun j k T U Qd hj hk _ _=>?_,fun k T hk hT b o hr hb=>hb.elim,fun b hb=>hb.elim⟩
  ·cases hT;exact hl
  ·simp at hj hk;omega
 ·refine⟨fun said=>?_,fun op di=>(by simp at di),fun i a ha=>(h0 ha).elim,fun k T hk hT i a ha=>(h0 ha).elim,fun k T hk hT i a ha=>(h0 ha).elim,fun i a ha=>(h0 ha).elim,fun i a ha=>(h0 ha).elim,fun k T r hk h=>(by cases h),fun a i h=>(by simp[Trace.act?]at h),fun i k hi=>(by simp[Trace.g?]at hi),⟨R,rfl⟩⟩;rintro⟨i,j,_,⟨a,b,ha,_⟩,_⟩;simp[Trace.act?]at ha
end
end Go.AM
namespace Go.AM
open Go Go.Conc
section
variable {P:aD}{E:Perm}{bg:ay}{ρ:cZ}{m aV:Mem}{w:ay}{wa d o:Nat}{p:Pl}
theorem fI.fields(h:fI ρ m w)(fl:Nat)(op:List Span)(wg:Option Nat)(pn:List AJ):fI ρ {m with floor:=fl,opn:=op,wg:=wg,pend:=pn} w:=
 ⟨h.my,h.cells,h.lP,h.thaw,h.maps,h.lC,h.sep,h.rr,h.vars⟩
theorem GG {l:List Span}(h:l.all (fun s=>vJ m s&&s.1 !=wa)=true):∀s∈l,s.2.1=s.1+1/\m.base<=s.1/\m.floor<=s.1/\s.1<m.next/\(m.blk s.1).kind=1/\s.1≠wa:=by
 intro s hs;rw[aE]at h;have :=h s hs;simp only[vJ,ag,jE,beq_iff_eq,bne_iff_ne]at this;obtain⟨⟨⟨⟨⟨⟨h1,h2⟩,h3⟩,h4⟩,h5⟩,_⟩,h6⟩:=this;exact⟨h1,h2,h3,h4,h5,h6⟩
theorem mU {l:List Span}{b o:Nat}(h:bD l b o=true):∃s∈l,s.1<=b/\b<s.2.1/\(s.2.2=none\/s.2.2=some o):=by
 unfold bD at h;rw[List.any_eq_true]at h;obtain⟨s,hs,h⟩:=h;simp only[ag,jE]at h;refine⟨s,hs,h.1.1,h.1.2,?_⟩;have h2:=h.2
 split at h2
 ·rename_i e;exact .inl e
 ·rename_i y e;exact .inr (by rw[e];simpa using h2)
theorem Cs (hg:m.wg=none)(h:lq wa d o m=some aV):∃l,aV={m.aZ wa {}with wg:=some wa,opn:=l,floor:=m.next}/\oI m d o 4=some l/\m.dv wa 0 2=some [.int .u64 0,.int .u32 0]/\m.cP wa 0 2=true/\m.fq wa=true/\
  (m.blk wa).pos=1/\(m.blk wa).cs.length=2/\m.bB=[]/\m.opn=[]/\m.pend=[]/\m.floor=m.base/\l.all (fun s=>vJ m s&&s.1 !=wa)=true/\jw l=true:=by
 unfold lq at h;rw[hg]at h;simp only[]at h
 split at h
 ·rename_i l hl Rf
  split at h
  ·rename_i hc;simp only[ah]at h;simp only[ag,jE,beq_iff_eq]at hc;obtain⟨⟨⟨⟨⟨⟨⟨⟨⟨c1,c2⟩,c3⟩,c4⟩,c5⟩,c6⟩,c7⟩,c8⟩,c9⟩,c10⟩:=hc;exact⟨l,h.symm,Rf,hl,c1,c2,c3,c4,c5,c6,c7,c8,c9,c10⟩
  ·cases h
 ·cases h
theorem Jt (H:cQ P E bg .idle ρ m w)(h:lq wa d o m=some aV)(hp:ρ wa=some p):
  p.d=0/\cQ P E bg (.fL ⟨p.c,[],.opn 0⟩) ρ aV w/\je ((aA ρ aV).or E) ((aA ρ m).or E)/\(∀b o,((aA ρ aV).or E).wr b o->((aA ρ aV).or E).rd b o)/\aV.deaf=m.deaf/\
   ((aA ρ m).or E).wr p.c 0/\((aA ρ m).or E).wr p.c 1/\rP p.c w 0 0/\∀x,x<=1->¬((aA ρ aV).or E).rd p.c x:=by
 obtain⟨hgw,hgp,hgh⟩:m.wg=none/\m.pend=[]/\m.home<=m.next:=H.fL;obtain⟨l,rfl,Rf,hl,c1,c2,c3,c4,c5,c6,c7,c8,c9,c10⟩:=Cs hgw h;have hs:=H.jF;have hk:(m.blk wa).kind=1:=(Mem.py hl).1;have hd:p.d=0:=hs.vars wa p hp hk c3;obtain⟨_,ru,_⟩:=hs.cells wa p hp hk;have nR:∀i,i<2->∃v,[ae.int .u64 0,ae.int .u32 0][i]?=some v/\m.cell wa i=some v:=fun i hi=>by
  obtain⟨v,h1,h2⟩:=(Mem.py hl).2.2 i hi;exact⟨v,h1,by simpa using h2⟩
 have vl:=Mem.kH c1;have tS:∀i,i<2->(aA ρ m).wr p.c i:=fun i hi=>by
  obtain⟨v,_,hc⟩:=nR i hi;have h1:=(Mem.qO c1 hi).2;have :=yt (ρ:=ρ) (m:=m) hp (o:=i) aj ⟨Mem.eD hc,by simpa using h1⟩;rw[hd]at this;simpa using this
 have Jc:wa<m.next:=hs.my wa p hp;have kq:∀b,({m.aZ wa {}with wg:=some wa,opn:=l,floor:=m.next}:Mem).blk b=if wa=b then{a9:=m.tick}else m.blk b:=fun b=>Mem.dy ..
 have hR:∀b x,({m.aZ wa {}with wg:=some wa,opn:=l,floor:=m.next}:Mem).nI b x->b≠wa/\m.nI b x:=by
  intro b x hr;obtain⟨h1,h2,h3⟩:=hr;rw[kq]at h1 h3
  by_cases e:wa=b
  ·rw[bK e]at h1;cases h1
  ·rw[bZ e]at h1 h3;exact⟨fun x=>e x.symm,h1,h2,h3⟩
 have hW:∀b x,({m.aZ wa {}with wg:=some wa,opn:=l,floor:=m.next}:Mem).okW b x->m.okW b x:=by
  intro b x hw;obtain⟨h1,h2⟩:=hw;have h3:=(hR b x h1).2;refine⟨h3,.inl ?_⟩;rcases h2 with h2|h2
  ·exact absurd h3.1 (by rw[H.wf.xM b h2];simp)
  ·obtain⟨s,rZ,g1,g2,_⟩:=mU h2;obtain⟨e1,_,e3,_⟩:=GG c9 s rZ;omega
 have Re:∀b x,(aA ρ {m.aZ wa {}with wg:=some wa,opn:=l,floor:=m.next}).rd b x->(aA ρ m).rd b x:=fun b x ⟨b',p',g1,g2,g3,g4,g5⟩=>⟨b',p',g1,g2,g3,g4,(hR _ _ g5).2⟩
 have ag0:∀b x,(aA ρ {m.aZ wa {}with wg:=some wa,opn:=l,floor:=m.next}).wr b x->(aA ρ m).wr b x:=fun b x ⟨b',p',g1,g2,g3,g4,g5⟩=>⟨b',p',g1,g2,g3,g4,hW _ _ g5⟩
 have Ab:∀b,(aA ρ {m.aZ wa {}with wg:=some wa,opn:=l,floor:=m.next}).ob b->(aA ρ m).ob b:=by
  rintro b ⟨b',p',g1,g2,g3,g4⟩;rw[kq]at g3
  by_cases e:wa=b'
  ·rw[bK e]at g3;rcases g3 with g3|g3<;>cases g3
  ·rw[bZ e]at g3;exact⟨b',p',g1,g2,g3,g4⟩
 have acO:fI ρ ({m.aZ wa {}with wg:=some wa,opn:=l,floor:=m.next}:Mem) w:=(hs.kill wa).fields m.next l (some wa) m.pend;have hwc:rP p.c w 0 0:=by
  have hv:∀i,i<2->∀u,m.cell wa i=some u->(∀u',aP ρ u u'->u'=u)->w.cell? ⟨p.c,i,none⟩=some u:=by
   intro i hi u hu fj;obtain⟨v',g1,g2⟩:=hs.lP wa p i u hp hu;rw[hd,Nat.zero_add]at g1;rw[g1,fj v' g2]
  refine⟨hv 0 aj _ ?_ fun u' hu=>(aG (by rfl)).1 hu,hv 1 aj _ ?_ fun u' hu=>(aG (by rfl)).1 hu,fun x hx=>?_⟩
  ·obtain⟨v,g1,g2⟩:=nR 0 aj;simp only[List.getElem?_cons_zero,ah]at g1;subst g1;exact g2
  ·obtain⟨v,g1,g2⟩:=nR 1 aj;simp only[List.getElem?_cons_succ,List.getElem?_cons_zero,ah]at g1;subst g1;exact g2
  ·have :=hs.thaw wa p x hp aj hk vl;rw[hd,Nat.zero_add]at this;exact this
 have Jd:∀x,x<=1->¬((aA ρ {m.aZ wa {}with wg:=some wa,opn:=l,floor:=m.next}).or E).rd p.c x:=by
  intro x hx hr;rcases hr with⟨b',p',g1,g2,g3,g4,g5⟩|hr
  ·obtain⟨dO,ep⟩:=hR _ _ g5;obtain⟨_,_,h3⟩:=hs.sep b' wa p' p dO g1 hp (by rw[ep.1];simp) (by rw[hk];simp) g2;omega
  ·exact(H.apart.cell p.c x hr).2 (tS x aj)
 refine⟨hd,⟨acO,H.rest,⟨fun b x he=>⟨(H.apart.cell b x he).1,fun hw=>(H.apart.cell b x he).2 (ag0 b x hw)⟩,fun b he=>⟨(H.apart.obj b he).1,fun hw=>(H.apart.obj b he).2.1 (Ab b hw),(H.apart.obj b he).2.2⟩,H.apart.wf⟩,H.og,?_,?_,fun b q x g1 gb g3 g4 g5=>H.MN b q x g1 gb g3 g4 (hR _ _ g5).2,fun b x he hr=>H.ew b x he (Re b x hr)⟩,
  ⟨fun b x hr=>hr.imp (Re b x) id,fun b x hw=>hw.imp (ag0 b x) id,fun b hb=>hb.imp (Ab b) id⟩,fun b x hw=>hw.elim (fun y=> .inl (lV y)) fun y=> .inr (H.apart.wf b x y),rfl,.inl (tS 0 aj),.inl (tS 1 aj),hwc,Jd⟩
 ·refine⟨rfl,cY,⟨hgh,by show m.base<=m.next;rw[<-c8];exact H.wf.fl⟩,wa,rfl,Jc,Jc,fun q hq=>?_,?_⟩
  ·rw[hp]at hq;cases hq;exact⟨rfl,hd⟩
  ·refine⟨?_,fun x hx=>?_,?_⟩
   ·show bC _ m.pend []
    rw[hgp];trivial
   ·have u5:x∈m.bB:=hx;rw[c5]at u5;cases u5
   ·show m.pend.Pairwise _
    rw[hgp];exact List.Pairwise.nil
 ·have hw:=(jb.own c2).2.2 H.wf;exact⟨hw.a9,hw.xM,hw.bB,ai _,hw.live⟩
end
end Go.AM
