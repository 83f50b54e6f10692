/-
  What the claim stands on, part 4.
-/
import Derived.Test.YtgfppohfgconeaaGreatDoorG3
import Derived.Conc.CompanyDraw
import Derived.Conc.CrowdBase
import Derived.Conc.Beside
set_option linter.unusedVariables false
set_option linter.unusedSimpArgs false
open Go renaming Value → af, Goroutine → au, World → aA, Program → aE, Oper → hZ
open Option.some renaming injEq → ah
open Nat renaming le_refl → ai, eq_of_beq_eq_true → aT, lt_of_lt_of_le → bq
open Bool renaming and_eq_true → aj, false_eq_true → bu
open Option renaming map_eq_some_iff → ar, map_some → cR
open Prod.mk renaming injEq → aC
open List renaming all_eq_true → aV, mem_cons → bC
namespace Go.AM
open Go Go.Conc
def Out (e:Exit)(k todo:List Item):Prop:=
 match e with
 | .normal=>todo=k
 | .ret=>∃k',todo= .code .ret::k'
 | .exit id=>∃k',todo= .code (.exit id)::k'/\exitTo id k'=exitTo id k
 | .goto l=>∃k',todo= .code (.goto l)::k'/\gotoIn l k'=gotoIn l k
 |_=>False
structure eY (P:aE)(J:JT)(nt:Nat)(st j7:Ss)(A:List Item)(B:List Item->Prop)(c:Nat):Prop where
 go:∀{E:Perm}{bI:aA}{σ:nq}{ρ:dL}{w:aA}{b:Frame}{a:Act}{cs:List Frame}{n:Nat},b.kind≠ .early->dd P E bI σ ρ st.mem w->sE nt ρ st.tm st.df a->
  (∀gJ bH w' a' todo,B todo->ρ.le bH->rl st.mem ρ bH->dd P E bI gJ bH j7.mem w'->sE nt bH j7.tm j7.df a'->J gJ n ((aB bH j7.mem).or E) (G (b.at a' todo) cs) w')->
  J σ (n+c) ((aB ρ st.mem).or E) (G (b.at a A) cs) w
section
variable {P:aE}{X:Ext}{main:Bool}{J:JT}{F:Mem->Mem->Prop}{nt:Nat}{call:cL}
theorem eY.trans{st Ll XL:Ss}{A:List Item}{B C:List Item->Prop}{c d:Nat}(h:eY P J nt st Ll A B c)(hn:Mv st.mem Ll.mem)(k:∀A',B A'->eY P J nt Ll XL A' C d):eY P J nt st XL A C (d+c):=by
 refine⟨fun{E bI σ ρ w b a cs n} hk H ha KC=>?_⟩;rw[<-Nat.add_assoc];refine h.go hk H ha fun gJ bH w' a' todo hB hle hold H' ni=>(k todo hB).go hk H' ni fun sH fj iL K8 UI hC nT ll pK wV=>KC sH fj iL K8 UI hC (dL.le_trans hle nT) (hold.trans hn ll) pK wV
theorem eY.weaken{st j7:Ss}{A:List Item}{B C:List Item->Prop}{c:Nat}(h:eY P J nt st j7 A B c)(k:∀A',B A'->C A'):eY P J nt st j7 A C c:=by
 refine⟨fun{E bI σ ρ w b a cs n} hk H ha KC=>?_⟩;exact h.go hk H ha fun gJ bH w' a' todo hB=>KC gJ bH w' a' todo (k todo hB)
theorem eY.here{st:Ss}{A:List Item}{B:List Item->Prop}(h:B A):eY P J nt st st A B 0:=by
 refine⟨fun{E bI σ ρ w b a cs n} hk H ha KC=>?_⟩;exact KC σ ρ w a A h (dL.le_refl _) (.of fun _ _=>rfl) H ha
theorem eY.move(hJ:∀σ,gp P main (J σ)){st:Ss}{A A':List Item}(h:∀{b:Frame}{a:Act}{cs:List Frame}{w:aA},stepG P main (G (b.at a A) cs) w= .go (G (b.at a A') cs) w #[]):eY P J nt st st A (·=A') 1:=by
 refine⟨fun{E bI σ ρ w b a cs n} hk H ha KC=>?_⟩;refine mI (hJ σ) rfl (fun w=>h) fun aR j2=>?_
 exact KC σ ρ aR a A' rfl (dL.le_refl _) (.of fun _ _=>rfl) (H.keeps j2) ha
theorem wQ (hJ:∀σ,gp P main (J σ))(hX:pL P X)(hF:vJ F)(C:iG P X main J F call)(qI:nt<=512){ops:Array hZ}:∀{l:List Nat}{f:iI}{tm:Tm}{m:Mem}{df:Df}{r:Ss},iB P nt ops (l.map fun i=>(0,i,0))=some f->f call tm m df=some r->Wf m->
  F m r.mem/\∃c,∀k,eY P J nt ⟨tm,m,df⟩ r (.inRegion ops l::k) (·= .inRegion ops []::k) c
 | [],f,tm,m,df,r,h,hf,hw=>by
  unfold iB at h;simp only[List.map_nil]at h;cases h;unfold Xe at hf;simp only[ah]at hf;subst hf;exact⟨hF.refl _,0,fun k=>eY.here rfl⟩
 |i::l,f,tm,m,df,r,h,hf,hw=>by
  simp only[List.map_cons]at h;obtain⟨rest,hr,ht⟩:=lB h;obtain⟨eG,m',me,qt,Fs,_⟩:=oS ht hf;obtain⟨g1,c,g2⟩:=QF hJ hX hF C qI hw qt;obtain⟨h1,c',h2⟩:=wQ hJ hX hF C qI hr Fs ((hF.mv g1).wf hw);refine⟨hF.trans g1 h1,c'+c,fun k=>?_⟩;refine eY.trans (Ll:=⟨eG,m',me⟩) (B:=(·= .inRegion ops l::k)) ?_ (hF.mv g1) fun A' hA=>by subst hA;exact h2 k
  refine⟨fun{E bI σ ρ w b a cs n} hk H ha KC=>?_⟩;exact g2 hk H ha fun gJ bH w' a' hle hold H' ni=>KC gJ bH w' a' _ rfl hle hold H' ni
theorem Gz (hm:P.follows .mixedOrders=true)(ops:Array hZ)(t:Nat):Region.schedule (P.follows .mixedOrders) ops t=Region.linearise .any ops t:=by
 unfold Region.schedule;rw[hm];rfl
theorem GL (hJ:∀σ,gp P main (J σ))(hX:pL P X)(hF:vJ F)(C:iG P X main J F call)(qI:nt<=512){id:Nat}{ops:Array hZ}{draw:Bool}{n:Nat}{f:Go.AM.F}(h:comp P nt (n+1) (.region id ops draw)=some f){st j7:Ss}{e:Exit}(hf:f call st=some (e,j7))(hw:Wf st.mem):
  e= .normal/\F st.mem j7.mem/\∃c,∀k,eY P J nt st j7 (.code (.region id ops draw)::k) (·=k) c:=by
 unfold comp at h;simp only[]at h;have HH:∀o:iI,Nr o call st=some (e,j7)->e= .normal/\o call st.tm st.mem st.df=some j7:=by
  intro o ho;unfold Nr at ho
  split at ho
  ·rename_i s hs;simp only[ah,aC]at ho;obtain⟨rfl,rfl⟩:=ho;exact⟨rfl,hs⟩
  ·cases ho
 have Ft:∀k,eY P J nt j7 j7 (.inRegion ops []::k) (·=k) 1:=fun k=>eY.move hJ stepG_region_end
 cases draw with
 |false=>
  simp only[bu,if_false]at h
  split at h
  ·rename_i o ho;cases h;obtain⟨h1,h2⟩:=HH o hf;obtain⟨g1,c,g2⟩:=wQ hJ hX hF C qI ho h2 hw;refine⟨h1,g1,(1+c)+1,fun k=>eY.trans (eY.move hJ stepG_region) (Mv.refl _) fun A hA=>?_⟩;subst hA;exact eY.trans (g2 k) (hF.mv g1) fun A hA=>by subst hA;exact Ft k
  ·cases h
 |true=>
  simp only[if_true]at h
  split at h
  ·rename_i T hT
   split at h
   ·rename_i o ho;cases h;obtain⟨h1,h2⟩:=HH o hf;unfold Tq at hT;simp only[]at hT
    split at hT
    ·rename_i hc;simp only[ah]at hT;subst hT;simp only[aj]at hc;have R:=Qh qI hc.1.1.1 hc.1.1.2 hc.1.2 hc.2;have hex:Ex ops nt j7 st.tm (SS ops (Region.before ops) []) st.tm:=fun t ht=>⟨fun i hi=>(by
      rcases hi with⟨_,hi⟩|hi
      ·exact absurd hi (Nat.not_lt_zero _)
      ·cases hi),fun _=>rfl⟩
     obtain⟨g1,c,g2⟩:=Ja (py:=st.mem.next) hJ hX hF C R (rest:=aG ops) (pre:=[]) (rV:=fun _=>st.tm) (vI:=fun _=>undef) rfl ho h2 hw hex (ai _)
      ⟨fun i _ hi=>absurd hi (Nat.not_lt_zero _),fun i _ hi=>absurd hi (Nat.not_lt_zero _),fun i j _ _ hi=>absurd hi (Nat.not_lt_zero _)⟩
     refine⟨h1,g1,1+(c+ops.size)+1,fun k=>?_⟩;refine⟨fun{E bI σ ρ w b a cs n} hk H ha KC=>?_⟩;rw[<-Nat.add_assoc];refine(hJ σ).step rfl fun aR j2=>?_
     have gI:=H.keeps j2;have aml:=bD.at ((aB ρ st.mem).or E) aR (aR.drawn+1);refine⟨_,{aR with drawn:=aR.drawn+1},#[],(aB ρ st.mem).or E,⟨stepG_region_draw,⟨rfl,rfl,rfl,ai _,fun _ _=>rfl,fun _ _ _ _=>rfl,fun _ _ _=>rfl,fun _ _ _ _=>rfl⟩,fun e he=>by simp at he,eS.refl _ _,rfl,fun h=>⟨h.rd,h.wr,h.ob⟩⟩,?_⟩;rw[Gz hX.mixed];have hL:=G8 R.ord (aR.tape aR.drawn (.order b.fn id));have hlen:(Region.linearise .any ops (aR.tape aR.drawn (.order b.fn id))).length<=ops.size:=by
      have h3:=hL.nodup.length_le_of_subset (fun x hx=>List.mem_range.2 (hL.lt x hx));simpa using h3
     have pK:=gI.keeps aml;have :=g2 (l:=Region.linearise .any ops (aR.tape aR.drawn (.order b.fn id))) (D:=fun _=>False) (n:=n+1) (k:=k) (cs:=cs) hk hL cK (fun _ _ h=>h) pK ⟨ha.size,fun t ht i hi=>hi.elim,fun t ht _=>ha.tm t ht⟩ ha.df (fun i _ hi=>absurd hi (Nat.not_lt_zero _))
      (fun gJ bH w' a' hle hold H' ni=>by
       refine(Ft k).go hk H' ni fun sH fj iL K8 todo ht nT ll pK wV=>?_
       exact KC sH fj iL K8 todo ht (dL.le_trans hle nT) (rl.trans (hF.mv g1) (.of hold) ll) pK wV)
     exact(hJ σ).le av this
    ·cases hT
   ·cases h
  ·cases h
end
end Go.AM
namespace Go.AM
open Go Go.Conc
theorem U' {e:Exit}(he:e≠ .normal){x:Code}{k todo:List Item}(h:Out e (.code x::k) todo):Out e k todo:=by
 cases e with
 |normal=>exact absurd rfl he
 |ret=>exact h
 |exit id=>exact h
 |goto l=>exact h
 |_=>exact h.elim
section
variable {P:aE}{X:Ext}{main:Bool}{J:JT}{F:Mem->Mem->Prop}{nt:Nat}{call:cL}
theorem Cu {b:Frame}{a:Act}{k:List Item}{cs:List Frame}{w:aA}{c:Code}:stepG P main (G (b.at a (.inScope c::k)) cs) w= .go (G (b.at a k) cs) w:=by simp[G,stepG,stepG.exec,Frame.at]
theorem Gp {b:Frame}{a:Act}{k:List Item}{cs:List Frame}{w:aA}{c:Code}:stepG P main (G (b.at a (.code (.scope c)::k)) cs) w= .go (G (b.at a (.code c:: .inScope c::k)) cs) w:=by simp[G,stepG,stepG.exec,Frame.at]
theorem I6 {b:Frame}{a:Act}{k k':List Item}{cs:List Frame}{w:aA}{l:Nat}(h:gotoIn l k=some k'):stepG P main (G (b.at a (.code (.goto l)::k)) cs) w= .go (G (b.at a k') cs) w:=by simp[G,stepG,stepG.exec,Frame.at,h]
def FZ (P:aE)(J:JT)(F:Mem->Mem->Prop)(nt:Nat)(call:cL)(c:Code)(f:Go.AM.F):Prop:=
 ∀{st j7:Ss}{e:Exit},f call st=some (e,j7)->Wf st.mem->F st.mem j7.mem/\∃n,∀k,eY P J nt st j7 (.code c::k) (Out e k) n
theorem Dq (hJ:∀σ,gp P main (J σ))(hF:vJ F){body:Code}{fb:Go.AM.F}(hb:FZ P J F nt call body fb):∀(N:Nat) {st j7:Ss}{e:Exit},wK fb call N st=some (e,j7)->Wf st.mem->
  F st.mem j7.mem/\∃n,∀k,eY P J nt st j7 (.code body:: .inLoop body::k) (Out e k) n
 |0,st,j7,e,h,_=>by cases h
 |N+1,st,j7,e,h,hw=>by
  unfold wK at h
  split at h
  ·rename_i lL h1;obtain⟨g1,n,g2⟩:=hb h1 hw;obtain⟨g3,m,g4⟩:=Dq hJ hF hb N h ((hF.mv g1).wf hw);refine⟨hF.trans g1 g3,(m+1)+n,fun k=>eY.trans (g2 _) (hF.mv g1) fun A hA=>?_⟩;have hA':A= .inLoop body::k:=hA;subst hA';exact eY.trans (eY.move hJ stepG_inLoop) (Mv.refl _) fun A hA=>by subst hA;exact g4 k
  ·rename_i r dx;obtain⟨g1,n,g2⟩:=hb h hw;refine⟨g1,n,fun k=>(g2 (.inLoop body::k)).weaken fun A hA=>?_⟩;cases e with
   |normal=>exact absurd h (dx j7)
   |ret=>exact hA
   |exit id=>exact hA
   |goto l=>exact hA
   |_=>exact hA.elim
theorem AJ (hJ:∀σ,gp P main (J σ))(hF:vJ F){body:Code}{has:Nat->Bool}{Qd:Nat->Option Go.AM.F}(gn:∀l c f,findLabel body l=some c->Qd l=some f->FZ P J F nt call c f)(abI:∀l,has l=(findLabel body l).isSome):
  ∀(N:Nat) {c:Code}{fb:Go.AM.F},FZ P J F nt call c fb->∀{st j7:Ss}{e:Exit},sR has Qd call N fb st=some (e,j7)->Wf st.mem->
   F st.mem j7.mem/\∃n,∀k,eY P J nt st j7 (.code c:: .inScope body::k) (Out e k) n
 |0,c,fb,_,st,j7,e,h,_=>by cases h
 |N+1,c,fb,hc,st,j7,e,h,hw=>by
  unfold sR at h
  split at h
  ·rename_i l lL h1;obtain⟨g1,n,g2⟩:=hc h1 hw;cases IJ:findLabel body l with
   |some c2=>
    rw[abI,IJ]at h;simp only[Option.isSome_some,if_true]at h
    split at h
    ·rename_i f2 KF;obtain⟨g3,m,g4⟩:=AJ hJ hF gn abI N (gn l c2 f2 IJ KF) h ((hF.mv g1).wf hw);refine⟨hF.trans g1 g3,(m+1)+n,fun k=>eY.trans (g2 _) (hF.mv g1) fun A hA=>?_⟩;obtain⟨k',rfl,hg⟩:=hA;have KD:gotoIn l k'=some (.code c2:: .inScope body::k):=by
      rw[hg]
      show gotoIn l (.inScope body::k)=_
      simp only[gotoIn,IJ]
     exact eY.trans (eY.move hJ (I6 KD)) (Mv.refl _) fun A hA=>by subst hA;exact g4 k
    ·cases h
   |none=>
    rw[abI,IJ]at h;simp only[Option.isSome_none,bu,if_false,ah,aC]at h;obtain⟨rfl,rfl⟩:=h;refine⟨g1,n,fun k=>(g2 _).weaken fun A hA=>?_⟩;obtain⟨k',rfl,hg⟩:=hA;refine⟨k',rfl,?_⟩;rw[hg];simp only[gotoIn,IJ]
  ·rename_i r dx;obtain⟨g1,n,g2⟩:=hc h hw;cases e with
   |normal=>
    refine⟨g1,1+n,fun k=>eY.trans (g2 _) (hF.mv g1) fun A hA=>?_⟩;have hA':A= .inScope body::k:=hA;subst hA';exact eY.move hJ Cu
   |ret=>exact⟨g1,n,fun k=>(g2 _).weaken fun A hA=>hA⟩
   |exit id=>exact⟨g1,n,fun k=>(g2 _).weaken fun A hA=>hA⟩
   |goto l=>exact absurd h (dx l j7)
   |_=>exact⟨g1,n,fun k=>(g2 _).weaken fun A hA=>hA.elim⟩
theorem D2 (hJ:∀σ,gp P main (J σ))(hX:pL P X)(hF:vJ F)(C:iG P X main J F call)(qI:nt<=512):∀(n:Nat) (c:Code) (f:Go.AM.F),comp P nt n c=some f->FZ P J F nt call c f:=by
 intro n
 induction n with
 |zero=>intro c f h;unfold comp at h;cases h
 |succ n ih=>
  intro c f h st j7 e hf hw;cases c with
  |skip=>
   unfold comp at h;cases h;unfold v9 at hf;simp only[ah,aC]at hf;obtain⟨rfl,rfl⟩:=hf;exact⟨hF.refl _,1,fun k=>eY.move hJ stepG_skip⟩
  |label l=>
   unfold comp at h;cases h;unfold v9 at hf;simp only[ah,aC]at hf;obtain⟨rfl,rfl⟩:=hf;exact⟨hF.refl _,1,fun k=>eY.move hJ stepG_label⟩
  |seq a b=>
   unfold comp at h;simp only[]at h
   split at h
   ·rename_i fa ha
    split at h
    ·rename_i fb hb;cases h;unfold nQ at hf
     split at hf
     ·rename_i lL h1;obtain⟨g1,n1,g2⟩:=ih a fa ha h1 hw;obtain⟨g3,n2,g4⟩:=ih b fb hb hf ((hF.mv g1).wf hw);refine⟨hF.trans g1 g3,(n2+n1)+1,fun k=>eY.trans (eY.move hJ stepG_seq) (Mv.refl _) fun A hA=>?_⟩;subst hA;exact eY.trans (g2 _) (hF.mv g1) fun A hA=>by
       have hA':A= .code b::k:=hA;subst hA';exact g4 k
     ·rename_i dx;obtain⟨g1,n1,g2⟩:=ih a fa ha hf hw;refine⟨g1,n1+1,fun k=>eY.trans (eY.move hJ stepG_seq) (Mv.refl _) fun A hA=>?_⟩;subst hA;exact(g2 _).weaken fun A hA=>U' (fun he=>dx j7 (by rw[hf,he])) hA
    ·cases h
   ·cases h
  |cond x a b=>
   unfold comp at h;simp only[]at h
   split at h
   ·rename_i hgx
    split at h
    ·rename_i fa ha
     split at h
     ·rename_i fb hb;have hcf:=aO h;cases hcf;unfold Tw at hf;have uL:∀(t:Bool),dH st.tm x= .bool t->∀k,eY P J nt st st (.code (.cond x a b)::k) (·= .code (if t then a else b)::k) 1:=by
       intro t ht k;refine⟨fun{E bI σ ρ w bb aa cs n} hk H haa KC=>?_⟩;have hv:=HY haa.tm H hgx;rw[ht]at hv;have eh:aa.eval x= .bool t:=(aL rfl).1 hv;refine mI (hJ σ) rfl (fun w=>stepG_cond eh) fun aR j2=>?_
       exact KC σ ρ aR aa _ rfl (dL.le_refl _) (.of fun _ _=>rfl) (H.keeps j2) haa
      split at hf
      ·rename_i ht;obtain⟨g1,n1,g2⟩:=ih a fa ha hf hw;exact⟨g1,n1+1,fun k=>eY.trans (uL true ht k) (Mv.refl _) fun A hA=>by subst hA;exact g2 k⟩
      ·rename_i ht;obtain⟨g1,n1,g2⟩:=ih b fb hb hf hw;exact⟨g1,n1+1,fun k=>eY.trans (uL false ht k) (Mv.refl _) fun A hA=>by subst hA;exact g2 k⟩
      ·cases hf
     ·cases h
    ·cases h
   ·cases h
  |block id b=>
   unfold comp at h;simp only[]at h
   split at h
   ·rename_i fb hb;cases h;unfold FP at hf
    split at hf
    ·rename_i j lL h1;obtain⟨g1,n1,g2⟩:=ih b fb hb h1 hw
     split at hf
     ·rename_i hj;simp only[ah,aC]at hf;obtain⟨rfl,rfl⟩:=hf;have ru:=aT hj;subst ru;refine⟨g1,(1+n1)+1,fun k=>eY.trans (eY.move hJ stepG_block) (Mv.refl _) fun A hA=>?_⟩;subst hA;refine eY.trans (g2 _) (hF.mv g1) fun A hA=>?_
      obtain⟨k',rfl,he⟩:=hA;have HS:exitTo j k'=some k:=by rw[he];simp[exitTo]
      exact eY.move hJ (stepG_exit HS)
     ·rename_i hj;simp only[ah,aC]at hf;obtain⟨rfl,rfl⟩:=hf;refine⟨g1,n1+1,fun k=>eY.trans (eY.move hJ stepG_block) (Mv.refl _) fun A hA=>?_⟩;subst hA;refine(g2 _).weaken fun A hA=>?_
      obtain⟨k',rfl,he⟩:=hA;refine⟨k',rfl,?_⟩;rw[he];have dx:(id==j)=false:=by
       rw[Iq]at hj;simp only[jE]at hj;simpa using fun h=>hj h.symm
      simp only[exitTo,dx,bu,if_false]
    ·rename_i dx;obtain⟨g1,n1,g2⟩:=ih b fb hb hf hw;cases e with
     |normal=>
      refine⟨g1,(1+n1)+1,fun k=>eY.trans (eY.move hJ stepG_block) (Mv.refl _) fun A hA=>?_⟩;subst hA;refine eY.trans (g2 _) (hF.mv g1) fun A hA=>?_
      have hA':A= .inBlock id::k:=hA;subst hA';exact eY.move hJ stepG_inBlock
     |exit j=>exact absurd hf (dx j j7)
     |ret=>exact⟨g1,n1+1,fun k=>eY.trans (eY.move hJ stepG_block) (Mv.refl _) fun A hA=>by subst hA;exact(g2 _).weaken fun A hA=>hA⟩
     |goto l=>exact⟨g1,n1+1,fun k=>eY.trans (eY.move hJ stepG_block) (Mv.refl _) fun A hA=>by subst hA;exact(g2 _).weaken fun A hA=>hA⟩
     |_=>exact⟨g1,n1+1,fun k=>eY.trans (eY.move hJ stepG_block) (Mv.refl _) fun A hA=>by subst hA;exact(g2 _).weaken fun A hA=>hA.elim⟩
   ·cases h
  |loop b=>
   unfold comp at h;simp only[]at h
   split at h
   ·rename_i fb hb;cases h;unfold Yh at hf;obtain⟨g1,n1,g2⟩:=Dq hJ hF (ih b fb hb) _ hf hw;exact⟨g1,n1+1,fun k=>eY.trans (eY.move hJ stepG_loop) (Mv.refl _) fun A hA=>by subst hA;exact g2 k⟩
   ·cases h
  |exit id=>
   unfold comp at h;cases h;unfold DR at hf;simp only[ah,aC]at hf;obtain⟨rfl,rfl⟩:=hf;exact⟨hF.refl _,0,fun k=>eY.here ⟨k,rfl,rfl⟩⟩
  |ret=>
   unfold comp at h;cases h;unfold DR at hf;simp only[ah,aC]at hf;obtain⟨rfl,rfl⟩:=hf;exact⟨hF.refl _,0,fun k=>eY.here ⟨k,rfl⟩⟩
  |goto l=>
   unfold comp at h;cases h;unfold DR at hf;simp only[ah,aC]at hf;obtain⟨rfl,rfl⟩:=hf;exact⟨hF.refl _,0,fun k=>eY.here ⟨k,rfl,rfl⟩⟩
  |scope b=>
   unfold comp at h;simp only[]at h
   split at h
   ·rename_i fb hb;cases h;obtain⟨g1,n1,g2⟩:=AJ hJ hF (body:=b) (has:=fun l=>(findLabel b l).isSome) (Qd:=fun l=>(findLabel b l).bind (comp P nt n)) (fun l c2 f2 IJ KF=>ih c2 f2 (by rw[IJ]at KF;exact KF)) (fun l=>rfl) _ (ih b fb hb) hf hw;exact⟨g1,n1+1,fun k=>eY.trans (eY.move hJ Gp) (Mv.refl _) fun A hA=>by subst hA;exact g2 k⟩
   ·cases h
  |region id ops draw=>
   obtain⟨rfl,g1,c,g2⟩:=GL hJ hX hF C qI h hf hw;exact⟨g1,c,fun k=>(g2 k).weaken fun A hA=>hA⟩
  |_=>unfold comp at h;cases h
end
end Go.AM
namespace Go.AM
open Go Go.Conc
theorem nH (l:List af):IL l=l.getD 0 undef:=by cases l<;>rfl
theorem cX (l:List af)(i:Nat):(kI l).getD i undef=l.getD (i+1) undef:=by cases l<;>simp[kI]
theorem Av (l:List af)(i:Nat):(Pk l).getD i undef=l.getD (i+8) undef:=by
 unfold Pk;simp only[cX]
theorem GD (l:List af){i:Nat}(hi:i<8):(EF l).get i=l.getD i undef:=by
 match i,hi with
 |0,_=>exact nH l
 |1,_=>show IL (kI l)=_;rw[nH,cX]
 |2,_=>show IL (kI (kI l))=_;rw[nH,cX,cX]
 |3,_=>show IL (kI (kI (kI l)))=_;rw[nH,cX,cX,cX]
 |4,_=>show IL (kI (kI (kI (kI l))))=_;rw[nH,cX,cX,cX,cX]
 |5,_=>show IL (kI (kI (kI (kI (kI l)))))=_;rw[nH,cX,cX,cX,cX,cX]
 |6,_=>show IL (kI (kI (kI (kI (kI (kI l))))))=_;rw[nH,cX,cX,cX,cX,cX,cX]
 |7,_=>show IL (kI (kI (kI (kI (kI (kI (kI l)))))))=_;rw[nH,cX,cX,cX,cX,cX,cX,cX]
theorem PY {l:List af}{tm:Tm}(h:Cs l=some tm){t:Nat}(ht:t<512):de t tm=l.getD t undef:=by
 have hlen:∀i,l.getD (i+16) undef=undef:=fun i=>by
  rw[show i+16=(i+8)+8 by omega,<-Av,<-Av];unfold Cs at h
  split at h
  ·rename_i e;rw[e];rfl
  ·cases h
 unfold Cs at h
 split at h
 ·simp only[ah]at h;subst h;have d (x k:Nat):rz x k=x / k%8:=rfl;have e8:Nat.mod t 8=t%8:=rfl;have Yy:∀i,pB.get i=undef:=fun i=>N8.Fz _ _
  have abv:∀i,ny.get i=pB:=fun i=>N8.Fz _ _
  unfold de
  by_cases h1:t<64
  ·rw[show rz t 64=0 by rw[d];omega]
   show((⟨EF l,EF (Pk l),pB,pB,pB,pB,pB,pB⟩:N8 (N8 af)).get (rz t 8)).get (Nat.mod t 8)=_
   by_cases h2:t<8
   ·rw[show rz t 8=0 by rw[d];omega]
    show(EF l).get (Nat.mod t 8)=_
    rw[GD _ av,e8,Nat.mod_eq_of_lt h2]
   ·by_cases h3:t<16
    ·rw[show rz t 8=1 by rw[d];omega]
     show(EF (Pk l)).get (Nat.mod t 8)=_
     rw[GD _ av,Av,e8]
     congr 1
     omega
    ·have hu:=hlen (t-16);rw[show t-16+16=t by omega]at hu;rw[hu];have :∀i,2<=i->i<8->(⟨EF l,EF (Pk l),pB,pB,pB,pB,pB,pB⟩:N8 (N8 af)).get i=pB:=fun i h1 h2=>by
      match i,h1,h2 with
      |2,_,_|3,_,_|4,_,_|5,_,_|6,_,_|7,_,_=>rfl
     rw[this _ (by rw[d];omega) (by rw[d];omega)];exact Yy _
  ·have hu:=hlen (t-16);rw[show t-16+16=t by omega]at hu;rw[hu];have :∀(x:N8 (N8 af)) i,1<=i->i<8->(⟨x,ny,ny,ny,ny,ny,ny,ny⟩:Tm).get i=ny:=fun x i h1 h2=>by
    match i,h1,h2 with
    |1,_,_|2,_,_|3,_,_|4,_,_|5,_,_|6,_,_|7,_,_=>rfl
   rw[this _ _ (by rw[d];omega) (by rw[d];omega),abv];exact Yy _
 ·cases h
section
variable {P:aE}{X:Ext}{main:Bool}{J:JT}{F:Mem->Mem->Prop}{nt:Nat}{call:cL}{E:Perm}{bI:aA}{σ:nq}{ρ:dL}{m m':Mem}{w:aA}
theorem DS {args:List af}{bX:Array af}{tm:Tm}(h:Cs args=some tm)(hr:bM (bg ρ) args bX.toList)(hl:args.length<=nt)(qI:nt<=512):sE nt ρ tm [] {tmps:=bX++Array.replicate (nt-bX.size) undef,defers:=[]}:=by
 have hlen:bX.size=args.length:=by have :=hr.length;simpa using this.symm
 refine⟨by simp;omega,fun t ht=>?_,trivial⟩;rw[PY h av];have e:(bX++Array.replicate (nt-bX.size) undef).getD t undef=bX.toList.getD t undef:=by
  rw[Array.getD_eq_getD_getElem?,List.getD_eq_getElem?_getD,Array.getElem?_append]
  split
  ·simp
  ·rename_i h1;have h2:bX.toList[t]?=none:=List.getElem?_eq_none (by simpa using h1);rw[h2,Array.getElem?_replicate]
   split<;>rfl
 rw[e];exact hr.getD mA t
theorem sT (hs:fO ρ m w){N:Nat}{tm:Tm}{a:Act}{df:Df}(ha:sE nt ρ tm df a):∀{rs:List ResultVar}{vs:List af},ss P nt m tm rs=some vs->∀{Q:List af->aA->Prop},(∀qJ,bM (bg ρ) vs qJ->Q qJ w)->
  er P (aB ρ m) N (rs.mapM fun r=>match r with | .tmp t=>(pure (a.tmps.getD t undef):Sem af)| .cell x t=>do loadVar t (<-asAddr (a.tmps.getD x undef))) Q w
 | [],vs,h,Q,hq=>by
  simp only[ss,ah]at h;subst h;rw[List.mapM_nil];exact hq [] trivial
 | .tmp t::rs,vs,h,Q,hq=>by
  unfold ss at h
  split at h
  ·rename_i ht;rw[jT,jE]at ht
   split at h
   ·rename_i vs1 h1;cases h;rw[List.mapM_cons,az]
    show er P (aB ρ m) N _ Q w
    rw[az];exact sT hs ha h1 fun qJ OF=>hq _ ⟨ha.tm t ht,OF⟩
   ·cases h
  ·cases h
 | .cell x t::rs,vs,h,Q,hq=>by
  unfold ss at h
  split at h
  ·rename_i hx;rw[jT,jE]at hx
   split at h
   ·rename_i v vs1 hv h1;cases h;have hp:=ha.tm x hx;obtain⟨bb,oo,hbo⟩:∃b o,de x tm= .pointer (some ⟨b,o,none⟩):=by
     unfold kx at hv
     split at hv
     ·rename_i h2;exact⟨_,_,h2⟩
     ·cases hv
    rw[List.mapM_cons,az];have YH:=zc (P:=P) (N:=N) hs hp hv (Q:=fun v' w'=>er P (aB ρ m) N (rs.mapM fun r=>match r with | .tmp t=>(pure (a.tmps.getD t undef):Sem af)| .cell x t=>do loadVar t (<-asAddr (a.tmps.getD x undef))) (fun qJ iL=>Q (v'::qJ) iL) w')
     fun v' Uh=>sT hs ha h1 fun qJ OF=>hq (v'::qJ) ⟨Uh,OF⟩
    rw[hbo]at hp;obtain⟨pl,dF,_,e⟩:=cW.1 hp;rw[e]at YH;simp only[];rw[e];have abD:er P (aB ρ m) N (loadVar t ⟨pl.c,pl.d+oo,none⟩) (fun v' w'=>er P (aB ρ m) N (rs.mapM fun r=>match r with | .tmp t=>(pure (a.tmps.getD t undef):Sem af)| .cell x t=>do loadVar t (<-asAddr (a.tmps.getD x undef))) (fun qJ iL=>Q (v'::qJ) iL) w') w:=YH
    show er P (aB ρ m) N (loadVar t ⟨pl.c,pl.d+oo,none⟩) _ w
    refine Ha abD fun v' w' h3=>?_
    rw[az];exact h3
   ·cases h
  ·cases h
theorem yS (hs:fO ρ m w){N:Nat}{tm:Tm}{a:Act}{df:Df}(ha:sE nt ρ tm df a){fn:Func}{v:af}(h:j1 P nt fn.results.toList tm m=some v){Q:af->aA->Prop}(hq:∀v',bg ρ v v'->Q v' w):
  er P (aB ρ m) N (results fn a.tmps) Q w:=by
 unfold results;rw[az,Array.mapM_eq_mapM_toList]
 show er P (aB ρ m) N (_<$> _) _ w
 rw[map_eq_pure_bind,az];unfold j1 at h;have fin:∀{vs:List af},ss P nt m tm fn.results.toList=some vs->v=(match vs with | [x]=>x|l=> .tuple l.toArray)->er P (aB ρ m) N (fn.results.toList.mapM fun r=>match r with | .tmp t=>(pure (a.tmps.getD t undef):Sem af)| .cell x t=>do loadVar t (<-asAddr (a.tmps.getD x undef)))
   (fun qJ w'=>er P (aB ρ m) N (pure qJ.toArray) (fun PO iL=>er P (aB ρ m) N (pure (if h:PO.size=1 then PO[0]else .tuple PO)) Q iL) w') w:=by
  intro vs OF hv;refine sT hs ha OF fun qJ hr=>?_
  show Q (if h:qJ.toArray.size=1 then qJ.toArray[0]else .tuple qJ.toArray) w
  refine hq _ ?_;rw[hv]
  match vs,qJ,hr with
  | [],[],_=>exact fE.2 ⟨_,rfl,trivial⟩
  | [x],[x'],hr=>exact hr.1
  |x::y::l,x'::y'::l',hr=>
   rw[dif_neg cK];exact fE.2 ⟨_,rfl,hr⟩
 split at h
 ·rename_i u hu;cases h;exact fin hu rfl
 ·rename_i vs dx OF;cases h;refine fin OF ?_
  split
  ·rename_i x;exact absurd rfl (dx x)
  ·rfl
 ·cases h
theorem uj {b:Frame}{a:Act}{todo:List Item}{cs:List Frame}{ds:List Deferred}{f:FuncId}{fn:Func}{args cap:Array af}{d:Deferred}(hd:a.defers=d::ds)(YM:d={target:= .fn (.func f) cap,args:=args})(hf:P.funcs[f]?=some fn)(HN:(fn.name== "runtime.NumGoroutine")=false)(hb:fn.body.isSome=true):
  stepG P main (G {b.at a todo with mode:= .returning} cs) w= .go (G (Frame.enter P f (args++cap) .deferred) ({b.at ⟨a.tmps,ds⟩ todo with mode:= .returning}::cs)) w #[]:=by
 have h1:¬fn.name= "runtime.NumGoroutine":=by simpa using HN
 have h2:¬fn.body=none:=by cases hx:fn.body<;>simp_all
 subst YM;simp[G,stepG,unwind,callDeferred,Frame.at,hd,invoke,callFunc,hf,h1,h2,GStep.after,seen_none]
theorem Ew {b:Frame}{a:Act}{todo:List Item}{cs:List Frame}{fn:Func}{c:Frame}{v:af}{w':aA}(hn:b.kind= .normal\/(b.kind= .deferred/\c.mode= .returning))(hd:a.defers=[])(hf:P.funcs[b.fn]?=some fn)(hr:(results fn a.tmps).run P w= .ok v w'):
  stepG P main (G {b.at a todo with mode:= .returning} (c::cs)) w= .go (G (if b.kind= .normal then c.finish v else c) cs) w' (seen P b.fn ((results fn a.tmps).events P w #[])):=by
 rcases hn with hn|⟨hn,hm⟩
 ·simp[G,stepG,unwind,doReturn,Frame.at,hn,hd,hf,hr,GStep.after]
 ·simp[G,stepG,unwind,doReturn,Frame.at,hn,hd,hf,hr,GStep.after,hm]
theorem ts (hJ:∀σ,gp P main (J σ))(hX:pL P X)(hF:vJ F)(C:iG P X main J F call):∀{df:Df}{m m':Mem},oD P X call df m=some m'->Wf m->F m m'/\∃c,
  ∀{E:Perm}{bI:aA}{σ:nq}{ρ:dL}{w:aA}{b:Frame}{a:Act}{todo:List Item}{cs:List Frame}{n:Nat}{tm:Tm},dd P E bI σ ρ m w->sE nt ρ tm df a->
   (∀gJ bH w',ρ.le bH->rl m ρ bH->dd P E bI gJ bH m' w'->sE nt bH tm [] ⟨a.tmps,[]⟩->J gJ n ((aB bH m').or E) (G {b.at ⟨a.tmps,[]⟩ todo with mode:= .returning} cs) w')->
   J σ (n+c) ((aB ρ m).or E) (G {b.at a todo with mode:= .returning} cs) w
 | [],m,m',h,hw=>by
  simp only[oD,ah]at h;subst h;refine⟨hF.refl _,0,fun{E bI σ ρ w b a todo cs n tm} H ha hn=>?_⟩;have hd:a.defers=[]:=by
   have :=ha.df;cases h:a.defers with
   |nil=>rfl
   |cons x l=>rw[h]at this;exact this.elim
  have e:a=⟨a.tmps,[]⟩:=by cases a;simp only at hd;subst hd;rfl
  have :=hn σ ρ w (dL.le_refl _) (.of fun _ _=>rfl) H (by rw[<-e];exact ha);rw[<-e]at this;exact this
 |(f,args)::ds,m,m',h,hw=>by
  unfold oD at h
  split at h
  ·rename_i hb;simp only[aj,Bool.not_eq_true',Bool.or_eq_false_iff]at hb;obtain⟨hb,j8,iW⟩:=hb
   split at h
   ·rename_i v m1 fX;obtain⟨g1,_,g2⟩:=C f args m v m1 hw fX;obtain⟨c,g2⟩:=g2 hb;obtain⟨h1,c',h2⟩:=ts hJ hX hF C h ((hF.mv g1).wf hw);obtain⟨fn,hf,uy⟩:=Ip hb;refine⟨hF.trans g1 h1,c'+c+1,fun{E bI σ ρ w b a todo cs n tm} H ha hn=>?_⟩;obtain⟨d,ds',uv⟩:∃d ds',a.defers=d::ds':=by
     have :=ha.df;cases h:a.defers with
     |nil=>rw[h]at this;exact this.elim
     |cons x l=>exact⟨x,l,rfl⟩
    have Ul:=ha.df;rw[uv]at Ul;obtain⟨⟨cap,YM,hda⟩,gn⟩:=Ul;have CJ:d={target:= .fn (.func f) cap,args:=d.args}:=by cases d;simp only at YM;subst YM;rfl
    refine mI (hJ σ) rfl (fun w=>uj uv CJ hf (hX.names f fn hf uy) uy) fun aR j2=>?_
    have gI:=H.keeps j2
    show J σ (n+(c'+c)) _ _ _
    rw[<-Nat.add_assoc];refine g2 _ _ cs (n+c') .deferred gI hda (.inr ⟨rfl,rfl,Nat.ne_of_beq_eq_false j8,Nat.ne_of_beq_eq_false iW⟩) fun gJ bH v' w' hle hold H' hv=>?_
    rw[bT cK];refine h2 (a:=⟨a.tmps,ds'⟩) (tm:=tm) H' ⟨ha.size,fun t ht=>(ha.tm t ht).pC hle,gn.mono fun _ _ x=>x.pC hle⟩ fun sH fj iL nT ll pK wV=>?_
    exact hn sH fj iL (dL.le_trans hle nT) (hold.trans (hF.mv g1) ll) pK wV
   ·cases h
  ·cases h
theorem Pf (hJ:∀σ,gp P main (J σ))(hX:pL P X)(hF:vJ F)(C:iG P X main J F call){f:Nat}{fn:Func}{c:Code}(hf:P.funcs[f]?=some fn)(hc:fn.body=some c){n:Nat}{b:Go.AM.F}(qI:fn.ntmps<=512)(hb:comp P fn.ntmps n c=some b)
  {args:List af}{m m':Mem}{v:af}(hw:Wf m)(h:xp P X fn.ntmps fn.results.toList b call args m=some (v,m')):F m m'/\∃c,
   ∀{E:Perm}{bI:aA}{σ:nq}{ρ:dL}{w:aA} (bX:Array af) (fr:Frame) (cs:List Frame) (n:Nat) (kind:CallKind),
   dd P E bI σ ρ m w->bM (bg ρ) args bX.toList->(kind= .normal\/(kind= .deferred/\fr.mode= .returning))->
   (∀gJ bH v' w',ρ.le bH->rl m ρ bH->dd P E bI gJ bH m' w'->bg bH v v'->J gJ n ((aB bH m').or E) (G (if kind= .normal then fr.finish v' else fr) cs) w')->
   J σ (n+c) ((aB ρ m).or E) (G (Frame.enter P f bX kind) (fr::cs)) w:=by
 unfold xp at h
 split at h
 ·cases h
 ·rename_i tm WG
  split at WG
  ·rename_i hlen;rw[p6,jE]at hlen
   split at h
   ·cases h
   ·rename_i st fp
    split at h
    ·cases h
    ·rename_i m2 nN
     split at h
     ·rename_i v2 pF;cases h;unfold MI at fp;obtain⟨e,MA,he⟩:∃e,b call ⟨tm,m,[]⟩=some (e,st)/\(e= .normal\/e= .ret):=by
       split at fp
       ·rename_i s hs;cases fp;exact⟨_,hs,.inl rfl⟩
       ·rename_i s hs;cases fp;exact⟨_,hs,.inr rfl⟩
       ·cases fp
      obtain⟨g1,c1,g2⟩:=D2 hJ hX hF C qI n c b hb MA hw;have IH:=(hF.mv g1).wf hw;obtain⟨g3,c2,g4⟩:=ts (nt:=fn.ntmps) hJ hX hF C nN IH;refine⟨hF.trans g1 g3,((1+c2)+1)+c1,fun{E bI σ ρ w} bX fr cs n kind H hr iR hn=>?_⟩;have ha:=DS WG hr hlen qI;obtain⟨bb,sF,IN,hbf⟩:∃bb:Frame,Frame.enter P f bX kind=bb.at {tmps:=bX++Array.replicate (fn.ntmps-bX.size) undef,defers:=[]} [.code c]/\bb.kind=kind/\bb.fn=f:=by
       rcases iR with rfl|⟨rfl,_⟩
       ·exact⟨base f,enter_at bX hf hc,rfl,rfl⟩
       ·exact⟨baseD f,enter_atD bX hf hc,rfl,rfl⟩
      have dx:bb.kind≠ .early:=by rw[IN];rcases iR with rfl|⟨rfl,_⟩<;>simp
      rw[sF,<-Nat.add_assoc];refine(g2 []).go dx H ha fun gJ bH w' a' todo Sz hle hold H' ni=>?_
      have abm:(∀aR,dd P E bI gJ bH st.mem aR->J gJ (n+(1+c2)) ((aB bH st.mem).or E) (G {bb.at a' todo with mode:= .returning} (fr::cs)) aR)->J gJ (n+((1+c2)+1)) ((aB bH st.mem).or E) (G (bb.at a' todo) (fr::cs)) w':=by
       intro hJ';have uL:∀w,stepG P main (G (bb.at a' todo) (fr::cs)) w= .go (G {bb.at a' todo with mode:= .returning} (fr::cs)) w #[]:=by
        intro w;rcases he with rfl|rfl
        ·have e:todo=[]:=Sz;subst e;exact stepG_end
        ·obtain⟨k',rfl⟩:=Sz;exact stepG_ret'
       exact mI (hJ gJ) rfl uL fun aR j2=>hJ' aR (H'.keeps j2)
      refine abm fun aR gI=>?_
      rw[<-Nat.add_assoc];refine g4 (tm:=st.tm) gI ni fun sH fj iL nT ll pK wV=>?_
      have kz:rl m ρ fj:=hold.trans (hF.mv g1) ll;refine qM hJ pK rfl fun oP uD=>?_
      obtain⟨v',Ao,gR,⟨hv,Si⟩,_,eh⟩:=mF (P:=P) (R:=aB fj m') (N:=oP.heap.size) (Q:=fun v' w'=>bg fj v v'/\w'=oP) (ai _)
       (yS (N:=oP.heap.size) uD.ku (a:=⟨a'.tmps,[]⟩) wV pF fun v' hv=>⟨hv,rfl⟩)
      rw[Si]at gR;obtain⟨evs,ym,jA⟩:=eh #[];have oa:∀e∈seen P bb.fn ((results fn a'.tmps).events P oP #[]),nL (aB fj m') e:=fun e hx=>jA e (by have :=mem_seen hx;rw[ym]at this;simpa using this)
      refine⟨_,fj,m',oP,_,Ew (a:=⟨a'.tmps,[]⟩) (by rw[IN];exact iR) rfl (by rw[hbf];exact hf) gR,Left.refl uD.ku,sG.refl ..,fun e he=> .inl (oa e he),(kV oa _).symm,?_⟩;rw[IN];exact hn sH fj v' oP (dL.le_trans hle nT) kz uD hv
     ·cases h
  ·cases WG
end
end Go.AM
namespace Go.AM
open Go Go.Conc
section
variable {P:aE}{X:Ext}{main:Bool}{J:JT}{F:Mem->Mem->Prop}
theorem W8 {f:Nat}{args:List af}{m m':Mem}{v:af}(h:tp X f args m=some (v,m')):vH m m':=by
 unfold tp at h
 split at h
 ·split at h
  ·simp only[ah,aC]at h;obtain⟨_,rfl⟩:=h;exact vH.deaf _ _
  ·cases h
 ·split at h
  ·split at h
   ·simp only[ah,aC]at h;obtain⟨_,rfl⟩:=h;exact vH.deaf _ _
   ·cases h
  ·split at h
   ·split at h
    ·simp only[ah,aC]at h;obtain⟨_,rfl⟩:=h;exact vH.refl _
    ·cases h
   ·split at h
    ·split at h
     ·simp only[ah,aC]at h;obtain⟨_,rfl⟩:=h;exact vH.refl _
     ·cases h
    ·split at h
     ·split at h
      ·split at h
       ·split at h
        ·obtain⟨m2,xC,he⟩:=ar.1 h;simp only[aC]at he;obtain⟨_,rfl⟩:=he;exact(jD.dS xC).w
        ·split at h
         ·simp only[ah,aC]at h;obtain⟨_,rfl⟩:=h;exact vH.refl _
         ·cases h
       ·cases h
      ·cases h
     ·split at h
      ·split at h
       ·split at h
        ·obtain⟨m2,xC,he⟩:=ar.1 h;simp only[aC]at he;obtain⟨_,rfl⟩:=he;exact(jD.dS xC).w
        ·cases h
       ·cases h
      ·cases h
theorem PZ (hJ:∀σ,gp P main (J σ))(hX:pL P X)(hF:vJ F){call:cL}(C:iG P X main J F call):iG P X main J F fun f args m=>(iX P X f).body call args m:=by
 intro f args m v m' hw h
 replace h:(iX P X f).body call args m=some (v,m'):=h
 unfold iX at h
 split at h
 ·rename_i fn hf
  split at h
  ·rename_i c hc
   split at h
   ·rename_i b hb
    split at hb
    ·rename_i qI;rw[p6,jE]at qI;obtain⟨g1,k,g2⟩:=Pf hJ hX hF C hf hc qI hb hw h;refine⟨g1,fun uy=>?_,fun _=>⟨k,fun bX fr cs n kind H hr hk hn=>g2 bX fr cs n kind H hr (hk.imp id fun h=>⟨h.1,h.2.1⟩) hn⟩⟩;unfold fN at uy;rw[hf]at uy;simp[hc]at uy
    ·cases hb
   ·cases h
  ·rename_i hc;refine⟨hF.fr (W8 h),fun _=>h,fun uy=>?_⟩;unfold fN at uy;rw[hf]at uy;simp[hc]at uy
 ·cases h
theorem Ic (hJ:∀σ,gp P main (J σ))(hX:pL P X)(hF:vJ F):∀n,iG P X main J F (kY P X n)
 |0=>by intro f args m v m' hw h;cases h
 |n+1=>PZ hJ hX hF (Ic hJ hX hF n)
end
end Go.AM
namespace Go.AM
open Go Go.Conc
open Go.ConcN (RelBy fork_knows)
open Go.ConcR (stA smA)
inductive WS where
 |work(R:Perm)
 |rel(R:Perm)(r:Nat)
 |old
def WS.ey:WS->Option Perm
 | .work R=>some R
 | .rel R _=>some R
 | .old=>none
def Sf (R:Perm):Loc->Prop
 | .cell a=>a.spot=none/\R.rd a.block a.off
 | .obj r=>R.ob r
 |_=>False
def WA (R:Perm):Loc->Prop
 | .cell a=>a.spot=none/\R.wr a.block a.off
 | .obj r=>R.ob r
 |_=>False
def shl (sh:Nat->Prop):Loc->Prop
 | .cell a=>sh a.block/\a.spot=none/\a.off<=1
 |_=>False
structure mm (R S:Perm):Prop where
 cell:∀b o,R.wr b o->¬S.rd b o
 obj:∀b,R.ob b->¬S.ob b
structure Lay (sh:Nat->Prop)(D:Nat->WS)(size:Nat)(w:aA):Prop where
 low:∀k R,k<size->(D k).ey=some R->vN R w
 Gb:∀j k R S,j≠k->j<size->k<size->(D j).ey=some R->(D k).ey=some S->mm R S
 Cx:∀k R,k<size->(D k).ey=some R->∀b o,R.rd b o->sh b->¬o<=1
 sh:∀b,sh b->b<w.heap.size
structure TI (Wg:Nat)(sh:Nat->Prop)(D:Nat->WS)(size N:Nat)(t:Trace):Prop where
 nr:∀said,¬Race said t
 gs:∀op∈t,op.g<size
 low:∀i a,touchAt t i=some a->a.loc.low N
 Yj:∀k R,k<size->D k= .work R->∀i a,touchAt t i=some a->WA R a.loc->Knows t k i
 knR:∀k R,k<size->D k= .work R->∀i a,touchAt t i=some a->Sf R a.loc->a.write=true->Knows t k i
 qy:∀i a,touchAt t i=some a->Knows t 0 i\/(∃k R,t.g? i=some k/\0<k/\k<size/\D k= .work R)\/(∃k R r,t.g? i=some k/\0<k/\k<size/\D k= .rel R r/\i<=r)\/(shl sh a.loc/\a.kind= .atomic)
 shp:∀i a,touchAt t i=some a->shl sh a.loc->a.kind= .atomic\/(Knows t 0 i/\(a.kind= .plain->∀k,k<size->D k≠ .old->Knows t k i))
 GJ:∀k R r,k<size->D k= .rel R r->RelBy (stA Wg) t k r
 norel:∀a,NoRelease a t
 cnt:∀i k,t.g? i=some k->0<k->D k= .old->t.counts i->Knows t 0 i
 main:∃R,D 0= .work R
theorem Kq {R R':Perm}{N:Nat}(h:eS R R' N){l:Loc}(hl:l.low N)(hw:WA R' l):WA R l:=by
 cases l with
 |cell a=>exact⟨hw.1,(h.wr _ _ hw.2).elim id fun hn=>absurd (show a.block<N from hl) av⟩
 |obj r=>exact(h.ob _ hw).elim id fun hn=>absurd (show r<N from hl) av
 |_=>exact hw.elim
theorem Kr {R R':Perm}{N:Nat}(h:eS R R' N){l:Loc}(hl:l.low N)(hw:Sf R' l):Sf R l:=by
 cases l with
 |cell a=>exact⟨hw.1,(h.rd _ _ hw.2).elim id fun hn=>absurd (show a.block<N from hl) av⟩
 |obj r=>exact(h.ob _ hw).elim id fun hn=>absurd (show r<N from hl) av
 |_=>exact hw.elim
theorem Mf {R S:Perm}(h:mm R S){l:Loc}(h1:WA R l):¬Sf S l:=by
 intro h2;cases l with
 |cell a=>exact h.cell _ _ h1.2 h2.2
 |obj r=>exact h.obj _ h1 h2
 |_=>exact h1.elim
theorem Me {R:Perm}(h:∀b o,R.wr b o->R.rd b o){l:Loc}(h1:WA R l):Sf R l:=by
 cases l with
 |cell a=>exact⟨h1.1,h _ _ h1.2⟩
 |obj r=>exact h1
 |_=>exact h1.elim
theorem wR {R:Perm}{sh:Nat->Prop}(h:∀b o,R.rd b o->sh b->¬o<=1){l:Loc}(h1:Sf R l):¬shl sh l:=by
 intro h2;cases l with
 |cell a=>exact h _ _ h1.2 h2.1 h2.2.2
 |obj r=>exact h2.elim
 |_=>exact h2.elim
section
variable {Wg:Nat}{sh:Nat->Prop}{D D':Nat->WS}{size N N':Nat}{t u:Trace}{k:Nat}{w:aA}
theorem TI.app(h:TI Wg sh D size N t)(L:Lay sh D size w)(hk:k<size)(hN:N<=N')
  (dx:∀j,j≠k->D' j=D j)(hD:D' k=D k\/∃R R',D k= .work R/\D' k= .work R'/\eS R R' N)
  (hg:∀op∈u,op.g=k)(hl:∀op∈u,∀b,op.act.touch?=some b->b.loc.low N')(hr:∀op∈u,∀a,op.act≠ .mark (.release a))
  (hu:∀op∈u,∀b,op.act.touch?=some b->(∃R,D k= .work R/\Sf R b.loc/\(b.write=true->WA R b.loc))\/(D k≠ .old/\shl sh b.loc/\b.kind≠ .plain/\(b.kind= .said->k=0)))
  (yj:∀R r,D k= .rel R r->RelBy (stA Wg) (t++u) k r):TI Wg sh D' size N' (t++u):=by
 have old:∀{i:Nat}{a:Touch},touchAt (t++u) i=some a->(touchAt t i=some a/\i<t.size)\/(t.size<=i/\∃op∈u,(t++u)[i]?=some op/\op.act.touch?=some a):=by
  intro i a ha;obtain⟨x,hx,hxa⟩:=touch_of ha;rcases getElem?_append_cases hx with⟨hi,uu⟩|⟨hi,hxu⟩
  ·exact .inl ⟨by rw[touchAt_of uu];exact hxa,hi⟩
  ·exact .inr ⟨hi,x,hxu,hx,hxa⟩
 have own:∀{i:Nat}{op:MemOp},(t++u)[i]?=some op->op∈u->Knows (t++u) k i:=by
  intro i op hi dG;have :=knows_own hi;rwa[hg op dG]at this
 have hold:∀j,D' j= .old↔D j= .old:=by
  intro j
  by_cases hj:j=k
  ·subst hj;rcases hD with e|⟨R,R',e1,e2,_⟩
   ·rw[e]
   ·rw[e1,e2];simp
  ·rw[dx j hj]
 have Yt:∀j R',D' j= .work R'->∃R,D j= .work R/\eS R R' N:=by
  intro j R' ru
  by_cases hj:j=k
  ·subst hj;rcases hD with e|⟨R,eX,e1,e2,e3⟩
   ·rw[e]at ru;exact⟨R',ru,eS.refl _ _⟩
   ·rw[e2]at ru;cases ru;exact⟨R,e1,e3⟩
  ·rw[dx j hj]at ru;exact⟨R',ru,eS.refl _ _⟩
 have ahr:∀j R r,D' j= .rel R r->D j= .rel R r:=by
  intro j R r ru
  by_cases hj:j=k
  ·subst hj;rcases hD with e|⟨R,eX,e1,e2,e3⟩
   ·rw[e]at ru;exact ru
   ·rw[e2]at ru;cases ru
  ·rw[dx j hj]at ru;exact ru
 refine⟨fun said=>noRace_append (h.nr said) hg fun i a ha op dG b hb hc=>?_,fun op dG=>?_,fun i a ha=>?_,fun j S hj pH i a ha hw=>?_,fun j S hj pH i a ha hw tc=>?_,fun i a ha=>?_,fun i a ha hs=>?_,fun j R r hj ln=>?_,fun a=>(h.norel a).app fun op dG=>hr op dG a,fun i j hi hj tU hc=>?_,?_⟩
 ·rcases hu op dG b hb with⟨R,hR,h1,h2⟩|⟨Pp,h1,h2,h3⟩
  ·cases hbw:b.write with
   |true=>exact h.Yj k R hk hR i a ha (by rw[hc.1];exact h2 hbw)
   |false=>exact h.knR k R hk hR i a ha (by rw[hc.1];exact h1) (hc.2.2.1.resolve_right (by simp[hbw]))
  ·rcases h.shp i a ha (by rw[hc.1];exact h1)with e|⟨e1,e2⟩
   ·rcases hc.2.2.2 with x|x|⟨_,x,_⟩
    ·rw[e]at x;cases x
    ·exact absurd x h2
    ·rw[e]at x;cases x
   ·rcases hc.2.2.2 with x|x|⟨_,_,x⟩
    ·exact e2 x k hk Pp
    ·exact absurd x h2
    ·rw[h3 x];exact e1
 ·rcases Array.mem_append.1 dG with h1|h1
  ·exact h.gs op h1
  ·rw[hg op h1];exact hk
 ·rcases old ha with⟨ni,_⟩|⟨_,op,dG,hi,hb⟩
  ·exact Loc.low_mono hN (h.low i a ni)
  ·exact hl op dG a hb
 ·obtain⟨acV,hS,pI⟩:=Yt j S pH;rcases old ha with⟨ni,_⟩|⟨_,op,dG,hi,hb⟩
  ·exact(h.Yj j acV hj hS i a ni (Kq pI (h.low i a ni) hw)).app u
  ·by_cases OJ:j=k
   ·subst OJ;exact own hi dG
   ·rw[dx j OJ]at pH;have hS':(D j).ey=some S:=by rw[pH];rfl
    rcases hu op dG a hb with⟨R,hR,h1,h2⟩|⟨_,h1,_,_⟩
    ·exact absurd h1 (Mf (L.Gb j k S R OJ hj hk hS' (by rw[hR];rfl)) hw)
    ·exact absurd h1 (wR (L.Cx j S hj hS') (Me (L.low j S hj hS').wr hw))
 ·obtain⟨acV,hS,pI⟩:=Yt j S pH;rcases old ha with⟨ni,_⟩|⟨_,op,dG,hi,hb⟩
  ·exact(h.knR j acV hj hS i a ni (Kr pI (h.low i a ni) hw) tc).app u
  ·by_cases OJ:j=k
   ·subst OJ;exact own hi dG
   ·rw[dx j OJ]at pH;have hS':(D j).ey=some S:=by rw[pH];rfl
    rcases hu op dG a hb with⟨R,hR,h1,h2⟩|⟨_,h1,_,_⟩
    ·exact absurd hw (Mf (L.Gb k j R S (Ne.symm OJ) hk hj (by rw[hR];rfl) hS') (h2 tc))
    ·exact absurd h1 (wR (L.Cx j S hj hS') hw)
 ·rcases old ha with⟨ni,hi⟩|⟨_,op,dG,hi,hb⟩
  ·rcases h.qy i a ni with h1|⟨j,R,h1,h2,h3,h4⟩|⟨j,R,r,h1,h2,h3,h4,h5⟩|h1
   ·exact .inl (h1.app u)
   ·refine .inr (.inl ?_)
    by_cases hj:j=k
    ·subst hj;rcases hD with e|⟨eX,R',e1,e2,_⟩
     ·exact⟨j,R,by rw[g?_old hi];exact h1,h2,h3,by rw[e];exact h4⟩
     ·exact⟨j,R',by rw[g?_old hi];exact h1,h2,h3,e2⟩
    ·exact⟨j,R,by rw[g?_old hi];exact h1,h2,h3,by rw[dx j hj];exact h4⟩
   ·refine .inr (.inr (.inl ⟨j,R,r,by rw[g?_old hi];exact h1,h2,h3,?_,h5⟩))
    by_cases hj:j=k
    ·subst hj;rcases hD with e|⟨eX,R',e1,e2,_⟩
     ·rw[e];exact h4
     ·rw[h4]at e1;cases e1
    ·rw[dx j hj];exact h4
   ·exact .inr (.inr (.inr h1))
  ·rcases Nat.eq_zero_or_pos k with h0|iV
   ·subst h0;exact .inl (own hi dG)
   ·have hgi:(t++u).g? i=some k:=by simp[Trace.g?,hi,hg op dG]
    rcases hu op dG a hb with⟨R,hR,h1,h2⟩|⟨Pp,h1,h2,h3⟩
    ·rcases hD with e|⟨eX,R',e1,e2,_⟩
     ·exact .inr (.inl ⟨k,R,hgi,iV,hk,by rw[e];exact hR⟩)
     ·exact .inr (.inl ⟨k,R',hgi,iV,hk,e2⟩)
    ·refine .inr (.inr (.inr ⟨h1,?_⟩));cases SG:a.kind with
     |plain=>exact absurd SG h2
     |atomic=>rfl
     |said=>have :=h3 SG;omega
 ·rcases old ha with⟨ni,hi⟩|⟨_,op,dG,hi,hb⟩
  ·rcases h.shp i a ni hs with e|⟨e1,e2⟩
   ·exact .inl e
   ·exact .inr ⟨e1.app u,fun hp j hj tU=>(e2 hp j hj (fun hx=>tU ((hold j).2 hx))).app u⟩
  ·rcases hu op dG a hb with⟨R,hR,h1,h2⟩|⟨Pp,h1,h2,h3⟩
   ·exact absurd hs (wR (L.Cx k R hk (by rw[hR];rfl)) h1)
   ·cases SG:a.kind with
    |plain=>exact absurd SG h2
    |atomic=>exact .inl rfl
    |said=>
     refine .inr ⟨?_,fun hx=>by cases hx⟩;have h0:=h3 SG;subst h0;exact own hi dG
 ·have ahK:=ahr j R r ln
  by_cases OJ:j=k
  ·subst OJ;exact yj R r ahK
  ·exact(h.GJ j R r hj ahK).appOther hg (Ne.symm OJ)
 ·have WR:=(hold j).1 tU;have cN:i<t.size\/t.size<=i:=Nat.lt_or_ge i t.size;rcases cN with cN|CI
  ·exact(h.cnt i j (by rw[<-g?_old (u:=u) cN];exact hi) hj WR ((counts_old cN).1 hc)).app u
  ·exfalso
   obtain⟨x,hx,_⟩:=hc;obtain⟨op,ho,hox⟩:=touch_of hx;have hgi:op.g=j:=by simp only[Trace.g?,ho,cR,ah]at hi;exact hi
   rcases getElem?_append_cases ho with⟨h1,_⟩|⟨_,hou⟩
   ·omega
   ·have OJ:j=k:=hgi.symm.trans (hg op hou);subst OJ;rcases hu op hou x hox with⟨R,hR,_⟩|⟨Pp,_⟩
    ·rw[hR]at WR;cases WR
    ·exact Pp WR
 ·obtain⟨R,hR⟩:=h.main
  by_cases h0:(0:Nat)=k
  ·subst h0;rcases hD with e|⟨_,R',_,e2,_⟩
   ·exact⟨R,by rw[e];exact hR⟩
   ·exact⟨R',e2⟩
  ·exact⟨R,by rw[dx 0 h0];exact hR⟩
end
end Go.AM
namespace Go.AM
open Go Go.Conc
open Go.ConcN (RelBy fork_knows upd upd_same upd_ne)
open Go.ConcR (stA smA)
theorem Bj {R S:Perm}(h:∀b o,R.wr b o->S.wr b o)(ho:∀b,R.ob b->S.ob b){l:Loc}(hw:WA R l):WA S l:=by
 cases l with
 |cell a=>exact⟨hw.1,h _ _ hw.2⟩
 |obj r=>exact ho _ hw
 |_=>exact hw.elim
theorem Bl {R S:Perm}(h:∀b o,R.rd b o->S.rd b o)(ho:∀b,R.ob b->S.ob b){l:Loc}(hw:Sf R l):Sf S l:=by
 cases l with
 |cell a=>exact⟨hw.1,h _ _ hw.2⟩
 |obj r=>exact ho _ hw
 |_=>exact hw.elim
structure jN (R S:Perm):Prop where
 rd:∀b o,R.rd b o->S.rd b o
 wr:∀b o,R.wr b o->S.wr b o
 ob:∀b,R.ob b->S.ob b
section
variable {Wg Ph:Nat}{sh:Nat->Prop}{D:Nat->WS}{size N:Nat}{t:Trace}{k:Nat}{w:aA}
theorem TI.begin(h:TI Wg sh D size N t){R eX:Perm}(hD:D 0= .work R)(hold:∀j,0<j->j<size->D j= .old)(hs:jN eX R)(h0:R.wr Ph 0)(h1:R.wr Ph 1)(jJ:0<size):
  TI Ph (fun b=>sh b\/b=Ph) (upd D 0 (.work eX)) size N t:=by
 have hn:∀j,0<j->upd D 0 (.work eX) j=D j:=fun j hj=>upd_ne D _ av
 refine⟨h.nr,h.gs,h.low,fun j S hj pH i a ha hw=>?_,fun j S hj pH i a ha hw tc=>?_,fun i a ha=>?_,fun i a ha zP=>?_,fun j S r hj ln=>?_,h.norel,fun i j hi hj tU hc=>h.cnt i j hi hj (by rw[<-hn j hj];exact tU) hc,⟨eX,upd_same ..⟩⟩
 ·rcases Nat.eq_zero_or_pos j with rfl|hp
  ·rw[upd_same]at pH;cases pH;exact h.Yj 0 R hj hD i a ha (Bj hs.wr hs.ob hw)
  ·rw[hn j hp,hold j hp hj]at pH;cases pH
 ·rcases Nat.eq_zero_or_pos j with rfl|hp
  ·rw[upd_same]at pH;cases pH;exact h.knR 0 R hj hD i a ha (Bl hs.rd hs.ob hw) tc
  ·rw[hn j hp,hold j hp hj]at pH;cases pH
 ·rcases h.qy i a ha with h2|⟨j,S,_,h3,h4,h5⟩|⟨j,S,r,_,h3,h4,h5,_⟩|h2
  ·exact .inl h2
  ·rw[hold j h3 h4]at h5;cases h5
  ·rw[hold j h3 h4]at h5;cases h5
  ·refine .inr (.inr (.inr ⟨?_,h2.2⟩));have :=h2.1;cases hl:a.loc with
   |cell x=>rw[hl]at this;exact⟨.inl this.1,this.2⟩
   |_=>rw[hl]at this;exact this.elim
 ·have key:Knows t 0 i->a.kind= .atomic\/(Knows t 0 i/\(a.kind= .plain->∀k,k<size->upd D 0 (.work eX) k≠ .old->Knows t k i)):=fun hk=>
   .inr ⟨hk,fun _ j hj tU=>by
    rcases Nat.eq_zero_or_pos j with rfl|hp
    ·exact hk
    ·rw[hn j hp]at tU;exact absurd (hold j hp hj) tU⟩
  cases hl:a.loc with
  |cell x=>
   rw[hl]at zP;obtain⟨h2|h2,h3,h4⟩:=zP
   ·rcases h.shp i a ha (by rw[hl];exact⟨h2,h3,h4⟩)with e|⟨e,_⟩
    ·exact .inl e
    ·exact key e
   ·refine key (h.Yj 0 R jJ hD i a ha ?_);rw[hl];refine⟨h3,?_⟩;rw[h2];rcases(show x.off=0\/x.off=1 by omega)with e|e<;>rw[e]<;>assumption
  |_=>rw[hl]at zP;exact zP.elim
 ·rcases Nat.eq_zero_or_pos j with rfl|hp
  ·rw[upd_same]at ln;cases ln
  ·rw[hn j hp,hold j hp hj]at ln;cases ln
theorem TI.fork(h:TI Wg sh D size N t){R eX Rc:Perm}(hD:D 0= .work R)(h1:jN eX R)(hc:jN Rc R)(jJ:0<size){x y:MemOp}(hx:x.g=0/\x.act= .go size)(hy:y.g=size/\y.act= .start)(h0:Deaf t 0=0)(hk:Deaf t size=0):
  TI Wg sh (upd (upd D 0 (.work eX)) size (.work Rc)) (size+1) N (t++#[x,y]):=by
 have qI:∀op∈ #[x,y],∀b,op.act.touch?=some b->False:=by
  intro op dG b hb;simp only[List.mem_toArray,bC,List.not_mem_nil,or_false]at dG;rcases dG with rfl|rfl
  ·rw[hx.2]at hb;cases hb
  ·rw[hy.2]at hb;cases hb
 have old:∀{i:Nat}{a:Touch},touchAt (t++#[x,y]) i=some a->touchAt t i=some a/\i<t.size:=by
  intro i a ha;obtain⟨z,hz,hza⟩:=touch_of ha;rcases getElem?_append_cases hz with⟨hi,F7⟩|⟨_,hzu⟩
  ·exact⟨by rw[touchAt_of F7];exact hza,hi⟩
  ·exact(qI z hzu a hza).elim
 have hn:∀j,0<j->j<size->upd (upd D 0 (.work eX)) size (.work Rc) j=D j:=fun j h1 h2=>by rw[upd_ne _ _ av,upd_ne _ _ av]
 have hz:upd (upd D 0 (.work eX)) size (.work Rc) 0= .work eX:=by rw[upd_ne _ _ av,upd_same]
 have hq:upd (upd D 0 (.work eX)) size (.work Rc) size= .work Rc:=upd_same ..;have three:∀j,j<size+1->j=0\/(0<j/\j<size)\/j=size:=fun j hj=>by omega
 have kn:∀{i:Nat},Knows t 0 i->Knows (t++#[x,y]) size i:=fun Mt=>fork_knows hx hy h0 hk Mt
 refine⟨fun said=>?_,fun op dG=>?_,fun i a ha=>h.low i a (old ha).1,fun j S hj pH i a ha hw=>?_,fun j S hj pH i a ha hw tc=>?_,fun i a ha=>?_,fun i a ha zP=>?_,fun j S r hj ln=>?_,fun a=>(h.norel a).app fun op dG=>?_,fun i j hi hj tU hcn=>?_,⟨eX,hz⟩⟩
 ·have e:t++#[x,y]=(t++#[x])++#[y]:=by apply Array.ext';simp
  rw[e];refine noRace_append (g:=size) (noRace_append (g:=0) (h.nr said) (fun op dG=>by simp at dG;rw[dG];exact hx.1) (fun i a _ op dG b hb _=>(qI op (by simp at dG⊢;exact .inl dG) b hb).elim))
   (fun op dG=>by simp at dG;rw[dG];exact hy.1) (fun i a _ op dG b hb _=>(qI op (by simp at dG⊢;exact .inr dG) b hb).elim)
 ·rcases Array.mem_append.1 dG with h2|h2
  ·exact Nat.lt_succ_of_lt (h.gs op h2)
  ·simp only[List.mem_toArray,bC,List.not_mem_nil,or_false]at h2;rcases h2 with rfl|rfl
   ·rw[hx.1];omega
   ·rw[hy.1];omega
 ·obtain⟨ni,_⟩:=old ha;rcases three j hj with rfl|⟨g1,g2⟩|rfl
  ·rw[hz]at pH;cases pH;exact(h.Yj 0 R jJ hD i a ni (Bj h1.wr h1.ob hw)).app _
  ·rw[hn j g1 g2]at pH;exact(h.Yj j S g2 pH i a ni hw).app _
  ·rw[hq]at pH;cases pH;exact kn (h.Yj 0 R jJ hD i a ni (Bj hc.wr hc.ob hw))
 ·obtain⟨ni,_⟩:=old ha;rcases three j hj with rfl|⟨g1,g2⟩|rfl
  ·rw[hz]at pH;cases pH;exact(h.knR 0 R jJ hD i a ni (Bl h1.rd h1.ob hw) tc).app _
  ·rw[hn j g1 g2]at pH;exact(h.knR j S g2 pH i a ni hw tc).app _
  ·rw[hq]at pH;cases pH;exact kn (h.knR 0 R jJ hD i a ni (Bl hc.rd hc.ob hw) tc)
 ·obtain⟨ni,hi⟩:=old ha;rcases h.qy i a ni with h2|⟨j,S,h2,h3,h4,h5⟩|⟨j,S,r,h2,h3,h4,h5,h6⟩|h2
  ·exact .inl (h2.app _)
  ·exact .inr (.inl ⟨j,S,by rw[g?_old hi];exact h2,h3,av,by rw[hn j h3 h4];exact h5⟩)
  ·exact .inr (.inr (.inl ⟨j,S,r,by rw[g?_old hi];exact h2,h3,av,by rw[hn j h3 h4];exact h5,h6⟩))
  ·exact .inr (.inr (.inr h2))
 ·obtain⟨ni,hi⟩:=old ha;rcases h.shp i a ni zP with e|⟨e1,e2⟩
  ·exact .inl e
  ·refine .inr ⟨e1.app _,fun hp j hj tU=>?_⟩;rcases three j hj with rfl|⟨g1,g2⟩|rfl
   ·exact e1.app _
   ·exact(e2 hp j g2 (by rw[<-hn j g1 g2];exact tU)).app _
   ·exact kn e1
 ·rcases three j hj with rfl|⟨g1,g2⟩|rfl
  ·rw[hz]at ln;cases ln
  ·rw[hn j g1 g2]at ln;have hb:=h.GJ j S r g2 ln;refine hb.app fun i hi hgi=>?_
   rintro⟨b,gN,_⟩;obtain⟨op,ho,Dw⟩:=touch_of gN;rcases getElem?_append_cases ho with⟨cN,_⟩|⟨_,hou⟩
   ·omega
   ·exact qI op hou b Dw
  ·rw[hq]at ln;cases ln
 ·simp only[List.mem_toArray,bC,List.not_mem_nil,or_false]at dG;rcases dG with rfl|rfl
  ·rw[hx.2];simp
  ·rw[hy.2];simp
 ·have cN:i<t.size:=by
   obtain⟨b,hb,_⟩:=hcn;exact(old hb).2
  have Bp:j<size:=by
   obtain⟨op,ho,hog⟩:=ar.1 (show((t++#[x,y])[i]?).map (·.g)=some j from hi);rw[getElem?_append_old cN]at ho;rw[<-hog];exact h.gs op (mem_of_getElem? ho)
  rw[hn j hj Bp]at tU;exact(h.cnt i j (by rw[<-g?_old (u:=#[x,y]) cN];exact hi) hj tU ((counts_old cN).1 hcn)).app _
theorem TI.Qg(h:TI Wg sh D size N t){R:Perm}(hk:k<size)(iV:0<k)(hD:D k= .work R){r:Nat}(hr:RelBy (stA Wg) t k r)(hl:t.size<=r+1):
  TI Wg sh (upd D k (.rel R r)) size N t:=by
 have hn:∀j,j≠k->upd D k (.rel R r) j=D j:=fun j hj=>upd_ne D _ hj
 have ho:∀j,upd D k (.rel R r) j= .old->D j= .old:=fun j hj=>by
  by_cases e:j=k
  ·subst e;rw[upd_same]at hj;cases hj
  ·rw[hn j e]at hj;exact hj
 refine⟨h.nr,h.gs,h.low,fun j S hj pH i a ha hw=>?_,fun j S hj pH i a ha hw tc=>?_,fun i a ha=>?_,fun i a ha zP=>?_,fun j S r' hj ln=>?_,h.norel,fun i j hi hj tU hc=>h.cnt i j hi hj (ho j tU) hc,?_⟩
 ·by_cases e:j=k
  ·subst e;rw[upd_same]at pH;cases pH
  ·rw[hn j e]at pH;exact h.Yj j S hj pH i a ha hw
 ·by_cases e:j=k
  ·subst e;rw[upd_same]at pH;cases pH
  ·rw[hn j e]at pH;exact h.knR j S hj pH i a ha hw tc
 ·rcases h.qy i a ha with h2|⟨j,S,h2,h3,h4,h5⟩|⟨j,S,r',h2,h3,h4,h5,h6⟩|h2
  ·exact .inl h2
  ·by_cases e:j=k
   ·subst e;refine .inr (.inr (.inl ⟨j,R,r,h2,h3,h4,upd_same ..,?_⟩));obtain⟨op,dG,_⟩:=touch_of ha;have :=lt_size_of_getElem? dG;omega
   ·exact .inr (.inl ⟨j,S,h2,h3,h4,by rw[hn j e];exact h5⟩)
  ·have e:j≠k:=by rintro rfl;rw[hD]at h5;cases h5
   exact .inr (.inr (.inl ⟨j,S,r',h2,h3,h4,by rw[hn j e];exact h5,h6⟩))
  ·exact .inr (.inr (.inr h2))
 ·rcases h.shp i a ha zP with e|⟨e1,e2⟩
  ·exact .inl e
  ·refine .inr ⟨e1,fun hp j hj tU=>e2 hp j hj fun hx=>?_⟩
   by_cases e:j=k
   ·subst e;rw[hD]at hx;cases hx
   ·exact tU (by rw[hn j e];exact hx)
 ·by_cases e:j=k
  ·subst e;rw[upd_same]at ln;cases ln;exact hr
  ·rw[hn j e]at ln;exact h.GJ j S r' hj ln
 ·obtain⟨S,hS⟩:=h.main;exact⟨S,by rw[hn 0 av];exact hS⟩
theorem TI.T2(h:TI Wg sh D size N t)(jJ:0<size)(uz:∀j,0<j->j<size->(∃R r,D j= .rel R r)\/D j= .old){x:MemOp}(hx:x.g=0/\x.act= .mark (.acquire (stA Wg)))(h0:Deaf t 0=0)
  {R':Perm}(ahq:∀b o,R'.rd b o->sh b->¬o<=1)(tc:∀b o,R'.wr b o->R'.rd b o):TI Wg sh (fun j=>if j=0 then .work R' else .old) size N (t++#[x]):=by
 have qI:∀op∈ #[x],∀b,op.act.touch?=some b->False:=by
  intro op dG b hb;simp only[List.mem_toArray,bC,List.not_mem_nil,or_false]at dG;subst dG;rw[hx.2]at hb;cases hb
 have old:∀{i:Nat}{a:Touch},touchAt (t++#[x]) i=some a->touchAt t i=some a/\i<t.size:=by
  intro i a ha;obtain⟨z,hz,hza⟩:=touch_of ha;rcases getElem?_append_cases hz with⟨hi,F7⟩|⟨_,hzu⟩
  ·exact⟨by rw[touchAt_of F7];exact hza,hi⟩
  ·exact(qI z hzu a hza).elim
 have Mq:(t++#[x])[t.size]?=some x:=cK;have yh:∀op∈ #[x],op.g=0:=by intro op dG;simp at dG;rw[dG];exact hx.1
 have aic:∀j R r,0<j->j<size->D j= .rel R r->∀i,t.g? i=some j->i<=r->Knows (t++#[x]) 0 i:=by
  intro j R r hj Bp ln i hi hir;have hr:RelBy (stA Wg) (t++#[x]) j r:=(h.GJ j R r Bp ln).appOther yh av;have Du:r<t.size:=lt_of_act? (h.GJ j R r Bp ln).act;have hq:(t++#[x]).act? t.size=some (.mark (.acquire (stA Wg))):=by rw[act?_of Mq,hx.2]
  have hh:(t++#[x]).heard t.size:=⟨0,by simp[Trace.g?,hx.1],by rw[deaf_old (ai _)];exact h0⟩;have hn:NoRelease (stA Wg) (t++#[x]):=(h.norel _).app fun op dG=>by simp at dG;rw[dG,hx.2];simp
  have e:HappensBefore (t++#[x]) r t.size:= .single (.inr ⟨.marked Du (.inr hr.act) hq (fun k _ _=>hn k),hr.heard,hh⟩);refine⟨t.size,x,Mq,hx.1,.inr ?_⟩;rcases Nat.lt_or_ge i r with cN|CI
  ·exact .trans (.single (.inl ⟨cN,j,by rw[g?_old av];exact hi,hr.g⟩)) e
  ·obtain rfl:i=r:=av;exact e
 have S9:∀i a,touchAt (t++#[x]) i=some a->Knows (t++#[x]) 0 i\/(shl sh a.loc/\a.kind= .atomic):=by
  intro i a ha;obtain⟨ni,hi⟩:=old ha;rcases h.qy i a ni with h2|⟨j,S,h2,h3,h4,h5⟩|⟨j,S,r',h2,h3,h4,h5,h6⟩|h2
  ·exact .inl (h2.app _)
  ·rcases uz j h3 h4 with⟨_,_,e⟩|e<;>rw[h5]at e<;>cases e
  ·exact .inl (aic j S r' h3 h4 h5 i h2 h6)
  ·exact .inr h2
 have D0:∀j S,(if j=0 then WS.work R' else .old)= .work S->j=0/\S=R':=by
  intro j S hj
  split at hj
  ·rename_i e;cases hj;exact⟨e,rfl⟩
  ·cases hj
 refine⟨fun said=>noRace_append (h.nr said) yh fun i a _ op dG b hb _=>(qI op dG b hb).elim,fun op dG=>?_,fun i a ha=>h.low i a (old ha).1,fun j S hj pH i a ha hw=>?_,fun j S hj pH i a ha hw abl=>?_,fun i a ha=>(S9 i a ha).imp id fun e=> .inr (.inr e),fun i a ha zP=>?_,fun j S r hj ln=>?_,
  fun a=>(h.norel a).app fun op dG=>(by simp at dG;rw[dG,hx.2];simp),fun i j hi hj tU hc=>?_,⟨R',rfl⟩⟩
 ·rcases Array.mem_append.1 dG with h2|h2
  ·exact h.gs op h2
  ·rw[yh op h2];exact jJ
 ·obtain⟨rfl,rfl⟩:=D0 j S pH;exact(S9 i a ha).resolve_right fun e=>wR ahq (Me tc hw) e.1
 ·obtain⟨rfl,rfl⟩:=D0 j S pH;exact(S9 i a ha).resolve_right fun e=>wR ahq hw e.1
 ·rcases h.shp i a (old ha).1 zP with e|⟨e1,_⟩
  ·exact .inl e
  ·refine .inr ⟨e1.app _,fun _ j hj tU=>?_⟩
   replace tU:¬(if j=0 then WS.work R' else .old)= .old:=tU
   split at tU
   ·rename_i e;subst e;exact e1.app _
   ·exact absurd rfl tU
 ·replace ln:(if j=0 then WS.work R' else .old)= .rel S r:=ln
  split at ln<;>cases ln
 ·have cN:i<t.size:=by
   obtain⟨b,hb,_⟩:=hc;exact(old hb).2
  have HR:t.g? i=some j:=by rw[<-g?_old (u:=#[x]) cN];exact hi
  have Bp:j<size:=by
   obtain⟨op,ho,hog⟩:=ar.1 (show(t[i]?).map (·.g)=some j from HR);rw[<-hog];exact h.gs op (mem_of_getElem? ho)
  rcases uz j hj Bp with⟨R,r,e⟩|e
  ·refine aic j R r hj Bp e i HR (Nat.le_of_not_lt fun ahH=>?_);exact(h.GJ j R r Bp e).after i ahH HR ((counts_old cN).1 hc)
  ·exact(h.cnt i j HR hj e ((counts_old cN).1 hc)).app _
theorem TI.over(h:TI Wg sh D size N t)(uz:∀j,0<j->j<size->D j= .old):t.HandedOver:=by
 intro i g hg dx hc;have hgs:g<size:=by
  obtain⟨op,ho,hog⟩:=ar.1 (show(t[i]?).map (·.g)=some g from hg);rw[<-hog];exact h.gs op (mem_of_getElem? ho)
 obtain⟨q,z,h1,h2,h3⟩:=h.cnt i g hg av (uz g av hgs) hc;refine⟨q,by simp[Trace.g?,h1,h2],?_⟩;rcases h3 with rfl|h3
 ·exfalso
  have :some g=some z.g:=by rw[<-hg];simp[Trace.g?,h1]
  rw[h2]at this;cases this;exact dx rfl
 ·exact h3
end
end Go.AM
namespace Go.AM
open Go Go.Conc
open Go.ConcR (stA smA KK rd wr mk)
structure rA (Wg:Nat)(w:aA)(st sm:Int):Prop where
 st:w.cell? ⟨Wg,0,none⟩=some (.int .u64 st)
 sm:w.cell? ⟨Wg,1,none⟩=some (.int .u32 sm)
 fz:∀o,o<=1->w.frozen? ⟨Wg,o,none⟩=false
def Ef (Wg:Nat)(w:aA):Prop:=∃st sm,rA Wg w st sm
def M9 (σ:nq)(w:aA):Prop:=
 match σ with
 | .fS g=>Ef g.Wg w
 |_=>True
def setSt (Wg:Nat)(x:Int)(w:aA):aA:=w.setCell (stA Wg) (.int .u64 x)
def setSm (Wg:Nat)(x:Int)(w:aA):aA:=w.setCell (smA Wg) (.int .u32 x)
def VM:Nat:=4
inductive DSt where
 |k1|d1|d2|d3|d4
section
variable (P:aE)(Wg:Nat)
inductive DStep (J:DSt->au->Prop)(n:Nat):DSt->au->aA->Prop
 |quiet {s:DSt}{g g':au}{w:aA}:stepG P false g w= .go g' w #[]->J s g'->DStep J n s g w
 |k1 {g g':au}{w:aA}:stepG P false g w= .go g' w #[mk .disable]->J .d1 g'->DStep J n .k1 g w
 |d1 {g:au}{w:aA}:(∀v wt:Nat,wt<=1->v<VM->rA Wg w (((v:Int)+1)*KK+wt) 0->
   ∃g',stepG P false g w= .go g' (setSt Wg ((v:Int)*KK+wt) w) #[rd (stA Wg),wr (stA Wg)]/\((v=0/\wt=1)->J .d2 g')/\(¬(v=0/\wt=1)->QuitsD P n 1 g'))->DStep J n .d1 g w
 |d2 {g:au}{w:aA}:(rA Wg w 1 0->∃g',stepG P false g w= .go g' w #[rd (stA Wg)]/\J .d3 g')->DStep J n .d2 g w
 |d3 {g:au}{w:aA}:(rA Wg w 1 0->∃g',stepG P false g w= .go g' (setSt Wg 0 w) #[wr (stA Wg)]/\J .d4 g')->DStep J n .d3 g w
 |d4 {g:au}{w:aA}:mayWake P g=true->(rA Wg w 0 0->∃g',stepG P false g w= .go g' (setSm Wg 1 w) (semEvents (smA Wg))/\QuitsD P n 1 g')->DStep J n .d4 g w
def JD:Nat->DSt->au->Prop
 |0,_,_=>False
 |n+1,s,g=>g.status= .running/\∀w,Ef Wg w->DStep P Wg (JD n) n s g w
variable (p:dA)
inductive MY (J:Perm->au->aA->Prop)(n:Nat)(R:Perm)(g:au)(w:aA):Prop
 |own {R':Perm}{g':au}{w':aA}{es:Array Event}:Stepped P false R g w R' g' w' es->J R' g' w'->MY J n R g w
 |rel {g':au}:R.deaf=0->p.ok R w->stepG P false g w= .go g' w #[mk (.releaseMerge (stA Wg))]->JD P Wg n .k1 g'->MY J n R g w
def JW:Nat->Perm->au->aA->Prop
 |0,_,_,_=>False
 |n+1,R,g,w=>JW n R g w\/(g.status= .running/\∀aR,bD R w aR->Ef Wg aR->MY P Wg p (JW n) n R g aR)
end
def FW (p:dA):Prop:=∀R w aR,p.ok R w->bD R w aR->p.ok R aR
section
variable (P:aE)(Fin:af->aA->Prop)
inductive rm (J:nq->Perm->au->aA->Prop):nq->Perm->au->aA->Prop
 |own {σ:nq}{R R':Perm}{g g':au}{w w':aA}{es:Array Event}:g.status= .running->Stepped P true R g w R' g' w' es->J σ R' g' w'->rm J σ R g w
 |ends {R:Perm}{g:au}{w w':aA}{v:af}{es:Array Event}:g.status= .running->stepG P true g w= .ended (.done v) w' es->(∀e∈es,nL R e)->R.deaf=0->Fin v w'->rm J .idle R g w
 |vC {R eX:Perm}{g:au}{w:aA}{Wg:Nat}:jN eX R->(∀b o,eX.wr b o->eX.rd b o)->eX.deaf=R.deaf->R.wr Wg 0->R.wr Wg 1->rA Wg w 0 0->(∀o,o<=1->¬eX.rd Wg o)->J (.fS ⟨Wg,[],.opn 0⟩) eX g w->rm J .idle R g w
 |add {Wg V:Nat}{ps:List dA}{R:Perm}{g:au}{w:aA}:g.status= .running->V<VM->
   (∀v:Nat,v<=V->rA Wg w ((v:Int)*KK) 0->∃g',stepG P true g w= .go g' (setSt Wg (((v:Int)+1)*KK) w) #[rd (stA Wg),wr (stA Wg)]/\J (.fS ⟨Wg,ps,.added V⟩) R g' w)->rm J (.fS ⟨Wg,ps,.opn V⟩) R g w
 |said {Wg:Nat}{ps:List dA}{s:Sub}{R:Perm}{g g':au}{w:aA}{es:Array Event}:g.status= .running->stepG P true g w= .go g' w es->(∀e∈es,e=mk (.read (smA Wg))\/e=mk (.write (smA Wg)))->
   J (.fS ⟨Wg,ps,s⟩) R g' w->rm J (.fS ⟨Wg,ps,s⟩) R g w
 |spawn {Wg V kc:Nat}{ps:List dA}{p:dA}{R eX Rc:Perm}{g g' child:au}{w:aA}:g.status= .running->R.deaf=0->stepG P true g w= .spawn g' child w #[]->
   jN eX R->jN Rc R->(∀b o,eX.wr b o->eX.rd b o)->(∀b o,Rc.wr b o->Rc.rd b o)->eX.deaf=0->Rc.deaf=0->mm eX Rc->mm Rc eX->FW p->JW P Wg p kc Rc child w->
   J (.fS ⟨Wg,p::ps,.opn (V+1)⟩) eX g' w->rm J (.fS ⟨Wg,ps,.added V⟩) R g w
 |load {Wg V:Nat}{ps:List dA}{R:Perm}{g:au}{w:aA}:g.status= .running->
   (∀v:Nat,v<=V->rA Wg w ((v:Int)*KK) 0->∃g',stepG P true g w= .go g' w #[rd (stA Wg)]/\(v=0->J (.fS ⟨Wg,ps,.fin⟩) R g' w)/\(v≠0->J (.fS ⟨Wg,ps,.seen v⟩) R g' w))->rm J (.fS ⟨Wg,ps,.opn V⟩) R g w
 |cas {Wg vs:Nat}{ps:List dA}{R:Perm}{g:au}{w:aA}:g.status= .running->
   (∀v:Nat,v<=vs->rA Wg w ((v:Int)*KK) 0->(v=vs->∃g',stepG P true g w= .go g' (setSt Wg ((v:Int)*KK+1) w) #[rd (stA Wg),wr (stA Wg)]/\J (.fS ⟨Wg,ps,.reg⟩) R g' w)/\
    (v≠vs->∃g',stepG P true g w= .go g' w #[rd (stA Wg)]/\J (.fS ⟨Wg,ps,.opn (vs-1)⟩) R g' w))->rm J (.fS ⟨Wg,ps,.seen vs⟩) R g w
 |sem {Wg:Nat}{ps:List dA}{R:Perm}{g:au}{w:aA}:g.status= .running->g.offers=none->(∀st,rA Wg w st 0->stepG P true g w= .go {g with status:= .blocked} w #[])->
   (rA Wg w 0 1->∃g',stepG P true g w= .go g' (setSm Wg 0 w) (semEvents (smA Wg))/\J (.fS ⟨Wg,ps,.S6⟩) R g' w)->rm J (.fS ⟨Wg,ps,.reg⟩) R g w
 |last {Wg:Nat}{ps:List dA}{R:Perm}{g:au}{w:aA}:g.status= .running->(rA Wg w 0 0->∃g',stepG P true g w= .go g' w #[rd (stA Wg)]/\J (.fS ⟨Wg,ps,.fin⟩) R g' w)->rm J (.fS ⟨Wg,ps,.S6⟩) R g w
 |acq {Wg:Nat}{ps:List dA}{R:Perm}{g g':au}{w:aA}:g.status= .running->R.deaf=0->stepG P true g w= .go g' w #[mk (.acquire (stA Wg))]->
   (∀Rs:List Perm,bM (fun p S=>p.ok S w/\vN S w/\mm R S/\mm S R) ps Rs->Rs.Pairwise (fun S T=>mm S T/\mm T S)->
    ∃R',R'.deaf=0/\(∀b o,R'.wr b o->R'.rd b o)/\(∀b o,R'.rd b o->R.rd b o\/∃S∈Rs,S.rd b o)/\(∀b,R'.ob b->R.ob b\/∃S∈Rs,S.ob b)/\J .idle R' g' w)->rm J (.fS ⟨Wg,ps,.fin⟩) R g w
def JM:nq->Nat->Perm->au->aA->Prop
 |_,0,_,_,_=>False
 |σ,n+1,R,g,w=>JM σ n R g w\/∀aR,bD R w aR->M9 σ aR->rm P Fin (fun gJ R' g' w'=>JM gJ n R' g' w') σ R g aR
end
section
variable {P:aE}{Fin:af->aA->Prop}{Wg:Nat}{p:dA}
theorem qU:gp P false (fun n R g w=>JW P Wg p n R g w):=
 ⟨fun h=> .inl h,fun hr h=> .inr ⟨hr,fun aR hk _=>let⟨g',w',es,R',h1,h2⟩:=h aR hk; .own h1 h2⟩⟩
theorem iQ:∀σ,gp P true (JM P Fin σ):=fun σ=>
 ⟨fun h=> .inl h,fun hr h=> .inr fun aR hk _=>let⟨g',w',es,R',h1,h2⟩:=h aR hk; .own hr h1 h2⟩
theorem JW.keeps:∀{n:Nat}{R:Perm}{g:au}{w aR:aA},JW P Wg p n R g w->bD R w aR->JW P Wg p n R g aR
 |0,_,_,_,_,h,_=>h
 |n+1,R,g,w,aR,h,k=>h.imp (fun x=>x.keeps k) fun x=>⟨x.1,fun iL k₂=>x.2 iL (k.trans k₂)⟩
theorem JM.keeps:∀{n:Nat}{σ:nq}{R:Perm}{g:au}{w aR:aA},JM P Fin σ n R g w->bD R w aR->JM P Fin σ n R g aR
 |0,_,_,_,_,_,h,_=>h
 |n+1,σ,R,g,w,aR,h,k=>h.imp (fun x=>x.keeps k) fun x iL k₂=>x iL (k.trans k₂)
theorem JW.out:∀{n:Nat}{R:Perm}{g:au}{w:aA},JW P Wg p n R g w->∃m,m<n/\g.status= .running/\(Ef Wg w->MY P Wg p (JW P Wg p m) m R g w)
 |0,_,_,_,h=>h.elim
 |n+1,R,g,w,h=>h.elim (fun x=>let⟨m,h1,h2⟩:=JW.out x;⟨m,av,h2⟩) fun x=>⟨n,av,x.1,x.2 w (bD.refl _ _)⟩
theorem JM.out:∀{n:Nat}{σ:nq}{R:Perm}{g:au}{w:aA},JM P Fin σ n R g w->∃m,m<n/\(M9 σ w->rm P Fin (fun gJ R' g' w'=>JM P Fin gJ m R' g' w') σ R g w)
 |0,_,_,_,_,h=>h.elim
 |n+1,σ,R,g,w,h=>h.elim (fun x=>let⟨m,h1,h2⟩:=JM.out x;⟨m,av,h2⟩) fun x=>⟨n,av,x w (bD.refl _ _)⟩
theorem JM.le{n m:Nat}{σ:nq}{R:Perm}{g:au}{w:aA}(h:JM P Fin σ n R g w)(hn:n<=m):JM P Fin σ m R g w:=(iQ σ).le hn h
theorem JD.mono:∀{n:Nat}{s:DSt}{g:au},JD P Wg n s g->g.status= .running
 |0,_,_,h=>h.elim
 |_+1,_,_,h=>h.1
end
end Go.AM
namespace Go.AM
open Go Go.Conc
open Go.ConcN (RelBy upd upd_same upd_ne)
open Go.ConcR (stA smA KK rd wr mk)
theorem tk (w:aA)(a:Addr)(v:af)(b o:Nat):(w.setCell a v).frozen? ⟨b,o,none⟩=w.frozen? ⟨b,o,none⟩:=by
 unfold aA.frozen? aA.setCell;simp only[Array.getElem?_modify]
 by_cases h:a.block=b
 ·subst h;cases hb:w.heap[a.block]? with
  |none=>simp
  |some x=>cases x with
   |cells c e f=>simp
   |_=>simp
 ·simp[h]
theorem size_setCell (w:aA)(a:Addr)(v:af):(w.setCell a v).heap.size=w.heap.size:=by simp[aA.setCell]
theorem heap_setCell (w:aA)(a:Addr)(v:af)(b:Nat)(h:a.block≠b):(w.setCell a v).heap[b]?=w.heap[b]?:=by
 unfold aA.setCell;simp only[Array.getElem?_modify,h,if_false]
theorem Cy {w:aA}{b o:Nat}{v:af}(h:w.cell? ⟨b,o,none⟩=some v):w.shape? b≠none:=by
 unfold aA.cell? at h;unfold aA.shape?;cases hb:w.heap[b]? with
 |none=>simp[hb]at h
 |some x=>cases x<;>simp_all
section
variable {Wg:Nat}{w w':aA}{st sm x:Int}{R S:Perm}
theorem rA.setSt(h:rA Wg w st sm)(x:Int):rA Wg (setSt Wg x w) x sm:=by
 refine⟨?_,?_,fun o ho=>(tk ..).trans (h.fz o ho)⟩
 ·show(w.setCell (stA Wg) _).cell? _=_
  rw[iy _ _ _ _ _ rfl];simp[stA,h.st]
 ·show(w.setCell (stA Wg) _).cell? _=_
  rw[iy _ _ _ _ _ rfl];simp[stA,h.sm]
theorem rA.setSm(h:rA Wg w st sm)(x:Int):rA Wg (setSm Wg x w) st x:=by
 refine⟨?_,?_,fun o ho=>(tk ..).trans (h.fz o ho)⟩
 ·show(w.setCell (smA Wg) _).cell? _=_
  rw[iy _ _ _ _ _ rfl];simp[smA,h.st]
 ·show(w.setCell (smA Wg) _).cell? _=_
  rw[iy _ _ _ _ _ rfl];simp[smA,h.sm]
theorem rA.at(h:rA Wg w st sm)(d:Nat):rA Wg (w.at d) st sm:=⟨h.st,h.sm,h.fz⟩
theorem uJ {o:Nat}{v u:af}(hl:vN R w)(hs:¬R.rd Wg o)(hc:w.cell? ⟨Wg,o,none⟩=some u):bD R w (w.setCell ⟨Wg,o,none⟩ v):=by
 refine⟨rfl,rfl,rfl,by rw[size_setCell];exact ai _,fun b _=>qj ..,fun b x hr=>?_,fun b x _=>ox ..,fun b hb=>heap_setCell _ _ _ _ fun e=>?_⟩
 ·rw[iy _ _ _ _ _ rfl]
  split
  ·rename_i h;obtain⟨rfl,rfl,_⟩:=h;exact absurd hr hs
  ·rfl
 ·simp only at e;subst e;exact Cy hc (hl.ob _ hb).2
theorem pW (hl:vN R w)(hs:∀o,o<=1->¬R.rd Wg o)(h:rA Wg w st sm):bD R w (setSt Wg x w):=uJ hl (hs 0 av) h.st
theorem zf (hl:vN R w)(hs:∀o,o<=1->¬R.rd Wg o)(h:rA Wg w st sm):bD R w (setSm Wg x w):=uJ hl (hs 1 av) h.sm
theorem rA.MQ(h:rA Wg w st sm)(c:sG R w.heap.size w w')(hW:Wg<w.heap.size)(hs:∀o,o<=1->¬R.wr Wg o):rA Wg w' st sm:=
 ⟨(c.cell Wg 0 hW (hs 0 av)).trans h.st,(c.cell Wg 1 hW (hs 1 av)).trans h.sm,fun o ho=>(tj (c.qA Wg o hW)).trans (h.fz o ho)⟩
theorem Dr (c:sG R w.heap.size w w')(hd:mm R S)(hl:vN S w):bD S w w':=
 ⟨c.tape,c.os,c.output,c.size,fun b hb=>c.shape b hb,fun b o hr=>c.cell b o (hl.rd b o hr) fun hw=>hd.cell b o hw hr,fun b o hb=>c.qA b o hb,
  fun b hb=>c.obj b (hl.ob b hb).1 (fun hr=>hd.obj b hr hb) (hl.ob b hb).2⟩
end
section
variable {sh:Nat->Prop}{D:Nat->WS}{size k Wg:Nat}{w w':aA}{R R':Perm}
theorem Lay.own(L:Lay sh D size w)(hk:k<size)(hD:D k= .work R)(pI:eS R R' w.heap.size)(hl:vN R' w')(hs:w.heap.size<=w'.heap.size)
  (gL:∀j S,j≠k->j<size->(D j).ey=some S->bD S w w'):Lay sh (upd D k (.work R')) size w':=by
 have hp:(D k).ey=some R:=by rw[hD];rfl
 have B3:∀j S,(upd D k (.work R') j).ey=some S->(j=k/\S=R')\/(j≠k/\(D j).ey=some S):=by
  intro j S h
  by_cases e:j=k
  ·subst e;rw[upd_same]at h;exact .inl ⟨rfl,(Option.some.inj h).symm⟩
  ·rw[upd_ne _ _ e]at h;exact .inr ⟨e,h⟩
 have Bo:=L.low k R hk hp;have dl:∀j S,j≠k->j<size->(D j).ey=some S->mm R' S:=by
  intro j S hj Bp hS;have d:=L.Gb k j R S (Ne.symm hj) hk Bp hp hS;have l:=L.low j S Bp hS;exact⟨fun b o h1 h2=>(pI.wr b o h1).elim (fun x=>d.cell b o x h2) fun x=>absurd (l.rd b o h2) av,fun b h1 h2=>(pI.ob b h1).elim (fun x=>d.obj b x h2) fun x=>absurd (l.ob b h2).1 av⟩
 have dr:∀j S,j≠k->j<size->(D j).ey=some S->mm S R':=by
  intro j S hj Bp hS;have d:=L.Gb j k S R hj Bp hk hS hp;have l:=L.low j S Bp hS;exact⟨fun b o h1 h2=>(pI.rd b o h2).elim (fun x=>d.cell b o h1 x) fun x=>absurd (l.rd b o (l.wr b o h1)) av,fun b h1 h2=>(pI.ob b h2).elim (fun x=>d.obj b h1 x) fun x=>absurd (l.ob b h1).1 av⟩
 refine⟨fun j S hj hS=>?_,fun i j S T vl hi hj hS hT=>?_,fun j S hj hS b o hr hb=>?_,fun b hb=>bq (L.sh b hb) hs⟩
 ·rcases B3 j S hS with⟨rfl,rfl⟩|⟨e,h⟩
  ·exact hl
  ·exact(L.low j S hj h).keeps (gL j S e hj h)
 ·rcases B3 i S hS with⟨rfl,rfl⟩|⟨e,h⟩
  ·rcases B3 j T hT with⟨rfl,rfl⟩|⟨e',h'⟩
   ·exact absurd rfl vl
   ·exact dl j T e' hj h'
  ·rcases B3 j T hT with⟨rfl,rfl⟩|⟨e',h'⟩
   ·exact dr i S e hi h
   ·exact L.Gb i j S T vl hi hj h h'
 ·rcases B3 j S hS with⟨rfl,rfl⟩|⟨e,h⟩
  ·exact(pI.rd b o hr).elim (fun x=>L.Cx j R hk hp b o x hb) fun x=>absurd (L.sh b hb) av
  ·exact L.Cx j S hj h b o hr hb
theorem Lay.Zn(L:Lay sh D size w)(hs:w.heap.size<=w'.heap.size)(gL:∀j S,j<size->(D j).ey=some S->bD S w w'):Lay sh D size w':=
 ⟨fun j S hj hS=>(L.low j S hj hS).keeps (gL j S hj hS),L.Gb,L.Cx,fun b hb=>bq (L.sh b hb) hs⟩
theorem Lay.same{D':Nat->WS}(L:Lay sh D size w)(h:∀j,j<size->(D' j).ey=(D j).ey\/(D' j).ey=none):Lay sh D' size w:=by
 have key:∀j S,j<size->(D' j).ey=some S->(D j).ey=some S:=fun j S hj hS=>by
  rcases h j hj with e|e
  ·rw[<-e];exact hS
  ·rw[e]at hS;cases hS
 exact⟨fun j S hj hS=>L.low j S hj (key j S hj hS),fun i j S T vl hi hj hS hT=>L.Gb i j S T vl hi hj (key i S hi hS) (key j T hj hT),fun j S hj hS=>L.Cx j S hj (key j S hj hS),L.sh⟩
end
end Go.AM
namespace Go.AM
open Go Go.Conc
open Go.ConcN (RelBy upd upd_same upd_ne sumTo sumTo_upd sumTo_congr le_sumTo)
open Go.ConcR (stA smA KK rd wr mk)
theorem qX {R:Perm}{e:Event}{b:Touch}(hl:∀b o,R.wr b o->R.rd b o)(h:EvW R e)(hb:(MemAct.ofEvent e).touch?=some b):Sf R b.loc/\(b.write=true->WA R b.loc):=by
 obtain⟨loc,Ej,sy⟩:=e;rcases h with h|h|h
 ·cases loc with
  |cell a=>
   rw[ofEvent_cell0]at hb;simp only[MemAct.touch?,ah]at hb;subst hb;obtain⟨h1,h2⟩:=h;refine⟨⟨h1,?_⟩,fun hw=>⟨h1,?_⟩⟩
   ·by_cases hw:Ej=true
    ·simp only[hw,if_true]at h2;exact hl _ _ h2
    ·simp only[hw,if_false]at h2;exact h2
   ·simp only at hw;simp only[hw,if_true]at h2;exact h2
  |obj r=>
   obtain⟨h1,h2⟩:=h;simp only at h2;subst h2;cases Ej<;>simp[MemAct.ofEvent,MemAct.touch?]at hb<;>subst hb<;>exact⟨h1,fun _=>h1⟩
  |mark m=>
   have hm:E2 m:=h;cases m<;>simp_all [MemAct.ofEvent,MemAct.touch?,E2]
  |_=>exact h.elim
 ·simp only at h;subst h;simp[MemAct.ofEvent,MemAct.touch?]at hb
 ·simp only at h;subst h;simp[MemAct.ofEvent,MemAct.touch?]at hb
theorem BI {R:Perm}{e:Event}(h:EvW R e)(a:Addr):MemAct.ofEvent e≠ .mark (.release a):=by
 intro hx;have hl:=Go.ConcR.loc_of_ofEvent hx;rcases h with h|h|h
 ·unfold nL at h;rw[hl]at h;exact h
 ·rw[h]at hl;cases hl
 ·rw[h]at hl;cases hl
theorem Fj {R:Perm}{w:aA}(h:vN R w){l:Loc}(hl:Sf R l):l.low w.heap.size:=by
 cases l with
 |cell a=>exact h.rd _ _ hl.2
 |obj r=>exact(h.ob _ hl).1
 |_=>trivial
def Vc (size:Nat)(S:Nat->Nat):Nat:=sumTo size fun i=>if 5<=S i then 1 else 0
def OpenSt (lo size:Nat)(S:Nat->Nat):Prop:=∀i,lo<=i->i<size->S i=7\/S i=6\/S i=5\/S i=1
def AllQuit (lo size:Nat)(S:Nat->Nat):Prop:=∀i,lo<=i->i<size->S i=1
inductive Mode (lo size:Nat)(S:Nat->Nat):Sub->Bool->Int->Int->Prop
 |opn {V:Nat}:OpenSt lo size S->Vc size S<=V->V<=VM->Mode lo size S (.opn V) false ((Vc size S:Nat)*KK) 0
 |added {V:Nat}:OpenSt lo size S->Vc size S<=V->V<VM->Mode lo size S (.added V) false (((Vc size S:Nat)+1)*KK) 0
 |seen {vs:Nat}:OpenSt lo size S->Vc size S<=vs->1<=vs->vs<=VM->Mode lo size S (.seen vs) false ((Vc size S:Nat)*KK) 0
 |reg {b:Bool}:OpenSt lo size S->1<=Vc size S->Vc size S<=VM->Mode lo size S .reg b ((Vc size S:Nat)*KK+1) 0
 |last {b:Bool} (L:Nat):lo<=L->L<size->S L=4\/S L=3\/S L=2->(∀i,lo<=i->i<size->i≠L->S i=1)->Mode lo size S .reg b (if S L=2 then 0 else 1) 0
 |sema:AllQuit lo size S->Mode lo size S .reg false 0 1
 |S6:AllQuit lo size S->Mode lo size S .S6 false 0 0
 |fin:AllQuit lo size S->Mode lo size S .fin false 0 0
section
variable {lo size:Nat}{S:Nat->Nat}{s:Sub}{b:Bool}{st sm:Int}
theorem I0 (S:Nat->Nat){i x:Nat}(hi:i<size):Vc size (upd S i x)+(if 5<=S i then 1 else 0)=Vc size S+(if 5<=x then 1 else 0):=
 sumTo_upd S x (fun y=>if 5<=y then 1 else 0) hi
theorem I1 (S:Nat->Nat){i:Nat}(hi:i<size)(h:5<=S i):1<=Vc size S:=by
 have :=le_sumTo (f:=fun i=>if 5<=S i then 1 else 0) hi;simp only[h,if_true]at this;exact this
theorem Zj (S:Nat->Nat){i j:Nat}(hi:i<size)(hj:j<size)(vl:j≠i)(h:5<=S i)(h':5<=S j):2<=Vc size S:=by
 have h1:=I0 S (x:=0) hi;have h2:=I1 (upd S i 0) hj (by rw[upd_ne _ _ vl];exact h');simp only[h,if_true]at h1;simp at h1;omega
theorem UB (h:Vc size S=0){i:Nat}(hi:i<size):¬5<=S i:=fun h5=>by have :=I1 S hi h5;omega
theorem Mode.As(h:Mode lo size S s b st sm)(b':Bool)(hb:b'=b\/b'=false):Mode lo size S s b' st sm:=by
 rcases hb with rfl|rfl
 ·exact h
 ·cases h with
  |opn h1 h2 h3=>exact .opn h1 h2 h3
  |added h1 h2 h3=>exact .added h1 h2 h3
  |seen h1 h2 h3 h4=>exact .seen h1 h2 h3 h4
  |reg h1 h2 h3=>exact .reg h1 h2 h3
  |last L h1 h2 h3 h4=>exact .last L h1 h2 h3 h4
  |sema h1=>exact .sema h1
  |S6 h1=>exact .S6 h1
  |fin h1=>exact .fin h1
theorem Mode.ah7(h:Mode lo size S s b st sm){i x:Nat}(l7:lo<=i)(hi:i<size)(h5:5<=S i)(hx:x=7\/x=6\/x=5):Mode lo size (upd S i x) s b st sm:=by
 have hv:Vc size (upd S i x)=Vc size S:=by
  have :=I0 S (x:=x) hi;simp only[h5,if_true,show 5<=x by omega]at this;omega
 have ho:OpenSt lo size S->OpenSt lo size (upd S i x):=fun h a h1 h2=>by
  by_cases e:a=i
  ·subst e;rw[upd_same];omega
  ·rw[upd_ne _ _ e];exact h a h1 h2
 cases h with
 |opn h1 h2 h3=>rw[<-hv]at h2⊢;exact .opn (ho h1) h2 h3
 |added h1 h2 h3=>rw[<-hv]at h2⊢;exact .added (ho h1) h2 h3
 |seen h1 h2 h3 h4=>rw[<-hv]at h2⊢;exact .seen (ho h1) h2 h3 h4
 |reg h1 h2 h3=>rw[<-hv]at h2 h3⊢;exact .reg (ho h1) h2 h3
 |last L h1 h2 h3 h4=>
  by_cases e:i=L
  ·subst e;omega
  ·have :=h4 i l7 hi e;omega
 |sema h1=>have :=h1 i l7 hi;omega
 |S6 h1=>have :=h1 i l7 hi;omega
 |fin h1=>have :=h1 i l7 hi;omega
theorem Mode.isLast(h:Mode lo size S s b st sm){i:Nat}(l7:lo<=i)(hi:i<size)(hs:S i=4\/S i=3\/S i=2):
  s= .reg/\(∀a,lo<=a->a<size->a≠i->S a=1)/\st=(if S i=2 then 0 else 1)/\sm=0:=by
 cases h with
 |opn h1 _ _=>have :=h1 i l7 hi;omega
 |added h1 _ _=>have :=h1 i l7 hi;omega
 |seen h1 _ _ _=>have :=h1 i l7 hi;omega
 |reg h1 _ _=>have :=h1 i l7 hi;omega
 |last L h1 h2 h3 h4=>
  by_cases e:i=L
  ·subst e;exact⟨rfl,h4,rfl,rfl⟩
  ·have :=h4 i l7 hi e;omega
 |sema h1=>have :=h1 i l7 hi;omega
 |S6 h1=>have :=h1 i l7 hi;omega
 |fin h1=>have :=h1 i l7 hi;omega
theorem Mode.minus(h:Mode lo size S s b st sm){i:Nat}(l7:lo<=i)(hi:i<size)(hs:S i=5):
  ∃v wt:Nat,wt<=1/\v<VM/\st=((v:Int)+1)*KK+wt/\sm=0/\((v=0/\wt=1)->Mode lo size (upd S i 4) s b ((v:Int)*KK+wt) 0)/\(¬(v=0/\wt=1)->Mode lo size (upd S i 1) s b ((v:Int)*KK+wt) 0):=by
 have hp:=I1 S hi (by omega:5<=S i);have hv:∀x,¬5<=x->Vc size (upd S i x)+1=Vc size S:=by
  intro x hx;have :=I0 S (x:=x) hi;simp only[show 5<=S i by omega,if_true,hx,if_false]at this;omega
 have ho:OpenSt lo size S->OpenSt lo size (upd S i 1):=fun h a h1 h2=>by
  by_cases e:a=i
  ·subst e;rw[upd_same];simp
  ·rw[upd_ne _ _ e];exact h a h1 h2
 have h1:=hv 1 av;obtain⟨v,hvv⟩:∃v,Vc size S=v+1:=⟨Vc size S-1,av⟩;have e1:Vc size (upd S i 1)=v:=av;cases h with
 |opn h2 h3 h4=>
  refine⟨v,0,av,av,?_,rfl,fun x=>absurd x.2 av,fun _=>?_⟩
  ·rw[hvv];simp
  ·have :Mode lo size (upd S i 1) (.opn _) false ((Vc size (upd S i 1):Nat)*KK) 0:= .opn (ho h2) (by omega:Vc size (upd S i 1)<= _) h4;rw[e1]at this;simpa using this
 |added h2 h3 h4=>
  refine⟨v+1,0,av,av,?_,rfl,fun x=>absurd x.2 av,fun _=>?_⟩
  ·rw[hvv];simp
  ·have :Mode lo size (upd S i 1) (.added _) false (((Vc size (upd S i 1):Nat)+1)*KK) 0:= .added (ho h2) (by omega:Vc size (upd S i 1)<= _) h4;rw[e1]at this;simpa using this
 |seen h2 h3 h4 h5=>
  refine⟨v,0,av,av,?_,rfl,fun x=>absurd x.2 av,fun _=>?_⟩
  ·rw[hvv];simp
  ·have :Mode lo size (upd S i 1) (.seen _) false ((Vc size (upd S i 1):Nat)*KK) 0:= .seen (ho h2) (by omega:Vc size (upd S i 1)<= _) h4 h5;rw[e1]at this;simpa using this
 |reg h2 h3 h4=>
  refine⟨v,1,av,av,?_,rfl,fun x=>?_,fun x=>?_⟩
  ·rw[hvv];simp
  ·obtain⟨rfl,_⟩:=x;have :Mode lo size (upd S i 4) .reg b (if upd S i 4 i=2 then 0 else 1) 0:= .last i l7 hi (by rw[upd_same];simp) fun a ha1 S0 dx=>by
    rw[upd_ne _ _ dx];have h6:=h2 a ha1 S0
    by_cases h7:5<=S a
    ·have :=Zj S hi S0 dx av h7;omega
    ·omega
   rw[upd_same]at this;simpa using this
  ·have :Mode lo size (upd S i 1) .reg b ((Vc size (upd S i 1):Nat)*KK+1) 0:= .reg (ho h2) av av;rw[e1]at this;simpa using this
 |last L h2 h3 h4 h5=>
  by_cases e:i=L
  ·subst e;omega
  ·have :=h5 i l7 hi e;omega
 |sema h2=>have :=h2 i l7 hi;omega
 |S6 h2=>have :=h2 i l7 hi;omega
 |fin h2=>have :=h2 i l7 hi;omega
theorem allQuit_of (h:OpenSt lo size S)(h0:Vc size S=0):AllQuit lo size S:=fun i h1 h2=>by
 have :=h i h1 h2;have :=UB h0 h2;omega
end
section
variable (P:aE)(Wg:Nat)(p:dA)
inductive WSit:WS->Nat->Nat->Nat->au->aA->Prop
 |work {R:Perm}{n:Nat}{g:au}{w:aA}:JW P Wg p n R g w->WSit (.work R) 7 n R.deaf g w
 |k1 {R:Perm}{r n:Nat}{g:au}{w:aA}:JD P Wg n .k1 g->WSit (.rel R r) 6 n 0 g w
 |d1 {R:Perm}{r n:Nat}{g:au}{w:aA}:JD P Wg n .d1 g->WSit (.rel R r) 5 n 1 g w
 |d2 {R:Perm}{r n:Nat}{g:au}{w:aA}:JD P Wg n .d2 g->WSit (.rel R r) 4 n 1 g w
 |d3 {R:Perm}{r n:Nat}{g:au}{w:aA}:JD P Wg n .d3 g->WSit (.rel R r) 3 n 1 g w
 |d4 {R:Perm}{r n:Nat}{g:au}{w:aA}:JD P Wg n .d4 g->WSit (.rel R r) 2 n 1 g w
 |gone {R:Perm}{r n d:Nat}{g:au}{w:aA}:QuitsD P n d g->WSit (.rel R r) 1 n d g w
 |old {n d:Nat}{g:au}{w:aA}:QuitsD P n d g->WSit .old 0 n d g w
end
section
variable {P:aE}{Wg:Nat}{p:dA}{ws:WS}{s n d:Nat}{g:au}{w w':aA}
theorem WSit.status(h:WSit P Wg p ws s n d g w):g.status= .running\/(g.status= .finished/\s<=1):=by
 cases h with
 |work h=>exact .inl (JW.out h).choose_spec.2.1
 |k1 h=>exact .inl h.mono
 |d1 h=>exact .inl h.mono
 |d2 h=>exact .inl h.mono
 |d3 h=>exact .inl h.mono
 |d4 h=>exact .inl h.mono
 |gone h=>exact h.status.imp id fun x=>⟨x,av⟩
 |old h=>exact h.status.imp id fun x=>⟨x,av⟩
theorem WSit.woken(h:WSit P Wg p ws s n d g w)(a b:au)(w':aA):woken P a b w' g=g:=by
 unfold Go.Conc.woken
 split
 ·exact again_running _ (h.status.imp id (·.1))
 ·rfl
theorem WSit.keeps(h:WSit P Wg p ws s n d g w)(k:∀R,ws.ey=some R->bD R w w'):WSit P Wg p ws s n d g w':=by
 cases h with
 |work h=>exact .work (h.keeps (k _ rfl))
 |k1 h=>exact .k1 h
 |d1 h=>exact .d1 h
 |d2 h=>exact .d2 h
 |d3 h=>exact .d3 h
 |d4 h=>exact .d4 h
 |gone h=>exact .gone h
 |old h=>exact .old h
end
structure Com (P:aE)(Wg:Nat)(sh:Nat->Prop)(lo:Nat)(D:Nat->WS)(S F:Nat->Nat)(ps:Nat->dA)(gs:Array au)(w:aA)(t:Trace):Prop where
 lom:1<=lo/\lo<=gs.size
 wk:∀i,0<i->i<gs.size->∃g,gs[i]?=some g/\WSit P Wg (ps i) (D i) (S i) (F i) (Deaf t i) g w
 old:∀i,i<lo->S i=0
 act:∀i,lo<=i->i<gs.size->S i≠0
 post:∀i R r,i<gs.size->D i= .rel R r->(ps i).ok R w
 Ez:∀i,lo<=i->i<gs.size->FW (ps i)
 above:∀j,gs.size<=j->Deaf t j=0
 lay:Lay sh D gs.size w
 ti:TI Wg sh D gs.size w.heap.size t
end Go.AM
namespace Go.AM
open Go Go.Conc
open Go.ConcN (RelBy upd upd_same upd_ne sumTo sumTo_upd sumTo_congr le_sumTo)
open Go.ConcR (stA smA KK rd wr mk)
def zA (σ:nq)(Wg:Nat)(sh:Nat->Prop)(lo size:Nat)(S:Nat->Nat)(ps:Nat->dA)(b:Bool)(w:aA):Prop:=
 match σ with
 | .Ap=>False
 | .idle=>lo=size/\b=false
 | .fS gr=>gr.Wg=Wg/\sh Wg/\gr.uH=((List.range (size-lo)).map fun i=>ps (lo+i)).reverse/\∃st sm,rA Wg w st sm/\Mode lo size S gr.sub b st sm
theorem zA.live{σ:nq}{Wg:Nat}{sh:Nat->Prop}{lo size:Nat}{S:Nat->Nat}{ps:Nat->dA}{b:Bool}{w:aA}(h:zA σ Wg sh lo size S ps b w):M9 σ w:=by
 cases σ with
 |Ap=>trivial
 |idle=>trivial
 |fS gr=>obtain⟨rfl,_,_,st,sm,h1,_⟩:=h;exact⟨st,sm,h1⟩
def nF (b:Bool)(g:au):au:=if b then{g with status:= .blocked}else g
structure IV (P:aE)(Fin:af->aA->Prop)(gs:Array au)(w:aA)(t:Trace)(σ:nq)(n:Nat)(R:Perm)(g:au)(Wg:Nat)(sh:Nat->Prop)(lo:Nat)(D:Nat->WS)(S F:Nat->Nat)(ps:Nat->dA)(b:Bool):Prop where
 main:gs[0]?=some (nF b g)
 blk:b=true->g.status= .running/\g.offers=none
 jm:JM P Fin σ n R g w
 perm:D 0= .work R
 deaf:Deaf t 0=R.deaf
 eA:Com P Wg sh lo D S F ps gs w t
 fS:zA σ Wg sh lo gs.size S ps b w
def meas (n:Nat)(b:Bool)(size:Nat)(F:Nat->Nat):Nat×Nat:=(n,(if b then 0 else 1)+2*sumTo size F)
def Inv (P:aE)(Fin:af->aA->Prop)(μ:Nat×Nat)(m:Machine)(t:Trace):Prop:=
 ∃gs w sl σ n R g Wg sh lo D S F ps b,m=crowd gs w sl/\IV P Fin gs w t σ n R g Wg sh lo D S F ps b/\μ=meas n b gs.size F
section
variable {P:aE}{Fin:af->aA->Prop}{gs:Array au}{w w':aA}{t:Trace}{σ:nq}{n:Nat}{R:Perm}{g:au}{Wg:Nat}{sh:Nat->Prop}{lo:Nat}{D:Nat->WS}{S F:Nat->Nat}{ps:Nat->dA}{b:Bool}{sl:Option (Nat×Nat)}
theorem IV.size(I:IV P Fin gs w t σ n R g Wg sh lo D S F ps b):0<gs.size:=(Array.getElem?_eq_some_iff.1 I.main).1
theorem IV.Ry(I:IV P Fin gs w t σ n R g Wg sh lo D S F ps b):vN R w:=I.eA.lay.low 0 R I.size (by rw[I.perm];rfl)
theorem JM.running:∀(n:Nat) {σ:nq}{R:Perm}{g:au}{w:aA},JM P Fin σ n R g w->M9 σ w->g.status= .running:=by
 intro n
 induction n using Nat.strongRecOn with
 |_ n ih=>
  intro σ R g w h hl;obtain⟨m,hm,hs⟩:=h.out;cases hs hl with
  |own h _ _=>exact h
  |ends h _ _ _ _=>exact h
  |vC _ _ _ _ _ h1 _ h2=>exact ih m hm h2 ⟨_,_,h1⟩
  |add h _ _=>exact h
  |said h _ _ _=>exact h
  |spawn h=>exact h
  |load h _=>exact h
  |cas h _=>exact h
  |sem h _ _ _=>exact h
  |last h _=>exact h
  |acq h _ _ _=>exact h
theorem Hi (hb:b=false->g.status= .running):awake (nF b g):=by
 cases b with
 |false=>exact awake_of (.inl (hb rfl))
 |true=>exact awake_of (.inr (.inl rfl))
theorem Ge {a a':au}(gR:g.status= .running)(abA:b=true->g.offers=none)(ni:a'.status= .running\/a'.status= .finished):
  ∃b',woken P a a' w' (nF b g)=nF b' g/\(b'=b\/b'=false)/\(mayWake P a=true->b'=false):=by
 have hc:(a'.status != .blocked&&a'.status != .waiting)=true:=by rcases ni with h|h<;>rw[h]<;>rfl
 cases b with
 |false=>
  refine⟨false,?_,.inl rfl,fun _=>rfl⟩
  show woken P a a' w' g=g
  exact woken_running gR
 |true=>
  by_cases hm:mayWake P a=true
  ·refine⟨false,?_,.inr rfl,fun _=>rfl⟩;unfold Go.Conc.woken;rw[bL (by rw[aj]at hc;simp[hm,hc.1,hc.2])];exact Go.ConcR.again_blocked gR (abA rfl) w'
  ·refine⟨true,?_,.inl rfl,fun h=>absurd h hm⟩;unfold Go.Conc.woken;rw[bT (by simp[hm])]
theorem IV.running(I:IV P Fin gs w t σ n R g Wg sh lo D S F ps b):g.status= .running:=JM.running n I.jm I.fS.live
theorem IV.worker(I:IV P Fin gs w t σ n R g Wg sh lo D S F ps b){i:Nat}(wU:0<i)(hi:i<gs.size){a a':au}{es:Array Event}(ha:gs[i]?=some a)(fp:stepG P false a w= .go a' w' es)
  {ws:WS}{s m:Nat}(gL:∀j T,j≠i->j<gs.size->(D j).ey=some T->bD T w w')(WK:WSit P Wg (ps i) ws s m (deafBehind (Deaf t i) es) a' w')(ahy:∀T r,ws= .rel T r->(ps i).ok T w')
  (hold:s=0↔S i=0)(Fo:Lay sh (upd D i ws) gs.size w')(Sl:TI Wg sh (upd D i ws) gs.size w'.heap.size (t++MemOp.ofEvents i a.frame.fn a.frame.place es))(Dz:m<F i)
  (zT:∀b',(b'=b\/b'=false)->(mayWake P a=true->b'=false)->zA σ Wg sh lo gs.size (upd S i s) ps b' w'):
  ∃m₁ ops oO,runT P (crowd gs w sl) i=(.next m₁,ops)/\Lt2 oO (meas n b gs.size F)/\Inv P Fin oO m₁ (t++ops):=by
 have gR:=runT_crowd_go (P:=P) (sl:=sl) (i:=i) ha (by rw[show(i==0)=false by simp;omega];exact fp);have alT:i≠0:=av;obtain⟨b',j8,iW,SV⟩:=Ge (P:=P) (w':=w') (a:=a) (a':=a') I.running (fun h=>(I.blk h).2) (WK.status.imp id (·.1));have jJ:((gs.map (woken P a a' w')).setIfInBounds i a').size=gs.size:=cK;have KA:∀op∈MemOp.ofEvents i a.frame.fn a.frame.place es,op.g=i:=Go.ConcR.g_of_ofEvents;have hkR:bD R w w':=gL 0 R av I.size (by rw[I.perm];rfl);refine⟨_,_,_,gR,?_,_,w',sl,σ,n,R,g,Wg,sh,lo,upd D i ws,upd S i s,upd F i m,ps,b',rfl,⟨?_,fun h=>?_,I.jm.keeps hkR,by rw[upd_ne _ _ av];exact I.perm,?_,⟨?_,fun j Mu hj=>?_,fun j hj=>?_,fun j hj1 hj=>?_,fun j T r hj ln=>?_,?_,fun j hj=>?_,?_,?_⟩,?_⟩,rfl⟩
 ·rw[jJ];unfold meas;refine Prod.Lex.right _ ?_;have h1:=sumTo_upd F m id hi;simp only[id]at h1;have h2:(if b' then 0 else 1)<=(if b then 0 else 1)+1:=by split<;>split<;>omega
  have h3:(sumTo gs.size fun x=>upd F i m x)=sumTo gs.size (upd F i m):=rfl;have h4:(sumTo gs.size fun x=>F x)=sumTo gs.size F:=rfl;rw[h3,h4]at h1;omega
 ·rw[Array.getElem?_setIfInBounds_ne alT,Array.getElem?_map,I.main,cR,j8]
 ·rcases iW with rfl|rfl
  ·exact I.blk h
  ·cases h
 ·rw[Deaf_other t av _ KA];exact I.deaf
 ·rw[jJ];exact I.eA.lom
 ·rw[jJ]at hj
  by_cases e:j=i
  ·subst e;refine⟨a',by rw[Array.getElem?_setIfInBounds_self_of_lt (by simpa using hi)],?_⟩;rw[upd_same,upd_same,upd_same,Deaf_own];exact WK
  ·obtain⟨x,hx,s9⟩:=I.eA.wk j Mu hj;refine⟨x,by rw[Array.getElem?_setIfInBounds_ne (Ne.symm e),Array.getElem?_map,hx,cR,s9.woken],?_⟩;rw[upd_ne _ _ e,upd_ne _ _ e,upd_ne _ _ e,Deaf_other t (Ne.symm e) _ KA];exact s9.keeps fun T hT=>gL j T e hj hT
 ·by_cases e:j=i
  ·subst e;rw[upd_same];exact hold.2 (I.eA.old j hj)
  ·rw[upd_ne _ _ e];exact I.eA.old j hj
 ·rw[jJ]at hj
  by_cases e:j=i
  ·subst e;rw[upd_same];exact fun h=>I.eA.act j hj1 hj (hold.1 h)
  ·rw[upd_ne _ _ e];exact I.eA.act j hj1 hj
 ·rw[jJ]at hj
  by_cases e:j=i
  ·subst e;rw[upd_same]at ln;exact ahy T r ln
  ·rw[upd_ne _ _ e]at ln;have l7:lo<=j:=Nat.le_of_not_lt fun cN=>by
    have h0:=I.eA.old j cN;rcases Nat.eq_zero_or_pos j with rfl|hp
    ·rw[I.perm]at ln;cases ln
    ·obtain⟨x,_,s9⟩:=I.eA.wk j hp hj;rw[h0,ln]at s9;cases s9
   exact I.eA.Ez j l7 hj T w w' (I.eA.post j T r hj ln) (gL j T e hj (by rw[ln];rfl))
 ·rw[jJ];exact I.eA.Ez
 ·rw[jJ]at hj;rw[Deaf_other t (show i≠j by omega) _ KA];exact I.eA.above j hj
 ·rw[jJ];exact Fo
 ·rw[jJ];exact Sl
 ·rw[jJ];exact zT b' iW SV
end
end Go.AM
namespace Go.AM
open Go Go.Conc
open Go.ConcN (RelBy upd upd_same upd_ne sumTo)
open Go.ConcR (stA smA KK rd wr mk)
theorem kP {α:Type}(f:Nat->α)(i:Nat):upd f i (f i)=f:=by
 funext a
 by_cases h:a=i
 ·subst h;rw[upd_same]
 ·rw[upd_ne _ _ h]
def IS (Wg:Nat)(e:Event):Prop:=e.loc= .mark .disable\/e.loc= .mark .enable\/∃o Ej,o<=1/\e=⟨.cell ⟨Wg,o,none⟩,Ej,true⟩
theorem uf {Wg:Nat}{e:Event}(h:IS Wg e):(MemAct.ofEvent e).touch?=none\/∃o Ej,o<=1/\e=⟨.cell ⟨Wg,o,none⟩,Ej,true⟩/\(MemAct.ofEvent e).touch?=some ⟨.cell ⟨Wg,o,none⟩,Ej,.atomic⟩:=by
 obtain⟨loc,Ej,sy⟩:=e;rcases h with h|h|⟨o,wr',h1,h2⟩
 ·simp only at h;subst h;exact .inl rfl
 ·simp only at h;subst h;exact .inl rfl
 ·cases h2;exact .inr ⟨o,_,h1,rfl,rfl⟩
theorem yF {Wg:Nat}{e:Event}(h:IS Wg e)(a:Addr):MemAct.ofEvent e≠ .mark (.release a):=by
 intro hx;have hl:=Go.ConcR.loc_of_ofEvent hx;rcases h with h|h|⟨o,wr',h1,h2⟩
 ·rw[h]at hl;cases hl
 ·rw[h]at hl;cases hl
 ·rw[h2]at hl;cases hl
theorem xq (Wg:Nat)(Ej:Bool):IS Wg ⟨.cell (stA Wg),Ej,true⟩:= .inr (.inr ⟨0,Ej,av,rfl⟩)
theorem MU (Wg:Nat)(Ej:Bool):IS Wg ⟨.cell (smA Wg),Ej,true⟩:= .inr (.inr ⟨1,Ej,av,rfl⟩)
theorem O2 (Wg:Nat):deafBehind 1 (semEvents (smA Wg))=1:=rfl
section
variable {P:aE}{Fin:af->aA->Prop}{gs:Array au}{w w':aA}{t:Trace}{σ:nq}{n:Nat}{R:Perm}{g:au}{Wg:Nat}{sh:Nat->Prop}{lo:Nat}{D:Nat->WS}{S F:Nat->Nat}{ps:Nat->dA}{b:Bool}{sl:Option (Nat×Nat)}
theorem IV.rI(I:IV P Fin gs w t σ n R g Wg sh lo D S F ps b){i:Nat}(hi:i<gs.size)(hS:S i≠0):
  lo<=i/\∃gr,σ= .fS gr/\gr.Wg=Wg/\sh Wg/\gr.uH=((List.range (gs.size-lo)).map fun i=>ps (lo+i)).reverse/\∃st sm,rA Wg w st sm/\Mode lo gs.size S gr.sub b st sm:=by
 have l7:lo<=i:=Nat.le_of_not_lt fun h=>hS (I.eA.old i h)
 refine⟨l7,?_⟩;have hg:=I.fS;cases σ with
 |Ap=>exact hg.elim
 |idle=>obtain⟨h,_⟩:=hg;omega
 |fS gr=>exact⟨gr,rfl,hg⟩
theorem IV.tA(I:IV P Fin gs w t σ n R g Wg sh lo D S F ps b){i:Nat}(wU:0<i)(hi:i<gs.size){a a':au}{es:Array Event}(ha:gs[i]?=some a)(fp:stepG P false a w= .go a' w' es)
  {T:Perm}{r s m:Nat}(hD:D i= .rel T r)(gL:∀j U,j<gs.size->(D j).ey=some U->bD U w w')(jJ:w'.heap.size=w.heap.size)(fQ:sh Wg)
  (eh:∀j e,es[j]?=some e->IS Wg e/\((MemAct.ofEvent e).touch?=none\/0<deafBehind (Deaf t i) (es.extract 0 j)))
  (WK:WSit P Wg (ps i) (.rel T r) s m (deafBehind (Deaf t i) es) a' w')(hs:s≠0)(hS:S i≠0)(Dz:m<F i)
  (zT:∀b',(b'=b\/b'=false)->(mayWake P a=true->b'=false)->zA σ Wg sh lo gs.size (upd S i s) ps b' w'):
  ∃m₁ ops oO,runT P (crowd gs w sl) i=(.next m₁,ops)/\Lt2 oO (meas n b gs.size F)/\Inv P Fin oO m₁ (t++ops):=by
 have yl:∀e∈es,IS Wg e:=fun e he=>by
  obtain⟨j,hj,rfl⟩:=Array.mem_iff_getElem.1 he;exact(eh j _ (Array.getElem?_eq_getElem hj)).1
 have HD:upd D i (.rel T r)=D:=by rw[<-hD];exact kP D i
 have hW:Wg<w.heap.size:=I.eA.lay.sh Wg fQ;refine I.worker wU hi ha fp (fun j U _ hj hU=>gL j U hj hU) WK (fun T' r' h=>?_) ⟨fun h=>absurd h hs,fun h=>absurd h hS⟩ ?_ ?_ Dz zT
 ·cases h;have l7:=(I.rI hi hS).1;exact I.eA.Ez i l7 hi T w w' (I.eA.post i T r hi hD) (gL i T hi (by rw[hD];rfl))
 ·rw[HD];exact I.eA.lay.Zn av gL
 ·rw[HD,jJ];refine I.eA.ti.app I.eA.lay hi (ai _) (fun _ _=>rfl) (.inl rfl) Go.ConcR.g_of_ofEvents (fun op dG bb hb=>?_) (fun op dG ad=>?_) (fun op dG bb hb=>?_) (fun T' r' hD'=>?_)
  ·obtain⟨e,he,rfl⟩:=Go.Conc.mem_ofEvents dG;rcases uf (yl e he)with h|⟨o,Ej,ho,_,h⟩
   ·simp only at hb;rw[h]at hb;cases hb
   ·simp only at hb;rw[h]at hb;cases hb;exact hW
  ·obtain⟨e,he,rfl⟩:=Go.Conc.mem_ofEvents dG;exact yF (yl e he) ad
  ·obtain⟨e,he,rfl⟩:=Go.Conc.mem_ofEvents dG;refine .inr ⟨by rw[hD];simp,?_⟩;rcases uf (yl e he)with h|⟨o,Ej,ho,_,h⟩
   ·simp only at hb;rw[h]at hb;cases hb
   ·simp only at hb;rw[h]at hb;cases hb;exact⟨⟨fQ,rfl,ho⟩,cK,cK⟩
  ·refine(I.eA.ti.GJ i T' r' hi hD').appOwn _ _ _ fun j e he=>?_
   obtain⟨h1,h2⟩:=eh j e he;rcases uf h1 with h|⟨o,Ej,ho,HS,h⟩
   ·exact .inl h
   ·rcases h2 with h2|h2
    ·rw[h]at h2;cases h2
    ·exact .inr ⟨⟨_,_,HS⟩,h2⟩
theorem xd:∀(d:Nat) (j:Nat) (e:Event),(#[]:Array Event)[j]?=some e->IS Wg e/\((MemAct.ofEvent e).touch?=none\/0<deafBehind d ((#[]:Array Event).extract 0 j)):=by
 intro d j e h;simp at h
theorem Xb {d:Nat}{es:Array Event}(h1:∀e∈es,IS Wg e)(hd:0<d)(h:∀e∈es,e.loc≠ .mark .enable):∀(j:Nat) (e:Event),es[j]?=some e->IS Wg e/\((MemAct.ofEvent e).touch?=none\/0<deafBehind d (es.extract 0 j)):=by
 intro j e he;refine⟨h1 e (Array.mem_of_getElem? he),.inr ?_⟩;have key:∀(l:List Event) (d:Nat),0<d->(∀e∈l,e.loc≠ .mark .enable)->0<l.foldl (fun d e=>match e.loc with | .mark .disable=>d+1| .mark .enable=>d-1|_=>d) d:=by
  intro l
  induction l with
  |nil=>intro d hd _;exact hd
  |cons e l ih=>
   intro d hd hl;rw[List.foldl_cons];refine ih _ ?_ fun x hx=>hl x (by simp[hx])
   have :=hl e cK
   split
   ·omega
   ·rename_i hh;exact absurd hh this
   ·exact hd
 have ahQ:deafBehind d (es.extract 0 j)=(es.toList.take j).foldl (fun d e=>match e.loc with | .mark .disable=>d+1| .mark .enable=>d-1|_=>d) d:=by
  unfold deafBehind;rw[<-Array.foldl_toList,Array.toList_extract];rfl
 rw[ahQ];exact key _ d hd fun x hx=>h x (by simpa using List.mem_of_mem_take hx)
end
end Go.AM
namespace Go.AM
open Go Go.Conc
open Go.ConcN (RelBy upd upd_same upd_ne sumTo)
open Go.ConcR (stA smA KK rd wr mk)
section
variable {P:aE}{Fin:af->aA->Prop}{gs:Array au}{w w':aA}{t:Trace}{σ:nq}{n:Nat}{R:Perm}{g:au}{Wg:Nat}{sh:Nat->Prop}{lo:Nat}{D:Nat->WS}{S F:Nat->Nat}{ps:Nat->dA}{b:Bool}{sl:Option (Nat×Nat)}
theorem VE {e:Event}(h:e.mute=true):IS Wg e:=by
 obtain⟨loc,Ej,sy⟩:=e;cases loc with
 |mark m=>cases m<;>simp_all [Event.mute,IS]
 |_=>simp[Event.mute]at h
theorem IV.UN(I:IV P Fin gs w t σ n R g Wg sh lo D S F ps b){i:Nat}(wU:0<i)(hi:i<gs.size){a a':au}{es:Array Event}(ha:gs[i]?=some a){T T':Perm}{m:Nat}(hD:D i= .work T)(hS:S i=7)(nN:Deaf t i=T.deaf)
  (fp:Stepped P false T a w T' a' w' es)(hj:JW P Wg (ps i) m T' a' w')(Dz:m<F i):
  ∃m₁ ops oO,runT P (crowd gs w sl) i=(.next m₁,ops)/\Lt2 oO (meas n b gs.size F)/\Inv P Fin oO m₁ (t++ops):=by
 have hp:(D i).ey=some T:=by rw[hD];rfl
 have hlT:=I.eA.lay.low i T hi hp;have gL:∀j U,j≠i->j<gs.size->(D j).ey=some U->bD U w w':=fun j U hj Bp hU=>Dr fp.MQ (I.eA.lay.Gb i j T U (Ne.symm hj) hi Bp hp hU) (I.eA.lay.low j U Bp hU)
 obtain⟨l7,gr,rfl,Fp,fQ,jh,st,sm,jW,fC⟩:=I.rI hi av;have hex:upd S i 7=S:=by rw[<-hS];exact kP S i
 refine I.worker (ws:= .work T') (s:=7) (m:=m) wU hi ha fp.step gL (by rw[nN,<-fp.deaf];exact .work hj) (fun _ _ h=>by cases h) ⟨fun h=>by omega,fun h=>by omega⟩ ?_ ?_ Dz ?_
 ·exact I.eA.lay.own hi hD fp.within (fp.low hlT) fp.MQ.size gL
 ·refine I.eA.ti.app I.eA.lay hi fp.MQ.size (fun j hj=>upd_ne _ _ hj) (.inr ⟨T,T',hD,upd_same ..,fp.within⟩) Go.ConcR.g_of_ofEvents (fun op dG bb hb=>?_) (fun op dG ad=>?_) (fun op dG bb hb=>?_) (fun FV r h=>by rw[hD]at h;cases h)
  ·obtain⟨e,he,rfl⟩:=Go.Conc.mem_ofEvents dG;exact Loc.low_mono fp.MQ.size (Fj hlT (qX hlT.wr (fp.ev e he) hb).1)
  ·obtain⟨e,he,rfl⟩:=Go.Conc.mem_ofEvents dG;exact BI (fp.ev e he) ad
  ·obtain⟨e,he,rfl⟩:=Go.Conc.mem_ofEvents dG;exact .inl ⟨T,hD,qX hlT.wr (fp.ev e he) hb⟩
 ·intro b' gN _;refine⟨Fp,fQ,jh,st,sm,jW.MQ fp.MQ (I.eA.lay.sh Wg fQ) fun o ho hw=>I.eA.lay.Cx i T hi hp Wg o (hlT.wr _ _ hw) fQ ho,?_⟩;rw[hex];exact fC.As b' gN
theorem IV.UM(I:IV P Fin gs w t σ n R g Wg sh lo D S F ps b){i:Nat}(wU:0<i)(hi:i<gs.size){a a':au}(ha:gs[i]?=some a){T:Perm}{m:Nat}(hD:D i= .work T)(hS:S i=7)(nN:Deaf t i=T.deaf)(h0:T.deaf=0)
  (jA:(ps i).ok T w)(fp:stepG P false a w= .go a' w #[Go.ConcR.mk (.releaseMerge (stA Wg))])(hj:JD P Wg m .k1 a')(Dz:m<F i):
  ∃m₁ ops oO,runT P (crowd gs w sl) i=(.next m₁,ops)/\Lt2 oO (meas n b gs.size F)/\Inv P Fin oO m₁ (t++ops):=by
 have hp:(D i).ey=some T:=by rw[hD];rfl
 obtain⟨l7,gr,rfl,Fp,fQ,jh,st,sm,jW,fC⟩:=I.rI hi av;have hd0:Deaf t i=0:=nN.trans h0;have jJ:(t++MemOp.ofEvents i a.frame.fn a.frame.place #[Go.ConcR.mk (.releaseMerge (stA Wg))]).size=t.size+1:=by rw[ofEvents_eq];simp
 refine I.worker (ws:= .rel T t.size) (s:=6) (m:=m) wU hi ha fp (fun j U _ _ _=>bD.refl _ _) ?_ (fun FV r h=>by cases h;exact jA) ⟨fun h=>by omega,fun h=>by omega⟩ ?_ ?_ Dz ?_
 ·rw[hd0];exact .k1 hj
 ·refine I.eA.lay.same fun j hj=> .inl ?_
  by_cases e:j=i
  ·subst e;rw[upd_same,hD];rfl
  ·rw[upd_ne _ _ e]
 ·refine TI.Qg (R:=T) (k:=i) (I.eA.ti.app I.eA.lay hi (ai _) (fun _ _=>rfl) (.inl rfl) Go.ConcR.g_of_ofEvents (fun op dG bb hb=>?_) (fun op dG ad=>?_) (fun op dG bb hb=>?_) (fun FV r h=>by rw[hD]at h;cases h)) hi wU hD (RelBy.new hd0 _ _) av
  all_goals
   obtain⟨e,he,rfl⟩:=Go.Conc.mem_ofEvents dG;simp only[List.mem_toArray,bC,List.not_mem_nil,or_false]at he;subst he
  ·exact absurd hb (by simp[Go.ConcR.mk,MemAct.ofEvent,MemAct.touch?])
  ·simp[Go.ConcR.mk,MemAct.ofEvent]
  ·exact absurd hb (by simp[Go.ConcR.mk,MemAct.ofEvent,MemAct.touch?])
 ·intro b' gN _;exact⟨Fp,fQ,jh,st,sm,jW,(fC.ah7 l7 hi av (.inr (.inl rfl))).As b' gN⟩
theorem IV.Gm(I:IV P Fin gs w t σ n R g Wg sh lo D S F ps b){i:Nat}(wU:0<i)(hi:i<gs.size){a:au}(ha:gs[i]?=some a)(gR:a.status= .running){k d:Nat}(hq:QuitsD P k d a)(hk:k<=F i)(nN:Deaf t i=d)
  (hs:(∃T r,D i= .rel T r/\S i=1)\/(D i= .old/\S i=0)):
  ∃m₁ ops oO,runT P (crowd gs w sl) i=(.next m₁,ops)/\Lt2 oO (meas n b gs.size F)/\Inv P Fin oO m₁ (t++ops):=by
 cases k with
 |zero=>rw[hq.1]at gR;cases gR
 |succ k=>
  rcases hq with⟨hf,_⟩|⟨_,a',es,hm,fp,Ac⟩
  ·rw[hf]at gR;cases gR
  have hex:∀x,S i=x->upd S i x=S:=fun x h=>by rw[<-h];exact kP S i
  have WY:∀x,D i=x->upd D i x=D:=fun x h=>by rw[<-h];exact kP D i
  have zT:∀x,S i=x->∀b',(b'=b\/b'=false)->(mayWake P a=true->b'=false)->zA σ Wg sh lo gs.size (upd S i x) ps b' w:=by
   intro x hx b' gN _;rw[hex x hx];have hg:=I.fS;cases σ with
   |Ap=>exact hg.elim
   |idle=>
    refine⟨hg.1,?_⟩;rcases gN with rfl|rfl
    ·exact hg.2
    ·rfl
   |fS gr=>
    obtain⟨h1,h2,h3,st,sm,h4,h5⟩:=hg;exact⟨h1,h2,h3,st,sm,h4,h5.As b' gN⟩
  have Kt:∀e∈es,(MemAct.ofEvent e).touch?=none:=fun e he=>touch_mute (hm e he)
  have Sl:TI Wg sh D gs.size w.heap.size (t++MemOp.ofEvents i a.frame.fn a.frame.place es):=by
   refine I.eA.ti.app I.eA.lay hi (ai _) (fun _ _=>rfl) (.inl rfl) Go.ConcR.g_of_ofEvents (fun op dG bb hb=>?_) (fun op dG ad=>?_) (fun op dG bb hb=>?_) (fun FV r h=>?_)
   ·obtain⟨e,he,rfl⟩:=Go.Conc.mem_ofEvents dG;rw[Kt e he]at hb;cases hb
   ·obtain⟨e,he,rfl⟩:=Go.Conc.mem_ofEvents dG;exact yF (Wg:=Wg) (VE (hm e he)) ad
   ·obtain⟨e,he,rfl⟩:=Go.Conc.mem_ofEvents dG;rw[Kt e he]at hb;cases hb
   ·exact(I.eA.ti.GJ i FV r hi h).appOwn _ _ _ fun j e he=> .inl (Kt e (Array.mem_of_getElem? he))
  rcases hs with⟨T,r,hD,hS⟩|⟨hD,hS⟩
  ·refine I.worker (ws:= .rel T r) (s:=1) (m:=k) wU hi ha (fp w) (fun j U _ _ _=>bD.refl _ _) (by rw[nN];exact .gone Ac) (fun FV r' h=>by cases h;exact I.eA.post i T r hi hD) ⟨fun h=>by omega,fun h=>by omega⟩ ?_ ?_ av (zT 1 hS)
   ·rw[WY _ hD];exact I.eA.lay
   ·rw[WY _ hD];exact Sl
  ·refine I.worker (ws:= .old) (s:=0) (m:=k) wU hi ha (fp w) (fun j U _ _ _=>bD.refl _ _) (by rw[nN];exact .old Ac) (fun FV r' h=>by cases h) ⟨fun h=>hS,fun h=>rfl⟩ ?_ ?_ av (zT 0 hS)
   ·rw[WY _ hD];exact I.eA.lay
   ·rw[WY _ hD];exact Sl
end
end Go.AM
namespace Go.AM
open Go Go.Conc
open Go.ConcN (RelBy upd upd_same upd_ne sumTo)
open Go.ConcR (stA smA KK rd wr)
section
variable {P:aE}{Fin:af->aA->Prop}{gs:Array au}{w w':aA}{t:Trace}{σ:nq}{n:Nat}{R:Perm}{g:au}{Wg:Nat}{sh:Nat->Prop}{lo:Nat}{D:Nat->WS}{S F:Nat->Nat}{ps:Nat->dA}{b:Bool}{sl:Option (Nat×Nat)}
theorem abY {d:Nat}:∀(j:Nat) (e:Event),(#[Go.ConcR.mk .disable]:Array Event)[j]?=some e->IS Wg e/\((MemAct.ofEvent e).touch?=none\/0<deafBehind d ((#[Go.ConcR.mk .disable]:Array Event).extract 0 j)):=by
 intro j e h;have he:e∈(#[Go.ConcR.mk .disable]:Array Event):=Array.mem_of_getElem? h;simp only[List.mem_toArray,bC,List.not_mem_nil,or_false]at he;subst he;exact⟨.inl rfl,.inl rfl⟩
theorem abX:∀(j:Nat) (e:Event),(semEvents (smA Wg))[j]?=some e->IS Wg e/\((MemAct.ofEvent e).touch?=none\/0<deafBehind 1 ((semEvents (smA Wg)).extract 0 j)):=by
 intro j e h;have hj:j<4:=by
  have :=(Array.getElem?_eq_some_iff.1 h).1;simpa[semEvents]using this
 match j,hj with
 |0,_=>simp[semEvents]at h;subst h;exact⟨.inl rfl,.inl rfl⟩
 |1,_=>simp[semEvents]at h;subst h;exact⟨MU Wg false,.inr (by simp[semEvents,deafBehind])⟩
 |2,_=>simp[semEvents]at h;subst h;exact⟨MU Wg true,.inr (by simp[semEvents,deafBehind])⟩
 |3,_=>simp[semEvents]at h;subst h;exact⟨.inr (.inl rfl),.inl rfl⟩
theorem Ag {es:Array Event}(h:∀e∈es,e=rd (stA Wg)\/e=wr (stA Wg)):∀(j:Nat) (e:Event),es[j]?=some e->IS Wg e/\((MemAct.ofEvent e).touch?=none\/0<deafBehind 1 (es.extract 0 j)):=
 Xb (fun e he=>(h e he).elim (fun x=>x▸xq Wg false) fun x=>x▸xq Wg true) av fun e he=>(h e he).elim (fun x=>by rw[x];simp[rd]) fun x=>by rw[x];simp[wr]
theorem ko {es:Array Event}(h:∀e∈es,e=rd (stA Wg)\/e=wr (stA Wg))(d:Nat):deafBehind d es=d:=by
 have :=nV d es.toList fun e he=>(h e (by simpa using he)).elim (fun x=>by rw[x];simp[rd]) fun x=>by rw[x];simp[wr]
 simpa using this
set_option maxHeartbeats 1000000 in
theorem IV.stepW(I:IV P Fin gs w t σ n R g Wg sh lo D S F ps b){i:Nat}(wU:0<i)(hi:i<gs.size){a:au}(ha:gs[i]?=some a)(gR:a.status= .running):
  ∃m₁ ops oO,runT P (crowd gs w sl) i=(.next m₁,ops)/\Lt2 oO (meas n b gs.size F)/\Inv P Fin oO m₁ (t++ops):=by
 obtain⟨ane,SW,hs⟩:=I.eA.wk i wU hi;obtain rfl:a=ane:=by rw[ha]at SW;exact Option.some.inj SW
 clear SW;generalize hD:D i=ws at hs;generalize hS:S i=s at hs;generalize hF:F i=f at hs;generalize nN:Deaf t i=d at hs;cases hs with
 |work hj=>
  obtain⟨m,hm,_,hw⟩:=hj.out;obtain⟨_,gr,_,_,fQ,_,st,sm,jW,_⟩:=I.rI hi av;cases hw ⟨st,sm,jW⟩with
  |own h1 h2=>exact I.UN wU hi ha hD hS nN h1 h2 av
  |rel h1 h2 h3 h4=>exact I.UM wU hi ha hD hS nN h1 h2 h3 h4 av
 |gone hq=>exact I.Gm wU hi ha gR hq av nN (.inl ⟨_,_,hD,hS⟩)
 |old hq=>exact I.Gm wU hi ha gR hq av nN (.inr ⟨hD,hS⟩)
 |k1 hj=>
  obtain⟨l7,gr,rfl,Fp,fQ,jh,st,sm,jW,fC⟩:=I.rI hi av;cases f with
  |zero=>exact hj.elim
  |succ m=>
   have hex:upd S i 6=S:=by rw[<-hS];exact kP S i
   cases hj.2 w ⟨st,sm,jW⟩with
   |quiet h1 h2=>
    exact I.tA (s:=6) (m:=m) wU hi ha h1 hD (fun _ _ _ _=>bD.refl _ _) rfl fQ (xd _) (by rw[nN];exact .k1 h2) av av av
     fun b' gN _=>⟨Fp,fQ,jh,st,sm,jW,by rw[hex];exact fC.As b' gN⟩
   |k1 h1 h2=>
    exact I.tA (s:=5) (m:=m) wU hi ha h1 hD (fun _ _ _ _=>bD.refl _ _) rfl fQ abY (by rw[nN];exact .d1 h2) av av av
     fun b' gN _=>⟨Fp,fQ,jh,st,sm,jW,(fC.ah7 l7 hi av (.inr (.inr rfl))).As b' gN⟩
 |d1 hj=>
  obtain⟨l7,gr,rfl,Fp,fQ,jh,st,sm,jW,fC⟩:=I.rI hi av;cases f with
  |zero=>exact hj.elim
  |succ m=>
   have hex:upd S i 5=S:=by rw[<-hS];exact kP S i
   cases hj.2 w ⟨st,sm,jW⟩with
   |quiet h1 h2=>
    exact I.tA (s:=5) (m:=m) wU hi ha h1 hD (fun _ _ _ _=>bD.refl _ _) rfl fQ (xd _) (by rw[nN];exact .d1 h2) av av av
     fun b' gN _=>⟨Fp,fQ,jh,st,sm,jW,by rw[hex];exact fC.As b' gN⟩
   |d1 h1=>
    obtain⟨v,wt,zj,hv,rfl,rfl,Mq,abB⟩:=fC.minus l7 hi hS;obtain⟨a',h2,h3,h4⟩:=h1 v wt zj hv jW;have hk:∀j U,j<gs.size->(D j).ey=some U->bD U w (setSt Wg ((v:Int)*KK+wt) w):=fun j U hj hU=>pW (I.eA.lay.low j U hj hU) (fun o ho hr=>I.eA.lay.Cx j U hj hU Wg o hr fQ ho) jW
    have Uj:∀e∈(#[rd (stA Wg),wr (stA Wg)]:Array Event),e=rd (stA Wg)\/e=wr (stA Wg):=by intro e he;simpa using he
    by_cases hc:v=0/\wt=1
    ·exact I.tA (s:=4) (m:=m) wU hi ha h2 hD hk (size_setCell ..) fQ (by rw[nN];exact Ag Uj) (by rw[nN,ko Uj];exact .d2 (h3 hc)) av av av
      fun b' gN _=>⟨Fp,fQ,jh,_,_,jW.setSt _,(Mq hc).As b' gN⟩
    ·exact I.tA (s:=1) (m:=m) wU hi ha h2 hD hk (size_setCell ..) fQ (by rw[nN];exact Ag Uj) (by rw[nN,ko Uj];exact .gone (h4 hc)) av av av
      fun b' gN _=>⟨Fp,fQ,jh,_,_,jW.setSt _,(abB hc).As b' gN⟩
 |d2 hj=>
  obtain⟨l7,gr,rfl,Fp,fQ,jh,st,sm,jW,fC⟩:=I.rI hi av;obtain⟨HH,HL,rfl,rfl⟩:=fC.isLast l7 hi av;cases f with
  |zero=>exact hj.elim
  |succ m=>
   have hex:upd S i 4=S:=by rw[<-hS];exact kP S i
   cases hj.2 w ⟨_,_,jW⟩with
   |quiet h1 h2=>
    exact I.tA (s:=4) (m:=m) wU hi ha h1 hD (fun _ _ _ _=>bD.refl _ _) rfl fQ (xd _) (by rw[nN];exact .d2 h2) av av av
     fun b' gN _=>⟨Fp,fQ,jh,_,_,jW,by rw[hex];exact fC.As b' gN⟩
   |d2 h1=>
    rw[hS]at jW;obtain⟨a',h2,h3⟩:=h1 jW;have Uj:∀e∈(#[rd (stA Wg)]:Array Event),e=rd (stA Wg)\/e=wr (stA Wg):=by intro e he;simp at he;exact .inl he
    refine I.tA (s:=3) (m:=m) wU hi ha h2 hD (fun _ _ _ _=>bD.refl _ _) rfl fQ (by rw[nN];exact Ag Uj) (by rw[nN,ko Uj];exact .d3 h3) av av av
     fun b' gN _=>⟨Fp,fQ,jh,_,_,jW,?_⟩
    have :Mode lo gs.size (upd S i 3) .reg b' (if upd S i 3 i=2 then 0 else 1) 0:= .last i l7 hi (by rw[upd_same];simp) fun a h1 h2 h3=>by rw[upd_ne _ _ h3];exact HL a h1 h2 h3
    rw[upd_same]at this;rw[HH];exact this
 |d3 hj=>
  obtain⟨l7,gr,rfl,Fp,fQ,jh,st,sm,jW,fC⟩:=I.rI hi av;obtain⟨HH,HL,rfl,rfl⟩:=fC.isLast l7 hi av;cases f with
  |zero=>exact hj.elim
  |succ m=>
   have hex:upd S i 3=S:=by rw[<-hS];exact kP S i
   cases hj.2 w ⟨_,_,jW⟩with
   |quiet h1 h2=>
    exact I.tA (s:=3) (m:=m) wU hi ha h1 hD (fun _ _ _ _=>bD.refl _ _) rfl fQ (xd _) (by rw[nN];exact .d3 h2) av av av
     fun b' gN _=>⟨Fp,fQ,jh,_,_,jW,by rw[hex];exact fC.As b' gN⟩
   |d3 h1=>
    rw[hS]at jW;obtain⟨a',h2,h3⟩:=h1 jW;have hk:∀j U,j<gs.size->(D j).ey=some U->bD U w (setSt Wg 0 w):=fun j U hj hU=>pW (I.eA.lay.low j U hj hU) (fun o ho hr=>I.eA.lay.Cx j U hj hU Wg o hr fQ ho) jW
    have Uj:∀e∈(#[wr (stA Wg)]:Array Event),e=rd (stA Wg)\/e=wr (stA Wg):=by intro e he;simp at he;exact .inr he
    refine I.tA (s:=2) (m:=m) wU hi ha h2 hD hk (size_setCell ..) fQ (by rw[nN];exact Ag Uj) (by rw[nN,ko Uj];exact .d4 h3) av av av
     fun b' gN _=>⟨Fp,fQ,jh,_,_,jW.setSt _,?_⟩
    have :Mode lo gs.size (upd S i 2) .reg b' (if upd S i 2 i=2 then 0 else 1) 0:= .last i l7 hi (by rw[upd_same];simp) fun a h1 h2 h3=>by rw[upd_ne _ _ h3];exact HL a h1 h2 h3
    rw[upd_same]at this;rw[HH];exact this
 |d4 hj=>
  obtain⟨l7,gr,rfl,Fp,fQ,jh,st,sm,jW,fC⟩:=I.rI hi av;obtain⟨HH,HL,rfl,rfl⟩:=fC.isLast l7 hi av;cases f with
  |zero=>exact hj.elim
  |succ m=>
   have hex:upd S i 2=S:=by rw[<-hS];exact kP S i
   cases hj.2 w ⟨_,_,jW⟩with
   |quiet h1 h2=>
    exact I.tA (s:=2) (m:=m) wU hi ha h1 hD (fun _ _ _ _=>bD.refl _ _) rfl fQ (xd _) (by rw[nN];exact .d4 h2) av av av
     fun b' gN _=>⟨Fp,fQ,jh,_,_,jW,by rw[hex];exact fC.As b' gN⟩
   |d4 Mm h1=>
    rw[hS]at jW;obtain⟨a',h2,h3⟩:=h1 jW;have hk:∀j U,j<gs.size->(D j).ey=some U->bD U w (setSm Wg 1 w):=fun j U hj hU=>zf (I.eA.lay.low j U hj hU) (fun o ho hr=>I.eA.lay.Cx j U hj hU Wg o hr fQ ho) jW
    refine I.tA (s:=1) (m:=m) wU hi ha h2 hD hk (size_setCell ..) fQ (by rw[nN];exact abX) (by rw[nN,O2];exact .gone h3) av av av
     fun b' gN zO=>⟨Fp,fQ,jh,_,_,jW.setSm _,?_⟩
    rw[zO Mm,HH];refine .sema fun x h1 h2=>?_
    by_cases e:x=i
    ·subst e;rw[upd_same]
    ·rw[upd_ne _ _ e];exact HL x h1 h2 e
end
end Go.AM
namespace Go.AM
open Go Go.Conc
open Go.ConcN (RelBy upd upd_same upd_ne sumTo)
open Go.ConcR (stA smA KK rd wr)
section
variable {P:aE}{Fin:af->aA->Prop}{gs:Array au}{w w':aA}{t:Trace}{σ gJ:nq}{n m:Nat}{R R':Perm}{g a':au}{Wg:Nat}{sh:Nat->Prop}{lo:Nat}{D:Nat->WS}{S F:Nat->Nat}{ps:Nat->dA}{b b':Bool}{sl:Option (Nat×Nat)}{es:Array Event}
theorem IV.ady(I:IV P Fin gs w t σ n R g Wg sh lo D S F ps false)(fp:stepG P true g w= .go a' w' es):
  runT P (crowd gs w sl) 0=(.next (crowd (gs.setIfInBounds 0 a') w' sl),MemOp.ofEvents 0 g.frame.fn g.frame.place es):=by
 have h:=runT_crowd_go (P:=P) (sl:=sl) (i:=0) I.main (show stepG P (0==0) (nF false g) w= .go a' w' es from fp);have e:(gs.map (woken P (nF false g) a' w')).setIfInBounds 0 a'=gs.setIfInBounds 0 a':=by
  apply Array.ext_getElem?;intro j
  by_cases hj:j=0
  ·subst hj;simp[I.size]
  ·rw[Array.getElem?_setIfInBounds_ne (Ne.symm hj),Array.getElem?_setIfInBounds_ne (Ne.symm hj),Array.getElem?_map];rcases Nat.lt_or_ge j gs.size with cN|CI
   ·obtain⟨x,hx,s9⟩:=I.eA.wk j av cN;rw[hx,cR,s9.woken]
   ·rw[Array.getElem?_eq_none CI];rfl
 rw[e]at h;exact h
theorem IV.amt(I:IV P Fin gs w t σ n R g Wg sh lo D S F ps b)(a':au){u:Trace}(hu:∀op∈u,op.g=0)(gL:∀j U,0<j->j<gs.size->(D j).ey=some U->bD U w w')
  (Fo:Lay sh (upd D 0 (.work R')) gs.size w')(Sl:TI Wg sh (upd D 0 (.work R')) gs.size w'.heap.size (t++u)):Com P Wg sh lo (upd D 0 (.work R')) S F ps (gs.setIfInBounds 0 a') w' (t++u):=by
 have jJ:(gs.setIfInBounds 0 a').size=gs.size:=cK;refine⟨by rw[jJ];exact I.eA.lom,fun j Mu hj=>?_,I.eA.old,fun j h1 h2=>I.eA.act j h1 (by rw[jJ]at h2;exact h2),fun j T r hj ln=>?_,by rw[jJ];exact I.eA.Ez,fun j hj=>?_,by rw[jJ];exact Fo,by rw[jJ];exact Sl⟩
 ·rw[jJ]at hj;obtain⟨x,hx,s9⟩:=I.eA.wk j Mu hj;refine⟨x,by rw[Array.getElem?_setIfInBounds_ne av];exact hx,?_⟩;rw[upd_ne _ _ av,Deaf_other t av _ hu];exact s9.keeps fun T hT=>gL j T Mu hj hT
 ·rw[jJ]at hj;rcases Nat.eq_zero_or_pos j with rfl|hp
  ·rw[upd_same]at ln;cases ln
  ·rw[upd_ne _ _ av]at ln;have l7:lo<=j:=Nat.le_of_not_lt fun cN=>by
    obtain⟨x,_,s9⟩:=I.eA.wk j hp hj;rw[I.eA.old j cN,ln]at s9;cases s9
   exact I.eA.Ez j l7 hj T w w' (I.eA.post j T r hj ln) (gL j T hp hj (by rw[ln];rfl))
 ·rw[jJ]at hj;rw[Deaf_other t (show 0≠j by have :=I.size;omega) _ hu];exact I.eA.above j hj
theorem IV.Rt(I:IV P Fin gs w t σ n R g Wg sh lo D S F ps false)(fp:stepG P true g w= .go a' w' es){g':au}(ni:a'=nF b' g')(kK:b'=true->g'.status= .running/\g'.offers=none)
  (hm:m<n\/(m=n/\b'=true))(SH:JM P Fin gJ m R' g' w')(nN:deafBehind R.deaf es=R'.deaf)(gL:∀j U,0<j->j<gs.size->(D j).ey=some U->bD U w w')
  (Fo:Lay sh (upd D 0 (.work R')) gs.size w')(Sl:TI Wg sh (upd D 0 (.work R')) gs.size w'.heap.size (t++MemOp.ofEvents 0 g.frame.fn g.frame.place es))(zT:zA gJ Wg sh lo gs.size S ps b' w'):
  ∃m₁ ops oO,runT P (crowd gs w sl) 0=(.next m₁,ops)/\Lt2 oO (meas n false gs.size F)/\Inv P Fin oO m₁ (t++ops):=by
 have jJ:(gs.setIfInBounds 0 a').size=gs.size:=cK;refine⟨_,_,meas m b' (gs.setIfInBounds 0 a').size F,I.ady fp,?_,_,w',sl,gJ,m,R',g',Wg,sh,lo,upd D 0 (.work R'),S,F,ps,b',rfl,⟨?_,kK,SH,upd_same ..,?_,I.amt a' Go.ConcR.g_of_ofEvents gL Fo Sl,by rw[jJ];exact zT⟩,rfl⟩
 ·rw[jJ];unfold meas;rcases hm with h|⟨rfl,rfl⟩
  ·exact Prod.Lex.left _ _ h
  ·exact Prod.Lex.right _ cK
 ·rw[Array.getElem?_setIfInBounds_self_of_lt I.size,ni]
 ·rw[Deaf_own,I.deaf,nN]
theorem IV.VI(I:IV P Fin gs w t σ n R g Wg sh lo D S F ps false)(fp:Stepped P true R g w R' a' w' es)(hm:m<n)(SH:JM P Fin σ m R' a' w'):
  ∃m₁ ops oO,runT P (crowd gs w sl) 0=(.next m₁,ops)/\Lt2 oO (meas n false gs.size F)/\Inv P Fin oO m₁ (t++ops):=by
 have hp:(D 0).ey=some R:=by rw[I.perm];rfl
 have Bo:=I.Ry;have gL:∀j U,0<j->j<gs.size->(D j).ey=some U->bD U w w':=fun j U hj Bp hU=>Dr fp.MQ (I.eA.lay.Gb 0 j R U av I.size Bp hp hU) (I.eA.lay.low j U Bp hU)
 refine I.Rt (b':=false) (g':=a') (m:=m) fp.step rfl (fun h=>by cases h) (.inl hm) SH fp.deaf.symm gL ?_ ?_ ?_
 ·exact I.eA.lay.own I.size I.perm fp.within (fp.low Bo) fp.MQ.size fun j U hj Bp hU=>gL j U av Bp hU
 ·refine I.eA.ti.app I.eA.lay I.size fp.MQ.size (fun j hj=>upd_ne _ _ hj) (.inr ⟨R,R',I.perm,upd_same ..,fp.within⟩) Go.ConcR.g_of_ofEvents (fun op dG bb hb=>?_) (fun op dG ad=>?_) (fun op dG bb hb=>?_) (fun FV r h=>by rw[I.perm]at h;cases h)
  ·obtain⟨e,he,rfl⟩:=Go.Conc.mem_ofEvents dG;exact Loc.low_mono fp.MQ.size (Fj Bo (qX Bo.wr (fp.ev e he) hb).1)
  ·obtain⟨e,he,rfl⟩:=Go.Conc.mem_ofEvents dG;exact BI (fp.ev e he) ad
  ·obtain⟨e,he,rfl⟩:=Go.Conc.mem_ofEvents dG;exact .inl ⟨R,I.perm,qX Bo.wr (fp.ev e he) hb⟩
 ·have hg:=I.fS;cases σ with
  |Ap=>exact hg.elim
  |idle=>exact hg
  |fS gr=>
   obtain⟨h1,h2,h3,st,sm,h4,h5⟩:=hg;exact⟨h1,h2,h3,st,sm,h4.MQ fp.MQ (I.eA.lay.sh Wg h2) fun o ho hw=>I.eA.lay.Cx 0 R I.size hp Wg o (Bo.wr _ _ hw) h2 ho,h5⟩
theorem IV.lZ(I:IV P Fin gs w t σ n R g Wg sh lo D S F ps false)(fp:stepG P true g w= .go a' w' es){g':au}(ni:a'=nF b' g')(kK:b'=true->g'.status= .running/\g'.offers=none)
  (hm:m<n\/(m=n/\b'=true))(SH:JM P Fin gJ m R g' w)(nN:deafBehind R.deaf es=R.deaf)(gL:∀j U,j<gs.size->(D j).ey=some U->bD U w w')(jJ:w'.heap.size=w.heap.size)(fQ:sh Wg)
  (eh:∀e∈es,IS Wg e\/e=Go.ConcR.mk (.read (smA Wg))\/e=Go.ConcR.mk (.write (smA Wg)))(zT:zA gJ Wg sh lo gs.size S ps b' w'):
  ∃m₁ ops oO,runT P (crowd gs w sl) 0=(.next m₁,ops)/\Lt2 oO (meas n false gs.size F)/\Inv P Fin oO m₁ (t++ops):=by
 have HD:upd D 0 (.work R)=D:=by rw[<-I.perm];exact kP D 0
 have hW:Wg<w.heap.size:=I.eA.lay.sh Wg fQ;have WH:∀e∈es,∀bb,(MemAct.ofEvent e).touch?=some bb->shl sh bb.loc/\bb.kind≠ .plain/\bb.loc.low w.heap.size:=by
  intro e he bb hb;rcases eh e he with h|rfl|rfl
  ·rcases uf h with h|⟨o,Ej,ho,_,h⟩
   ·rw[h]at hb;cases hb
   ·rw[h]at hb;cases hb;exact⟨⟨fQ,rfl,ho⟩,cK,hW⟩
  ·simp only[Go.ConcR.mk,MemAct.ofEvent,MemAct.touch?,ah]at hb;subst hb;exact⟨⟨fQ,rfl,by simp[smA]⟩,cK,hW⟩
  ·simp only[Go.ConcR.mk,MemAct.ofEvent,MemAct.touch?,ah]at hb;subst hb;exact⟨⟨fQ,rfl,by simp[smA]⟩,cK,hW⟩
 refine I.Rt (g':=g') fp ni kK hm (SH.keeps (gL 0 R I.size (by rw[I.perm];rfl))) nN (fun j U _ hj hU=>gL j U hj hU) ?_ ?_ zT
 ·rw[HD];exact I.eA.lay.Zn av gL
 ·rw[HD,jJ];refine I.eA.ti.app I.eA.lay I.size (ai _) (fun _ _=>rfl) (.inl rfl) Go.ConcR.g_of_ofEvents (fun op dG bb hb=>?_) (fun op dG ad=>?_) (fun op dG bb hb=>?_) (fun FV r h=>by rw[I.perm]at h;cases h)
  ·obtain⟨e,he,rfl⟩:=Go.Conc.mem_ofEvents dG;exact(WH e he bb hb).2.2
  ·obtain⟨e,he,rfl⟩:=Go.Conc.mem_ofEvents dG;rcases eh e he with h|rfl|rfl
   ·exact yF h ad
   ·simp[Go.ConcR.mk,MemAct.ofEvent]
   ·simp[Go.ConcR.mk,MemAct.ofEvent]
  ·obtain⟨e,he,rfl⟩:=Go.Conc.mem_ofEvents dG;have h:=WH e he bb hb;exact .inr ⟨by rw[I.perm];simp,h.1,h.2.1,fun _=>rfl⟩
end
end Go.AM
namespace Go.AM
open Go Go.Conc
open Go.ConcN (RelBy upd upd_same upd_ne sumTo sumTo_congr)
open Go.ConcR (stA smA KK rd wr)
theorem lt2_trans {a b c:Nat×Nat}(h:Lt2 a b)(h':Lt2 b c):Lt2 a c:=by
 obtain⟨a1,a2⟩:=a;obtain⟨b1,b2⟩:=b;obtain⟨c1,c2⟩:=c;rcases Prod.lex_def.1 h with h|⟨h1,h2⟩<;>rcases Prod.lex_def.1 h' with k|⟨k1,k2⟩<;>simp only at*
 ·exact Prod.Lex.left _ _ av
 ·exact Prod.Lex.left _ _ av
 ·exact Prod.Lex.left _ _ av
 ·subst h1;subst k1;exact Prod.Lex.right _ av
theorem BQ {t:Trace}{x y:MemOp}{k:Nat}(hx:x.g=0/\x.act= .go k)(hy:y.g=k/\y.act= .start)(j:Nat):Deaf (t++#[x,y]) j=Deaf t j:=by
 have :=Deaf_append t j [x,y];rw[show([x,y]:List MemOp).toArray=#[x,y]from rfl]at this;rw[this];simp[deafStep,hx.2,hy.2]
theorem UC {size:Nat}{S:Nat->Nat}(h:∀i,i<size->S i=0):Vc size S=0:=by
 unfold Vc;rw[sumTo_congr (g:=fun _=>0) fun i hi=>by rw[h i hi];rfl]
 induction size with
 |zero=>rfl
 |succ k ih=>simp only[sumTo];exact ih fun i hi=>h i av
theorem Lj {S:Nat->Nat}:∀{size:Nat},1<=Vc size S->∃i,i<size/\5<=S i
 |0,h=>by simp[Vc,sumTo]at h
 |k+1,h=>by
  by_cases h5:5<=S k
  ·exact⟨k,av,h5⟩
  ·have :1<=Vc k S:=by simp only[Vc,sumTo,h5,if_false]at h⊢;omega
   obtain⟨i,h1,h2⟩:=Lj this;exact⟨i,av,h2⟩
section
variable {P:aE}{Fin:af->aA->Prop}{gs:Array au}{w w':aA}{t:Trace}{σ gJ:nq}{n m:Nat}{R R' eX Rc:Perm}{g g' a' child:au}{Wg:Nat}{sh:Nat->Prop}{lo:Nat}{D:Nat->WS}{S F:Nat->Nat}{ps:Nat->dA}{b b':Bool}{sl:Option (Nat×Nat)}{es:Array Event}
theorem IV.G9(I:IV P Fin gs w t σ n R g Wg sh lo D S F ps b){j:Nat}(h0:0<j)(hj:j<gs.size)(hS:S j=0):D j= .old/\∃x,gs[j]?=some x/\QuitsD P (F j) (Deaf t j) x:=by
 obtain⟨x,hx,s9⟩:=I.eA.wk j h0 hj;rw[hS]at s9;generalize hD:D j=ws at s9;generalize hd:Deaf t j=d at s9;generalize F j=f at s9;cases s9 with
 |old hq=>exact⟨rfl,x,hx,hd▸hq⟩
theorem IV.vC(I:IV P Fin gs w t .idle n R g Wg sh lo D S F ps false){Ph:Nat}(hs:jN eX R)(tc:∀b o,eX.wr b o->eX.rd b o)(hd:eX.deaf=R.deaf)(h0:R.wr Ph 0)(h1:R.wr Ph 1)(jW:rA Ph w 0 0)(Pp:∀o,o<=1->¬eX.rd Ph o)
  (SH:JM P Fin (.fS ⟨Ph,[],.opn 0⟩) m eX g w):IV P Fin gs w t (.fS ⟨Ph,[],.opn 0⟩) m eX g Ph (fun b=>sh b\/b=Ph) lo (upd D 0 (.work eX)) S F ps false:=by
 obtain⟨l7,_⟩:lo=gs.size/\false=false:=I.fS;have hS:∀j,j<gs.size->S j=0:=fun j hj=>I.eA.old j av
 have hold:∀j,0<j->j<gs.size->D j= .old:=fun j Mu hj=>(I.G9 Mu hj (hS j hj)).1
 have hn:∀j,0<j->upd D 0 (.work eX) j=D j:=fun j hj=>upd_ne D _ av
 have Bo:=I.Ry;have hl1:vN eX w:=⟨fun b o x=>Bo.rd b o (hs.rd b o x),tc,fun b x=>Bo.ob b (hs.ob b x)⟩;refine⟨I.main,fun h=>(by cases h),SH,upd_same ..,I.deaf.trans hd.symm,⟨I.eA.lom,fun j Mu hj=>?_,I.eA.old,I.eA.act,fun j T r hj ln=>?_,I.eA.Ez,I.eA.above,?_,I.eA.ti.begin I.perm hold hs h0 h1 I.size⟩,?_⟩
 ·obtain⟨e,x,hx,hq⟩:=I.G9 Mu hj (hS j hj);refine⟨x,hx,?_⟩;rw[hn j Mu,e,hS j hj];exact .old hq
 ·rcases Nat.eq_zero_or_pos j with rfl|hp
  ·rw[upd_same]at ln;cases ln
  ·rw[hn j hp,hold j hp hj]at ln;cases ln
 ·have key:∀j T,j<gs.size->(upd D 0 (.work eX) j).ey=some T->j=0/\T=eX:=by
   intro j T hj hT;rcases Nat.eq_zero_or_pos j with rfl|hp
   ·rw[upd_same]at hT;exact⟨rfl,(Option.some.inj hT).symm⟩
   ·rw[hn j hp,hold j hp hj]at hT;cases hT
  refine⟨fun j T hj hT=>?_,fun i j T U vl hi hj hT hU=>?_,fun j T hj hT b o hr hb=>?_,fun b hb=>?_⟩
  ·obtain⟨_,rfl⟩:=key j T hj hT;exact hl1
  ·obtain⟨rfl,_⟩:=key i T hi hT;obtain⟨rfl,_⟩:=key j U hj hU;exact absurd rfl vl
  ·obtain⟨rfl,rfl⟩:=key j T hj hT;rcases hb with hb|rfl
   ·exact I.eA.lay.Cx 0 R I.size (by rw[I.perm];rfl) b o (hs.rd b o hr) hb
   ·exact fun ho=>Pp o ho hr
  ·rcases hb with hb|rfl
   ·exact I.eA.lay.sh b hb
   ·exact Bo.rd b 0 (Bo.wr b 0 h0)
 ·refine⟨rfl,.inr rfl,by simp[l7],0,0,jW,?_⟩;have hv:=UC hS;have :Mode lo gs.size S (.opn 0) false ((Vc gs.size S:Nat)*KK) 0:= .opn (fun i h1 h2=>by omega) av av;rw[hv]at this;simpa using this
theorem IV.spawns{V kc:Nat}{pl:List dA}{p:dA}(I:IV P Fin gs w t (.fS ⟨Wg,pl,.added V⟩) n R g Wg sh lo D S F ps false)(h0:R.deaf=0)(fp:stepG P true g w= .spawn g' child w #[])
  (h1:jN eX R)(hc:jN Rc R)(IH:∀b o,eX.wr b o->eX.rd b o)(hwc:∀b o,Rc.wr b o->Rc.rd b o)(ON:eX.deaf=0)(hdc:Rc.deaf=0)(al5:mm eX Rc)(ahU:mm Rc eX)(ahn:FW p)(hjw:JW P Wg p kc Rc child w)(hm:m<n)
  (SH:JM P Fin (.fS ⟨Wg,p::pl,.opn (V+1)⟩) m eX g' w):
  ∃m₁ ops oO,runT P (crowd gs w sl) 0=(.next m₁,ops)/\Lt2 oO (meas n false gs.size F)/\Inv P Fin oO m₁ (t++ops):=by
 have gR:=runT_crowd_spawn (P:=P) (sl:=sl) (i:=0) I.main (show stepG P (0==0) (nF false g) w= .spawn g' child w #[]from fp);obtain⟨_,fQ,dF,st,sm,jW,fC⟩:=I.fS;have iV:=I.size;have Bo:=I.Ry;obtain⟨x,hx⟩:∃x:MemOp,x={g:=0,fn:=(nF false g).frame.fn,pos:=(nF false g).frame.place,act:= .go gs.size}:=⟨_,rfl⟩;obtain⟨y,hy⟩:∃y:MemOp,y={g:=gs.size,fn:=child.frame.fn,pos:=(nF false g).frame.place,act:= .start}:=⟨_,rfl⟩;have KA:((MemOp.ofEvents 0 (nF false g).frame.fn (nF false g).frame.place #[]).push x).push y=#[x,y]:=by rw[ofEvents_eq];simp
 rw[<-hx,<-hy,KA]at gR;have hxg:x.g=0/\x.act= .go gs.size:=by rw[hx];exact⟨rfl,rfl⟩
 have hyg:y.g=gs.size/\y.act= .start:=by rw[hy];exact⟨rfl,rfl⟩
 have jJ:((gs.setIfInBounds 0 g').push child).size=gs.size+1:=cK;have l7:=I.eA.lom;have hn:∀{α:Type} (f:Nat->α) (v:α) j,j<gs.size->upd f gs.size v j=f j:=fun f v j hj=>upd_ne f v av
 have hD:∀j,0<j->j<gs.size->upd (upd D 0 (.work eX)) gs.size (.work Rc) j=D j:=fun j h1 h2=>by rw[hn _ _ j h2,upd_ne _ _ av]
 have hD0:upd (upd D 0 (.work eX)) gs.size (.work Rc) 0= .work eX:=by rw[hn _ _ 0 iV,upd_same]
 have three:∀j,j<gs.size+1->j=0\/(0<j/\j<gs.size)\/j=gs.size:=fun j hj=>by omega
 refine⟨_,_,meas m false ((gs.setIfInBounds 0 g').push child).size (upd F gs.size kc),gR,Prod.Lex.left _ _ hm,_,w,sl,.fS ⟨Wg,p::pl,.opn (V+1)⟩,m,eX,g',Wg,sh,lo,upd (upd D 0 (.work eX)) gs.size (.work Rc),upd S gs.size 7,upd F gs.size kc,upd ps gs.size p,false,rfl,
  ⟨?_,fun h=>(by cases h),SH,hD0,?_,⟨?_,fun j Mu ru=>?_,fun j ru=>?_,fun j Up h2=>?_,fun j T r ru ln=>?_,fun j Up h2=>?_,fun j ru=>?_,?_,?_⟩,?_⟩,rfl⟩
 ·rw[Array.getElem?_push_lt (by simp;omega),<-Array.getElem?_eq_getElem];simp[nF,iV]
 ·rw[BQ hxg hyg,I.deaf,h0,ON]
 ·rw[jJ];omega
 ·rw[jJ]at ru;rw[BQ hxg hyg];rcases three j ru with rfl|⟨_,g2⟩|rfl
  ·omega
  ·obtain⟨z,hz,hzs⟩:=I.eA.wk j Mu g2;refine⟨z,?_,by rw[hD j Mu g2,hn _ _ j g2,hn _ _ j g2,hn _ _ j g2];exact hzs⟩;rw[Array.getElem?_push_lt (by simp;omega),<-Array.getElem?_eq_getElem,Array.getElem?_setIfInBounds_ne av];exact hz
  ·refine⟨child,?_,?_⟩
   ·have e:gs.size=(gs.setIfInBounds 0 g').size:=cK
    conv=>lhs;rw[e]
    exact Array.getElem?_push_size
   ·simp only[upd_same];rw[I.eA.above gs.size (ai _),<-hdc];exact .work hjw
 ·rw[hn _ _ j av];exact I.eA.old j ru
 ·rw[jJ]at h2;rcases Nat.lt_or_ge j gs.size with cN|CI
  ·rw[hn _ _ j cN];exact I.eA.act j Up cN
  ·obtain rfl:j=gs.size:=av;rw[upd_same];omega
 ·rw[jJ]at ru;rcases three j ru with rfl|⟨g1,g2⟩|rfl
  ·rw[hD0]at ln;cases ln
  ·rw[hD j g1 g2]at ln;rw[hn _ _ j g2];exact I.eA.post j T r g2 ln
  ·rw[upd_same]at ln;cases ln
 ·rw[jJ]at h2;rcases Nat.lt_or_ge j gs.size with cN|CI
  ·rw[hn _ _ j cN];exact I.eA.Ez j Up cN
  ·obtain rfl:j=gs.size:=av;rw[upd_same];exact ahn
 ·rw[jJ]at ru;rw[BQ hxg hyg];exact I.eA.above j av
 ·rw[jJ];have key:∀j T,j<gs.size+1->(upd (upd D 0 (.work eX)) gs.size (.work Rc) j).ey=some T->(j=0/\T=eX)\/(0<j/\j<gs.size/\(D j).ey=some T)\/(j=gs.size/\T=Rc):=by
   intro j T hj hT;rcases three j hj with rfl|⟨g1,g2⟩|rfl
   ·rw[hD0]at hT;exact .inl ⟨rfl,(Option.some.inj hT).symm⟩
   ·rw[hD j g1 g2]at hT;exact .inr (.inl ⟨g1,g2,hT⟩)
   ·rw[upd_same]at hT;exact .inr (.inr ⟨rfl,(Option.some.inj hT).symm⟩)
  have hp:(D 0).ey=some R:=by rw[I.perm];rfl
  have dl:∀{T U:Perm},jN T R->mm R U->mm T U:=fun h d=>⟨fun b o x=>d.cell b o (h.wr b o x),fun b x=>d.obj b (h.ob b x)⟩
  have dr:∀{T U:Perm},jN T R->mm U R->mm U T:=fun h d=>⟨fun b o x y=>d.cell b o x (h.rd b o y),fun b x y=>d.obj b x (h.ob b y)⟩
  refine⟨fun j T hj hT=>?_,fun i j T U vl hi hj hT hU=>?_,fun j T hj hT b o hr hb=>?_,I.eA.lay.sh⟩
  ·rcases key j T hj hT with⟨_,rfl⟩|⟨_,g2,Uo⟩|⟨_,rfl⟩
   ·exact⟨fun b o x=>Bo.rd b o (h1.rd b o x),IH,fun b x=>Bo.ob b (h1.ob b x)⟩
   ·exact I.eA.lay.low j T g2 Uo
   ·exact⟨fun b o x=>Bo.rd b o (hc.rd b o x),hwc,fun b x=>Bo.ob b (hc.ob b x)⟩
  ·rcases key i T hi hT with⟨rfl,rfl⟩|⟨g1,g2,Uo⟩|⟨rfl,rfl⟩<;>rcases key j U hj hU with⟨rfl,rfl⟩|⟨g3,g4,hU'⟩|⟨rfl,rfl⟩
   ·exact absurd rfl vl
   ·exact dl h1 (I.eA.lay.Gb 0 j R U vl iV g4 hp hU')
   ·exact al5
   ·exact dr h1 (I.eA.lay.Gb i 0 T R vl g2 iV Uo hp)
   ·exact I.eA.lay.Gb i j T U vl g2 g4 Uo hU'
   ·exact dr hc (I.eA.lay.Gb i 0 T R av g2 iV Uo hp)
   ·exact ahU
   ·exact dl hc (I.eA.lay.Gb 0 j R U av iV g4 hp hU')
   ·exact absurd rfl vl
  ·rcases key j T hj hT with⟨_,rfl⟩|⟨_,g2,Uo⟩|⟨_,rfl⟩
   ·exact I.eA.lay.Cx 0 R iV hp b o (h1.rd b o hr) hb
   ·exact I.eA.lay.Cx j T g2 Uo b o hr hb
   ·exact I.eA.lay.Cx 0 R iV hp b o (hc.rd b o hr) hb
 ·rw[jJ];exact I.eA.ti.fork I.perm h1 hc iV hxg hyg (I.deaf.trans h0) (I.eA.above gs.size (ai _))
 ·rw[jJ];refine⟨rfl,fQ,?_,st,sm,jW,?_⟩
  ·rw[show gs.size+1-lo=(gs.size-lo)+1 by omega,List.range_succ,List.map_append,List.reverse_append];simp only[List.map_cons,List.map_nil,List.reverse_cons,List.reverse_nil,List.nil_append,List.cons_append];rw[show lo+(gs.size-lo)=gs.size by omega,upd_same]
   show p::pl=p::_
   rw[show pl=_ from dF]
   congr 2
   refine List.map_congr_left fun i hi=>?_
   rw[hn _ _ _ (by have :=List.mem_range.1 hi;omega)]
  ·have hv:Vc (gs.size+1) (upd S gs.size 7)=Vc gs.size S+1:=by
    simp only[Vc,sumTo,upd_same];rw[sumTo_congr (g:=fun i=>if 5<=S i then 1 else 0) fun i hi=>by rw[hn _ _ i hi]];rfl
   cases fC with
   |added h2 h3 h4=>
    have :Mode lo (gs.size+1) (upd S gs.size 7) (.opn (V+1)) false ((Vc (gs.size+1) (upd S gs.size 7):Nat)*KK) 0:= .opn (fun i h5 h6=>by
     rcases Nat.lt_or_ge i gs.size with cN|CI
     ·rw[hn _ _ i cN];exact h2 i h5 cN
     ·obtain rfl:i=gs.size:=av;rw[upd_same];simp) av av
    rw[hv]at this;simpa using this
end
end Go.AM
namespace Go.AM
open Go Go.Conc
open Go.ConcN (RelBy upd upd_same upd_ne sumTo sumTo_congr)
open Go.ConcR (stA smA KK rd wr)
section
variable {P:aE}{Fin:af->aA->Prop}{gs:Array au}{w w':aA}{t:Trace}{σ gJ:nq}{n m:Nat}{R R' eX Rc:Perm}{g g' a' child:au}{Wg:Nat}{sh:Nat->Prop}{lo:Nat}{D:Nat->WS}{S F:Nat->Nat}{ps:Nat->dA}{b b':Bool}{sl:Option (Nat×Nat)}{es:Array Event}
theorem IV.adB(I:IV P Fin gs w t σ n R g Wg sh lo D S F ps b){j:Nat}(h0:0<j)(hj:j<gs.size)(hS:S j=1):∃T r,D j= .rel T r/\∃x,gs[j]?=some x/\QuitsD P (F j) (Deaf t j) x:=by
 obtain⟨x,hx,s9⟩:=I.eA.wk j h0 hj;rw[hS]at s9;generalize hD:D j=ws at s9;generalize hd:Deaf t j=d at s9;generalize F j=f at s9;cases s9 with
 |gone hq=>exact⟨_,_,rfl,x,hx,hd▸hq⟩
theorem IV.ahe{pl:List dA}(I:IV P Fin gs w t (.fS ⟨Wg,pl,.fin⟩) n R g Wg sh lo D S F ps false)(h0:R.deaf=0)(fp:stepG P true g w= .go g' w #[Go.ConcR.mk (.acquire (stA Wg))])(hm:m<n)
  (hj:∀Rs:List Perm,bM (fun p S=>p.ok S w/\vN S w/\mm R S/\mm S R) pl Rs->Rs.Pairwise (fun S T=>mm S T/\mm T S)->
    ∃R',R'.deaf=0/\(∀b o,R'.wr b o->R'.rd b o)/\(∀b o,R'.rd b o->R.rd b o\/∃S∈Rs,S.rd b o)/\(∀b,R'.ob b->R.ob b\/∃S∈Rs,S.ob b)/\JM P Fin .idle m R' g' w):
  ∃m₁ ops oO,runT P (crowd gs w sl) 0=(.next m₁,ops)/\Lt2 oO (meas n false gs.size F)/\Inv P Fin oO m₁ (t++ops):=by
 have gR:=I.ady (sl:=sl) fp;obtain⟨_,fQ,dF,st,sm,jW,fC⟩:=I.fS;have hq:AllQuit lo gs.size S:=by cases fC with |fin h=>exact h
 have l7:=I.eA.lom;have iV:=I.size;have hp0:(D 0).ey=some R:=by rw[I.perm];rfl
 have yj:∀j,lo<=j->j<gs.size->∃T r,D j= .rel T r/\∃x,gs[j]?=some x/\QuitsD P (F j) (Deaf t j) x:=fun j h1 h2=>I.adB av h2 (hq j h1 h2)
 let pm:Nat->Perm:=fun i=>((D (lo+i)).ey).getD R
 have hpm:∀i,i<gs.size-lo->∃r,D (lo+i)= .rel (pm i) r/\(D (lo+i)).ey=some (pm i):=fun i hi=>by
  obtain⟨T,r,hT,_⟩:=yj (lo+i) av av;have :pm i=T:=by show((D (lo+i)).ey).getD R=T;rw[hT];rfl
  exact⟨r,by rw[this];exact hT,by rw[this,hT];rfl⟩
 have hR2:bM (fun p S=>p.ok S w/\vN S w/\mm R S/\mm S R) pl ((List.range (gs.size-lo)).reverse.map pm):=by
  rw[show pl=_ from dF,<-List.map_reverse];refine bM.oY fun i hi=>?_
  have HR:i<gs.size-lo:=by simpa using hi
  obtain⟨r,h1,h2⟩:=hpm i HR;exact⟨I.eA.post (lo+i) (pm i) r av h1,I.eA.lay.low (lo+i) (pm i) av h2,I.eA.lay.Gb 0 (lo+i) R (pm i) av iV av hp0 h2,I.eA.lay.Gb (lo+i) 0 (pm i) R av av iV h2 hp0⟩
 have hPW:((List.range (gs.size-lo)).reverse.map pm).Pairwise (fun S T=>mm S T/\mm T S):=by
  rw[List.pairwise_map];have hnd:(List.range (gs.size-lo)).reverse.Nodup:=List.pairwise_reverse.2 (List.Pairwise.imp (fun h=>Ne.symm h) List.nodup_range);refine List.Pairwise.imp_of_mem (fun{i j} hi hj dx=>?_) hnd;have HR:i<gs.size-lo:=by simpa using hi
  have ru:j<gs.size-lo:=by simpa using hj
  obtain⟨_,_,h2⟩:=hpm i HR;obtain⟨_,_,h4⟩:=hpm j ru;have KB:lo+i≠lo+j:=fun h=>dx av
  exact⟨I.eA.lay.Gb (lo+i) (lo+j) _ _ KB av av h2 h4,I.eA.lay.Gb (lo+j) (lo+i) _ _ (Ne.symm KB) av av h4 h2⟩
 obtain⟨R',CJ,abl,ahs,alP,SH⟩:=hj _ hR2 hPW;have yl:∀T∈(List.range (gs.size-lo)).reverse.map pm,∃j,j<gs.size/\(D j).ey=some T:=by
  intro T hT;obtain⟨i,hi,rfl⟩:=List.mem_map.1 hT;have HR:i<gs.size-lo:=by simpa using hi
  obtain⟨_,_,h2⟩:=hpm i HR;exact⟨lo+i,av,h2⟩
 have Bo:=I.Ry;have Ae:vN R' w:=by
  refine⟨fun b o x=>?_,abl,fun b x=>?_⟩
  ·rcases ahs b o x with h|⟨T,hT,h⟩
   ·exact Bo.rd b o h
   ·obtain⟨j,hj,hjT⟩:=yl T hT;exact(I.eA.lay.low j T hj hjT).rd b o h
  ·rcases alP b x with h|⟨T,hT,h⟩
   ·exact Bo.ob b h
   ·obtain⟨j,hj,hjT⟩:=yl T hT;exact(I.eA.lay.low j T hj hjT).ob b h
 have Yx:∀b o,R'.rd b o->sh b->¬o<=1:=by
  intro b o x hb;rcases ahs b o x with h|⟨T,hT,h⟩
  ·exact I.eA.lay.Cx 0 R iV hp0 b o h hb
  ·obtain⟨j,hj,hjT⟩:=yl T hT;exact I.eA.lay.Cx j T hj hjT b o h hb
 obtain⟨x,hx⟩:∃x:MemOp,x={g:=0,fn:=g.frame.fn,pos:=g.frame.place,act:= .mark (.acquire (stA Wg))}:=⟨_,rfl⟩;have KA:MemOp.ofEvents 0 g.frame.fn g.frame.place #[Go.ConcR.mk (.acquire (stA Wg))]=#[x]:=by rw[ofEvents_eq,hx];simp[Go.ConcR.ofEvent_mk]
 rw[KA]at gR;have hxg:∀op∈(#[x]:Array MemOp),op.g=0:=by intro op dG;simp at dG;rw[dG,hx]
 have nN:∀j,Deaf (t++#[x]) j=Deaf t j:=by
  intro j;rw[Deaf_push];simp[deafStep,hx]
 have jJ:(gs.setIfInBounds 0 g').size=gs.size:=cK;have key:∀j T,(if j=0 then WS.work R' else .old).ey=some T->j=0/\T=R':=by
  intro j T hT
  split at hT
  ·rename_i e;exact⟨e,(Option.some.inj hT).symm⟩
  ·cases hT
 refine⟨_,_,meas m false (gs.setIfInBounds 0 g').size F,gR,Prod.Lex.left _ _ hm,_,w,sl,.idle,m,R',g',Wg,sh,gs.size,fun j=>if j=0 then .work R' else .old,fun _=>0,F,ps,false,rfl,
  ⟨?_,fun h=>(by cases h),SH,rfl,?_,⟨by rw[jJ];omega,fun j Mu ru=>?_,fun _ _=>rfl,fun j h1 h2=>(by rw[jJ]at h2;omega),fun j T r ru ln=>?_,fun j h1 h2=>(by rw[jJ]at h2;omega),fun j ru=>?_,?_,?_⟩,?_⟩,rfl⟩
 ·rw[Array.getElem?_setIfInBounds_self_of_lt iV];rfl
 ·rw[nN,I.deaf,h0,CJ]
 ·rw[jJ]at ru;have alY:j≠0:=av;have :∃x,gs[j]?=some x/\QuitsD P (F j) (Deaf t j) x:=by
   rcases Nat.lt_or_ge j lo with cN|CI
   ·exact(I.G9 Mu ru (I.eA.old j cN)).2
   ·obtain⟨_,_,_,h⟩:=yj j CI ru;exact h
  obtain⟨z,hz,Ac⟩:=this;refine⟨z,by rw[Array.getElem?_setIfInBounds_ne av];exact hz,?_⟩;rw[bT alY,nN];exact .old Ac
 ·replace ln:(if j=0 then WS.work R' else .old)= .rel T r:=ln
  split at ln<;>cases ln
 ·rw[jJ]at ru;rw[nN];exact I.eA.above j ru
 ·rw[jJ];refine⟨fun j T hj hT=>?_,fun i j T U vl hi hj hT hU=>?_,fun j T hj hT b o hr hb=>?_,I.eA.lay.sh⟩
  ·obtain⟨_,rfl⟩:=key j T hT;exact Ae
  ·exact absurd ((key i T hT).1.trans (key j U hU).1.symm) vl
  ·obtain⟨_,rfl⟩:=key j T hT;exact Yx b o hr hb
 ·rw[jJ];refine I.eA.ti.T2 iV (fun j h1 h2=>?_) (by rw[hx];exact⟨rfl,rfl⟩) (I.deaf.trans h0) Yx abl;rcases Nat.lt_or_ge j lo with cN|CI
  ·exact .inr (I.G9 h1 h2 (I.eA.old j cN)).1
  ·obtain⟨T,r,hT,_⟩:=yj j CI h2;exact .inl ⟨T,r,hT⟩
 ·exact⟨jJ.symm,rfl⟩
theorem IV.ends(I:IV P Fin gs w t .idle n R g Wg sh lo D S F ps false){v:af}(fp:stepG P true g w= .ended (.done v) w' es)(eh:∀e∈es,nL R e)(pJ:Fin v w'):
  ∃o aR ops,runT P (crowd gs w sl) 0=(.ended o aR,ops)/\∀bI Lq,Good P Fin (crowd gs bI Lq) o aR (t++ops):=by
 obtain⟨l7,_⟩:lo=gs.size/\false=false:=I.fS;have Bo:=I.Ry;have hold:∀j,0<j->j<gs.size->D j= .old/\∃x,gs[j]?=some x/\QuitsD P (F j) (Deaf t j) x:=fun j h1 h2=>I.G9 h1 h2 (I.eA.old j av)
 have Sl:TI Wg sh D gs.size w.heap.size (t++MemOp.ofEvents 0 g.frame.fn g.frame.place es):=by
  refine I.eA.ti.app I.eA.lay I.size (ai _) (fun _ _=>rfl) (.inl rfl) Go.ConcR.g_of_ofEvents (fun op dG bb hb=>?_) (fun op dG ad=>?_) (fun op dG bb hb=>?_) (fun FV r h=>by rw[I.perm]at h;cases h)
  ·obtain⟨e,he,rfl⟩:=Go.Conc.mem_ofEvents dG;exact Fj Bo (qX Bo.wr (.inl (eh e he)) hb).1
  ·obtain⟨e,he,rfl⟩:=Go.Conc.mem_ofEvents dG;exact BI (.inl (eh e he)) ad
  ·obtain⟨e,he,rfl⟩:=Go.Conc.mem_ofEvents dG;exact .inl ⟨R,I.perm,qX Bo.wr (.inl (eh e he)) hb⟩
 refine⟨_,_,_,runT_many_ended (P:=P) (sl:=sl) (i:=0) I.main (show stepG P (0==0) (nF false g) w=_ from fp),fun bI Lq=>⟨v,rfl,pJ,Sl.nr,Sl.over fun j h1 h2=>(hold j h1 h2).1,⟨fun x hx=>?_,rfl⟩,fun j x hx hj=>?_⟩⟩
 ·obtain⟨j,hj⟩:=List.mem_iff_getElem?.1 hx;rw[List.getElem?_drop]at hj;have ru:gs[1+j]?=some x:=by simpa[crowd]using hj
  obtain⟨_,y,hy,hq⟩:=hold (1+j) av (Array.getElem?_eq_some_iff.1 ru).1;rw[ru]at hy;cases hy;exact⟨_,hq.leaves⟩
 ·have uu:gs[j]?=some x:=hx;obtain⟨_,y,hy,hq⟩:=hold j av (Array.getElem?_eq_some_iff.1 uu).1;rw[uu]at hy;cases hy;refine⟨F j,?_⟩;have e:(t++MemOp.ofEvents 0 g.frame.fn g.frame.place es).deaf j (t++MemOp.ofEvents 0 g.frame.fn g.frame.place es).size=Deaf t j:=
   Deaf_other t (g:=j) (g':=0) av _ Go.ConcR.g_of_ofEvents
  show x.endsWith P bI (F j) ((t++MemOp.ofEvents 0 g.frame.fn g.frame.place es).deaf j (t++MemOp.ofEvents 0 g.frame.fn g.frame.place es).size)=some 0
  rw[e];exact hq.hears _
set_option maxHeartbeats 1000000 in
theorem step0:∀(n:Nat) {σ:nq}{R:Perm}{Wg:Nat}{sh:Nat->Prop}{lo:Nat}{D:Nat->WS}{S F:Nat->Nat}{ps:Nat->dA},IV P Fin gs w t σ n R g Wg sh lo D S F ps false->
  (∃o aR ops,runT P (crowd gs w sl) 0=(.ended o aR,ops)/\∀bI Lq,Good P Fin (crowd gs bI Lq) o aR (t++ops))\/
  (∃m₁ ops oO,runT P (crowd gs w sl) 0=(.next m₁,ops)/\Lt2 oO (meas n false gs.size F)/\Inv P Fin oO m₁ (t++ops)):=by
 intro n
 induction n using Nat.strongRecOn with
 |_ n ih=>
  intro σ R Wg sh lo D S F ps I;obtain⟨m,hm,hs⟩:=I.jm.out;have Mt:∀j U,j<gs.size->(D j).ey=some U->bD U w w:=fun _ _ _ _=>bD.refl _ _
  cases hs I.fS.live with
  |own _ h1 h2=>exact .inr (I.VI h1 hm h2)
  |ends _ h1 h2 _ h4=>exact .inl (I.ends h1 h2 h4)
  |vC h1 h2 h3 h4 h5 h6 h7 h8=>
   rcases ih m hm (I.vC h1 h2 h3 h4 h5 h6 h7 h8)with h|⟨m₁,ops,oO,g1,g2,g3⟩
   ·exact .inl h
   ·exact .inr ⟨m₁,ops,oO,g1,lt2_trans g2 (Prod.Lex.left _ _ hm),g3⟩
  |add _ hV h1=>
   obtain⟨rfl,fQ,dF,st,sm,jW,fC⟩:=I.fS;cases fC with
   |opn h2 h3 h4=>
    obtain⟨g',h5,h6⟩:=h1 _ h3 jW;have hk:∀j U,j<gs.size->(D j).ey=some U->bD U w (setSt _ (((Vc gs.size S:Nat)+1)*KK) w):=fun j U hj hU=>pW (I.eA.lay.low j U hj hU) (fun o ho hr=>I.eA.lay.Cx j U hj hU _ o hr fQ ho) jW
    refine .inr (I.lZ (b':=false) h5 rfl (fun h=>by cases h) (.inl hm) h6 (ko (by intro e he;simpa using he) _) hk (size_setCell ..) fQ (fun e he=> .inl ?_) ⟨rfl,fQ,dF,_,_,jW.setSt _,.added h2 h3 hV⟩);simp at he;rcases he with rfl|rfl
    ·exact xq _ _
    ·exact xq _ _
  |said _ h1 h2 h3=>
   obtain⟨rfl,fQ,dF,st,sm,jW,fC⟩:=I.fS;refine .inr (I.lZ (b':=false) h1 rfl (fun h=>by cases h) (.inl hm) h3 ?_ Mt rfl fQ (fun e he=> .inr (h2 e he)) ⟨rfl,fQ,dF,st,sm,jW,fC⟩);have :=nV R.deaf (_:Array Event).toList fun e he=>(h2 e (by simpa using he)).elim (fun x=>by rw[x];simp[Go.ConcR.mk]) fun x=>by rw[x];simp[Go.ConcR.mk]
   simpa using this
  |spawn _ h1 h2 h3 h4 h5 h6 h7 h8 h9 h10 h11 h12 h13=>
   have hW:=I.fS.1;simp only at hW;subst hW;exact .inr (I.spawns h1 h2 h3 h4 h5 h6 h7 h8 h9 h10 h11 h12 hm h13)
  |load _ h1=>
   obtain⟨hW,fQ,dF,st,sm,jW,fC⟩:=I.fS
   replace hW:=hW.symm
   simp only at hW;subst hW;cases fC with
   |opn h2 h3 h4=>
    obtain⟨g',h5,h6,h7⟩:=h1 _ h3 jW;have IN:∀e∈(#[rd (stA Wg)]:Array Event),IS Wg e\/e=Go.ConcR.mk (.read (smA Wg))\/e=Go.ConcR.mk (.write (smA Wg)):=fun e he=> .inl (by simp at he;subst he;exact xq _ _)
    have nN:deafBehind R.deaf (#[rd (stA Wg)]:Array Event)=R.deaf:=ko (by intro e he;simp at he;exact .inl he) _
    by_cases hv:Vc gs.size S=0
    ·refine .inr (I.lZ (b':=false) h5 rfl (fun h=>by cases h) (.inl hm) (h6 hv) nN Mt rfl fQ IN ⟨rfl,fQ,dF,_,_,jW,?_⟩);have :=Mode.fin (allQuit_of h2 hv);rw[hv];simpa using this
    ·exact .inr (I.lZ (b':=false) h5 rfl (fun h=>by cases h) (.inl hm) (h7 hv) nN Mt rfl fQ IN ⟨rfl,fQ,dF,_,_,jW,.seen h2 (ai _) av av⟩)
  |cas _ h1=>
   obtain⟨rfl,fQ,dF,st,sm,jW,fC⟩:=I.fS;cases fC with
   |seen h2 h3 h4 h5=>
    obtain⟨al0,ahF⟩:=h1 _ h3 jW;rcases Nat.eq_or_lt_of_le h3 with hv|hv
    ·obtain⟨g',h6,h7⟩:=al0 hv;have hk:∀j U,j<gs.size->(D j).ey=some U->bD U w (setSt _ ((Vc gs.size S:Nat)*KK+1) w):=fun j U hj hU=>pW (I.eA.lay.low j U hj hU) (fun o ho hr=>I.eA.lay.Cx j U hj hU _ o hr fQ ho) jW
     refine .inr (I.lZ (b':=false) h6 rfl (fun h=>by cases h) (.inl hm) h7 (ko (by intro e he;simpa using he) _) hk (size_setCell ..) fQ (fun e he=> .inl ?_) ⟨rfl,fQ,dF,_,_,jW.setSt _,.reg h2 av av⟩);simp at he;rcases he with rfl|rfl
     ·exact xq _ _
     ·exact xq _ _
    ·obtain⟨g',h6,h7⟩:=ahF (Nat.ne_of_lt hv);exact .inr (I.lZ (b':=false) h6 rfl (fun h=>by cases h) (.inl hm) h7 (ko (by intro e he;simp at he;exact .inl he) _) Mt rfl fQ (fun e he=> .inl (by simp at he;subst he;exact xq _ _)) ⟨rfl,fQ,dF,_,_,jW,.opn h2 av av⟩)
  |sem hr abA h1 h2=>
   obtain⟨rfl,fQ,dF,st,sm,jW,fC⟩:=I.fS;have kK:∀j7,rA _ w j7 0->Mode lo gs.size S .reg true j7 0->(∃m₁ ops oO,runT P (crowd gs w sl) 0=(.next m₁,ops)/\Lt2 oO (meas n false gs.size F)/\Inv P Fin oO m₁ (t++ops)):=fun j7 zO hmo=>
    I.lZ (b':=true) (g':=g) (h1 j7 zO) rfl (fun _=>⟨hr,abA⟩) (.inr ⟨rfl,rfl⟩) I.jm rfl Mt rfl fQ (fun e he=>by simp at he) ⟨rfl,fQ,dF,j7,0,zO,hmo⟩
   cases fC with
   |reg h3 h4 h5=>exact .inr (kK _ jW (.reg h3 h4 h5))
   |last L h3 h4 h5 h6=>exact .inr (kK _ jW (.last L h3 h4 h5 h6))
   |sema h3=>
    obtain⟨g',h4,h5⟩:=h2 jW;have hk:∀j U,j<gs.size->(D j).ey=some U->bD U w (setSm _ 0 w):=fun j U hj hU=>zf (I.eA.lay.low j U hj hU) (fun o ho hr=>I.eA.lay.Cx j U hj hU _ o hr fQ ho) jW
    refine .inr (I.lZ (b':=false) h4 rfl (fun h=>by cases h) (.inl hm) h5 (by simp[semEvents,deafBehind]) hk (size_setCell ..) fQ (fun e he=> .inl ?_) ⟨rfl,fQ,dF,_,_,jW.setSm _,.S6 h3⟩);simp[semEvents]at he;rcases he with rfl|rfl|rfl|rfl
    ·exact .inl rfl
    ·exact MU _ _
    ·exact MU _ _
    ·exact .inr (.inl rfl)
  |last _ h1=>
   obtain⟨rfl,fQ,dF,st,sm,jW,fC⟩:=I.fS;cases fC with
   |S6 h3=>
    obtain⟨g',h4,h5⟩:=h1 jW;exact .inr (I.lZ (b':=false) h4 rfl (fun h=>by cases h) (.inl hm) h5 (ko (by intro e he;simp at he;exact .inl he) _) Mt rfl fQ (fun e he=> .inl (by simp at he;subst he;exact xq _ _)) ⟨rfl,fQ,dF,_,_,jW,.fin h3⟩)
  |acq _ h1 h2 h3=>
   have hW:=I.fS.1;simp only at hW;subst hW;exact .inr (I.ahe h1 h2 hm h3)
end
end Go.AM
namespace Go.AM
open Go Go.Conc
open Go.ConcN (RelBy upd upd_same upd_ne sumTo sumTo_congr)
open Go.ConcR (stA smA KK rd wr)
section
variable {P:aE}{Fin:af->aA->Prop}{gs:Array au}{w w':aA}{t:Trace}{σ gJ:nq}{n m:Nat}{R:Perm}{g:au}{Wg:Nat}{sh:Nat->Prop}{lo:Nat}{D:Nat->WS}{S F:Nat->Nat}{ps:Nat->dA}{b:Bool}{sl:Option (Nat×Nat)}
theorem IV.at(I:IV P Fin gs w t σ n R g Wg sh lo D S F ps b)(d:Nat):IV P Fin gs (w.at d) t σ n R g Wg sh lo D S F ps b:=by
 have hk:∀T,bD T w (w.at d):=fun T=>bD.at T w d
 refine⟨I.main,I.blk,I.jm.keeps (hk R),I.perm,I.deaf,⟨I.eA.lom,fun j h1 h2=>?_,I.eA.old,I.eA.act,fun j T r hj ln=>?_,I.eA.Ez,I.eA.above,I.eA.lay.Zn (ai _) fun j T _ _=>hk T,I.eA.ti⟩,?_⟩
 ·obtain⟨x,hx,s9⟩:=I.eA.wk j h1 h2;exact⟨x,hx,s9.keeps fun T _=>hk T⟩
 ·have l7:lo<=j:=Nat.le_of_not_lt fun cN=>by
   have h0:=I.eA.old j cN;rcases Nat.eq_zero_or_pos j with rfl|hp
   ·rw[I.perm]at ln;cases ln
   ·obtain⟨x,_,s9⟩:=I.eA.wk j hp hj;rw[h0,ln]at s9;cases s9
  exact I.eA.Ez j l7 hj T w _ (I.eA.post j T r hj ln) (hk T)
 ·have hg:=I.fS;cases σ with
  |Ap=>exact hg.elim
  |idle=>exact hg
  |fS gr=>
   obtain⟨h1,h2,h3,st,sm,h4,h5⟩:=hg;exact⟨h1,h2,h3,st,sm,h4.at d,h5⟩
theorem IV.UQ(I:IV P Fin gs w t σ n R g Wg sh lo D S F ps b):∃(i:Nat) (x:au),gs[i]?=some x/\x.status= .running:=by
 cases b with
 |false=>exact⟨0,_,I.main,I.running⟩
 |true=>
  have key:∀i,i<gs.size->2<=S i->∃(i:Nat) (x:au),gs[i]?=some x/\x.status= .running:=by
   intro i hi h2;have wU:0<i:=Nat.pos_of_ne_zero fun e=>by
    subst e;have :=I.eA.old 0 (by have :=I.eA.lom;omega);omega
   obtain⟨x,hx,s9⟩:=I.eA.wk i wU hi;exact⟨i,x,hx,s9.status.elim id fun h=>by omega⟩
  have hg:=I.fS;cases σ with
  |Ap=>exact hg.elim
  |idle=>obtain⟨_,h⟩:=hg;cases h
  |fS gr=>
   obtain⟨_,_,_,st,sm,_,fC⟩:=hg;generalize hgs:gr.sub=s at fC;cases fC with
   |reg h1 h2 h3=>
    obtain⟨i,hi,h5⟩:=Lj h2;exact key i hi av
   |last L h1 h2 h3 h4=>exact key L h2 av
theorem IV.awake(I:IV P Fin gs w t σ n R g Wg sh lo D S F ps b):∀x∈gs,awake x:=by
 intro x hx;obtain⟨i,hi,rfl⟩:=Array.mem_iff_getElem.1 hx;rcases Nat.eq_zero_or_pos i with rfl|hp
 ·have :gs[0]=nF b g:=by have :=I.main;rw[Array.getElem?_eq_getElem hi]at this;exact Option.some.inj this
  rw[this];exact Hi fun _=>I.running
 ·obtain⟨x,hx,s9⟩:=I.eA.wk i hp hi;rw[Array.getElem?_eq_getElem hi]at hx;rw[Option.some.inj hx];exact awake_of (s9.status.elim .inl fun h=> .inr (.inr h.1))
theorem Sc (μ:Nat×Nat)(m:Machine)(t:Trace)(h:Inv P Fin μ m t):
  (∃o w ops,stepT P m=(.ended o w,ops)/\Good P Fin m o w (t++ops))\/(∃m' ops oO,stepT P m=(.next m',ops)/\Lt2 oO μ/\Inv P Fin oO m' (t++ops)):=by
 obtain⟨gs,w,sl,σ,n,R,g,Wg,sh,lo,D,S,F,ps,b,rfl,I,rfl⟩:=h;obtain⟨i,x,d,sl',hx,hr,fp⟩:=crowd_pick (P:=P) (w:=w) (sl:=sl) I.awake I.UQ;have I':=I.at d;have hi:i<gs.size:=(Array.getElem?_eq_some_iff.1 hx).1;rcases Nat.eq_zero_or_pos i with rfl|hp
 ·cases b with
  |true=>
   rw[I.main]at hx;cases hx;cases hr
  |false=>
   rcases step0 (sl:=sl') n I' with⟨o,aR,ops,h1,h2⟩|⟨m₁,ops,oO,h1,h2,h3⟩
   ·exact .inl ⟨o,aR,ops,fp.trans h1,h2 w sl⟩
   ·exact .inr ⟨m₁,ops,oO,fp.trans h1,h2,h3⟩
 ·obtain⟨m₁,ops,oO,h1,h2,h3⟩:=I'.stepW (sl:=sl') hp hi hx hr;exact .inr ⟨m₁,ops,oO,fp.trans h1,h2,h3⟩
theorem E3 {W:aA}(hj:JM P Fin .idle n R g W)(hl:vN R W)(hd:R.deaf=0):
  ∃N last o w' t',runNT P (N+1) (solo g W) #[]=(.ended o w',t')/\runN P N (solo g W)= .next last/\step P last= .ended o w'/\Good P Fin last o w' t':=by
 refine run_of_inv (Prod.lex ⟨(·< ·),Nat.lt_wfRel.wf⟩ ⟨(·< ·),Nat.lt_wfRel.wf⟩).wf (Inv P Fin) (Good P Fin) Sc (meas n false 1 (fun _=>0)) _ _ ?_;have h0:∀{i:Nat}{a:Touch},touchAt #[] i=some a->False:=fun h=>by simp[touchAt,Trace.act?]at h
 refine⟨#[g],W,none,.idle,n,R,g,0,fun _=>False,1,fun _=> .work R,fun _=>0,fun _=>0,fun _=>⟨fun _ _=>True⟩,false,rfl,⟨rfl,fun h=>(by cases h),hj,rfl,hd.symm▸rfl,⟨cK,fun i h1 h2=>?_,fun _ _=>rfl,fun i h1 h2=>?_,fun i T r hi h=>(by cases h),fun i h1 h2=>?_,fun _ _=>rfl,?_,?_⟩,⟨rfl,rfl⟩⟩,rfl⟩
 ·simp at h2;omega
 ·simp at h2;omega
 ·simp at h2;omega
 ·refine⟨fun k T hk hT=>?_,fun j k T U OJ hj hk _ _=>?_,fun k T hk hT b o hr hb=>hb.elim,fun b hb=>hb.elim⟩
  ·cases hT;exact hl
  ·simp at hj hk;omega
 ·refine⟨fun said=>?_,fun op dG=>(by simp at dG),fun i a ha=>(h0 ha).elim,fun k T hk hT i a ha=>(h0 ha).elim,fun k T hk hT i a ha=>(h0 ha).elim,fun i a ha=>(h0 ha).elim,fun i a ha=>(h0 ha).elim,fun k T r hk h=>(by cases h),fun a i h=>(by simp[Trace.act?]at h),fun i k hi=>(by simp[Trace.g?]at hi),⟨R,rfl⟩⟩;rintro⟨i,j,_,⟨a,b,ha,_⟩,_⟩;simp[Trace.act?]at ha
end
end Go.AM
namespace Go.AM
open Go Go.Conc
section
variable {P:aE}{E:Perm}{bI:aA}{ρ:dL}{m bk:Mem}{w:aA}{wa d o:Nat}{p:Pl}
theorem fO.fields(h:fO ρ m w)(fl:Nat)(op:List Span)(wg:Option Nat)(pn:List zV):fO ρ {m with floor:=fl,opn:=op,wg:=wg,pend:=pn} w:=
 ⟨h.nj,h.cells,h.lT,h.thaw,h.maps,h.lN,h.sep,h.rr,h.vars⟩
theorem E' {l:List Span}(h:l.all (fun s=>x9 m s&&s.1 !=wa)=true):∀s∈l,s.2.1=s.1+1/\m.base<=s.1/\m.floor<=s.1/\s.1<m.next/\(m.blk s.1).kind=1/\s.1≠wa:=by
 intro s hs;rw[aV]at h;have :=h s hs;simp only[x9,aj,jE,beq_iff_eq,bne_iff_ne]at this;obtain⟨⟨⟨⟨⟨⟨h1,h2⟩,h3⟩,h4⟩,h5⟩,_⟩,h6⟩:=this;exact⟨h1,h2,h3,h4,h5,h6⟩
theorem mO {l:List Span}{b o:Nat}(h:bG l b o=true):∃s∈l,s.1<=b/\b<s.2.1/\(s.2.2=none\/s.2.2=some o):=by
 unfold bG at h;rw[List.any_eq_true]at h;obtain⟨s,hs,h⟩:=h;simp only[aj,jE]at h;refine⟨s,hs,h.1.1,h.1.2,?_⟩;have h2:=h.2
 split at h2
 ·rename_i e;exact .inl e
 ·rename_i y e;exact .inr (by rw[e];simpa using h2)
theorem Bz (hg:m.wg=none)(h:lE wa d o m=some bk):∃l,bk={m.bE wa {}with wg:=some wa,opn:=l,floor:=m.next}/\oj m d o 4=some l/\m.dQ wa 0 2=some [.int .u64 0,.int .u32 0]/\m.cY wa 0 2=true/\m.gv wa=true/\
  (m.blk wa).pos=1/\(m.blk wa).cs.length=2/\m.bO=[]/\m.opn=[]/\m.pend=[]/\m.floor=m.base/\l.all (fun s=>x9 m s&&s.1 !=wa)=true/\pt l=true:=by
 unfold lE at h;rw[hg]at h;simp only[]at h
 split at h
 ·rename_i l hl hla
  split at h
  ·rename_i hc;simp only[ah]at h;simp only[aj,jE,beq_iff_eq]at hc;obtain⟨⟨⟨⟨⟨⟨⟨⟨⟨c1,c2⟩,c3⟩,c4⟩,c5⟩,c6⟩,c7⟩,c8⟩,c9⟩,c10⟩:=hc;exact⟨l,h.symm,hla,hl,c1,c2,c3,c4,c5,c6,c7,c8,c9,c10⟩
  ·cases h
 ·cases h
theorem HV (H:dd P E bI .idle ρ m w)(h:lE wa d o m=some bk)(hp:ρ wa=some p):
  p.d=0/\dd P E bI (.fS ⟨p.c,[],.opn 0⟩) ρ bk w/\jN ((aB ρ bk).or E) ((aB ρ m).or E)/\(∀b o,((aB ρ bk).or E).wr b o->((aB ρ bk).or E).rd b o)/\bk.deaf=m.deaf/\
   ((aB ρ m).or E).wr p.c 0/\((aB ρ m).or E).wr p.c 1/\rA p.c w 0 0/\∀x,x<=1->¬((aB ρ bk).or E).rd p.c x:=by
 obtain⟨hgw,hgp,hgh⟩:m.wg=none/\m.pend=[]/\m.home<=m.next:=H.fS;obtain⟨l,rfl,hla,hl,c1,c2,c3,c4,c5,c6,c7,c8,c9,c10⟩:=Bz hgw h;have hs:=H.ku;have hk:(m.blk wa).kind=1:=(Mem.oZ hl).1;have hd:p.d=0:=hs.vars wa p hp hk c3;obtain⟨_,Mk,_⟩:=hs.cells wa p hp hk;have pf:∀i,i<2->∃v,[af.int .u64 0,af.int .u32 0][i]?=some v/\m.cell wa i=some v:=fun i hi=>by
  obtain⟨v,h1,h2⟩:=(Mem.oZ hl).2.2 i hi;exact⟨v,h1,by simpa using h2⟩
 have Bw:=Mem.kS c1;have tc:∀i,i<2->(aB ρ m).wr p.c i:=fun i hi=>by
  obtain⟨v,_,hc⟩:=pf i hi;have h1:=(Mem.qm c1 hi).2;have :=xF (ρ:=ρ) (m:=m) hp (o:=i) av ⟨Mem.eN hc,by simpa using h1⟩;rw[hd]at this;simpa using this
 have hnx:wa<m.next:=hs.nj wa p hp;have kK:∀b,({m.bE wa {}with wg:=some wa,opn:=l,floor:=m.next}:Mem).blk b=if wa=b then{bw:=m.tick}else m.blk b:=fun b=>Mem.eK ..
 have hR:∀b x,({m.bE wa {}with wg:=some wa,opn:=l,floor:=m.next}:Mem).pz b x->b≠wa/\m.pz b x:=by
  intro b x hr;obtain⟨h1,h2,h3⟩:=hr;rw[kK]at h1 h3
  by_cases e:wa=b
  ·rw[bL e]at h1;cases h1
  ·rw[bT e]at h1 h3;exact⟨fun x=>e x.symm,h1,h2,h3⟩
 have hW:∀b x,({m.bE wa {}with wg:=some wa,opn:=l,floor:=m.next}:Mem).okW b x->m.okW b x:=by
  intro b x hw;obtain⟨h1,h2⟩:=hw;have h3:=(hR b x h1).2;refine⟨h3,.inl ?_⟩;rcases h2 with h2|h2
  ·exact absurd h3.1 (by rw[H.wf.DL b h2];simp)
  ·obtain⟨s,sA,g1,g2,_⟩:=mO h2;obtain⟨e1,_,e3,_⟩:=E' c9 s sA;omega
 have Yz:∀b x,(aB ρ {m.bE wa {}with wg:=some wa,opn:=l,floor:=m.next}).rd b x->(aB ρ m).rd b x:=fun b x ⟨b',p',g1,g2,g3,g4,g5⟩=>⟨b',p',g1,g2,g3,g4,(hR _ _ g5).2⟩
 have ahf:∀b x,(aB ρ {m.bE wa {}with wg:=some wa,opn:=l,floor:=m.next}).wr b x->(aB ρ m).wr b x:=fun b x ⟨b',p',g1,g2,g3,g4,g5⟩=>⟨b',p',g1,g2,g3,g4,hW _ _ g5⟩
 have Dw:∀b,(aB ρ {m.bE wa {}with wg:=some wa,opn:=l,floor:=m.next}).ob b->(aB ρ m).ob b:=by
  rintro b ⟨b',p',g1,g2,g3,g4⟩;rw[kK]at g3
  by_cases e:wa=b'
  ·rw[bL e]at g3;rcases g3 with g3|g3<;>cases g3
  ·rw[bT e]at g3;exact⟨b',p',g1,g2,g3,g4⟩
 have abp:fO ρ ({m.bE wa {}with wg:=some wa,opn:=l,floor:=m.next}:Mem) w:=(hs.kill wa).fields m.next l (some wa) m.pend;have hwc:rA p.c w 0 0:=by
  have hv:∀i,i<2->∀u,m.cell wa i=some u->(∀u',bg ρ u u'->u'=u)->w.cell? ⟨p.c,i,none⟩=some u:=by
   intro i hi u hu fx;obtain⟨v',g1,g2⟩:=hs.lT wa p i u hp hu;rw[hd,Nat.zero_add]at g1;rw[g1,fx v' g2]
  refine⟨hv 0 av _ ?_ fun u' hu=>(aL (by rfl)).1 hu,hv 1 av _ ?_ fun u' hu=>(aL (by rfl)).1 hu,fun x hx=>?_⟩
  ·obtain⟨v,g1,g2⟩:=pf 0 av;simp only[List.getElem?_cons_zero,ah]at g1;subst g1;exact g2
  ·obtain⟨v,g1,g2⟩:=pf 1 av;simp only[List.getElem?_cons_succ,List.getElem?_cons_zero,ah]at g1;subst g1;exact g2
  ·have :=hs.thaw wa p x hp av hk Bw;rw[hd,Nat.zero_add]at this;exact this
 have Pp:∀x,x<=1->¬((aB ρ {m.bE wa {}with wg:=some wa,opn:=l,floor:=m.next}).or E).rd p.c x:=by
  intro x hx hr;rcases hr with⟨b',p',g1,g2,g3,g4,g5⟩|hr
  ·obtain⟨dx,jA⟩:=hR _ _ g5;obtain⟨_,_,h3⟩:=hs.sep b' wa p' p dx g1 hp (by rw[jA.1];simp) (by rw[hk];simp) g2;omega
  ·exact(H.apart.cell p.c x hr).2 (tc x av)
 refine⟨hd,⟨abp,H.rest,⟨fun b x he=>⟨(H.apart.cell b x he).1,fun hw=>(H.apart.cell b x he).2 (ahf b x hw)⟩,fun b he=>⟨(H.apart.obj b he).1,fun hw=>(H.apart.obj b he).2.1 (Dw b hw),(H.apart.obj b he).2.2⟩,H.apart.wf⟩,H.qy,?_,?_,fun b q x g1 gb g3 g4 g5=>H.K' b q x g1 gb g3 g4 (hR _ _ g5).2,fun b x he hr=>H.ew b x he (Yz b x hr)⟩,
  ⟨fun b x hr=>hr.imp (Yz b x) id,fun b x hw=>hw.imp (ahf b x) id,fun b hb=>hb.imp (Dw b) id⟩,fun b x hw=>hw.elim (fun y=> .inl (lW y)) fun y=> .inr (H.apart.wf b x y),rfl,.inl (tc 0 av),.inl (tc 1 av),hwc,Pp⟩
 ·refine⟨rfl,cK,⟨hgh,by show m.base<=m.next;rw[<-c8];exact H.wf.fl⟩,wa,rfl,hnx,hnx,fun q hq=>?_,?_⟩
  ·rw[hp]at hq;cases hq;exact⟨rfl,hd⟩
  ·refine⟨?_,fun x hx=>?_,?_⟩
   ·show bM _ m.pend []
    rw[hgp];trivial
   ·have uu:x∈m.bO:=hx;rw[c5]at uu;cases uu
   ·show m.pend.Pairwise _
    rw[hgp];exact List.Pairwise.nil
 ·have hw:=(jD.own c2).2.2 H.wf;exact⟨hw.bw,hw.DL,hw.bO,ai _,hw.live⟩
end
end Go.AM
