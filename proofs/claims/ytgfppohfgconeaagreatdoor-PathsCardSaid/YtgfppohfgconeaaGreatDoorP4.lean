/-
  What the claim stands on, part 4.
-/
import Derived.Test.YtgfppohfgconeaaGreatDoorP3
import Derived.Conc.CrowdBase
import Derived.Conc.Beside
set_option linter.unusedVariables false
set_option linter.unusedSimpArgs false
open Option renaming some → Z, none → Y
open Bool renaming true → U, false → O
open Go renaming Value → ab, Goroutine → ak, World → ar, Program → aE
open Bool renaming and_eq_true → ag, false_eq_true → cK
open Option.some renaming injEq → ah
open Nat renaming le_refl → aj, eq_of_beq_eq_true → aA, lt_of_lt_of_le → aZ
open Prod.mk renaming injEq → ay
open List renaming all_eq_true → aB, mem_cons → aN
open Option renaming map_eq_some_iff → aD, map_some → dk
namespace Go.AM
open Go Go.Conc
theorem ab3 {e}(a:e≠ .normal){x k todo}(h:Out e (.code x::k) todo):Out e k todo:=by
 cases e with
 |normal=>exact absurd rfl a
 |ret=>exact h
 |exit id=>exact h
 |goto l=>exact h
 |_=>exact h.elim
section
variable {P:aE}{X:Ext}{main:Bool}{J:JT}{F:Mem->Mem->Prop}{nt:Nat}{call:cH}
theorem FY {b:Frame}{a k cs w c}:stepG P main (G (b.at a (.inScope c::k)) cs) w=.go (G (b.at a k) cs) w:=by simp[G,stepG,stepG.exec,Frame.at]
theorem Ks {b:Frame}{a k cs w c}:stepG P main (G (b.at a (.code (.scope c)::k)) cs) w=.go (G (b.at a (.code c::.inScope c::k)) cs) w:=by simp[G,stepG,stepG.exec,Frame.at]
theorem Nw {b:Frame}{a k c cs w}{l:Nat}(h:gotoIn l k=Z c):stepG P main (G (b.at a (.code (.goto l)::k)) cs) w=.go (G (b.at a c) cs) w:=by simp[G,stepG,stepG.exec,Frame.at,h]
def J0 (P:aE)(J:JT)(F:Mem->Mem->Prop)(nt:Nat)(call:cH)(c:Code)(f:Go.AM.F):Prop:=
 ∀{st kz:Ss}{e:Exit},f call st=Z (e,kz)->Wf st.mem->F st.mem kz.mem/\∃n,∀k,fh P J nt st kz (.code c::k) (Out e k) n
theorem Hi (j:∀p,gN P main (J p))(d:yo F){body o}(f:J0 P J F nt call body o):∀(N:Nat) {st b:Ss}{e:Exit},y8 o call N st=Z (e,b)->Wf st.mem->
  F st.mem b.mem/\∃n,∀k,fh P J nt st b (.code body::.inLoop body::k) (Out e k) n
 |0,st,b,e,h,_=>by cases h
 |N+1,st,b,e,h,hw=>by
  unfold y8 at h
  split at h
  .rename_i jf q;obtain⟨c,n,i⟩:=f q hw;obtain⟨t,m,s⟩:=Hi j d f N h ((d.mv c).wf hw);refine⟨d.trans c t,(m+1)+n,λk=>fh.trans (i _) (d.mv c) λA a=>?_⟩;have g:A=.inLoop body::k:=a;subst g;exact fh.trans (fh.move j stepG_inLoop) (Mv.refl _) λA a=>by subst a;exact s k
  .rename_i r u;obtain⟨c,n,i⟩:=f h hw;refine⟨c,n,λk=>(i (.inLoop body::k)).weaken λA a=>?_⟩;cases e with
   |normal=>exact absurd h (u b)
   |ret=>exact a
   |exit id=>exact a
   |goto l=>exact a
   |_=>exact a.elim
theorem DC (t:∀x,gN P main (J x))(j:yo F){body has VD}(v:∀l c f,findLabel body l=Z c->VD l=Z f->J0 P J F nt call c f)(g:∀l,has l=(findLabel body l).isSome):
  ∀(N:Nat) {c:Code}{p:Go.AM.F},J0 P J F nt call c p->∀{st i:Ss}{e:Exit},z8 has VD call N p st=Z (e,i)->Wf st.mem->
   F st.mem i.mem/\∃n,∀k,fh P J nt st i (.code c::.inScope body::k) (Out e k) n
 |0,c,p,_,st,i,e,h,_=>by cases h
 |N+1,c,p,w,st,i,e,h,hw=>by
  unfold z8 at h
  split at h
  .rename_i l jf y;obtain⟨b,n,d⟩:=w y hw;cases o:findLabel body l with
   |some c2=>
    rw[g,o]at h;simp only[Option.isSome_some,if_true]at h
    split at h
    .rename_i C E;obtain⟨B,m,z⟩:=DC t j v g N (v l c2 C o E) h ((j.mv b).wf hw);refine⟨j.trans b B,(m+1)+n,λk=>fh.trans (d _) (j.mv b) λA a=>?_⟩;obtain⟨q,rfl,s⟩:=a;have G:gotoIn l q=Z (.code c2::.inScope body::k):=by
      rw[s]
      show gotoIn l (.inScope body::k)=_
      simp only[gotoIn,o]
     exact fh.trans (fh.move t (Nw G)) (Mv.refl _) λA a=>by subst a;exact z k
    .cases h
   |none=>
    rw[g,o]at h;simp only[Option.isSome_none,cK,if_false,ah,ay]at h;obtain⟨rfl,rfl⟩:=h;refine⟨b,n,λk=>(d _).weaken λA a=>?_⟩;obtain⟨q,rfl,s⟩:=a;refine⟨q,rfl,?_⟩;rw[s];simp only[gotoIn,o]
  .rename_i r D;obtain⟨b,n,d⟩:=w h hw;cases e with
   |normal=>
    refine⟨b,1+n,λk=>fh.trans (d _) (j.mv b) λA a=>?_⟩;have u:A=.inScope body::k:=a;subst u;exact fh.move t FY
   |ret=>exact⟨b,n,λk=>(d _).weaken λA a=>a⟩
   |exit id=>exact⟨b,n,λk=>(d _).weaken λA a=>a⟩
   |goto l=>exact absurd h (D l i)
   |_=>exact⟨b,n,λk=>(d _).weaken λA a=>a.elim⟩
theorem HT (p:∀L,gN P main (J L))(hX:rH P X)(q:yo F)(C:gE P X main J F call)(rY:nt<=512):∀(n:Nat) (c:Code) (f:Go.AM.F),comp P nt n c=Z f->J0 P J F nt call c f:=by
 intro n
 induction n with
 |zero=>intro c f h;unfold comp at h;cases h
 |succ n r=>
  intro c f h st W e g s;cases c with
  |skip=>
   unfold comp at h;cases h;unfold yO at g;simp only[ah,ay]at g;obtain⟨rfl,rfl⟩:=g;exact⟨q.refl _,1,λk=>fh.move p stepG_skip⟩
  |label l=>
   unfold comp at h;cases h;unfold yO at g;simp only[ah,ay]at g;obtain⟨rfl,rfl⟩:=g;exact⟨q.refl _,1,λk=>fh.move p stepG_label⟩
  |seq a b=>
   unfold comp at h;simp only[]at h
   split at h
   .rename_i N M
    split at h
    .rename_i v u;cases h;unfold qg at g
     split at g
     .rename_i jf T;obtain⟨i,o,m⟩:=r a N M T s;obtain⟨g3,n2,g4⟩:=r b v u g ((q.mv i).wf s);refine⟨q.trans i g3,(n2+o)+1,λk=>fh.trans (fh.move p stepG_seq) (Mv.refl _) λA d=>?_⟩;subst d;exact fh.trans (m _) (q.mv i) λA d=>by
       have y:A=.code b::k:=d;subst y;exact g4 k
     .rename_i K;obtain⟨i,o,m⟩:=r a N M g s;refine⟨i,o+1,λk=>fh.trans (fh.move p stepG_seq) (Mv.refl _) λA d=>?_⟩;subst d;exact(m _).weaken λA d=>ab3 (λD=>K W (by rw[g,D])) d
    .cases h
   .cases h
  |cond x a b=>
   unfold comp at h;simp only[]at h
   split at h
   .rename_i R
    split at h
    .rename_i N M
     split at h
     .rename_i v u;have S:=aK h;cases S;unfold Ra at g;have V:∀(t:Bool),dG st.tm x=.bool t->∀k,fh P J nt st st (.code (.cond x a b)::k) (·=.code (if t then a else b)::k) 1:=by
       intro t z k;refine⟨λ{E bJ L ρ w bb aa cs n} hk H G QH=>?_⟩;have hv:=Mg G.tm H R;rw[z]at hv;have eG:aa.eval x=.bool t:=(aG rfl).1 hv;refine oG (p L) rfl (λw=>stepG_cond eG) λaR kq=>?_
       exact QH L ρ aR aa _ rfl (dz.le_refl _) (.of λ_ _=>rfl) (H.keeps kq) G
      split at g
      .rename_i z;obtain⟨i,o,m⟩:=r a N M g s;exact⟨i,o+1,λk=>fh.trans (V U z k) (Mv.refl _) λA d=>by subst d;exact m k⟩
      .rename_i z;obtain⟨i,o,m⟩:=r b v u g s;exact⟨i,o+1,λk=>fh.trans (V O z k) (Mv.refl _) λA d=>by subst d;exact m k⟩
      .cases g
     .cases h
    .cases h
   .cases h
  |block id b=>
   unfold comp at h;simp only[]at h
   split at h
   .rename_i v u;cases h;unfold JN at g
    split at g
    .rename_i j jf T;obtain⟨i,o,m⟩:=r b v u T s
     split at g
     .rename_i B;simp only[ah,ay]at g;obtain⟨rfl,rfl⟩:=g;have rA:=aA B;subst rA;refine⟨i,(1+o)+1,λk=>fh.trans (fh.move p stepG_block) (Mv.refl _) λA d=>?_⟩;subst d;refine fh.trans (m _) (q.mv i) λA d=>?_
      obtain⟨Q,rfl,D⟩:=d;have Jj:exitTo j Q=Z k:=by rw[D];simp[exitTo]
      exact fh.move p (stepG_exit Jj)
     .rename_i B;simp only[ah,ay]at g;obtain⟨rfl,rfl⟩:=g;refine⟨i,o+1,λk=>fh.trans (fh.move p stepG_block) (Mv.refl _) λA d=>?_⟩;subst d;refine(m _).weaken λA d=>?_
      obtain⟨Q,rfl,D⟩:=d;refine⟨Q,rfl,?_⟩;rw[D];have K:(id==j)=O:=by
       rw[MK]at B;simp only[iU]at B;simpa using λh=>B h.symm
      simp only[exitTo,K,cK,if_false]
    .rename_i K;obtain⟨i,o,m⟩:=r b v u g s;cases e with
     |normal=>
      refine⟨i,(1+o)+1,λk=>fh.trans (fh.move p stepG_block) (Mv.refl _) λA d=>?_⟩;subst d;refine fh.trans (m _) (q.mv i) λA d=>?_
      have y:A=.inBlock id::k:=d;subst y;exact fh.move p stepG_inBlock
     |exit j=>exact absurd g (K j W)
     |ret=>exact⟨i,o+1,λk=>fh.trans (fh.move p stepG_block) (Mv.refl _) λA d=>by subst d;exact(m _).weaken λA d=>d⟩
     |goto l=>exact⟨i,o+1,λk=>fh.trans (fh.move p stepG_block) (Mv.refl _) λA d=>by subst d;exact(m _).weaken λA d=>d⟩
     |_=>exact⟨i,o+1,λk=>fh.trans (fh.move p stepG_block) (Mv.refl _) λA d=>by subst d;exact(m _).weaken λA d=>d.elim⟩
   .cases h
  |loop b=>
   unfold comp at h;simp only[]at h
   split at h
   .rename_i v u;cases h;unfold ad7 at g;obtain⟨i,o,m⟩:=Hi p q (r b v u) _ g s;exact⟨i,o+1,λk=>fh.trans (fh.move p stepG_loop) (Mv.refl _) λA d=>by subst d;exact m k⟩
   .cases h
  |exit id=>
   unfold comp at h;cases h;unfold HF at g;simp only[ah,ay]at g;obtain⟨rfl,rfl⟩:=g;exact⟨q.refl _,0,λk=>fh.here ⟨k,rfl,rfl⟩⟩
  |ret=>
   unfold comp at h;cases h;unfold HF at g;simp only[ah,ay]at g;obtain⟨rfl,rfl⟩:=g;exact⟨q.refl _,0,λk=>fh.here ⟨k,rfl⟩⟩
  |goto l=>
   unfold comp at h;cases h;unfold HF at g;simp only[ah,ay]at g;obtain⟨rfl,rfl⟩:=g;exact⟨q.refl _,0,λk=>fh.here ⟨k,rfl,rfl⟩⟩
  |scope b=>
   unfold comp at h;simp only[]at h
   split at h
   .rename_i v u;cases h;obtain⟨i,o,m⟩:=DC p q (body:=b) (has:=λl=>(findLabel b l).isSome) (VD:=λl=>(findLabel b l).bind (comp P nt n)) (λl c2 f2 Jh OO=>r c2 f2 (by rw[Jh]at OO;exact OO)) (λl=>rfl) _ (r b v u) g s;exact⟨i,o+1,λk=>fh.trans (fh.move p Ks) (Mv.refl _) λA d=>by subst d;exact m k⟩
   .cases h
  |region id ops draw=>
   obtain⟨rfl,i,c,m⟩:=KY p hX q C rY h g s;exact⟨i,c,λk=>(m k).weaken λA d=>d⟩
  |_=>unfold comp at h;cases h
end
theorem pC (l:List ab):M9 l=l.getD 0 undef:=by cases l<;>rfl
theorem dd (l:List ab)(i:Nat):(lu l).getD i undef=l.getD (i+1) undef:=by cases l<;>simp[lu]
theorem Dl (l:List ab)(i:Nat):(TS l).getD i undef=l.getD (i+8) undef:=by
 unfold TS;simp only[dd]
theorem KR (l:List ab){i:Nat}(hi:i<8):(Iy l).get i=l.getD i undef:=by
 match i,hi with
 |0,_=>exact pC l
 |1,_=>show M9 (lu l)=_;rw[pC,dd]
 |2,_=>show M9 (lu (lu l))=_;rw[pC,dd,dd]
 |3,_=>show M9 (lu (lu (lu l)))=_;rw[pC,dd,dd,dd]
 |4,_=>show M9 (lu (lu (lu (lu l))))=_;rw[pC,dd,dd,dd,dd]
 |5,_=>show M9 (lu (lu (lu (lu (lu l)))))=_;rw[pC,dd,dd,dd,dd,dd]
 |6,_=>show M9 (lu (lu (lu (lu (lu (lu l))))))=_;rw[pC,dd,dd,dd,dd,dd,dd]
 |7,_=>show M9 (lu (lu (lu (lu (lu (lu (lu l)))))))=_;rw[pC,dd,dd,dd,dd,dd,dd,dd]
theorem Ux {l tm}(h:FX l=Z tm){t:Nat}(m:t<512):di t tm=l.getD t undef:=by
 have hlen:∀i,l.getD (i+16) undef=undef:=λi=>by
  rw[show i+16=(i+8)+8 by omega,<-Dl,<-Dl];unfold FX at h
  split at h
  .rename_i e;rw[e];rfl
  .cases h
 unfold FX at h
 split at h
 .simp only[ah]at h;subst h;have d (x k:Nat):tK x k=x / k%8:=rfl;have j:Nat.mod t 8=t%8:=rfl;have c:∀i,rD.get i=undef:=λi=>N8.Jr _ _
  have g:∀i,iP.get i=rD:=λi=>N8.Jr _ _
  unfold di
  by_cases f:t<64
  .rw[show tK t 64=0 by rw[d];omega]
   show((⟨Iy l,Iy (TS l),rD,rD,rD,rD,rD,rD⟩:N8 (N8 ab)).get (tK t 8)).get (Nat.mod t 8)=_
   by_cases b:t<8
   .rw[show tK t 8=0 by rw[d];omega]
    show(Iy l).get (Nat.mod t 8)=_
    rw[KR _ ai,j,Nat.mod_eq_of_lt b]
   .by_cases n:t<16
    .rw[show tK t 8=1 by rw[d];omega]
     show(Iy (TS l)).get (Nat.mod t 8)=_
     rw[KR _ ai,Dl,j]
     congr 1
     omega
    .have a:=hlen (t-16);rw[show t-16+16=t by omega]at a;rw[a];have :∀i,2<=i->i<8->(⟨Iy l,Iy (TS l),rD,rD,rD,rD,rD,rD⟩:N8 (N8 ab)).get i=rD:=λi f b=>by
      match i,f,b with
      |2,_,_|3,_,_|4,_,_|5,_,_|6,_,_|7,_,_=>rfl
     rw[this _ (by rw[d];omega) (by rw[d];omega)];exact c _
  .have a:=hlen (t-16);rw[show t-16+16=t by omega]at a;rw[a];have :∀(x:N8 (N8 ab)) i,1<=i->i<8->(⟨x,iP,iP,iP,iP,iP,iP,iP⟩:Tm).get i=iP:=λx i f b=>by
    match i,f,b with
    |1,_,_|2,_,_|3,_,_|4,_,_|5,_,_|6,_,_|7,_,_=>rfl
   rw[this _ _ (by rw[d];omega) (by rw[d];omega),g];exact c _
 .cases h
section
variable {P:aE}{X:Ext}{main:Bool}{J:JT}{F:Mem->Mem->Prop}{nt:Nat}{call:cH}{E:Perm}{bJ:ar}{σ:pj}{ρ:dz}{m m':Mem}{w:ar}
theorem HK {args}{a:Array ab}{tm}(h:FX args=Z tm)(b:bP (aV ρ) args a.toList)(i:args.length<=nt)(f:nt<=512):uU nt ρ tm [] {tmps:=a++Array.replicate (nt-a.size) undef,defers:=[]}:=by
 have hlen:a.size=args.length:=by have :=b.length;simpa using this.symm
 refine⟨by simp;omega,λt g=>?_,trivial⟩;rw[Ux h ai];have e:(a++Array.replicate (nt-a.size) undef).getD t undef=a.toList.getD t undef:=by
  rw[Array.getD_eq_getD_getElem?,List.getD_eq_getElem?_getD,Array.getElem?_append]
  split
  .simp
  .rename_i d;have c:a.toList[t]?=Y:=List.getElem?_eq_none (by simpa using d);rw[c,Array.getElem?_replicate]
   split<;>rfl
 rw[e];exact b.getD oy t
theorem ve (y:gq ρ m w){N:Nat}{tm a df}(q:uU nt ρ tm df a):∀{i:List ResultVar}{vs:List ab},wL P nt m tm i=Z vs->∀{Q:List ab->ar->Prop},(∀f,bP (aV ρ) vs f->Q f w)->
  dY P (az ρ m) N (i.mapM λr=>match r with | .tmp t=>(pure (a.tmps.getD t undef):Sem ab)| .cell x t=>do loadVar t (<-asAddr (a.tmps.getD x undef))) Q w
 | [],vs,h,Q,j=>by
  simp only[wL,ah]at h;subst h;rw[List.mapM_nil];exact j [] trivial
 | .tmp t::i,vs,h,Q,j=>by
  unfold wL at h
  split at h
  .rename_i F;rw[lh,iU]at F
   split at h
   .rename_i s A;cases h;rw[List.mapM_cons,au]
    show dY P (az ρ m) N _ Q w
    rw[au];exact ve y q A λf C=>j _ ⟨q.tm t F,C⟩
   .cases h
  .cases h
 | .cell x t::i,vs,h,Q,j=>by
  unfold wL at h
  split at h
  .rename_i E;rw[lh,iU]at E
   split at h
   .rename_i v s p A;cases h;have z:=q.tm x E;obtain⟨M,D,K⟩:∃b o,di x tm=.pointer (Z ⟨b,o,Y⟩):=by
     unfold kY at p
     split at p
     .rename_i H;exact⟨_,_,H⟩
     .cases p
    rw[List.mapM_cons,au];have k:=BB (P:=P) (N:=N) y z p (Q:=λg l=>dY P (az ρ m) N (i.mapM λr=>match r with | .tmp t=>(pure (a.tmps.getD t undef):Sem ab)| .cell x t=>do loadVar t (<-asAddr (a.tmps.getD x undef))) (λf u=>Q (g::f) u) l)
     λg J=>ve y q A λf C=>j (g::f) ⟨J,C⟩
    rw[K]at z;obtain⟨n,L,_,e⟩:=cQ.1 z;rw[e]at k;simp only[];rw[e];have B:dY P (az ρ m) N (loadVar t ⟨n.c,n.d+D,Y⟩) (λg l=>dY P (az ρ m) N (i.mapM λr=>match r with | .tmp t=>(pure (a.tmps.getD t undef):Sem ab)| .cell x t=>do loadVar t (<-asAddr (a.tmps.getD x undef))) (λf u=>Q (g::f) u) l) w:=k
    show dY P (az ρ m) N (loadVar t ⟨n.c,n.d+D,Y⟩) _ w
    refine Ln B λg l G=>?_
    rw[au];exact G
   .cases h
  .cases h
theorem Bj (o:gq ρ m w){N:Nat}{tm a df}(q:uU nt ρ tm df a){fn:Func}{v}(h:ni P nt fn.results.toList tm m=Z v){Q}(p:∀f,aV ρ v f->Q f w):
  dY P (az ρ m) N (results fn a.tmps) Q w:=by
 unfold results;rw[au,Array.mapM_eq_mapM_toList]
 show dY P (az ρ m) N (_<$> _) _ w
 rw[map_eq_pure_bind,au];unfold ni at h;have fin:∀{vs:List ab},wL P nt m tm fn.results.toList=Z vs->v=(match vs with | [x]=>x|l=> .tuple l.toArray)->dY P (az ρ m) N (fn.results.toList.mapM λr=>match r with | .tmp t=>(pure (a.tmps.getD t undef):Sem ab)| .cell x t=>do loadVar t (<-asAddr (a.tmps.getD x undef)))
   (λb i=>dY P (az ρ m) N (pure b.toArray) (λd j=>dY P (az ρ m) N (pure (if h:d.size=1 then d[0]else .tuple d)) Q j) i) w:=by
  intro vs e k;refine ve o q e λb c=>?_
  show Q (if h:b.toArray.size=1 then b.toArray[0]else .tuple b.toArray) w
  refine p _ ?_;rw[k]
  match vs,b,c with
  | [],[],_=>exact fw.2 ⟨_,rfl,trivial⟩
  | [x],[g],c=>exact c.1
  |x::y::l,g::z::A,c=>
   rw[dif_neg dA];exact fw.2 ⟨_,rfl,c⟩
 split at h
 .rename_i u n;cases h;exact fin n rfl
 .rename_i vs s e;cases h;refine fin e ?_
  split
  .rename_i x;exact absurd rfl (s x)
  .rfl
 .cases h
theorem wJ {b:Frame}{a:Act}{todo}{cs:List Frame}{ds f fn args c d}(h:a.defers=d::ds)(e:d={target:=.fn (.func f) c,args:=args})(g:P.funcs[f]?=Z fn)(k:(fn.name== "runtime.NumGoroutine")=O)(m:fn.body.isSome=U):
  stepG P main (G {b.at a todo with mode:=.returning} cs) w=.go (G (Frame.enter P f (args++c) .deferred) ({b.at ⟨a.tmps,ds⟩ todo with mode:=.returning}::cs)) w #[]:=by
 have j:¬fn.name= "runtime.NumGoroutine":=by simpa using k
 have i:¬fn.body=Y:=by cases l:fn.body<;>simp_all
 subst e;simp[G,stepG,unwind,callDeferred,Frame.at,h,invoke,callFunc,g,j,i,GStep.after,seen_none]
theorem Io {b:Frame}{a:Act}{todo}{cs:List Frame}{fn}{c:Frame}{v w'}(d:b.kind=.normal\/(b.kind=.deferred/\c.mode=.returning))(g:a.defers=[])(f:P.funcs[b.fn]?=Z fn)(e:(results fn a.tmps).run P w=.ok v w'):
  stepG P main (G {b.at a todo with mode:=.returning} (c::cs)) w=.go (G (if b.kind=.normal then c.finish v else c) cs) w' (seen P b.fn ((results fn a.tmps).events P w #[])):=by
 rcases d with d|⟨d,h⟩
 .simp[G,stepG,unwind,doReturn,Frame.at,d,g,f,e,GStep.after]
 .simp[G,stepG,unwind,doReturn,Frame.at,d,g,f,e,GStep.after,h]
theorem vD (R:∀σ,gN P main (J σ))(Q:rH P X)(q:yo F)(C:gE P X main J F call):∀{df:Df}{m m':Mem},qu P X call df m=Z m'->Wf m->F m m'/\∃c,
  ∀{E:Perm}{bJ:ar}{σ:pj}{ρ:dz}{w:ar}{b:Frame}{a:Act}{todo:List Item}{cs:List Frame}{n:Nat}{tm:Tm},dj P E bJ σ ρ m w->uU nt ρ tm df a->
   (∀y k r,ρ.le k->tD m ρ k->dj P E bJ y k m' r->uU nt k tm [] ⟨a.tmps,[]⟩->J y n ((az k m').or E) (G {b.at ⟨a.tmps,[]⟩ todo with mode:=.returning} cs) r)->
   J σ (n+c) ((az ρ m).or E) (G {b.at a todo with mode:=.returning} cs) w
 | [],m,m',h,hw=>by
  simp only[qu,ah]at h;subst h;refine⟨q.refl _,0,λ{E bJ σ ρ w b a todo cs n tm} H i s=>?_⟩;have N:a.defers=[]:=by
   have :=i.df;cases h:a.defers with
   |nil=>rfl
   |cons x l=>rw[h]at this;exact this.elim
  have e:a=⟨a.tmps,[]⟩:=by cases a;simp only at N;subst N;rfl
  have :=s σ ρ w (dz.le_refl _) (.of λ_ _=>rfl) H (by rw[<-e];exact i);rw[<-e]at this;exact this
 |(f,args)::ds,m,m',h,hw=>by
  unfold qu at h
  split at h
  .rename_i p;simp only[ag,Bool.not_eq_true',Bool.or_eq_false_iff]at p;obtain⟨p,nK,nJ⟩:=p
   split at h
   .rename_i v m1 hY;obtain⟨A,_,z⟩:=C f args m v m1 hw hY;obtain⟨c,z⟩:=z p;obtain⟨h1,D,h2⟩:=vD R Q q C h ((q.mv A).wf hw);obtain⟨fn,M,L⟩:=MJ p;refine⟨q.trans A h1,D+c+1,λ{E bJ σ ρ w b a todo cs n tm} H i s=>?_⟩;obtain⟨d,j,K⟩:∃d j,a.defers=d::j:=by
     have :=i.df;cases h:a.defers with
     |nil=>rw[h]at this;exact this.elim
     |cons x l=>exact⟨x,l,rfl⟩
    have S:=i.df;rw[K]at S;obtain⟨⟨B,o,u⟩,iF⟩:=S;have V:d={target:=.fn (.func f) B,args:=d.args}:=by cases d;simp only at o;subst o;rfl
    refine oG (R σ) rfl (λw=>wJ K V M (Q.names f fn M L) L) λaR kq=>?_
    have gT:=H.keeps kq
    show J σ (n+(D+c)) _ _ _
    rw[<-Nat.add_assoc];refine z _ _ cs (n+D) .deferred gT u (.inr ⟨rfl,rfl,Nat.ne_of_beq_eq_false nK,Nat.ne_of_beq_eq_false nJ⟩) λy k v' r g hold H' hv=>?_
    rw[bH dA];refine h2 (a:=⟨a.tmps,j⟩) (tm:=tm) H' ⟨i.size,λt ht=>(i.tm t ht).iX g,iF.mono λ_ _ x=>x.iX g⟩ λW fF iV pQ lR rG T=>?_
    exact s W fF iV (dz.le_trans g pQ) (hold.trans (q.mv A) lR) rG T
   .cases h
  .cases h
theorem Tz (y:∀σ,gN P main (J σ))(hX:rH P X)(t:yo F)(C:gE P X main J F call){f:Nat}{fn c}(L:P.funcs[f]?=Z fn)(hc:fn.body=Z c){n:Nat}{b}(rY:fn.ntmps<=512)(hb:comp P fn.ntmps n c=Z b)
  {args m m' v}(hw:Wf m)(h:zH P X fn.ntmps fn.results.toList b call args m=Z (v,m')):F m m'/\∃c,
   ∀{E:Perm}{bJ:ar}{σ:pj}{ρ:dz}{w:ar} (i:Array ab) (fr:Frame) (cs:List Frame) (n:Nat) (kind:CallKind),
   dj P E bJ σ ρ m w->bP (aV ρ) args i.toList->(kind=.normal\/(kind=.deferred/\fr.mode=.returning))->
   (∀l g j p,ρ.le g->tD m ρ g->dj P E bJ l g m' p->aV g v j->J l n ((az g m').or E) (G (if kind=.normal then fr.finish j else fr) cs) p)->
   J σ (n+c) ((az ρ m).or E) (G (Frame.enter P f i kind) (fr::cs)) w:=by
 unfold zH at h
 split at h
 .cases h
 .rename_i tm k
  split at k
  .rename_i hlen;rw[Fs,iU]at hlen
   split at h
   .cases h
   .rename_i st u
    split at h
    .cases h
    .rename_i m2 pJ
     split at h
     .rename_i v2 At;cases h;unfold Q6 at u;obtain⟨e,L9,M⟩:∃e,b call ⟨tm,m,[]⟩=Z (e,st)/\(e=.normal\/e=.ret):=by
       split at u
       .rename_i s D;cases u;exact⟨_,D,.inl rfl⟩
       .rename_i s D;cases u;exact⟨_,D,.inr rfl⟩
       .cases u
      obtain⟨V,c1,g2⟩:=HT y hX t C rY n c b hb L9 hw;have QC:=(t.mv V).wf hw;obtain⟨g3,W,g4⟩:=vD (nt:=fn.ntmps) y hX t C pJ QC;refine⟨t.trans V g3,((1+W)+1)+c1,λ{E bJ σ ρ w} i fr cs n kind H hr A hn=>?_⟩;have ha:=HK k hr hlen rY;obtain⟨d,ph,J6,S⟩:∃d:Frame,Frame.enter P f i kind=d.at {tmps:=i++Array.replicate (fn.ntmps-i.size) undef,defers:=[]} [.code c]/\d.kind=kind/\d.fn=f:=by
       rcases A with rfl|⟨rfl,_⟩
       .exact⟨base f,enter_at i L hc,rfl,rfl⟩
       .exact⟨baseD f,enter_atD i L hc,rfl,rfl⟩
      have ep:d.kind≠ .early:=by rw[J6];rcases A with rfl|⟨rfl,_⟩<;>simp
      rw[ph,<-Nat.add_assoc];refine(g2 []).go ep H ha λl g p o todo XG K hold H' nZ=>?_
      have agO:(∀x,dj P E bJ l g st.mem x->J l (n+(1+W)) ((az g st.mem).or E) (G {d.at o todo with mode:=.returning} (fr::cs)) x)->J l (n+((1+W)+1)) ((az g st.mem).or E) (G (d.at o todo) (fr::cs)) p:=by
       intro T;have xk:∀w,stepG P main (G (d.at o todo) (fr::cs)) w=.go (G {d.at o todo with mode:=.returning} (fr::cs)) w #[]:=by
        intro w;rcases M with rfl|rfl
        .have e:todo=[]:=XG;subst e;exact stepG_end
        .obtain⟨k',rfl⟩:=XG;exact stepG_ret'
       exact oG (y l) rfl xk λx kq=>T x (H'.keeps kq)
      refine agO λx gT=>?_
      rw[<-Nat.add_assoc];refine g4 (tm:=st.tm) gT nZ λuX r iV pQ lR rG zl=>?_
      have kZ:tD m ρ r:=hold.trans (t.mv V) lR;refine sP y rG rfl λq z=>?_
      obtain⟨j,Db,iE,⟨B,Xq⟩,_,eG⟩:=oC (P:=P) (R:=az r m') (N:=q.heap.size) (Q:=λj p=>aV r v j/\p=q) (aj _)
       (Bj (N:=q.heap.size) z.kH (a:=⟨o.tmps,[]⟩) zl At λj B=>⟨B,rfl⟩)
      rw[Xq]at iE;obtain⟨evs,Aw,dV⟩:=eG #[];have qe:∀e∈seen P d.fn ((results fn o.tmps).events P q #[]),pH (az r m') e:=λe hx=>dV e (by have :=mem_seen hx;rw[Aw]at this;simpa using this)
      refine⟨_,r,m',q,_,Io (a:=⟨o.tmps,[]⟩) (by rw[J6];exact A) rfl (by rw[S];exact L) iE,Left.refl z.kH,uW.refl ..,λe M=> .inl (qe e M),(lN qe _).symm,?_⟩;rw[J6];exact hn uX r j q (dz.le_trans K pQ) kZ z B
     .cases h
  .cases k
end
section
variable {P:aE}{X:Ext}{main:Bool}{J:JT}{F:Mem->Mem->Prop}
theorem ac3 {f:Nat}{args m m' v}(h:vB X f args m=Z (v,m')):yn m m':=by
 unfold vB at h
 split at h
 .split at h
  .simp only[ah,ay]at h;obtain⟨_,rfl⟩:=h;exact yn.deaf _ _
  .cases h
 .split at h
  .split at h
   .simp only[ah,ay]at h;obtain⟨_,rfl⟩:=h;exact yn.deaf _ _
   .cases h
  .split at h
   .split at h
    .simp only[ah,ay]at h;obtain⟨_,rfl⟩:=h;exact yn.refl _
    .cases h
   .split at h
    .split at h
     .simp only[ah,ay]at h;obtain⟨_,rfl⟩:=h;exact yn.refl _
     .cases h
    .split at h
     .split at h
      .split at h
       .split at h
        .obtain⟨c,b,a⟩:=aD.1 h;simp only[ay]at a;obtain⟨_,rfl⟩:=a;exact(jS.dW b).w
        .split at h
         .simp only[ah,ay]at h;obtain⟨_,rfl⟩:=h;exact yn.refl _
         .cases h
       .cases h
      .cases h
     .split at h
      .split at h
       .split at h
        .obtain⟨c,b,a⟩:=aD.1 h;simp only[ay]at a;obtain⟨_,rfl⟩:=a;exact(jS.dW b).w
        .cases h
       .cases h
      .cases h
theorem Uy (u:∀l,gN P main (J l))(t:rH P X)(j:yo F){call}(C:gE P X main J F call):gE P X main J F λf args m=>(kX P X f).body call args m:=by
 intro f args m v o p h
 replace h:(kX P X f).body call args m=Z (v,o):=h
 unfold kX at h
 split at h
 .rename_i A e
  split at h
  .rename_i c d
   split at h
   .rename_i b g
    split at g
    .rename_i i;rw[Fs,iU]at i;obtain⟨x,k,w⟩:=Tz u t j C e d i g p h;refine⟨x,λa=>?_,λ_=>⟨k,λz fr y n kind H q s r=>w z fr y n kind H q (s.imp id λh=>⟨h.1,h.2.1⟩) r⟩⟩;unfold dX at a;rw[e]at a;simp[d]at a
    .cases g
   .cases h
  .rename_i d;refine⟨j.fr (ac3 h),λ_=>h,λa=>?_⟩;unfold dX at a;rw[e]at a;simp[d]at a
 .cases h
theorem MB (b:∀d,gN P main (J d))(a:rH P X)(c:yo F):∀n,gE P X main J F (og P X n)
 |0=>by intro f args m v e g h;cases h
 |n+1=>Uy b a c (MB b a c n)
end
open Go.ConcN (RelBy fork_knows)
open Go.ConcR (stA smA)
inductive WS where
 |work(R:Perm)
 |rel(R:Perm)(r:Nat)
 |old
def WS.eI:WS->Option Perm
 | .work R=>Z R
 | .rel R _=>Z R
 | .old=>Y
def Xo (R:Perm):Loc->Prop
 | .cell a=>a.spot=Y/\R.rd a.block a.off
 | .obj r=>R.ob r
 |_=>False
def inW (R:Perm):Loc->Prop
 | .cell a=>a.spot=Y/\R.wr a.block a.off
 | .obj r=>R.ob r
 |_=>False
def shl (sh:Nat->Prop):Loc->Prop
 | .cell a=>sh a.block/\a.spot=Y/\a.off<=1
 |_=>False
structure nW (R S:Perm):Prop where
 cell:∀b o,R.wr b o->¬S.rd b o
 obj:∀b,R.ob b->¬S.ob b
structure Lay (sh:Nat->Prop)(D:Nat->WS)(size:Nat)(w:ar):Prop where
 low:∀k R,k<size->(D k).eI=Z R->yv R w
 J8:∀j k R S,j≠k->j<size->k<size->(D j).eI=Z R->(D k).eI=Z S->nW R S
 F4:∀k R,k<size->(D k).eI=Z R->∀b o,R.rd b o->sh b->¬o<=1
 sh:∀b,sh b->b<w.heap.size
structure TI (Wg:Nat)(sh:Nat->Prop)(D:Nat->WS)(size N:Nat)(t:Trace):Prop where
 nr:∀said,¬Race said t
 gs:∀op∈t,op.g<size
 low:∀i a,touchAt t i=Z a->a.loc.low N
 knW:∀k R,k<size->D k=.work R->∀i a,touchAt t i=Z a->inW R a.loc->Knows t k i
 knR:∀k R,k<size->D k=.work R->∀i a,touchAt t i=Z a->Xo R a.loc->a.write=U->Knows t k i
 pS:∀i a,touchAt t i=Z a->Knows t 0 i\/(∃k R,t.g? i=Z k/\0<k/\k<size/\D k=.work R)\/(∃k R r,t.g? i=Z k/\0<k/\k<size/\D k=.rel R r/\i<=r)\/(shl sh a.loc/\a.kind=.atomic)
 shp:∀i a,touchAt t i=Z a->shl sh a.loc->a.kind=.atomic\/(Knows t 0 i/\(a.kind=.plain->∀k,k<size->D k≠ .old->Knows t k i))
 KV:∀k R r,k<size->D k=.rel R r->RelBy (stA Wg) t k r
 norel:∀a,NoRelease a t
 cnt:∀i k,t.g? i=Z k->0<k->D k=.old->t.counts i->Knows t 0 i
 main:∃R,D 0=.work R
theorem OA {R d}{N:Nat}(h:eZ R d N){l:Loc}(c:l.low N)(b:inW d l):inW R l:=by
 cases l with
 |cell a=>exact⟨b.1,(h.wr _ _ b.2).elim id λe=>absurd (show a.block<N from c) ai⟩
 |obj r=>exact(h.ob _ b).elim id λe=>absurd (show r<N from c) ai
 |_=>exact b.elim
theorem OB {R d}{N:Nat}(h:eZ R d N){l:Loc}(c:l.low N)(b:Xo d l):Xo R l:=by
 cases l with
 |cell a=>exact⟨b.1,(h.rd _ _ b.2).elim id λe=>absurd (show a.block<N from c) ai⟩
 |obj r=>exact(h.ob _ b).elim id λe=>absurd (show r<N from c) ai
 |_=>exact b.elim
theorem Qz {R S}(h:nW R S){l}(b:inW R l):¬Xo S l:=by
 intro c;cases l with
 |cell a=>exact h.cell _ _ b.2 c.2
 |obj r=>exact h.obj _ b c
 |_=>exact b.elim
theorem Qy {R:Perm}(h:∀b o,R.wr b o->R.rd b o){l}(c:inW R l):Xo R l:=by
 cases l with
 |cell a=>exact⟨c.1,h _ _ c.2⟩
 |obj r=>exact c
 |_=>exact c.elim
theorem ze {R:Perm}{sh}(h:∀b o,R.rd b o->sh b->¬o<=1){l}(d:Xo R l):¬shl sh l:=by
 intro c;cases l with
 |cell a=>exact h _ _ d.2 c.1 c.2.2
 |obj r=>exact c.elim
 |_=>exact c.elim
section
variable {Wg:Nat}{sh:Nat->Prop}{D D':Nat->WS}{size N N':Nat}{t u:Trace}{k:Nat}{w:ar}
theorem TI.app(h:TI Wg sh D size N t)(L:Lay sh D size w)(F:k<size)(hN:N<=N')
  (M:∀j,j≠k->D' j=D j)(T:D' k=D k\/∃R o,D k=.work R/\D' k=.work o/\eZ R o N)
  (X:∀op∈u,op.g=k)(hl:∀op∈u,∀b,op.act.touch?=Z b->b.loc.low N')(hr:∀op∈u,∀a,op.act≠ .mark (.release a))
  (W:∀op∈u,∀b,op.act.touch?=Z b->(∃R,D k=.work R/\Xo R b.loc/\(b.write=U->inW R b.loc))\/(D k≠ .old/\shl sh b.loc/\b.kind≠ .plain/\(b.kind=.said->k=0)))
  (Au:∀R r,D k=.rel R r->RelBy (stA Wg) (t++u) k r):TI Wg sh D' size N' (t++u):=by
 have old:∀{i:Nat}{a:Touch},touchAt (t++u) i=Z a->(touchAt t i=Z a/\i<t.size)\/(t.size<=i/\∃op∈u,(t++u)[i]?=Z op/\op.act.touch?=Z a):=by
  intro i a p;obtain⟨x,K,hxa⟩:=touch_of p;rcases getElem?_append_cases K with⟨f,wO⟩|⟨f,hxu⟩
  .exact .inl ⟨by rw[touchAt_of wO];exact hxa,f⟩
  .exact .inr ⟨f,x,hxu,K,hxa⟩
 have own:∀{i:Nat}{op:MemOp},(t++u)[i]?=Z op->op∈u->Knows (t++u) k i:=by
  intro i op f l;have :=knows_own f;rwa[X op l]at this
 have hold:∀j,D' j=.old↔D j=.old:=by
  intro j
  by_cases d:j=k
  .subst d;rcases T with e|⟨R,o,y,n,_⟩
   .rw[e]
   .rw[y,n];simp
  .rw[M j d]
 have aed:∀j o,D' j=.work o->∃R,D j=.work R/\eZ R o N:=by
  intro j o s
  by_cases d:j=k
  .subst d;rcases T with e|⟨R,fg,y,n,e3⟩
   .rw[e]at s;exact⟨o,s,eZ.refl _ _⟩
   .rw[n]at s;cases s;exact⟨R,y,e3⟩
  .rw[M j d]at s;exact⟨o,s,eZ.refl _ _⟩
 have amh:∀j R r,D' j=.rel R r->D j=.rel R r:=by
  intro j R r s
  by_cases d:j=k
  .subst d;rcases T with e|⟨R,fg,y,n,e3⟩
   .rw[e]at s;exact s
   .rw[n]at s;cases s
  .rw[M j d]at s;exact s
 refine⟨λsaid=>noRace_append (h.nr said) X λi a p op l b C H=>?_,λop l=>?_,λi a p=>?_,λj S d P i a p Q=>?_,λj S d P i a p Q uJ=>?_,λi a p=>?_,λi a p hs=>?_,λj R r d lS=>?_,λa=>(h.norel a).app λop l=>hr op l a,λi j f d sJ H=>?_,?_⟩
 .rcases W op l b C with⟨R,q,c,m⟩|⟨LU,c,m,E⟩
  .cases hbw:b.write with
   |true=>exact h.knW k R F q i a p (by rw[H.1];exact m hbw)
   |false=>exact h.knR k R F q i a p (by rw[H.1];exact c) (H.2.2.1.resolve_right (by simp[hbw]))
  .rcases h.shp i a p (by rw[H.1];exact c)with e|⟨y,n⟩
   .rcases H.2.2.2 with x|x|⟨_,x,_⟩
    .rw[e]at x;cases x
    .exact absurd x m
    .rw[e]at x;cases x
   .rcases H.2.2.2 with x|x|⟨_,_,x⟩
    .exact n x k F LU
    .exact absurd x m
    .rw[E x];exact y
 .rcases Array.mem_append.1 l with c|c
  .exact h.gs op c
  .rw[X op c];exact F
 .rcases old p with⟨A,_⟩|⟨_,op,l,f,C⟩
  .exact Loc.low_mono hN (h.low i a A)
  .exact hl op l a C
 .obtain⟨V,hS,mS⟩:=aed j S P;rcases old p with⟨A,_⟩|⟨_,op,l,f,C⟩
  .exact(h.knW j V d hS i a A (OA mS (h.low i a A) Q)).app u
  .by_cases z:j=k
   .subst z;exact own f l
   .rw[M j z]at P;have v:(D j).eI=Z S:=by rw[P];rfl
    rcases W op l a C with⟨R,q,c,m⟩|⟨_,c,_,_⟩
    .exact absurd c (Qz (L.J8 j k S R z d F v (by rw[q];rfl)) Q)
    .exact absurd c (ze (L.F4 j S d v) (Qy (L.low j S d v).wr Q))
 .obtain⟨V,hS,mS⟩:=aed j S P;rcases old p with⟨A,_⟩|⟨_,op,l,f,C⟩
  .exact(h.knR j V d hS i a A (OB mS (h.low i a A) Q) uJ).app u
  .by_cases z:j=k
   .subst z;exact own f l
   .rw[M j z]at P;have v:(D j).eI=Z S:=by rw[P];rfl
    rcases W op l a C with⟨R,q,c,m⟩|⟨_,c,_,_⟩
    .exact absurd Q (Qz (L.J8 k j R S (Ne.symm z) F d (by rw[q];rfl) v) (m uJ))
    .exact absurd c (ze (L.F4 j S d v) Q)
 .rcases old p with⟨A,f⟩|⟨_,op,l,f,C⟩
  .rcases h.pS i a A with c|⟨j,R,c,m,E,h4⟩|⟨j,R,r,c,m,E,h4,h5⟩|c
   .exact .inl (c.app u)
   .refine .inr (.inl ?_)
    by_cases d:j=k
    .subst d;rcases T with e|⟨fg,o,y,n,_⟩
     .exact⟨j,R,by rw[g?_old f];exact c,m,E,by rw[e];exact h4⟩
     .exact⟨j,o,by rw[g?_old f];exact c,m,E,n⟩
    .exact⟨j,R,by rw[g?_old f];exact c,m,E,by rw[M j d];exact h4⟩
   .refine .inr (.inr (.inl ⟨j,R,r,by rw[g?_old f];exact c,m,E,?_,h5⟩))
    by_cases d:j=k
    .subst d;rcases T with e|⟨fg,o,y,n,_⟩
     .rw[e];exact h4
     .rw[h4]at y;cases y
    .rw[M j d];exact h4
   .exact .inr (.inr (.inr c))
  .rcases Nat.eq_zero_or_pos k with h0|jh
   .subst h0;exact .inl (own f l)
   .have G:(t++u).g? i=Z k:=by simp[Trace.g?,f,X op l]
    rcases W op l a C with⟨R,q,c,m⟩|⟨LU,c,m,E⟩
    .rcases T with e|⟨fg,o,y,n,_⟩
     .exact .inr (.inl ⟨k,R,G,jh,F,by rw[e];exact q⟩)
     .exact .inr (.inl ⟨k,o,G,jh,F,n⟩)
    .refine .inr (.inr (.inr ⟨c,?_⟩));cases B:a.kind with
     |plain=>exact absurd B m
     |atomic=>rfl
     |said=>have :=E B;omega
 .rcases old p with⟨A,f⟩|⟨_,op,l,f,C⟩
  .rcases h.shp i a A hs with e|⟨y,n⟩
   .exact .inl e
   .exact .inr ⟨y.app u,λhp j d sJ=>(n hp j d (λK=>sJ ((hold j).2 K))).app u⟩
  .rcases W op l a C with⟨R,q,c,m⟩|⟨LU,c,m,E⟩
   .exact absurd hs (ze (L.F4 k R F (by rw[q];rfl)) c)
   .cases B:a.kind with
    |plain=>exact absurd B m
    |atomic=>exact .inl rfl
    |said=>
     refine .inr ⟨?_,λK=>by cases K⟩;have h0:=E B;subst h0;exact own f l
 .have amz:=amh j R r lS
  by_cases z:j=k
  .subst z;exact Au R r amz
  .exact(h.KV j R r d amz).appOther X (Ne.symm z)
 .have J:=(hold j).1 sJ;have cF:i<t.size\/t.size<=i:=Nat.lt_or_ge i t.size;rcases cF with cF|uV
  .exact(h.cnt i j (by rw[<-g?_old (u:=u) cF];exact f) d J ((counts_old cF).1 H)).app u
  .exfalso
   obtain⟨x,K,_⟩:=H;obtain⟨op,ho,hox⟩:=touch_of K;have G:op.g=j:=by simp only[Trace.g?,ho,dk,ah]at f;exact f
   rcases getElem?_append_cases ho with⟨c,_⟩|⟨_,hou⟩
   .omega
   .have z:j=k:=G.symm.trans (X op hou);subst z;rcases W op hou x hox with⟨R,q,_⟩|⟨LU,_⟩
    .rw[q]at J;cases J
    .exact LU J
 .obtain⟨R,q⟩:=h.main
  by_cases h0:(0:Nat)=k
  .subst h0;rcases T with e|⟨_,o,_,n,_⟩
   .exact⟨R,by rw[e];exact q⟩
   .exact⟨o,n⟩
  .exact⟨R,by rw[M 0 h0];exact q⟩
end
open Go.ConcN (RelBy fork_knows upd upd_same upd_ne)
theorem Es {R S:Perm}(h:∀b o,R.wr b o->S.wr b o)(d:∀b,R.ob b->S.ob b){l}(c:inW R l):inW S l:=by
 cases l with
 |cell a=>exact⟨c.1,h _ _ c.2⟩
 |obj r=>exact d _ c
 |_=>exact c.elim
theorem Et {R S:Perm}(h:∀b o,R.rd b o->S.rd b o)(d:∀b,R.ob b->S.ob b){l}(c:Xo R l):Xo S l:=by
 cases l with
 |cell a=>exact⟨c.1,h _ _ c.2⟩
 |obj r=>exact d _ c
 |_=>exact c.elim
structure j3 (R S:Perm):Prop where
 rd:∀b o,R.rd b o->S.rd b o
 wr:∀b o,R.wr b o->S.wr b o
 ob:∀b,R.ob b->S.ob b
section
variable {Wg TH:Nat}{sh:Nat->Prop}{D:Nat->WS}{size N:Nat}{t:Trace}{k:Nat}{w:ar}
theorem TI.begin(h:TI Wg sh D size N t){R u}(B:D 0=.work R)(hold:∀j,0<j->j<size->D j=.old)(z:j3 u R)(K:R.wr TH 0)(J:R.wr TH 1)(F:0<size):
  TI TH (λb=>sh b\/b=TH) (upd D 0 (.work u)) size N t:=by
 have p:∀j,0<j->upd D 0 (.work u) j=D j:=λj c=>upd_ne D _ ai
 refine⟨h.nr,h.gs,h.low,λj S c f i a g A=>?_,λj S c f i a g A E=>?_,λi a g=>?_,λi a g v=>?_,λj S r c y=>?_,h.norel,λi j G c w H=>h.cnt i j G c (by rw[<-p j c];exact w) H,⟨u,upd_same ..⟩⟩
 .rcases Nat.eq_zero_or_pos j with rfl|d
  .rw[upd_same]at f;cases f;exact h.knW 0 R c B i a g (Es z.wr z.ob A)
  .rw[p j d,hold j d c]at f;cases f
 .rcases Nat.eq_zero_or_pos j with rfl|d
  .rw[upd_same]at f;cases f;exact h.knR 0 R c B i a g (Et z.rd z.ob A) E
  .rw[p j d,hold j d c]at f;cases f
 .rcases h.pS i a g with l|⟨j,S,_,n,s,q⟩|⟨j,S,r,_,n,s,q,_⟩|l
  .exact .inl l
  .rw[hold j n s]at q;cases q
  .rw[hold j n s]at q;cases q
  .refine .inr (.inr (.inr ⟨?_,l.2⟩));have :=l.1;cases m:a.loc with
   |cell x=>rw[m]at this;exact⟨.inl this.1,this.2⟩
   |_=>rw[m]at this;exact this.elim
 .have o:Knows t 0 i->a.kind=.atomic\/(Knows t 0 i/\(a.kind=.plain->∀k,k<size->upd D 0 (.work u) k≠ .old->Knows t k i)):=λC=>
   .inr ⟨C,λ_ j c w=>by
    rcases Nat.eq_zero_or_pos j with rfl|d
    .exact C
    .rw[p j d]at w;exact absurd (hold j d c) w⟩
  cases m:a.loc with
  |cell x=>
   rw[m]at v;obtain⟨l|l,n,s⟩:=v
   .rcases h.shp i a g (by rw[m];exact⟨l,n,s⟩)with e|⟨e,_⟩
    .exact .inl e
    .exact o e
   .refine o (h.knW 0 R F B i a g ?_);rw[m];refine⟨n,?_⟩;rw[l];rcases(show x.off=0\/x.off=1 by omega)with e|e<;>rw[e]<;>assumption
  |_=>rw[m]at v;exact v.elim
 .rcases Nat.eq_zero_or_pos j with rfl|d
  .rw[upd_same]at y;cases y
  .rw[p j d,hold j d c]at y;cases y
theorem TI.fork(h:TI Wg sh D size N t){R A E}(W:D 0=.work R)(L:j3 A R)(V:j3 E R)(Q:0<size){x y:MemOp}(H:x.g=0/\x.act=.go size)(G:y.g=size/\y.act=.start)(h0:Deaf t 0=0)(hk:Deaf t size=0):
  TI Wg sh (upd (upd D 0 (.work A)) size (.work E)) (size+1) N (t++#[x,y]):=by
 have P:∀d∈ #[x,y],∀b,d.act.touch?=Z b->False:=by
  intro d c b l;simp only[List.mem_toArray,aN,List.not_mem_nil,or_false]at c;rcases c with rfl|rfl
  .rw[H.2]at l;cases l
  .rw[G.2]at l;cases l
 have old:∀{i:Nat}{a:Touch},touchAt (t++#[x,y]) i=Z a->touchAt t i=Z a/\i<t.size:=by
  intro i a o;obtain⟨z,C,F⟩:=touch_of o;rcases getElem?_append_cases C with⟨q,LO⟩|⟨_,hzu⟩
  .exact⟨by rw[touchAt_of LO];exact F,q⟩
  .exact(P z hzu a F).elim
 have v:∀j,0<j->j<size->upd (upd D 0 (.work A)) size (.work E) j=D j:=λj L k=>by rw[upd_ne _ _ ai,upd_ne _ _ ai]
 have C:upd (upd D 0 (.work A)) size (.work E) 0=.work A:=by rw[upd_ne _ _ ai,upd_same]
 have hq:upd (upd D 0 (.work A)) size (.work E) size=.work E:=upd_same ..;have three:∀j,j<size+1->j=0\/(0<j/\j<size)\/j=size:=λj n=>by omega
 have kn:∀{i:Nat},Knows t 0 i->Knows (t++#[x,y]) size i:=λEC=>fork_knows H G h0 hk EC
 refine⟨λsaid=>?_,λd c=>?_,λi a o=>h.low i a (old o).1,λj S n f i a o s=>?_,λj S n f i a o s uJ=>?_,λi a o=>?_,λi a o yq=>?_,λj S r n B=>?_,λa=>(h.norel a).app λd c=>?_,λi j q n M J=>?_,⟨A,C⟩⟩
 .have e:t++#[x,y]=(t++#[x])++#[y]:=by apply Array.ext';simp
  rw[e];refine noRace_append (g:=size) (noRace_append (g:=0) (h.nr said) (λd c=>by simp at c;rw[c];exact H.1) (λi a _ d c b l _=>(P d (by simp at c⊢;exact .inl c) b l).elim))
   (λd c=>by simp at c;rw[c];exact G.1) (λi a _ d c b l _=>(P d (by simp at c⊢;exact .inr c) b l).elim)
 .rcases Array.mem_append.1 c with k|k
  .exact Nat.lt_succ_of_lt (h.gs d k)
  .simp only[List.mem_toArray,aN,List.not_mem_nil,or_false]at k;rcases k with rfl|rfl
   .rw[H.1];omega
   .rw[G.1];omega
 .obtain⟨m,_⟩:=old o;rcases three j n with rfl|⟨w,p⟩|rfl
  .rw[C]at f;cases f;exact(h.knW 0 R Q W i a m (Es L.wr L.ob s)).app _
  .rw[v j w p]at f;exact(h.knW j S p f i a m s).app _
  .rw[hq]at f;cases f;exact kn (h.knW 0 R Q W i a m (Es V.wr V.ob s))
 .obtain⟨m,_⟩:=old o;rcases three j n with rfl|⟨w,p⟩|rfl
  .rw[C]at f;cases f;exact(h.knR 0 R Q W i a m (Et L.rd L.ob s) uJ).app _
  .rw[v j w p]at f;exact(h.knR j S p f i a m s uJ).app _
  .rw[hq]at f;cases f;exact kn (h.knR 0 R Q W i a m (Et V.rd V.ob s) uJ)
 .obtain⟨m,q⟩:=old o;rcases h.pS i a m with k|⟨j,S,k,K,h4,h5⟩|⟨j,S,r,k,K,h4,h5,h6⟩|k
  .exact .inl (k.app _)
  .exact .inr (.inl ⟨j,S,by rw[g?_old q];exact k,K,ai,by rw[v j K h4];exact h5⟩)
  .exact .inr (.inr (.inl ⟨j,S,r,by rw[g?_old q];exact k,K,ai,by rw[v j K h4];exact h5,h6⟩))
  .exact .inr (.inr (.inr k))
 .obtain⟨m,q⟩:=old o;rcases h.shp i a m yq with e|⟨e1,e2⟩
  .exact .inl e
  .refine .inr ⟨e1.app _,λhp j n M=>?_⟩;rcases three j n with rfl|⟨w,p⟩|rfl
   .exact e1.app _
   .exact(e2 hp j p (by rw[<-v j w p];exact M)).app _
   .exact kn e1
 .rcases three j n with rfl|⟨w,p⟩|rfl
  .rw[C]at B;cases B
  .rw[v j w p]at B;have l:=h.KV j S r p B;refine l.app λi q hgi=>?_
   rintro⟨b,gR,_⟩;obtain⟨d,T,CW⟩:=touch_of gR;rcases getElem?_append_cases T with⟨X,_⟩|⟨_,hou⟩
   .omega
   .exact P d hou b CW
  .rw[hq]at B;cases B
 .simp only[List.mem_toArray,aN,List.not_mem_nil,or_false]at c;rcases c with rfl|rfl
  .rw[H.2];simp
  .rw[G.2];simp
 .have X:i<t.size:=by
   obtain⟨b,l,_⟩:=J;exact(old l).2
  have ED:j<size:=by
   obtain⟨d,T,hog⟩:=aD.1 (show((t++#[x,y])[i]?).map (·.g)=Z j from q);rw[getElem?_append_old X]at T;rw[<-hog];exact h.gs d (mem_of_getElem? T)
  rw[v j n ED]at M;exact(h.cnt i j (by rw[<-g?_old (u:=#[x,y]) X];exact q) n M ((counts_old X).1 J)).app _
theorem TI.VJ(h:TI Wg sh D size N t){R}(P:k<size)(L:0<k)(v:D k=.work R){r:Nat}(y:RelBy (stA Wg) t k r)(M:t.size<=r+1):
  TI Wg sh (upd D k (.rel R r)) size N t:=by
 have d:∀j,j≠k->upd D k (.rel R r) j=D j:=λj b=>upd_ne D _ b
 have A:∀j,upd D k (.rel R r) j=.old->D j=.old:=λj b=>by
  by_cases e:j=k
  .subst e;rw[upd_same]at b;cases b
  .rw[d j e]at b;exact b
 refine⟨h.nr,h.gs,h.low,λj S b c i a f u=>?_,λj S b c i a f u x=>?_,λi a f=>?_,λi a f w=>?_,λj S q b m=>?_,h.norel,λi j B b p C=>h.cnt i j B b (A j p) C,?_⟩
 .by_cases e:j=k
  .subst e;rw[upd_same]at c;cases c
  .rw[d j e]at c;exact h.knW j S b c i a f u
 .by_cases e:j=k
  .subst e;rw[upd_same]at c;cases c
  .rw[d j e]at c;exact h.knR j S b c i a f u x
 .rcases h.pS i a f with g|⟨j,S,g,o,n,l⟩|⟨j,S,q,g,o,n,l,F⟩|g
  .exact .inl g
  .by_cases e:j=k
   .subst e;refine .inr (.inr (.inl ⟨j,R,r,g,o,n,upd_same ..,?_⟩));obtain⟨K,J,_⟩:=touch_of f;have :=lt_size_of_getElem? J;omega
   .exact .inr (.inl ⟨j,S,g,o,n,by rw[d j e];exact l⟩)
  .have e:j≠k:=by rintro rfl;rw[v]at l;cases l
   exact .inr (.inr (.inl ⟨j,S,q,g,o,n,by rw[d j e];exact l,F⟩))
  .exact .inr (.inr (.inr g))
 .rcases h.shp i a f w with e|⟨H,G⟩
  .exact .inl e
  .refine .inr ⟨H,λz j b p=>G z j b λs=>?_⟩
   by_cases e:j=k
   .subst e;rw[v]at s;cases s
   .exact p (by rw[d j e];exact s)
 .by_cases e:j=k
  .subst e;rw[upd_same]at m;cases m;exact y
  .rw[d j e]at m;exact h.KV j S q b m
 .obtain⟨S,E⟩:=h.main;exact⟨S,by rw[d 0 ai];exact E⟩
theorem TI.Y6(h:TI Wg sh D size N t)(ja:0<size)(mn:∀j,0<j->j<size->(∃R r,D j=.rel R r)\/D j=.old){x:MemOp}(q:x.g=0/\x.act=.mark (.acquire (stA Wg)))(h0:Deaf t 0=0)
  {n:Perm}(C:∀b o,n.rd b o->sh b->¬o<=1)(uJ:∀b o,n.wr b o->n.rd b o):TI Wg sh (λj=>if j=0 then .work n else .old) size N (t++#[x]):=by
 have rY:∀d∈ #[x],∀b,d.act.touch?=Z b->False:=by
  intro d c b v;simp only[List.mem_toArray,aN,List.not_mem_nil,or_false]at c;subst c;rw[q.2]at v;cases v
 have old:∀{i:Nat}{a:Touch},touchAt (t++#[x]) i=Z a->touchAt t i=Z a/\i<t.size:=by
  intro i a f;obtain⟨z,hz,A⟩:=touch_of f;rcases getElem?_append_cases hz with⟨s,LO⟩|⟨_,J⟩
  .exact⟨by rw[touchAt_of LO];exact A,s⟩
  .exact(rY z J a A).elim
 have QL:(t++#[x])[t.size]?=Z x:=dA;have G:∀d∈ #[x],d.g=0:=by intro d c;simp at c;rw[c];exact q.1
 have E:∀j R r,0<j->j<size->D j=.rel R r->∀i,t.g? i=Z j->i<=r->Knows (t++#[x]) 0 i:=by
  intro j R r l w p i s hir;have L:RelBy (stA Wg) (t++#[x]) j r:=(h.KV j R r w p).appOther G ai;have Hp:r<t.size:=lt_of_act? (h.KV j R r w p).act;have hq:(t++#[x]).act? t.size=Z (.mark (.acquire (stA Wg))):=by rw[act?_of QL,q.2]
  have hh:(t++#[x]).heard t.size:=⟨0,by simp[Trace.g?,q.1],by rw[deaf_old (aj _)];exact h0⟩;have hn:NoRelease (stA Wg) (t++#[x]):=(h.norel _).app λd c=>by simp at c;rw[c,q.2];simp
  have e:HappensBefore (t++#[x]) r t.size:=.single (.inr ⟨.marked Hp (.inr L.act) hq (λk _ _=>hn k),L.heard,hh⟩);refine⟨t.size,x,QL,q.1,.inr ?_⟩;rcases Nat.lt_or_ge i r with B|uV
  .exact .trans (.single (.inl ⟨B,j,by rw[g?_old ai];exact s,L.g⟩)) e
  .obtain rfl:i=r:=ai;exact e
 have X:∀i a,touchAt (t++#[x]) i=Z a->Knows (t++#[x]) 0 i\/(shl sh a.loc/\a.kind=.atomic):=by
  intro i a f;obtain⟨nZ,s⟩:=old f;rcases h.pS i a nZ with m|⟨j,S,m,V,T,Q⟩|⟨j,S,r',m,V,T,Q,h6⟩|m
  .exact .inl (m.app _)
  .rcases mn j V T with⟨_,_,e⟩|e<;>rw[Q]at e<;>cases e
  .exact .inl (E j S r' V T Q i m h6)
  .exact .inr m
 have D0:∀j S,(if j=0 then WS.work n else .old)=.work S->j=0/\S=n:=by
  intro j S l
  split at l
  .rename_i e;cases l;exact⟨e,rfl⟩
  .cases l
 refine⟨λsaid=>noRace_append (h.nr said) G λi a _ d c b v _=>(rY d c b v).elim,λd c=>?_,λi a f=>h.low i a (old f).1,λj S l H i a f K=>?_,λj S l H i a f K agM=>?_,λi a f=>(X i a f).imp id λe=> .inr (.inr e),λi a f yq=>?_,λj S r l p=>?_,
  λa=>(h.norel a).app λd c=>(by simp at c;rw[c,q.2];simp),λi j s l y P=>?_,⟨n,rfl⟩⟩
 .rcases Array.mem_append.1 c with m|m
  .exact h.gs d m
  .rw[G d m];exact ja
 .obtain⟨rfl,rfl⟩:=D0 j S H;exact(X i a f).resolve_right λe=>ze C (Qy uJ K) e.1
 .obtain⟨rfl,rfl⟩:=D0 j S H;exact(X i a f).resolve_right λe=>ze C K e.1
 .rcases h.shp i a (old f).1 yq with e|⟨e1,_⟩
  .exact .inl e
  .refine .inr ⟨e1.app _,λ_ j l y=>?_⟩
   replace y:¬(if j=0 then WS.work n else .old)=.old:=y
   split at y
   .rename_i e;subst e;exact e1.app _
   .exact absurd rfl y
 .replace p:(if j=0 then WS.work n else .old)=.rel S r:=p
  split at p<;>cases p
 .have B:i<t.size:=by
   obtain⟨b,v,_⟩:=P;exact(old v).2
  have F:t.g? i=Z j:=by rw[<-g?_old (u:=#[x]) B];exact s
  have w:j<size:=by
   obtain⟨d,ho,M⟩:=aD.1 (show(t[i]?).map (·.g)=Z j from F);rw[<-M];exact h.gs d (mem_of_getElem? ho)
  rcases mn j l w with⟨R,r,e⟩|e
  .refine E j R r l w e i F (Nat.le_of_not_lt λW=>?_);exact(h.KV j R r w e).after i W F ((counts_old B).1 P)
  .exact(h.cnt i j F l e ((counts_old B).1 P)).app _
theorem TI.over(h:TI Wg sh D size N t)(l:∀j,0<j->j<size->D j=.old):t.HandedOver:=by
 intro i g c o n;have b:g<size:=by
  obtain⟨k,m,a⟩:=aD.1 (show(t[i]?).map (·.g)=Z g from c);rw[<-a];exact h.gs k (mem_of_getElem? m)
 obtain⟨q,z,f,e,d⟩:=h.cnt i g c ai (l g ai b) n;refine⟨q,by simp[Trace.g?,f,e],?_⟩;rcases d with rfl|d
 .exfalso
  have :Z g=Z z.g:=by rw[<-c];simp[Trace.g?,f]
  rw[e]at this;cases this;exact o rfl
 .exact d
end
open Go.ConcR (stA smA KK rd wr mk)
structure tL (Wg:Nat)(w:ar)(st sm:Int):Prop where
 st:w.cell? ⟨Wg,0,Y⟩=Z (.int .u64 st)
 sm:w.cell? ⟨Wg,1,Y⟩=Z (.int .u32 sm)
 fz:∀o,o<=1->w.frozen? ⟨Wg,o,Y⟩=O
def H4 (Wg:Nat)(w:ar):Prop:=∃st sm,tL Wg w st sm
def Ry (σ:pj)(w:ar):Prop:=
 match σ with
 | .gi g=>H4 g.Wg w
 |_=>True
def setSt (Wg:Nat)(x:Int)(w:ar):ar:=w.setCell (stA Wg) (.int .u64 x)
def setSm (Wg:Nat)(x:Int)(w:ar):ar:=w.setCell (smA Wg) (.int .u32 x)
def VM:Nat:=4
inductive DSt where
 |k1|d1|d2|d3|d4
section
variable (P:aE)(Wg:Nat)
inductive DStep (J:DSt->ak->Prop)(n:Nat):DSt->ak->ar->Prop
 |quiet {s:DSt}{g g':ak}{w:ar}:stepG P O g w=.go g' w #[]->J s g'->DStep J n s g w
 |k1 {g g':ak}{w:ar}:stepG P O g w=.go g' w #[mk .disable]->J .d1 g'->DStep J n .k1 g w
 |d1 {g:ak}{w:ar}:(∀v wt:Nat,wt<=1->v<VM->tL Wg w (((v:Int)+1)*KK+wt) 0->
   ∃g',stepG P O g w=.go g' (setSt Wg ((v:Int)*KK+wt) w) #[rd (stA Wg),wr (stA Wg)]/\((v=0/\wt=1)->J .d2 g')/\(¬(v=0/\wt=1)->QuitsD P n 1 g'))->DStep J n .d1 g w
 |d2 {g:ak}{w:ar}:(tL Wg w 1 0->∃g',stepG P O g w=.go g' w #[rd (stA Wg)]/\J .d3 g')->DStep J n .d2 g w
 |d3 {g:ak}{w:ar}:(tL Wg w 1 0->∃g',stepG P O g w=.go g' (setSt Wg 0 w) #[wr (stA Wg)]/\J .d4 g')->DStep J n .d3 g w
 |d4 {g:ak}{w:ar}:mayWake P g=U->(tL Wg w 0 0->∃g',stepG P O g w=.go g' (setSm Wg 1 w) (semEvents (smA Wg))/\QuitsD P n 1 g')->DStep J n .d4 g w
def JD:Nat->DSt->ak->Prop
 |0,_,_=>False
 |n+1,s,g=>g.status=.running/\∀w,H4 Wg w->DStep P Wg (JD n) n s g w
variable (p:dm)
inductive Rr (J:Perm->ak->ar->Prop)(n:Nat)(R:Perm)(g:ak)(w:ar):Prop
 |own {R':Perm}{g':ak}{w':ar}{es:Array Event}:Stepped P O R g w R' g' w' es->J R' g' w'->Rr J n R g w
 |rel {g':ak}:R.deaf=0->p.ok R w->stepG P O g w=.go g' w #[mk (.releaseMerge (stA Wg))]->JD P Wg n .k1 g'->Rr J n R g w
def JW:Nat->Perm->ak->ar->Prop
 |0,_,_,_=>False
 |n+1,R,g,w=>JW n R g w\/(g.status=.running/\∀aR,bC R w aR->H4 Wg aR->Rr P Wg p (JW n) n R g aR)
end
def JU (p:dm):Prop:=∀R w aR,p.ok R w->bC R w aR->p.ok R aR
section
variable (P:aE)(Fin:ab->ar->Prop)
inductive tE (J:pj->Perm->ak->ar->Prop):pj->Perm->ak->ar->Prop
 |own {σ:pj}{R R':Perm}{g g':ak}{w w':ar}{es:Array Event}:g.status=.running->Stepped P U R g w R' g' w' es->J σ R' g' w'->tE J σ R g w
 |ends {R:Perm}{g:ak}{w w':ar}{v:ab}{es:Array Event}:g.status=.running->stepG P U g w=.ended (.done v) w' es->(∀e∈es,pH R e)->R.deaf=0->Fin v w'->tE J .idle R g w
 |yh {R fg:Perm}{g:ak}{w:ar}{Wg:Nat}:j3 fg R->(∀b o,fg.wr b o->fg.rd b o)->fg.deaf=R.deaf->R.wr Wg 0->R.wr Wg 1->tL Wg w 0 0->(∀o,o<=1->¬fg.rd Wg o)->J (.gi ⟨Wg,[],.opn 0⟩) fg g w->tE J .idle R g w
 |add {Wg V:Nat}{ps:List dm}{R:Perm}{g:ak}{w:ar}:g.status=.running->V<VM->
   (∀v:Nat,v<=V->tL Wg w ((v:Int)*KK) 0->∃g',stepG P U g w=.go g' (setSt Wg (((v:Int)+1)*KK) w) #[rd (stA Wg),wr (stA Wg)]/\J (.gi ⟨Wg,ps,.added V⟩) R g' w)->tE J (.gi ⟨Wg,ps,.opn V⟩) R g w
 |said {Wg:Nat}{ps:List dm}{s:Sub}{R:Perm}{g g':ak}{w:ar}{es:Array Event}:g.status=.running->stepG P U g w=.go g' w es->(∀e∈es,e=mk (.read (smA Wg))\/e=mk (.write (smA Wg)))->
   J (.gi ⟨Wg,ps,s⟩) R g' w->tE J (.gi ⟨Wg,ps,s⟩) R g w
 |spawn {Wg V kc:Nat}{ps:List dm}{p:dm}{R fg Rc:Perm}{g g' child:ak}{w:ar}:g.status=.running->R.deaf=0->stepG P U g w=.spawn g' child w #[]->
   j3 fg R->j3 Rc R->(∀b o,fg.wr b o->fg.rd b o)->(∀b o,Rc.wr b o->Rc.rd b o)->fg.deaf=0->Rc.deaf=0->nW fg Rc->nW Rc fg->JU p->JW P Wg p kc Rc child w->
   J (.gi ⟨Wg,p::ps,.opn (V+1)⟩) fg g' w->tE J (.gi ⟨Wg,ps,.added V⟩) R g w
 |load {Wg V:Nat}{ps:List dm}{R:Perm}{g:ak}{w:ar}:g.status=.running->
   (∀v:Nat,v<=V->tL Wg w ((v:Int)*KK) 0->∃g',stepG P U g w=.go g' w #[rd (stA Wg)]/\(v=0->J (.gi ⟨Wg,ps,.fin⟩) R g' w)/\(v≠0->J (.gi ⟨Wg,ps,.seen v⟩) R g' w))->tE J (.gi ⟨Wg,ps,.opn V⟩) R g w
 |cas {Wg vs:Nat}{ps:List dm}{R:Perm}{g:ak}{w:ar}:g.status=.running->
   (∀v:Nat,v<=vs->tL Wg w ((v:Int)*KK) 0->(v=vs->∃g',stepG P U g w=.go g' (setSt Wg ((v:Int)*KK+1) w) #[rd (stA Wg),wr (stA Wg)]/\J (.gi ⟨Wg,ps,.reg⟩) R g' w)/\
    (v≠vs->∃g',stepG P U g w=.go g' w #[rd (stA Wg)]/\J (.gi ⟨Wg,ps,.opn (vs-1)⟩) R g' w))->tE J (.gi ⟨Wg,ps,.seen vs⟩) R g w
 |sem {Wg:Nat}{ps:List dm}{R:Perm}{g:ak}{w:ar}:g.status=.running->g.offers=Y->(∀st,tL Wg w st 0->stepG P U g w=.go {g with status:=.blocked} w #[])->
   (tL Wg w 0 1->∃g',stepG P U g w=.go g' (setSm Wg 0 w) (semEvents (smA Wg))/\J (.gi ⟨Wg,ps,.Yh⟩) R g' w)->tE J (.gi ⟨Wg,ps,.reg⟩) R g w
 |last {Wg:Nat}{ps:List dm}{R:Perm}{g:ak}{w:ar}:g.status=.running->(tL Wg w 0 0->∃g',stepG P U g w=.go g' w #[rd (stA Wg)]/\J (.gi ⟨Wg,ps,.fin⟩) R g' w)->tE J (.gi ⟨Wg,ps,.Yh⟩) R g w
 |acq {Wg:Nat}{ps:List dm}{R:Perm}{g g':ak}{w:ar}:g.status=.running->R.deaf=0->stepG P U g w=.go g' w #[mk (.acquire (stA Wg))]->
   (∀Rs:List Perm,bP (λp S=>p.ok S w/\yv S w/\nW R S/\nW S R) ps Rs->Rs.Pairwise (λS T=>nW S T/\nW T S)->
    ∃R',R'.deaf=0/\(∀b o,R'.wr b o->R'.rd b o)/\(∀b o,R'.rd b o->R.rd b o\/∃S∈Rs,S.rd b o)/\(∀b,R'.ob b->R.ob b\/∃S∈Rs,S.ob b)/\J .idle R' g' w)->tE J (.gi ⟨Wg,ps,.fin⟩) R g w
def JM:pj->Nat->Perm->ak->ar->Prop
 |_,0,_,_,_=>False
 |σ,n+1,R,g,w=>JM σ n R g w\/∀aR,bC R w aR->Ry σ aR->tE P Fin (λgU R' g' w'=>JM gU n R' g' w') σ R g aR
end
section
variable {P:aE}{Fin:ab->ar->Prop}{Wg:Nat}{p:dm}
theorem sW:gN P O (λn R g w=>JW P Wg p n R g w):=
 ⟨λh=> .inl h,λa h=> .inr ⟨a,λe b _=>let⟨i,f,es,j,d,c⟩:=h e b; .own d c⟩⟩
theorem iY:∀a,gN P U (JM P Fin a):=λa=>
 ⟨λh=> .inl h,λb h=> .inr λf c _=>let⟨i,g,es,j,e,d⟩:=h f c; .own b e d⟩
theorem JW.keeps:∀{n:Nat}{R:Perm}{g:ak}{w aR:ar},JW P Wg p n R g w->bC R w aR->JW P Wg p n R g aR
 |0,_,_,_,_,h,_=>h
 |n+1,R,g,w,aR,h,k=>h.imp (λx=>x.keeps k) λx=>⟨x.1,λb a=>x.2 b (k.trans a)⟩
theorem JM.keeps:∀{n:Nat}{b:pj}{R:Perm}{g:ak}{w aR:ar},JM P Fin b n R g w->bC R w aR->JM P Fin b n R g aR
 |0,_,_,_,_,_,h,_=>h
 |n+1,b,R,g,w,aR,h,k=>h.imp (λx=>x.keeps k) λx c a=>x c (k.trans a)
theorem JW.out:∀{n:Nat}{R:Perm}{g:ak}{w:ar},JW P Wg p n R g w->∃m,m<n/\g.status=.running/\(H4 Wg w->Rr P Wg p (JW P Wg p m) m R g w)
 |0,_,_,_,h=>h.elim
 |n+1,R,g,w,h=>h.elim (λx=>let⟨m,b,a⟩:=JW.out x;⟨m,ai,a⟩) λx=>⟨n,ai,x.1,x.2 w (bC.refl _ _)⟩
theorem JM.out:∀{n:Nat}{a:pj}{R:Perm}{g:ak}{w:ar},JM P Fin a n R g w->∃m,m<n/\(Ry a w->tE P Fin (λd f e b=>JM P Fin d m f e b) a R g w)
 |0,_,_,_,_,h=>h.elim
 |n+1,a,R,g,w,h=>h.elim (λx=>let⟨m,i,c⟩:=JM.out x;⟨m,ai,c⟩) λx=>⟨n,ai,x w (bC.refl _ _)⟩
theorem JM.le{n m:Nat}{a R g w}(h:JM P Fin a n R g w)(b:n<=m):JM P Fin a m R g w:=(iY a).le b h
theorem JD.mono:∀{n:Nat}{s:DSt}{g:ak},JD P Wg n s g->g.status=.running
 |0,_,_,h=>h.elim
 |_+1,_,_,h=>h.1
end
open Go.ConcN (RelBy upd upd_same upd_ne)
theorem vA (w:ar)(a:Addr)(v:ab)(b o:Nat):(w.setCell a v).frozen? ⟨b,o,Y⟩=w.frozen? ⟨b,o,Y⟩:=by
 unfold ar.frozen? ar.setCell;simp only[Array.getElem?_modify]
 by_cases h:a.block=b
 .subst h;cases hb:w.heap[a.block]? with
  |none=>simp
  |some x=>cases x with
   |cells c e f=>simp
   |_=>simp
 .simp[h]
theorem size_setCell (w:ar)(a:Addr)(v:ab):(w.setCell a v).heap.size=w.heap.size:=by simp[ar.setCell]
theorem heap_setCell (w:ar)(a:Addr)(v:ab)(b:Nat)(h:a.block≠b):(w.setCell a v).heap[b]?=w.heap[b]?:=by
 unfold ar.setCell;simp only[Array.getElem?_modify,h,if_false]
theorem F5 {w:ar}{b o:Nat}{v}(h:w.cell? ⟨b,o,Y⟩=Z v):w.shape? b≠Y:=by
 unfold ar.cell? at h;unfold ar.shape?;cases hb:w.heap[b]? with
 |none=>simp[hb]at h
 |some x=>cases x<;>simp_all
section
variable {Wg:Nat}{w w':ar}{st sm x:Int}{R S:Perm}
theorem tL.setSt(h:tL Wg w st sm)(x:Int):tL Wg (setSt Wg x w) x sm:=by
 refine⟨?_,?_,λo a=>(vA ..).trans (h.fz o a)⟩
 .show(w.setCell (stA Wg) _).cell? _=_
  rw[iJ _ _ _ _ _ rfl];simp[stA,h.st]
 .show(w.setCell (stA Wg) _).cell? _=_
  rw[iJ _ _ _ _ _ rfl];simp[stA,h.sm]
theorem tL.setSm(h:tL Wg w st sm)(x:Int):tL Wg (setSm Wg x w) st x:=by
 refine⟨?_,?_,λo a=>(vA ..).trans (h.fz o a)⟩
 .show(w.setCell (smA Wg) _).cell? _=_
  rw[iJ _ _ _ _ _ rfl];simp[smA,h.st]
 .show(w.setCell (smA Wg) _).cell? _=_
  rw[iJ _ _ _ _ _ rfl];simp[smA,h.sm]
theorem tL.at(h:tL Wg w st sm)(d:Nat):tL Wg (w.at d) st sm:=⟨h.st,h.sm,h.fz⟩
theorem xf {o:Nat}{v u}(d:yv R w)(a:¬R.rd Wg o)(f:w.cell? ⟨Wg,o,Y⟩=Z u):bC R w (w.setCell ⟨Wg,o,Y⟩ v):=by
 refine⟨rfl,rfl,rfl,by rw[size_setCell];exact aj _,λb _=>sw ..,λb x c=>?_,λb x _=>qo ..,λb g=>heap_setCell _ _ _ _ λe=>?_⟩
 .rw[iJ _ _ _ _ _ rfl]
  split
  .rename_i h;obtain⟨rfl,rfl,_⟩:=h;exact absurd c a
  .rfl
 .simp only at e;subst e;exact F5 f (d.ob _ g).2
theorem rX (b:yv R w)(a:∀o,o<=1->¬R.rd Wg o)(h:tL Wg w st sm):bC R w (setSt Wg x w):=xf b (a 0 ai) h.st
theorem BF (b:yv R w)(a:∀o,o<=1->¬R.rd Wg o)(h:tL Wg w st sm):bC R w (setSm Wg x w):=xf b (a 1 ai) h.sm
theorem tL.Rd(h:tL Wg w st sm)(c:uW R w.heap.size w w')(a:Wg<w.heap.size)(b:∀o,o<=1->¬R.wr Wg o):tL Wg w' st sm:=
 ⟨(c.cell Wg 0 a (b 0 ai)).trans h.st,(c.cell Wg 1 a (b 1 ai)).trans h.sm,λo d=>(vz (c.sE Wg o a)).trans (h.fz o d)⟩
theorem Hk (c:uW R w.heap.size w w')(f:nW R S)(e:yv S w):bC S w w':=
 ⟨c.tape,c.os,c.output,c.size,λb a=>c.shape b a,λb o d=>c.cell b o (e.rd b o d) λg=>f.cell b o g d,λb o a=>c.sE b o a,
  λb a=>c.obj b (e.ob b a).1 (λd=>f.obj b d a) (e.ob b a).2⟩
end
section
variable {sh:Nat->Prop}{D:Nat->WS}{size k Wg:Nat}{w w':ar}{R R':Perm}
theorem Lay.own(L:Lay sh D size w)(s:k<size)(E:D k=.work R)(m:eZ R R' w.heap.size)(C:yv R' w')(B:w.heap.size<=w'.heap.size)
  (F:∀j S,j≠k->j<size->(D j).eI=Z S->bC S w w'):Lay sh (upd D k (.work R')) size w':=by
 have r:(D k).eI=Z R:=by rw[E];rfl
 have p:∀j S,(upd D k (.work R') j).eI=Z S->(j=k/\S=R')\/(j≠k/\(D j).eI=Z S):=by
  intro j S h
  by_cases e:j=k
  .subst e;rw[upd_same]at h;exact .inl ⟨rfl,(Option.some.inj h).symm⟩
  .rw[upd_ne _ _ e]at h;exact .inr ⟨e,h⟩
 have J:=L.low k R s r;have H:∀j S,j≠k->j<size->(D j).eI=Z S->nW R' S:=by
  intro j S a q c;have d:=L.J8 k j R S (Ne.symm a) s q r c;have l:=L.low j S q c;exact⟨λb o g f=>(m.wr b o g).elim (λx=>d.cell b o x f) λx=>absurd (l.rd b o f) ai,λb g f=>(m.ob b g).elim (λx=>d.obj b x f) λx=>absurd (l.ob b f).1 ai⟩
 have G:∀j S,j≠k->j<size->(D j).eI=Z S->nW S R':=by
  intro j S a q c;have d:=L.J8 j k S R a q s c r;have l:=L.low j S q c;exact⟨λb o g f=>(m.rd b o f).elim (λx=>d.cell b o g x) λx=>absurd (l.rd b o (l.wr b o g)) ai,λb g f=>(m.ob b f).elim (λx=>d.obj b g x) λx=>absurd (l.ob b g).1 ai⟩
 refine⟨λj S a c=>?_,λi j S T u y a c z=>?_,λj S a c b o v n=>?_,λb n=>aZ (L.sh b n) B⟩
 .rcases p j S c with⟨rfl,rfl⟩|⟨e,h⟩
  .exact C
  .exact(L.low j S a h).keeps (F j S e a h)
 .rcases p i S c with⟨rfl,rfl⟩|⟨e,h⟩
  .rcases p j T z with⟨rfl,rfl⟩|⟨A,t⟩
   .exact absurd rfl u
   .exact H j T A a t
  .rcases p j T z with⟨rfl,rfl⟩|⟨A,t⟩
   .exact G i S e y h
   .exact L.J8 i j S T u y a h t
 .rcases p j S c with⟨rfl,rfl⟩|⟨e,h⟩
  .exact(m.rd b o v).elim (λx=>L.F4 j R s r b o x n) λx=>absurd (L.sh b n) ai
  .exact L.F4 j S a h b o v n
theorem Lay.ae7(L:Lay sh D size w)(d:w.heap.size<=w'.heap.size)(f:∀j S,j<size->(D j).eI=Z S->bC S w w'):Lay sh D size w':=
 ⟨λj S a c=>(L.low j S a c).keeps (f j S a c),L.J8,L.F4,λb e=>aZ (L.sh b e) d⟩
theorem Lay.same{d}(L:Lay sh D size w)(h:∀j,j<size->(d j).eI=(D j).eI\/(d j).eI=Y):Lay sh d size w:=by
 have b:∀j S,j<size->(d j).eI=Z S->(D j).eI=Z S:=λj S a c=>by
  rcases h j a with e|e
  .rw[<-e];exact c
  .rw[e]at c;cases c
 exact⟨λj S a c=>L.low j S a (b j S a c),λi j S T g f a c k=>L.J8 i j S T g f a (b i S f c) (b j T a k),λj S a c=>L.F4 j S a (b j S a c),L.sh⟩
end
open Go.ConcN (RelBy upd upd_same upd_ne sumTo sumTo_upd sumTo_congr le_sumTo)
theorem tj {R:Perm}{e b}(j:∀b o,R.wr b o->R.rd b o)(h:EvW R e)(d:(MemAct.ofEvent e).touch?=Z b):Xo R b.loc/\(b.write=U->inW R b.loc):=by
 obtain⟨loc,i,k⟩:=e;rcases h with h|h|h
 .cases loc with
  |cell a=>
   rw[ofEvent_cell0]at d;simp only[MemAct.touch?,ah]at d;subst d;obtain⟨g,c⟩:=h;refine⟨⟨g,?_⟩,λf=>⟨g,?_⟩⟩
   .by_cases f:i=U
    .simp only[f,if_true]at c;exact j _ _ c
    .simp only[f,if_false]at c;exact c
   .simp only at f;simp only[f,if_true]at c;exact c
  |obj r=>
   obtain⟨g,c⟩:=h;simp only at c;subst c;cases i<;>simp[MemAct.ofEvent,MemAct.touch?]at d<;>subst d<;>exact⟨g,λ_=>g⟩
  |mark m=>
   have l:IW m:=h;cases m<;>simp_all [MemAct.ofEvent,MemAct.touch?,IW]
  |_=>exact h.elim
 .simp only at h;subst h;simp[MemAct.ofEvent,MemAct.touch?]at d
 .simp only at h;subst h;simp[MemAct.ofEvent,MemAct.touch?]at d
theorem EV {R e}(h:EvW R e)(a:Addr):MemAct.ofEvent e≠ .mark (.release a):=by
 intro c;have b:=Go.ConcR.loc_of_ofEvent c;rcases h with h|h|h
 .unfold pH at h;rw[b]at h;exact h
 .rw[h]at b;cases b
 .rw[h]at b;cases b
theorem Jf {R w}(h:yv R w){l}(b:Xo R l):l.low w.heap.size:=by
 cases l with
 |cell a=>exact h.rd _ _ b.2
 |obj r=>exact(h.ob _ b).1
 |_=>trivial
def Vc (size:Nat)(S:Nat->Nat):Nat:=sumTo size λi=>if 5<=S i then 1 else 0
def OpenSt (lo size:Nat)(S:Nat->Nat):Prop:=∀i,lo<=i->i<size->S i=7\/S i=6\/S i=5\/S i=1
def AllQuit (lo size:Nat)(S:Nat->Nat):Prop:=∀i,lo<=i->i<size->S i=1
inductive Mode (lo size:Nat)(S:Nat->Nat):Sub->Bool->Int->Int->Prop
 |opn {V:Nat}:OpenSt lo size S->Vc size S<=V->V<=VM->Mode lo size S (.opn V) O ((Vc size S:Nat)*KK) 0
 |added {V:Nat}:OpenSt lo size S->Vc size S<=V->V<VM->Mode lo size S (.added V) O (((Vc size S:Nat)+1)*KK) 0
 |seen {vs:Nat}:OpenSt lo size S->Vc size S<=vs->1<=vs->vs<=VM->Mode lo size S (.seen vs) O ((Vc size S:Nat)*KK) 0
 |reg {b:Bool}:OpenSt lo size S->1<=Vc size S->Vc size S<=VM->Mode lo size S .reg b ((Vc size S:Nat)*KK+1) 0
 |last {b:Bool} (L:Nat):lo<=L->L<size->S L=4\/S L=3\/S L=2->(∀i,lo<=i->i<size->i≠L->S i=1)->Mode lo size S .reg b (if S L=2 then 0 else 1) 0
 |sema:AllQuit lo size S->Mode lo size S .reg O 0 1
 |Yh:AllQuit lo size S->Mode lo size S .Yh O 0 0
 |fin:AllQuit lo size S->Mode lo size S .fin O 0 0
section
variable {lo size:Nat}{S:Nat->Nat}{s:Sub}{b:Bool}{st sm:Int}
theorem No (S:Nat->Nat){i x:Nat}(hi:i<size):Vc size (upd S i x)+(if 5<=S i then 1 else 0)=Vc size S+(if 5<=x then 1 else 0):=
 sumTo_upd S x (λy=>if 5<=y then 1 else 0) hi
theorem Nq (S:Nat->Nat){i:Nat}(hi:i<size)(h:5<=S i):1<=Vc size S:=by
 have :=le_sumTo (f:=λi=>if 5<=S i then 1 else 0) hi;simp only[h,if_true]at this;exact this
theorem aeZ (S:Nat->Nat){i j:Nat}(hi:i<size)(c:j<size)(b:j≠i)(h:5<=S i)(d:5<=S j):2<=Vc size S:=by
 have a:=No S (x:=0) hi;have e:=Nq (upd S i 0) c (by rw[upd_ne _ _ b];exact d);simp only[h,if_true]at a;simp at a;omega
theorem ZJ (h:Vc size S=0){i:Nat}(hi:i<size):¬5<=S i:=λa=>by have :=Nq S hi a;omega
theorem Mode.Dg(h:Mode lo size S s b st sm)(b':Bool)(f:b'=b\/b'=O):Mode lo size S s b' st sm:=by
 rcases f with rfl|rfl
 .exact h
 .cases h with
  |opn a d c=>exact .opn a d c
  |added a d c=>exact .added a d c
  |seen a d c e=>exact .seen a d c e
  |reg a d c=>exact .reg a d c
  |last L a d c e=>exact .last L a d c e
  |sema a=>exact .sema a
  |Yh a=>exact .Yh a
  |fin a=>exact .fin a
theorem Mode.amW(h:Mode lo size S s b st sm){i x:Nat}(g:lo<=i)(hi:i<size)(m:5<=S i)(n:x=7\/x=6\/x=5):Mode lo size (upd S i x) s b st sm:=by
 have j:Vc size (upd S i x)=Vc size S:=by
  have :=No S (x:=x) hi;simp only[m,if_true,show 5<=x by omega]at this;omega
 have k:OpenSt lo size S->OpenSt lo size (upd S i x):=λh a c d=>by
  by_cases e:a=i
  .subst e;rw[upd_same];omega
  .rw[upd_ne _ _ e];exact h a c d
 cases h with
 |opn c d f=>rw[<-j]at d⊢;exact .opn (k c) d f
 |added c d f=>rw[<-j]at d⊢;exact .added (k c) d f
 |seen c d f l=>rw[<-j]at d⊢;exact .seen (k c) d f l
 |reg c d f=>rw[<-j]at d f⊢;exact .reg (k c) d f
 |last L c d f l=>
  by_cases e:i=L
  .subst e;omega
  .have :=l i g hi e;omega
 |sema c=>have :=c i g hi;omega
 |Yh c=>have :=c i g hi;omega
 |fin c=>have :=c i g hi;omega
theorem Mode.isLast(h:Mode lo size S s b st sm){i:Nat}(d:lo<=i)(hi:i<size)(g:S i=4\/S i=3\/S i=2):
  s=.reg/\(∀a,lo<=a->a<size->a≠i->S a=1)/\st=(if S i=2 then 0 else 1)/\sm=0:=by
 cases h with
 |opn c _ _=>have :=c i d hi;omega
 |added c _ _=>have :=c i d hi;omega
 |seen c _ _ _=>have :=c i d hi;omega
 |reg c _ _=>have :=c i d hi;omega
 |last L c k j f=>
  by_cases e:i=L
  .subst e;exact⟨rfl,f,rfl,rfl⟩
  .have :=f i d hi e;omega
 |sema c=>have :=c i d hi;omega
 |Yh c=>have :=c i d hi;omega
 |fin c=>have :=c i d hi;omega
theorem Mode.minus(h:Mode lo size S s b st sm){i:Nat}(j:lo<=i)(hi:i<size)(y:S i=5):
  ∃v g:Nat,g<=1/\v<VM/\st=((v:Int)+1)*KK+g/\sm=0/\((v=0/\g=1)->Mode lo size (upd S i 4) s b ((v:Int)*KK+g) 0)/\(¬(v=0/\g=1)->Mode lo size (upd S i 1) s b ((v:Int)*KK+g) 0):=by
 have z:=Nq S hi (by omega:5<=S i);have t:∀x,¬5<=x->Vc size (upd S i x)+1=Vc size S:=by
  intro x r;have :=No S (x:=x) hi;simp only[show 5<=S i by omega,if_true,r,if_false]at this;omega
 have k:OpenSt lo size S->OpenSt lo size (upd S i 1):=λh a o c=>by
  by_cases e:a=i
  .subst e;rw[upd_same];simp
  .rw[upd_ne _ _ e];exact h a o c
 have o:=t 1 ai;obtain⟨v,d⟩:∃v,Vc size S=v+1:=⟨Vc size S-1,ai⟩;have m:Vc size (upd S i 1)=v:=ai;cases h with
 |opn c l f=>
  refine⟨v,0,ai,ai,?_,rfl,λx=>absurd x.2 ai,λ_=>?_⟩
  .rw[d];simp
  .have :Mode lo size (upd S i 1) (.opn _) O ((Vc size (upd S i 1):Nat)*KK) 0:=.opn (k c) (by omega:Vc size (upd S i 1)<= _) f;rw[m]at this;simpa using this
 |added c l f=>
  refine⟨v+1,0,ai,ai,?_,rfl,λx=>absurd x.2 ai,λ_=>?_⟩
  .rw[d];simp
  .have :Mode lo size (upd S i 1) (.added _) O (((Vc size (upd S i 1):Nat)+1)*KK) 0:=.added (k c) (by omega:Vc size (upd S i 1)<= _) f;rw[m]at this;simpa using this
 |seen c l f n=>
  refine⟨v,0,ai,ai,?_,rfl,λx=>absurd x.2 ai,λ_=>?_⟩
  .rw[d];simp
  .have :Mode lo size (upd S i 1) (.seen _) O ((Vc size (upd S i 1):Nat)*KK) 0:=.seen (k c) (by omega:Vc size (upd S i 1)<= _) f n;rw[m]at this;simpa using this
 |reg c l f=>
  refine⟨v,1,ai,ai,?_,rfl,λx=>?_,λx=>?_⟩
  .rw[d];simp
  .obtain⟨rfl,_⟩:=x;have :Mode lo size (upd S i 4) .reg b (if upd S i 4 i=2 then 0 else 1) 0:=.last i j hi (by rw[upd_same];simp) λa w q p=>by
    rw[upd_ne _ _ p];have A:=c a w q
    by_cases u:5<=S a
    .have :=aeZ S hi q p ai u;omega
    .omega
   rw[upd_same]at this;simpa using this
  .have :Mode lo size (upd S i 1) .reg b ((Vc size (upd S i 1):Nat)*KK+1) 0:=.reg (k c) ai ai;rw[m]at this;simpa using this
 |last L c l f n=>
  by_cases e:i=L
  .subst e;omega
  .have :=n i j hi e;omega
 |sema c=>have :=c i j hi;omega
 |Yh c=>have :=c i j hi;omega
 |fin c=>have :=c i j hi;omega
theorem allQuit_of (h:OpenSt lo size S)(c:Vc size S=0):AllQuit lo size S:=λi b a=>by
 have :=h i b a;have :=ZJ c a;omega
end
section
variable (P:aE)(Wg:Nat)(p:dm)
inductive WSit:WS->Nat->Nat->Nat->ak->ar->Prop
 |work {R:Perm}{n:Nat}{g:ak}{w:ar}:JW P Wg p n R g w->WSit (.work R) 7 n R.deaf g w
 |k1 {R:Perm}{r n:Nat}{g:ak}{w:ar}:JD P Wg n .k1 g->WSit (.rel R r) 6 n 0 g w
 |d1 {R:Perm}{r n:Nat}{g:ak}{w:ar}:JD P Wg n .d1 g->WSit (.rel R r) 5 n 1 g w
 |d2 {R:Perm}{r n:Nat}{g:ak}{w:ar}:JD P Wg n .d2 g->WSit (.rel R r) 4 n 1 g w
 |d3 {R:Perm}{r n:Nat}{g:ak}{w:ar}:JD P Wg n .d3 g->WSit (.rel R r) 3 n 1 g w
 |d4 {R:Perm}{r n:Nat}{g:ak}{w:ar}:JD P Wg n .d4 g->WSit (.rel R r) 2 n 1 g w
 |gone {R:Perm}{r n d:Nat}{g:ak}{w:ar}:QuitsD P n d g->WSit (.rel R r) 1 n d g w
 |old {n d:Nat}{g:ak}{w:ar}:QuitsD P n d g->WSit .old 0 n d g w
end
section
variable {P:aE}{Wg:Nat}{p:dm}{ws:WS}{s n d:Nat}{g:ak}{w w':ar}
theorem WSit.status(h:WSit P Wg p ws s n d g w):g.status=.running\/(g.status=.finished/\s<=1):=by
 cases h with
 |work h=>exact .inl (JW.out h).choose_spec.2.1
 |k1 h=>exact .inl h.mono
 |d1 h=>exact .inl h.mono
 |d2 h=>exact .inl h.mono
 |d3 h=>exact .inl h.mono
 |d4 h=>exact .inl h.mono
 |gone h=>exact h.status.imp id λx=>⟨x,ai⟩
 |old h=>exact h.status.imp id λx=>⟨x,ai⟩
theorem WSit.woken(h:WSit P Wg p ws s n d g w)(a b:ak)(w':ar):woken P a b w' g=g:=by
 unfold Go.Conc.woken
 split
 .exact again_running _ (h.status.imp id (·.1))
 .rfl
theorem WSit.keeps(h:WSit P Wg p ws s n d g w)(k:∀R,ws.eI=Z R->bC R w w'):WSit P Wg p ws s n d g w':=by
 cases h with
 |work h=>exact .work (h.keeps (k _ rfl))
 |k1 h=>exact .k1 h
 |d1 h=>exact .d1 h
 |d2 h=>exact .d2 h
 |d3 h=>exact .d3 h
 |d4 h=>exact .d4 h
 |gone h=>exact .gone h
 |old h=>exact .old h
end
structure Com (P:aE)(Wg:Nat)(sh:Nat->Prop)(lo:Nat)(D:Nat->WS)(S F:Nat->Nat)(ps:Nat->dm)(gs:Array ak)(w:ar)(t:Trace):Prop where
 lom:1<=lo/\lo<=gs.size
 wk:∀i,0<i->i<gs.size->∃g,gs[i]?=Z g/\WSit P Wg (ps i) (D i) (S i) (F i) (Deaf t i) g w
 old:∀i,i<lo->S i=0
 act:∀i,lo<=i->i<gs.size->S i≠0
 post:∀i R r,i<gs.size->D i=.rel R r->(ps i).ok R w
 Iq:∀i,lo<=i->i<gs.size->JU (ps i)
 above:∀j,gs.size<=j->Deaf t j=0
 lay:Lay sh D gs.size w
 ti:TI Wg sh D gs.size w.heap.size t
def B8 (σ:pj)(Wg:Nat)(sh:Nat->Prop)(lo size:Nat)(S:Nat->Nat)(ps:Nat->dm)(b:Bool)(w:ar):Prop:=
 match σ with
 | .Dd=>False
 | .idle=>lo=size/\b=O
 | .gi gr=>gr.Wg=Wg/\sh Wg/\gr.xd=((List.range (size-lo)).map λi=>ps (lo+i)).reverse/\∃st sm,tL Wg w st sm/\Mode lo size S gr.sub b st sm
theorem B8.live{a}{Wg:Nat}{sh}{lo size:Nat}{S ps}{b:Bool}{w}(h:B8 a Wg sh lo size S ps b w):Ry a w:=by
 cases a with
 |Dd=>trivial
 |idle=>trivial
 |gi e=>obtain⟨rfl,_,_,st,c,d,_⟩:=h;exact⟨st,c,d⟩
def py (b:Bool)(g:ak):ak:=if b then{g with status:=.blocked}else g
structure IV (P:aE)(Fin:ab->ar->Prop)(gs:Array ak)(w:ar)(t:Trace)(σ:pj)(n:Nat)(R:Perm)(g:ak)(Wg:Nat)(sh:Nat->Prop)(lo:Nat)(D:Nat->WS)(S F:Nat->Nat)(ps:Nat->dm)(b:Bool):Prop where
 main:gs[0]?=Z (py b g)
 blk:b=U->g.status=.running/\g.offers=Y
 jm:JM P Fin σ n R g w
 perm:D 0=.work R
 deaf:Deaf t 0=R.deaf
 eL:Com P Wg sh lo D S F ps gs w t
 gi:B8 σ Wg sh lo gs.size S ps b w
def meas (n:Nat)(b:Bool)(size:Nat)(F:Nat->Nat):Nat×Nat:=(n,(if b then 0 else 1)+2*sumTo size F)
def Inv (P:aE)(Fin:ab->ar->Prop)(μ:Nat×Nat)(m:Machine)(t:Trace):Prop:=
 ∃gs w sl σ n R g Wg sh lo D S F ps b,m=crowd gs w sl/\IV P Fin gs w t σ n R g Wg sh lo D S F ps b/\μ=meas n b gs.size F
section
variable {P:aE}{Fin:ab->ar->Prop}{gs:Array ak}{w w':ar}{t:Trace}{σ:pj}{n:Nat}{R:Perm}{g:ak}{Wg:Nat}{sh:Nat->Prop}{lo:Nat}{D:Nat->WS}{S F:Nat->Nat}{ps:Nat->dm}{b:Bool}{sl:Option (Nat×Nat)}
theorem IV.size(a:IV P Fin gs w t σ n R g Wg sh lo D S F ps b):0<gs.size:=(Array.getElem?_eq_some_iff.1 a.main).1
theorem IV.WK(a:IV P Fin gs w t σ n R g Wg sh lo D S F ps b):yv R w:=a.eL.lay.low 0 R a.size (by rw[a.perm];rfl)
theorem JM.running:∀(n:Nat) {σ:pj}{R:Perm}{g:ak}{w:ar},JM P Fin σ n R g w->Ry σ w->g.status=.running:=by
 intro n
 induction n using Nat.strongRecOn with
 |_ n a=>
  intro σ R g w h d;obtain⟨m,c,b⟩:=h.out;cases b d with
  |own h _ _=>exact h
  |ends h _ _ _ _=>exact h
  |yh _ _ _ _ _ f _ e=>exact a m c e ⟨_,_,f⟩
  |add h _ _=>exact h
  |said h _ _ _=>exact h
  |spawn h=>exact h
  |load h _=>exact h
  |cas h _=>exact h
  |sem h _ _ _=>exact h
  |last h _=>exact h
  |acq h _ _ _=>exact h
theorem Ly (a:b=O->g.status=.running):awake (py b g):=by
 cases b with
 |false=>exact awake_of (.inl (a rfl))
 |true=>exact awake_of (.inr (.inl rfl))
theorem Kd {a a':ak}(f:g.status=.running)(e:b=U->g.offers=Y)(i:a'.status=.running\/a'.status=.finished):
  ∃c,woken P a a' w' (py b g)=py c g/\(c=b\/c=O)/\(mayWake P a=U->c=O):=by
 have d:(a'.status != .blocked&&a'.status != .waiting)=U:=by rcases i with h|h<;>rw[h]<;>rfl
 cases b with
 |false=>
  refine⟨O,?_,.inl rfl,λ_=>rfl⟩
  show woken P a a' w' g=g
  exact woken_running f
 |true=>
  by_cases hm:mayWake P a=U
  .refine⟨O,?_,.inr rfl,λ_=>rfl⟩;unfold Go.Conc.woken;rw[bh (by rw[ag]at d;simp[hm,d.1,d.2])];exact Go.ConcR.again_blocked f (e rfl) w'
  .refine⟨U,?_,.inl rfl,λh=>absurd h hm⟩;unfold Go.Conc.woken;rw[bH (by simp[hm])]
theorem IV.running(a:IV P Fin gs w t σ n R g Wg sh lo D S F ps b):g.status=.running:=JM.running n a.jm a.gi.live
theorem IV.worker(c:IV P Fin gs w t σ n R g Wg sh lo D S F ps b){i:Nat}(xU:0<i)(hi:i<gs.size){a a' es}(W:gs[i]?=Z a)(fA:stepG P O a w=.go a' w' es)
  {ws}{s m:Nat}(z:∀j T,j≠i->j<gs.size->(D j).eI=Z T->bC T w w')(u:WSit P Wg (ps i) ws s m (deafBehind (Deaf t i) es) a' w')(Ez:∀T r,ws=.rel T r->(ps i).ok T w')
  (hold:s=0↔S i=0)(XO:Lay sh (upd D i ws) gs.size w')(Xt:TI Wg sh (upd D i ws) gs.size w'.heap.size (t++MemOp.ofEvents i a.frame.fn a.frame.place es))(Hs:m<F i)
  (Cs:∀o,(o=b\/o=O)->(mayWake P a=U->o=O)->B8 σ Wg sh lo gs.size (upd S i s) ps o w'):
  ∃k q C,runT P (crowd gs w sl) i=(.next k,q)/\Lt2 C (meas n b gs.size F)/\Inv P Fin C k (t++q):=by
 have N:=runT_crowd_go (P:=P) (sl:=sl) (i:=i) W (by rw[show(i==0)=O by simp;omega];exact fA);have A:i≠0:=ai;obtain⟨o,L,E,y⟩:=Kd (P:=P) (w':=w') (a:=a) (a':=a') c.running (λh=>(c.blk h).2) (u.status.imp id (·.1));have f:((gs.map (woken P a a' w')).setIfInBounds i a').size=gs.size:=dA;have B:∀K∈MemOp.ofEvents i a.frame.fn a.frame.place es,K.g=i:=Go.ConcR.g_of_ofEvents;have v:bC R w w':=z 0 R ai c.size (by rw[c.perm];rfl);refine⟨_,_,_,N,?_,_,w',sl,σ,n,R,g,Wg,sh,lo,upd D i ws,upd S i s,upd F i m,ps,o,rfl,⟨?_,λh=>?_,c.jm.keeps v,by rw[upd_ne _ _ ai];exact c.perm,?_,⟨?_,λj J d=>?_,λj d=>?_,λj H d=>?_,λj T r d l=>?_,?_,λj d=>?_,?_,?_⟩,?_⟩,rfl⟩
 .rw[f];unfold meas;refine Prod.Lex.right _ ?_;have G:=sumTo_upd F m id hi;simp only[id]at G;have h2:(if o then 0 else 1)<=(if b then 0 else 1)+1:=by split<;>split<;>omega
  have h3:(sumTo gs.size λx=>upd F i m x)=sumTo gs.size (upd F i m):=rfl;have h4:(sumTo gs.size λx=>F x)=sumTo gs.size F:=rfl;rw[h3,h4]at G;omega
 .rw[Array.getElem?_setIfInBounds_ne A,Array.getElem?_map,c.main,dk,L]
 .rcases E with rfl|rfl
  .exact c.blk h
  .cases h
 .rw[Deaf_other t ai _ B];exact c.deaf
 .rw[f];exact c.eL.lom
 .rw[f]at d
  by_cases e:j=i
  .subst e;refine⟨a',by rw[Array.getElem?_setIfInBounds_self_of_lt (by simpa using hi)],?_⟩;rw[upd_same,upd_same,upd_same,Deaf_own];exact u
  .obtain⟨x,Q,p⟩:=c.eL.wk j J d;refine⟨x,by rw[Array.getElem?_setIfInBounds_ne (Ne.symm e),Array.getElem?_map,Q,dk,p.woken],?_⟩;rw[upd_ne _ _ e,upd_ne _ _ e,upd_ne _ _ e,Deaf_other t (Ne.symm e) _ B];exact p.keeps λT X=>z j T e d X
 .by_cases e:j=i
  .subst e;rw[upd_same];exact hold.2 (c.eL.old j d)
  .rw[upd_ne _ _ e];exact c.eL.old j d
 .rw[f]at d
  by_cases e:j=i
  .subst e;rw[upd_same];exact λh=>c.eL.act j H d (hold.1 h)
  .rw[upd_ne _ _ e];exact c.eL.act j H d
 .rw[f]at d
  by_cases e:j=i
  .subst e;rw[upd_same]at l;exact Ez T r l
  .rw[upd_ne _ _ e]at l;have M:lo<=j:=Nat.le_of_not_lt λcF=>by
    have h0:=c.eL.old j cF;rcases Nat.eq_zero_or_pos j with rfl|V
    .rw[c.perm]at l;cases l
    .obtain⟨x,_,p⟩:=c.eL.wk j V d;rw[h0,l]at p;cases p
   exact c.eL.Iq j M d T w w' (c.eL.post j T r d l) (z j T e d (by rw[l];rfl))
 .rw[f];exact c.eL.Iq
 .rw[f]at d;rw[Deaf_other t (show i≠j by omega) _ B];exact c.eL.above j d
 .rw[f];exact XO
 .rw[f];exact Xt
 .rw[f];exact Cs o E y
end
open Go.ConcN (RelBy upd upd_same upd_ne sumTo)
theorem lH {α:Type}(f:Nat->α)(i:Nat):upd f i (f i)=f:=by
 funext a
 by_cases h:a=i
 .subst h;rw[upd_same]
 .rw[upd_ne _ _ h]
def Ng (Wg:Nat)(e:Event):Prop:=e.loc=.mark .disable\/e.loc=.mark .enable\/∃o H9,o<=1/\e=⟨.cell ⟨Wg,o,Y⟩,H9,U⟩
theorem wF {Wg:Nat}{e}(h:Ng Wg e):(MemAct.ofEvent e).touch?=Y\/∃o a,o<=1/\e=⟨.cell ⟨Wg,o,Y⟩,a,U⟩/\(MemAct.ofEvent e).touch?=Z ⟨.cell ⟨Wg,o,Y⟩,a,.atomic⟩:=by
 obtain⟨loc,a,f⟩:=e;rcases h with h|h|⟨o,b,d,c⟩
 .simp only at h;subst h;exact .inl rfl
 .simp only at h;subst h;exact .inl rfl
 .cases c;exact .inr ⟨o,_,d,rfl,rfl⟩
theorem AT {Wg:Nat}{e}(h:Ng Wg e)(a:Addr):MemAct.ofEvent e≠ .mark (.release a):=by
 intro d;have b:=Go.ConcR.loc_of_ofEvent d;rcases h with h|h|⟨o,c,g,f⟩
 .rw[h]at b;cases b
 .rw[h]at b;cases b
 .rw[f]at b;cases b
theorem zI (Wg:Nat)(a:Bool):Ng Wg ⟨.cell (stA Wg),a,U⟩:=.inr (.inr ⟨0,a,ai,rfl⟩)
theorem Ri (Wg:Nat)(a:Bool):Ng Wg ⟨.cell (smA Wg),a,U⟩:=.inr (.inr ⟨1,a,ai,rfl⟩)
theorem Tj (Wg:Nat):deafBehind 1 (semEvents (smA Wg))=1:=rfl
section
variable {P:aE}{Fin:ab->ar->Prop}{gs:Array ak}{w w':ar}{t:Trace}{σ:pj}{n:Nat}{R:Perm}{g:ak}{Wg:Nat}{sh:Nat->Prop}{lo:Nat}{D:Nat->WS}{S F:Nat->Nat}{ps:Nat->dm}{b:Bool}{sl:Option (Nat×Nat)}
theorem IV.ug(a:IV P Fin gs w t σ n R g Wg sh lo D S F ps b){i:Nat}(hi:i<gs.size)(j:S i≠0):
  lo<=i/\∃c,σ=.gi c/\c.Wg=Wg/\sh Wg/\c.xd=((List.range (gs.size-lo)).map λi=>ps (lo+i)).reverse/\∃st e,tL Wg w st e/\Mode lo gs.size S c.sub b st e:=by
 have f:lo<=i:=Nat.le_of_not_lt λh=>j (a.eL.old i h)
 refine⟨f,?_⟩;have d:=a.gi;cases σ with
 |Dd=>exact d.elim
 |idle=>obtain⟨h,_⟩:=d;omega
 |gi c=>exact⟨c,rfl,d⟩
theorem IV.vJ(c:IV P Fin gs w t σ n R g Wg sh lo D S F ps b){i:Nat}(W:0<i)(hi:i<gs.size){a a' es}(ha:gs[i]?=Z a)(fA:stepG P O a w=.go a' w' es)
  {T}{r s m:Nat}(v:D i=.rel T r)(B:∀j d,j<gs.size->(D j).eI=Z d->bC d w w')(X:w'.heap.size=w.heap.size)(L:sh Wg)
  (M:∀j e,es[j]?=Z e->Ng Wg e/\((MemAct.ofEvent e).touch?=Y\/0<deafBehind (Deaf t i) (es.extract 0 j)))
  (C:WSit P Wg (ps i) (.rel T r) s m (deafBehind (Deaf t i) es) a' w')(hs:s≠0)(K:S i≠0)(Hs:m<F i)
  (Cs:∀x,(x=b\/x=O)->(mayWake P a=U->x=O)->B8 σ Wg sh lo gs.size (upd S i s) ps x w'):
  ∃l q H,runT P (crowd gs w sl) i=(.next l,q)/\Lt2 H (meas n b gs.size F)/\Inv P Fin H l (t++q):=by
 have E:∀e∈es,Ng Wg e:=λe k=>by
  obtain⟨j,z,rfl⟩:=Array.mem_iff_getElem.1 k;exact(M j _ (Array.getElem?_eq_getElem z)).1
 have Q:upd D i (.rel T r)=D:=by rw[<-v];exact lH D i
 have hW:Wg<w.heap.size:=c.eL.lay.sh Wg L;refine c.worker W hi ha fA (λj d _ z hU=>B j d z hU) C (λN G h=>?_) ⟨λh=>absurd h hs,λh=>absurd h K⟩ ?_ ?_ Hs Cs
 .cases h;have j8:=(c.ug hi K).1;exact c.eL.Iq i j8 hi T w w' (c.eL.post i T r hi v) (B i T hi (by rw[v];rfl))
 .rw[Q];exact c.eL.lay.ae7 ai B
 .rw[Q,X];refine c.eL.ti.app c.eL.lay hi (aj _) (λ_ _=>rfl) (.inl rfl) Go.ConcR.g_of_ofEvents (λJ u bb f=>?_) (λJ u ad=>?_) (λJ u bb f=>?_) (λN G A=>?_)
  .obtain⟨e,k,rfl⟩:=Go.Conc.mem_ofEvents u;rcases wF (E e k)with h|⟨o,V,y,_,h⟩
   .simp only at f;rw[h]at f;cases f
   .simp only at f;rw[h]at f;cases f;exact hW
  .obtain⟨e,k,rfl⟩:=Go.Conc.mem_ofEvents u;exact AT (E e k) ad
  .obtain⟨e,k,rfl⟩:=Go.Conc.mem_ofEvents u;refine .inr ⟨by rw[v];simp,?_⟩;rcases wF (E e k)with h|⟨o,V,y,_,h⟩
   .simp only at f;rw[h]at f;cases f
   .simp only at f;rw[h]at f;cases f;exact⟨⟨L,rfl,y⟩,dA,dA⟩
  .refine(c.eL.ti.KV i N G hi A).appOwn _ _ _ λj e k=>?_
   obtain⟨h1,p⟩:=M j e k;rcases wF h1 with h|⟨o,V,y,Jj,h⟩
   .exact .inl h
   .rcases p with p|p
    .rw[h]at p;cases p
    .exact .inr ⟨⟨_,_,Jj⟩,p⟩
theorem zr:∀(d:Nat) (j:Nat) (e:Event),(#[]:Array Event)[j]?=Z e->Ng Wg e/\((MemAct.ofEvent e).touch?=Y\/0<deafBehind d ((#[]:Array Event).extract 0 j)):=by
 intro d j e h;simp at h
theorem ac4 {d:Nat}{es:Array Event}(n:∀e∈es,Ng Wg e)(a:0<d)(h:∀e∈es,e.loc≠ .mark .enable):∀(j:Nat) (e:Event),es[j]?=Z e->Ng Wg e/\((MemAct.ofEvent e).touch?=Y\/0<deafBehind d (es.extract 0 j)):=by
 intro j e m;refine⟨n e (Array.mem_of_getElem? m),.inr ?_⟩;have b:∀(l:List Event) (d:Nat),0<d->(∀e∈l,e.loc≠ .mark .enable)->0<l.foldl (λd e=>match e.loc with | .mark .disable=>d+1| .mark .enable=>d-1|_=>d) d:=by
  intro l
  induction l with
  |nil=>intro d a _;exact a
  |cons e l i=>
   intro d a g;rw[List.foldl_cons];refine i _ ?_ λx c=>g x (by simp[c])
   have :=g e dA
   split
   .omega
   .rename_i k;exact absurd k this
   .exact a
 have f:deafBehind d (es.extract 0 j)=(es.toList.take j).foldl (λd e=>match e.loc with | .mark .disable=>d+1| .mark .enable=>d-1|_=>d) d:=by
  unfold deafBehind;rw[<-Array.foldl_toList,Array.toList_extract];rfl
 rw[f];exact b _ d a λx c=>h x (by simpa using List.mem_of_mem_take c)
end
section
variable {P:aE}{Fin:ab->ar->Prop}{gs:Array ak}{w w':ar}{t:Trace}{σ:pj}{n:Nat}{R:Perm}{g:ak}{Wg:Nat}{sh:Nat->Prop}{lo:Nat}{D:Nat->WS}{S F:Nat->Nat}{ps:Nat->dm}{b:Bool}{sl:Option (Nat×Nat)}
theorem acf {e:Event}(h:e.mute=U):Ng Wg e:=by
 obtain⟨loc,b,a⟩:=e;cases loc with
 |mark m=>cases m<;>simp_all [Event.mute,Ng]
 |_=>simp[Event.mute]at h
theorem IV.Z2(c:IV P Fin gs w t σ n R g Wg sh lo D S F ps b){i:Nat}(K:0<i)(hi:i<gs.size){a a' es}(X:gs[i]?=Z a){T T'}{m:Nat}(v:D i=.work T)(hS:S i=7)(M:Deaf t i=T.deaf)
  (f:Stepped P O T a w T' a' w' es)(q:JW P Wg (ps i) m T' a' w')(Hs:m<F i):
  ∃l p C,runT P (crowd gs w sl) i=(.next l,p)/\Lt2 C (meas n b gs.size F)/\Inv P Fin C l (t++p):=by
 have y:(D i).eI=Z T:=by rw[v];rfl
 have k:=c.eL.lay.low i T hi y;have H:∀j d,j≠i->j<gs.size->(D j).eI=Z d->bC d w w':=λj d q J G=>Hk f.Rd (c.eL.lay.J8 i j T d (Ne.symm q) hi J y G) (c.eL.lay.low j d J G)
 obtain⟨j8,gr,rfl,Jg,B,Q,st,L,N,fP⟩:=c.ug hi ai;have z:upd S i 7=S:=by rw[<-hS];exact lH S i
 refine c.worker (ws:=.work T') (s:=7) (m:=m) K hi X f.step H (by rw[M,<-f.deaf];exact .work q) (λ_ _ h=>by cases h) ⟨λh=>by omega,λh=>by omega⟩ ?_ ?_ Hs ?_
 .exact c.eL.lay.own hi v f.within (f.low k) f.Rd.size H
 .refine c.eL.ti.app c.eL.lay hi f.Rd.size (λj q=>upd_ne _ _ q) (.inr ⟨T,T',v,upd_same ..,f.within⟩) Go.ConcR.g_of_ofEvents (λE x bb A=>?_) (λE x ad=>?_) (λE x bb A=>?_) (λJS r h=>by rw[v]at h;cases h)
  .obtain⟨e,u,rfl⟩:=Go.Conc.mem_ofEvents x;exact Loc.low_mono f.Rd.size (Jf k (tj k.wr (f.ev e u) A).1)
  .obtain⟨e,u,rfl⟩:=Go.Conc.mem_ofEvents x;exact EV (f.ev e u) ad
  .obtain⟨e,u,rfl⟩:=Go.Conc.mem_ofEvents x;exact .inl ⟨T,v,tj k.wr (f.ev e u) A⟩
 .intro b' gR _;refine⟨Jg,B,Q,st,L,N.Rd f.Rd (c.eL.lay.sh Wg B) λo W V=>c.eL.lay.F4 i T hi y Wg o (k.wr _ _ V) B W,?_⟩;rw[z];exact fP.Dg b' gR
theorem IV.Z1(c:IV P Fin gs w t σ n R g Wg sh lo D S F ps b){i:Nat}(v:0<i)(hi:i<gs.size){a a'}(J:gs[i]?=Z a){T}{m:Nat}(p:D i=.work T)(hS:S i=7)(C:Deaf t i=T.deaf)(K:T.deaf=0)
  (V:(ps i).ok T w)(Q:stepG P O a w=.go a' w #[Go.ConcR.mk (.releaseMerge (stA Wg))])(z:JD P Wg m .k1 a')(Hs:m<F i):
  ∃f l x,runT P (crowd gs w sl) i=(.next f,l)/\Lt2 x (meas n b gs.size F)/\Inv P Fin x f (t++l):=by
 have hp:(D i).eI=Z T:=by rw[p];rfl
 obtain⟨H,gr,rfl,Jg,L,G,st,B,E,N⟩:=c.ug hi ai;have o:Deaf t i=0:=C.trans K;have ja:(t++MemOp.ofEvents i a.frame.fn a.frame.place #[Go.ConcR.mk (.releaseMerge (stA Wg))]).size=t.size+1:=by rw[ofEvents_eq];simp
 refine c.worker (ws:=.rel T t.size) (s:=6) (m:=m) v hi J Q (λj d _ _ _=>bC.refl _ _) ?_ (λJS r h=>by cases h;exact V) ⟨λh=>by omega,λh=>by omega⟩ ?_ ?_ Hs ?_
 .rw[o];exact .k1 z
 .refine c.eL.lay.same λj z=> .inl ?_
  by_cases e:j=i
  .subst e;rw[upd_same,p];rfl
  .rw[upd_ne _ _ e]
 .refine TI.VJ (R:=T) (k:=i) (c.eL.ti.app c.eL.lay hi (aj _) (λ_ _=>rfl) (.inl rfl) Go.ConcR.g_of_ofEvents (λy u W q=>?_) (λy u ad=>?_) (λy u W q=>?_) (λJS r h=>by rw[p]at h;cases h)) hi v p (RelBy.new o _ _) ai
  all_goals
   obtain⟨e,A,rfl⟩:=Go.Conc.mem_ofEvents u;simp only[List.mem_toArray,aN,List.not_mem_nil,or_false]at A;subst A
  .exact absurd q (by simp[Go.ConcR.mk,MemAct.ofEvent,MemAct.touch?])
  .simp[Go.ConcR.mk,MemAct.ofEvent]
  .exact absurd q (by simp[Go.ConcR.mk,MemAct.ofEvent,MemAct.touch?])
 .intro X M _;exact⟨Jg,L,G,st,B,E,(N.amW H hi ai (.inr (.inl rfl))).Dg X M⟩
theorem IV.Kq(c:IV P Fin gs w t σ n R g Wg sh lo D S F ps b){i:Nat}(K:0<i)(hi:i<gs.size){a}(W:gs[i]?=Z a)(A:a.status=.running){k d:Nat}(Q:QuitsD P k d a)(hk:k<=F i)(M:Deaf t i=d)
  (hs:(∃T r,D i=.rel T r/\S i=1)\/(D i=.old/\S i=0)):
  ∃p v L,runT P (crowd gs w sl) i=(.next p,v)/\Lt2 L (meas n b gs.size F)/\Inv P Fin L p (t++v):=by
 cases k with
 |zero=>rw[Q.1]at A;cases A
 |succ k=>
  rcases Q with⟨hf,_⟩|⟨_,a',es,V,fA,J⟩
  .rw[hf]at A;cases A
  have E:∀x,S i=x->upd S i x=S:=λx h=>by rw[<-h];exact lH S i
  have o:∀x,D i=x->upd D i x=D:=λx h=>by rw[<-h];exact lH D i
  have Cs:∀x,S i=x->∀u,(u=b\/u=O)->(mayWake P a=U->u=O)->B8 σ Wg sh lo gs.size (upd S i x) ps u w:=by
   intro x hx u X _;rw[E x hx];have B:=c.gi;cases σ with
   |Dd=>exact B.elim
   |idle=>
    refine⟨B.1,?_⟩;rcases X with rfl|rfl
    .exact B.2
    .rfl
   |gi gr=>
    obtain⟨h1,h2,h3,st,sm,h4,h5⟩:=B;exact⟨h1,h2,h3,st,sm,h4,h5.Dg u X⟩
  have G:∀e∈es,(MemAct.ofEvent e).touch?=Y:=λe l=>touch_mute (V e l)
  have Xt:TI Wg sh D gs.size w.heap.size (t++MemOp.ofEvents i a.frame.fn a.frame.place es):=by
   refine c.eL.ti.app c.eL.lay hi (aj _) (λ_ _=>rfl) (.inl rfl) Go.ConcR.g_of_ofEvents (λN z bb y=>?_) (λN z ad=>?_) (λN z bb y=>?_) (λH r h=>?_)
   .obtain⟨e,l,rfl⟩:=Go.Conc.mem_ofEvents z;rw[G e l]at y;cases y
   .obtain⟨e,l,rfl⟩:=Go.Conc.mem_ofEvents z;exact AT (Wg:=Wg) (acf (V e l)) ad
   .obtain⟨e,l,rfl⟩:=Go.Conc.mem_ofEvents z;rw[G e l]at y;cases y
   .exact(c.eL.ti.KV i H r hi h).appOwn _ _ _ λj e l=> .inl (G e (Array.mem_of_getElem? l))
  rcases hs with⟨T,r,q,C⟩|⟨q,C⟩
  .refine c.worker (ws:=.rel T r) (s:=1) (m:=k) K hi W (fA w) (λj f _ _ _=>bC.refl _ _) (by rw[M];exact .gone J) (λH r' h=>by cases h;exact c.eL.post i T r hi q) ⟨λh=>by omega,λh=>by omega⟩ ?_ ?_ ai (Cs 1 C)
   .rw[o _ q];exact c.eL.lay
   .rw[o _ q];exact Xt
  .refine c.worker (ws:=.old) (s:=0) (m:=k) K hi W (fA w) (λj f _ _ _=>bC.refl _ _) (by rw[M];exact .old J) (λH r' h=>by cases h) ⟨λh=>C,λh=>rfl⟩ ?_ ?_ ai (Cs 0 C)
   .rw[o _ q];exact c.eL.lay
   .rw[o _ q];exact Xt
end
open Go.ConcR (stA smA KK rd wr)
section
variable {P:aE}{Fin:ab->ar->Prop}{gs:Array ak}{w w':ar}{t:Trace}{σ:pj}{n:Nat}{R:Perm}{g:ak}{Wg:Nat}{sh:Nat->Prop}{lo:Nat}{D:Nat->WS}{S F:Nat->Nat}{ps:Nat->dm}{b:Bool}{sl:Option (Nat×Nat)}
theorem ahB {d:Nat}:∀(j:Nat) (e:Event),(#[Go.ConcR.mk .disable]:Array Event)[j]?=Z e->Ng Wg e/\((MemAct.ofEvent e).touch?=Y\/0<deafBehind d ((#[Go.ConcR.mk .disable]:Array Event).extract 0 j)):=by
 intro j e h;have a:e∈(#[Go.ConcR.mk .disable]:Array Event):=Array.mem_of_getElem? h;simp only[List.mem_toArray,aN,List.not_mem_nil,or_false]at a;subst a;exact⟨.inl rfl,.inl rfl⟩
theorem ahA:∀(j:Nat) (e:Event),(semEvents (smA Wg))[j]?=Z e->Ng Wg e/\((MemAct.ofEvent e).touch?=Y\/0<deafBehind 1 ((semEvents (smA Wg)).extract 0 j)):=by
 intro j e h;have a:j<4:=by
  have :=(Array.getElem?_eq_some_iff.1 h).1;simpa[semEvents]using this
 match j,a with
 |0,_=>simp[semEvents]at h;subst h;exact⟨.inl rfl,.inl rfl⟩
 |1,_=>simp[semEvents]at h;subst h;exact⟨Ri Wg O,.inr (by simp[semEvents,deafBehind])⟩
 |2,_=>simp[semEvents]at h;subst h;exact⟨Ri Wg U,.inr (by simp[semEvents,deafBehind])⟩
 |3,_=>simp[semEvents]at h;subst h;exact⟨.inr (.inl rfl),.inl rfl⟩
theorem CY {es:Array Event}(h:∀e∈es,e=rd (stA Wg)\/e=wr (stA Wg)):∀(j:Nat) (e:Event),es[j]?=Z e->Ng Wg e/\((MemAct.ofEvent e).touch?=Y\/0<deafBehind 1 (es.extract 0 j)):=
 ac4 (λe a=>(h e a).elim (λx=>x▸zI Wg O) λx=>x▸zI Wg U) ai λe a=>(h e a).elim (λx=>by rw[x];simp[rd]) λx=>by rw[x];simp[wr]
theorem kO {es}(h:∀e∈es,e=rd (stA Wg)\/e=wr (stA Wg))(d:Nat):deafBehind d es=d:=by
 have :=pV d es.toList λe a=>(h e (by simpa using a)).elim (λx=>by rw[x];simp[rd]) λx=>by rw[x];simp[wr]
 simpa using this
set_option maxHeartbeats 1000000 in
theorem IV.stepW(c:IV P Fin gs w t σ n R g Wg sh lo D S F ps b){i:Nat}(B:0<i)(hi:i<gs.size){a:ak}(C:gs[i]?=Z a)(iE:a.status=.running):
  ∃T ops qJ,runT P (crowd gs w sl) i=(.next T,ops)/\Lt2 qJ (meas n b gs.size F)/\Inv P Fin qJ T (t++ops):=by
 obtain⟨arC,Ya,hs⟩:=c.eL.wk i B hi;obtain rfl:a=arC:=by rw[C]at Ya;exact Option.some.inj Ya
 clear Ya;generalize G:D i=ws at hs;generalize L:S i=s at hs;generalize hF:F i=f at hs;generalize u:Deaf t i=d at hs;cases hs with
 |work r=>
  obtain⟨m,hm,_,hw⟩:=r.out;obtain⟨_,gr,_,_,p,_,st,M,k,_⟩:=c.ug hi ai;cases hw ⟨st,M,k⟩with
  |own q l=>exact c.Z2 B hi C G L u q l ai
  |rel q l H h4=>exact c.Z1 B hi C G L u q l H h4 ai
 |gone hq=>exact c.Kq B hi C iE hq ai u (.inl ⟨_,_,G,L⟩)
 |old hq=>exact c.Kq B hi C iE hq ai u (.inr ⟨G,L⟩)
 |k1 r=>
  obtain⟨N,gr,rfl,J,p,E,st,M,k,K⟩:=c.ug hi ai;cases f with
  |zero=>exact r.elim
  |succ m=>
   have z:upd S i 6=S:=by rw[<-L];exact lH S i
   cases r.2 w ⟨st,M,k⟩with
   |quiet q l=>
    exact c.vJ (s:=6) (m:=m) B hi C q G (λ_ _ _ _=>bC.refl _ _) rfl p (zr _) (by rw[u];exact .k1 l) ai ai ai
     λy A _=>⟨J,p,E,st,M,k,by rw[z];exact K.Dg y A⟩
   |k1 q l=>
    exact c.vJ (s:=5) (m:=m) B hi C q G (λ_ _ _ _=>bC.refl _ _) rfl p ahB (by rw[u];exact .d1 l) ai ai ai
     λy A _=>⟨J,p,E,st,M,k,(K.amW N hi ai (.inr (.inr rfl))).Dg y A⟩
 |d1 r=>
  obtain⟨N,gr,rfl,J,p,E,st,M,k,K⟩:=c.ug hi ai;cases f with
  |zero=>exact r.elim
  |succ m=>
   have z:upd S i 5=S:=by rw[<-L];exact lH S i
   cases r.2 w ⟨st,M,k⟩with
   |quiet q l=>
    exact c.vJ (s:=5) (m:=m) B hi C q G (λ_ _ _ _=>bC.refl _ _) rfl p (zr _) (by rw[u];exact .d1 l) ai ai ai
     λy A _=>⟨J,p,E,st,M,k,by rw[z];exact K.Dg y A⟩
   |d1 q=>
    obtain⟨v,wt,BH,hv,rfl,rfl,QL,ag6⟩:=K.minus N hi L;obtain⟨a',l,H,h4⟩:=q v wt BH hv k;have X:∀j h,j<gs.size->(D j).eI=Z h->bC h w (setSt Wg ((v:Int)*KK+wt) w):=λj h r V=>rX (c.eL.lay.low j h r V) (λo ho hr=>c.eL.lay.F4 j h r V Wg o hr p ho) k
    have Q:∀e∈(#[rd (stA Wg),wr (stA Wg)]:Array Event),e=rd (stA Wg)\/e=wr (stA Wg):=by intro e W;simpa using W
    by_cases hc:v=0/\wt=1
    .exact c.vJ (s:=4) (m:=m) B hi C l G X (size_setCell ..) p (by rw[u];exact CY Q) (by rw[u,kO Q];exact .d2 (H hc)) ai ai ai
      λy A _=>⟨J,p,E,_,_,k.setSt _,(QL hc).Dg y A⟩
    .exact c.vJ (s:=1) (m:=m) B hi C l G X (size_setCell ..) p (by rw[u];exact CY Q) (by rw[u,kO Q];exact .gone (h4 hc)) ai ai ai
      λy A _=>⟨J,p,E,_,_,k.setSt _,(ag6 hc).Dg y A⟩
 |d2 r=>
  obtain⟨N,gr,rfl,J,p,E,st,M,k,K⟩:=c.ug hi ai;obtain⟨LR,LS,rfl,rfl⟩:=K.isLast N hi ai;cases f with
  |zero=>exact r.elim
  |succ m=>
   have z:upd S i 4=S:=by rw[<-L];exact lH S i
   cases r.2 w ⟨_,_,k⟩with
   |quiet q l=>
    exact c.vJ (s:=4) (m:=m) B hi C q G (λ_ _ _ _=>bC.refl _ _) rfl p (zr _) (by rw[u];exact .d2 l) ai ai ai
     λy A _=>⟨J,p,E,_,_,k,by rw[z];exact K.Dg y A⟩
   |d2 q=>
    rw[L]at k;obtain⟨a',l,H⟩:=q k;have Q:∀e∈(#[rd (stA Wg)]:Array Event),e=rd (stA Wg)\/e=wr (stA Wg):=by intro e W;simp at W;exact .inl W
    refine c.vJ (s:=3) (m:=m) B hi C l G (λ_ _ _ _=>bC.refl _ _) rfl p (by rw[u];exact CY Q) (by rw[u,kO Q];exact .d3 H) ai ai ai
     λy A _=>⟨J,p,E,_,_,k,?_⟩
    have :Mode lo gs.size (upd S i 3) .reg y (if upd S i 3 i=2 then 0 else 1) 0:=.last i N hi (by rw[upd_same];simp) λa q l H=>by rw[upd_ne _ _ H];exact LS a q l H
    rw[upd_same]at this;rw[LR];exact this
 |d3 r=>
  obtain⟨N,gr,rfl,J,p,E,st,M,k,K⟩:=c.ug hi ai;obtain⟨LR,LS,rfl,rfl⟩:=K.isLast N hi ai;cases f with
  |zero=>exact r.elim
  |succ m=>
   have z:upd S i 3=S:=by rw[<-L];exact lH S i
   cases r.2 w ⟨_,_,k⟩with
   |quiet q l=>
    exact c.vJ (s:=3) (m:=m) B hi C q G (λ_ _ _ _=>bC.refl _ _) rfl p (zr _) (by rw[u];exact .d3 l) ai ai ai
     λy A _=>⟨J,p,E,_,_,k,by rw[z];exact K.Dg y A⟩
   |d3 q=>
    rw[L]at k;obtain⟨a',l,H⟩:=q k;have X:∀j h,j<gs.size->(D j).eI=Z h->bC h w (setSt Wg 0 w):=λj h r V=>rX (c.eL.lay.low j h r V) (λo ho hr=>c.eL.lay.F4 j h r V Wg o hr p ho) k
    have Q:∀e∈(#[wr (stA Wg)]:Array Event),e=rd (stA Wg)\/e=wr (stA Wg):=by intro e W;simp at W;exact .inr W
    refine c.vJ (s:=2) (m:=m) B hi C l G X (size_setCell ..) p (by rw[u];exact CY Q) (by rw[u,kO Q];exact .d4 H) ai ai ai
     λy A _=>⟨J,p,E,_,_,k.setSt _,?_⟩
    have :Mode lo gs.size (upd S i 2) .reg y (if upd S i 2 i=2 then 0 else 1) 0:=.last i N hi (by rw[upd_same];simp) λa q l H=>by rw[upd_ne _ _ H];exact LS a q l H
    rw[upd_same]at this;rw[LR];exact this
 |d4 r=>
  obtain⟨N,gr,rfl,J,p,E,st,M,k,K⟩:=c.ug hi ai;obtain⟨LR,LS,rfl,rfl⟩:=K.isLast N hi ai;cases f with
  |zero=>exact r.elim
  |succ m=>
   have z:upd S i 2=S:=by rw[<-L];exact lH S i
   cases r.2 w ⟨_,_,k⟩with
   |quiet q l=>
    exact c.vJ (s:=2) (m:=m) B hi C q G (λ_ _ _ _=>bC.refl _ _) rfl p (zr _) (by rw[u];exact .d4 l) ai ai ai
     λy A _=>⟨J,p,E,_,_,k,by rw[z];exact K.Dg y A⟩
   |d4 QI q=>
    rw[L]at k;obtain⟨a',l,H⟩:=q k;have X:∀j h,j<gs.size->(D j).eI=Z h->bC h w (setSm Wg 1 w):=λj h r V=>BF (c.eL.lay.low j h r V) (λo ho hr=>c.eL.lay.F4 j h r V Wg o hr p ho) k
    refine c.vJ (s:=1) (m:=m) B hi C l G X (size_setCell ..) p (by rw[u];exact ahA) (by rw[u,Tj];exact .gone H) ai ai ai
     λy A Gk=>⟨J,p,E,_,_,k.setSm _,?_⟩
    rw[Gk QI,LR];refine .sema λx q l=>?_
    by_cases e:x=i
    .subst e;rw[upd_same]
    .rw[upd_ne _ _ e];exact LS x q l e
end
section
variable {P:aE}{Fin:ab->ar->Prop}{gs:Array ak}{w w':ar}{t:Trace}{σ gU:pj}{n m:Nat}{R R':Perm}{g a':ak}{Wg:Nat}{sh:Nat->Prop}{lo:Nat}{D:Nat->WS}{S F:Nat->Nat}{ps:Nat->dm}{b b':Bool}{sl:Option (Nat×Nat)}{es:Array Event}
theorem IV.ai0(a:IV P Fin gs w t σ n R g Wg sh lo D S F ps O)(k:stepG P U g w=.go a' w' es):
  runT P (crowd gs w sl) 0=(.next (crowd (gs.setIfInBounds 0 a') w' sl),MemOp.ofEvents 0 g.frame.fn g.frame.place es):=by
 have h:=runT_crowd_go (P:=P) (sl:=sl) (i:=0) a.main (show stepG P (0==0) (py O g) w=.go a' w' es from k);have e:(gs.map (woken P (py O g) a' w')).setIfInBounds 0 a'=gs.setIfInBounds 0 a':=by
  apply Array.ext_getElem?;intro j
  by_cases b:j=0
  .subst b;simp[a.size]
  .rw[Array.getElem?_setIfInBounds_ne (Ne.symm b),Array.getElem?_setIfInBounds_ne (Ne.symm b),Array.getElem?_map];rcases Nat.lt_or_ge j gs.size with l|c
   .obtain⟨x,f,d⟩:=a.eL.wk j ai l;rw[f,dk,d.woken]
   .rw[Array.getElem?_eq_none c];rfl
 rw[e]at h;exact h
theorem IV.aqU(a:IV P Fin gs w t σ n R g Wg sh lo D S F ps b)(a':ak){u}(k:∀p∈u,p.g=0)(o:∀j c,0<j->j<gs.size->(D j).eI=Z c->bC c w w')
  (B:Lay sh (upd D 0 (.work R')) gs.size w')(A:TI Wg sh (upd D 0 (.work R')) gs.size w'.heap.size (t++u)):Com P Wg sh lo (upd D 0 (.work R')) S F ps (gs.setIfInBounds 0 a') w' (t++u):=by
 have e:(gs.setIfInBounds 0 a').size=gs.size:=dA;refine⟨by rw[e];exact a.eL.lom,λj i d=>?_,a.eL.old,λj y m=>a.eL.act j y (by rw[e]at m;exact m),λj T r d f=>?_,by rw[e];exact a.eL.Iq,λj d=>?_,by rw[e];exact B,by rw[e];exact A⟩
 .rw[e]at d;obtain⟨x,s,h⟩:=a.eL.wk j i d;refine⟨x,by rw[Array.getElem?_setIfInBounds_ne ai];exact s,?_⟩;rw[upd_ne _ _ ai,Deaf_other t ai _ k];exact h.keeps λT v=>o j T i d v
 .rw[e]at d;rcases Nat.eq_zero_or_pos j with rfl|l
  .rw[upd_same]at f;cases f
  .rw[upd_ne _ _ ai]at f;have q:lo<=j:=Nat.le_of_not_lt λz=>by
    obtain⟨x,_,h⟩:=a.eL.wk j l d;rw[a.eL.old j z,f]at h;cases h
   exact a.eL.Iq j q d T w w' (a.eL.post j T r d f) (o j T l d (by rw[f];rfl))
 .rw[e]at d;rw[Deaf_other t (show 0≠j by have :=a.size;omega) _ k];exact a.eL.above j d
theorem IV.WH(a:IV P Fin gs w t σ n R g Wg sh lo D S F ps O)(p:stepG P U g w=.go a' w' es){g'}(k:a'=py b' g')(l:b'=U->g'.status=.running/\g'.offers=Y)
  (hm:m<n\/(m=n/\b'=U))(r:JM P Fin gU m R' g' w')(i:deafBehind R.deaf es=R'.deaf)(o:∀j b,0<j->j<gs.size->(D j).eI=Z b->bC b w w')
  (s:Lay sh (upd D 0 (.work R')) gs.size w')(q:TI Wg sh (upd D 0 (.work R')) gs.size w'.heap.size (t++MemOp.ofEvents 0 g.frame.fn g.frame.place es))(u:B8 gU Wg sh lo gs.size S ps b' w'):
  ∃c d e,runT P (crowd gs w sl) 0=(.next c,d)/\Lt2 e (meas n O gs.size F)/\Inv P Fin e c (t++d):=by
 have f:(gs.setIfInBounds 0 a').size=gs.size:=dA;refine⟨_,_,meas m b' (gs.setIfInBounds 0 a').size F,a.ai0 p,?_,_,w',sl,gU,m,R',g',Wg,sh,lo,upd D 0 (.work R'),S,F,ps,b',rfl,⟨?_,l,r,upd_same ..,?_,a.aqU a' Go.ConcR.g_of_ofEvents o s q,by rw[f];exact u⟩,rfl⟩
 .rw[f];unfold meas;rcases hm with h|⟨rfl,rfl⟩
  .exact Prod.Lex.left _ _ h
  .exact Prod.Lex.right _ dA
 .rw[Array.getElem?_setIfInBounds_self_of_lt a.size,k]
 .rw[Deaf_own,a.deaf,i]
theorem IV.ach(a:IV P Fin gs w t σ n R g Wg sh lo D S F ps O)(c:Stepped P U R g w R' a' w' es)(hm:m<n)(Q:JM P Fin σ m R' a' w'):
  ∃d f y,runT P (crowd gs w sl) 0=(.next d,f)/\Lt2 y (meas n O gs.size F)/\Inv P Fin y d (t++f):=by
 have A:(D 0).eI=Z R:=by rw[a.perm];rfl
 have l:=a.WK;have B:∀j b,0<j->j<gs.size->(D j).eI=Z b->bC b w w':=λj b s q p=>Hk c.Rd (a.eL.lay.J8 0 j R b ai a.size q A p) (a.eL.lay.low j b q p)
 refine a.WH (b':=O) (g':=a') (m:=m) c.step rfl iq (.inl hm) Q c.deaf.symm B ?_ ?_ ?_
 .exact a.eL.lay.own a.size a.perm c.within (c.low l) c.Rd.size λj b s q p=>B j b ai q p
 .refine a.eL.ti.app a.eL.lay a.size c.Rd.size (λj s=>upd_ne _ _ s) (.inr ⟨R,R',a.perm,upd_same ..,c.within⟩) Go.ConcR.g_of_ofEvents (λz k M v=>?_) (λz k N=>?_) (λz k M v=>?_) (λV r h=>by rw[a.perm]at h;cases h)
  .obtain⟨e,i,rfl⟩:=Go.Conc.mem_ofEvents k;exact Loc.low_mono c.Rd.size (Jf l (tj l.wr (c.ev e i) v).1)
  .obtain⟨e,i,rfl⟩:=Go.Conc.mem_ofEvents k;exact EV (c.ev e i) N
  .obtain⟨e,i,rfl⟩:=Go.Conc.mem_ofEvents k;exact .inl ⟨R,a.perm,tj l.wr (c.ev e i) v⟩
 .have u:=a.gi;cases σ with
  |Dd=>exact u.elim
  |idle=>exact u
  |gi T=>
   obtain⟨L,x,K,st,C,J,H⟩:=u;exact⟨L,x,K,st,C,J.Rd c.Rd (a.eL.lay.sh Wg x) λo G E=>a.eL.lay.F4 0 R a.size A Wg o (l.wr _ _ E) x G,H⟩
theorem IV.nI(a:IV P Fin gs w t σ n R g Wg sh lo D S F ps O)(K:stepG P U g w=.go a' w' es){g'}(B:a'=py b' g')(C:b'=U->g'.status=.running/\g'.offers=Y)
  (hm:m<n\/(m=n/\b'=U))(M:JM P Fin gU m R g' w)(A:deafBehind R.deaf es=R.deaf)(u:∀j b,j<gs.size->(D j).eI=Z b->bC b w w')(E:w'.heap.size=w.heap.size)(q:sh Wg)
  (y:∀e∈es,Ng Wg e\/e=Go.ConcR.mk (.read (smA Wg))\/e=Go.ConcR.mk (.write (smA Wg)))(N:B8 gU Wg sh lo gs.size S ps b' w'):
  ∃f k v,runT P (crowd gs w sl) 0=(.next f,k)/\Lt2 v (meas n O gs.size F)/\Inv P Fin v f (t++k):=by
 have z:upd D 0 (.work R)=D:=by rw[<-a.perm];exact lH D 0
 have s:Wg<w.heap.size:=a.eL.lay.sh Wg q;have p:∀e∈es,∀d,(MemAct.ofEvent e).touch?=Z d->shl sh d.loc/\d.kind≠ .plain/\d.loc.low w.heap.size:=by
  intro e i d c;rcases y e i with h|rfl|rfl
  .rcases wF h with h|⟨o,T,G,_,h⟩
   .rw[h]at c;cases c
   .rw[h]at c;cases c;exact⟨⟨q,rfl,G⟩,dA,s⟩
  .simp only[Go.ConcR.mk,MemAct.ofEvent,MemAct.touch?,ah]at c;subst c;exact⟨⟨q,rfl,by simp[smA]⟩,dA,s⟩
  .simp only[Go.ConcR.mk,MemAct.ofEvent,MemAct.touch?,ah]at c;subst c;exact⟨⟨q,rfl,by simp[smA]⟩,dA,s⟩
 refine a.WH (g':=g') K B C hm (M.keeps (u 0 R a.size (by rw[a.perm];rfl))) A (λj b _ H J=>u j b H J) ?_ ?_ N
 .rw[z];exact a.eL.lay.ae7 ai u
 .rw[z,E];refine a.eL.ti.app a.eL.lay a.size (aj _) (λ_ _=>rfl) (.inl rfl) Go.ConcR.g_of_ofEvents (λx l d c=>?_) (λx l L=>?_) (λx l d c=>?_) (λQ r h=>by rw[a.perm]at h;cases h)
  .obtain⟨e,i,rfl⟩:=Go.Conc.mem_ofEvents l;exact(p e i d c).2.2
  .obtain⟨e,i,rfl⟩:=Go.Conc.mem_ofEvents l;rcases y e i with h|rfl|rfl
   .exact AT h L
   .simp[Go.ConcR.mk,MemAct.ofEvent]
   .simp[Go.ConcR.mk,MemAct.ofEvent]
  .obtain⟨e,i,rfl⟩:=Go.Conc.mem_ofEvents l;have h:=p e i d c;exact .inr ⟨by rw[a.perm];simp,h.1,h.2.1,λ_=>rfl⟩
end
open Go.ConcN (RelBy upd upd_same upd_ne sumTo sumTo_congr)
theorem lt2_trans {a b c}(h:Lt2 a b)(e:Lt2 b c):Lt2 a c:=by
 obtain⟨o,n⟩:=a;obtain⟨m,l⟩:=b;obtain⟨j,i⟩:=c;rcases Prod.lex_def.1 h with h|⟨d,g⟩<;>rcases Prod.lex_def.1 e with k|⟨k1,f⟩<;>simp only at*
 .exact Prod.Lex.left _ _ ai
 .exact Prod.Lex.left _ _ ai
 .exact Prod.Lex.left _ _ ai
 .subst d;subst k1;exact Prod.Lex.right _ ai
theorem E4 {t}{x y:MemOp}{k:Nat}(b:x.g=0/\x.act=.go k)(a:y.g=k/\y.act=.start)(j:Nat):Deaf (t++#[x,y]) j=Deaf t j:=by
 have :=Deaf_append t j [x,y];rw[show([x,y]:List MemOp).toArray=#[x,y]from rfl]at this;rw[this];simp[deafStep,b.2,a.2]
theorem ZK {size:Nat}{S}(h:∀i,i<size->S i=0):Vc size S=0:=by
 unfold Vc;rw[sumTo_congr (g:=λ_=>0) λi a=>by rw[h i a];rfl]
 induction size with
 |zero=>rfl
 |succ k b=>simp only[sumTo];exact b λi a=>h i ai
theorem PD {S}:∀{size:Nat},1<=Vc size S->∃i,i<size/\5<=S i
 |0,h=>by simp[Vc,sumTo]at h
 |k+1,h=>by
  by_cases a:5<=S k
  .exact⟨k,ai,a⟩
  .have :1<=Vc k S:=by simp only[Vc,sumTo,a,if_false]at h⊢;omega
   obtain⟨i,c,b⟩:=PD this;exact⟨i,ai,b⟩
section
variable {P:aE}{Fin:ab->ar->Prop}{gs:Array ak}{w w':ar}{t:Trace}{σ gU:pj}{n m:Nat}{R R' fg Rc:Perm}{g g' a' child:ak}{Wg:Nat}{sh:Nat->Prop}{lo:Nat}{D:Nat->WS}{S F:Nat->Nat}{ps:Nat->dm}{b b':Bool}{sl:Option (Nat×Nat)}{es:Array Event}
theorem IV.Lm(a:IV P Fin gs w t σ n R g Wg sh lo D S F ps b){j:Nat}(m:0<j)(i:j<gs.size)(l:S j=0):D j=.old/\∃x,gs[j]?=Z x/\QuitsD P (F j) (Deaf t j) x:=by
 obtain⟨x,e,c⟩:=a.eL.wk j m i;rw[l]at c;generalize o:D j=ws at c;generalize k:Deaf t j=d at c;generalize F j=f at c;cases c with
 |old h=>exact⟨rfl,x,e,k▸h⟩
theorem IV.yh(a:IV P Fin gs w t .idle n R g Wg sh lo D S F ps O){l:Nat}(v:j3 fg R)(G:∀b o,fg.wr b o->fg.rd b o)(W:fg.deaf=R.deaf)(E:R.wr l 0)(C:R.wr l 1)(J:tL l w 0 0)(LU:∀o,o<=1->¬fg.rd l o)
  (XS:JM P Fin (.gi ⟨l,[],.opn 0⟩) m fg g w):IV P Fin gs w t (.gi ⟨l,[],.opn 0⟩) m fg g l (λb=>sh b\/b=l) lo (upd D 0 (.work fg)) S F ps O:=by
 obtain⟨K,_⟩:lo=gs.size/\O=O:=a.gi;have y:∀j,j<gs.size->S j=0:=λj d=>a.eL.old j ai
 have hold:∀j,0<j->j<gs.size->D j=.old:=λj s d=>(a.Lm s d (y j d)).1
 have A:∀j,0<j->upd D 0 (.work fg) j=D j:=λj d=>upd_ne D _ ai
 have z:=a.WK;have LX:yv fg w:=⟨λb o x=>z.rd b o (v.rd b o x),G,λb x=>z.ob b (v.ob b x)⟩;refine⟨a.main,λh=>(by cases h),XS,upd_same ..,a.deaf.trans W.symm,⟨a.eL.lom,λj s d=>?_,a.eL.old,a.eL.act,λj T r d u=>?_,a.eL.Iq,a.eL.above,?_,a.eL.ti.begin a.perm hold v E C a.size⟩,?_⟩
 .obtain⟨e,x,L,N⟩:=a.Lm s d (y j d);refine⟨x,L,?_⟩;rw[A j s,e,y j d];exact .old N
 .rcases Nat.eq_zero_or_pos j with rfl|q
  .rw[upd_same]at u;cases u
  .rw[A j q,hold j q d]at u;cases u
 .have k:∀j T,j<gs.size->(upd D 0 (.work fg) j).eI=Z T->j=0/\T=fg:=by
   intro j T d f;rcases Nat.eq_zero_or_pos j with rfl|q
   .rw[upd_same]at f;exact⟨rfl,(Option.some.inj f).symm⟩
   .rw[A j q,hold j q d]at f;cases f
  refine⟨λj T d f=>?_,λi j T c H V d f X=>?_,λj T d f b o B p=>?_,λb p=>?_⟩
  .obtain⟨_,rfl⟩:=k j T d f;exact LX
  .obtain⟨rfl,_⟩:=k i T V f;obtain⟨rfl,_⟩:=k j c d X;exact absurd rfl H
  .obtain⟨rfl,rfl⟩:=k j T d f;rcases p with p|rfl
   .exact a.eL.lay.F4 0 R a.size (by rw[a.perm];rfl) b o (v.rd b o B) p
   .exact λQ=>LU o Q B
  .rcases p with p|rfl
   .exact a.eL.lay.sh b p
   .exact z.rd b 0 (z.wr b 0 E)
 .refine⟨rfl,.inr rfl,by simp[K],0,0,J,?_⟩;have M:=ZK y;have :Mode lo gs.size S (.opn 0) O ((Vc gs.size S:Nat)*KK) 0:=.opn (λi C h2=>by omega) ai ai;rw[M]at this;simpa using this
theorem IV.spawns{V kc:Nat}{pl p}(a:IV P Fin gs w t (.gi ⟨Wg,pl,.added V⟩) n R g Wg sh lo D S F ps O)(h0:R.deaf=0)(fA:stepG P U g w=.spawn g' child w #[])
  (M:j3 fg R)(X:j3 Rc R)(QC:∀b o,fg.wr b o->fg.rd b o)(hwc:∀b o,Rc.wr b o->Rc.rd b o)(hd1:fg.deaf=0)(hdc:Rc.deaf=0)(Gq:nW fg Rc)(amJ:nW Rc fg)(ame:JU p)(hjw:JW P Wg p kc Rc child w)(hm:m<n)
  (XS:JM P Fin (.gi ⟨Wg,p::pl,.opn (V+1)⟩) m fg g' w):
  ∃H ops qJ,runT P (crowd gs w sl) 0=(.next H,ops)/\Lt2 qJ (meas n O gs.size F)/\Inv P Fin qJ H (t++ops):=by
 have iE:=runT_crowd_spawn (P:=P) (sl:=sl) (i:=0) a.main (show stepG P (0==0) (py O g) w=.spawn g' child w #[]from fA);obtain⟨_,gh,dB,st,sm,kh,fP⟩:=a.gi;have A:=a.size;have EB:=a.WK;obtain⟨x,hx⟩:∃x:MemOp,x={g:=0,fn:=(py O g).frame.fn,pos:=(py O g).frame.place,act:=.go gs.size}:=⟨_,rfl⟩;obtain⟨y,hy⟩:∃y:MemOp,y={g:=gs.size,fn:=child.frame.fn,pos:=(py O g).frame.place,act:=.start}:=⟨_,rfl⟩;have OI:((MemOp.ofEvents 0 (py O g).frame.fn (py O g).frame.place #[]).push x).push y=#[x,y]:=by rw[ofEvents_eq];simp
 rw[<-hx,<-hy,OI]at iE;have E:x.g=0/\x.act=.go gs.size:=by rw[hx];exact⟨rfl,rfl⟩
 have C:y.g=gs.size/\y.act=.start:=by rw[hy];exact⟨rfl,rfl⟩
 have B:((gs.setIfInBounds 0 g').push child).size=gs.size+1:=dA;have j8:=a.eL.lom;have l:∀{α:Type} (f:Nat->α) (v:α) j,j<gs.size->upd f gs.size v j=f j:=λf v j G=>upd_ne f v ai
 have hD:∀j,0<j->j<gs.size->upd (upd D 0 (.work fg)) gs.size (.work Rc) j=D j:=λj M L=>by rw[l _ _ j L,upd_ne _ _ ai]
 have QV:upd (upd D 0 (.work fg)) gs.size (.work Rc) 0=.work fg:=by rw[l _ _ 0 A,upd_same]
 have three:∀j,j<gs.size+1->j=0\/(0<j/\j<gs.size)\/j=gs.size:=λj G=>by omega
 refine⟨_,_,meas m O ((gs.setIfInBounds 0 g').push child).size (upd F gs.size kc),iE,Prod.Lex.left _ _ hm,_,w,sl,.gi ⟨Wg,p::pl,.opn (V+1)⟩,m,fg,g',Wg,sh,lo,upd (upd D 0 (.work fg)) gs.size (.work Rc),upd S gs.size 7,upd F gs.size kc,upd ps gs.size p,O,rfl,
  ⟨?_,λh=>(by cases h),XS,QV,?_,⟨?_,λj zk s=>?_,λj s=>?_,λj Mc L=>?_,λj T r s Q=>?_,λj Mc L=>?_,λj s=>?_,?_,?_⟩,?_⟩,rfl⟩
 .rw[Array.getElem?_push_lt (by simp;omega),<-Array.getElem?_eq_getElem];simp[py,A]
 .rw[E4 E C,a.deaf,h0,hd1]
 .rw[B];omega
 .rw[B]at s;rw[E4 E C];rcases three j s with rfl|⟨_,k⟩|rfl
  .omega
  .obtain⟨z,hz,hzs⟩:=a.eL.wk j zk k;refine⟨z,?_,by rw[hD j zk k,l _ _ j k,l _ _ j k,l _ _ j k];exact hzs⟩;rw[Array.getElem?_push_lt (by simp;omega),<-Array.getElem?_eq_getElem,Array.getElem?_setIfInBounds_ne ai];exact hz
  .refine⟨child,?_,?_⟩
   .have e:gs.size=(gs.setIfInBounds 0 g').size:=dA
    conv=>lhs;rw[e]
    exact Array.getElem?_push_size
   .simp only[upd_same];rw[a.eL.above gs.size (aj _),<-hdc];exact .work hjw
 .rw[l _ _ j ai];exact a.eL.old j s
 .rw[B]at L;rcases Nat.lt_or_ge j gs.size with J|uV
  .rw[l _ _ j J];exact a.eL.act j Mc J
  .obtain rfl:j=gs.size:=ai;rw[upd_same];omega
 .rw[B]at s;rcases three j s with rfl|⟨g1,k⟩|rfl
  .rw[QV]at Q;cases Q
  .rw[hD j g1 k]at Q;rw[l _ _ j k];exact a.eL.post j T r k Q
  .rw[upd_same]at Q;cases Q
 .rw[B]at L;rcases Nat.lt_or_ge j gs.size with J|uV
  .rw[l _ _ j J];exact a.eL.Iq j Mc J
  .obtain rfl:j=gs.size:=ai;rw[upd_same];exact ame
 .rw[B]at s;rw[E4 E C];exact a.eL.above j ai
 .rw[B];have u:∀j T,j<gs.size+1->(upd (upd D 0 (.work fg)) gs.size (.work Rc) j).eI=Z T->(j=0/\T=fg)\/(0<j/\j<gs.size/\(D j).eI=Z T)\/(j=gs.size/\T=Rc):=by
   intro j T G q;rcases three j G with rfl|⟨g1,k⟩|rfl
   .rw[QV]at q;exact .inl ⟨rfl,(Option.some.inj q).symm⟩
   .rw[hD j g1 k]at q;exact .inr (.inl ⟨g1,k,q⟩)
   .rw[upd_same]at q;exact .inr (.inr ⟨rfl,(Option.some.inj q).symm⟩)
  have W:(D 0).eI=Z R:=by rw[a.perm];rfl
  have dl:∀{T c:Perm},j3 T R->nW R c->nW T c:=λh d=>⟨λb o x=>d.cell b o (h.wr b o x),λb x=>d.obj b (h.ob b x)⟩
  have dr:∀{T c:Perm},j3 T R->nW c R->nW c T:=λh d=>⟨λb o x y=>d.cell b o x (h.rd b o y),λb x y=>d.obj b x (h.ob b y)⟩
  refine⟨λj T G q=>?_,λi j T c kr hi G q hU=>?_,λj T G q b o hr hb=>?_,a.eL.lay.sh⟩
  .rcases u j T G q with⟨_,rfl⟩|⟨_,k,N⟩|⟨_,rfl⟩
   .exact⟨λb o x=>EB.rd b o (M.rd b o x),QC,λb x=>EB.ob b (M.ob b x)⟩
   .exact a.eL.lay.low j T k N
   .exact⟨λb o x=>EB.rd b o (X.rd b o x),hwc,λb x=>EB.ob b (X.ob b x)⟩
  .rcases u i T hi q with⟨rfl,rfl⟩|⟨g1,k,N⟩|⟨rfl,rfl⟩<;>rcases u j c G hU with⟨rfl,rfl⟩|⟨g3,g4,K⟩|⟨rfl,rfl⟩
   .exact absurd rfl kr
   .exact dl M (a.eL.lay.J8 0 j R c kr A g4 W K)
   .exact Gq
   .exact dr M (a.eL.lay.J8 i 0 T R kr k A N W)
   .exact a.eL.lay.J8 i j T c kr k g4 N K
   .exact dr X (a.eL.lay.J8 i 0 T R ai k A N W)
   .exact amJ
   .exact dl X (a.eL.lay.J8 0 j R c ai A g4 W K)
   .exact absurd rfl kr
  .rcases u j T G q with⟨_,rfl⟩|⟨_,k,N⟩|⟨_,rfl⟩
   .exact a.eL.lay.F4 0 R A W b o (M.rd b o hr) hb
   .exact a.eL.lay.F4 j T k N b o hr hb
   .exact a.eL.lay.F4 0 R A W b o (X.rd b o hr) hb
 .rw[B];exact a.eL.ti.fork a.perm M X A E C (a.deaf.trans h0) (a.eL.above gs.size (aj _))
 .rw[B];refine⟨rfl,gh,?_,st,sm,kh,?_⟩
  .rw[show gs.size+1-lo=(gs.size-lo)+1 by omega,List.range_succ,List.map_append,List.reverse_append];simp only[List.map_cons,List.map_nil,List.reverse_cons,List.reverse_nil,List.nil_append,List.cons_append];rw[show lo+(gs.size-lo)=gs.size by omega,upd_same]
   show p::pl=p::_
   rw[show pl=_ from dB]
   congr 2
   refine List.map_congr_left λi hi=>?_
   rw[l _ _ _ (by have :=List.mem_range.1 hi;omega)]
  .have hv:Vc (gs.size+1) (upd S gs.size 7)=Vc gs.size S+1:=by
    simp only[Vc,sumTo,upd_same];rw[sumTo_congr (g:=λi=>if 5<=S i then 1 else 0) λi hi=>by rw[l _ _ i hi]];rfl
   cases fP with
   |added L h3 h4=>
    have :Mode lo (gs.size+1) (upd S gs.size 7) (.opn (V+1)) O ((Vc (gs.size+1) (upd S gs.size 7):Nat)*KK) 0:=.opn (λi h5 h6=>by
     rcases Nat.lt_or_ge i gs.size with J|uV
     .rw[l _ _ i J];exact L i h5 J
     .obtain rfl:i=gs.size:=ai;rw[upd_same];simp) ai ai
    rw[hv]at this;simpa using this
end
section
variable {P:aE}{Fin:ab->ar->Prop}{gs:Array ak}{w w':ar}{t:Trace}{σ gU:pj}{n m:Nat}{R R' fg Rc:Perm}{g g' a' child:ak}{Wg:Nat}{sh:Nat->Prop}{lo:Nat}{D:Nat->WS}{S F:Nat->Nat}{ps:Nat->dm}{b b':Bool}{sl:Option (Nat×Nat)}{es:Array Event}
theorem IV.ai4(a:IV P Fin gs w t σ n R g Wg sh lo D S F ps b){j:Nat}(m:0<j)(i:j<gs.size)(l:S j=1):∃T r,D j=.rel T r/\∃x,gs[j]?=Z x/\QuitsD P (F j) (Deaf t j) x:=by
 obtain⟨x,e,c⟩:=a.eL.wk j m i;rw[l]at c;generalize o:D j=ws at c;generalize k:Deaf t j=d at c;generalize F j=f at c;cases c with
 |gone h=>exact⟨_,_,rfl,x,e,k▸h⟩
theorem IV.alU{N}(a:IV P Fin gs w t (.gi ⟨Wg,N,.fin⟩) n R g Wg sh lo D S F ps O)(h0:R.deaf=0)(fA:stepG P U g w=.go g' w #[Go.ConcR.mk (.acquire (stA Wg))])(hm:m<n)
  (k:∀Rs:List Perm,bP (λp S=>p.ok S w/\yv S w/\nW R S/\nW S R) N Rs->Rs.Pairwise (λS T=>nW S T/\nW T S)->
    ∃R',R'.deaf=0/\(∀b o,R'.wr b o->R'.rd b o)/\(∀b o,R'.rd b o->R.rd b o\/∃S∈Rs,S.rd b o)/\(∀b,R'.ob b->R.ob b\/∃S∈Rs,S.ob b)/\JM P Fin .idle m R' g' w):
  ∃y G qJ,runT P (crowd gs w sl) 0=(.next y,G)/\Lt2 qJ (meas n O gs.size F)/\Inv P Fin qJ y (t++G):=by
 have iE:=a.ai0 (sl:=sl) fA;obtain⟨_,gh,dB,st,sm,kh,fP⟩:=a.gi;have hq:AllQuit lo gs.size S:=by cases fP with |fin h=>exact h
 have j8:=a.eL.lom;have H:=a.size;have B:(D 0).eI=Z R:=by rw[a.perm];rfl
 have Au:∀j,lo<=j->j<gs.size->∃T r,D j=.rel T r/\∃x,gs[j]?=Z x/\QuitsD P (F j) (Deaf t j) x:=λj E f=>a.ai4 ai f (hq j E f)
 let q:Nat->Perm:=λi=>((D (lo+i)).eI).getD R
 have v:∀i,i<gs.size-lo->∃r,D (lo+i)=.rel (q i) r/\(D (lo+i)).eI=Z (q i):=λi C=>by
  obtain⟨T,r,d,_⟩:=Au (lo+i) ai ai;have :q i=T:=by show((D (lo+i)).eI).getD R=T;rw[d];rfl
  exact⟨r,by rw[this];exact d,by rw[this,d];rfl⟩
 have hR2:bP (λp S=>p.ok S w/\yv S w/\nW R S/\nW S R) N ((List.range (gs.size-lo)).reverse.map q):=by
  rw[show N=_ from dB,<-List.map_reverse];refine bP.qU λi C=>?_
  have M:i<gs.size-lo:=by simpa using C
  obtain⟨r,E,f⟩:=v i M;exact⟨a.eL.post (lo+i) (q i) r ai E,a.eL.lay.low (lo+i) (q i) ai f,a.eL.lay.J8 0 (lo+i) R (q i) ai H ai B f,a.eL.lay.J8 (lo+i) 0 (q i) R ai ai H f B⟩
 have hPW:((List.range (gs.size-lo)).reverse.map q).Pairwise (λS T=>nW S T/\nW T S):=by
  rw[List.pairwise_map];have XK:(List.range (gs.size-lo)).reverse.Nodup:=List.pairwise_reverse.2 (List.Pairwise.imp (λh=>Ne.symm h) List.nodup_range);refine List.Pairwise.imp_of_mem (λ{i j} C k ep=>?_) XK;have M:i<gs.size-lo:=by simpa using C
  have s:j<gs.size-lo:=by simpa using k
  obtain⟨_,_,f⟩:=v i M;obtain⟨_,_,h4⟩:=v j s;have OK:lo+i≠lo+j:=λh=>ep ai
  exact⟨a.eL.lay.J8 (lo+i) (lo+j) _ _ OK ai ai f h4,a.eL.lay.J8 (lo+j) (lo+i) _ _ (Ne.symm OK) ai ai h4 f⟩
 obtain⟨R',yt,K,J,ap2,XS⟩:=k _ hR2 hPW;have Av:∀T∈(List.range (gs.size-lo)).reverse.map q,∃j,j<gs.size/\(D j).eI=Z T:=by
  intro T d;obtain⟨i,C,rfl⟩:=List.mem_map.1 d;have M:i<gs.size-lo:=by simpa using C
  obtain⟨_,_,f⟩:=v i M;exact⟨lo+i,ai,f⟩
 have EB:=a.WK;have BJ:yv R' w:=by
  refine⟨λb o x=>?_,K,λb x=>?_⟩
  .rcases J b o x with h|⟨T,d,h⟩
   .exact EB.rd b o h
   .obtain⟨j,k,l⟩:=Av T d;exact(a.eL.lay.low j T k l).rd b o h
  .rcases ap2 b x with h|⟨T,d,h⟩
   .exact EB.ob b h
   .obtain⟨j,k,l⟩:=Av T d;exact(a.eL.lay.low j T k l).ob b h
 have L:∀b o,R'.rd b o->sh b->¬o<=1:=by
  intro b o x W;rcases J b o x with h|⟨T,d,h⟩
  .exact a.eL.lay.F4 0 R H B b o h W
  .obtain⟨j,k,l⟩:=Av T d;exact a.eL.lay.F4 j T k l b o h W
 obtain⟨x,V⟩:∃x:MemOp,x={g:=0,fn:=g.frame.fn,pos:=g.frame.place,act:=.mark (.acquire (stA Wg))}:=⟨_,rfl⟩;have OI:MemOp.ofEvents 0 g.frame.fn g.frame.place #[Go.ConcR.mk (.acquire (stA Wg))]=#[x]:=by rw[ofEvents_eq,V];simp[Go.ConcR.ofEvent_mk]
 rw[OI]at iE;have hxg:∀op∈(#[x]:Array MemOp),op.g=0:=by intro op dJ;simp at dJ;rw[dJ,V]
 have pJ:∀j,Deaf (t++#[x]) j=Deaf t j:=by
  intro j;rw[Deaf_push];simp[deafStep,V]
 have A:(gs.setIfInBounds 0 g').size=gs.size:=dA;have u:∀j T,(if j=0 then WS.work R' else .old).eI=Z T->j=0/\T=R':=by
  intro j T d
  split at d
  .rename_i e;exact⟨e,(Option.some.inj d).symm⟩
  .cases d
 refine⟨_,_,meas m O (gs.setIfInBounds 0 g').size F,iE,Prod.Lex.left _ _ hm,_,w,sl,.idle,m,R',g',Wg,sh,gs.size,λj=>if j=0 then .work R' else .old,λ_=>0,F,ps,O,rfl,
  ⟨?_,λh=>(by cases h),XS,rfl,?_,⟨by rw[A];omega,λj zk s=>?_,λ_ _=>rfl,λj E f=>(by rw[A]at f;omega),λj T r s Q=>?_,λj E f=>(by rw[A]at f;omega),λj s=>?_,?_,?_⟩,?_⟩,rfl⟩
 .rw[Array.getElem?_setIfInBounds_self_of_lt H];rfl
 .rw[pJ,a.deaf,h0,yt]
 .rw[A]at s;have aqa:j≠0:=ai;have :∃x,gs[j]?=Z x/\QuitsD P (F j) (Deaf t j) x:=by
   rcases Nat.lt_or_ge j lo with cF|X
   .exact(a.Lm zk s (a.eL.old j cF)).2
   .obtain⟨_,_,_,h⟩:=Au j X s;exact h
  obtain⟨z,hz,zf⟩:=this;refine⟨z,by rw[Array.getElem?_setIfInBounds_ne ai];exact hz,?_⟩;rw[bH aqa,pJ];exact .old zf
 .replace Q:(if j=0 then WS.work R' else .old)=.rel T r:=Q
  split at Q<;>cases Q
 .rw[A]at s;rw[pJ];exact a.eL.above j s
 .rw[A];refine⟨λj T k d=>?_,λi j T c kr C k d hU=>?_,λj T k d b o hr W=>?_,a.eL.lay.sh⟩
  .obtain⟨_,rfl⟩:=u j T d;exact BJ
  .exact absurd ((u i T d).1.trans (u j c hU).1.symm) kr
  .obtain⟨_,rfl⟩:=u j T d;exact L b o hr W
 .rw[A];refine a.eL.ti.Y6 H (λj E f=>?_) (by rw[V];exact⟨rfl,rfl⟩) (a.deaf.trans h0) L K;rcases Nat.lt_or_ge j lo with cF|X
  .exact .inr (a.Lm E f (a.eL.old j cF)).1
  .obtain⟨T,r,d,_⟩:=Au j X f;exact .inl ⟨T,r,d⟩
 .exact⟨A.symm,rfl⟩
theorem IV.ends(a:IV P Fin gs w t .idle n R g Wg sh lo D S F ps O){v}(L:stepG P U g w=.ended (.done v) w' es)(u:∀e∈es,pH R e)(K:Fin v w'):
  ∃o G b,runT P (crowd gs w sl) 0=(.ended o G,b)/\∀z J,Good P Fin (crowd gs z J) o G (t++b):=by
 obtain⟨Q,_⟩:lo=gs.size/\O=O:=a.gi;have A:=a.WK;have hold:∀j,0<j->j<gs.size->D j=.old/\∃x,gs[j]?=Z x/\QuitsD P (F j) (Deaf t j) x:=λj s q=>a.Lm s q (a.eL.old j ai)
 have H:TI Wg sh D gs.size w.heap.size (t++MemOp.ofEvents 0 g.frame.fn g.frame.place es):=by
  refine a.eL.ti.app a.eL.lay a.size (aj _) (λ_ _=>rfl) (.inl rfl) Go.ConcR.g_of_ofEvents (λE f M p=>?_) (λE f N=>?_) (λE f M p=>?_) (λT r h=>by rw[a.perm]at h;cases h)
  .obtain⟨e,d,rfl⟩:=Go.Conc.mem_ofEvents f;exact Jf A (tj A.wr (.inl (u e d)) p).1
  .obtain⟨e,d,rfl⟩:=Go.Conc.mem_ofEvents f;exact EV (.inl (u e d)) N
  .obtain⟨e,d,rfl⟩:=Go.Conc.mem_ofEvents f;exact .inl ⟨R,a.perm,tj A.wr (.inl (u e d)) p⟩
 refine⟨_,_,_,runT_many_ended (P:=P) (sl:=sl) (i:=0) a.main (show stepG P (0==0) (py O g) w=_ from L),λz J=>⟨v,rfl,K,H.nr,H.over λj s q=>(hold j s q).1,⟨λx k=>?_,rfl⟩,λj x k m=>?_⟩⟩
 .obtain⟨j,m⟩:=List.mem_iff_getElem?.1 k;rw[List.getElem?_drop]at m;have C:gs[1+j]?=Z x:=by simpa[crowd]using m
  obtain⟨_,y,c,l⟩:=hold (1+j) ai (Array.getElem?_eq_some_iff.1 C).1;rw[C]at c;cases c;exact⟨_,l.leaves⟩
 .have B:gs[j]?=Z x:=k;obtain⟨_,y,c,l⟩:=hold j ai (Array.getElem?_eq_some_iff.1 B).1;rw[B]at c;cases c;refine⟨F j,?_⟩;have e:(t++MemOp.ofEvents 0 g.frame.fn g.frame.place es).deaf j (t++MemOp.ofEvents 0 g.frame.fn g.frame.place es).size=Deaf t j:=
   Deaf_other t (g:=j) (g':=0) ai _ Go.ConcR.g_of_ofEvents
  show x.endsWith P z (F j) ((t++MemOp.ofEvents 0 g.frame.fn g.frame.place es).deaf j (t++MemOp.ofEvents 0 g.frame.fn g.frame.place es).size)=Z 0
  rw[e];exact l.hears _
set_option maxHeartbeats 1000000 in
theorem step0:∀(n:Nat) {σ:pj}{R:Perm}{Wg:Nat}{sh:Nat->Prop}{lo:Nat}{D:Nat->WS}{S F:Nat->Nat}{ps:Nat->dm},IV P Fin gs w t σ n R g Wg sh lo D S F ps O->
  (∃o aR p,runT P (crowd gs w sl) 0=(.ended o aR,p)/\∀bJ PM,Good P Fin (crowd gs bJ PM) o aR (t++p))\/
  (∃f p H,runT P (crowd gs w sl) 0=(.next f,p)/\Lt2 H (meas n O gs.size F)/\Inv P Fin H f (t++p)):=by
 intro n
 induction n using Nat.strongRecOn with
 |_ n ih=>
  intro σ R Wg sh lo D S F ps a;obtain⟨m,v,hs⟩:=a.jm.out;have M:∀j b,j<gs.size->(D j).eI=Z b->bC b w w:=λ_ _ _ _=>bC.refl _ _
  cases hs a.gi.live with
  |own _ q l=>exact .inr (a.ach q v l)
  |ends _ q l _ s=>exact .inl (a.ends q l s)
  |yh q l k s r y B W=>
   rcases ih m v (a.yh q l k s r y B W)with h|⟨f,p,H,g1,g2,g3⟩
   .exact .inl h
   .exact .inr ⟨f,p,H,g1,lt2_trans g2 (Prod.Lex.left _ _ v),g3⟩
  |add _ hV q=>
   obtain⟨rfl,d,u,st,K,i,z⟩:=a.gi;cases z with
   |opn l k s=>
    obtain⟨g',r,y⟩:=q _ k i;have T:∀j b,j<gs.size->(D j).eI=Z b->bC b w (setSt _ (((Vc gs.size S:Nat)+1)*KK) w):=λj b E G=>rX (a.eL.lay.low j b E G) (λo Q J=>a.eL.lay.F4 j b E G _ o J d Q) i
    refine .inr (a.nI (b':=O) r rfl iq (.inl v) y (kO (by intro e c;simpa using c) _) T (size_setCell ..) d (λe c=> .inl ?_) ⟨rfl,d,u,_,_,i.setSt _,.added l k hV⟩);simp at c;rcases c with rfl|rfl
    .exact zI _ _
    .exact zI _ _
  |said _ q l k=>
   obtain⟨rfl,d,u,st,K,i,z⟩:=a.gi;refine .inr (a.nI (b':=O) q rfl iq (.inl v) k ?_ M rfl d (λe c=> .inr (l e c)) ⟨rfl,d,u,st,K,i,z⟩);have :=pV R.deaf (_:Array Event).toList λe c=>(l e (by simpa using c)).elim (λx=>by rw[x];simp[Go.ConcR.mk]) λx=>by rw[x];simp[Go.ConcR.mk]
   simpa using this
  |spawn _ q l k s r y B W h9 h10 h11 J7 X=>
   have A:=a.gi.1;simp only at A;subst A;exact .inr (a.spawns q l k s r y B W h9 h10 h11 J7 v X)
  |load _ q=>
   obtain⟨A,d,u,st,K,i,z⟩:=a.gi
   replace A:=A.symm
   simp only at A;subst A;cases z with
   |opn l k s=>
    obtain⟨g',r,y,B⟩:=q _ k i;have J6:∀e∈(#[rd (stA Wg)]:Array Event),Ng Wg e\/e=Go.ConcR.mk (.read (smA Wg))\/e=Go.ConcR.mk (.write (smA Wg)):=λe c=> .inl (by simp at c;subst c;exact zI _ _)
    have pJ:deafBehind R.deaf (#[rd (stA Wg)]:Array Event)=R.deaf:=kO (by intro e c;simp at c;exact .inl c) _
    by_cases C:Vc gs.size S=0
    .refine .inr (a.nI (b':=O) r rfl iq (.inl v) (y C) pJ M rfl d J6 ⟨rfl,d,u,_,_,i,?_⟩);have :=Mode.fin (allQuit_of l C);rw[C];simpa using this
    .exact .inr (a.nI (b':=O) r rfl iq (.inl v) (B C) pJ M rfl d J6 ⟨rfl,d,u,_,_,i,.seen l (aj _) ai ai⟩)
  |cas _ q=>
   obtain⟨rfl,d,u,st,K,i,z⟩:=a.gi;cases z with
   |seen l k s r=>
    obtain⟨aqc,amt⟩:=q _ k i;rcases Nat.eq_or_lt_of_le k with C|C
    .obtain⟨g',y,B⟩:=aqc C;have T:∀j b,j<gs.size->(D j).eI=Z b->bC b w (setSt _ ((Vc gs.size S:Nat)*KK+1) w):=λj b E G=>rX (a.eL.lay.low j b E G) (λo Q J=>a.eL.lay.F4 j b E G _ o J d Q) i
     refine .inr (a.nI (b':=O) y rfl iq (.inl v) B (kO (by intro e c;simpa using c) _) T (size_setCell ..) d (λe c=> .inl ?_) ⟨rfl,d,u,_,_,i.setSt _,.reg l ai ai⟩);simp at c;rcases c with rfl|rfl
     .exact zI _ _
     .exact zI _ _
    .obtain⟨g',y,B⟩:=amt (Nat.ne_of_lt C);exact .inr (a.nI (b':=O) y rfl iq (.inl v) B (kO (by intro e c;simp at c;exact .inl c) _) M rfl d (λe c=> .inl (by simp at c;subst c;exact zI _ _)) ⟨rfl,d,u,_,_,i,.opn l ai ai⟩)
  |sem J ag5 q l=>
   obtain⟨rfl,d,u,st,K,i,z⟩:=a.gi;have lC:∀N,tL _ w N 0->Mode lo gs.size S .reg U N 0->(∃f p H,runT P (crowd gs w sl) 0=(.next f,p)/\Lt2 H (meas n O gs.size F)/\Inv P Fin H f (t++p)):=λN Gk V=>
    a.nI (b':=U) (g':=g) (q N Gk) rfl (λ_=>⟨J,ag5⟩) (.inr ⟨rfl,rfl⟩) a.jm rfl M rfl d (λe c=>by simp at c) ⟨rfl,d,u,N,0,Gk,V⟩
   cases z with
   |reg k s r=>exact .inr (lC _ i (.reg k s r))
   |last L k s r y=>exact .inr (lC _ i (.last L k s r y))
   |sema k=>
    obtain⟨g',s,r⟩:=l i;have T:∀j b,j<gs.size->(D j).eI=Z b->bC b w (setSm _ 0 w):=λj b E G=>BF (a.eL.lay.low j b E G) (λo Q J=>a.eL.lay.F4 j b E G _ o J d Q) i
    refine .inr (a.nI (b':=O) s rfl iq (.inl v) r (by simp[semEvents,deafBehind]) T (size_setCell ..) d (λe c=> .inl ?_) ⟨rfl,d,u,_,_,i.setSm _,.Yh k⟩);simp[semEvents]at c;rcases c with rfl|rfl|rfl|rfl
    .exact .inl rfl
    .exact Ri _ _
    .exact Ri _ _
    .exact .inr (.inl rfl)
  |last _ q=>
   obtain⟨rfl,d,u,st,K,i,z⟩:=a.gi;cases z with
   |Yh k=>
    obtain⟨g',s,r⟩:=q i;exact .inr (a.nI (b':=O) s rfl iq (.inl v) r (kO (by intro e c;simp at c;exact .inl c) _) M rfl d (λe c=> .inl (by simp at c;subst c;exact zI _ _)) ⟨rfl,d,u,_,_,i,.fin k⟩)
  |acq _ q l k=>
   have A:=a.gi.1;simp only at A;subst A;exact .inr (a.alU q l v k)
end
section
variable {P:aE}{Fin:ab->ar->Prop}{gs:Array ak}{w w':ar}{t:Trace}{σ gU:pj}{n m:Nat}{R:Perm}{g:ak}{Wg:Nat}{sh:Nat->Prop}{lo:Nat}{D:Nat->WS}{S F:Nat->Nat}{ps:Nat->dm}{b:Bool}{sl:Option (Nat×Nat)}
theorem IV.at(a:IV P Fin gs w t σ n R g Wg sh lo D S F ps b)(d:Nat):IV P Fin gs (w.at d) t σ n R g Wg sh lo D S F ps b:=by
 have f:∀T,bC T w (w.at d):=λT=>bC.at T w d
 refine⟨a.main,a.blk,a.jm.keeps (f R),a.perm,a.deaf,⟨a.eL.lom,λj l k=>?_,a.eL.old,a.eL.act,λj T r h e=>?_,a.eL.Iq,a.eL.above,a.eL.lay.ae7 (aj _) λj T _ _=>f T,a.eL.ti⟩,?_⟩
 .obtain⟨x,p,c⟩:=a.eL.wk j l k;exact⟨x,p,c.keeps λT _=>f T⟩
 .have o:lo<=j:=Nat.le_of_not_lt λz=>by
   have y:=a.eL.old j z;rcases Nat.eq_zero_or_pos j with rfl|q
   .rw[a.perm]at e;cases e
   .obtain⟨x,_,c⟩:=a.eL.wk j q h;rw[y,e]at c;cases c
  exact a.eL.Iq j o h T w _ (a.eL.post j T r h e) (f T)
 .have i:=a.gi;cases σ with
  |Dd=>exact i.elim
  |idle=>exact i
  |gi A=>
   obtain⟨l,k,v,st,m,u,s⟩:=i;exact⟨l,k,v,st,m,u.at d,s⟩
theorem IV.Z5(a:IV P Fin gs w t σ n R g Wg sh lo D S F ps b):∃(i:Nat) (x:ak),gs[i]?=Z x/\x.status=.running:=by
 cases b with
 |false=>exact⟨0,_,a.main,a.running⟩
 |true=>
  have c:∀i,i<gs.size->2<=S i->∃(i:Nat) (x:ak),gs[i]?=Z x/\x.status=.running:=by
   intro i f d;have l:0<i:=Nat.pos_of_ne_zero λe=>by
    subst e;have :=a.eL.old 0 (by have :=a.eL.lom;omega);omega
   obtain⟨x,o,m⟩:=a.eL.wk i l f;exact⟨i,x,o,m.status.elim id λh=>by omega⟩
  have j:=a.gi;cases σ with
  |Dd=>exact j.elim
  |idle=>obtain⟨_,h⟩:=j;cases h
  |gi u=>
   obtain⟨_,_,_,st,v,_,k⟩:=j;generalize p:u.sub=s at k;cases k with
   |reg r d q=>
    obtain⟨i,f,y⟩:=PD d;exact c i f ai
   |last L r d q z=>exact c L d ai
theorem IV.awake(a:IV P Fin gs w t σ n R g Wg sh lo D S F ps b):∀x∈gs,awake x:=by
 intro x c;obtain⟨i,d,rfl⟩:=Array.mem_iff_getElem.1 c;rcases Nat.eq_zero_or_pos i with rfl|f
 .have :gs[0]=py b g:=by have :=a.main;rw[Array.getElem?_eq_getElem d]at this;exact Option.some.inj this
  rw[this];exact Ly λ_=>a.running
 .obtain⟨x,c,e⟩:=a.eL.wk i f d;rw[Array.getElem?_eq_getElem d]at c;rw[Option.some.inj c];exact awake_of (e.status.elim .inl λh=> .inr (.inr h.1))
theorem Xk (s:Nat×Nat)(m:Machine)(t:Trace)(h:Inv P Fin s m t):
  (∃o w c,stepT P m=(.ended o w,c)/\Good P Fin m o w (t++c))\/(∃u c f,stepT P m=(.next u,c)/\Lt2 f s/\Inv P Fin f u (t++c)):=by
 obtain⟨gs,w,sl,σ,n,R,g,Wg,sh,lo,D,S,F,ps,b,rfl,a,rfl⟩:=h;obtain⟨i,x,d,j,p,v,r⟩:=crowd_pick (P:=P) (w:=w) (sl:=sl) a.awake a.Z5;have y:=a.at d;have A:i<gs.size:=(Array.getElem?_eq_some_iff.1 p).1;rcases Nat.eq_zero_or_pos i with rfl|z
 .cases b with
  |true=>
   rw[a.main]at p;cases p;cases v
  |false=>
   rcases step0 (sl:=j) n y with⟨o,B,c,l,k⟩|⟨e,c,f,l,k,q⟩
   .exact .inl ⟨o,B,c,r.trans l,k w sl⟩
   .exact .inr ⟨e,c,f,r.trans l,k,q⟩
 .obtain⟨e,c,f,l,k,q⟩:=y.stepW (sl:=j) z A p v;exact .inr ⟨e,c,f,r.trans l,k,q⟩
theorem IX {W}(p:JM P Fin .idle n R g W)(v:yv R W)(w:R.deaf=0):
  ∃N last o w' s,runNT P (N+1) (solo g W) #[]=(.ended o w',s)/\runN P N (solo g W)=.next last/\step P last=.ended o w'/\Good P Fin last o w' s:=by
 refine run_of_inv (Prod.lex ⟨(·< ·),Nat.lt_wfRel.wf⟩ ⟨(·< ·),Nat.lt_wfRel.wf⟩).wf (Inv P Fin) (Good P Fin) Xk (meas n O 1 (λ_=>0)) _ _ ?_;have l:∀{i:Nat}{a:Touch},touchAt #[] i=Z a->False:=λh=>by simp[touchAt,Trace.act?]at h
 refine⟨#[g],W,Y,.idle,n,R,g,0,λ_=>False,1,λ_=> .work R,λ_=>0,λ_=>0,λ_=>⟨λ_ _=>True⟩,O,rfl,⟨rfl,λh=>(by cases h),p,rfl,w.symm▸rfl,⟨dA,λi u f=>?_,λ_ _=>rfl,λi u f=>?_,λi T r t h=>(by cases h),λi u f=>?_,λ_ _=>rfl,?_,?_⟩,⟨rfl,rfl⟩⟩,rfl⟩
 .simp at f;omega
 .simp at f;omega
 .simp at f;omega
 .refine⟨λk T e m=>?_,λj k T c A p e _ _=>?_,λk T e m b o z q=>q.elim,λb q=>q.elim⟩
  .cases m;exact v
  .simp at p e;omega
 .refine⟨λsaid=>?_,λy x=>(by simp at x),λi a d=>(l d).elim,λk T e m i a d=>(l d).elim,λk T e m i a d=>(l d).elim,λi a d=>(l d).elim,λi a d=>(l d).elim,λk T r e h=>(by cases h),λa i h=>(by simp[Trace.act?]at h),λi k t=>(by simp[Trace.g?]at t),⟨R,rfl⟩⟩;rintro⟨i,j,_,⟨a,b,d,_⟩,_⟩;simp[Trace.act?]at d
end
section
variable {P:aE}{E:Perm}{bJ:ar}{ρ:dz}{m a8:Mem}{w:ar}{wa d o:Nat}{p:Pl}
theorem gq.fields(h:gq ρ m w)(b:Nat)(op:List Span)(wg:Option Nat)(a:List Cz):gq ρ {m with floor:=b,opn:=op,wg:=wg,pend:=a} w:=
 ⟨h.oe,h.cells,h.lZ,h.thaw,h.maps,h.mJ,h.sep,h.sX,h.vars⟩
theorem I8 {l:List Span}(h:l.all (λs=>xN m s&&s.1 !=wa)=U):∀s∈l,s.2.1=s.1+1/\m.base<=s.1/\m.floor<=s.1/\s.1<m.next/\(m.blk s.1).kind=1/\s.1≠wa:=by
 intro s a;rw[aB]at h;have :=h s a;simp only[xN,ag,iU,beq_iff_eq,bne_iff_ne]at this;obtain⟨⟨⟨⟨⟨⟨g,f⟩,e⟩,d⟩,c⟩,_⟩,b⟩:=this;exact⟨g,f,e,d,c,b⟩
theorem oN {l}{b o:Nat}(h:bL l b o=U):∃s∈l,s.1<=b/\b<s.2.1/\(s.2.2=Y\/s.2.2=Z o):=by
 unfold bL at h;rw[List.any_eq_true]at h;obtain⟨s,c,h⟩:=h;simp only[ag,iU]at h;refine⟨s,c,h.1.1,h.1.2,?_⟩;have a:=h.2
 split at a
 .rename_i e;exact .inl e
 .rename_i y e;exact .inr (by rw[e];simpa using a)
theorem EN (c:m.wg=Y)(h:mo wa d o m=Z a8):∃l,a8={m.bB wa {}with wg:=Z wa,opn:=l,floor:=m.next}/\ql m d o 4=Z l/\m.dP wa 0 2=Z [.int .u64 0,.int .u32 0]/\m.dh wa 0 2=U/\m.fL wa=U/\
  (m.blk wa).pos=1/\(m.blk wa).cs.length=2/\m.bI=[]/\m.opn=[]/\m.pend=[]/\m.floor=m.base/\l.all (λs=>xN m s&&s.1 !=wa)=U/\j0 l=U:=by
 unfold mo at h;rw[c]at h;simp only[]at h
 split at h
 .rename_i l b q
  split at h
  .rename_i a;simp only[ah]at h;simp only[ag,iU,beq_iff_eq]at a;obtain⟨⟨⟨⟨⟨⟨⟨⟨⟨p,n⟩,k⟩,j⟩,i⟩,c6⟩,g⟩,f⟩,e⟩,c10⟩:=a;exact⟨l,h.symm,q,b,p,n,k,j,i,c6,g,f,e,c10⟩
  .cases h
 .cases h
theorem Md (H:dj P E bJ .idle ρ m w)(h:mo wa d o m=Z a8)(t:ρ wa=Z p):
  p.d=0/\dj P E bJ (.gi ⟨p.c,[],.opn 0⟩) ρ a8 w/\j3 ((az ρ a8).or E) ((az ρ m).or E)/\(∀b o,((az ρ a8).or E).wr b o->((az ρ a8).or E).rd b o)/\a8.deaf=m.deaf/\
   ((az ρ m).or E).wr p.c 0/\((az ρ m).or E).wr p.c 1/\tL p.c w 0 0/\∀x,x<=1->¬((az ρ a8).or E).rd p.c x:=by
 obtain⟨hgw,L,hgh⟩:m.wg=Y/\m.pend=[]/\m.home<=m.next:=H.gi;obtain⟨l,rfl,T3,hl,c1,c2,c3,c4,c5,c6,c7,c8,c9,c10⟩:=EN hgw h;have D:=H.kH;have R:(m.blk wa).kind=1:=(Mem.qV hl).1;have M:p.d=0:=D.vars wa p t R c3;obtain⟨_,sY,_⟩:=D.cells wa p t R;have V:∀i,i<2->∃v,[ab.int .u64 0,ab.int .u32 0][i]?=Z v/\m.cell wa i=Z v:=λi K=>by
  obtain⟨v,k,r⟩:=(Mem.qV hl).2.2 i K;exact⟨v,k,by simpa using r⟩
 have uL:=Mem.lM c1;have T:∀i,i<2->(az ρ m).wr p.c i:=λi K=>by
  obtain⟨v,_,hc⟩:=V i K;have k:=(Mem.sD c1 K).2;have :=zV (ρ:=ρ) (m:=m) t (o:=i) ai ⟨Mem.eW hc,by simpa using k⟩;rw[M]at this;simpa using this
 have J4:wa<m.next:=D.oe wa p t;have lC:∀b,({m.bB wa {}with wg:=Z wa,opn:=l,floor:=m.next}:Mem).blk b=if wa=b then{bq:=m.tick}else m.blk b:=λb=>Mem.eP ..
 have S:∀b x,({m.bB wa {}with wg:=Z wa,opn:=l,floor:=m.next}:Mem).px b x->b≠wa/\m.px b x:=by
  intro b x n;obtain⟨k,r,F⟩:=n;rw[lC]at k F
  by_cases e:wa=b
  .rw[bh e]at k;cases k
  .rw[bH e]at k F;exact⟨λx=>e x.symm,k,r,F⟩
 have hW:∀b x,({m.bB wa {}with wg:=Z wa,opn:=l,floor:=m.next}:Mem).okW b x->m.okW b x:=by
  intro b x g;obtain⟨k,r⟩:=g;have F:=(S b x k).2;refine⟨F,.inl ?_⟩;rcases r with r|r
  .exact absurd F.1 (by rw[H.wf.zo b r];simp)
  .obtain⟨s,ui,a,j,_⟩:=oN r;obtain⟨e1,_,e3,_⟩:=I8 c9 s ui;omega
 have Gm:∀b x,(az ρ {m.bB wa {}with wg:=Z wa,opn:=l,floor:=m.next}).rd b x->(az ρ m).rd b x:=λb x ⟨B,C,a,j,f,A,G⟩=>⟨B,C,a,j,f,A,(S _ _ G).2⟩
 have N:∀b x,(az ρ {m.bB wa {}with wg:=Z wa,opn:=l,floor:=m.next}).wr b x->(az ρ m).wr b x:=λb x ⟨B,C,a,j,f,A,G⟩=>⟨B,C,a,j,f,A,hW _ _ G⟩
 have CW:∀b,(az ρ {m.bB wa {}with wg:=Z wa,opn:=l,floor:=m.next}).ob b->(az ρ m).ob b:=by
  rintro b ⟨B,C,a,j,f,A⟩;rw[lC]at f
  by_cases e:wa=B
  .rw[bh e]at f;rcases f with f|f<;>cases f
  .rw[bH e]at f;exact⟨B,C,a,j,f,A⟩
 have agR:gq ρ ({m.bB wa {}with wg:=Z wa,opn:=l,floor:=m.next}:Mem) w:=(D.kill wa).fields m.next l (Z wa) m.pend;have X:tL p.c w 0 0:=by
  have hv:∀i,i<2->∀u,m.cell wa i=Z u->(∀Q,aV ρ u Q->Q=u)->w.cell? ⟨p.c,i,Y⟩=Z u:=by
   intro i K u J fJ;obtain⟨v',a,j⟩:=D.lZ wa p i u t J;rw[M,Nat.zero_add]at a;rw[a,fJ v' j]
  refine⟨hv 0 ai _ ?_ λQ J=>(aG (by rfl)).1 J,hv 1 ai _ ?_ λQ J=>(aG (by rfl)).1 J,λx W=>?_⟩
  .obtain⟨v,a,j⟩:=V 0 ai;simp only[List.getElem?_cons_zero,ah]at a;subst a;exact j
  .obtain⟨v,a,j⟩:=V 1 ai;simp only[List.getElem?_cons_succ,List.getElem?_cons_zero,ah]at a;subst a;exact j
  .have :=D.thaw wa p x t ai R uL;rw[M,Nat.zero_add]at this;exact this
 have LU:∀x,x<=1->¬((az ρ {m.bB wa {}with wg:=Z wa,opn:=l,floor:=m.next}).or E).rd p.c x:=by
  intro x W n;rcases n with⟨B,C,a,j,f,A,G⟩|n
  .obtain⟨ep,dV⟩:=S _ _ G;obtain⟨_,_,F⟩:=D.sep B wa C p ep a t (by rw[dV.1];simp) (by rw[R];simp) j;omega
  .exact(H.apart.cell p.c x n).2 (T x ai)
 refine⟨M,⟨agR,H.rest,⟨λb x z=>⟨(H.apart.cell b x z).1,λg=>(H.apart.cell b x z).2 (N b x g)⟩,λb z=>⟨(H.apart.obj b z).1,λg=>(H.apart.obj b z).2.1 (CW b g),(H.apart.obj b z).2.2⟩,H.apart.wf⟩,H.pS,?_,?_,λb q x a gb f A G=>H.Ps b q x a gb f A (S _ _ G).2,λb x z n=>H.ew b x z (Gm b x n)⟩,
  ⟨λb x n=>n.imp (Gm b x) id,λb x g=>g.imp (N b x) id,λb hb=>hb.imp (CW b) id⟩,λb x g=>g.elim (λy=> .inl (nz y)) λy=> .inr (H.apart.wf b x y),rfl,.inl (T 0 ai),.inl (T 1 ai),X,LU⟩
 .refine⟨rfl,dA,⟨hgh,by show m.base<=m.next;rw[<-c8];exact H.wf.fl⟩,wa,rfl,J4,J4,λq hq=>?_,?_⟩
  .rw[t]at hq;cases hq;exact⟨rfl,M⟩
  .refine⟨?_,λx W=>?_,?_⟩
   .show bP _ m.pend []
    rw[L];trivial
   .have wO:x∈m.bI:=W;rw[c5]at wO;cases wO
   .show m.pend.Pairwise _
    rw[L];exact List.Pairwise.nil
 .have g:=(jS.own c2).2.2 H.wf;exact⟨g.bq,g.zo,g.bI,aj _,g.live⟩
end
def dK (m:Mem)(l rest:List Span):Mem:={m with home:=m.next,floor:=m.next,opn:=l,bI:=rest++m.bI,wg:=Y,pend:=[]}
def ss (m m2:Mem)(l rest:List Span):Cz:={lo:=m.next,hi:=m2.next,qm:=l,bI:=rest++m.bI,heap:=m2.heap}
def km (m m2:Mem)(l rest:List Span):Mem:=
 {m2 with home:=m.home,floor:=m2.next,opn:=rest,wg:=m.wg,bI:=(m.next,m2.next,Y)::(l++m.bI),pend:=ss m m2 l rest::m.pend}
theorem Mr (s:Span)(l:List Span)(b o:Nat):bL (s::l) b o=(bL [s] b o||bL l b o):=by simp[bL]
theorem sF (l a:List Span)(b o:Nat):bL (l++a) b o=(bL l b o||bL a b o):=by simp[bL,List.any_append]
theorem Ig (s:Span)(l:List Span)(b:Nat):aP (s::l) b=(aP [s] b||aP l b):=by simp[aP]
theorem u7 (l a:List Span)(b:Nat):aP (l++a) b=(aP l b||aP a b):=by simp[aP,List.any_append]
section
variable {P:aE}{E:Perm}{bJ:ar}{ρ:dz}{m m2:Mem}{w:ar}{l rest:List Span}{b o:Nat}{p:Pl}
theorem mG (d:Fr (dK m l rest) m2)(p:b<m.next):
  m2.blk b=m.blk b\/((m2.blk b).kind=0/\ix l b=U)\/((m.blk b).kind=1/\(m2.blk b).kind=1/\(m2.blk b).sz=(m.blk b).sz/\(m2.blk b).pos=(m.blk b).pos/\(m2.blk b).cs.length=(m.blk b).cs.length/\
   ∀o:Nat,(m2.blk b).cs[o]?≠(m.blk b).cs[o]?->bL l b o=U):=by
 rcases d.blk b with e|⟨_,h⟩
 .exact .inl e
 .rcases h with h|⟨_,_,h,c⟩|⟨h,_⟩|⟨_,n,k,j,i,g,f⟩
  .exact absurd (show m.next<=b from h) ai
  .rcases h with h|h
   .exact absurd (show m.next<=b from h) ai
   .exact .inr (.inl ⟨c,h⟩)
  .exact absurd (show m.next<=b from h) ai
  .refine .inr (.inr ⟨n,k,j,i,g,λo a=>?_⟩);rcases(f o a).2 with h|h
   .exact absurd (show m.next<=b from h) ai
   .exact h
theorem xZ (c:Fr (dK m l rest) m2)(d:b<m.next)(a:bL l b o=O):
  m2.blk b=m.blk b\/((m.blk b).kind=1/\(m2.blk b).kind=1/\(m2.blk b).cs.length=(m.blk b).cs.length/\(m2.blk b).cs[o]?=(m.blk b).cs[o]?):=by
 rcases mG c d with e|⟨_,h⟩|⟨j,i,_,_,g,f⟩
 .exact .inl e
 .rw[kQ h o]at a;cases a
 .refine .inr ⟨j,i,g,?_⟩
  by_cases e:(m2.blk b).cs[o]?=(m.blk b).cs[o]?
  .exact e
  .rw[f o e]at a;cases a
theorem yg (b:Nat):(km m m2 l rest).blk b=m2.blk b:=rfl
theorem EE (h:bL (km m m2 l rest).bI b o=O):bL l b o=O/\bL m.bI b o=O/\¬(m.next<=b/\b<m2.next):=by
 have h:bL ((m.next,m2.next,Y)::(l++m.bI)) b o=O:=h;rw[Mr,sF]at h;simp only[Bool.or_eq_false_iff]at h;refine⟨h.2.1,h.2.2,λa=>?_⟩;rw[oL (l:=[((m.next,m2.next,Y):Span)]) (List.mem_singleton.2 rfl) a.1 a.2 (.inl rfl)]at h;cases h.1
theorem tQ (h:(km m m2 l rest).bQ b=U):m.bQ b=U:=by
 unfold Mem.bQ at h⊢;have h:(!aP ((m.next,m2.next,Y)::(l++m.bI)) b&&decide (m.home<=b))=U:=h;rw[Ig,u7]at h;simp only[ag,Bool.not_eq_true',Bool.or_eq_false_iff]at h⊢;exact⟨h.1.2.2,h.2⟩
theorem NG (f:gq ρ m w)(q:Fr (dK m l rest) m2):gq ρ (km m m2 l rest) w:=by
 have g:∀b p,ρ b=Z p->b<m.next:=f.oe;have K:m.next<=m2.next:=q.next;have L:m2.base=m.base:=q.base;have k1:∀b p,ρ b=Z p->(m2.blk b).kind=1->(m.blk b).kind=1/\(m2.blk b).sz=(m.blk b).sz/\(m2.blk b).pos=(m.blk b).pos/\(m2.blk b).cs.length=(m.blk b).cs.length:=by
  intro b p a c;rcases mG q (g b p a)with e|⟨h,_⟩|⟨d,k,r,N,M,_⟩
  .rw[e]at c⊢;exact⟨c,rfl,rfl,rfl⟩
  .rw[h]at c;cases c
  .exact⟨d,r,N,M⟩
 have t:∀b p,ρ b=Z p->(m2.blk b).kind≠0->(m2.blk b).kind≠1->m2.blk b=m.blk b:=by
  intro b p a x d;rcases mG q (g b p a)with e|⟨h,_⟩|⟨_,k,_⟩
  .exact e
  .exact absurd h x
  .exact absurd k d
 refine⟨λb p a=>aZ (g b p a) K,λb p a c=>?_,λb p o v a i=>?_,λb p o a n c S=>?_,λb p a c n=>?_,λb p a c n=>?_,λb G p z Q a E c j u=>?_,f.sX,λb p a c J=>?_⟩
 .obtain⟨s,P,B,y⟩:=k1 b p a c;obtain⟨d,k,r⟩:=f.cells b p a s;exact⟨d.trans P.symm,by rw[yg,y];exact k,r⟩
 .unfold Mem.cell at i
  split at i
  .rename_i c;obtain⟨R,F,_⟩:=EE c.2;have H:(m2.blk b).kind=1:=c.1;have i:((m2.blk b).cs[o]?).join=Z v:=i;refine f.lZ b p o v a ?_;unfold Mem.cell;rcases xZ q (g b p a) R with e|⟨s,_,_,y⟩
   .rw[e]at i H;rw[bh ⟨H,F⟩];exact i
   .rw[bh ⟨s,F⟩,<-y];exact i
  .cases i
 .exact f.thaw b p o a n (k1 b p a c).1 (by rw[<-L];exact S)
 .have e:=t b p a (by rw[show(m2.blk b).kind=2 from c];simp) (by rw[show(m2.blk b).kind=2 from c];simp);have j:(m2.blk b).kind=2:=c;rw[yg,e];rw[e]at j;exact f.maps b p a j (tQ n)
 .have e:=t b p a (by rw[show(m2.blk b).kind=3 from c];simp) (by rw[show(m2.blk b).kind=3 from c];simp);have j:(m2.blk b).kind=3:=c;rw[yg,e];rw[e]at j;exact f.mJ b p a j (tQ n)
 .have A:∀b p,ρ b=Z p->(m2.blk b).kind≠0->(m2.blk b).kind=(m.blk b).kind:=by
   intro b p a x
   by_cases d:(m2.blk b).kind=1
   .rw[d,(k1 b p a d).1]
   .rw[t b p a x d]
  have D:=A b p a c;have C:=A G z E j;obtain⟨d,k,r⟩:=f.sep b G p z Q a E (by rw[<-D];exact c) (by rw[<-C];exact j) u;exact⟨D.trans d,C.trans k,r⟩
 .obtain⟨s,_,B,_⟩:=k1 b p a c;exact f.vars b p a s (B.symm.trans J)
theorem NH (a:gq ρ m w)(j:∀b,m.next<=b->(m.blk b).kind=0):gq ρ (dK m l rest) w:=by
 have i:∀b,(dK m l rest).bQ b=U->m.next<=b:=by
  intro b h;unfold Mem.bQ at h;simp only[ag,iU]at h;exact h.2
 refine⟨a.oe,a.cells,λb p o v c e=>?_,a.thaw,λb p c d f=>?_,λb p c d f=>?_,a.sep,a.sX,a.vars⟩
 .unfold Mem.cell at e
  split at e
  .rename_i d;have g:bL (rest++m.bI) b o=O:=d.2;rw[sF]at g;simp only[Bool.or_eq_false_iff]at g;refine a.lZ b p o v c ?_;unfold Mem.cell;rw[bh ⟨d.1,g.2⟩];exact e
  .cases e
 .exact absurd (i b f) (by have :=a.oe b p c;omega)
 .exact absurd (i b f) (by have :=a.oe b p c;omega)
end
end Go.AM
