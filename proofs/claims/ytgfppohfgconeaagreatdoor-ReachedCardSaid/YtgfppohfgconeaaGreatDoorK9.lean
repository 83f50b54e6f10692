/-
  What the claim stands on, part 9.
-/
import Derived.Test.YtgfppohfgconeaaGreatDoorK8
set_option linter.unusedVariables false
set_option linter.unusedSimpArgs false
open Go.Proofs.Tryz renaming prog → ab
open Go renaming Value → ae, World → au, Program → aD, IntKind → cf
open Nat renaming le_of_ble_eq_true → af, le_refl → ai, eq_of_beq_eq_true → aA, lt_of_lt_of_le → aW
open Bool renaming and_eq_true → ag
open Option.some renaming injEq → ah
open Prod.mk renaming injEq → ay
open List renaming all_eq_true → aB, mem_cons → aI
open Option renaming map_eq_some_iff → aC, bind_eq_some_iff → bD
namespace Go.AM
set_option maxRecDepth 1000000
open Go Go.Conc Go.Proofs
noncomputable def Iz(l:List (List V)):List (List V):=l.mergeSort fun x y=>decide (cj x y<=0)
theorem Q7 {x y z:List V}(h1:cj x y<=0)(h2:cj y z<=0):cj x z<=0:=by
 rcases Int.lt_or_eq_of_le h1 with a|a
 ·rcases Int.lt_or_eq_of_le h2 with b|b
  ·exact Int.le_of_lt (lH.trans a b)
  ·rw[<-jy.1 b];exact h1
 ·rw[jy.1 a];exact h2
theorem xq (l:List (List V)):(Iz l).Perm l/\(Iz l).Pairwise fun x y=>cj x y<=0:=by
 refine⟨List.mergeSort_perm _ _,?_⟩;have :=List.pairwise_mergeSort (le:=fun x y=>decide (cj x y<=0)) (by simpa using fun a b c h1 h2=>Q7 h1 h2) (by
  intro a b;rw[Bool.or_eq_true,jQ,jQ];rcases Int.lt_or_le 0 (cj a b)with h|h
  ·exact .inr (Int.le_of_lt (lH.Aw h))
  ·exact .inl h) l
 exact this.imp fun h=>by simpa using h
abbrev tu:=List (Nat×Option X)×Option X×List X
noncomputable def eY(Tb:Nat->Option (List (List V)))(s:tu):List (List V):=xO Tb s.2.2 (iq Tb s.2.1 (gf Tb s.1 0 [eU]))
structure oE (Tb:Nat->Option (List (List V)))(s:tu):Prop where
 src:s.1.length<=6
 join:G8 Tb s.1 0 [eU]
 jl:(gf Tb s.1 0 [eU]).length<9000
 wh:s.2.1≠none->∀r∈gf Tb s.1 0 [eU],Em Tb s.2.1 r
 max:(iq Tb s.2.1 (gf Tb s.1 0 [eU])).length<=1000
 rU:∀r∈iq Tb s.2.1 (gf Tb s.1 0 [eU]),(∀x∈s.2.2,Tz (kj Tb r) x)/\(oP (kj Tb r) s.2.2 []).2=0
 il:s.2.2.length<9000
def uB:nU tu where
 R B s m v:=∃sv wv iv,v= .agg #[sv,wv,iv]/\(aT vM 2).R B s.1 m sv/\iP.R B s.2.1 m wv/\(aT nR 1).R B s.2.2 m iv
 mono:=by
  rintro B B' x m v ⟨sv,wv,iv,e,h1,h2,h3⟩ k;exact⟨sv,wv,iv,e,(aT vM 2).mono h1 k,iP.mono h2 k,(aT nR 1).mono h3 k⟩
 ext:=by
  rintro B S x m m' v ⟨sv,wv,iv,e,h1,h2,h3⟩ k hs;exact⟨sv,wv,iv,e,(aT vM 2).ext h1 k hs,iP.ext h2 k hs,(aT nR 1).ext h3 k hs⟩
section
variable {α:Type}{E:nU α}{sz t n len b:Nat}{m0 m m1:Mem}{acc ys:List α}{sv v x:ae}{S BO BE Wn B':Nat->Prop}
theorem lP.Nc(h:lP E sz BO BE m acc sv)(g:Gd m)(ht:sN.contains (t,sz)=true)(q:∃cs,kA m sz ys.length v=some cs/\Cv v=some ys.length/\cA (fun x u=>E.R B' x m u/\okV sz u) ys cs)(hd:∀b,BO b->¬B' b)(EC:∀b,BE b->b<m.next)(H7:∀b,B' b->b<m.next)(hl:acc.length+ys.length<2^30):
  ∃s' m',cK ab #[t,t] sv v m=some (s',m')/\Kp m m' BO/\lP E sz (fun y=>y=m.next) (fun y=>BE y\/B' y) m' (acc++ys) s'/\(aT E sz).R (fun y=>y=m.next\/BE y\/B' y) (acc++ys) m' s':=by
 obtain⟨Pe,h1,h2,h3⟩:=q;have jT:¬(BE m.next\/B' m.next):=fun h=>by
  rcases h with h|h
  ·have :=EC _ h;omega
  ·have :=H7 _ h;omega
 rcases h with⟨rfl,rfl⟩|⟨b,cs,rest,rfl,hb,hw,ob,gO⟩
 ·by_cases hy:ys.length=0
  ·obtain rfl:=List.length_eq_zero_iff.1 hy;have hc0:Pe=[]:=h3;subst hc0;exact⟨_,m,Kw ht h1 h2,.refl _ _,.inl ⟨rfl,rfl⟩,aT.nil⟩
  ·obtain⟨m',e,o,k,n⟩:=Kx g ht h1 h2 h3.one.1 h3.one.2 hy aj;have hc:cA (fun x u=>E.R (fun y=>BE y\/B' y) x m' u/\okV sz u) ys Pe:=h3.mono fun x u _ w=>⟨E.mono (E.ext w.1 k fun _ _ h=>h) fun y hy=> .inr hy,w.2⟩
   exact⟨_,m',e,k.tA,.inr ⟨m.next,Pe,[],de,⟨rfl,jT⟩,g.own k (ai _),by rw[List.append_nil];exact o,hc⟩,Pe,o.sl hc.one.1 (.inl rfl),fun b' o' n' c' e=>(by cases e;exact .inl rfl),hc.mono fun x u _ w=>⟨E.mono w.1 fun y hy=> .inr hy,w.2⟩⟩
 ·obtain⟨m',e,o,k,n⟩:=DC (len:=acc.length) g ht ob gO.one.1 hw h1 h2 h3.one.1 h3.one.2 aj;have hc:cA (fun x u=>E.R (fun y=>BE y\/B' y) x m' u/\okV sz u) (acc++ys) (cs++Pe):=cA.append (gO.mono fun x u _ w=>⟨E.mono (E.ext w.1 k fun y hy e=>hb.2 (e▸hy)) fun y hy=> .inl hy,w.2⟩)
   (h3.mono fun x u _ w=>⟨E.mono (E.ext w.1 k fun y hy e=>hd b hb.1 (e▸hy)) fun y hy=> .inr hy,w.2⟩)
  exact⟨_,m',e,k.mono fun y _ e=>by rw[e];exact hb.1,.inr ⟨m.next,cs++Pe,[],de,⟨rfl,jT⟩,g.own k (ai _),by rw[List.append_nil];exact o,hc⟩,cs++Pe,by rw[<-List.length_append]at*;exact o.sl hc.one.1 (.inl rfl),fun b' o' n' c' e=>(by cases e;exact .inl rfl),hc.mono fun x u _ w=>⟨E.mono w.1 fun y hy=> .inr hy,w.2⟩⟩
theorem lP.cat(h:lP E sz BO BE m acc sv)(g:Gd m)(ht:sN.contains (t,sz)=true)(q:(aT E sz).R B' ys m v)(hd:∀b,BO b->¬B' b)(EC:∀b,BE b->b<m.next)(H7:∀b,B' b->b<m.next)(hl:acc.length+ys.length<2^30):
  ∃s' m',cK ab #[t,t] sv v m=some (s',m')/\Kp m m' BO/\lP E sz (fun y=>y=m.next) (fun y=>BE y\/B' y) m' (acc++ys) s'/\(aT E sz).R (fun y=>y=m.next\/BE y\/B' y) (acc++ys) m' s':=by
 obtain⟨Pe,h1,h2,h3⟩:=q;exact h.Nc g ht ⟨Pe,mP h1,h1.UB,h3⟩ hd EC H7 hl
end
theorem agP:Path 150 [fE]
 [oZ]
 fE:=fB
section
variable {K:gS}{m:Mem}
theorem aiH (g:Gd m){B:Nat->Prop}{l:List (List V)}{v:ae}(q:(aT bH 1).R B l m v)(h0:l=[]->v= .slice none 0 0)(hB:∀b,B b->b<m.next)(hl:l.length<=2^30):
  ∃sv m',Ev K 150 [v] m sv m'/\Kp m m' fu/\lP bH 1 (iS m m') B m' l sv/\(aT bH 1).R (fun y=>iS m m' y\/B y) l m' sv:=by
 by_cases hn:l=[]
 ·subst hn;rw[h0 rfl];exact⟨_,m,aJ agP (.cond rfl .nil),.refl _ _,.inl ⟨rfl,rfl⟩,aT.nil⟩
 ·obtain⟨gQ,h1,h2,h3⟩:=q;obtain⟨_,⟨e,ec⟩|⟨p,cc,rfl,ob,hc⟩⟩:=id h1
  ·have :=h3.one.1;rw[ec]at this;exact absurd (List.length_eq_zero_iff.1 (by simp at this;omega)) hn
  obtain⟨o1,k1,n1⟩:=gC g (k:={kind:=1,sz:=1,cs:=[]}) (cs:=[]) (sz:=1) rfl rfl rfl;have e1:=ad3 (m:=m);generalize m.alloc {kind:=1,sz:=1,cs:=[]}=m1 at o1 k1 n1 e1;have hp:l.length≠0:=fun h=>hn (List.length_eq_zero_iff.1 h)
  obtain⟨m2,e2,o2,k2,n2⟩:=Ky (len:=0) (g.ext k1) (t:=29) rfl o1 rfl hp (h1.aR k1) h3.one.2 aj;rw[Nat.zero_add]at e2;have MH:cA (fun x u=>bH.R B x m2 u/\okV 1 u) l gQ:=h3.mono fun x u _ w=>⟨bH.ext w.1 (k1.aS k2) fun _ _ h=>h,w.2⟩
  refine⟨_,m2,aJ (akc p l.length cc _ m.next) (.cond rfl<| .mem e1<| .mem e2 .nil),k1.aS k2,.inr ⟨m1.next,gQ,[],rfl,⟨⟨aj,aj⟩,fun h=>by have :=hB _ h;omega⟩,(g.ext k1).own k2 (ai _),by simpa using o2,MH⟩,gQ,?_,fun b o n c e=>(by cases e;exact .inl ⟨aj,aj⟩),MH.mono fun x u _ w=>⟨bH.mono w.1 fun _ h=> .inr h,w.2⟩⟩;exact Obj.sl (by simpa using o2) (by simpa using h3.one.1) (.inl rfl)
end
def As (d:Nat)(bo bm:Nat->Option Nat)(al am:Option Nat)(b:Nat):Prop:=b=d\/(∃j,bo j=some b)\/al=some b\/(∃j,bm j=some b)\/am=some b
theorem dp.exact{m:Mem}{d:Nat}{SB:Nat->Prop}{rows:List (List Nat)}{cs:List ae}{bo bm:Nat->Option Nat}{al am:Option Nat}{rl:ae}(D:dp m d SB rows cs bo al bm am rl):
  dp m d (As d bo bm al am) rows cs bo al bm am rl/\(∀b,As d bo bm al am b->SB b/\b<m.next/\((m.blk b).sz=0\/(m.blk b).sz=6\/(m.blk b).sz=1)):=by
 refine⟨{D with sd:= .inl rfl,sb:=fun{j b} h=>⟨?_,(D.sb h).2⟩},fun b h=>?_⟩
 ·rcases h with h|h|h|h
  ·exact .inr (.inl ⟨j,h⟩)
  ·exact .inr (.inr (.inl h))
  ·exact .inr (.inr (.inr (.inl ⟨j,h⟩)))
  ·exact .inr (.inr (.inr (.inr h)))
 ·rcases h with rfl|⟨j,h⟩|h|⟨j,h⟩|h
  ·exact⟨D.sd,D.ob.lt,.inl D.ob.sz⟩
  ·exact⟨(D.sb (.inl h)).1,(D.sb (.inl h)).2,.inr (.inl (D.br.NH (.inl ⟨j,h⟩)).1)⟩
  ·exact⟨(D.sb (j:=0) (.inr (.inl h))).1,(D.sb (j:=0) (.inr (.inl h))).2,.inr (.inl (D.br.NH (.inr h)).1)⟩
  ·exact⟨(D.sb (.inr (.inr (.inl h)))).1,(D.sb (.inr (.inr (.inl h)))).2,.inr (.inr (D.bw.NH (.inl ⟨j,h⟩)).1)⟩
  ·exact⟨(D.sb (j:=0) (.inr (.inr (.inr h)))).1,(D.sb (j:=0) (.inr (.inr (.inr h)))).2,.inr (.inr (D.bw.NH (.inr h)).1)⟩
theorem bH.sz4{B:Nat->Prop}{x:List V}{m:Mem}{v:ae}(h:bH.R B x m v):bH.R (fun b=>B b/\(m.blk b).sz=4) x m v:=by
 obtain⟨b,c,e,hb,o,hc⟩:=h;exact⟨b,c,e,⟨hb,o.sz⟩,o,hc⟩
end Go.AM
namespace Go.AM
set_option maxRecDepth 1000000
open Go Go.Conc Go.Proofs
theorem afO (d un uc:Nat)(ua:Option Addr)(a w b rv sv:ae)(bZ:Nat):gN 115 0 6 [0,1] [.agg #[a,w,b,.slice ua un uc],vP d 0]
 [dN [some a,some w,some b,some (.slice ua un uc)] bZ,
  iR 3 bZ (.agg #[a,w,b]),
  .call 149 [.agg #[a,w,b],vP d 0] (.tuple #[rv,vI 0]),
  eE,
  .call 150 [rv] sv,
  .mem (aP bZ 3) (.slice ua un uc)]
 .normal [1,8,26,27,28] [vP d 0,sv,.slice ua un uc,vI un,vI 0]:=jz
theorem km.ext{m m':Mem}{d q sz:Nat}{cs:List ae}{bo:Nat->Option Nat}{al:Option Nat}{S:Nat->Prop}(h:km m d q sz cs bo al)(k:Kp m m' S)(hS:∀b,(∃j,bo j=some b)\/al=some b->¬S b):km m' d q sz cs bo al:=by
 refine⟨h.len,fun j hj=>?_,h.hi,h.inj,fun hb=>by rw[k.base];exact h.ne hb,?_,fun hp=>by rw[k.base];exact h.Ia hp⟩
 ·obtain⟨sv,h1,h2⟩:=h.sh j hj;exact⟨sv,h1,h2.ext k.Wr fun b hb=>hS b (.inl ⟨j,hb⟩)⟩
 ·obtain⟨sv,h1,h2⟩:=h.all;exact⟨sv,h1,h2.ext k.Wr fun b hb=>hS b (.inr hb)⟩
theorem dp.ext{m m':Mem}{d:Nat}{SB S:Nat->Prop}{rows:List (List Nat)}{cs:List ae}{bo bm:Nat->Option Nat}{al am:Option Nat}{rl:ae}(h:dp m d SB rows cs bo al bm am rl)(k:Kp m m' S)(hS:∀b,SB b->¬S b):dp m' d SB rows cs bo al bm am rl:=
 ⟨h.ob.ext k (hS d h.sd),h.len,by rw[k.base];exact h.bd,h.br.ext k fun b hb=>hS b (hb.elim (fun⟨j,e⟩=>(h.sb (.inl e)).1) fun e=>(h.sb (j:=0) (.inr (.inl e))).1),h.bw.ext k fun b hb=>hS b (hb.elim (fun⟨j,e⟩=>(h.sb (.inr (.inr (.inl e)))).1) fun e=>(h.sb (j:=0) (.inr (.inr (.inr e)))).1),h.all,(aT ts 6).ext h.rws k fun b e=>hS b (h.sb (j:=0) (.inr (.inl e))).1,h.sd,fun hb=>⟨(h.sb hb).1,by have :=(h.sb hb).2;have :=k.next;omega⟩⟩
theorem lP.Oq{BO BE H0:Nat->Prop}{m:Mem}{acc:List (List V)}{sv:ae}(h:lP bH 1 BO BE m acc sv)(k:∀b,BE b->(m.blk b).sz=4->H0 b)(n:∀b,BO b->¬H0 b):lP bH 1 BO H0 m acc sv:=by
 rcases h with h|⟨b,cs,rest,e,hb,hw,ob,gO⟩
 ·exact .inl h
 ·exact .inr ⟨b,cs,rest,e,⟨hb.1,n b hb.1⟩,hw,ob,gO.mono fun x u _ w=>⟨bH.mono (bH.sz4 w.1) fun b hb=>k b hb.1 hb.2,w.2⟩⟩
theorem lP.lt{α:Type}{E:nU α}{sz:Nat}{BO BE:Nat->Prop}{m:Mem}{acc:List α}{sv:ae}(h:lP E sz BO BE m acc sv):lP E sz (fun y=>BO y/\y<m.next) BE m acc sv:=by
 rcases h with h|⟨b,cs,rest,e,hb,hw,ob,gO⟩
 ·exact .inl h
 ·exact .inr ⟨b,cs,rest,e,⟨⟨hb.1,ob.lt⟩,hb.2⟩,hw,ob,gO⟩
end Go.AM
namespace Go.AM
set_option maxRecDepth 1000000
open Go Go.Conc Go.Proofs
def Pd:nU (Bool×tu) where
 R B u m v:=∃sv wv iv,v= .agg #[.bool u.1,sv,wv,iv]/\uB.R B u.2 m (.agg #[sv,wv,iv])
 mono:=by
  rintro B B' x m v ⟨sv,wv,iv,e,h⟩ k;exact⟨sv,wv,iv,e,uB.mono h k⟩
 ext:=by
  rintro B S x m m' v ⟨sv,wv,iv,e,h⟩ k hs;exact⟨sv,wv,iv,e,uB.ext h k hs⟩
abbrev Wa:=tu×List (Bool×tu)
def pU:nU Wa where
 R B b m v:=∃sv wv iv uv,v= .agg #[sv,wv,iv,uv]/\uB.R B b.1 m (.agg #[sv,wv,iv])/\(aT Pd 4).R B b.2 m uv
 mono:=by
  rintro B B' x m v ⟨sv,wv,iv,uv,e,h,q⟩ k;exact⟨sv,wv,iv,uv,e,uB.mono h k,(aT Pd 4).mono q k⟩
 ext:=by
  rintro B S x m m' v ⟨sv,wv,iv,uv,e,h,q⟩ k hs;exact⟨sv,wv,iv,uv,e,uB.ext h k hs,(aT Pd 4).ext q k hs⟩
end Go.AM
namespace Go.AM
set_option maxRecDepth 1000000
open Go Go.Conc Go.Proofs
theorem ajC (b1 b2 d n rc cn cc:Nat)(ca qa:Option Addr)(a w b u:ae)(bZ:Nat):gN 76 4 10 [1,2,4] [vP b1 0,vP b2 0,vP d 0]
 [.mem (eW 4 b1 2) (.agg #[a,w,b,u]),
  .call 115 [.agg #[a,w,b,u],vP d 0] (.tuple #[.slice qa n rc,vI 0]),
  eE,
  .call 116 [.slice qa n rc,fR] (.tuple #[]),
  dN [some fE,some fE,some fE,some (vI 0)] bZ,
  jK bZ 0 [fE,fE,.slice qa n rc,vI 0],
  .mem (aP b1 1) (.slice ca cn cc)]
 .normal [2,10,46,47,48] [vP b2 0,vP bZ 0,.slice ca cn cc,vI cn,vI 0]:=jz
def sQ (B:Nat->Prop)(gR:List KY)(rows:List (List V))(n:Int)(m:Mem)(v:ae):Prop:=∃nv kv rv,v= .agg #[nv,kv,rv,vI n]/\aaO.R B (gR.map (·.n)) m nv/\aaP.R B (gR.map (·.k)) m kv/\∃BO BE:Nat->Prop,lP bH 1 BO BE m rows rv/\∀b,BO b\/BE b->B b
theorem sQ.ext{B S:Nat->Prop}{gR:List KY}{rows:List (List V)}{n:Int}{m m':Mem}{v:ae}(h:sQ B gR rows n m v)(k:Kp m m' S)(hs:∀b,B b->¬S b):sQ B gR rows n m' v:=by
 obtain⟨nv,kv,p,e,h1,h2,BO,BE,h3,h4⟩:=h;exact⟨nv,kv,p,e,(aT (jq Bz) 1).ext h1 k hs,(aT (jq vI) 1).ext h2 k hs,BO,BE,h3.ext k fun b hb=>hs b (h4 b hb),h4⟩
theorem sQ.mono{B B':Nat->Prop}{gR:List KY}{rows:List (List V)}{n:Int}{m:Mem}{v:ae}(h:sQ B gR rows n m v)(k:∀b,B b->B' b):sQ B' gR rows n m v:=by
 obtain⟨nv,kv,p,e,h1,h2,BO,BE,h3,h4⟩:=h;exact⟨nv,kv,p,e,(aT (jq Bz) 1).mono h1 k,(aT (jq vI) 1).mono h2 k,BO,BE,h3,fun b hb=>k b (h4 b hb)⟩
theorem MW {m:Mem}{d:Nat}(o:Obj m d 0 VI)(hb:m.base<=d):dp m d (fun b=>b=d) [] VI (fun _=>none) none (fun _=>none) none (.slice none 0 0):=by
 refine⟨o,rfl,hb,⟨af rfl,fun j hj=>⟨.slice none 0 0,?_,.inl ⟨rfl,rfl⟩⟩,fun _ _=>rfl,lQ,lQ,⟨.slice none 0 0,rfl,.inl ⟨rfl,rfl⟩⟩,lQ⟩,⟨af rfl,fun j hj=>⟨.slice none 0 0,?_,.inl ⟨rfl,rfl⟩⟩,fun _ _=>rfl,lQ,lQ,⟨.slice none 0 0,rfl,.inl ⟨rfl,rfl⟩⟩,lQ⟩,rfl,⟨[],nj.nil,fun _ _ _ _ e=>(by cases e),rfl⟩,rfl,fun h=>by rcases h with h|h|h|h<;>cases h⟩
 ·obtain rfl|rfl|rfl|rfl:j=0\/j=1\/j=2\/j=3:=aj
  all_goals rfl
 ·obtain rfl|rfl|rfl|rfl:j=0\/j=1\/j=2\/j=3:=aj
  all_goals rfl
section
variable {K:gS}{m:Mem}{B BT:Nat->Prop}{Tb:Nat->Option (List (List V))}
theorem SH (g:Gd m){BO BE:Nat->Prop}{l:List (List V)}{sv:ae}(h:lP bH 1 BO BE m l sv)(hn:l.length<65536)(hs:Ru K l.length)(hl:∀x∈l,x.length<99999)(hB:∀b,BE b->b<m.next):
  ∃m',Ev K 116 [sv,fR] m (.tuple #[]) m'/\Kp m m' BO/\lP bH 1 BO BE m' (Iz l) sv:=by
 obtain⟨p1,p2⟩:=xq l;rcases h with⟨rfl,rfl⟩|⟨b,cs,rest,rfl,⟨hb,JP⟩,hw,ob,gO⟩
 ·exact⟨m,ad2,.refl _ _,.inl ⟨List.perm_nil.1 p1,rfl⟩⟩
 ·obtain⟨d,m1,e1,k1,s1,qC,vH⟩:=aiI (K:=K) (cc:=cD) g ob JP gO hw hn hs hl hB;have he:=BK (qC.trans p1.symm) vH p2;exact⟨m1,e1,k1.mono fun y _ e=>by rw[e];exact hb,.inr ⟨b,d.toList.map (·.1),rest,by rw[p1.length_eq],⟨hb,JP⟩,s1.ow,s1.ob,he▸Sf fun x hx=>(s1.el x hx).1⟩⟩
end
end Go.AM
namespace Go.AM
set_option maxRecDepth 1000000
open Go Go.Conc Go.Proofs
def uN (m:Mem)(db mp:Nat):Prop:=Obj m db 0 [.int .i32 0,.int .u32 0,.map (some mp)]/\m.base<=db
end Go.AM
namespace Go.AM
set_option maxRecDepth 1000000
open Go Go.Conc Go.Proofs
theorem p74 (rn rc b1 d:Nat)(ra:Option Addr)(rv:ae):Path 74 [.slice ra rn rc]
 [dN [some (.slice ra rn rc)] b1,
  dN [some fE,some (vI 0),some fE,some (vI 0),some fE,some (vI 0),some fE,some (vI 0),some fE] d,
  .mem (aP b1 0) (.slice ra rn rc),
  .call 109 [vP d 0,vI rn,.func (.func 110) #[] #[vP b1 0]] (.tuple #[rv,vI 0])]
 (.tuple #[rv,vI 0]):=fB
noncomputable def cv0:Nat->Int->Int->V:=kj (fun _=>none) eU
noncomputable def UE(xs:List X):List V:=(oP cv0 xs []).1
theorem BZ {α β:Type}[Inhabited α]{f:α->β}{l:List α}:∀(n i:Nat) (acc:List β),i+n=l.length->gA (fun k=>[f (l[k]!)]) n i acc=acc++(l.drop i).map f
 |0,i,acc,h=>by
  unfold gA;rw[List.drop_of_length_le aj];simp
 |n+1,i,acc,h=>by
  unfold gA;rw[BZ n (i+1) _ aj,List.drop_eq_getElem_cons (i:=i) aj,getElem!_pos l i aj,List.map_cons,List.append_assoc];rfl
section
variable {K:gS}{m:Mem}{B:Nat->Prop}
theorem SD {m0:Mem}{X:Nat->Prop}{rows:List (List AM.X)}{rl:ae}{t2:Nat}(h1:Obj m0 t2 0 [rl])(h2:(aT (aT nR 1) 1).R B rows m0 rl)(hX:∀b,b=t2\/B b->¬X b/\b<m0.next)(er:∀xs∈rows,(∀x∈xs,Tz cv0 x)/\(oP cv0 xs []).2=0/\xs.length<9000):
  yy KW m0 X 110 #[vP t2 0] bH 1 (fun k=>[UE (rows[k]!)]) rows.length:=by
 refine⟨fun i=>by simp,?_⟩;intro mw BO BE acc sv k hk g hs ls Zd EC ha;have s1:=h1.mo hs (hX _ (.inl rfl)).1;have s2:=aT.g9 (sz:=1) (aT.g9 (sz:=1) nR.g9) _ _ _ _ _ h2 (hs.mono fun b hb=>(hX b (.inr hb)).1);obtain⟨b,c,u,cs,rfl,_,o,hu,hle,hr,ov⟩:=aT.get s2 hk;have Wz:rows[k]∈rows:=List.getElem_mem hk;rw[getElem!_pos rows k hk];obtain⟨a1,a2,a3⟩:=er _ Wz;have e1:aP b (0+k*1) mw=some (u,mw):=by
  rw[Nat.zero_add,Nat.mul_one];rw[Nat.mul_one]at hu;refine aN o ?_;obtain⟨ua,uc,rfl⟩:=aT.form hr;rw[show(ae.slice ua rows[k].length uc).cells.toList=[.slice ua rows[k].length uc]from rfl]at hu;have :=congrArg (·[0]?) hu;simpa using this
 obtain⟨m1,e2,o2,k2,n2,_⟩:=aV g [.int .i32 0,.int .i32 0,.int .i32 0,.int .i32 0,.int .i32 0,.int .i32 0];have g1:=g.ext k2;have hsc:Ay fu (fun _=>none) eU mw.next 0 0 m1:=⟨⟨_,o2,rfl,af rfl⟩,fun p rows h=>by cases h⟩;have Ow:=ls.ext k2 fun _ _ h=>h
 obtain⟨wT,m',Wn,H0,e3,k3,Ua,x1,x2⟩:=aa0 (K:=KW) (LD (BT:=fu) (sz:=0)) g1 hsc Ow (fun b hb=>by have :=(Zd b hb).2;omega) (fun b hb=>by have :=(EC b hb).2;omega) ((aT nR 1).ext hr k2 fun _ _ h=>h) a1 a3 aj a2;exact⟨wT,m',Wn,H0,aJ (ake k t2 b rows.length c mw.next sv wT u) (.mem (aN s1 rfl)<| .idx rfl hk<| .mem e1<| .mem e2<| .call e3 .nil),k2.tA.trans k3 fun _ _ h=>h,Ua,fun b h=> .inr (by have :=x1 b h;exact⟨by have :=this.1;omega,this.2⟩),fun b h=>(x2 b h).imp id fun h=>⟨by have :=h.1;omega,h.2⟩⟩
theorem c74 (hK:AY K)(cm:Calm m){rows:List (List X)}{rv:ae}(q:(aT (aT nR 1) 1).R B rows m rv)(hB:∀b,B b->b<m.next)(er:∀xs∈rows,(∀x∈xs,Tz cv0 x)/\(oP cv0 xs []).2=0/\xs.length<9000)(hn:rows.length<9000):
  ∃SO m',Ev K 74 [rv] m (.tuple #[SO,vI 0]) m'/\Kp m m' fu/\(aT bH 1).R (iS m m') (rows.map UE) m' SO:=by
 obtain⟨ra,rc,rfl⟩:=aT.form q;obtain⟨b1,nD⟩:∃b,b=m.next:=⟨_,rfl⟩;obtain⟨m1,e1,o1,k1,n1,_⟩:=aV cm.gd [.slice ra rows.length rc];rw[<-nD]at e1 o1;have AU:=cm.ext k1;obtain⟨d,hd⟩:∃b,b=m1.next:=⟨_,rfl⟩;obtain⟨m2,e2,o2,k2,n2,_⟩:=aV AU.gd [.slice none 0 0,vI 0,.slice none 0 0,vI 0,.slice none 0 0,vI 0,.slice none 0 0,vI 0,.slice none 0 0];rw[<-hd]at e2 o2;have kg:=k1.aS k2;have Pk:=cm.ext kg;have s9:m2.base<=d:=by
  have h1:=Pk.gd.bf;have h2:=cm.gd.fn;have h3:=kg.floor;have h4:=kg.base;have :=cm.gd.bf;omega
 have alz:km m2 d 0 1 [.slice none 0 0,vI 0,.slice none 0 0,vI 0,.slice none 0 0,vI 0,.slice none 0 0,vI 0,.slice none 0 0] (fun _=>none) none:=by
  refine⟨af rfl,fun j hj=>⟨.slice none 0 0,?_,.inl ⟨rfl,rfl⟩⟩,fun _ _=>rfl,lQ,lQ,⟨.slice none 0 0,rfl,.inl ⟨rfl,rfl⟩⟩,lQ⟩;obtain rfl|rfl|rfl|rfl:j=0\/j=1\/j=2\/j=3:=aj
  all_goals rfl
 have eD:=SD (B:=B) (X:=fun b=>b=d) (o1.aR k2) ((aT (aT nR 1) 1).ext q kg fun _ _ h=>h) (fun b hb=>hb.elim (fun e=>⟨aj,aj⟩) fun h=>by have :=hB b h;exact⟨aj,aj⟩) er;obtain⟨SO,m3,ys,uH,pj,e3,k3,o3,hyl,hyo,H7,am9,WH,hy8,q3,_⟩:=adZ (K:=K) acT (t:=29) (sz:=1) rfl hK eD bH.g9 rfl (fun k b h=>by cases h) Pk o2 s9 alz hn;rw[BZ _ _ _ aj]at q3;have n3:=k3.next;refine⟨SO,m3,aJ (p74 rows.length rc b1 d ra SO) (.mem e1<| .mem e2<| .mem (aN (o1.aR k2) rfl)<| .call e3 .nil),kg.new k3 (N:=m.next) (ai _) fun b hb=>?_,by
  rw[List.drop_zero,List.nil_append]at q3;exact(aT bH 1).mono q3 fun b hb=>⟨by have :=hb.1;omega,hb.2⟩⟩
 rcases hb with h|⟨i,h⟩|h
 ·omega
 ·cases h
 ·cases h
end
end Go.AM
namespace Go.AM
set_option maxRecDepth 1000000
open Go Go.Conc Go.Proofs
def jN (n:Nat):List UInt8:=if h:n<10 then[UInt8.ofNat (48+n)]else jN (n / 10)++[UInt8.ofNat (48+n%10)]
 termination_by n
 decreasing_by omega
theorem Hy {n:Nat}(h:n<10):jN n=[UInt8.ofNat (48+n)]:=by rw[jN,dif_pos h]
theorem Hz {n:Nat}(h:¬n<10):jN n=jN (n / 10)++[UInt8.ofNat (48+n%10)]:=by rw[jN,dif_neg h]
theorem alM {k:Nat}(h:k<10):(UInt8.ofNat (48+k)).toNat=48+k:=by
 rw[UInt8.toNat_ofNat'];omega
end Go.AM
namespace Go.AM
set_option maxRecDepth 1000000
open Go Go.Conc Go.Proofs
theorem aks (a:Int):pu ab [vI a] (Op.unary .neg (vI a))=some (vI (cf.i64.wrap (-a))):=by
 have h:(Op.unary .neg (vI a)).aH ab=some (vI (cf.i64.wrap (0-a))):=rfl;rw[Int.zero_sub]at h;exact zY rfl h rfl
end Go.AM
namespace Go.AM
set_option maxRecDepth 1000000
open Go Go.Conc Go.Proofs
theorem ZC:pu ab [vI 48] (convert 3 5 (vI 48))=some (.int .u8 48):=aY
theorem ZB:pu ab [vI 49] (convert 3 5 (vI 49))=some (.int .u8 49):=aY
theorem ZA:pu ab [vI 50] (convert 3 5 (vI 50))=some (.int .u8 50):=aY
theorem Zz:pu ab [vI 51] (convert 3 5 (vI 51))=some (.int .u8 51):=aY
theorem Zy:pu ab [vI 52] (convert 3 5 (vI 52))=some (.int .u8 52):=aY
theorem Zx:pu ab [vI 53] (convert 3 5 (vI 53))=some (.int .u8 53):=aY
theorem Zw:pu ab [vI 54] (convert 3 5 (vI 54))=some (.int .u8 54):=aY
theorem Zv:pu ab [vI 55] (convert 3 5 (vI 55))=some (.int .u8 55):=aY
theorem Zu:pu ab [vI 56] (convert 3 5 (vI 56))=some (.int .u8 56):=aY
theorem Zt:pu ab [vI 57] (convert 3 5 (vI 57))=some (.int .u8 57):=aY
theorem ain {k:Nat}(hk:k<10):pu ab [vI (48+k:Nat)] (convert 3 5 (vI (48+k:Nat)))=some (.int .u8 (48+k:Nat)):=by
 have h:k=0\/k=1\/k=2\/k=3\/k=4\/k=5\/k=6\/k=7\/k=8\/k=9:=aj;rcases h with rfl|rfl|rfl|rfl|rfl|rfl|rfl|rfl|rfl|rfl
 ·exact ZC
 ·exact ZB
 ·exact ZA
 ·exact Zz
 ·exact Zy
 ·exact Zx
 ·exact Zw
 ·exact Zv
 ·exact Zu
 ·exact Zt
theorem amy {m:Mem}(x:Int):bh ab 72 1 [(0,.int .u8 x)] m=some (vL m.next 0 1 1,m.alloc {kind:=1,sz:=1,cs:=[some (.int .u8 x)]}):=aY
theorem V1 (l r:List UInt8):(⟨l.toArray⟩++⟨r.toArray⟩:ByteArray)=⟨(l++r).toArray⟩:=by
 apply ByteArray.ext;rw[ByteArray.data_append];simp
theorem sK {l r:List UInt8}(h:l.length+r.length<9223372036854775808):vw ⟨l.toArray⟩ ⟨r.toArray⟩=some (.string ⟨(l++r).toArray⟩):=by
 unfold vw;have e1:(⟨l.toArray⟩:ByteArray).size=l.length:=by show l.toArray.size=_;simp
 have e2:(⟨r.toArray⟩:ByteArray).size=r.length:=by show r.toArray.size=_;simp
 rw[e1,e2];have :Nat.blt (l.length+r.length) 9223372036854775808=true:=Nat.ble_eq_true_of_le aj;rw[this,V1]
theorem J9:∀(k n:Nat),n<10^(k+1)->(jN n).length<=k+1
 |0,n,h=>by rw[Hy (by simpa using h)];simp
 |k+1,n,h=>by
  by_cases h1:n<10
  ·rw[Hy h1];simp
  ·rw[Hz h1];have h2:n<10^(k+1)*10:=by rw[<-Nat.pow_succ];exact h
   have :=J9 k (n / 10) aj;simp;omega
theorem MV {n:Nat}(h:n<9223372036854775808):(jN n).length<=19:=J9 18 n (Nat.lt_trans h eS)
section
variable {K:gS}{m:Mem}
theorem aj8 (n:Int)(x1 x2:Int)(bZ:Nat)(s1:ByteArray):Path 16 [vI n]
 [bP (gB n 0) false,
  .val (kK Nat.mod .i64 n 10 (jZ ab .rem 3 false true (vI n) (vI 10))) (vI x1),
  .val (pu ab [vI (fg 48 x1)] (convert 3 5 (vI (fg 48 x1)))) (.int .u8 x2),
  .mem (bh ab 72 1 [(0,(.int .u8 x2))]) (vL bZ 0 1 1),
  .mem (fN ab 72 9 (vL bZ 0 1 1)) (iF s1),
  bP (gB n 10) true]
 (iF s1):=fB
theorem aj7 (n:Int)(x1 x2 x3:Int)(bZ:Nat)(s1 s2:ByteArray):Path 16 [vI n]
 [bP (gB n 0) false,
  .val (kK Nat.mod .i64 n 10 (jZ ab .rem 3 false true (vI n) (vI 10))) (vI x1),
  .val (pu ab [vI (fg 48 x1)] (convert 3 5 (vI (fg 48 x1)))) (.int .u8 x2),
  .mem (bh ab 72 1 [(0,(.int .u8 x2))]) (vL bZ 0 1 1),
  .mem (fN ab 72 9 (vL bZ 0 1 1)) (iF s1),
  bP (gB n 10) false,
  .val (kK Nat.div .i64 n 10 (jZ ab .quo 3 false true (vI n) (vI 10))) (vI x3),
  .call 16 [vI x3] (iF s2),
  .val (vw s2 s1) (iF (s2++s1))]
 (iF (s2++s1)):=fB
theorem aaQ (cy:Bool)(a b:Int)(hb:b≠0):kK Nat.mod .i64 a b (jZ ab .rem 3 false cy (vI a) (vI b))=some (vI (LI a b)):=by
 cases cy with
 |false=>exact VH a b hb
 |true=>rw[(abL false true a b hb).trans (abL false false a b hb).symm];exact VH a b hb
theorem aaR (cy:Bool)(a b:Int)(hb:b≠0):kK Nat.div .i64 a b (jZ ab .quo 3 false cy (vI a) (vI b))=some (vI (yU a b)):=by
 cases cy with
 |false=>exact Q0 a b hb
 |true=>rw[(abO false true a b hb).trans (abO false false a b hb).symm];exact Q0 a b hb
theorem Tc (a:Nat)(b:Nat):LI a b=((a%b:Nat):Int):=rfl
theorem IT {a:Nat}(b:Nat)(ha:a<9223372036854775808):yU a b=((a / b:Nat):Int):=by
 unfold yU;rw[show Int.tdiv a b=((a / b:Nat):Int)from rfl];have :=Nat.div_le_self a b;generalize a / b=q at this;exact r7 ⟨aj,aj⟩
theorem c16 (n:Nat):∀{m:Mem},Gd m->n<9223372036854775808->∃m',Ev K 16 [vI n] m (.string ⟨(jN n).toArray⟩) m'/\Kp m m' fu:=by
 induction n using Nat.strongRecOn with
 |ind n ih=>
  intro m g hn;have b0:(.bool (gB n 0):ae)= .bool false:=by rw[fp,w9 aj]
  have r1:kK Nat.mod .i64 n 10 (jZ ab .rem 3 false true (vI n) (vI 10))=some (vI (n%10:Nat)):=aaQ true n 10 eS;have hk:n%10<10:=Nat.mod_lt _ eS;have a1:fg 48 (n%10:Nat)=((48+n%10:Nat):Int):=by rw[qK ⟨aj,aj⟩];omega
  have r2:pu ab [vI (fg 48 (n%10:Nat))] (convert 3 5 (vI (fg 48 (n%10:Nat))))=some (.int .u8 (48+n%10:Nat)):=by rw[a1];exact ain hk
  obtain⟨o1,k1,n1⟩:=gC g (k:={kind:=1,sz:=1,cs:=[some (.int .u8 (48+n%10:Nat))]}) (cs:=[.int .u8 (48+n%10:Nat)]) (sz:=1) rfl rfl rfl;have e1:=amy (m:=m) ((48+n%10:Nat):Int);generalize m.alloc {kind:=1,sz:=1,cs:=[some (.int .u8 (48+n%10:Nat))]}=m1 at o1 k1 n1 e1;have hb:([.int .u8 (48+n%10:Nat)]:List ae)=wH [UInt8.ofNat (48+n%10)]:=by
   show _=[ae.int .u8 ((UInt8.ofNat (48+n%10)).toNat:Int)]
   rw[alM hk]
  rw[hb]at o1;have e2:fN ab 72 9 (vL m.next 0 1 1) m1=some (.string ⟨#[UInt8.ofNat (48+n%10)]⟩,m1):=St (l:=[UInt8.ofNat (48+n%10)]) o1
  by_cases h:n<10
  ·have b1:(.bool (gB n 10):ae)= .bool true:=by rw[fp,vB aj]
   have hd:jN n=[UInt8.ofNat (48+n%10)]:=by rw[Hy h,Nat.mod_eq_of_lt h]
   rw[hd];exact⟨m1,aJ (aj8 n ..) (.cond b0<| .val r1<| .val r2<| .mem e1<| .mem e2<| .cond b1 .nil),k1⟩
  ·have b1:(.bool (gB n 10):ae)= .bool false:=by rw[fp,w9 aj]
   obtain⟨m2,e3,k2⟩:=ih (n / 10) aj (g.ext k1) aj;have r3:kK Nat.div .i64 n 10 (jZ ab .quo 3 false true (vI n) (vI 10))=some (vI (n / 10:Nat)):=by
    rw[aaR true n 10 eS];have :=IT 10 hn;exact congrArg (fun x=>some (vI x)) this
   have r4:=sK (l:=jN (n / 10)) (r:=[UInt8.ofNat (48+n%10)]) (by have :=MV (n:=n / 10) aj;simp;omega);rw[<-Hz h]at r4;have QO:(⟨(jN (n / 10)).toArray⟩++⟨#[UInt8.ofNat (48+n%10)]⟩:ByteArray)=⟨(jN n).toArray⟩:=by
    rw[Hz h];exact V1 _ [UInt8.ofNat (48+n%10)]
   refine⟨m2,?_,k1.aS k2⟩;have :=aJ (K:=K) (aj7 n (bZ:=m.next) (s1:=⟨#[UInt8.ofNat (48+n%10)]⟩) (s2:=⟨(jN (n / 10)).toArray⟩) ..) (.cond b0<| .val r1<| .val r2<| .mem e1<| .mem e2<| .cond b1<| .val r3<| .call e3<| .val (by rw[QO];exact r4) .nil);rwa[QO]at this
end
end Go.AM
namespace Go.AM
set_option maxRecDepth 1000000
open Go Go.Conc Go.Proofs
def txG:ByteArray:=⟨#[67,82,69,65,84,69,32,84,65,66,76,69,32,103,40,97,32,73,78,84,44,32,98,32,73,78,84,41]⟩
def bE:ByteArray:=⟨#[101]⟩
def bG:ByteArray:=⟨#[103]⟩
def ahe (a b:Nat):List UInt8:=[73,78,83,69,82,84,32,73,78,84,79,32,103,32,86,65,76,85,69,83,32,40]++jN a++[44,32]++jN b++[41]
def AF (s:Nx):tu:=(s.mm.map fun x=>(x.p,x.on),s.wh,s.rU)
def R4 (b:Gc):Wa:=(AF b.first,b.us.map fun u=>(u.all,AF u.SM))
theorem cA.map'{α β:Type}{f:α->β}{Q:α->ae->Prop}{Q':β->ae->Prop}(h:∀x v,Q x v->Q' (f x) v):∀{l:List α}{cs:List ae},cA Q l cs->cA Q' (l.map f) cs
 | [],cs,q=>q
 |x::l,cs,q=>by
  obtain⟨v,r,e,q1,q2⟩:=q;exact⟨v,r,e,h _ _ q1,cA.map' h q2⟩
theorem aT.map'{α β:Type}{E:nU α}{E':nU β}{f:α->β}{sz:Nat}{B:Nat->Prop}{m:Mem}(h:∀x v,E.R B x m v->E'.R B (f x) m v){l:List α}{v:ae}(q:(aT E sz).R B l m v):(aT E' sz).R B (l.map f) m v:=by
 obtain⟨cs,h1,h2,h3⟩:=q;exact⟨cs,by rw[List.length_map];exact h1,h2,h3.map' fun x v w=>⟨h x v w.1,w.2⟩⟩
theorem Ig {B:Nat->Prop}{m:Mem}{s:Nx}{v:ae}(h:me.R B s m v):uB.R B (AF s) m v:=by
 obtain⟨a,w,b,e,h1,h2,h3⟩:=h;exact⟨a,w,b,e,aT.map' (E:=J7) (E':=vM) (fun x v ⟨o,e,h⟩=>⟨o,e,h⟩) h1,h2,h3⟩
theorem EW {B:Nat->Prop}{m:Mem}{s:Gc}{v:ae}(h:jr.R B s m v):pU.R B (R4 s) m v:=by
 obtain⟨a,w,b,u,e,h1,h2⟩:=h;exact⟨a,w,b,u,e,Ig h1,aT.map' (E:=J6) (E':=Pd) (fun x v ⟨a,w,b,e,h⟩=>⟨a,w,b,e,Ig h⟩) h2⟩
def cT (n:Nat):V:=⟨1,(n:Int),.empty,false⟩
def jS (x:Nat×Nat):List V:=[cT x.1,cT x.2]
theorem pH (n:Nat):eF (cT n):=by show(ByteArray.empty).size<_;decide
theorem N7 {α:Type}{st:Nat->List α}{f:Nat->α}:∀(n i:Nat) (acc:List α),(∀k,i<=k->k<i+n->st k=[f k])->gA st n i acc=acc++(List.range' i n).map f
 |0,i,acc,h=>by unfold gA;simp
 |n+1,i,acc,h=>by
  unfold gA;rw[N7 n (i+1) _ (fun k h1 h2=>h k aj aj),h i aj aj,List.range'_succ,List.map_cons,List.append_assoc];rfl
section
variable {Tb:Nat->Option (List (List V))}{p:Nat}{ps:List (Nat×Nat)}
theorem FA {rows:List (List V)}(h:Tb p=some rows):gf Tb [(p,none)] 0 [eU]=(List.range rows.length).map fun k=>eU.set 0 k:=by
 unfold gf gf;rw[h];simp only[Option.getD_some,List.length_singleton,Nat.one_mul];rw[N7 (f:=fun k=>eU.set 0 k) rows.length 0 [] (fun k _ hk=>?_),List.nil_append,List.range_eq_range'];unfold AW;rw[bC (by rfl),Nat.div_eq_of_lt aj,Nat.mod_eq_of_lt aj];rfl
theorem Cz {rU:List X}{R:List (List Nat)}:xO Tb rU R=R.map fun r=>(oP (kj Tb r) rU []).1:=by
 unfold xO;rw[show(fun k=>[(oP (kj Tb (R[k]!)) rU []).1])=fun k=>[(fun r=>(oP (kj Tb r) rU []).1) (R[k]!)]from rfl,BZ (f:=fun r=>(oP (kj Tb r) rU []).1) R.length 0 [] aj];simp
end
theorem ahd (u v:V):UE [.lit u,.lit v]=[u,v]:=by simp[UE,oP,eC]
theorem acW {a b:Nat}{xs:List X}(h:xs=[.lit (cT a),.lit (cT b)]):(∀x∈xs,Tz cv0 x)/\(oP cv0 xs []).2=0/\xs.length<9000:=by
 subst h;refine⟨fun x hx=>?_,by simp[oP,eC],af rfl⟩;rcases aI.1 hx with rfl|hx
 ·exact pH a
 ·rw[List.mem_singleton.1 hx];exact pH b
section
variable {m:Mem}
theorem lP.row{BO BE:Nat->Prop}{l:List (List V)}{sv:ae}(h:lP bH 1 BO BE m l sv){j:Nat}(hj:j<l.length):
  ∃b bx c,sv=vL b 0 l.length cD/\(BO b/\BE bx)/\aP b j m=some (vL bx 0 l[j].length c,m)/\Obj m bx 4 (fC l[j]):=by
 rcases h with⟨rfl,rfl⟩|⟨b,cs,rest,rfl,hb,hw,ob,gO⟩
 ·simp at hj
 ·obtain⟨u,h1,h3,_⟩:=cA.get (Q:=fun x u=>bH.R BE x m u) (sz:=1) gO hj;obtain⟨bx,c,rfl,hbx,ox,_⟩:=h3;have e:cs[j]?=some (vL bx 0 l[j].length c):=by
   rw[Nat.mul_one]at h1;rw[show(vL bx 0 l[j].length c).cells.toList=[vL bx 0 l[j].length c]from rfl]at h1;have :=congrArg (·[0]?) h1;simpa using this
  refine⟨b,bx,c,rfl,⟨hb.1,hbx⟩,aN ob ?_,ox⟩;rw[List.getElem?_append_left (List.getElem?_eq_some_iff.1 e).1];exact e
end
end Go.AM
namespace Go.AM
open Go Go.Conc Go.Proofs
def bL (π:Nat->Nat):Nat->ae->ae
 |0,v=>v
 |n+1,v=>match v with
  | .pointer (some a)=> .pointer (some ⟨π a.block,a.off,a.spot⟩)
  | .slice (some a) l c=> .slice (some ⟨π a.block,a.off,a.spot⟩) l c
  | .map (some r)=> .map (some (π r))
  | .func fn f c=> .func fn (f.toList.map (bL π n)).toArray (c.toList.map (bL π n)).toArray
  | .iface t x=> .iface t (bL π n x)
  | .agg cs=> .agg (cs.toList.map (bL π n)).toArray
  | .tuple cs=> .tuple (cs.toList.map (bL π n)).toArray
  |v=>v
def nz:Nat->ae->Bool
 |0,v=>cR v
 |n+1,v=>match v with
  | .pointer (some _)=>true
  | .slice (some _) _ _=>true
  | .map (some _)=>true
  | .func _ f c=>f.toList.all (nz n)&&c.toList.all (nz n)
  | .iface _ x=>nz n x
  | .agg cs=>cs.toList.all (nz n)
  | .tuple cs=>cs.toList.all (nz n)
  |v=>cR v
theorem so {π:Nat->Nat}{n:Nat}{v:ae}(h:cR v=true):bL π n v=v:=by
 cases n with
 |zero=>rfl
 |succ n=>cases v with
  |pointer a=>cases a<;>first |rfl|cases h
  |slice a l c=>cases a<;>first |rfl|cases h
  |map a=>cases a<;>first |rfl|cases h
  |_=>first |rfl|cases h
theorem rk {ρ:dh}{π:Nat->Nat}{n:Nat}(ih:∀{v w:ae},nz n v=true->(aQ ρ (bL π n v) w↔aQ (fun b=>ρ (π b)) v w)):∀{l r:List ae},l.all (nz n)=true->(bB (aQ ρ) (l.map (bL π n)) r↔bB (aQ fun b=>ρ (π b)) l r)
 | [],r,_=>by cases r<;>exact Iff.rfl
 |a::l,[],_=>Iff.rfl
 |a::l,b::r,h=>by
  simp only[List.all_cons,ag]at h;exact and_congr (ih h.1) (rk ih h.2)
theorem q8 {ρ:dh}{π:Nat->Nat}:∀{n:Nat}{v w:ae},nz n v=true->(aQ ρ (bL π n v) w↔aQ (fun b=>ρ (π b)) v w):=by
 intro n
 induction n with
 |zero=>intro v w h;exact(aF h).trans (aF h).symm
 |succ n ih=>
  intro v w h;cases v with
  |pointer a=>cases a with
   |none=>exact(aF rfl).trans (aF rfl).symm
   |some a=>exact(cL (a:=⟨π a.block,a.off,a.spot⟩)).trans (cL (ρ:=fun b=>ρ (π b)) (a:=a)).symm
  |slice a l c=>cases a with
   |none=>exact(aF rfl).trans (aF rfl).symm
   |some a=>exact(bV (a:=⟨π a.block,a.off,a.spot⟩)).trans (bV (ρ:=fun b=>ρ (π b)) (a:=a)).symm
  |map r=>cases r with
   |none=>exact(aF rfl).trans (aF rfl).symm
   |some r=>exact(gV (r:=π r)).trans (gV (ρ:=fun b=>ρ (π b)) (r:=r)).symm
  |func fn f c=>
   have h:(f.toList.all (nz n)&&c.toList.all (nz n))=true:=h;rw[ag]at h;refine Iff.trans fP (Iff.trans ?_ fP.symm);exact exists_congr fun f'=>exists_congr fun c'=>and_congr_right fun _=>and_congr (rk ih h.1) (rk ih h.2)
  |iface t x=>exact fQ.trans ((exists_congr fun x'=>and_congr_right fun _=>ih h).trans fQ.symm)
  |agg cs=>exact gW.trans ((exists_congr fun x'=>and_congr_right fun _=>rk ih h).trans gW.symm)
  |tuple cs=>exact dU.trans ((exists_congr fun x'=>and_congr_right fun _=>rk ih h).trans dU.symm)
  |_=>first |exact(aF (by exact h)).trans (aF (by exact h)).symm|cases h
def Ta (π:Nat->Nat)(x:Option ae):Option ae:=match x with |some v=>some (bL π 20 v)|none=>none
def abK (π:Nat->Nat)(e:MapEntry):MapEntry:={e with key:=bL π 20 e.key,val:=bL π 20 e.val}
def mE (π:Nat->Nat)(k:dJ):dJ:={k with cs:=k.cs.map (Ta π),es:=(k.es.toList.map (abK π)).toArray}
def okC (x:Option ae):Bool:=match x with |some v=>nz 20 v|none=>false
def okE (e:MapEntry):Bool:=nz 20 e.key&&nz 20 e.val
def okB (k:dJ):Bool:=k.cs.all okC&&k.es.toList.all okE
theorem C8 {ρ:dh}{π:Nat->Nat}:∀{l es:List MapEntry},l.all okE=true->(bB (vz ρ) (l.map (abK π)) es↔bB (vz fun b=>ρ (π b)) l es)
 | [],r,_=>by cases r<;>exact Iff.rfl
 |a::l,[],_=>Iff.rfl
 |a::l,b::r,h=>by
  simp only[List.all_cons,ag]at h;have h1:=h.1;unfold okE at h1;rw[ag]at h1;exact and_congr (and_congr (q8 h1.1) (and_congr (q8 h1.2) Iff.rfl)) (C8 h.2)
structure vx (π:Nat->Nat)(k k':dJ):Prop where
 kind:k'.kind=k.kind
 cells:k.kind=1->k'.sz=k.sz/\k'.cs=k.cs.map (Ta π)
 map:k.kind=2->k'.es.toList=k.es.toList.map (abK π)/\k'.clock=k.clock
 iter:k.kind=3->k'.pos=k.pos/\k'.str=k.str
structure nS (G:Nat)(mi m:Mem)(π:Nat->Nat):Prop where
 wf:Wf mi
 fi:mi.floor=mi.base
 hnI:mi.home<=mi.next
 fm:m.floor=m.base
 hn:m.home<=m.next
 Y1:mi.bl=[]
 bl:m.bl=[]
 acr:mi.opn=[]
 opn:m.opn=[]
 wgI:mi.wg=none
 wg:m.wg=none
 aag:mi.pend=[]
 pend:m.pend=[]
 aij:mi.deaf=0
 deaf:m.deaf=0
 gl:∀b,b<G->π b=b
 lt:∀b,b<mi.next->π b<m.next
 ge:∀b,mi.next<=b->π b=m.next+(b-mi.next)
 inj:∀b b',(mi.blk b).kind≠0->(mi.blk b').kind≠0->π b=π b'->b=b'
 same:∀b,(mi.blk b).kind≠0->vx π (mi.blk b) (m.blk (π b))
 okb:∀b,okB (mi.blk b)=true
 pos:∀b,(mi.blk b).kind=1->(mi.blk b).pos=1->(m.blk (π b)).pos=1
 base:∀b,(mi.blk b).kind≠0->(mi.base<=b↔m.base<=π b)
 home:∀b,(mi.blk b).kind≠0->(mi.home<=b↔m.home<=π b)
 low:∀b,b<m.home->(m.blk b).kind<=1
def Az (mi:Mem)(π:Nat->Nat)(y:Nat):Prop:=∀b,(mi.blk b).kind≠0->π b≠y
def zV (ρ:dh)(mi m:Mem)(π:Nat->Nat)(E:Perm):Perm where
 rd c x:=(∃b p,ρ b=some p/\Az mi π b/\p.c=c/\p.d<=x/\x<p.d+p.room/\m.nK b (x-p.d))\/E.rd c x
 wr c x:=(∃b p,ρ b=some p/\Az mi π b/\p.c=c/\p.d<=x/\x<p.d+p.room/\m.okW b (x-p.d))\/E.wr c x
 ob c:=(∃b p,ρ b=some p/\Az mi π b/\p.c=c/\((m.blk b).kind=2\/(m.blk b).kind=3)/\m.bg b=true)\/E.ob c
 deaf:=E.deaf
theorem j2 {m:Mem}(h:m.bl=[]){b o:Nat}:m.nK b o↔(m.blk b).kind=1/\(o<(m.blk b).cs.length->∃v,(m.blk b).cs[o]?=some (some v)):=by
 unfold Mem.nK;rw[h];exact⟨fun h=>⟨h.1,h.2.2⟩,fun h=>⟨h.1,rfl,h.2⟩⟩
theorem l7 {m:Mem}(h:m.opn=[]){b o:Nat}:m.okW b o↔m.nK b o/\m.floor<=b:=by
 unfold Mem.okW;rw[h];exact⟨fun h=>⟨h.1,h.2.resolve_right lQ⟩,fun h=>⟨h.1,.inl h.2⟩⟩
theorem Oe {π:Nat->Nat}{m m':Mem}{b b' o:Nat}(hh:m.bl=[])(U6:m'.bl=[])(s:vx π (m.blk b) (m'.blk b')):m.nK b o↔m'.nK b' o:=by
 rw[j2 hh,j2 U6,s.kind];refine and_congr_right fun hk=>?_
 rw[(s.cells hk).2,List.length_map,List.getElem?_map];refine imp_congr_right fun ho=>?_
 rw[List.getElem?_eq_getElem ho];cases(m.blk b).cs[o]with
 |none=>exact⟨fun⟨v,h⟩=>(by cases h),fun⟨v,h⟩=>(by cases h)⟩
 |some v=>exact⟨fun _=>⟨_,rfl⟩,fun _=>⟨_,rfl⟩⟩
section
variable {P:aD}{G:Nat}{E:Perm}{bq w:au}{ρ:dh}{mi m:Mem}{π:Nat->Nat}
theorem nS.nK(h:nS G mi m π){b o:Nat}(hk:(mi.blk b).kind≠0):mi.nK b o↔m.nK (π b) o:=Oe h.Y1 h.bl (h.same b hk)
theorem nS.okW(h:nS G mi m π){b o:Nat}(hk:(mi.blk b).kind≠0):mi.okW b o↔m.okW (π b) o:=by
 rw[l7 h.acr,l7 h.opn,h.fi,h.fm];exact and_congr (h.nK hk) (h.base b hk)
theorem nS.own(h:nS G mi m π){b:Nat}(hk:(mi.blk b).kind≠0):mi.bg b=true↔m.bg (π b)=true:=by
 rw[z6 h.Y1,z6 h.bl];exact h.home b hk
theorem QE (h:nS P.globals.size mi m π)(H:cU P E bq .idle ρ m w):cU P (zV ρ mi m π E) w .idle (fun b=>ρ (π b)) mi w:=by
 have hs:=H.jY;have kn:∀{b o},mi.nK b o->(mi.blk b).kind≠0:=fun k=>by rw[((j2 h.Y1).1 k).1];decide
 have abu:∀{b b' c x:Nat}{p p':Pl},b≠b'->ρ b=some p->ρ b'=some p'->p.c=c->p'.c=c->p.d<=x->x<p.d+p.room->p'.d<=x->x<p'.d+p'.room->(m.blk b).kind=1->(m.blk b').kind=1->False:=
  fun dH h1 h2 e1 e2 r1 r2 r3 r4 k1 k2=>by
   have :=(hs.sep _ _ _ _ dH h1 h2 (by rw[k1];simp) (by rw[k2];simp) (e1.trans e2.symm)).2.2;omega
 refine⟨⟨fun b p hp=>?_,fun b p hp hk=>?_,fun b p o v hp hc=>?_,fun b p o hp ho hk hb=>?_,fun b p hp hk ho=>?_,fun b p hp hk ho=>?_,
  fun b b' p p' dH hp dy hk gm hc=>?_,fun b p hp=>hs.rG (π b) p hp,fun b p hp hk iL=>?_⟩,bj.refl _ _,⟨fun c x he=>⟨?_,?_⟩,fun c he=>⟨?_,?_,?_⟩,fun c x he=>?_⟩,fun g hg=>?_,⟨h.wgI,h.aag,h.hnI⟩,h.wf,fun b p x hp hb h1 h2 h3 he=>?_,fun c x he hr=>?_⟩
 ·rcases Nat.lt_or_ge b mi.next with h1|h1
  ·exact h1
  ·have :=hs.mz (π b) p hp;have :=h.ge b h1;omega
 ·have CH:(mi.blk b).kind≠0:=by rw[hk];decide
  have s:=h.same b CH;obtain⟨a1,a2,a3⟩:=hs.cells (π b) p hp (s.kind.trans hk);rw[(s.cells hk).2,List.length_map]at a2;exact⟨a1.trans (s.cells hk).1,a2,a3⟩
 ·obtain⟨c1,c2,c3⟩:=rO hc;have s:=h.same b (by rw[c1];decide);have lF:m.cell (π b) o=some (bL π 20 v):=sJ (s.kind.trans c1) (by rw[h.bl];rfl) (by rw[(s.cells c1).2,List.getElem?_map,c3];rfl);obtain⟨v',e1,e2⟩:=hs.lj (π b) p o _ hp lF;have hb:=h.okb b;unfold okB at hb;rw[ag]at hb;have hv:=aB.1 hb.1 _ (List.mem_of_getElem? c3);exact⟨v',e1,(q8 hv).1 e2⟩
 ·have CH:(mi.blk b).kind≠0:=by rw[hk];decide
  exact hs.thaw (π b) p o hp ho ((h.same b CH).kind.trans hk) ((h.base b CH).1 hb)
 ·have CH:(mi.blk b).kind≠0:=by rw[hk];decide
  have s:=h.same b CH;obtain⟨jD,a1,a2⟩:=hs.maps (π b) p hp (s.kind.trans hk) ((h.own CH).1 ho);rw[(s.map hk).2]at a1;rw[(s.map hk).1]at a2;have hb:=h.okb b;unfold okB at hb;rw[ag]at hb;exact⟨jD,a1,(C8 hb.2).1 a2⟩
 ·have CH:(mi.blk b).kind≠0:=by rw[hk];decide
  have s:=h.same b CH;obtain⟨a1,a2⟩:=hs.lD (π b) p hp (s.kind.trans hk) ((h.own CH).1 ho);rw[(s.iter hk).1,(s.iter hk).2]at a2;exact⟨a1,a2⟩
 ·have s:=(h.same b hk).kind;have s':=(h.same b' gm).kind;have :=hs.sep (π b) (π b') p p' (fun e=>dH (h.inj b b' hk gm e)) hp dy (by rw[s];exact hk) (by rw[s'];exact gm) hc;rw[s,s']at this;exact this
 ·have CH:(mi.blk b).kind≠0:=by rw[hk];decide
  exact hs.vars (π b) p hp ((h.same b CH).kind.trans hk) (h.pos b hk iL)
 ·rcases he with⟨b,p,h1,_,rfl,_⟩|he
  ·exact hs.rG b p h1
  ·exact(H.apart.cell c x he).1
 ·rintro⟨b',p',f1,f2,f3,f4,f5⟩;have hk:=kn ((l7 h.acr).1 f5).1;have f5':=(h.okW hk).1 f5;rcases he with⟨b,p,h1,h0,h2,h3,h4,h5⟩|he
  ·exact abu (fun e=>h0 b' hk e.symm) h1 f1 h2 f2 h3 h4 f3 f4 ((j2 h.bl).1 h5).1 ((j2 h.bl).1 ((l7 h.opn).1 f5').1).1
  ·exact(H.apart.cell c x he).2 ⟨π b',p',f1,f2,f3,f4,f5'⟩
 ·rcases he with⟨b,p,h1,_,rfl,_⟩|he
  ·exact hs.rG b p h1
  ·exact(H.apart.obj c he).1
 ·rintro⟨b',p',f1,f2,f3,f4⟩;have hk:(mi.blk b').kind≠0:=aj;have WJ:(m.blk (π b')).kind=2\/(m.blk (π b')).kind=3:=by rw[(h.same b' hk).kind];exact f3
  rcases he with⟨b,p,h1,h0,h2,h3,h4⟩|he
  ·have :=hs.sep b (π b') p p' (fun e=>h0 b' hk e.symm) h1 f1 aj aj (h2.trans f2.symm);omega
  ·exact(H.apart.obj c he).2.1 ⟨π b',p',f1,f2,WJ,(h.own hk).1 f4⟩
 ·rcases he with⟨b,p,h1,_,h2,h3,h4⟩|he
  ·exact(hs.low.ob c ⟨b,p,h1,h2,h3,h4⟩).2
  ·exact(H.apart.obj c he).2.2
 ·rcases he with⟨b,p,h1,h0,h2,h3,h4,h5⟩|he
  ·exact .inl ⟨b,p,h1,h0,h2,h3,h4,h5.1⟩
  ·exact .inr (H.apart.wf c x he)
 ·obtain⟨p,h1,h2⟩:=H.oj g hg;exact⟨p,by show ρ (π g)=some p;rw[h.gl g hg];exact h1,h2⟩
 ·have hk:=kn h3;have h3':=(h.nK hk).1 h3;rcases he with⟨b',p',f1,f0,f2,f3,f4,f5⟩|he
  ·exact abu (fun e=>f0 b hk e) hp f1 rfl f2 h1 h2 f3 f4 ((j2 h.bl).1 h3').1 ((j2 h.bl).1 f5).1
  ·exact H.Nq (π b) p x hp ((h.base b hk).1 hb) h1 h2 h3' he
 ·obtain⟨b',p',f1,f2,f3,f4,f5⟩:=hr;have hk:=kn f5;have f5':=(h.nK hk).1 f5;rcases he with⟨b,p,h1,h0,h2,h3,h4,h5⟩|he
  ·exact abu (fun e=>h0 b' hk e.symm) h1 f1 h2 f2 h3 h4 f3 f4 ((j2 h.bl).1 ((l7 h.opn).1 h5).1).1 ((j2 h.bl).1 f5').1
  ·exact H.ew c x he ⟨π b',p',f1,f2,f3,f4,f5'⟩
end
end Go.AM
namespace Go.AM
open Go Go.Conc Go.Proofs
def jo (π:Nat->Nat)(mi m:Mem)(L:List (Nat×dJ))(nx:Nat):Mem:=Eu m (L.map fun x=>(π x.1,mE π x.2)) (m.next+(nx-mi.next))
structure Nu (mi mq:Mem)(L:List (Nat×dJ))(nx:Nat):Prop where
 base:mq.base=mi.base
 home:mq.home=mi.home
 floor:mq.floor=mi.floor
 bl:mq.bl=[]
 opn:mq.opn=[]
 wg:mq.wg=none
 deaf:mq.deaf=0
 ai8:∀b,(mi.blk b).kind≠0->(∃k,(b,k)∈L)\/iQ (mq.blk b) (mi.blk b)
 next:mq.next<=nx
 nx0:mi.next<=nx
 new:∀x∈L,(mi.next<=x.1\/(mi.blk x.1).kind≠0/\x.2.kind=(mi.blk x.1).kind)/\x.1<nx/\iQ x.2 (mq.blk x.1)/\x.2.live/\okB x.2=true
def Eh (ρ yG:dh)(m:Mem)(N:Nat):dh:=fun y=>if y<m.next then ρ y else yG (N+(y-m.next))
section
variable {P:aD}{G:Nat}{E:Perm}{bq w w':au}{ρ yG:dh}{mi m mq:Mem}{π:Nat->Nat}{L:List (Nat×dJ)}{nx:Nat}
theorem N1 (h:nS G mi m π)(hold:∀b,b<mi.next->yG b=ρ (π b))(b:Nat):Eh ρ yG m mi.next (π b)=yG b:=by
 unfold Eh;rcases Nat.lt_or_ge b mi.next with hb|hb
 ·rw[bC (h.lt b hb),hold b hb]
 ·have :=h.ge b hb;rw[bS aj]
  congr 1
  omega
theorem IB {π:Nat->Nat}{k k' k'':dJ}(h:iQ k k')(s:vx π k' k''):vx π k k'':=by
 obtain⟨h1,h2,h3,h4,h5,h6,h7⟩:=h;refine⟨s.kind.trans h1.symm,fun hk=>?_,fun hk=>?_,fun hk=>?_⟩
 ·rw[h1]at hk;rw[h2,h4];exact s.cells hk
 ·rw[h1]at hk;rw[h5,h6];exact s.map hk
 ·rw[h1]at hk;rw[h3,h7];exact s.iter hk
theorem Xf {π:Nat->Nat}{k:dJ}{t:Nat}:vx π k {mE π k with aZ:=t}:=⟨rfl,fun _=>⟨rfl,rfl⟩,fun _=>⟨rfl,rfl⟩,fun _=>⟨rfl,rfl⟩⟩
theorem Fy (h:nS G mi m π)(hw:Wf m)(q:Nu mi mq L nx){y:Nat}(hk:((jo π mi m L nx).blk y).kind≠0):
  (∃b,y=π b/\vx π (mq.blk b) ((jo π mi m L nx).blk y)/\okB (mq.blk b)=true/\(mi.next<=b\/(mi.blk b).kind≠0/\(mq.blk b).kind=(mi.blk b).kind)/\(((jo π mi m L nx).blk y).pos=(mq.blk b).pos\/(jo π mi m L nx).blk y=m.blk y/\b<mi.next))\/((jo π mi m L nx).blk y=m.blk y/\Az mi π y/\y<m.next):=by
 rcases fZ (m:=m) (L:=L.map fun x=>(π x.1,mE π x.2)) (nx:=m.next+(nx-mi.next)) y with⟨e,hn⟩|⟨k,hm,e⟩
 ·have e:(jo π mi m L nx).blk y=m.blk y:=e;have hy:y<m.next:=by
   rcases Nat.lt_or_ge y m.next with hy|hy
   ·exact hy
   ·rw[e,hw.x8 y hy]at hk;exact absurd rfl hk
  by_cases hi:∃b,(mi.blk b).kind≠0/\π b=y
  ·obtain⟨b,hb,rfl⟩:=hi;have Zb:b<mi.next:=by
    rcases Nat.lt_or_ge b mi.next with h1|h1
    ·exact h1
    ·exact absurd (h.wf.x8 b h1) hb
   rcases q.ai8 b hb with⟨k,hkL⟩|hs
   ·exact absurd rfl (hn (π b,mE π k) (List.mem_map.2 ⟨(b,k),hkL,rfl⟩))
   ·refine .inl ⟨b,rfl,?_,?_,.inr ⟨hb,hs.1⟩,.inr ⟨e,Zb⟩⟩
    ·rw[e];exact IB hs (h.same b hb)
    ·have :=h.okb b;unfold okB at this⊢;rw[hs.2.2.2.1,hs.2.2.2.2.1];exact this
  ·exact .inr ⟨e,fun b hb he=>hi ⟨b,hb,he⟩,hy⟩
 ·obtain⟨x,hx,ex⟩:=List.mem_map.1 hm;cases ex;obtain⟨n1,n2,n3,n4,n5⟩:=q.new x hx;have e:(jo π mi m L nx).blk (π x.1)={mE π x.2 with aZ:=m.tick}:=e;refine .inl ⟨x.1,rfl,?_,?_,n1.imp id fun n=>⟨n.1,n3.1.symm.trans n.2⟩,.inl ?_⟩
  ·rw[e];obtain⟨h1,h2,h3,h4,h5,h6,h7⟩:=n3;exact IB ⟨h1.symm,h2.symm,h3.symm,h4.symm,h5.symm,h6.symm,h7.symm⟩ Xf
  ·unfold okB at n5⊢;rw[<-n3.2.2.2.1,<-n3.2.2.2.2.1];exact n5
  ·rw[e];exact n3.2.2.1
theorem Mk (h:nS P.globals.size mi m π)(H:cU P E bq .idle ρ m w)(Hq:cU P (zV ρ mi m π E) w .idle yG mq w')(hle:dh.le (fun b=>ρ (π b)) yG)(hold:∀b,b<mi.next->yG b=ρ (π b))(q:Nu mi mq L nx):
  cU P E bq .idle (Eh ρ yG m mi.next) (jo π mi m L nx) w'/\jF ((az (Eh ρ yG m mi.next) (jo π mi m L nx)).or E) ((az yG mq).or (zV ρ mi m π E)):=by
 have hs:=H.jY;have sq:=Hq.jY;have K:=Hq.rest;have KE:bj E w w':=K.sub (fun _ _=> .inr) fun _=> .inr
 obtain⟨M,hM⟩:∃M,M=jo π mi m L nx:=⟨_,rfl⟩;obtain⟨U,hU⟩:∃U,U=Eh ρ yG m mi.next:=⟨_,rfl⟩;have KF:∀b,U (π b)=yG b:=fun b=>by rw[hU];exact N1 h hold b
 have aeX:(fun b=>U (π b))=yG:=funext KF;have tI:∀{y},y<m.next->U y=ρ y:=fun hy=>by rw[hU];exact bC hy
 have ule:ρ.le U:=fun b p hp=>by rw[tI (hs.mz b p hp)];exact hp
 have src:=fun{y:Nat} (hk:(M.blk y).kind≠0)=>by
  have :=Fy (y:=y) h H.wf q (by rw[<-hM];exact hk);rw[<-hM]at this;exact this
 have Rv:M.bl=[]:=by rw[hM];exact h.bl
 have aez:M.opn=[]:=by rw[hM];exact h.opn
 have PD:M.base=m.base:=by rw[hM];rfl
 have Wi:M.home=m.home:=by rw[hM];rfl
 have Mfl:M.floor=m.floor:=by rw[hM];rfl
 have PC:M.next=m.next+(nx-mi.next):=by rw[hM];rfl
 rw[<-hM,<-hU];have bn:mi.base<=mi.next:=by have :=h.wf.fl;rw[h.fi]at this;exact this
 have bm:m.base<=m.next:=by have :=H.wf.fl;rw[h.fm]at this;exact this
 have Ti:∀{b},(mi.next<=b\/(mi.blk b).kind≠0/\(mq.blk b).kind=(mi.blk b).kind)->(mq.base<=b↔m.base<=π b):=fun{b} hb=>by
  rw[q.base];rcases hb with hb|hb
  ·have :=h.ge b hb
   constructor<;>intro _<;>omega
  ·exact h.base b hb.1
 have Tg:∀{b},(mi.next<=b\/(mi.blk b).kind≠0/\(mq.blk b).kind=(mi.blk b).kind)->(mq.bg b=true↔M.bg (π b)=true):=fun{b} hb=>by
  rw[z6 q.bl,z6 Rv,q.home,Wi];rcases hb with hb|hb
  ·have :=h.ge b hb;have :=h.hnI;have :=h.hn
   constructor<;>intro _<;>omega
  ·exact h.home b hb.1
 have qR:∀{b y o},vx π (mq.blk b) (M.blk y)->(mq.nK b o↔M.nK y o):=fun s=>Oe q.bl Rv s
 have qW:∀{b o},vx π (mq.blk b) (M.blk (π b))->(mi.next<=b\/(mi.blk b).kind≠0/\(mq.blk b).kind=(mi.blk b).kind)->(mq.okW b o↔M.okW (π b) o):=fun s hb=>by
  rw[l7 q.opn,l7 aez,q.floor,h.fi,<-q.base,Mfl,h.fm];exact and_congr (qR s) (Ti hb)
 have mR:∀{y o},M.blk y=m.blk y->(M.nK y o↔m.nK y o):=fun e=>by rw[j2 Rv,j2 h.bl,e]
 have mW:∀{y o},M.blk y=m.blk y->(M.okW y o↔m.okW y o):=fun e=>by rw[l7 aez,l7 h.opn,Mfl,mR e]
 have mO:∀y,(M.bg y=true↔m.bg y=true):=fun y=>by rw[z6 Rv,z6 h.bl,Wi]
 have kR:∀{y o},M.nK y o->(M.blk y).kind≠0:=fun k=>by rw[((j2 Rv).1 k).1];decide
 have rrd:∀{b p x},ρ b=some p->Az mi π b->p.d<=x->x<p.d+p.room->m.nK b (x-p.d)->(zV ρ mi m π E).rd p.c x:=fun h1 h2 h3 h4 h5=> .inl ⟨_,_,h1,h2,rfl,h3,h4,h5⟩
 have RI:∀c x,(az U M).rd c x->(az yG mq).rd c x\/(zV ρ mi m π E).rd c x:=by
  rintro c x ⟨y,p,h1,h2,h3,h4,h5⟩;rcases src (kR h5)with⟨b,rfl,s,_⟩|⟨e,h0,hy⟩
  ·exact .inl ⟨b,p,by rw[<-KF];exact h1,h2,h3,h4,(qR s).2 h5⟩
  ·exact .inr (.inl ⟨y,p,by rw[<-tI hy];exact h1,h0,h2,h3,h4,(mR e).1 h5⟩)
 have uj:∀c x,(az U M).wr c x->(az yG mq).wr c x\/∃b p,ρ b=some p/\Az mi π b/\p.c=c/\p.d<=x/\x<p.d+p.room/\m.okW b (x-p.d):=by
  rintro c x ⟨y,p,h1,h2,h3,h4,h5⟩;rcases src (kR ((l7 aez).1 h5).1)with⟨b,rfl,s,_,hb,_⟩|⟨e,h0,hy⟩
  ·exact .inl ⟨b,p,by rw[<-KF];exact h1,h2,h3,h4,(qW s hb).2 h5⟩
  ·exact .inr ⟨y,p,by rw[<-tI hy];exact h1,h0,h2,h3,h4,(mW e).1 h5⟩
 have yE:∀c,(az U M).ob c->(az yG mq).ob c\/∃b p,ρ b=some p/\Az mi π b/\p.c=c/\((m.blk b).kind=2\/(m.blk b).kind=3)/\m.bg b=true:=by
  rintro c ⟨y,p,h1,h2,h3,h4⟩;rcases src (y:=y) aj with⟨b,rfl,s,_,hb,_⟩|⟨e,h0,hy⟩
  ·exact .inl ⟨b,p,by rw[<-KF];exact h1,h2,by rw[<-s.kind];exact h3,(Tg hb).2 h4⟩
  ·exact .inr ⟨y,p,by rw[<-tI hy];exact h1,h0,h2,by rw[<-e];exact h3,(mO y).1 h4⟩
 have Ka:∀{b y' p p'},yG b=some p->U y'=some p'->vx π (mq.blk b) (M.blk (π b))->(mi.next<=b\/(mi.blk b).kind≠0/\(mq.blk b).kind=(mi.blk b).kind)->M.blk y'=m.blk y'->Az mi π y'->y'<m.next->
   (M.blk (π b)).kind≠0->(m.blk y').kind≠0->p.c=p'.c->(M.blk (π b)).kind=1/\(m.blk y').kind=1/\(p.room=0\/p'.room=0\/p.d+p.room<=p'.d\/p'.d+p'.room<=p.d):=by
  intro b y' p p' hp dy s hb e h0 DT hk gm hc;rw[tI DT]at dy;rcases hb with hb|⟨hi,OV⟩
  ·have k3:=(Hq.wf.live b).2;have k3':=(H.wf.live y').2;rw[<-s.kind]at k3;have fl:mq.floor<=b:=by rw[q.floor];have :=h.wf.fl;omega
   have oq:mq.bg b=true:=(z6 q.bl b).2 (by rw[q.home];have :=h.hnI;omega);have alive:∀{k:dJ},k.live->∀o,o<k.cs.length->∃v,k.cs[o]?=some (some v):=fun{k} hk o ho=>by
    have h1:=List.getElem?_eq_getElem ho;cases hv:k.cs[o]with
    |none=>exact absurd hv (hk.1 _ (List.getElem_mem ho))
    |some v=>exact⟨v,by rw[h1,hv]⟩
   have shk:(M.blk (π b)).kind=1->∃y,w'.shape? p.c=some y:=fun h=>by
    obtain⟨_,_,e,n,h,_⟩:=sq.cells b p hp (by rw[<-s.kind];exact h);exact⟨_,h⟩
   have abr:(m.blk y').kind=1->∃y,w'.shape? p'.c=some y:=fun h=>by
    obtain⟨_,_,e,n,h,_⟩:=hs.cells y' p' dy h;exact⟨_,by rw[K.shape _ (hs.rG y' p' dy)];exact h⟩
   have ob':(m.blk y').kind=2\/(m.blk y').kind=3->(zV ρ mi m π E).ob p'.c:=fun FE=> .inl ⟨y',p',dy,h0,rfl,FE,(z6 h.bl y').2 (by
    by_cases cC:y'<m.home
    ·have :=h.low y' cC;omega
    ·omega)⟩
   by_cases e1:(M.blk (π b)).kind=1
   ·by_cases e2:(m.blk y').kind=1
    ·refine⟨e1,e2,Classical.byContradiction fun hn=>?_⟩;have hy1:(az yG mq).wr p.c (max p.d p'.d):=
      ⟨b,p,hp,rfl,aj,aj,⟨by rw[<-s.kind];exact e1,by rw[q.bl];rfl,alive (Hq.wf.live b) _⟩,.inl fl⟩
     have hy2:(zV ρ mi m π E).rd p.c (max p.d p'.d):=by
      rw[hc];exact rrd dy h0 aj aj ⟨e2,by rw[h.bl];rfl,alive (H.wf.live y') _⟩
     exact(Hq.apart.cell _ _ hy2).2 hy1
    ·exfalso
     obtain⟨y,hy⟩:=shk e1;have :=(Hq.apart.obj _ (ob' aj)).2.2;rw[<-hc,hy]at this;cases this
   ·exfalso
    have o1:(az yG mq).ob p.c:=⟨b,p,hp,rfl,by rw[<-s.kind];omega,oq⟩
    by_cases e2:(m.blk y').kind=1
    ·obtain⟨y,hy⟩:=abr e2;have :=(sq.low.ob _ o1).2;rw[hc,hy]at this;cases this
    ·have :=(Hq.apart.obj _ (ob' aj)).2.1;rw[<-hc]at this;exact this o1
  ·have Zb:b<mi.next:=by
    rcases Nat.lt_or_ge b mi.next with h1|h1
    ·exact h1
    ·exact absurd (h.wf.x8 b h1) hi
   have e1:(M.blk (π b)).kind=(m.blk (π b)).kind:=s.kind.trans (OV.trans (h.same b hi).kind.symm);rw[e1]at hk⊢;rw[hold b Zb]at hp;exact hs.sep (π b) y' p p' (h0 b hi) hp dy hk gm hc
 refine⟨⟨⟨fun y p hp=>?_,fun y p hp hk=>?_,fun y p o v hp hc=>?_,fun y p o hp ho hk hb=>?_,fun y p hp hk ho=>?_,fun y p hp hk ho=>?_,
  fun y y' p p' dH hp dy hk gm hc=>?_,fun y p hp=>?_,fun y p hp hk iL=>?_⟩,H.rest.trans KE,⟨fun c x he=>⟨aW (H.apart.cell c x he).1 K.size,fun hx=>?_⟩,fun c he=>⟨aW (H.apart.obj c he).1 K.size,fun hx=>?_,?_⟩,H.apart.wf⟩,
  fun g hg=>let⟨p,a,b⟩:=H.oj g hg;⟨p,ule _ _ a,b⟩,⟨by rw[hM];exact h.wg,by rw[hM];exact h.pend,?_⟩,?_,fun y p x hp hb h1 h2 h3 he=>?_,fun c x he hr=>?_⟩,⟨fun c x hx=>?_,fun c x hx=>?_,fun c hx=>?_⟩⟩
 ·rw[PC];rcases Nat.lt_or_ge y m.next with hy|hy
  ·omega
  ·rw[hU]at hp;unfold Eh at hp;rw[bS aj]at hp;have :=sq.mz _ p hp;have :=q.next;omega
 ·rcases src (y:=y) (by rw[hk];decide)with⟨b,rfl,s,_⟩|⟨e,h0,hy⟩
  ·have xW:=s.kind.symm.trans hk;obtain⟨a1,a2,a3⟩:=sq.cells b p (by rw[<-KF];exact hp) xW;exact⟨a1.trans (s.cells xW).1.symm,by rw[(s.cells xW).2,List.length_map];exact a2,a3⟩
  ·rw[e]at hk⊢;rw[tI hy]at hp;obtain⟨a1,a2,e',n,a3,a4⟩:=hs.cells y p hp hk;exact⟨a1,a2,e',n,by rw[K.shape _ (hs.rG y p hp)];exact a3,a4⟩
 ·obtain⟨c1,c2,c3⟩:=rO hc;rcases src (y:=y) (by rw[c1];decide)with⟨b,rfl,s,er,_⟩|⟨e,h0,hy⟩
  ·have xW:=s.kind.symm.trans c1;rw[(s.cells xW).2,List.getElem?_map]at c3;obtain⟨z,hz,ez⟩:=aC.1 c3;unfold okB at er;rw[ag]at er;have hv:=aB.1 er.1 _ (List.mem_of_getElem? hz);cases z with
   |none=>cases ez
   |some u=>
    cases ez;obtain⟨v',a1,a2⟩:=sq.lj b p o u (by rw[<-KF];exact hp) (sJ xW (by rw[q.bl];rfl) hz);exact⟨v',a1,(q8 hv).2 (by rw[aeX];exact a2)⟩
  ·rw[e]at c1 c3;rw[tI hy]at hp;have lF:m.cell y o=some v:=sJ c1 (by rw[h.bl];rfl) c3;obtain⟨v',a1,a2⟩:=hs.lj y p o v hp lF;have hro:=jc hs hp lF;refine⟨v',?_,a2.iJ ule⟩;rw[K.cell _ _ (rrd hp h0 aj aj (by rw[Nat.add_sub_cancel_left];exact Mem.eB lF))];exact a1
 ·rcases src (y:=y) (by rw[hk];decide)with⟨b,rfl,s,_,nC,_⟩|⟨e,h0,hy⟩
  ·exact sq.thaw b p o (by rw[<-KF];exact hp) ho (s.kind.symm.trans hk) ((Ti nC).2 (by rw[<-PD];exact hb))
  ·rw[e]at hk;rw[tI hy]at hp;rw[uu (K.qU _ _ (hs.rG y p hp))];exact hs.thaw y p o hp ho hk (by rw[<-PD];exact hb)
 ·rcases src (y:=y) (by rw[hk];decide)with⟨b,rfl,s,er,nC,_⟩|⟨e,h0,hy⟩
  ·have xW:=s.kind.symm.trans hk;obtain⟨jD,a1,a2⟩:=sq.maps b p (by rw[<-KF];exact hp) xW ((Tg nC).2 ho);unfold okB at er;rw[ag]at er;rw[(s.map xW).2,(s.map xW).1];exact⟨jD,a1,(C8 er.2).2 (by rw[aeX];exact a2)⟩
  ·rw[e]at hk⊢;rw[tI hy]at hp;obtain⟨jD,a1,a2⟩:=hs.maps y p hp hk ((mO y).1 ho);refine⟨jD,?_,a2.mono fun _ _ x=>⟨x.1.iJ ule,x.2.1.iJ ule,x.2.2⟩⟩;rw[K.obj _ (.inl ⟨y,p,hp,h0,rfl,.inl hk,(mO y).1 ho⟩)];exact a1
 ·rcases src (y:=y) (by rw[hk];decide)with⟨b,rfl,s,er,nC,_⟩|⟨e,h0,hy⟩
  ·have xW:=s.kind.symm.trans hk;rw[(s.iter xW).1,(s.iter xW).2];exact sq.lD b p (by rw[<-KF];exact hp) xW ((Tg nC).2 ho)
  ·rw[e]at hk⊢;rw[tI hy]at hp;obtain⟨a1,a2⟩:=hs.lD y p hp hk ((mO y).1 ho);exact⟨a1,by rw[K.obj _ (.inl ⟨y,p,hp,h0,rfl,.inr hk,(mO y).1 ho⟩)];exact a2⟩
 ·rcases src hk with⟨b,rfl,s,_,hb,_⟩|⟨e,h0,hy⟩<;>rcases src gm with⟨b',rfl,s',_,iB,_⟩|⟨e',h0',DT⟩
  ·rw[s.kind]at hk⊢;rw[s'.kind]at gm⊢;exact sq.sep b b' p p' (fun e=>dH (by rw[e])) (by rw[<-KF];exact hp) (by rw[<-KF];exact dy) hk gm hc
  ·rw[e']at gm⊢;exact Ka (by rw[<-KF];exact hp) dy s hb e' h0' DT hk gm hc
  ·rw[e]at hk⊢;obtain⟨a1,a2,a3⟩:=Ka (by rw[<-KF];exact dy) hp s' iB e h0 hy gm hk hc.symm;exact⟨a2,a1,aj⟩
  ·rw[e]at hk⊢;rw[e']at gm⊢;exact hs.sep y y' p p' dH (by rw[<-tI hy];exact hp) (by rw[<-tI DT];exact dy) hk gm hc
 ·rcases Nat.lt_or_ge y m.next with hy|hy
  ·rw[tI hy]at hp;exact aW (hs.rG y p hp) K.size
  ·rw[hU]at hp;unfold Eh at hp;rw[bS aj]at hp;exact sq.rG _ p hp
 ·rcases src (y:=y) (by rw[hk];decide)with⟨b,rfl,s,_,nC,⟨e⟩|⟨e,Zb⟩⟩|⟨e,h0,hy⟩
  ·exact sq.vars b p (by rw[<-KF];exact hp) (s.kind.symm.trans hk) (by rw[<-e];exact iL)
  ·rw[e]at hk iL;exact hs.vars (π b) p (by rw[<-tI (h.lt b Zb)];exact hp) hk iL
  ·rw[e]at hk iL;exact hs.vars y p (by rw[<-tI hy];exact hp) hk iL
 ·rcases uj c x hx with hx|⟨b,p,h1,_,h2,h3,h4,h5⟩
  ·exact(Hq.apart.cell c x (.inr he)).2 hx
  ·exact(H.apart.cell c x he).2 ⟨b,p,h1,h2,h3,h4,h5⟩
 ·rcases yE c hx with hx|⟨b,p,h1,_,h2,h3,h4⟩
  ·exact(Hq.apart.obj c (.inr he)).2.1 hx
  ·exact(H.apart.obj c he).2.1 ⟨b,p,h1,h2,h3,h4⟩
 ·exact(Hq.apart.obj c (.inr he)).2.2
 ·rw[Wi,PC];have :=h.hn;omega
 ·refine⟨fun y=>?_,fun y hy=>?_,fun s sE=>?_,?_,fun y=>?_⟩
  ·rw[hM]
   show _<m.tick+1
   rcases fZ (m:=m) (L:=L.map fun x=>(π x.1,mE π x.2)) (nx:=m.next+(nx-mi.next)) y with⟨e,_⟩|⟨k,_,e⟩
   ·have e:(jo π mi m L nx).blk y=m.blk y:=e;rw[e];exact Nat.lt_succ_of_lt (H.wf.aZ y)
   ·have e:(jo π mi m L nx).blk y={k with aZ:=m.tick}:=e;rw[e];exact Nat.lt_succ_self _
  ·rw[PC]at hy;refine Classical.byContradiction fun hk=>?_
   rcases src hk with⟨b,rfl,s,_,hb,_⟩|⟨e,h0,DT⟩
   ·have hkq:(mq.blk b).kind≠0:=by rw[<-s.kind];exact hk
    have hbq:b<mq.next:=by
     rcases Nat.lt_or_ge b mq.next with h1|h1
     ·exact h1
     ·exact absurd (Hq.wf.x8 b h1) hkq
    have :=q.next;rcases Nat.lt_or_ge b mi.next with h1|h1
    ·have :=h.lt b h1;omega
    ·have :=h.ge b h1;omega
   ·omega
  ·rw[Rv]at sE;cases sE
  ·rw[Mfl,PC];have :=H.wf.fl;omega
  ·rw[hM];rcases fZ (m:=m) (L:=L.map fun x=>(π x.1,mE π x.2)) (nx:=m.next+(nx-mi.next)) y with⟨e,_⟩|⟨k,hm,e⟩
   ·have e:(jo π mi m L nx).blk y=m.blk y:=e;rw[e];exact H.wf.live y
   ·have e:(jo π mi m L nx).blk y={k with aZ:=m.tick}:=e;rw[e];obtain⟨x,hx,ex⟩:=List.mem_map.1 hm;cases ex;obtain⟨_,_,_,n4,n5⟩:=q.new x hx;refine⟨fun z hz=>?_,n4.2⟩;obtain⟨u,hu,rfl⟩:=List.mem_map.1 hz;cases u with
    |none=>exact absurd rfl (n4.1 _ hu)
    |some u=>exact fun e=>by cases e
 ·rcases src (kR h3)with⟨b,rfl,s,_,nC,_⟩|⟨e,h0,hy⟩
  ·exact Hq.Nq b p x (by rw[<-KF];exact hp) ((Ti nC).2 (by rw[<-PD];exact hb)) h1 h2 ((qR s).2 h3) (.inr he)
  ·exact H.Nq y p x (by rw[<-tI hy];exact hp) (by rw[<-PD];exact hb) h1 h2 ((mR e).1 h3) he
 ·obtain⟨y,p,h1,h2,h3,h4,h5⟩:=hr;rcases src (kR h5)with⟨b,rfl,s,_,nC,_⟩|⟨e,h0,hy⟩
  ·exact Hq.ew c x (.inr he) ⟨b,p,by rw[<-KF];exact h1,h2,h3,h4,(qR s).2 h5⟩
  ·exact H.ew c x he ⟨y,p,by rw[<-tI hy];exact h1,h2,h3,h4,(mR e).1 h5⟩
 ·rcases hx with hx|hx
  ·exact(RI c x hx).imp id id
  ·exact .inr (.inr hx)
 ·rcases hx with hx|hx
  ·exact(uj c x hx).imp id .inl
  ·exact .inr (.inr hx)
 ·rcases hx with hx|hx
  ·exact(yE c hx).imp id .inl
  ·exact .inr (.inr hx)
end
end Go.AM
namespace Go.AM
open Go Go.Conc Go.Proofs
section
variable {mi m mq:Mem}{π:Nat->Nat}{L:List (Nat×dJ)}{nx G:Nat}
theorem Yj (h:nS G mi m π)(q:Nu mi mq L nx)(x8:∀b,mq.next<=b->(mq.blk b).kind=0):Mv m (jo π mi m L nx):=by
 refine⟨Nat.le_add_right _ _,Nat.le_succ _,fun hw=>?_,fun y=>?_,fun s hs=> .inl hs⟩
 ·refine⟨fun y=>?_,fun y hy=>?_,fun s sE=>?_,?_,fun y=>?_⟩
  ·show _<m.tick+1
   rcases fZ (m:=m) (L:=L.map fun x=>(π x.1,mE π x.2)) (nx:=m.next+(nx-mi.next)) y with⟨e,_⟩|⟨k,_,e⟩
   ·have e:(jo π mi m L nx).blk y=m.blk y:=e;rw[e];exact Nat.lt_succ_of_lt (hw.aZ y)
   ·have e:(jo π mi m L nx).blk y={k with aZ:=m.tick}:=e;rw[e];exact Nat.lt_succ_self _
  ·have hy:m.next+(nx-mi.next)<=y:=hy;refine Classical.byContradiction fun hk=>?_
   rcases Fy h hw q hk with⟨b,rfl,s,_,hb,_⟩|⟨e,h0,DT⟩
   ·have hkq:(mq.blk b).kind≠0:=by rw[<-s.kind];exact hk
    have hbq:b<mq.next:=by
     rcases Nat.lt_or_ge b mq.next with h1|h1
     ·exact h1
     ·exact absurd (x8 b h1) hkq
    have :=q.next;rcases Nat.lt_or_ge b mi.next with h1|h1
    ·have :=h.lt b h1;omega
    ·have :=h.ge b h1;omega
   ·omega
  ·have sE:s∈m.bl:=sE;rw[h.bl]at sE;cases sE
  ·show m.floor<=m.next+_
   have :=hw.fl;omega
  ·rcases fZ (m:=m) (L:=L.map fun x=>(π x.1,mE π x.2)) (nx:=m.next+(nx-mi.next)) y with⟨e,_⟩|⟨k,hm,e⟩
   ·have e:(jo π mi m L nx).blk y=m.blk y:=e;rw[e];exact hw.live y
   ·have e:(jo π mi m L nx).blk y={k with aZ:=m.tick}:=e;rw[e];obtain⟨x,hx,ex⟩:=List.mem_map.1 hm;cases ex;obtain⟨_,_,_,n4,n5⟩:=q.new x hx;refine⟨fun z hz=>?_,n4.2⟩;obtain⟨u,hu,rfl⟩:=List.mem_map.1 hz;cases u with
    |none=>exact absurd rfl (n4.1 _ hu)
    |some u=>exact fun e=>by cases e
 ·rcases fZ (m:=m) (L:=L.map fun x=>(π x.1,mE π x.2)) (nx:=m.next+(nx-mi.next)) y with⟨e,_⟩|⟨k,_,e⟩
  ·exact .inl e
  ·exact .inr (by
    have e:(jo π mi m L nx).blk y={k with aZ:=m.tick}:=e;rw[e];exact ai _)
end
theorem Js {Fin:ae->au->Prop}{call:cB}(C:fW ab X0 true (Jn Fin) Mv call){mi mq m:Mem}{π:Nat->Nat}{f:Nat}{args:List ae}{v:ae}{L:List (Nat×dJ)}{nx:Nat}(gE:call f args mi=some (v,mq))(hb:dM ab f=true)
  (h:nS ab.globals.size mi m π)(q:Nu mi mq L nx)(ha:args.all (nz 20)=true)(hv:nz 20 v=true):
  Mv m (jo π mi m L nx)/\∃c,∀{E:Perm}{bq:au}{σ:nF}{ρ:dh}{w:au} (bJ:Array ae) (fr:Frame) (cs:List Frame) (n:Nat) (kind:CallKind),
   cU ab E bq σ ρ m w->bB (aQ ρ) (args.map (bL π 20)) bJ.toList->(kind= .normal\/(kind= .deferred/\fr.mode= .returning/\f≠X0.K'/\f≠X0.vR))->
   (∀gu bu v' w',ρ.le bu->rR m ρ bu->cU ab E bq gu bu (jo π mi m L nx) w'->aQ bu (bL π 20 v) v'->Jn Fin gu n ((az bu (jo π mi m L nx)).or E) (G (if kind= .normal then fr.finish v' else fr) cs) w')->
   Jn Fin σ (n+c) ((az ρ m).or E) (G (Frame.enter ab f bJ kind) (fr::cs)) w:=by
 obtain⟨hmv,_,sF⟩:=C f args mi v mq h.wf gE;refine⟨Yj h q (hmv.wf h.wf).x8,?_⟩;obtain⟨c,sF⟩:=sF hb;refine⟨c,fun{E bq σ ρ w} bJ fr cs n kind H hr hk Vd=>?_⟩;cases σ with
 |Br=>trivial
 |fI gr=>
  obtain⟨_,_,_,wa,k1,_⟩:=H.fI;rw[h.wg]at k1;cases k1
 |idle=>
  have HI:=QE h H;have key:=sF bJ fr cs n kind HI ((rk (fun h=>q8 h) ha).1 hr) hk fun gu yG v' w' hle hold Hq OL=>by
   cases gu with
   |Br=>trivial
   |fI gr=>
    obtain⟨_,_,_,wa,k1,_⟩:=Hq.fI;rw[q.wg]at k1;cases k1
   |idle=>
    have kh:∀b,b<mi.next->yG b=ρ (π b):=fun b hb=>hold b hb fun s hs=>by rw[h.aag]at hs;cases hs
    obtain⟨Ho,zl⟩:=Mk h H Hq hle kh q;have ule:ρ.le (Eh ρ yG m mi.next):=fun b p hp=>(bC (H.jY.mz b p hp)).trans hp
    have :=Vd .idle (Eh ρ yG m mi.next) v' w' ule (.of fun b hb=>bC hb) Ho ((q8 hv).2 (by
     have :(fun b=>Eh ρ yG m mi.next (π b))=yG:=funext fun b=>N1 h kh b
     rw[this];exact OL))
    exact JM.perm zl Ho.low.wr (h.deaf.trans q.deaf.symm) this
  have kn:∀{b o},mi.nK b o->(mi.blk b).kind≠0:=fun k=>by rw[((j2 h.Y1).1 k).1];decide
  have zl:jF ((az (fun b=>ρ (π b)) mi).or (zV ρ mi m π E)) ((az ρ m).or E):=by
   refine⟨fun c x hx=>?_,fun c x hx=>?_,fun c hx=>?_⟩
   ·rcases hx with⟨b,p,h1,h2,h3,h4,h5⟩|⟨b,p,h1,_,h2,h3,h4,h5⟩|hx
    ·exact .inl ⟨π b,p,h1,h2,h3,h4,(h.nK (kn h5)).1 h5⟩
    ·exact .inl ⟨b,p,h1,h2,h3,h4,h5⟩
    ·exact .inr hx
   ·rcases hx with⟨b,p,h1,h2,h3,h4,h5⟩|⟨b,p,h1,_,h2,h3,h4,h5⟩|hx
    ·exact .inl ⟨π b,p,h1,h2,h3,h4,(h.okW (kn ((l7 h.acr).1 h5).1)).1 h5⟩
    ·exact .inl ⟨b,p,h1,h2,h3,h4,h5⟩
    ·exact .inr hx
   ·rcases hx with⟨b,p,h1,h2,h3,h4⟩|⟨b,p,h1,_,h2,h3,h4⟩|hx
    ·have hk:(mi.blk b).kind≠0:=aj;exact .inl ⟨π b,p,h1,h2,by rw[(h.same b hk).kind];exact h3,(h.own hk).1 h4⟩
    ·exact .inl ⟨b,p,h1,h2,h3,h4⟩
    ·exact .inr hx
  exact JM.perm zl HI.low.wr (h.aij.trans h.deaf.symm) key
end Go.AM
namespace Go.AM
set_option maxRecDepth 1000000
open Go Go.Conc Go.Proofs
structure gi where
 f:Nat
 args:List ae
 mi:Mem
 v:ae
 L:List (Nat×dJ)
 nx:Nat
def gi.at(r:gi)(f:Nat)(args:List ae)(m:Mem)(π:Nat->Nat):Prop:=r.f=f/\args=r.args.map (bL π 20)/\nS ab.globals.size r.mi m π
def gi.out(r:gi)(m:Mem)(π:Nat->Nat):Mem:=jo π r.mi m r.L r.nx
open Classical in
noncomputable def twR(RS:gi→Prop):cB:=fun f args m=>
 if h:∃x:gi×(Nat→Nat),RS x.1∧x.1.at f args m x.2 then some (bL (Classical.choose h).2 20 (Classical.choose h).1.v,(Classical.choose h).1.out m (Classical.choose h).2)else none
theorem abk {RS:gi->Prop}{r:gi}{f:Nat}{args:List ae}{m:Mem}{π:Nat->Nat}(hr:RS r)(h:r.at f args m π)(hu:∀r' qi,RS r'->r'.at f args m qi->r'=r/\qi=π):twR RS f args m=some (bL π 20 r.v,r.out m π):=by
 have hx:∃x:gi×(Nat->Nat),RS x.1/\x.1.at f args m x.2:=⟨(r,π),hr,h⟩;unfold twR;rw[dif_pos hx];obtain⟨e1,e2⟩:=hu _ _ (Classical.choose_spec hx).1 (Classical.choose_spec hx).2;rw[e1,e2]
theorem Bv {RS:gi->Prop}{f:Nat}{args:List ae}{m:Mem}(h:∀r,RS r->r.f≠f):twR RS f args m=none:=by
 unfold twR;exact dif_neg fun⟨x,h1,h2,_⟩=>h _ h1 h2
structure Wd (call:cB)(r:gi):Prop where
 call:∃mq,call r.f r.args r.mi=some (r.v,mq)/\Nu r.mi mq r.L r.nx
 bod:dM ab r.f=true
 args:r.args.all (nz 20)=true
 val:nz 20 r.v=true
theorem abj {Fin:ae->au->Prop}{call:cB}(C:fW ab X0 true (Jn Fin) Mv call){RS:gi->Prop}(h:∀r,RS r->Wd call r):fW ab X0 true (Jn Fin) Mv (twR RS):=by
 intro f args m v m' hw ht;unfold twR at ht
 split at ht
 ·rename_i hx;have hs:=Classical.choose_spec hx;simp only[ah,ay]at ht;obtain⟨rfl,rfl⟩:=ht;generalize Classical.choose hx=x at hs;obtain⟨r,π⟩:=x;obtain⟨hr,rfl,rfl,ky⟩:=hs;obtain⟨⟨mq,hc,hq⟩,hb,ha,hv⟩:=h r hr;obtain⟨k1,k2⟩:=Js (Fin:=Fin) C hc hb ky hq ha hv;exact⟨k1,fun h'=>(by rw[hb]at h';cases h'),fun _=>k2⟩
 ·cases ht
structure Gl (m:Mem):Prop where
 oj:Wl m
 base:0<m.base
 home:0<m.home
 hn:m.home<=m.next
 nx:12<=m.next
 low:∀b,b<m.home->(m.blk b).kind<=1
theorem Gl.ext{m m':Mem}{S:Nat->Prop}(h:Gl m)(k:Kp m m' S)(hs:∀b,S b->m.home<=b):Gl m':=by
 have h1:=h.home;have h2:=h.hn;have h3:=h.nx;have h4:=k.next;refine⟨h.oj.ext k fun h0=>by have :=hs 0 h0;omega,by rw[k.base];exact h.base,by rw[k.home];exact h1,by rw[k.home];omega,aj,fun b hb=>?_⟩;rw[k.home]at hb;rw[k.blk b aj fun h0=>by have :=hs b h0;omega];exact h.low b hb
theorem Gl.aR{m m':Mem}(h:Gl m)(k:Kp m m' fu):Gl m':=h.ext k fun _ h=>h.elim
def uQ (m:Mem)(b:Nat):Nat:=if b<12 then b else m.next+(b-12)
theorem BI (π:Nat->Nat):cJ.map (Ta π)=cJ:=by
 have oh:(cJ.all fun x=>match x with |some y=>cR y|none=>false)=true:=aY
 conv=>rhs;rw[<-List.map_id cJ]
 refine List.map_congr_left fun x hx=>?_
 have :=aB.1 oh x hx
 split at this
 ·exact congrArg some (so this)
 ·cases this
theorem ahg {m:Mem}(cm:Calm m)(hG:Gl m):nS ab.globals.size sY m (uQ m):=by
 have k0:sY.blk 0={kind:=1,cs:=cJ}:=by rw[iG,bC rfl]
 have kn:∀b,(sY.blk b).kind≠0->b=0:=fun b hb=>by
  rw[iG]at hb
  split at hb
  ·rename_i h;exact h.symm
  ·exact absurd rfl hb
 have s0:uQ m 0=0:=rfl;have g:=hG.oj;refine⟨Gj,rfl,ai _,cm.floor,hG.hn,rfl,cm.bl,rfl,cm.opn,rfl,cm.wg,rfl,cm.gd.pend,rfl,cm.gd.deaf,fun b hb=>?_,fun b hb=>?_,fun b hb=>?_,fun b b' h1 h2 _=>by rw[kn b h1,kn b' h2],fun b hb=>?_,fun b=>?_,fun b hb hp=>?_,fun b hb=>?_,fun b hb=>?_,hG.low⟩
 ·rw[globals_size]at hb;exact bC hb
 ·have hb:b<12:=hb;have :=hG.nx;unfold uQ;rw[bC hb];omega
 ·have hb:12<=b:=hb;exact bS aj
 ·rw[kn b hb,s0,k0];refine⟨g.kind,fun _=>⟨g.sz,?_⟩,fun h=>(by cases h),fun h=>by cases h⟩;rw[show(({kind:=1,cs:=cJ}:dJ).cs)=cJ from rfl,BI,g.cs]
  kernel_rfl
 ·rw[iG]
  split
  ·kernel_rfl
  ·rfl
 ·rw[kn b (by rw[hb];decide),k0]at hp;cases hp
 ·rw[kn b hb,s0];have :=hG.base;exact⟨fun h=>absurd h eS,fun h=>by omega⟩
 ·rw[kn b hb,s0];have :=hG.home;exact⟨fun h=>absurd h eS,fun h=>by omega⟩
theorem QF {m:Mem}{π:Nat->Nat}(h:nS ab.globals.size sY m π):π=uQ m:=by
 funext b
 unfold uQ;rw[<-globals_size]
 split
 ·rename_i hb;exact h.gl b hb
 ·rename_i hb;rw[globals_size]at hb⊢;exact h.ge b (by show 12<=b;omega)
section
variable {m:Mem}{L:List (Nat×dJ)}{nx:Nat}
theorem Uq (hL:∀x∈L,12<=x.1):Kp m (jo (uQ m) sY m L nx) fu:=by
 refine⟨Nat.le_add_right _ _,rfl,rfl,rfl,rfl,rfl,rfl,rfl,rfl,fun b hb _=>?_⟩;rcases fZ (m:=m) (L:=L.map fun x=>(uQ m x.1,mE (uQ m) x.2)) (nx:=m.next+(nx-sY.next)) b with⟨e,_⟩|⟨k,hm,_⟩
 ·exact e
 ·obtain⟨x,hx,ex⟩:=List.mem_map.1 hm;cases ex;have :=hL x hx
  exfalso
  unfold uQ at hb;rw[bS aj]at hb;omega
theorem rE {t:Nat}:∀{L:List (Nat×dJ)} {h:ji}{x:Nat×dJ},(L.map (·.1)).Nodup->x∈L->(Mf t L h).get x.1={x.2 with aZ:=t}
 | [],_,x,_,hx=>by cases hx
 |y::l,h,x,hn,hx=>by
  rw[List.map_cons,List.nodup_cons]at hn;unfold Mf;rw[ji.get_put];rcases aI.1 hx with rfl|hx
  ·rw[bC rfl]
  ·rw[bS fun e=>hn.1 (List.mem_map.2 ⟨x,hx,e.symm⟩)];exact rE hn.2 hx
theorem OC (hn:(L.map (·.1)).Nodup){b:Nat}{k:dJ}(hx:(b,k)∈L)(hL:∀x∈L,12<=x.1):(jo (uQ m) sY m L nx).blk (uQ m b)={mE (uQ m) k with aZ:=m.tick}:=by
 have JB:((L.map fun x=>(uQ m x.1,mE (uQ m) x.2)).map (·.1)).Nodup:=by
  rw[List.map_map];have :(L.map ((fun x=>x.1)∘fun x=>(uQ m x.1,mE (uQ m) x.2)))=(L.map (·.1)).map (uQ m):=by rw[List.map_map];rfl
  rw[this,List.Nodup,List.pairwise_map];refine List.Pairwise.imp_of_mem ?_ hn;intro a c ha hc dH e;obtain⟨x,hx,rfl⟩:=List.mem_map.1 ha;obtain⟨y,hy,rfl⟩:=List.mem_map.1 hc;have :=hL x hx;have :=hL y hy;unfold uQ at e;rw[bS aj,bS aj]at e;omega
 exact rE (x:=(uQ m b,mE (uQ m) k)) JB (List.mem_map.2 ⟨(b,k),hx,rfl⟩)
theorem OB (cm:Calm m)(hn:(L.map (·.1)).Nodup){b:Nat}{k:dJ}{cs:List ae}(hx:(b,k)∈L)(hb:12<=b)(H3:b<nx)(hL:∀x∈L,12<=x.1)(hk:k.kind=1)(hc:k.cs=cs.map some):Obj (jo (uQ m) sY m L nx) (uQ m b) k.sz (cs.map (bL (uQ m) 20)):=by
 have e:=OC (m:=m) (nx:=nx) hn hx hL;have hs:uQ m b=m.next+(b-12):=bS aj;refine⟨?_,by rw[e];exact hk,by rw[e];rfl,?_,?_⟩
 ·rw[hs]
  show _<m.next+(nx-12)
  omega
 ·rw[e]
  show k.cs.map (Ta (uQ m))=_
  rw[hc,List.map_map,List.map_map];rfl
 ·show aL m.bl _=false
  rw[cm.bl];rfl
end
end Go.AM
namespace Go.AM
set_option maxRecDepth 1000000
open Go Go.Conc Go.Proofs
theorem uR {π:Nat->Nat}:∀{n:Nat}{v:ae},nz n v=true->bL π (n+1) v=bL π n v:=by
 have key:∀{n:Nat},(∀{v:ae},nz n v=true->bL π (n+1) v=bL π n v)->∀{l:List ae},l.all (nz n)=true->l.map (bL π (n+1))=l.map (bL π n):=fun ih l h=>List.map_congr_left fun x hx=>ih (aB.1 h x hx)
 intro n
 induction n with
 |zero=>intro v h;exact so h
 |succ n ih=>
  intro v h;cases v with
  |func fn f c=>
   have h:(f.toList.all (nz n)&&c.toList.all (nz n))=true:=h;rw[ag]at h
   show ae.func fn (f.toList.map (bL π (n+1))).toArray (c.toList.map (bL π (n+1))).toArray=ae.func fn (f.toList.map (bL π n)).toArray (c.toList.map (bL π n)).toArray
   rw[key ih h.1,key ih h.2]
  |iface t x=>exact congrArg (ae.iface t) (ih h)
  |agg cs=>
   show ae.agg (cs.toList.map (bL π (n+1))).toArray=ae.agg (cs.toList.map (bL π n)).toArray
   rw[key ih h]
  |tuple cs=>
   show ae.tuple (cs.toList.map (bL π (n+1))).toArray=ae.tuple (cs.toList.map (bL π n)).toArray
   rw[key ih h]
  |pointer a=>cases a<;>rfl
  |slice a l c=>cases a<;>rfl
  |map a=>cases a<;>rfl
  |_=>rfl
theorem lT {π:Nat->Nat}{l:List ae}(h:l.all (nz 19)=true):bL π 20 (.agg l.toArray)= .agg (l.map (bL π 20)).toArray:=by
 show ae.agg (l.map (bL π 19)).toArray=_
 congr 2
 exact List.map_congr_left fun x hx=>(uR (aB.1 h x hx)).symm
theorem S9 {π:Nat->Nat}{n:Nat}{v:ae}:(bL π n v).oneCell'=v.oneCell':=by
 cases n with
 |zero=>rfl
 |succ n=>cases v with
  |pointer a=>cases a<;>rfl
  |slice a l c=>cases a<;>rfl
  |map a=>cases a<;>rfl
  |_=>rfl
def E0:List (Option ae)->Option (List ae)
 | []=>some []
 |some v::l=>match E0 l with |some r=>some (v::r)|none=>none
 |none::_=>none
theorem xh:∀{l:List (Option ae)} {r:List ae},E0 l=some r->l=r.map some
 | [],r,h=>by cases h;rfl
 |some v::l,r,h=>by
  unfold E0 at h
  split at h
  ·rename_i s hs;cases h;rw[xh hs];rfl
  ·cases h
 |none::l,r,h=>by cases h
def mc:List (Nat×dJ)->Nat->Option (Nat×List ae)
 | [],_=>none
 |x::l,b=>if Nat.beq x.1 b then(if Nat.beq x.2.kind 1 then(match E0 x.2.cs with |some cs=>some (x.2.sz,cs)|none=>none)else none)else mc l b
theorem xM:∀{L:List (Nat×dJ)} {b sz:Nat}{cs:List ae},mc L b=some (sz,cs)->∃k,(b,k)∈L/\k.kind=1/\k.sz=sz/\k.cs=cs.map some
 | [],_,_,_,h=>by cases h
 |x::l,b,sz,cs,h=>by
  unfold mc at h
  split at h
  ·rename_i hb
   split at h
   ·rename_i hk
    split at h
    ·rename_i r hr;cases h;exact⟨x.2,by rw[<-aA hb];exact List.mem_cons_self ..,aA hk,rfl,xh hr⟩
    ·cases h
   ·cases h
  ·obtain⟨k,h1,h2⟩:=xM h;exact⟨k,List.mem_cons_of_mem _ h1,h2⟩
def qY (π:Nat->Nat)(L:List (Nat×dJ))(m:Mem)(B:Nat->Prop):Prop:=∀b sz cs,mc L b=some (sz,cs)->B (π b)/\Obj m (π b) sz (cs.map (bL π 20))
structure Tel {α:Type}(E:nU α) where
 tD:List (Nat×dJ)->α->ae->Bool
 ok:∀{π:Nat->Nat}{L:List (Nat×dJ)} {m:Mem}{B:Nat->Prop},qY π L m B->∀{x:α}{v:ae},tD L x v=true->E.R B x m (bL π 20 v)
def ai9 {α:Type}(val:α->ae)(hv:∀(π:Nat->Nat) x,bL π 20 (val x)=val x):Tel (jq val):=
 ⟨fun _ x v=>J3 20 (val x) v,fun{π} _ _ _ _ {x v} h=>by rw[<-oy h];exact hv π x⟩
def Qd (sz:Nat)(v:ae):Bool:=nz 20 v&&match sz with
 |1=>(match v with | .agg _=>false|v=>v.oneCell')
 |sz=>(match v with | .agg cs=>Nat.beq cs.toList.length sz&&cs.toList.all fun x=>nz 19 x&&x.oneCell'|_=>false)
def zQ {α:Type}(sz:Nat)(c:α->ae->Bool):List α->List ae->Bool
 | [],cs=>cs.isEmpty
 |x::l,cs=>(match sz,cs with
  |1,v::r=>Qd 1 v&&c x v&&zQ sz c l r
  |1,[]=>false
  |Sy,cs=>Nat.ble Sy cs.length&&Qd Sy (.agg (cs.take Sy).toArray)&&c x (.agg (cs.take Sy).toArray)&&zQ sz c l (cs.drop Sy))
theorem TA {v:ae}(h:Qd 1 v=true):v.cells.toList=[v]/\∀π:Nat->Nat,(bL π 20 v).cells.toList=[bL π 20 v]/\okV 1 (bL π 20 v):=by
 unfold Qd at h;rw[ag]at h;have h1:=h.2;have key:∀u:ae,(match u with | .agg _=>false|u=>u.oneCell')=true->u.cells=#[u]/\u.oneCell'=true:=fun u hu=>by
  cases u<;>first |exact⟨rfl,hu⟩|cases hu
 obtain⟨e1,e2⟩:=key v h1;refine⟨by rw[e1],fun π=>?_⟩;have e3:(match bL π 20 v with | .agg _=>false|u=>u.oneCell')=true:=by
  cases v with
  |agg cs=>cases h1
  |pointer a=>cases a<;>exact e2
  |slice a l c=>cases a<;>exact e2
  |map a=>cases a<;>exact e2
  |_=>exact e2
 obtain⟨e4,e5⟩:=key _ e3;refine⟨by rw[e4],by rw[e4];rfl,fun y hy=>?_⟩;rw[e4]at hy;rw[List.mem_singleton.1 hy];exact e5
theorem TB {sz:Nat}{l:List ae}(h1:sz≠1)(h:Qd sz (.agg l.toArray)=true):l.length=sz/\(∀x∈l,nz 19 x=true/\x.oneCell'=true):=by
 unfold Qd at h;rw[ag]at h;have h2:=h.2
 split at h2
 ·exact absurd rfl h1
 ·simp only[ag]at h2;exact⟨aA h2.1,fun x hx=>by
   have :=aB.1 h2.2 x hx;rwa[ag]at this⟩
theorem xn {α:Type}{sz:Nat}{c:α->ae->Bool}{Q:α->ae->Prop}{π:Nat->Nat}(hc:∀x v,c x v=true->Q x (bL π 20 v)):∀{l:List α}{cs:List ae},zQ sz c l cs=true->cA (fun x u=>Q x u/\okV sz u) l (cs.map (bL π 20))
 | [],cs,h=>by
  unfold zQ at h;rw[List.isEmpty_iff.1 h];rfl
 |x::l,cs,h=>by
  unfold zQ at h
  split at h
  ·rename_i v r;simp only[ag]at h;obtain⟨⟨h1,h2⟩,h3⟩:=h;obtain⟨_,hk⟩:=TA h1;exact⟨bL π 20 v,r.map (bL π 20),by rw[(hk π).1];rfl,⟨hc _ _ h2,(hk π).2⟩,xn hc h3⟩
  ·cases h
  ·rename_i JS alD;simp only[ag]at h;obtain⟨⟨⟨h0,h1⟩,h2⟩,h3⟩:=h;have iW:sz≠1:=by
    rintro rfl;cases cs with
    |nil=>exact alD rfl rfl
    |cons v r=>exact JS v r rfl rfl
   obtain⟨e1,e2⟩:=TB iW h1;have hr:=lT (π:=π) (l:=cs.take sz) (aB.2 fun x hx=>(e2 x hx).1);refine⟨bL π 20 (.agg (cs.take sz).toArray),(cs.drop sz).map (bL π 20),?_,⟨hc _ _ h2,?_⟩,xn hc h3⟩
   ·rw[hr]
    show cs.map _=(cs.take sz).map _++_
    rw[<-List.map_append,List.take_append_drop]
   ·rw[hr];refine⟨by show((cs.take sz).map (bL π 20)).length=sz;rw[List.length_map,e1],fun y hy=>?_⟩;obtain⟨z,hz,rfl⟩:=List.mem_map.1 (show y∈(cs.take sz).map (bL π 20)from hy);rw[S9];exact(e2 z hz).2
def aja {α:Type}{E:nU α}(c:Tel E)(sz:Nat):Tel (aT E sz) where
 tD L l v:=match v with
  | .slice none n cap=>Nat.beq n 0&&Nat.beq cap 0&&l.isEmpty
  | .slice (some a) n cap=>Nat.beq a.off 0&&a.spot.isNone&&Nat.beq n l.length&&(Nat.beq cap cD||Nat.beq cap n)&&(match mc L a.block with
   |some (Sy,cs)=>Nat.beq Sy sz&&zQ sz (c.tD L) l cs
   |none=>false)
  |_=>false
 ok:=by
  intro π L m B hL l v h
  split at h
  ·rename_i n cap;simp only[ag]at h;obtain⟨⟨h1,h2⟩,h3⟩:=h;rw[aA h1,aA h2,List.isEmpty_iff.1 h3];exact aT.nil
  ·rename_i a n cap;simp only[ag]at h;obtain⟨⟨⟨⟨h1,h2⟩,h3⟩,h4⟩,h5⟩:=h
   split at h5
   ·rename_i Sy cs hg;rw[ag]at h5;obtain⟨hb,ho⟩:=hL _ _ _ hg;have gO:=xn (π:=π) (fun x v=>c.ok hL (x:=x) (v:=v)) h5.2;obtain⟨b,o,sp⟩:=a;have e1:o=0:=aA h1;have e2:sp=none:=Option.isNone_iff_eq_none.1 h2;subst e1 e2;have e3:=aA h3;subst e3;rw[aA h5.1]at ho;refine⟨cs.map (bL π 20),⟨gO.one.1,.inr ⟨π b,cap,rfl,ho,?_⟩⟩,fun b' o' n' c' e=>by cases e;exact hb,gO⟩;rw[Bool.or_eq_true]at h4;exact h4.imp aA aA
   ·cases h5
  ·cases h
def aaW:Tel qF:=aja (ai9 KY.val fun π x=>by
 show ae.agg #[bL π 19 (.string x.n),bL π 19 (vI x.k)]=_
 rw[so rfl,so rfl]) 2
def Ws (l:List ae):Bool:=l.all (nz 19)
end Go.AM
namespace Go.AM
set_option maxRecDepth 1000000
open Go Go.Conc Go.Proofs
def HA (m:Mem)(v:ae)(k:Nat):Option ae:=match v with
 | .pointer (some a)=>if(m.blk a.block).kind=1 then((m.blk a.block).cs[a.off+k]?).join else none
 | .slice (some a) _ _=>if(m.blk a.block).kind=1 then((m.blk a.block).cs[a.off+k]?).join else none
 | .map (some r)=>if(m.blk r).kind=2 then((m.blk r).es.toList[k]?).map (·.val)else none
 |_=>none
def TU (m:Mem):ae->List Nat->Option ae
 |v,[]=>some v
 |v,k::l=>match HA m v k with |some u=>TU m u l|none=>none
def oJ (m:Mem)(args:List ae)(l:List Nat):Option ae:=match l with
 |i::j::l=>((args[i]?).bind fun a=>a.cells.toList[j]?).bind fun v=>TU m v l
 |_=>none
def IX:ae->Option Nat
 | .pointer (some a)=>some a.block
 | .slice (some a) _ _=>some a.block
 | .map (some r)=>some r
 |_=>none
theorem IW {π:Nat->Nat}{v:ae}:IX (bL π 20 v)=(IX v).map π:=by
 cases v with
 |pointer a=>cases a<;>rfl
 |slice a l c=>cases a<;>rfl
 |map a=>cases a<;>rfl
 |_=>rfl
section
variable {G:Nat}{mi m:Mem}{π:Nat->Nat}
theorem Q2 (h:nS G mi m π){v u:ae}{k:Nat}(e:HA mi v k=some u):HA m (bL π 20 v) k=some (bL π 20 u):=by
 have cell:∀{b o:Nat},(if(mi.blk b).kind=1 then((mi.blk b).cs[o]?).join else none)=some u->(if(m.blk (π b)).kind=1 then((m.blk (π b)).cs[o]?).join else none)=some (bL π 20 u):=fun{b o} e=>by
  split at e
  ·rename_i hk;have s:=h.same b (by rw[hk];decide);rw[bC (s.kind.trans hk),(s.cells hk).2,List.getElem?_map];cases hc:(mi.blk b).cs[o]? with
   |none=>rw[hc]at e;cases e
   |some x=>
    rw[hc]at e;cases x with
    |none=>cases e
    |some y=>cases e;rfl
  ·cases e
 cases v with
 |pointer a=>cases a with
  |none=>cases e
  |some a=>exact cell e
 |slice a l c=>cases a with
  |none=>cases e
  |some a=>exact cell e
 |map r=>cases r with
  |none=>cases e
  |some r=>
   unfold HA at e;simp only at e
   split at e
   ·rename_i hk;have s:=h.same r (by rw[hk];decide)
    show(if(m.blk (π r)).kind=2 then((m.blk (π r)).es.toList[k]?).map (·.val)else none)=_
    rw[bC (s.kind.trans hk),(s.map hk).1,List.getElem?_map];cases hc:(mi.blk r).es.toList[k]? with
    |none=>rw[hc]at e;cases e
    |some x=>rw[hc]at e;cases e;rfl
   ·cases e
 |_=>cases e
theorem On (h:nS G mi m π):∀{l:List Nat}{v u:ae},TU mi v l=some u->TU m (bL π 20 v) l=some (bL π 20 u)
 | [],v,u,e=>by cases e;rfl
 |k::l,v,u,e=>by
  unfold TU at e⊢
  split at e
  ·rename_i x hx;rw[Q2 h hx];exact On h e
  ·cases e
theorem Q9 {a v:ae}{j:Nat}(hd:nz 20 a=true)(hv:a.cells.toList[j]?=some v):(bL π 20 a).cells.toList[j]?=some (bL π 20 v):=by
 cases a with
 |agg cs=>
  have oh:cs.toList.all (nz 19)=true:=hd;have hv:cs.toList[j]?=some v:=hv
  show((cs.toList.map (bL π 19)))[j]?=_
  rw[List.getElem?_map,hv];exact congrArg some (uR (aB.1 oh _ (List.mem_of_getElem? hv))).symm
 |pointer p=>
  have hv:[ae.pointer p][j]?=some v:=hv;cases j with
  |zero=>cases hv;cases p<;>rfl
  |succ j=>cases hv
 |slice p n c=>
  have hv:[ae.slice p n c][j]?=some v:=hv;cases j with
  |zero=>cases hv;cases p<;>rfl
  |succ j=>cases hv
 |map p=>
  have hv:[ae.map p][j]?=some v:=hv;cases j with
  |zero=>cases hv;cases p<;>rfl
  |succ j=>cases hv
 |_=>cases j with
  |zero=>cases hv;rfl
  |succ j=>cases hv
theorem Jc (h:nS G mi m π){args:List ae}(ha:args.all (nz 20)=true){l:List Nat}{u:ae}(e:oJ mi args l=some u):oJ m (args.map (bL π 20)) l=some (bL π 20 u):=by
 unfold oJ at e⊢
 split at e
 ·rename_i i j l;obtain⟨v,h1,h2⟩:=bD.1 e;obtain⟨a,h3,h4⟩:=bD.1 h1;refine bD.2 ⟨bL π 20 v,bD.2 ⟨bL π 20 a,by rw[List.getElem?_map,h3];rfl,?_⟩,On h h2⟩;exact Q9 (aB.1 ha _ (List.mem_of_getElem? h3)) h4
 ·cases e
theorem Jb {G':Nat}{mi':Mem}{qi:Nat->Nat}{args bJ xs:List ae}(h:nS G mi m π)(h':nS G' mi' m qi)(ha:args.all (nz 20)=true)(mN:bJ.all (nz 20)=true)(e:xs=args.map (bL π 20))(e':xs=bJ.map (bL qi 20)){l:List Nat}{u u':ae}(n:oJ mi args l=some u)(n':oJ mi' bJ l=some u'):bL π 20 u=bL qi 20 u':=by
 have h1:=Jc h ha n;have h2:=Jc h' mN n';rw[<-e]at h1;rw[<-e',h1]at h2;exact Option.some.inj h2
theorem Yh {G':Nat}{mi':Mem}{qi:Nat->Nat}{args bJ xs:List ae}(h:nS G mi m π)(h':nS G' mi' m qi)(ha:args.all (nz 20)=true)(mN:bJ.all (nz 20)=true)(e:xs=args.map (bL π 20))(e':xs=bJ.map (bL qi 20)){l:List Nat}{u u':ae}{b b':Nat}(n:oJ mi args l=some u)(n':oJ mi' bJ l=some u')(p:IX u=some b)(p':IX u'=some b'):π b=qi b':=by
 have :=Jb h h' ha mN e e' n n';have h1:IX (bL π 20 u)=some (π b):=by rw[IW,p];rfl
 have h2:IX (bL qi 20 u')=some (qi b'):=by rw[IW,p'];rfl
 rw[this,h2]at h1;exact(Option.some.inj h1).symm
end
def DS (N nx:Nat)(l:List (Nat×Nat))(b:Nat):Nat:=if b<12 then b else if b<N then(match l.find? fun x=>Nat.beq x.1 b with |some x=>x.2|none=>0)else nx+(b-N)
def kOk (K:List (Nat×dJ))(N:Nat):Bool:=K.all fun x=>Nat.ble 12 x.1&&Nat.blt x.1 N&&Nat.blt 0 x.2.kind&&Nat.ble x.2.kind 3&&okB x.2&&Nat.beq x.2.pos 0&&x.2.cs.all (·.isSome)
theorem Ot {K:List (Nat×dJ)}{N:Nat}(hK:kOk K N=true)(b:Nat):((Eu sY K N).blk b).kind≠0->b=0\/∃k,(b,k)∈K/\(Eu sY K N).blk b={k with aZ:=1}:=fun hb=>by
 rcases fZ (m:=sY) (L:=K) (nx:=N) b with⟨e,_⟩|⟨k,hm,e⟩
 ·rw[e,iG]at hb
  split at hb
  ·rename_i h;exact .inl h.symm
  ·exact absurd rfl hb
 ·exact .inr ⟨k,hm,e⟩
theorem ug {K:List (Nat×dJ)}{N:Nat}(h:kOk K N=true){x:Nat×dJ}(hx:x∈K):12<=x.1/\x.1<N/\0<x.2.kind/\x.2.kind<=3/\okB x.2=true/\x.2.pos=0/\∀y∈x.2.cs,y≠none:=by
 have :=aB.1 h x hx;simp only[ag]at this;obtain⟨⟨⟨⟨⟨⟨h1,h2⟩,h3⟩,h4⟩,h5⟩,h6⟩,h7⟩:=this;exact⟨af h1,af h2,af h3,af h4,h5,aA h6,fun y hy e=>by
  have :=aB.1 h7 y hy;rw[e]at this;cases this⟩
structure Emb (m:Mem)(π:Nat->Nat)(K:List (Nat×dJ)):Prop where
 lt:∀x∈K,π x.1<m.next
 base:∀x∈K,m.base<=π x.1/\m.home<=π x.1
 jY:∀x∈K,vx π x.2 (m.blk (π x.1))
 inj:∀x∈K,∀y∈K,π x.1=π y.1->x.1=y.1
theorem ahf {m:Mem}(cm:Calm m)(hG:Gl m){K:List (Nat×dJ)}{N:Nat}{l:List (Nat×Nat)}(hK:kOk K N=true)(hN:12<=N)(hl:∀x∈l,x.2<m.next)(hE:Emb m (DS N m.next l) K):nS ab.globals.size (Eu sY K N) m (DS N m.next l):=by
 have kn:=fun b=>Ot (b:=b) hK
 have s0:DS N m.next l 0=0:=rfl;have k0:(Eu sY K N).blk 0={kind:=1,cs:=cJ}:=by
  rcases fZ (m:=sY) (L:=K) (nx:=N) 0 with⟨e,_⟩|⟨k,hm,_⟩
  ·rw[e,iG,bC rfl]
  ·have h1:12<=0:=(ug hK hm).1;omega
 have g:=hG.oj;refine⟨abf Gj rfl hN fun x hx=>?_,rfl,hN,cm.floor,hG.hn,rfl,cm.bl,rfl,cm.opn,rfl,cm.wg,rfl,cm.gd.pend,rfl,cm.gd.deaf,fun b hb=>?_,fun b hb=>?_,fun b hb=>?_,fun b b' h1 h2 he=>?_,fun b hb=>?_,fun b=>?_,fun b hb hp=>?_,fun b hb=>?_,fun b hb=>?_,hG.low⟩
 ·obtain⟨_,h2,_,h4,_,_,h7⟩:=ug hK hx;exact⟨h2,h7,h4⟩
 ·rw[globals_size]at hb;exact bC hb
 ·have hb:b<N:=hb;have :=hG.nx;unfold DS
  by_cases h12:b<12
  ·rw[bC h12];omega
  ·rw[bS h12,bC hb]
   split
   ·rename_i x hx;exact hl x (List.mem_of_find?_eq_some hx)
   ·omega
 ·have hb:N<=b:=hb;unfold DS;rw[bS aj,bS aj];rfl
 ·have s9:=hG.base;rcases kn b h1 with rfl|⟨k,hk,_⟩<;>rcases kn b' h2 with rfl|⟨k',gm,_⟩
  ·rfl
  ·rw[s0]at he;have :=(hE.base _ gm).1;rw[<-he]at this;omega
  ·rw[s0]at he;have :=(hE.base _ hk).1;rw[he]at this;omega
  ·exact hE.inj _ hk _ gm he
 ·rcases kn b hb with rfl|⟨k,hk,e⟩
  ·rw[s0,k0];refine⟨g.kind,fun _=>⟨g.sz,?_⟩,fun h=>(by cases h),fun h=>by cases h⟩;rw[show(({kind:=1,cs:=cJ}:dJ).cs)=cJ from rfl,BI,g.cs]
   kernel_rfl
  ·rw[e];have s:=hE.jY _ hk;exact⟨s.kind,s.cells,s.map,s.iter⟩
 ·rcases fZ (m:=sY) (L:=K) (nx:=N) b with⟨e,_⟩|⟨k,hm,e⟩
  ·rw[e,iG]
   split
   ·kernel_rfl
   ·rfl
  ·rw[e];exact(ug hK hm).2.2.2.2.1
 ·rcases kn b (by rw[hb];decide)with rfl|⟨k,hk,e⟩
  ·rw[k0]at hp;cases hp
  ·rw[e]at hp;have hp:k.pos=1:=hp;rw[(ug hK hk).2.2.2.2.2.1]at hp;cases hp
 ·have :=hG.base;rcases kn b hb with rfl|⟨k,hk,_⟩
  ·rw[s0];exact⟨fun h=>absurd (show 12<=0 from h) eS,fun h=>by omega⟩
  ·have h1:=(ug hK hk).1;exact⟨fun _=>(hE.base _ hk).1,fun _=>h1⟩
 ·have :=hG.home;rcases kn b hb with rfl|⟨k,hk,_⟩
  ·rw[s0];exact⟨fun h=>absurd (show 12<=0 from h) eS,fun h=>by omega⟩
  ·have h1:=(ug hK hk).1;exact⟨fun _=>(hE.base _ hk).2,fun _=>h1⟩
end Go.AM
namespace Go.AM
set_option maxRecDepth 1000000
open Go Go.Conc Go.Proofs
def TF (mq:Mem)(L:List (Nat×dJ))(nx:Nat):Bool:=
 Nat.beq mq.base 12&&Nat.beq mq.home 12&&Nat.beq mq.floor 12&&mq.bl.isEmpty&&mq.opn.isEmpty&&mq.wg.isNone&&Nat.beq mq.deaf 0&&Nat.ble mq.next nx&&Nat.ble 12 nx&&FU (mq.blk 0) (sY.blk 0)&&
 L.all fun x=>Nat.ble 12 x.1&&Nat.blt x.1 nx&&Nat.ble x.2.kind 3&&FU x.2 (mq.blk x.1)&&okB x.2
theorem TE {mq:Mem}{L:List (Nat×dJ)}{nx:Nat}(h:TF mq L nx=true):Nu sY mq L nx/\∀x∈L,12<=x.1/\x.1<nx:=by
 unfold TF at h;simp only[ag]at h;obtain⟨⟨⟨⟨⟨⟨⟨⟨⟨⟨h1,h2⟩,h3⟩,h4⟩,h5⟩,h6⟩,h7⟩,h8⟩,h9⟩,h10⟩,h11⟩:=h;have h11:=aB.1 h11;have key:∀x∈L,12<=x.1/\x.1<nx/\iQ x.2 (mq.blk x.1)/\x.2.live/\okB x.2=true:=fun x hx=>by
  have :=h11 x hx;simp only[ag]at this;obtain⟨⟨⟨⟨a1,a2⟩,a3⟩,a4⟩,a5⟩:=this;exact⟨af a1,af a2,C9 a4,⟨MR a4,af a3⟩,a5⟩
 refine⟨⟨aA h1,aA h2,aA h3,List.isEmpty_iff.1 h4,List.isEmpty_iff.1 h5,Option.isNone_iff_eq_none.1 h6,aA h7,fun b hb=> .inr ?_,af h8,af h9,fun x hx=>⟨.inl (key x hx).1,(key x hx).2⟩⟩,fun x hx=>⟨(key x hx).1,(key x hx).2.1⟩⟩;rw[iG]at hb
 split at hb
 ·rename_i e;subst e;exact C9 h10
 ·exact absurd rfl hb
noncomputable def gi.fact(r:gi):Bool:=(match Ct r.f r.args sY with |some (v',mq)=>J3 20 r.v v'&&TF mq r.L r.nx|none=>false)&&r.args.all (nz 20)&&nz 20 r.v
theorem gi.dA{r:gi}(h:r.fact=true)(hm:r.mi=sY)(hb:dM ab r.f=true):Wd Ct r/\∀x∈r.L,12<=x.1/\x.1<r.nx:=by
 unfold gi.fact at h;rw[ag,ag]at h;obtain⟨⟨h,ha⟩,hv⟩:=h
 split at h
 ·rename_i v' mq hc;rw[ag]at h;obtain⟨q1,q2⟩:=TE h.2;refine⟨⟨⟨mq,?_,by rw[hm];exact q1⟩,hb,ha,hv⟩,q2⟩;rw[hm,hc,oy h.1]
 ·cases h
def BR (T:List UInt8)(v:ae)(L:List (Nat×dJ))(nx:Nat):gi:=⟨22,[.string ⟨T.toArray⟩],sY,v,L,nx⟩
def vN (n:Nat):ae:= .iface 316 (.agg #[vI 1,vI n,.string .empty,.bool false])
def dg (n:Nat):List UInt8:=if Nat.blt n 10 then[UInt8.ofNat (48+n)]else[UInt8.ofNat (48+n / 10),UInt8.ofNat (48+n%10)]
def GD (a b:Nat):gi:=BR ([73,78,83,69,82,84,32,73,78,84,79,32,103,32,86,65,76,85,69,83,32,40]++dg a++[44,32]++dg b++[41]) (.tuple #[.iface 95 (.agg #[.string ⟨#[103]⟩,vL 137 0 1 1]),vI 0,vI 0])
 [(125,{kind:=1,sz:=1,cs:=[some (vN a),some (vN b)]}),(137,{kind:=1,sz:=1,cs:=[some (vL 125 0 2 cD)]})] 152
noncomputable def qn(a:Nat):Bool:=(List.range 12).all fun b=>(GD a b).fact
end Go.AM
namespace Go.AM
set_option maxRecDepth 1000000
open Go Go.Conc Go.Proofs
structure iC where
 f:Nat
 args:List ae
 K:List (Nat×dJ)
 N:Nat
 c:List (Nat×List Nat)
 v:ae
 L:List (Nat×dJ)
 nx:Nat
noncomputable def iC.mi(r:iC):Mem:=Eu sY r.K r.N
def iC.at(r:iC)(f:Nat)(args:List ae)(m:Mem)(π:Nat->Nat):Prop:=r.f=f/\args=r.args.map (bL π 20)/\(∃l,l.map (·.1)=r.c.map (·.1)/\π=DS r.N m.next l)/\nS ab.globals.size r.mi m π
noncomputable def iC.out(r:iC)(m:Mem)(π:Nat->Nat):Mem:=jo π r.mi m r.L r.nx
open Classical in
noncomputable def Wq(RS:iC→Prop):cB:=fun f args m=>
 if h:∃x:iC×(Nat→Nat),RS x.1∧x.1.at f args m x.2 then some (bL (Classical.choose h).2 20 (Classical.choose h).1.v,(Classical.choose h).1.out m (Classical.choose h).2)else none
theorem abn {RS:iC->Prop}{r:iC}{f:Nat}{args:List ae}{m:Mem}{π:Nat->Nat}(hr:RS r)(h:r.at f args m π)(hu:∀r' qi,RS r'->r'.at f args m qi->r'.v=r.v/\r'.L=r.L/\r'.nx=r.nx/\r'.N=r.N/\qi=π):Wq RS f args m=some (bL π 20 r.v,r.out m π):=by
 have hx:∃x:iC×(Nat->Nat),RS x.1/\x.1.at f args m x.2:=⟨(r,π),hr,h⟩;unfold Wq;rw[dif_pos hx];obtain⟨e1,e2,e3,e4,e5⟩:=hu _ _ (Classical.choose_spec hx).1 (Classical.choose_spec hx).2;unfold iC.out jo;rw[e1,e2,e3,e5,show(iC.mi (Classical.choose hx).1).next=(iC.mi r).next from e4]
theorem Il {RS:iC->Prop}{f:Nat}{args:List ae}{m:Mem}(h:∀r,RS r->r.f≠f):Wq RS f args m=none:=by
 unfold Wq;exact dif_neg fun⟨x,h1,h2,_⟩=>h _ h1 h2
structure DN (call:cB)(r:iC):Prop where
 call:∃mq,call r.f r.args r.mi=some (r.v,mq)/\Nu r.mi mq r.L r.nx
 bod:dM ab r.f=true
 args:r.args.all (nz 20)=true
 val:nz 20 r.v=true
theorem abm {Fin:ae->au->Prop}{call:cB}(C:fW ab X0 true (Jn Fin) Mv call){RS:iC->Prop}(h:∀r,RS r->DN call r):fW ab X0 true (Jn Fin) Mv (Wq RS):=by
 intro f args m v m' hw ht;unfold Wq at ht
 split at ht
 ·rename_i hx;have hs:=Classical.choose_spec hx;simp only[ah,ay]at ht;obtain⟨rfl,rfl⟩:=ht;generalize Classical.choose hx=x at hs;obtain⟨r,π⟩:=x;obtain⟨hr,rfl,rfl,_,ky⟩:=hs;obtain⟨⟨mq,hc,hq⟩,hb,ha,hv⟩:=h r hr;obtain⟨k1,k2⟩:=Js (Fin:=Fin) C hc hb ky hq ha hv;exact⟨k1,fun h'=>(by rw[hb]at h';cases h'),fun _=>k2⟩
 ·cases ht
def Po (mi:Mem)(args:List ae)(c:List (Nat×List Nat)):Bool:=c.all fun x=>match oJ mi args x.2 with
 |some v=>(match IX v with |some b=>Nat.beq b x.1|none=>false)
 |none=>false
theorem Kg {mi:Mem}{args:List ae}{c:List (Nat×List Nat)}(h:Po mi args c=true){x:Nat×List Nat}(hx:x∈c):∃v,oJ mi args x.2=some v/\IX v=some x.1:=by
 have :=aB.1 h x hx
 split at this
 ·rename_i v hv
  split at this
  ·rename_i b hb;exact⟨v,hv,by rw[hb,aA this]⟩
  ·cases this
 ·cases this
theorem I0 {N nx:Nat}:∀{l:List (Nat×Nat)},(l.map (·.1)).Nodup->(∀x∈l,12<=x.1/\x.1<N)->∀x∈l,DS N nx l x.1=x.2:=by
 intro l hn hb x hx;obtain⟨h1,h2⟩:=hb x hx;unfold DS;rw[bS aj,bC h2];have :∀{l:List (Nat×Nat)},(l.map (·.1)).Nodup->x∈l->l.find? (fun y=>Nat.beq y.1 x.1)=some x:=by
  intro l
  induction l with
  |nil=>intro _ h;cases h
  |cons y l ih=>
   intro hn hx;rw[List.map_cons,List.nodup_cons]at hn;rw[List.find?_cons];rcases aI.1 hx with rfl|hx
   ·rw[Nat.beq_refl]
   ·have :Nat.beq y.1 x.1=false:=by
     cases hb:Nat.beq y.1 x.1 with
     |false=>rfl
     |true=>exact absurd (List.mem_map.2 ⟨x,hx,(aA hb).symm⟩) hn.1
    rw[this];exact ih hn.2 hx
 rw[this hn hx]
theorem xL {N nx:Nat}:∀{l l':List (Nat×Nat)} {ks:List Nat},l.map (·.1)=ks->l'.map (·.1)=ks->(∀x∈l,∀y∈l',x.1=y.1->x.2=y.2)->l=l'
 | [],[],_,_,_,_=>rfl
 | [],y::l',ks,h,h',_=>by rw[<-h]at h';cases h'
 |x::l,[],ks,h,h',_=>by rw[<-h']at h;cases h
 |x::l,y::l',ks,h,h',hv=>by
  rw[<-h',List.map_cons,List.map_cons]at h
  injection h with e1 e2
  have e3:=hv x (List.mem_cons_self ..) y (List.mem_cons_self ..) e1;rw[xL (N:=N) (nx:=nx) (ks:=l'.map (·.1)) e2 rfl fun a ha b hb=>hv a (List.mem_cons_of_mem _ ha) b (List.mem_cons_of_mem _ hb)]
  congr 1
  exact Prod.ext e1 e3
theorem Fu {r r':iC}{f:Nat}{args:List ae}{m:Mem}{π qi:Nat->Nat}(h:r.at f args m π)(h':r'.at f args m qi)(hc:r'.c=r.c)(hN:r'.N=r.N)(ha:r.args.all (nz 20)=true)(mN:r'.args.all (nz 20)=true)(q:Po r.mi r.args r.c=true)(q':Po r'.mi r'.args r'.c=true)(hk:(r.c.map (·.1)).Nodup/\∀x∈r.c,12<=x.1/\x.1<r.N):qi=π:=by
 obtain⟨_,e,⟨l,el,rfl⟩,hi⟩:=h;obtain⟨_,e',⟨l',el',rfl⟩,Ez⟩:=h';rw[hc]at el' q';have hb:∀{l:List (Nat×Nat)},l.map (·.1)=r.c.map (·.1)->∀x∈l,12<=x.1/\x.1<r.N:=fun{l} el x hx=>by
  have :x.1∈r.c.map (·.1):=el▸List.mem_map.2 ⟨x,hx,rfl⟩;obtain⟨y,hy,ey⟩:=List.mem_map.1 this;rw[<-ey];exact hk.2 y hy
 have :l'=l:=xL (N:=0) (nx:=0) el' el fun x hx y hy exy=>by
  have h1:=I0 (N:=r.N) (nx:=m.next) (by rw[el'];exact hk.1) (hb el') x hx;have h2:=I0 (N:=r.N) (nx:=m.next) (by rw[el];exact hk.1) (hb el) y hy;have :x.1∈r.c.map (·.1):=el'▸List.mem_map.2 ⟨x,hx,rfl⟩;obtain⟨z,hz,ez⟩:=List.mem_map.1 this;obtain⟨v,n1,p1⟩:=Kg q hz;obtain⟨v',n2,p2⟩:=Kg q' hz;have :=Yh hi Ez ha mN e e' n1 n2 p1 p2;rw[hN,ez]at this;rw[<-h1,<-h2,<-exy];exact this.symm
 rw[this,hN]
def kP (k:dJ):Nat×Nat×Nat×List (Option ae)×List MapEntry×Nat×List UInt8:=(k.kind,k.sz,k.pos,k.cs,k.es.toList,k.clock,k.str.data.toList)
theorem YF {k k':dJ}(h:kP k=kP k'):iQ k k':=by
 unfold kP at h;simp only[ay]at h;obtain⟨h1,h2,h3,h4,h5,h6,h7⟩:=h;refine⟨h1,h2,h3,h4,Array.toList_inj.1 h5,h6,?_⟩;cases hs:k.str;cases sE:k'.str;rw[hs,sE]at h7;simp only[Array.toList_inj]at h7;rw[h7]
def acG (ids:List Nat)(p:ae×Mem):ae×(Nat×Nat×Nat)×(List Span×List Span)×Bool×Nat×Nat×List (Nat×Nat×Nat×List (Option ae)×List MapEntry×Nat×List UInt8):=
 (p.1,(p.2.base,p.2.home,p.2.floor),(p.2.bl,p.2.opn),p.2.wg.isNone,p.2.deaf,p.2.next,ids.map fun b=>kP (p.2.blk b))
theorem X1 {r:iC}{J:List (Nat×dJ)}{nq:Nat}(h:(Ct r.f r.args r.mi).map (acG (J.map (·.1)))=some (r.v,(12,12,12),([],[]),true,0,nq,J.map fun x=>kP x.2))
  (hJ0:∃k,(0,k)∈J/\iQ k (sY.blk 0))(hJK:∀x∈r.K,∃k,(x.1,k)∈J/\((x.1,k)∈r.L\/iQ k x.2))(hL:∀x∈r.L,x∈J/\(r.N<=x.1\/∃k,(x.1,k)∈r.K/\x.2.kind=k.kind)/\x.1<r.nx/\x.2.live/\okB x.2=true)(hK:kOk r.K r.N=true)(hKn:(r.K.map (·.1)).Nodup)(hn:nq<=r.nx/\r.N<=r.nx)
  (hb:dM ab r.f=true)(ha:r.args.all (nz 20)=true)(hv:nz 20 r.v=true):DN Ct r:=by
 obtain⟨⟨v,mq⟩,hc,hp⟩:=aC.1 h;unfold acG at hp;simp only[ay]at hp;obtain⟨rfl,⟨p1,p2,p3⟩,⟨p4,p5⟩,p6,p7,p8,p9⟩:=hp;have at':∀{b:Nat}{k:dJ},(b,k)∈J->iQ k (mq.blk b):=fun{b k} hx=>by
  rw[List.map_map]at p9;have :∀{l:List (Nat×dJ)},(l.map ((fun b=>kP (mq.blk b))∘fun x=>x.1))=l.map (fun x=>kP x.2)->(b,k)∈l->kP (mq.blk b)=kP k:=by
   intro l
   induction l with
   |nil=>intro _ h;cases h
   |cons y l ih=>
    intro h hm;rw[List.map_cons,List.map_cons]at h
    injection h with e1 e2
    rcases aI.1 hm with rfl|hm
    ·exact e1
    ·exact ih e2 hm
  exact YF (this p9 hx).symm
 have sy:∀{k k':dJ},iQ k k'->iQ k' k:=fun h=>h.symm
 have aki:∀{b:Nat}{k:dJ},(b,k)∈r.K->(Eu sY r.K r.N).blk b={k with aZ:=1}:=fun{b k} hx=>rE (x:=(b,k)) hKn hx
 refine⟨⟨mq,hc,⟨p1,p2,p3,p4,p5,Option.isNone_iff_eq_none.1 p6,p7,fun b H5=>?_,by rw[p8];exact hn.1,hn.2,fun x hx=>?_⟩⟩,hb,ha,hv⟩
 ·rcases Ot hK b H5 with rfl|⟨k,hk,e⟩
  ·obtain⟨k0,h1,h2⟩:=hJ0;refine .inr ((sy (at' h1)).trans (h2.trans ?_));rcases fZ (m:=sY) (L:=r.K) (nx:=r.N) 0 with⟨e,_⟩|⟨k,hm,_⟩
   ·have e:r.mi.blk 0=sY.blk 0:=e;rw[e];exact iQ.P4
   ·have h1:12<=0:=(ug hK hm).1;omega
  ·obtain⟨k',h1,h2|h2⟩:=hJK _ hk
   ·exact .inl ⟨k',h2⟩
   ·refine .inr ((sy (at' h1)).trans (h2.trans ?_));have e:r.mi.blk b={k with aZ:=1}:=e;rw[e];exact⟨rfl,rfl,rfl,rfl,rfl,rfl,rfl⟩
 ·obtain⟨h1,h2,h3,h4,h5⟩:=hL x hx;refine⟨h2.imp id fun⟨k,hk,ek⟩=>?_,h3,at' h1,h4,h5⟩;have e:r.mi.blk x.1={k with aZ:=1}:=aki hk;rw[e];exact⟨fun h=>by have h2:0<k.kind:=(ug hK hk).2.2.1;have h:k.kind=0:=h;omega,ek⟩
end Go.AM
namespace Go.AM
set_option maxRecDepth 1000000
open Go Go.Conc Go.Proofs
def S5:gi:=BR [67,82,69,65,84,69,32,84,65,66,76,69,32,103,40,97,32,73,78,84,44,32,98,32,73,78,84,41] (.tuple #[.iface 91 (.agg #[.string ⟨#[103]⟩,vL 93 0 2 cD]),vI 0,vI 0])
 [(93,{kind:=1,sz:=2,cs:=[some (.string ⟨#[97]⟩),some (vI 1),some (.string ⟨#[98]⟩),some (vI 1)]})] 116
def ajt:gi:=BR [83,69,76,69,67,84,32,42,32,70,82,79,77,32,103] (.tuple #[.iface 108 (.agg #[.bool false,.slice none 0 0,.slice none 0 0,vL 63 0 1 1,.nilIface,.slice none 0 0]),vI 0,vI 0])
 [(63,{kind:=1,sz:=3,cs:=[some (.string ⟨#[103]⟩),some (.string .empty),some (.nilIface)]})] 85
def ajs:gi:=BR [83,69,76,69,67,84,32,42,32,70,82,79,77,32,103,32,85,78,73,79,78,32,65,76,76,32,83,69,76,69,67,84,32,98,44,32,97,32,70,82,79,77,32,103] (.tuple #[.iface 108 (.agg #[.bool false,.slice none 0 0,.slice none 0 0,vL 64 0 1 1,.nilIface,vL 201 0 1 cD]),vI 0,vI 0])
 [(64,{kind:=1,sz:=3,cs:=[some (.string ⟨#[103]⟩),some (.string .empty),some (.nilIface)]}),(170,{kind:=1,sz:=2,cs:=[some (.iface 320 (.agg #[.string .empty,.string ⟨#[98]⟩])),some (.string .empty),some (.iface 320 (.agg #[.string .empty,.string ⟨#[97]⟩])),some (.string .empty)]}),(193,{kind:=1,sz:=3,cs:=[some (.string ⟨#[103]⟩),some (.string .empty),some (.nilIface)]}),(201,{kind:=1,sz:=4,cs:=[some (.bool true),some (vL 170 0 2 cD),some (vL 193 0 1 1),some (.nilIface)]})] 216
def ajr:gi:=BR [83,69,76,69,67,84,32,98,32,65,83,32,97,44,32,97,32,65,83,32,98,32,70,82,79,77,32,103,32,85,78,73,79,78,32,65,76,76,32,83,69,76,69,67,84,32,42,32,70,82,79,77,32,103] (.tuple #[.iface 108 (.agg #[.bool false,.slice none 0 0,vL 139 0 2 cD,vL 163 0 1 1,.nilIface,vL 227 0 1 cD]),vI 0,vI 0])
 [(139,{kind:=1,sz:=2,cs:=[some (.iface 320 (.agg #[.string .empty,.string ⟨#[98]⟩])),some (.string ⟨#[97]⟩),some (.iface 320 (.agg #[.string .empty,.string ⟨#[97]⟩])),some (.string ⟨#[98]⟩)]}),(163,{kind:=1,sz:=3,cs:=[some (.string ⟨#[103]⟩),some (.string .empty),some (.nilIface)]}),(219,{kind:=1,sz:=3,cs:=[some (.string ⟨#[103]⟩),some (.string .empty),some (.nilIface)]}),(227,{kind:=1,sz:=4,cs:=[some (.bool true),some (.slice none 0 0),some (vL 219 0 1 1),some (.nilIface)]})] 242
def ajq:gi:=BR [83,69,76,69,67,84,32,42,32,70,82,79,77,32,103,32,85,78,73,79,78,32,83,69,76,69,67,84,32,42,32,70,82,79,77,32,103] (.tuple #[.iface 108 (.agg #[.bool false,.slice none 0 0,.slice none 0 0,vL 64 0 1 1,.nilIface,vL 125 0 1 cD]),vI 0,vI 0])
 [(64,{kind:=1,sz:=3,cs:=[some (.string ⟨#[103]⟩),some (.string .empty),some (.nilIface)]}),(117,{kind:=1,sz:=3,cs:=[some (.string ⟨#[103]⟩),some (.string .empty),some (.nilIface)]}),(125,{kind:=1,sz:=4,cs:=[some (.bool false),some (.slice none 0 0),some (vL 117 0 1 1),some (.nilIface)]})] 140
def BS:gi:=⟨14,[],sY,vP 13 0,KL,1225⟩
theorem LG:BS.fact=true:=aY
end Go.AM
namespace Go.AM
set_option maxRecDepth 1000000
open Go Go.Conc Go.Proofs
def bk (b sz:Nat)(cs:List ae):Nat×dJ:=(b,{kind:=1,sz:=sz,cs:=cs.map some})
def vk (b:Nat)(cs:List ae):Nat×dJ:=(b,{kind:=1,pos:=1,cs:=cs.map some})
def sB (l:List UInt8):ae:= .string ⟨l.toArray⟩
def qG:List ae:=[sB [97],vI 1,sB [98],vI 1]
def aau:Nat×dJ:=(1000,{kind:=2,clock:=1,es:=#[⟨sB [101],vP 1001 0,0⟩]})
def Ut:Nat×dJ:=(1000,{kind:=2,clock:=2,es:=#[⟨sB [101],vP 1001 0,0⟩,⟨sB [103],vP 1002 0,1⟩]})
def wV:Option Nat->ae
 |none=> .slice none 0 0
 |some n=>vL 1006 0 n cD
def cW:Option Nat->List (Nat×List Nat)
 |none=>[]
 |some _=>[(1006,[0,0,1,1])]
def kG (o:Option Nat):List (Nat×dJ):=[Ut,bk 1002 0 [vL 1004 0 2 cD,wV o],bk 1004 2 qG]
def cG (o:Option Nat):List (Nat×List Nat):=[(1000,[0,0]),(1001,[0,0,0]),(1002,[0,0,1]),(1004,[0,0,1,0])]++cW o
def pC:iC:={f:=38,args:=[vP 1010 0,.agg #[sB [103],vL 93 0 2 cD]],K:=[bk 93 2 qG,aau,bk 1010 0 [.int .i32 1,.int .u32 0,.map (some 1000)]],N:=1100,c:=[(93,[1,1]),(1010,[0,0]),(1000,[0,0,2]),(1001,[0,0,2,0])],v:=vI 0,L:=[(1000,{kind:=2,clock:=2,es:=#[⟨sB [101],vP 1001 0,0⟩,⟨sB [103],vP 1108 0,1⟩]}),vk 1108 [vL 93 0 2 cD,.slice none 0 0]],nx:=1109}
structure CD where
 f:Nat
 A:List (Nat×dJ)
 c:List (Nat×List Nat)
 sv:ae
 qv:ae
 L:List (Nat×dJ)
 nx:Nat
def fK (d:CD)(o:Option Nat):iC:={f:=d.f,args:=[.map (some 1000),d.sv],K:=d.A++kG o,N:=1100,c:=d.c++cG o,v:= .tuple #[d.qv,vI 0],L:=d.L,nx:=d.nx}
def iD (a b:Nat):CD:={f:=73,sv:= .agg #[sB [103],vL 137 0 1 1],A:=(GD a b).L,c:=[(125,[1,1,0]),(137,[1,1])],qv:=vL 1112 0 1 cD,L:=[vk 1104 [vI 1,vI a,.string .empty,.bool false],vk 1108 [vI 1,vI b,.string .empty,.bool false],bk 1110 1 [.iface 317 (vP 1104 0),.iface 317 (vP 1108 0)],bk 1112 1 [vL 1110 0 2 cD]],nx:=1113}
def q1D:CD:={f:=75,sv:= .agg #[.bool false,.slice none 0 0,.slice none 0 0,vL 63 0 1 1,.nilIface,.slice none 0 0],A:=ajt.L,c:=[(63,[1,3])],qv:= .agg #[.slice none 0 0,vL 1129 0 2 cD,vL 1116 0 1 cD,.nilIface,vL 1127 0 2 cD,.slice none 0 0],L:=[bk 1116 2 [vP 1002 0,.nilIface],vk 1119 [vP 1002 0,vI 0,vI 0],vk 1125 [vP 1002 0,vI 0,vI 1],bk 1127 1 [.iface 396 (vP 1119 0),.iface 396 (vP 1125 0)],bk 1129 2 qG],nx:=1132}
def q2D:CD:={f:=75,sv:= .agg #[.bool false,.slice none 0 0,.slice none 0 0,vL 64 0 1 1,.nilIface,vL 201 0 1 cD],A:=ajs.L,c:=[(64,[1,3]),(170,[1,5,1]),(193,[1,5,2]),(201,[1,5])],qv:= .agg #[.slice none 0 0,vL 1129 0 2 cD,vL 1116 0 1 cD,.nilIface,vL 1127 0 2 cD,vL 1186 0 1 cD],L:=[bk 1116 2 [vP 1002 0,.nilIface],vk 1119 [vP 1002 0,vI 0,vI 0],vk 1125 [vP 1002 0,vI 0,vI 1],bk 1127 1 [.iface 396 (vP 1119 0),.iface 396 (vP 1125 0)],bk 1129 2 qG,bk 1142 2 [vP 1002 0,.nilIface],vk 1150 [vP 1002 0,vI 0,vI 1],vk 1166 [vP 1002 0,vI 0,vI 0],bk 1170 1 [.iface 396 (vP 1150 0),.iface 396 (vP 1166 0)],bk 1186 4 [.bool true,vL 1142 0 1 cD,.nilIface,vL 1170 0 2 cD]],nx:=1188}
def q3D:CD:={f:=75,sv:= .agg #[.bool false,.slice none 0 0,vL 139 0 2 cD,vL 163 0 1 1,.nilIface,vL 227 0 1 cD],A:=ajr.L,c:=[(139,[1,2]),(163,[1,3]),(219,[1,5,2]),(227,[1,5])],qv:= .agg #[.slice none 0 0,vL 1149 0 2 cD,vL 1116 0 1 cD,.nilIface,vL 1144 0 2 cD,vL 1186 0 1 cD],L:=[bk 1116 2 [vP 1002 0,.nilIface],vk 1124 [vP 1002 0,vI 0,vI 1],vk 1140 [vP 1002 0,vI 0,vI 0],bk 1144 1 [.iface 396 (vP 1124 0),.iface 396 (vP 1140 0)],bk 1149 2 qG,bk 1162 2 [vP 1002 0,.nilIface],vk 1165 [vP 1002 0,vI 0,vI 0],vk 1171 [vP 1002 0,vI 0,vI 1],bk 1173 1 [.iface 396 (vP 1165 0),.iface 396 (vP 1171 0)],bk 1186 4 [.bool true,vL 1162 0 1 cD,.nilIface,vL 1173 0 2 cD]],nx:=1188}
def q4D:CD:={f:=75,sv:= .agg #[.bool false,.slice none 0 0,.slice none 0 0,vL 64 0 1 1,.nilIface,vL 125 0 1 cD],A:=ajq.L,c:=[(64,[1,3]),(117,[1,5,2]),(125,[1,5])],qv:= .agg #[.slice none 0 0,vL 1129 0 2 cD,vL 1116 0 1 cD,.nilIface,vL 1127 0 2 cD,vL 1166 0 1 cD],L:=[bk 1116 2 [vP 1002 0,.nilIface],vk 1119 [vP 1002 0,vI 0,vI 0],vk 1125 [vP 1002 0,vI 0,vI 1],bk 1127 1 [.iface 396 (vP 1119 0),.iface 396 (vP 1125 0)],bk 1129 2 qG,bk 1142 2 [vP 1002 0,.nilIface],vk 1145 [vP 1002 0,vI 0,vI 0],vk 1151 [vP 1002 0,vI 0,vI 1],bk 1153 1 [.iface 396 (vP 1145 0),.iface 396 (vP 1151 0)],bk 1166 4 [.bool false,vL 1142 0 1 cD,.nilIface,vL 1153 0 2 cD]],nx:=1168}
def OE:Nat×dJ:=(0,{kind:=1,cs:=cJ})
def lOk (K L:List (Nat×dJ))(N nx:Nat):Bool:=L.all fun x=>(Nat.ble N x.1||K.any fun y=>Nat.beq y.1 x.1&&Nat.beq x.2.kind y.2.kind)&&Nat.blt x.1 nx&&Nat.ble x.2.kind 3&&(x.2.cs.all (·.isSome))&&okB x.2
def ndB:List Nat->Bool
 | []=>true
 |x::l=>l.all (fun y=>!Nat.beq x y)&&ndB l
def iC.tD(r:iC):Bool:=lOk r.K r.L r.N r.nx&&kOk r.K r.N&&ndB (r.K.map (·.1))&&ndB (r.c.map (·.1))&&(r.c.all fun x=>Nat.ble 12 x.1&&Nat.blt x.1 r.N)&&Nat.ble r.N r.nx&&r.args.all (nz 20)&&nz 20 r.v&&ndB (r.L.map (·.1))
def iC.J(r:iC):List (Nat×dJ):=OE::r.K++r.L
structure iC.Fact(r:iC)(J:List (Nat×dJ)):Prop where
 run:(Ct r.f r.args r.mi).map (acG (J.map (·.1)))=some (r.v,(12,12,12),([],[]),true,0,r.nx,J.map fun x=>kP x.2)
 tD:r.tD=true
 cert:Po r.mi r.args r.c=true
theorem pB:pC.Fact (OE::bk 93 2 qG::bk 1010 0 [.int .i32 1,.int .u32 0,.map (some 1000)]::pC.L):=⟨aY,aY,aY⟩
theorem OI (a b:Nat)(o:Option Nat):(fK (iD a b) o).Fact (fK (iD a b) o).J:=by cases o<;>exact⟨aY,aY,aY⟩
theorem Tn (o:Option Nat):(fK q1D o).Fact (fK q1D o).J:=by cases o<;>exact⟨aY,aY,aY⟩
theorem Tl (o:Option Nat):(fK q2D o).Fact (fK q2D o).J:=by cases o<;>exact⟨aY,aY,aY⟩
theorem Tk (o:Option Nat):(fK q3D o).Fact (fK q3D o).J:=by cases o<;>exact⟨aY,aY,aY⟩
theorem Tj (o:Option Nat):(fK q4D o).Fact (fK q4D o).J:=by cases o<;>exact⟨aY,aY,aY⟩
end Go.AM
namespace Go.AM
set_option maxRecDepth 1000000
open Go Go.Conc Go.Proofs
def sh (lo b:Nat):Nat:=if b<12 then b else lo+(b-12)
theorem Fb {lo b:Nat}(h:12<=b):sh lo b=lo+(b-12):=bS aj
def tj (lo:Nat)(L:List (Nat×dJ))(m:Mem):Prop:=∀b sz cs,mc L b=some (sz,cs)->12<=b/\Obj m (sh lo b) sz (cs.map (bL (sh lo) 20))
theorem tj.ext{lo:Nat}{L:List (Nat×dJ)}{m m':Mem}{S:Nat->Prop}(h:tj lo L m)(k:Kp m m' S)(hS:∀b,S b->b<lo):tj lo L m':=fun b sz cs e=>by
 obtain⟨h1,h2⟩:=h b sz cs e;refine⟨h1,h2.ext k fun hb=>?_⟩;have :=hS _ hb;rw[Fb h1]at this;omega
structure ZR (m:Mem)(mp pe pg:Nat):Prop where
 lt:mp<m.next
 kind:(m.blk mp).kind=2
 es:(m.blk mp).es.toList=[⟨sB [101],vP pe 0,0⟩,⟨sB [103],vP pg 0,1⟩]
 clock:(m.blk mp).clock=2
 yL:aL m.bl mp=false
 home:m.home<=mp
theorem ZR.ext{m m':Mem}{mp pe pg:Nat}{S:Nat->Prop}(h:ZR m mp pe pg)(k:Kp m m' S)(hs:¬S mp):ZR m' mp pe pg:=by
 have e:=k.blk mp h.lt hs;exact⟨aW h.lt k.next,by rw[e];exact h.kind,by rw[e];exact h.es,by rw[e];exact h.clock,by rw[k.bl];exact h.yL,by rw[k.home];exact h.home⟩
structure GX (m:Mem)(mp pe pg cg:Nat)(rl:ae):Prop where
 map:ZR m mp pe pg
 g:Obj m pg 0 [vL cg 0 2 cD,rl]
 c:Obj m cg 2 qG
 w:rl= .slice none 0 0\/∃rb n,rl=vL rb 0 n cD/\rb<m.next
 pe:pe<m.next
 base:(m.base<=mp/\m.base<=pg/\m.base<=cg)/\m.home<=mp/\m.home<=pg/\m.home<=cg
structure ER (m:Mem)(lo mp pg cg:Nat):Prop where
 lt:mp<lo/\pg<lo/\cg<lo
 lo:m.base<=lo/\m.home<=lo
theorem ER.ext{m m':Mem}{lo mp pg cg:Nat}{S:Nat->Prop}(h:ER m lo mp pg cg)(k:Kp m m' S):ER m' lo mp pg cg:=⟨h.lt,by rw[k.base,k.home];exact h.lo⟩
theorem GX.ext{m m':Mem}{mp pe pg cg:Nat}{rl:ae}{S:Nat->Prop}(h:GX m mp pe pg cg rl)(k:Kp m m' S)(hs:¬S mp/\¬S pg/\¬S cg):GX m' mp pe pg cg rl:=by
 have n:=k.next;refine⟨h.map.ext k hs.1,h.g.ext k hs.2.1,h.c.ext k hs.2.2,h.w.imp id fun⟨rb,n',e,hl⟩=>⟨rb,n',e,aj⟩,aW h.pe n,?_⟩;rw[k.base,k.home];exact h.base
def oW (rl:ae):Option Nat:=match rl with | .slice (some _) n _=>some n|_=>none
def lW (rl:ae):List (Nat×Nat):=match rl with | .slice (some a) _ _=>[(1006,a.block)] |_=>[]
def lG (mp pe pg cg:Nat)(rl:ae):List (Nat×Nat):=[(1000,mp),(1001,pe),(1002,pg),(1004,cg)]++lW rl
def lA (lo:Nat)(A:List (Nat×dJ))(mp pe pg cg:Nat)(rl:ae):List (Nat×Nat):=A.map (fun x=>(x.1,sh lo x.1))++lG mp pe pg cg rl
def aOk:Nat->List (Nat×dJ)->Bool
 |_,[]=>true
 |lo,x::l=>Nat.ble lo x.1&&Nat.blt x.1 1000&&Nat.beq x.2.kind 1&&(match E0 x.2.cs with |some cs=>cs.all (nz 20)|none=>false)&&aOk (x.1+1) l
theorem DK:∀{lo:Nat}{A:List (Nat×dJ)},aOk lo A=true->(∀x∈A,lo<=x.1/\x.1<1000/\x.2.kind=1/\∃cs,E0 x.2.cs=some cs/\mc A x.1=some (x.2.sz,cs))/\(A.map (·.1)).Nodup
 |_,[],_=>⟨fun x hx=>(by cases hx),List.nodup_nil⟩
 |lo,x::l,h=>by
  unfold aOk at h;simp only[ag]at h;obtain⟨⟨⟨⟨h1,h2⟩,h3⟩,h4⟩,h5⟩:=h;have h1:=af h1;have h2:x.1<1000:=af h2;have h3:=aA h3;obtain⟨q1,q2⟩:=DK h5;refine⟨fun y hy=>?_,?_⟩
  ·rcases aI.1 hy with rfl|hy
   ·split at h4
    ·rename_i cs gO;refine⟨h1,h2,h3,cs,gO,?_⟩;unfold mc;rw[bC (Nat.beq_refl _),h3,bC (by rfl),gO]
    ·cases h4
   ·obtain⟨a1,a2,a3,cs,a4,a5⟩:=q1 y hy;refine⟨aj,a2,a3,cs,a4,?_⟩;have :Nat.beq x.1 y.1=false:=by
     cases hb:Nat.beq x.1 y.1 with
     |false=>rfl
     |true=>have :=aA hb;omega
    unfold mc;rw[this];exact a5
  ·rw[List.map_cons,List.nodup_cons];refine⟨fun hm=>?_,q2⟩;obtain⟨y,hy,e⟩:=List.mem_map.1 hm;have :=(q1 y hy).1;omega
def UF (p:Nat->Bool):Nat->ae->Bool
 |0,v=>true
 |n+1,v=>match v with
  | .pointer (some a)=>p a.block
  | .slice (some a) _ _=>p a.block
  | .map (some r)=>p r
  | .func _ f c=>f.toList.all (UF p n)&&c.toList.all (UF p n)
  | .iface _ x=>UF p n x
  | .agg cs=>cs.toList.all (UF p n)
  | .tuple cs=>cs.toList.all (UF p n)
  |_=>true
theorem NZ {π qi:Nat->Nat}{p:Nat->Bool}(hp:∀b,p b=true->π b=qi b):∀{n:Nat}{v:ae},UF p n v=true->bL π n v=bL qi n v:=by
 intro n
 induction n with
 |zero=>intro v _;rfl
 |succ n ih=>
  have ihL:∀{l:List ae},l.all (UF p n)=true->l.map (bL π n)=l.map (bL qi n):=fun h=>List.map_congr_left fun v hv=>ih (aB.1 h v hv)
  intro v h;cases v with
  |pointer a=>cases a with
   |none=>rfl
   |some a=>show ae.pointer (some ⟨π a.block,a.off,a.spot⟩)=_;rw[hp _ h];rfl
  |slice a l c=>cases a with
   |none=>rfl
   |some a=>show ae.slice (some ⟨π a.block,a.off,a.spot⟩) l c=_;rw[hp _ h];rfl
  |map r=>cases r with
   |none=>rfl
   |some r=>show ae.map (some (π r))=_;rw[hp _ h];rfl
  |func fn f c=>
   have h:(f.toList.all (UF p n)&&c.toList.all (UF p n))=true:=h;rw[ag]at h
   show ae.func fn (f.toList.map (bL π n)).toArray (c.toList.map (bL π n)).toArray=_
   rw[ihL h.1,ihL h.2];rfl
  |iface t x=>show ae.iface t (bL π n x)=_;rw[ih h];rfl
  |agg cs=>show ae.agg (cs.toList.map (bL π n)).toArray=_;rw[ihL h];rfl
  |tuple cs=>show ae.tuple (cs.toList.map (bL π n)).toArray=_;rw[ihL h];rfl
  |_=>rfl
def aIn (A:List (Nat×dJ)):Bool:=A.all fun x=>x.2.cs.all fun c=>match c with |some v=>UF (fun b=>Nat.blt b 12||A.any fun y=>Nat.beq y.1 b) 20 v|none=>true
section
variable {m:Mem}{lo mp pe pg cg:Nat}{rl:ae}{A:List (Nat×dJ)}
theorem aaf (hA:aOk 12 A=true){x:Nat×dJ}(hx:x∈A):DS 1100 m.next (lA lo A mp pe pg cg rl) x.1=sh lo x.1:=by
 obtain⟨q1,q2⟩:=DK hA;obtain⟨h1,h2,_⟩:=q1 x hx;unfold DS lA;rw[bS aj,bC aj,List.find?_append];have :∀{A:List (Nat×dJ)},(A.map (·.1)).Nodup->x∈A->(A.map fun y=>(y.1,sh lo y.1)).find? (fun y=>Nat.beq y.1 x.1)=some (x.1,sh lo x.1):=by
  intro A
  induction A with
  |nil=>intro _ h;cases h
  |cons y l ih=>
   intro hn hx;rw[List.map_cons,List.nodup_cons]at hn;rw[List.map_cons,List.find?_cons];rcases aI.1 hx with rfl|hx
   ·simp only[Nat.beq_refl]
   ·have :Nat.beq y.1 x.1=false:=by
     cases hb:Nat.beq y.1 x.1 with
     |false=>rfl
     |true=>exact absurd (List.mem_map.2 ⟨x,hx,(aA hb).symm⟩) hn.1
    simp only[this];exact ih hn.2 hx
 rw[this q2 hx];rfl
theorem BY (hA:aOk 12 A=true){b:Nat}(hb:1000<=b)(iB:b<1100):DS 1100 m.next (lA lo A mp pe pg cg rl) b=DS 1100 m.next (lG mp pe pg cg rl) b:=by
 obtain⟨q1,_⟩:=DK hA;unfold DS lA;rw[bS aj,bC iB,bS aj,bC iB,List.find?_append];have :(A.map fun y=>(y.1,sh lo y.1)).find? (fun y=>Nat.beq y.1 b)=none:=by
  rw[List.find?_eq_none];intro y hy h;obtain⟨x,hx,rfl⟩:=List.mem_map.1 hy;have :=aA h;have :=(q1 x hx).2.1;simp only at*;omega
 rw[this];rfl
theorem X8 {b:Nat}(hb:1100<=b):DS 1100 m.next (lA lo A mp pe pg cg rl) b=m.next+(b-1100):=by
 unfold DS;rw[bS aj,bS aj]
theorem alJ (hA:aOk 12 A=true)(hI:aIn A=true)(X:GX m mp pe pg cg rl)(jH:ER m lo mp pg cg)(hL:tj lo A m):Emb m (DS 1100 m.next (lA lo A mp pe pg cg rl)) (A++kG (oW rl)):=by
 obtain⟨q1,q2⟩:=DK hA;obtain⟨π,tq⟩:∃π,π=DS 1100 m.next (lA lo A mp pe pg cg rl):=⟨_,rfl⟩;rw[<-tq];have pA:∀{x:Nat×dJ},x∈A->π x.1=sh lo x.1:=fun hx=>by rw[tq];exact aaf hA hx
 have p0:π 1000=mp:=by rw[tq,BY hA eS eS];rfl
 have p1:π 1001=pe:=by rw[tq,BY hA eS eS];rfl
 have p2:π 1002=pg:=by rw[tq,BY hA eS eS];rfl
 have p4:π 1004=cg:=by rw[tq,BY hA eS eS];rfl
 have hgk:=X.g.kind;have KP:=X.c.kind;have AP:=X.map.kind;have ne1:mp≠pg:=fun e=>by rw[e,hgk]at AP;cases AP
 have ne2:mp≠cg:=fun e=>by rw[e,KP]at AP;cases AP
 have ne3:pg≠cg:=fun e=>by
  have h1:=X.g.sz;have h2:=X.c.sz;rw[e,h2]at h1;cases h1
 have hw:bL π 20 (wV (oW rl))=rl:=by
  rcases X.w with rfl|⟨rb,n,rfl,_⟩
  ·rfl
  ·show vL (π 1006) 0 n cD=_
   rw[tq,BY hA eS eS];rfl
 have mem:∀{x:Nat×dJ},x∈A++kG (oW rl)->x∈A\/x=Ut\/x=bk 1002 0 [vL 1004 0 2 cD,wV (oW rl)]\/x=bk 1004 2 qG:=fun hx=>by
  rcases List.mem_append.1 hx with h|h
  ·exact .inl h
  ·right
   simpa[kG]using h
 have ge:∀{x:Nat×dJ},x∈A->lo<=π x.1:=fun hx=>by
  rw[pA hx,Fb (q1 _ hx).1];omega
 refine⟨fun x hx=>?_,fun x hx=>?_,fun x hx=>?_,fun x hx y hy e=>?_⟩
 ·rcases mem hx with h|rfl|rfl|rfl
  ·obtain⟨_,_,_,cs,_,h5⟩:=q1 x h;rw[pA h];exact(hL _ _ _ h5).2.lt
  ·show π 1000<_;rw[p0];exact X.map.lt
  ·show π 1002<_;rw[p2];exact X.g.lt
  ·show π 1004<_;rw[p4];exact X.c.lt
 ·rcases mem hx with h|rfl|rfl|rfl
  ·have :=ge h;have :=jH.lo;omega
  ·show m.base<=π 1000/\_<=π 1000;rw[p0];exact⟨X.base.1.1,X.base.2.1⟩
  ·show m.base<=π 1002/\_<=π 1002;rw[p2];exact⟨X.base.1.2.1,X.base.2.2.1⟩
  ·show m.base<=π 1004/\_<=π 1004;rw[p4];exact⟨X.base.1.2.2,X.base.2.2.2⟩
 ·rcases mem hx with h|rfl|rfl|rfl
  ·obtain⟨_,_,h3,cs,h4,h5⟩:=q1 x h;have o:=(hL _ _ _ h5).2;rw[pA h];refine⟨o.kind.trans h3.symm,fun _=>⟨o.sz,?_⟩,fun hk=>(by rw[h3]at hk;cases hk),fun hk=>by rw[h3]at hk;cases hk⟩;rw[o.cs,xh h4,List.map_map,List.map_map];refine List.map_congr_left fun v hv=>?_
   show some (bL (sh lo) 20 v)=some (bL π 20 v)
   refine congrArg some (NZ (p:=fun b=>Nat.blt b 12||A.any fun y=>Nat.beq y.1 b) (fun b hb=>?_) ?_)
   ·rw[Bool.or_eq_true]at hb;rcases hb with hb|hb
    ·have hb:b<12:=af hb;rw[tq];unfold sh DS;rw[bC hb,bC hb]
    ·obtain⟨y,hy,e⟩:=List.any_eq_true.1 hb;rw[<-aA e,pA hy]
   ·have h1:=aB.1 (aB.1 hI x h) (some v) (by rw[xh h4];exact List.mem_map.2 ⟨v,hv,rfl⟩);exact h1
  ·show vx π Ut.2 (m.blk (π 1000))
   rw[p0];refine⟨AP,fun h=>(by cases h),fun _=>⟨?_,X.map.clock⟩,fun h=>by cases h⟩;rw[X.map.es]
   show _=([⟨sB [101],vP (π 1001) 0,0⟩,⟨sB [103],vP (π 1002) 0,1⟩]:List MapEntry)
   rw[p1,p2]
  ·show vx π (bk 1002 0 [vL 1004 0 2 cD,wV (oW rl)]).2 (m.blk (π 1002))
   rw[p2];refine⟨hgk,fun _=>⟨X.g.sz,?_⟩,fun h=>(by cases h),fun h=>by cases h⟩;rw[X.g.cs]
   show _=[some (vL (π 1004) 0 2 cD),some (bL π 20 (wV (oW rl)))]
   rw[p4,hw];rfl
  ·show vx π (bk 1004 2 qG).2 (m.blk (π 1004))
   rw[p4];refine⟨KP,fun _=>⟨X.c.sz,?_⟩,fun h=>(by cases h),fun h=>by cases h⟩;rw[X.c.cs];rfl
 ·have lt:=jH.lt;rcases mem hx with h|rfl|rfl|rfl<;>rcases mem hy with h'|rfl|rfl|rfl
  ·rw[pA h,pA h',Fb (q1 _ h).1,Fb (q1 _ h').1]at e;have :=(q1 _ h).1;have :=(q1 _ h').1;omega
  ·have :=ge h;have e:π x.1=π 1000:=e;rw[p0]at e;omega
  ·have :=ge h;have e:π x.1=π 1002:=e;rw[p2]at e;omega
  ·have :=ge h;have e:π x.1=π 1004:=e;rw[p4]at e;omega
  ·have :=ge h';have e:π 1000=π y.1:=e;rw[p0]at e;omega
  ·rfl
  ·have e:π 1000=π 1002:=e;rw[p0,p2]at e;exact absurd e ne1
  ·have e:π 1000=π 1004:=e;rw[p0,p4]at e;exact absurd e ne2
  ·have :=ge h';have e:π 1002=π y.1:=e;rw[p2]at e;omega
  ·have e:π 1002=π 1000:=e;rw[p0,p2]at e;exact absurd e.symm ne1
  ·rfl
  ·have e:π 1002=π 1004:=e;rw[p2,p4]at e;exact absurd e ne3
  ·have :=ge h';have e:π 1004=π y.1:=e;rw[p4]at e;omega
  ·have e:π 1004=π 1000:=e;rw[p4,p0]at e;exact absurd e.symm ne2
  ·have e:π 1004=π 1002:=e;rw[p4,p2]at e;exact absurd e.symm ne3
  ·rfl
end
end Go.AM
namespace Go.AM
set_option maxRecDepth 1000000
open Go Go.Conc Go.Proofs
def Eg (π:Nat->Nat):X->X
 | .bin op l r=> .bin op (Eg π l) (Eg π r)
 | .no x=> .no (Eg π x)
 | .KI x=> .KI (Eg π x)
 | .lit v=> .lit v
 | .jO p i j=> .jO (π p) i j
def Na (L:List (Nat×dJ))(t:Nat)(v:ae):Option (List ae):=match v with
 | .iface u (.pointer (some a))=>if Nat.beq u t&&Nat.beq a.off 0&&a.spot.isNone then(match mc L a.block with |some (sz,cs)=>if Nat.beq sz 0 then some cs else none|none=>none)else none
 |_=>none
theorem yl {π:Nat->Nat}{L:List (Nat×dJ)}{m:Mem}{B:Nat->Prop}(hL:qY π L m B){t:Nat}{v:ae}{cs:List ae}(h:Na L t v=some cs):∃b,bL π 20 v= .iface t (vP b 0)/\B b/\Obj m b 0 (cs.map (bL π 20)):=by
 unfold Na at h
 split at h
 ·rename_i u a
  split at h
  ·rename_i hc;simp only[ag]at hc
   split at h
   ·rename_i sz gQ hg
    split at h
    ·rename_i hz;cases h;obtain⟨hb,ho⟩:=hL _ _ _ hg;obtain⟨b,o,sp⟩:=a;have e1:o=0:=aA hc.1.2;have e2:sp=none:=Option.isNone_iff_eq_none.1 hc.2;subst e1 e2;rw[aA hz]at ho;rw[aA hc.1.1];exact⟨π b,rfl,hb,ho⟩
    ·cases h
   ·cases h
  ·cases h
 ·cases h
def AH (L:List (Nat×dJ)):X->ae->Bool
 | .bin op l r,v=>(match Na L 305 v with |some [o,a,b]=>J3 20 (vI op) o&&AH L l a&&AH L r b|_=>false)
 | .no x,v=>(match Na L 390 v with |some [a]=>AH L x a|_=>false)
 | .KI x,v=>(match Na L 393 v with |some [a]=>AH L x a|_=>false)
 | .lit u,v=>(match Na L 317 v with |some cs=>VC (J3 20) u.cells cs|none=>false)
 | .jO p i j,v=>(match Na L 396 v with |some cs=>VC (J3 20) [vP p 0,vI i,vI j] cs|none=>false)
theorem uP {π:Nat->Nat}{L:List (Nat×dJ)}{m:Mem}{B:Nat->Prop}(hL:qY π L m B):∀{x:X}{v:ae},AH L x v=true->XR B (Eg π x) m (bL π 20 v)
 | .bin op l r,v,h=>by
  unfold AH at h
  split at h
  ·rename_i o a b hc;simp only[ag]at h;obtain⟨b',e,hb,ho⟩:=yl hL hc;rw[<-oy h.1.1]at ho;exact⟨b',_,_,e,hb,ho,uP hL h.1.2,uP hL h.2⟩
  ·cases h
 | .no x,v,h=>by
  unfold AH at h
  split at h
  ·rename_i a hc;obtain⟨b',e,hb,ho⟩:=yl hL hc;exact⟨b',_,e,hb,ho,uP hL h⟩
  ·cases h
 | .KI x,v,h=>by
  unfold AH at h
  split at h
  ·rename_i a hc;obtain⟨b',e,hb,ho⟩:=yl hL hc;exact⟨b',_,e,hb,ho,uP hL h⟩
  ·cases h
 | .lit u,v,h=>by
  unfold AH at h
  split at h
  ·rename_i cs hc;obtain⟨b',e,hb,ho⟩:=yl hL hc;rw[<-wz (fun a b=>oy) h]at ho;exact⟨b',e,hb,ho⟩
  ·cases h
 | .jO p i j,v,h=>by
  unfold AH at h
  split at h
  ·rename_i cs hc;obtain⟨b',e,hb,ho⟩:=yl hL hc;rw[<-wz (fun a b=>oy) h]at ho;exact⟨b',e,hb,ho⟩
  ·cases h
structure EN {α:Type}(E:nU α) where
 iJ:(Nat->Nat)->α->α
 tD:List (Nat×dJ)->α->ae->Bool
 ok:∀{π:Nat->Nat}{L:List (Nat×dJ)} {m:Mem}{B:Nat->Prop},qY π L m B->∀{x:α}{v:ae},tD L x v=true->E.R B (iJ π x) m (bL π 20 v)
theorem PQ {α:Type}{sz:Nat}{c:α->ae->Bool}{Q:α->ae->Prop}{f:α->α}{π:Nat->Nat}(hc:∀x v,c x v=true->Q (f x) (bL π 20 v)){l:List α}{cs:List ae}(h:zQ sz c l cs=true):cA (fun x u=>Q x u/\okV sz u) (l.map f) (cs.map (bL π 20)):=by
 have :=xn (Q:=fun x v=>Q (f x) v) hc h;have key:∀{l:List α}{cs:List ae},cA (fun x u=>Q (f x) u/\okV sz u) l cs->cA (fun x u=>Q x u/\okV sz u) (l.map f) cs:=by
  intro l
  induction l with
  |nil=>intro cs h;exact h
  |cons x l ih=>
   rintro cs ⟨v,r,e,q,h⟩;exact⟨v,r,e,q,ih h⟩
 exact key this
def zP {α:Type}{E:nU α}(c:EN E)(sz:Nat):EN (aT E sz) where
 iJ π l:=l.map (c.iJ π)
 tD L l v:=match v with
  | .slice none n cap=>Nat.beq n 0&&Nat.beq cap 0&&l.isEmpty
  | .slice (some a) n cap=>Nat.beq a.off 0&&a.spot.isNone&&Nat.beq n l.length&&(Nat.beq cap cD||Nat.beq cap n)&&(match mc L a.block with
   |some (Sy,cs)=>Nat.beq Sy sz&&zQ sz (c.tD L) l cs
   |none=>false)
  |_=>false
 ok:=by
  intro π L m B hL l v h
  split at h
  ·rename_i n cap;simp only[ag]at h;obtain⟨⟨h1,h2⟩,h3⟩:=h;rw[aA h1,aA h2,List.isEmpty_iff.1 h3];exact aT.nil
  ·rename_i a n cap;simp only[ag]at h;obtain⟨⟨⟨⟨h1,h2⟩,h3⟩,h4⟩,h5⟩:=h
   split at h5
   ·rename_i Sy cs hg;rw[ag]at h5;obtain⟨hb,ho⟩:=hL _ _ _ hg;have gO:=PQ (Q:=fun x u=>E.R B x m u) (π:=π) (f:=c.iJ π) (fun x v=>c.ok hL (x:=x) (v:=v)) h5.2;obtain⟨b,o,sp⟩:=a;have e1:o=0:=aA h1;have e2:sp=none:=Option.isNone_iff_eq_none.1 h2;subst e1 e2;have e3:=aA h3;subst e3;rw[aA h5.1]at ho;refine⟨cs.map (bL π 20),⟨gO.one.1,.inr ⟨π b,cap,by rw[List.length_map];rfl,ho,?_⟩⟩,fun b' o' n' c' e=>by cases e;exact hb,gO⟩;rw[Bool.or_eq_true]at h4;rw[List.length_map];exact h4.imp aA aA
   ·cases h5
  ·cases h
def tlX:EN nR where
 iJ:=Eg
 tD:=AH
 ok:=by
  intro π L m B hL x v h;exact uP hL h
def tXo:EN iP where
 iJ π x:=x.map (Eg π)
 tD L x v:=match x,v with
  |none,.nilIface=>true
  |some x,v=>AH L x v
  |_,_=>false
 ok:=by
  intro π L m B hL x v h
  split at h
  ·rfl
  ·exact uP hL h
  ·cases h
def tCS:EN J7 where
 iJ π x:=⟨π x.p,x.on.map (Eg π)⟩
 tD L x v:=match v with
  | .agg cs=>(match cs.toList with | [p,o]=>Ws [p,o]&&J3 20 (vP x.p 0) p&&tXo.tD L x.on o|_=>false)
  |_=>false
 ok:=by
  intro π L m B hL x v h
  split at h
  ·rename_i cs
   split at h
   ·rename_i p o gO;simp only[ag]at h;have e:cs=[p,o].toArray:=by rw[<-gO]
    rw[e,lT h.1.1];refine⟨bL π 20 o,?_,tXo.ok hL h.2⟩;rw[<-oy h.1.2];rfl
   ·cases h
  ·cases h
def vY:EN me where
 iJ π x:=⟨x.mm.map (tCS.iJ π),x.wh.map (Eg π),x.rU.map (Eg π)⟩
 tD L x v:=match v with
  | .agg cs=>(match cs.toList with | [a,w,b]=>Ws [a,w,b]&&(zP tCS 2).tD L x.mm a&&tXo.tD L x.wh w&&(zP tlX 1).tD L x.rU b|_=>false)
  |_=>false
 ok:=by
  intro π L m B hL x v h
  split at h
  ·rename_i cs
   split at h
   ·rename_i a w b gO;simp only[ag]at h;have e:cs=[a,w,b].toArray:=by rw[<-gO]
    rw[e,lT h.1.1.1];exact⟨_,_,_,rfl,(zP tCS 2).ok hL h.1.1.2,tXo.ok hL h.1.2,(zP tlX 1).ok hL h.2⟩
   ·cases h
  ·cases h
def tCU:EN J6 where
 iJ π x:=⟨x.all,vY.iJ π x.SM⟩
 tD L x v:=match v with
  | .agg cs=>(match cs.toList with | [z,a,w,b]=>Ws [z,a,w,b]&&Ws [a,w,b]&&J3 20 (.bool x.all) z&&vY.tD L x.SM (.agg [a,w,b].toArray)|_=>false)
  |_=>false
 ok:=by
  intro π L m B hL x v h
  split at h
  ·rename_i cs
   split at h
   ·rename_i z a w b gO;simp only[ag]at h;have e:cs=[z,a,w,b].toArray:=by rw[<-gO]
    have q:=vY.ok hL h.2;rw[lT h.1.1.2]at q;rw[e,lT h.1.1.1];refine⟨_,_,_,?_,q⟩;rw[<-oy h.1.2];rfl
   ·cases h
  ·cases h
def E9:EN jr where
 iJ π x:=⟨vY.iJ π x.first,x.us.map (tCU.iJ π)⟩
 tD L x v:=match v with
  | .agg cs=>(match cs.toList with | [a,w,b,u]=>Ws [a,w,b,u]&&Ws [a,w,b]&&vY.tD L x.first (.agg [a,w,b].toArray)&&(zP tCU 4).tD L x.us u|_=>false)
  |_=>false
 ok:=by
  intro π L m B hL x v h
  split at h
  ·rename_i cs
   split at h
   ·rename_i a w b u gO;simp only[ag]at h;have e:cs=[a,w,b,u].toArray:=by rw[<-gO]
    have q:=vY.ok hL h.1.2;rw[lT h.1.1.2]at q;rw[e,lT h.1.1.1];exact⟨_,_,_,_,rfl,q,(zP tCU 4).ok hL h.2⟩
   ·cases h
  ·cases h
def E8:EN rL where
 iJ π x:=⟨π x.p,x.self,E9.iJ π x.b⟩
 tD L x v:=match v with
  | .agg cs=>(match cs.toList with | [p,z,a,w,b,u]=>Ws [p,z,a,w,b,u]&&Ws [a,w,b,u]&&J3 20 (vP x.p 0) p&&J3 20 (.bool x.self) z&&E9.tD L x.b (.agg [a,w,b,u].toArray)|_=>false)
  |_=>false
 ok:=by
  intro π L m B hL x v h
  split at h
  ·rename_i cs
   split at h
   ·rename_i p z a w b u gO;simp only[ag]at h;have e:cs=[p,z,a,w,b,u].toArray:=by rw[<-gO]
    have q:=E9.ok hL h.2;rw[lT h.1.1.1.2]at q;rw[e,lT h.1.1.1.1];refine⟨_,_,_,_,?_,q⟩;rw[<-oy h.1.1.2,<-oy h.1.2];rfl
   ·cases h
  ·cases h
def sg:EN QY where
 iJ π x:=⟨x.parts.map (E8.iJ π),x.gR,E9.iJ π x.b⟩
 tD L x v:=match v with
  | .agg cs=>(match cs.toList with | [p,c,a,w,b,u]=>Ws [p,c,a,w,b,u]&&Ws [a,w,b,u]&&(zP E8 6).tD L x.parts p&&aaW.tD L x.gR c&&E9.tD L x.b (.agg [a,w,b,u].toArray)|_=>false)
  |_=>false
 ok:=by
  intro π L m B hL x v h
  split at h
  ·rename_i cs
   split at h
   ·rename_i p c a w b u gO;simp only[ag]at h;have e:cs=[p,c,a,w,b,u].toArray:=by rw[<-gO]
    have q:=E9.ok hL h.2;rw[lT h.1.1.1.2]at q;rw[e,lT h.1.1.1.1];exact⟨_,_,_,_,_,_,rfl,(zP E8 6).ok hL h.1.1.2,aaW.ok hL h.1.2,q⟩
   ·cases h
  ·cases h
end Go.AM
namespace Go.AM
set_option maxRecDepth 1000000
open Go Go.Conc Go.Proofs
theorem GR:∀{l:List Nat},ndB l=true->l.Nodup
 | [],_=>List.nodup_nil
 |x::l,h=>by
  unfold ndB at h;rw[ag]at h;rw[List.nodup_cons];refine⟨fun hm=>?_,GR h.2⟩;have :=aB.1 h.1 x hm;rw[Nat.beq_refl]at this;cases this
structure Nt (r:iC):Prop where
 l:∀x∈r.L,(r.N<=x.1\/∃k,(x.1,k)∈r.K/\x.2.kind=k.kind)/\x.1<r.nx/\x.2.live/\okB x.2=true
 k:kOk r.K r.N=true
 kn:(r.K.map (·.1)).Nodup
 cn:(r.c.map (·.1)).Nodup/\∀x∈r.c,12<=x.1/\x.1<r.N
 nx:r.N<=r.nx
 args:r.args.all (nz 20)=true
 val:nz 20 r.v=true
 ln:(r.L.map (·.1)).Nodup
theorem iC.Fact.at{r:iC}{J:List (Nat×dJ)}(h:r.Fact J):Nt r:=by
 have :=h.tD;unfold iC.tD at this;simp only[ag]at this;obtain⟨⟨⟨⟨⟨⟨⟨⟨h1,h2⟩,h3⟩,h4⟩,h5⟩,h6⟩,h7⟩,h8⟩,h9⟩:=this;refine⟨fun x hx=>?_,h2,GR h3,⟨GR h4,fun x hx=>?_⟩,af h6,h7,h8,GR h9⟩
 ·have :=aB.1 h1 x hx;simp only[ag,Bool.or_eq_true]at this;obtain⟨⟨⟨⟨a1,a2⟩,a3⟩,a4⟩,a5⟩:=this;refine⟨a1.imp af fun a1=>?_,af a2,⟨fun y hy e=>?_,af a3⟩,a5⟩
  ·obtain⟨y,hy,e⟩:=List.any_eq_true.1 a1;rw[ag]at e;exact⟨y.2,(aA e.1)▸hy,aA e.2⟩
  ·have :=aB.1 a4 y hy;rw[e]at this;cases this
 ·have :=aB.1 h5 x hx;rw[ag]at this;exact⟨af this.1,af this.2⟩
theorem iC.Fact.ok{r:iC}{J:List (Nat×dJ)}(h:r.Fact J)(hJ0:OE∈J)(hJK:∀x∈r.K,∃k,(x.1,k)∈J/\((x.1,k)∈r.L\/iQ k x.2))(hJL:∀x∈r.L,x∈J)(hb:dM ab r.f=true):DN Ct r:=by
 have c:=h.at;refine X1 h.run ⟨OE.2,hJ0,?_⟩ hJK (fun x hx=>⟨hJL x hx,c.l x hx⟩) c.k c.kn ⟨ai _,c.nx⟩ hb c.args c.val;rw[iG,bC rfl];exact iQ.P4
def CDs (d:CD):Prop:=(∃a b,d=iD a b)\/d=q1D\/d=q2D\/d=q3D\/d=q4D
theorem ZF {d:CD}(h:CDs d)(o:Option Nat):(fK d o).Fact (fK d o).J:=by
 rcases h with⟨a,b,rfl⟩|rfl|rfl|rfl|rfl
 ·exact OI a b o
 ·exact Tn o
 ·exact Tl o
 ·exact Tk o
 ·exact Tj o
def RSK (r:iC):Prop:=r=pC\/∃d o,CDs d/\r=fK d o
theorem rP:dM ab 38=true/\dM ab 73=true/\dM ab 75=true:=⟨aY,aY,aY⟩
theorem alT {d:CD}(h:CDs d):d.f=73/\(∃a b,d=iD a b)\/d.f=75/\(d=q1D\/d=q2D\/d=q3D\/d=q4D):=by
 rcases h with⟨a,b,rfl⟩|h
 ·exact .inl ⟨rfl,a,b,rfl⟩
 ·refine .inr ⟨?_,h⟩;rcases h with rfl|rfl|rfl|rfl<;>rfl
theorem aby (r:iC)(h:RSK r):DN Ct r:=by
 rcases h with rfl|⟨d,o,hd,rfl⟩
 ·refine pB.ok (.head _) (fun x hx=>?_) (fun x hx=> .tail _ (.tail _ (.tail _ hx))) rP.1;simp only[pC,aI,List.not_mem_nil,or_false]at hx;rcases hx with rfl|rfl|rfl
  ·exact⟨_,.tail _ (.head _),.inr iQ.P4⟩
  ·exact⟨_,.tail _ (.tail _ (.tail _ (.head _))),.inl (.head _)⟩
  ·exact⟨_,.tail _ (.tail _ (.head _)),.inr iQ.P4⟩
 ·refine(ZF hd o).ok (.head _) (fun x hx=>⟨x.2,.tail _ (List.mem_append_left _ hx),.inr iQ.P4⟩) (fun x hx=> .tail _ (List.mem_append_right _ hx)) ?_
  show dM ab d.f=true
  rcases alT hd with⟨e,_⟩|⟨e,_⟩<;>rw[e]
  ·exact rP.2.1
  ·exact rP.2.2
def W6:ae->Nat
 | .slice none _ _=>0
 | .slice (some _) n _=>n+1
 | .bool b=>b.toNat
 |_=>0
theorem NF {π:Nat->Nat}{v:ae}:W6 (bL π 20 v)=W6 v:=by
 cases v with
 |pointer a=>cases a<;>rfl
 |slice a l c=>cases a<;>rfl
 |map a=>cases a<;>rfl
 |_=>rfl
section
variable {r r':iC}{f:Nat}{args:List ae}{m:Mem}{π qi:Nat->Nat}
theorem yr (h:r.at f args m π)(h':r'.at f args m qi)(c:Nt r)(c':Nt r'){l:List Nat}{u u':ae}(n:oJ r.mi r.args l=some u)(n':oJ r'.mi r'.args l=some u'):bL π 20 u=bL qi 20 u':=Jb h.2.2.2 h'.2.2.2 c.args c'.args h.2.1 h'.2.1 n n'
theorem aed (h:r.at f args m π)(h':r'.at f args m qi)(c:Nt r)(c':Nt r'){l:List Nat}{u u':ae}(n:oJ r.mi r.args l=some u)(n':oJ r'.mi r'.args l=some u'):W6 u=W6 u':=by
 rw[<-NF (π:=π),yr h h' c c' n n',NF]
end
theorem ag3 {d:CD}(h:CDs d)(o:Option Nat):oJ (fK d o).mi (fK d o).args [0,0,1,1]=some (wV o):=by
 rcases h with⟨a,b,rfl⟩|rfl|rfl|rfl|rfl<;>cases o<;>kernel_rfl
theorem aaq (a b:Nat)(o:Option Nat):oJ (fK (iD a b) o).mi (fK (iD a b) o).args [1,1,0,0]=some (vN a):=by cases o<;>kernel_rfl
theorem aap (a b:Nat)(o:Option Nat):oJ (fK (iD a b) o).mi (fK (iD a b) o).args [1,1,0,1]=some (vN b):=by cases o<;>kernel_rfl
theorem Le {a b:Nat}(h:vN a=vN b):a=b:=by
 unfold vN at h;simp only[ae.iface.injEq,ae.agg.injEq,true_and,Array.mk.injEq,List.cons.injEq,ae.int.injEq]at h;omega
section
variable {m mi:Mem}{π:Nat->Nat}{N nx:Nat}{L:List (Nat×dJ)}
theorem YC (tq:∀b,N<=b->π b=m.next+(b-N))(hL:∀x∈L,N<=x.1):Kp m (jo π mi m L nx) fu:=by
 refine⟨Nat.le_add_right _ _,rfl,rfl,rfl,rfl,rfl,rfl,rfl,rfl,fun b hb _=>?_⟩;rcases fZ (m:=m) (L:=L.map fun x=>(π x.1,mE π x.2)) (nx:=m.next+(nx-mi.next)) b with⟨e,_⟩|⟨k,hm,_⟩
 ·exact e
 ·obtain⟨x,hx,ex⟩:=List.mem_map.1 hm;cases ex;rw[tq _ (hL x hx)]at hb;omega
theorem Qy (cm:Calm m)(hN:mi.next=N)(tq:∀b,N<=b->π b=m.next+(b-N))(hL:∀x∈L,N<=x.1/\x.1<nx)(hn:(L.map (·.1)).Nodup):qY π L (jo π mi m L nx) (iS m (jo π mi m L nx)):=by
 intro b sz cs hg;obtain⟨k,hx,hk,rfl,hc⟩:=xM hg;obtain⟨h1,h2⟩:=hL _ hx;have hs:=tq b h1;have H3:(jo π mi m L nx).next=m.next+(nx-N):=by rw[<-hN];rfl
 have JB:((L.map fun x=>(π x.1,mE π x.2)).map (·.1)).Nodup:=by
  rw[List.map_map];have :(L.map ((fun x=>x.1)∘fun x=>(π x.1,mE π x.2)))=(L.map (·.1)).map π:=by rw[List.map_map];rfl
  rw[this,List.Nodup,List.pairwise_map];refine List.Pairwise.imp_of_mem ?_ hn;intro a c ha hc dH e;obtain⟨x,hx,rfl⟩:=List.mem_map.1 ha;obtain⟨y,hy,rfl⟩:=List.mem_map.1 hc;have h3:=(hL x hx).1;have h4:=(hL y hy).1;rw[tq _ h3,tq _ h4]at e;omega
 have e:(jo π mi m L nx).blk (π b)={mE π k with aZ:=m.tick}:=rE (x:=(π b,mE π k)) JB (List.mem_map.2 ⟨(b,k),hx,rfl⟩);have cC:π b<(jo π mi m L nx).next:=by rw[H3,hs];omega
 refine⟨⟨aj,cC⟩,cC,by rw[e];exact hk,by rw[e];rfl,?_,?_⟩
 ·rw[e]
  show k.cs.map (Ta π)=_
  rw[hc,List.map_map,List.map_map];rfl
 ·show aL m.bl _=false
  rw[cm.bl];rfl
end
def CD.ok(d:CD):Bool:=aOk 12 d.A&&aIn d.A&&UF (fun b=>Nat.blt b 12||d.A.any fun y=>Nat.beq y.1 b) 20 d.sv
theorem aiy {d:CD}(h:CDs d):d.ok=true/\d.c.map (·.1)=d.A.map (·.1)/\∀x∈d.L,1100<=x.1/\x.1<d.nx:=by
 have key:∀{d:CD},d.ok=true->d.c.map (·.1)=d.A.map (·.1)->(d.L.all fun x=>Nat.ble 1100 x.1&&Nat.blt x.1 d.nx)=true->d.ok=true/\d.c.map (·.1)=d.A.map (·.1)/\∀x∈d.L,1100<=x.1/\x.1<d.nx:=fun{d} h1 h2 h3=>⟨h1,h2,fun x hx=>by
  have :=aB.1 h3 x hx;rw[ag]at this;exact⟨af this.1,af this.2⟩⟩
 rcases h with⟨a,b,rfl⟩|rfl|rfl|rfl|rfl
 ·exact key aY rfl aY
 ·exact key aY rfl aY
 ·exact key aY rfl aY
 ·exact key aY rfl aY
 ·exact key aY rfl aY
end Go.AM
namespace Go.AM
set_option maxRecDepth 1000000
open Go Go.Conc Go.Proofs
theorem p39 (db mp rn rc b3 b4 p vn vc nn nc on oc sn sc:Nat)(ra va na oa sa:Option Addr)(nm:ByteArray):Path 39 [vP db 0,.agg #[iF nm,.slice ra rn rc]]
 [dN [some (iF nm),some (.slice ra rn rc)] b3,
  dN [some fE,some fE,some fE,some (vI 0)] b4,
  .mem (aP db 2) (.map (some mp)),
  iR 2 b3 (.agg #[iF nm,.slice ra rn rc]),
  oY,
  .call 73 [.map (some mp),.agg #[iF nm,.slice ra rn rc]] (.tuple #[.slice va vn vc,vI 0]),
  eE,
  .call 74 [.slice va vn vc] (.tuple #[.slice na nn nc,vI 0]),
  eE,
  .mem (aP db 2) (.map (some mp)),
  .mem (aP b3 0) (iF nm),
  .mem (oL ab 67 (.map (some mp)) (iF nm) false) (vP p 0),
  .mem (aP p 1) (.slice oa on oc),
  bP (qE (fg on nn) 1000) false,
  .mem (aP p 1) (.slice oa on oc),
  .mem (cK ab #[29,29] (.slice oa on oc) (.slice na nn nc)) (.slice sa sn sc),
  .mem (gJ p 1 (.slice sa sn sc)) undef,
  jK b4 0 [fE,fE,fE,vI nn],
  rY 31 b4 (.agg #[fE,fE,fE,vI nn])]
 (.tuple #[.agg #[fE,fE,fE,vI nn],vI 0]):=fB
def Ck (K:gS)(d:CD):Prop:=∀m lo mp pe pg cg rl,Calm m->Gl m->GX m mp pe pg cg rl->ER m lo mp pg cg->tj lo d.A m->∃π m',Ev K d.f [.map (some mp),bL (sh lo) 20 d.sv] m (.tuple #[bL π 20 d.qv,vI 0]) m'/\Kp m m' fu/\qY π d.L m' (iS m m')/\π 1002=pg
structure Ie (W:Nat->Prop)(m:Mem)(mp pe pg cg:Nat)(rows:List (List V)):Prop where
 x:∃rl,GX m mp pe pg cg rl/\∃BO BE:Nat->Prop,lP bH 1 BO BE m rows rl/\(aT bH 1).R (fun y=>BO y\/BE y) rows m rl/\∀b,BO b\/BE b->W b/\b≠mp/\b≠pg/\b≠cg
 w:W mp/\W pg/\W cg
 lt:∀b,W b->b<m.next
theorem Ie.ext{W S:Nat->Prop}{m m':Mem}{mp pe pg cg:Nat}{rows:List (List V)}(h:Ie W m mp pe pg cg rows)(k:Kp m m' S)(hs:∀b,W b->¬S b):Ie W m' mp pe pg cg rows:=by
 obtain⟨rl,X,BO,BE,L,q,hB⟩:=h.x;exact⟨⟨rl,X.ext k ⟨hs _ h.w.1,hs _ h.w.2.1,hs _ h.w.2.2⟩,BO,BE,L.ext k fun b hb=>hs b (hB b hb).1,(aT bH 1).ext q k fun b hb=>hs b (hB b hb).1,hB⟩,h.w,fun b hb=>aW (h.lt b hb) k.next⟩
def tbG (pg:Nat)(rows:List (List V))(p:Nat):Option (List (List V)):=if p=pg then some rows else none
theorem Ie.at{W:Nat->Prop}{m:Mem}{mp pe pg cg:Nat}{rows:List (List V)}(h:Ie W m mp pe pg cg rows):fV W (tbG pg rows) m:=fun p sU hp=>by
 unfold tbG at hp
 split at hp
 ·rename_i e;cases hp;subst e;obtain⟨rl,X,BO,BE,_,q,hB⟩:=h.x;exact⟨h.w.2.1,_,rl,X.g,(aT bH 1).mono q fun b hb=>(hB b hb).1⟩
 ·cases hp
section
variable {K:gS}{m:Mem}{W:Nat->Prop}{db mp pe pg cg lo:Nat}{rows:List (List V)}
theorem acY {π:Nat->Nat}{a b:Nat}{B:Nat->Prop}(h:qY π (iD a b).L m B):(aT (aT nR 1) 1).R B [[.lit (cT a),.lit (cT b)]] m (bL π 20 (iD a b).qv):=by
 obtain⟨ha,oa⟩:=h 1104 0 [vI 1,vI a,.string .empty,.bool false] rfl;obtain⟨hb,ob⟩:=h 1108 0 [vI 1,vI b,.string .empty,.bool false] rfl;obtain⟨hr,hor⟩:=h 1110 1 [.iface 317 (vP 1104 0),.iface 317 (vP 1108 0)] rfl;obtain⟨hs,os⟩:=h 1112 1 [vL 1110 0 2 cD] rfl;have ok1:∀v:ae,v.cells.toList=[v]->v.oneCell'=true->okV 1 v:=fun v h1 h2=>⟨by rw[<-Array.length_toList,h1];rfl,fun y hy=>by rw[h1]at hy;rw[List.mem_singleton.1 hy];exact h2⟩
 have x1:XR B (.lit (cT a)) m (.iface 317 (vP (π 1104) 0)):=⟨_,rfl,ha,oa⟩;have x2:XR B (.lit (cT b)) m (.iface 317 (vP (π 1108) 0)):=⟨_,rfl,hb,ob⟩;have ky:(aT nR 1).R B [.lit (cT a),.lit (cT b)] m (vL (π 1110) 0 2 cD):=⟨_,⟨rfl,.inr ⟨_,_,rfl,hor,.inl rfl⟩⟩,fun b o n c e=>by cases e;exact hr,⟨_,_,rfl,⟨x1,ok1 _ rfl rfl⟩,_,_,rfl,⟨x2,ok1 _ rfl rfl⟩,rfl⟩⟩;exact⟨_,⟨rfl,.inr ⟨_,_,rfl,os,.inl rfl⟩⟩,fun b o n c e=>by cases e;exact hs,⟨_,_,rfl,⟨ky,ok1 _ rfl rfl⟩,rfl⟩⟩
theorem UD (a b:Nat):[[X.lit (cT a),.lit (cT b)]].map UE=[jS (a,b)]:=by
 simp only[List.map_cons,List.map_nil,ahd];rfl
theorem alY (hK:AY K){a b:Nat}{x0 x1:ae}{rest:List ae}(KP:Ck K (iD a b))(cm:Calm m)(hG:Gl m)(rA:Obj m db 0 (x0::x1:: .map (some mp)::rest))(D:Ie W m mp pe pg cg rows)(Hi:¬W db)(jH:ER m lo mp pg cg)(hL:tj lo (iD a b).A m)(YW:rows.length<1000):
  ∃m' W',Ev K 39 [vP db 0,.agg #[.string bG,vL (sh lo 137) 0 1 1]] m (.tuple #[.agg #[.slice none 0 0,.slice none 0 0,.slice none 0 0,vI 1],vI 0]) m'/\Kp m m' W/\Ie W' m' mp pe pg cg (rows++[jS (a,b)])/\∀b,W' b->W b\/iS m m' b:=by
 have g:=cm.gd;have RJ:=rA.lt;obtain⟨b3,hb3⟩:∃b,b=m.next:=⟨_,rfl⟩;obtain⟨m1,e1,o1,k1,n1,_⟩:=aV g [.string bG,vL (sh lo 137) 0 1 1];rw[<-hb3]at e1 o1;have g1:=g.ext k1;obtain⟨b4,hb4⟩:∃b,b=m1.next:=⟨_,rfl⟩;obtain⟨m2,e2,o2,k2,n2,_⟩:=aV g1 [.slice none 0 0,.slice none 0 0,.slice none 0 0,vI 0];rw[<-hb4]at e2 o2;have kg:=k1.aS k2;have g2:=g.ext kg;have l1:aP db 2 m2=some (.map (some mp),m2):=aN (rA.aR kg) rfl;have l2:eW 2 b3 0 m2=some (.agg #[.string bG,vL (sh lo 137) 0 1 1],m2):=bW (vs:=[.string bG,vL (sh lo 137) 0 1 1]) (o1.aR k2) rfl (af rfl);have D2:=D.ext kg fun _ _ h=>h
 obtain⟨_,X2,_⟩:=D2.x;obtain⟨π,m3,e3,k3,La,_⟩:=KP m2 lo mp pe pg cg _ (cm.ext kg) (hG.aR kg) X2 (jH.ext kg) (hL.ext kg fun _ h=>h.elim);have e3:Ev K 73 [.map (some mp),.agg #[.string bG,vL (sh lo 137) 0 1 1]] m2 (.tuple #[vL (π 1112) 0 1 cD,vI 0]) m3:=e3;have q3:(aT (aT nR 1) 1).R (iS m2 m3) [[.lit (cT a),.lit (cT b)]] m3 (vL (π 1112) 0 1 cD):=acY La;have jG:=kg.aS k3;have te:=cm.ext jG;obtain⟨v4,m4,e4,k4,q4⟩:=c74 (K:=K) hK te q3 (fun b hb=>hb.2) (fun xs sD=>acW (a:=a) (b:=b) (List.mem_singleton.1 sD)) (af rfl);rw[UD]at q4;obtain⟨na,nc,rfl⟩:=aT.form q4;have kr:=jG.aS k4;have KX:=cm.ext kr;have n3:=k3.next;have n4:=k4.next;have D4:=D.ext kr fun _ _ h=>h
 obtain⟨rl,X4,BO,BE,L4,qr,hB⟩:=D4.x;have l3:aP db 2 m4=some (.map (some mp),m4):=aN (rA.aR kr) rfl;have l4:aP b3 0 m4=some (.string bG,m4):=aN (((o1.aR k2).aR k3).aR k4) rfl;have hM:aa5 m4 mp [(bE,pe),(bG,pg)]:=⟨X4.map.lt,X4.map.kind,by rw[X4.map.es];rfl,X4.map.yL,X4.map.home⟩;have l5:oL ab 67 (.map (some mp)) (.string bG) false m4=some (vP pg 0,m4):=Yq (.inr ⟨mp,rfl,hM⟩:aiW m4 (.map (some mp)) _) bG;obtain⟨oa,oc,rfl⟩:=L4.form;have l6:aP pg 1 m4=some (.slice oa rows.length oc,m4):=aN X4.g rfl;have xV:∀b,W b->b<m.next:=D.lt;obtain⟨s5,m5,e5,k5,L5,q5⟩:=L4.cat (t:=29) KX.gd rfl q4 (fun b hb h=>by have :=xV b (hB b (.inl hb)).1;have :=h.1;omega) (fun b hb=>by have :=xV b (hB b (.inr hb)).1;omega) (fun b h=>h.2) (by show rows.length+1<2^30;omega);have hn5:(∃rb n,s5=vL rb 0 n cD/\rb<m5.next)/\m4.next<m5.next:=by
  rcases id L5 with⟨h,_⟩|⟨rb,cs,rest,e,hb,_,ob,_⟩
  ·simp at h
  ·have hb:rb=m4.next:=hb.1;exact⟨⟨rb,_,e,ob.lt⟩,by have :=ob.lt;omega⟩
 obtain⟨sa,sc,rfl⟩:=L5.form;have n5:=k5.next;have htl:=xV _ D.w.2.1;obtain⟨m6,e6,o6,k6⟩:=iZ (o:=1) (.slice sa (rows++[jS (a,b)]).length sc) (X4.g.ext k5 fun h=>(hB _ (.inl h)).2.2.1 rfl) ((KX.own X4.base.1.2.1|>.ext k5).may _ _) (af rfl) rfl;have n6:=k6.next;have k46:Kp m4 m6 W:=(k5.mono fun b _ h=>(hB b (.inl h)).1).trans (k6.mono fun b _ h=>by rw[h];exact D.w.2.1) fun _ _ h=>h
 have sZ:Kp m m6 W:=kr.tA.trans k46 fun _ _ h=>h
 have b4W:¬W b4:=fun h=>by have :=xV _ h;omega
 obtain⟨m7,e7,o7,k7⟩:=kq (o:=0) [.slice none 0 0,.slice none 0 0,.slice none 0 0,vI 1] (((o2.aR k3).aR k4).ext k46 b4W) ((g.own sZ aj).may _ _) (af rfl) rfl;have n7:=k7.next;have Ml:Kp m m7 W:=sZ.new k7 (N:=m.next) (ai _) fun b hb=>by omega
 have eR:oA ab 31 (vP b4 0) m7=some (.agg #[.slice none 0 0,.slice none 0 0,.slice none 0 0,vI 1],m7):=ma o7 rfl qJ.1 qJ.2;have c9:(.bool (qE (fg (rows.length:Int) ((1:Nat):Int)) 1000):ae)= .bool false:=by
  rw[V8 aj];exact dF (Be (j:=1000)) aj
 have ev:Ev K 39 _ m _ m7:=aJ (p39 db mp 1 1 b3 b4 pg 1 cD 1 nc rows.length oc _ sc (some ⟨sh lo 137,0,none⟩) (some ⟨π 1112,0,none⟩) na oa sa bG) (.mem e1<| .mem e2<| .mem l1<| .mem l2<| .mem (bM g2)<| .call e3<| .cond rfl<| .call e4<| .cond rfl<| .mem l3<| .mem l4<| .mem l5<| .mem l6<| .cond c9<| .mem l6<| .mem e5<| .mem e6<| .mem e7<| .mem eR .nil);have YG:Kp m5 m7 (fun y=>y=pg\/y=b4):=(k6.mono fun _ _ h=> .inl h).trans (k7.mono fun _ _ h=> .inr h) fun _ _ h=>h
 have k47:Kp m4 m7 (fun y=>BO y\/y=pg\/y=b4):=(k5.mono fun _ _ h=> .inl h).trans (YG.mono fun _ _ h=> .inr h) fun _ _ h=>h
 have no:∀{y},W y->y≠pg->¬BO y->¬(BO y\/y=pg\/y=b4):=fun{y} h1 h2 h3 h=>by
  rcases h with h|h|h
  ·exact h3 h
  ·exact h2 h
  ·have :=xV _ h1;omega
 have oc7:=X4.c.ext k47 (no D.w.2.2 (fun e=>by
  have h1:=X4.g.sz;have h2:=X4.c.sz;rw[e,h1]at h2;cases h2) fun h=>(hB _ (.inl h)).2.2.2 rfl)
 have om7:=X4.map.ext k47 (no D.w.1 (fun e=>by
  have h1:=X4.g.kind;have h2:=X4.map.kind;rw[e,h1]at h2;cases h2) fun h=>(hB _ (.inl h)).2.1 rfl)
 have jT:∀{y},BE y\/iS m3 m4 y\/iS m4 m5 y->y<m7.next/\(W y\/iS m m7 y)/\y≠mp/\y≠pg/\y≠cg:=fun{y} h=>by
  rcases h with h|h|h
  ·have h1:=hB _ (.inr h);have :=xV _ h1.1;exact⟨aj,.inl h1.1,h1.2⟩
  ·have h1:=h.1;have h2:=h.2;have :=xV _ D.w.1;have :=xV _ D.w.2.1;have :=xV _ D.w.2.2;exact⟨aj,.inr ⟨aj,aj⟩,aj,aj,aj⟩
  ·have h1:=h.1;have h2:=h.2;have :=xV _ D.w.1;have :=xV _ D.w.2.1;have :=xV _ D.w.2.2;exact⟨aj,.inr ⟨aj,aj⟩,aj,aj,aj⟩
 have hs5:∀y,y=m4.next\/BE y\/iS m3 m4 y->¬(y=pg\/y=b4):=fun y h e=>by
  have h':BE y\/iS m3 m4 y\/iS m4 m5 y:=h.elim (fun h=> .inr (.inr ⟨aj,aj⟩)) fun h=>h.elim .inl fun h=> .inr (.inl h)
  rcases e with e|e
  ·exact(jT h').2.2.2.1 e
  ·rcases h' with h|h|h
   ·have :=xV _ (hB _ (.inr h)).1;omega
   ·have :=h.1;omega
   ·have :=h.1;omega
 obtain⟨⟨rb,n,es,hrb⟩,amY⟩:=hn5;refine⟨m7,fun y=>W y\/iS m m7 y,ev,Ml,⟨⟨_,⟨om7,o6.ext k7 aj,oc7,.inr ⟨rb,n,es,aj⟩,by have :=X4.pe;omega,by rw[k47.base,k47.home];exact X4.base⟩,_,_,L5.ext YG hs5,(aT bH 1).ext q5 YG hs5,fun y hy=>?_⟩,⟨.inl D.w.1,.inl D.w.2.1,.inl D.w.2.2⟩,fun y hy=>hy.elim (fun h=>by have :=xV y h;omega) fun h=>h.2⟩,fun y hy=>hy⟩;exact(jT (hy.elim (fun h=> .inr (.inr ⟨aj,aj⟩)) fun h=>h.elim .inl fun h=> .inr (.inl h))).2
end
end Go.AM
