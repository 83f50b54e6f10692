/-
  What the claim stands on, part 3.
-/
import Derived.Test.YtgfppohfgconeaaGreatDoorK2
import Derived.Orders
set_option linter.unusedVariables false
set_option linter.unusedSimpArgs false
open Go renaming Value → ae, Goroutine → ak, World → au, Program → aD, TypeId → aM, Operand → bX, IntKind → cf, Oper → gU
open Bool renaming and_eq_true → ag, false_eq_true → bU
open Option.some renaming injEq → ah
open Nat renaming le_refl → ai, eq_of_beq_eq_true → aA, lt_of_lt_of_le → aW, le_trans → cp
open Prod.mk renaming injEq → ay
open List renaming all_eq_true → aB, mem_cons → aI
open Option renaming map_eq_some_iff → aC, bind_some → a9, bind_eq_some_iff → bD, map_some → cN, isSome_iff_exists → iA
namespace Go.AM
open Go Go.Conc
def jJ (P:aD)(f:Nat)(e:Array ae->Sem ae):Prop:=
 ∃fn,P.funcs[f]?=some fn/\fn.body.isNone=true/\(fn.name== "runtime.NumGoroutine")=false/\Extern.findNext fn=none/\Extern.find fn=some e
structure qh (P:aD)(X:Ext):Prop where
 names:∀(f:Nat) (fn:Func),P.funcs[f]?=some fn->fn.body.isSome=true->(fn.name== "runtime.NumGoroutine")=false
 mixed:P.follows .mixedOrders=true
 disable:jJ P X.disable fun _=>do mark .disable;pure Extern.Race.none_
 enable:jJ P X.enable fun _=>do mark .enable;pure Extern.Race.none_
 acquire:jJ P X.acquire (Extern.Race.marked .acquire)
 tQ:jJ P X.tQ (Extern.Race.marked .releaseMerge)
 F5:jJ P X.F5 (Extern.Atomic.casT (.int .i32))
 KB:jJ P X.KB (Extern.Atomic.update (Op.intArith .add) .i32 true)
section
variable {P:aD}{X:Ext}{ρ:dh}{m m':Mem}{w:au}{N:Nat}{v:ae}
theorem rz {R:Perm}{f:Nat}{e:Array ae->Sem ae}(h:jJ P f e){args:Array ae}{Q:Next->au->Prop}(hq:dA P R N (e args) (fun v w=>Q (.value v) w) w):dA P R N (callFunc f args) Q w:=by
 obtain⟨fn,hf,hb,JC,hn,he⟩:=h;unfold callFunc;rw[ar]
 show dA P R N _ Q w
 rw[hf];simp only[];rw[bS (by rw[JC];simp),bC hb,ar];refine⟨trivial,?_⟩;simp only[hn,he]
 show dA P R N (e args>>=fun v=>pure (Next.value v)) Q w
 rw[ar];exact hq
theorem xB {R:Perm}{f:Nat}{fn:Func}(hf:P.funcs[f]?=some fn)(hb:fn.body.isSome=true)(JC:(fn.name== "runtime.NumGoroutine")=false){args:Array ae}{Q:Next->au->Prop}(hq:Q (.enter f args) w):dA P R N (callFunc f args) Q w:=by
 unfold callFunc;rw[ar]
 show dA P R N _ Q w
 rw[hf];simp only[];rw[bS (by rw[JC];simp),bS (by cases hx:fn.body<;>simp_all)];exact hq
theorem fH.deaf(h:fH ρ m w)(d:Nat):fH ρ {m with deaf:=d} w:=⟨h.mz,h.cells,h.lj,h.thaw,h.maps,h.lD,h.sep,h.rG,h.vars⟩
theorem aa3 {l:List ae}{x:ae}{l':List ae}(h:l=[x])(hr:bB (aQ ρ) l l'):∃x',l'=[x']/\aQ ρ x x':=by
 subst h
 match l',hr with
 | [x'],hr=>exact⟨x',rfl,hr.1⟩
theorem BD (hs:fH ρ m w){b o:Nat}{p:Pl}(dm:ρ b=some p){x x':ae}{m₂:Mem}(h:m.dK b o [x]=some m₂)(hx:aQ ρ x x'){md:Mode}{Q:Unit->au->Prop}(hq:∀w',Left ρ m w ρ m₂ w'->Q () w'):
  dA P (az ρ m) N (Go.store ⟨p.c,p.d+o,none⟩ x' md) Q w:=by
 have hso:=pz (P:=P) (N:=N) hs dm h (q0:=[x']) ⟨hx,trivial⟩ (Q:=Q) fun w' hL _=>hq w' hL
 simp only[storeCells]at hso;rw[ar,js,Nat.add_zero]at hso;exact hso
theorem IN (hs:fH ρ m w){b o:Nat}{p:Pl}(dm:ρ b=some p){u:Int}(hl:m.dB b o 1=some [.int .i32 u]){Q:ae->au->Prop}(hQ:Q (.int .i32 u) w):dA P (az ρ m) N (Extern.Atomic.read (.int .i32) ⟨p.c,p.d+o,none⟩) Q w:=by
 obtain⟨z,z',g1,g2,g3,g4⟩:=hs.Ad dm hl (show 0<1 by omega);simp only[List.getElem?_cons_zero,ah]at g1;subst g1;obtain rfl:=(aF (by rfl)).1 g2;unfold Extern.Atomic.read;rw[ar];exact B6 g3 g4 hQ
theorem kN {b o:Nat}{x:ae}(hl:m.dB b o 1=some [x]):m.cell b o=some x:=by
 obtain⟨_,_,g⟩:=Mem.pK hl;obtain⟨z,g1,g2⟩:=g 0 aj;simp only[List.getElem?_cons_zero,ah]at g1;subst g1;exact g2
theorem MP (hs:fH ρ m w){b o:Nat}{p:Pl}(dm:ρ b=some p){x:ae}(hl:m.dB b o 1=some [x]){Q:Bool->au->Prop}(hQ:Q (w.frozen? ⟨p.c,p.d+o,none⟩) w):
  dA P (az ρ m) N (Extern.Atomic.touchesFrozen ⟨p.c,p.d+o,none⟩) Q w:=by
 obtain⟨_,_,e,n,fG,_⟩:=hs.cells b p dm (Mem.eB (kN hl)).1;unfold Extern.Atomic.touchesFrozen viewAt;rw[ar,ar];refine Fj fG ?_;exact hQ
theorem O7 (hs:fH ρ m w)(hX:qh P X){f:Nat}{args:List ae}{bJ:Array ae}(hr:bB (aQ ρ) args bJ.toList)(h:uz X f args m=some (v,m'))(h1:f≠X.disable)(h2:f≠X.enable):
  jk m m'/\∃e,jJ P f e/\∀{Q:ae->au->Prop},(∀w',Left ρ m w ρ m' w'->aQ ρ v v->Q v w')->dA P (az ρ m) N (e bJ) Q w:=by
 unfold uz at h;rw[bS h1,bS h2]at h
 split at h
 ·rename_i hf;subst hf
  split at h
  ·rename_i b o;simp only[ah,ay]at h;obtain⟨rfl,rfl⟩:=h;refine⟨jk.refl _,_,hX.acquire,fun hq=>?_⟩;obtain⟨x',hx,hxr⟩:=aa3 rfl hr;obtain⟨p,hp,_,rfl⟩:=cL.1 hxr;have :bJ=#[.pointer (some ⟨p.c,p.d+o,none⟩)]:=by apply Array.ext';simpa using hx
   subst this;exact⟨trivial,hq _ (Left.refl hs) j1⟩
  ·cases h
 ·split at h
  ·rename_i hf;subst hf
   split at h
   ·rename_i b o;simp only[ah,ay]at h;obtain⟨rfl,rfl⟩:=h;refine⟨jk.refl _,_,hX.tQ,fun hq=>?_⟩;obtain⟨x',hx,hxr⟩:=aa3 rfl hr;obtain⟨p,hp,_,rfl⟩:=cL.1 hxr;have :bJ=#[.pointer (some ⟨p.c,p.d+o,none⟩)]:=by apply Array.ext';simpa using hx
    subst this;exact⟨trivial,hq _ (Left.refl hs) j1⟩
   ·cases h
  ·split at h
   ·rename_i hf;subst hf
    split at h
    ·rename_i b o x y
     match bJ,hr with
     |⟨[p',x',y']⟩,hr=>
      obtain⟨hp,hx,hy,_⟩:=hr;obtain⟨p,dm,_,rfl⟩:=cL.1 hp;obtain rfl:=(aF (by rfl)).1 hx;obtain rfl:=(aF (by rfl)).1 hy
      split at h
      ·rename_i u hl;have DV:w.frozen? ⟨p.c,p.d+o,none⟩=false->∀{Q:ae->au->Prop},dA P (az ρ m) N (if(u==x)=true then(do Go.store ⟨p.c,p.d+o,none⟩ (.int .i32 y) .atomic;pure (ae.bool (u==x)))else pure (ae.bool (u==x))) Q w->
         dA P (az ρ m) N (Extern.Atomic.casT (.int .i32) #[.pointer (some ⟨p.c,p.d+o,none⟩),.int .i32 x,.int .i32 y]) Q w:=by
        intro hz Q hQ;refine(ar (asAddr (.pointer (some ⟨p.c,p.d+o,none⟩))) _ _ _).2 ?_;refine(ar (Extern.Atomic.touchesFrozen ⟨p.c,p.d+o,none⟩) _ _ _).2 ?_;refine MP hs dm hl ?_;rw[hz];refine(ar (Extern.Atomic.read (.int .i32) ⟨p.c,p.d+o,none⟩) _ _ _).2 ?_;refine IN hs dm hl ?_
        show dA P (az ρ m) N (if(u==x)=true then(do Go.store ⟨p.c,p.d+o,none⟩ (.int .i32 y) .atomic;pure (ae.bool (u==x)))else pure (ae.bool (u==x))) Q w
        by_cases hux:(u==x)=true
        ·rw[bC hux]at hQ⊢;exact hQ
        ·rw[bS hux]at hQ⊢;exact hQ
       split at h
       ·rename_i hux;obtain⟨m2,yF,he⟩:=aC.1 h;simp only[ay]at he;obtain⟨rfl,rfl⟩:=he;refine⟨jk.dK yF,_,hX.F5,fun hq=>?_⟩;have hz:w.frozen? ⟨p.c,p.d+o,none⟩=false:=by
         obtain⟨cs,_,_,JG,_⟩:=Mem.qm yF;exact hs.thaw b p o dm (jc hs dm (kN hl)) (Mem.eB (kN hl)).1 (Mem.kJ JG)
        refine DV hz ?_;have YK:(u==x)=true:=by simpa using hux
        rw[bC YK,YK,ar];exact BD hs dm yF (bO rfl) fun w' hL=>hq w' hL (bO rfl)
       ·rename_i hux
        split at h
        ·rename_i nC;simp only[ah,ay]at h;obtain⟨rfl,rfl⟩:=h;refine⟨jk.refl _,_,hX.F5,fun hq=>?_⟩;have hz:w.frozen? ⟨p.c,p.d+o,none⟩=false:=hs.thaw b p o dm (jc hs dm (kN hl)) (Mem.eB (kN hl)).1 nC;refine DV hz ?_;have YK:(u==x)=false:=by simpa using hux
         rw[YK];simp only[bU,if_false];exact hq _ (Left.refl hs) (bO rfl)
        ·cases h
      ·cases h
    ·cases h
   ·split at h
    ·rename_i hf;subst hf
     split at h
     ·rename_i b o y
      match bJ,hr with
      |⟨[p',y']⟩,hr=>
       obtain⟨hp,hy,_⟩:=hr;obtain⟨p,dm,_,rfl⟩:=cL.1 hp;obtain rfl:=(aF (by rfl)).1 hy
       split at h
       ·rename_i u hl;obtain⟨m2,yF,he⟩:=aC.1 h;simp only[ay]at he;obtain⟨rfl,rfl⟩:=he;refine⟨jk.dK yF,_,hX.KB,fun hq=>?_⟩;refine(ar (asAddr (.pointer (some ⟨p.c,p.d+o,none⟩))) _ _ _).2 ?_;refine(ar (Extern.Atomic.read (.int .i32) ⟨p.c,p.d+o,none⟩) _ _ _).2 ?_;refine IN hs dm hl ?_
        show dA P (az ρ m) N (do Go.store ⟨p.c,p.d+o,none⟩ (.int .i32 (cf.i32.wrap (u+y))) .atomic;pure (ae.int .i32 (cf.i32.wrap (u+y)))) _ w
        rw[ar];exact BD hs dm yF (bO rfl) fun w' hL=>hq w' hL (bO rfl)
       ·cases h
     ·cases h
    ·cases h
end
end Go.AM
namespace Go.AM
open Go Go.Conc
structure Mv (m m':Mem):Prop where
 next:m.next<=m'.next
 tick:m.tick<=m'.tick
 wf:Wf m->Wf m'
 blk:∀b,m'.blk b=m.blk b\/m.tick<=(m'.blk b).aZ
 pend:∀s∈m'.pend,s∈m.pend\/m.next<=s.lo
def rR (m:Mem)(ρ bu:dh):Prop:=∀b,b<m.next->(∀s∈m.pend,¬(s.lo<=b/\b<s.hi))->bu b=ρ b
theorem rR.of{m:Mem}{ρ bu:dh}(h:∀b,b<m.next->bu b=ρ b):rR m ρ bu:=fun b hb _=>h b hb
theorem rR.trans{m m₁:Mem}{ρ Bn eX:dh}(hm:Mv m m₁)(h:rR m ρ Bn)(k:rR m₁ Bn eX):rR m ρ eX:=fun b hb hf=>(k b (aW hb hm.next) fun s hs=>(hm.pend s hs).elim (hf s) fun h=>by omega).trans (h b hb hf)
theorem Mv.refl(m:Mem):Mv m m:=⟨ai _,ai _,id,fun _=> .inl rfl,fun _=> .inl⟩
theorem Mv.trans{m m₁ m₂:Mem}(h:Mv m m₁)(k:Mv m₁ m₂):Mv m m₂:=
 ⟨cp h.next k.next,cp h.tick k.tick,k.wf∘h.wf,fun b=>by
  rcases k.blk b with e|e
  ·rw[e];exact h.blk b
  ·exact .inr (cp h.tick e),fun s hs=>(k.pend s hs).elim (h.pend s) fun x=> .inr (cp h.next x)⟩
def wQ (m m':Mem):Prop:=Fr m m'/\(Wf m->Wf m')
theorem jk.w{m m':Mem}(h:jk m m'):wQ m m':=⟨h.1,h.2.2⟩
theorem wQ.refl(m:Mem):wQ m m:=⟨Fr.refl m,id⟩
theorem wQ.trans{m m₁ m₂:Mem}(h:wQ m m₁)(k:wQ m₁ m₂):wQ m m₂:=⟨h.1.trans k.1,k.2∘h.2⟩
theorem wQ.mv{m m':Mem}(h:wQ m m'):Mv m m':=⟨h.1.next,h.1.tick,h.2,fun b=>(h.1.blk b).imp id (·.1),fun s hs=> .inl (by rw[<-h.1.pend];exact hs)⟩
theorem wQ.deaf(m:Mem)(d:Nat):wQ m {m with deaf:=d}:=⟨⟨rfl,ai _,ai _,fun _=> .inl rfl⟩,fun h=>⟨h.aZ,h.x8,h.bl,h.fl,h.live⟩⟩
structure wR (F:Mem->Mem->Prop):Prop where
 refl:∀m,F m m
 trans:∀{m m₁ m₂},F m m₁->F m₁ m₂->F m m₂
 fr:∀{m m'},wQ m m'->F m m'
 mv:∀{m m'},F m m'->Mv m m'
theorem Vx:wR wQ:=⟨wQ.refl,wQ.trans,id,wQ.mv⟩
theorem O4:wR Mv:=⟨Mv.refl,Mv.trans,wQ.mv,id⟩
def yB (ρ:dh)(d:Nat×List ae)(d':Deferred):Prop:=∃cap,d'.target= .fn (.func d.1) cap/\bB (aQ ρ) d.2 (d'.args++cap).toList
theorem yB.iJ{ρ bu:dh}(h:ρ.le bu){d:Nat×List ae}{d':Deferred}(hd:yB ρ d d'):yB bu d d':=
 let⟨cap,h1,h2⟩:=hd;⟨cap,h1,h2.mono fun _ _ x=>x.iJ h⟩
abbrev JT:=nF->Nat->Perm->ak->au->Prop
def fW (P:aD)(X:Ext)(main:Bool)(J:JT)(F:Mem->Mem->Prop)(call:cB):Prop:=
 ∀f args m v m',Wf m->call f args m=some (v,m')->F m m'/\(dM P f=false->uz X f args m=some (v,m'))/\
  (dM P f=true->∃c,∀{E:Perm}{bq:au}{σ:nF}{ρ:dh}{w:au} (bJ:Array ae) (fr:Frame) (cs:List Frame) (n:Nat) (kind:CallKind),
   cU P E bq σ ρ m w->bB (aQ ρ) args bJ.toList->(kind= .normal\/(kind= .deferred/\fr.mode= .returning/\f≠X.K'/\f≠X.vR))->
   (∀gu bu v' w',ρ.le bu->rR m ρ bu->cU P E bq gu bu m' w'->aQ bu v v'->J gu n ((az bu m').or E) (G (if kind= .normal then fr.finish v' else fr) cs) w')->
   J σ (n+c) ((az ρ m).or E) (G (Frame.enter P f bJ kind) (fr::cs)) w)
section
variable {P:aD}{X:Ext}{main:Bool}{J:JT}{F:Mem->Mem->Prop}{call:cB}{E:Perm}{bq:au}{σ:nF}{ρ:dh}{m m':Mem}{w:au}
variable {b:Frame}{a:Act}{k:List Item}{cs:List Frame}{ops:Array gU}{i:Nat}{rest:List Nat}{o:gU}
theorem zv (ho:ops[i]?=some o)(v:ae):(b.at a (.inRegion ops (i::rest)::k)).finish v=b.at (a.put o.dst v) (.inRegion ops rest::k):=by rw[Frame.finish_at,ho];rfl
theorem rj (hJ:∀σ,gj P main (J σ))(H:cU P E bq σ ρ m w){g:ak}(hg:g.status= .running){n:Nat}
  (h:∀aO,cU P E bq σ ρ m aO->∃g' bu m' w' es,stepG P main g aO= .go g' w' es/\Left ρ m aO bu m' w'/\tE (az ρ m) aO.heap.size aO w'/\(∀e∈es,EvW (az ρ m) e)/\m'.deaf=deafBehind m.deaf es/\
   J σ n ((az bu m').or E) g' w'):J σ (n+1) ((az ρ m).or E) g w:=by
 refine(hJ σ).step hg fun aO hk=>?_
 obtain⟨g',bu,m',w',es,h1,h2,h3,h4,h5,h6⟩:=h aO (H.keeps hk);have ha:=(H.keeps hk).apart.within h2.within h3.size h3.shape;exact⟨g',w',es,_,⟨h1,h3.or,fun e he=>(h4 e he).imp nT.or id,h2.within.or,h5,fun _=>Cl h2.jY ha⟩,h6⟩
theorem zB {R:Perm}{N:Nat}{ev:bX->ae}(hX:qh P X){f:Nat}{args:List ae}(hc:DR P o ev f args)(dS:∀x∈o.op.operands,aQ ρ (ev x) (a.eval x))
  {Q:Next->au->Prop}(hq:∀bJ,bB (aQ ρ) args bJ.toList->dA P R N (callFunc f bJ) Q w):dA P R N (execOp a.eval o) Q w:=by
 rcases hc with⟨x,lI,lB,first,cap,ho,hx,rfl⟩|⟨r,name,lI,lB,recv,ho,hm,rfl⟩
 ·unfold execOp;rw[ho];simp only[];have UH:x∈o.op.operands:=by rw[ho];simp[Op.operands,Call.operands]
  have hr:=dS x UH;rw[hx]at hr;obtain⟨f',c',e,h1,h2⟩:=fP.1 hr;rw[ar];have xR:resolve a.eval {callee:= .value x,args:=lI,argTypes:=lB} o.type=pure {target:= .fn (.func f) c',args:=f'++lI.map a.eval}:=by
   unfold resolve;simp only[e,Deferred.ofValue]
  rw[xR]
  show dA P R N (callFunc f (f'++lI.map a.eval++c')) Q w
  refine hq _ ?_;simp only[Array.toList_append,Array.toList_map];refine(h1.append (bB.pI fun y hy=>dS y ?_)).append h2;rw[ho];simp only[Op.operands,Call.operands,Array.mem_append];exact .inr (by simpa using hy)
 ·unfold execOp;rw[ho];simp only[];have Wz:r∈o.op.operands:=by rw[ho];simp[Op.operands,Call.operands]
  obtain⟨t,u,u',it,mt,e,h1,h2,rfl,h4,h5,h6,h7,h8,h9⟩:=z9 (dS r Wz) hm;rw[ar];have xR:resolve a.eval {callee:= .invoke r name,args:=lI,argTypes:=lB} o.type=pure {target:= .fn (.method name) #[],args:=#[.iface t u']++lI.map a.eval}:=by
   unfold resolve;simp only[h2]
  rw[xR]
  show dA P R N (invoke (.fn (.method name) #[]) (#[.iface t u']++lI.map a.eval)) Q w
  unfold invoke;simp only[];have e0:(#[ae.iface t u']++lI.map a.eval)[0]?=some (.iface t u'):=by rw[<-Array.getElem?_toList];simp
  rw[e0];simp only[];unfold callMethod;simp only[];rw[ar]
  show dA P R N (method (P.types.size+Made.depth) t u' name>>=_) Q w
  rw[ar];have hdp:0<Made.depth:=eS;obtain⟨d,hd⟩:∃d,P.types.size+Made.depth=d+1:=⟨P.types.size+Made.depth-1,aj⟩;rw[hd];unfold method;rw[ar];refine gZ h5 ?_;rw[h7];simp only[h8,follow,pure_bind,h9];rw[ar];unfold receiverAt;rw[ar];refine aG h6 ?_;simp only[Place.get]
  show dA P R N (callFunc f _) Q w
  refine hq _ ?_;have e1:(#[u']++(#[ae.iface t u']++lI.map a.eval).extract 1 (#[ae.iface t u']++lI.map a.eval).size).toList=u'::lI.toList.map a.eval:=by
   simp only[Array.toList_append,Array.toList_extract,List.extract_eq_take_drop];simp;exact List.take_of_length_le de
  rw[e1];refine⟨h4,bB.pI fun y hy=>dS y ?_⟩;rw[ho];simp only[Op.operands,Call.operands,Array.mem_append];exact .inr (by simpa using hy)
theorem F6 (hJ:∀σ,gj P main (J σ))(hX:qh P X)(ho:ops[i]?=some o)(hw:Region.wanted o (yielded ops a.tmps)=true)(hk:b.kind≠ .early)(H:cU P E bq σ ρ m w){ev:bX->ae}
  (dS:∀x∈o.op.operands,aQ ρ (ev x) (a.eval x)){f:Nat}{args:List ae}(hc:DR P o ev f args)(hb:dM P f=true){n:Nat}
  (hn:∀aO bJ,cU P E bq σ ρ m aO->bB (aQ ρ) args bJ.toList->J σ n ((az ρ m).or E) (G (Frame.enter P f bJ .normal) (b.at a (.inRegion ops (i::rest)::k)::cs)) aO):
  J σ (n+1) ((az ρ m).or E) (G (b.at a (.inRegion ops (i::rest)::k)) cs) w:=by
 refine rj hJ H rfl fun aO gq=>?_
 obtain⟨fn,hf,sF⟩:∃fn,P.funcs[f]?=some fn/\fn.body.isSome=true:=by
  unfold dM at hb;cases hf:P.funcs[f]? with
  |none=>rw[hf]at hb;simp at hb
  |some fn=>exact⟨fn,rfl,by rw[hf]at hb;simpa using hb⟩
 obtain⟨nx,w',hY,⟨bJ,hr,rfl,zk⟩,FI,he⟩:=mF (P:=P) (R:=az ρ m) (N:=aO.heap.size) (Q:=fun nx w'=>∃bJ,bB (aQ ρ) args bJ.toList/\nx= .enter f bJ/\w'=aO) (ai _)
  (zB (w:=aO) hX hc dS fun bJ hr=>xB hf sF (hX.names f fn hf sF) ⟨bJ,hr,rfl,rfl⟩)
 rw[zk]at hY;obtain⟨evs,zo,er⟩:=he #[];have mr:∀e∈listed P b.fn a o aO,nT (az ρ m) e:=fun e hx=>er e (by have :=mem_listed hx;rw[zo]at this;simpa using this)
 exact⟨_,ρ,m,aO,_,stepG_enter ho hw hk hY,Left.refl gq.jY,tE.refl ..,fun e he=> .inl (mr e he),(kL mr _).symm,hn aO bJ gq hr⟩
theorem Ks {f:Nat}(hb:dM P f=true):∃fn,P.funcs[f]?=some fn/\fn.body.isSome=true:=by
 unfold dM at hb;cases hf:P.funcs[f]? with
 |none=>rw[hf]at hb;simp at hb
 |some fn=>exact⟨fn,rfl,by rw[hf]at hb;simpa using hb⟩
theorem Ki {ev:bX->ae}{f:Nat}{args:List ae}(hc:DR P o ev f args)(dS:∀x∈o.op.operands,aQ ρ (ev x) (a.eval x))(ha:args=[]):
  execOp a.eval o=callFunc f #[]:=by
 rcases hc with⟨x,lI,lB,first,cap,ho,hx,rfl⟩|⟨r,name,lI,lB,recv,ho,hm,rfl⟩
 ·simp only[List.append_eq_nil_iff,Array.toList_eq_nil_iff,List.map_eq_nil_iff]at ha;obtain⟨⟨rfl,rfl⟩,rfl⟩:=ha;have UH:x∈o.op.operands:=by rw[ho];simp[Op.operands,Call.operands]
  have hr:=dS x UH;rw[hx]at hr;obtain⟨f',c',e,h1,h2⟩:=fP.1 hr;have e1:f'=#[]:=by
   have :=h1.length;simpa[eq_comm]using this
  have e2:c'=#[]:=by
   have :=h2.length;simpa[eq_comm]using this
  subst e1 e2;unfold execOp;rw[ho];simp[resolve,Deferred.ofValue,e,invoke]
 ·cases ha
theorem EV (mk:Mark)(hm:∀g,mk≠ .extern g)(ho:ops[i]?=some o)(hw:Region.wanted o (yielded ops a.tmps)=true)(hk:b.kind≠ .early){f:Nat}(e1:execOp a.eval o=callFunc f #[])
  (hf:jJ P f fun _=>do mark mk;pure Extern.Race.none_)(w:au):
  stepG P main (G (b.at a (.inRegion ops (i::rest)::k)) cs) w= .go (G (b.at (a.put o.dst (.tuple #[])) (.inRegion ops rest::k)) cs) w #[⟨.mark mk,false,true⟩]:=by
 obtain⟨fn,h1,h2,h3,h4,h5⟩:=hf;rw[stepG_value (v:= .tuple #[]) (w':=w) ho hw hk (by rw[e1,run_callFunc_extern h1 h3 h2 h4 h5];simp[Extern.Race.none_])];unfold listed;rw[e1,events_callFunc_extern h1 h3 h2 h4 h5];simp only[List.push_toArray,List.nil_append];rw[show((do mark mk;pure Extern.Race.none_:Sem ae)).events P w [⟨.mark (.extern f),false,true⟩].toArray=#[⟨.mark (.extern f),false,true⟩]++#[⟨.mark mk,false,true⟩] by simp];rw[seen_entry _ _ _ (by
  intro x hx;simp at hx;subst hx;exact⟨rfl,fun g h=>hm g (by cases h;rfl)⟩)]
theorem fH.aaS(H:cU P E bq σ ρ m w)(d:Nat):cU P E bq σ ρ {m with deaf:=d} w:=
 ⟨H.jY.deaf d,H.rest,⟨H.apart.cell,H.apart.obj,H.apart.wf⟩,H.oj,H.fI.fr (wQ.deaf m d).1 (ρ.le_refl) (fun _ _=>rfl),⟨H.wf.aZ,H.wf.x8,H.wf.bl,H.wf.fl,H.wf.live⟩,H.Nq,H.ew⟩
theorem VA (hJ:∀σ,gj P main (J σ))(hX:qh P X)(ho:ops[i]?=some o)(hw:Region.wanted o (yielded ops a.tmps)=true)(hk:b.kind≠ .early)(H:cU P E bq σ ρ m w){ev:bX->ae}
  (dS:∀x∈o.op.operands,aQ ρ (ev x) (a.eval x)){f:Nat}{args:List ae}(hc:DR P o ev f args){v:ae}(hx:uz X f args m=some (v,m')){n:Nat}
  (hn:∀v' w' bu,ρ.le bu->(∀b,b<m.next->bu b=ρ b)->cU P E bq σ bu m' w'->aQ bu v v'->J σ n ((az bu m').or E) (G (b.at (a.put o.dst v') (.inRegion ops rest::k)) cs) w'):
  J σ (n+1) ((az ρ m).or E) (G (b.at a (.inRegion ops (i::rest)::k)) cs) w:=by
 by_cases h1:f=X.disable
 ·subst h1;unfold uz at hx;rw[bC rfl]at hx
  split at hx
  ·simp only[ah,ay]at hx;obtain⟨rfl,rfl⟩:=hx;have e1:=Ki hc dS rfl;refine rj hJ H rfl fun aO gq=>⟨_,ρ,_,aO,_,EV .disable de ho hw hk e1 hX.disable aO,?_,tE.refl ..,?_,?_,hn _ _ _ ρ.le_refl (fun _ _=>rfl) (fH.aaS gq _) j1⟩
   ·exact⟨ρ.le_refl,gq.jY.deaf _,⟨fun _ _ x=> .inl x,fun _ _ x=> .inl x,fun _ x=> .inl x⟩,fun _ _=>rfl⟩
   ·intro e he;simp only[List.mem_toArray,aI,List.not_mem_nil,or_false]at he;subst he;exact .inr (.inl rfl)
   ·rfl
  ·cases hx
 ·by_cases h2:f=X.enable
  ·subst h2;unfold uz at hx;rw[bS h1,bC rfl]at hx
   split at hx
   ·simp only[ah,ay]at hx;obtain⟨rfl,rfl⟩:=hx;have e1:=Ki hc dS rfl;refine rj hJ H rfl fun aO gq=>⟨_,ρ,_,aO,_,EV .enable de ho hw hk e1 hX.enable aO,?_,tE.refl ..,?_,?_,hn _ _ _ ρ.le_refl (fun _ _=>rfl) (fH.aaS gq _) j1⟩
    ·exact⟨ρ.le_refl,gq.jY.deaf _,⟨fun _ _ x=> .inl x,fun _ _ x=> .inl x,fun _ x=> .inl x⟩,fun _ _=>rfl⟩
    ·intro e he;simp only[List.mem_toArray,aI,List.not_mem_nil,or_false]at he;subst he;exact .inr (.inr rfl)
    ·rfl
   ·cases hx
  ·refine rj hJ H rfl fun aO gq=>?_
   obtain⟨nx,w',hY,⟨DV,hL,H3⟩,FI,he⟩:=mF (P:=P) (R:=az ρ m) (N:=aO.heap.size) (Q:=fun nx w'=>jk m m'/\Left ρ m aO ρ m' w'/\nx= .value v) (ai _)
    (zB (w:=aO) hX hc dS fun bJ hr=>by
     obtain⟨g1,e,g2,g3⟩:=O7 (P:=P) (N:=aO.heap.size) gq.jY hX hr hx h1 h2;exact rz g2 (g3 fun w' hL hv=>⟨g1,hL,rfl⟩))
   have hv:aQ ρ v v:=by
    obtain⟨_,_,_,g,_⟩:=mF (P:=P) (R:=az ρ m) (N:=aO.heap.size) (Q:=fun nx w'=>aQ ρ v v) (ai _)
     (zB (w:=aO) hX hc dS fun bJ hr=>by
      obtain⟨g1,e,g2,g3⟩:=O7 (P:=P) (N:=aO.heap.size) gq.jY hX hr hx h1 h2;exact rz g2 (g3 fun w' hL hv=>hv))
    exact g
   subst H3;obtain⟨evs,zo,er⟩:=he #[];have mr:∀e∈listed P b.fn a o aO,nT (az ρ m) e:=fun e hx=>er e (by have :=mem_listed hx;rw[zo]at this;simpa using this)
   exact⟨_,ρ,m',w',_,stepG_value ho hw hk hY,hL,FI,fun e he=> .inl (mr e he),by rw[kL mr,DV.2.1],hn v w' ρ hL.le hL.old (gq.left hL DV FI) hv⟩
theorem MX (hJ:∀σ,gj P main (J σ))(ho:ops[i]?=some o)(hw:Region.wanted o (yielded ops a.tmps)=true)(hk:b.kind≠ .early)(H:cU P E bq σ ρ m w){ev:bX->ae}
  (dS:∀x∈o.op.operands,aQ ρ (ev x) (a.eval x)){f:Nat}{args:List ae}(hd:PG o ev f args){n:Nat}
  (hn:∀w' d,cU P E bq σ ρ m w'->yB ρ (f,args) d->J σ n ((az ρ m).or E) (G (b.at (Act.put ⟨a.tmps,d::a.defers⟩ o.dst undef) (.inRegion ops rest::k)) cs) w'):
  J σ (n+1) ((az ρ m).or E) (G (b.at a (.inRegion ops (i::rest)::k)) cs) w:=by
 obtain⟨x,lI,lB,first,cap,dq,hx,rfl⟩:=hd;have UH:x∈o.op.operands:=by rw[dq];simp[Op.operands,Call.operands]
 have hr:=dS x UH;rw[hx]at hr;obtain⟨f',c',e,h1,h2⟩:=fP.1 hr;have WC:yB ρ (f,first.toList++lI.toList.map ev++cap.toList) {target:= .fn (.func f) c',args:=f'++lI.map a.eval}:=by
  refine⟨c',rfl,?_⟩;simp only[Array.toList_append,Array.toList_map];refine(h1.append (bB.pI fun y hy=>dS y ?_)).append h2;rw[dq];simp only[Op.operands,Call.operands,Array.mem_append];exact .inr (by simpa using hy)
 have hY:∀w,(execOp a.eval o).run P w= .ok (.defer {target:= .fn (.func f) c',args:=f'++lI.map a.eval}) w:=by
  intro w;unfold execOp;simp[dq,resolve,Deferred.ofValue,e]
 have zo:∀w,(execOp a.eval o).events P w #[]=#[]:=by
  intro w;unfold execOp;simp[dq,resolve,Deferred.ofValue,e]
 have gm:(b.kind==CallKind.early)=false:=by simpa using hk
 refine rj hJ H rfl fun aO gq=>⟨_,ρ,m,aO,#[],?_,Left.refl gq.jY,tE.refl ..,fun e he=>by simp at he,rfl,hn aO _ gq WC⟩
 have pP:=zv (b:=b) (a:=⟨a.tmps,({target:= .fn (.func f) c',args:=f'++lI.map a.eval}:Deferred)::a.defers⟩) (k:=k) (rest:=rest) ho undef;rw[stepG_oper ho hw,<-pP];simp[stepG.apply,hY,zo,G,Frame.at,gm,GStep.after,seen_none]
end
end Go.AM
namespace Go.AM
open Go Go.Conc
structure tz (nt:Nat)(ρ:dh)(tm:Tm)(df:Df)(a:Act):Prop where
 size:a.tmps.size=nt
 tm:∀t,t<nt->aQ ρ (cY t tm) (a.tmps.getD t undef)
 df:bB (yB ρ) df a.defers
theorem tz.iJ{nt:Nat}{ρ bu:dh}{tm:Tm}{df:Df}{a:Act}(h:ρ.le bu)(ha:tz nt ρ tm df a):tz nt bu tm df a:=
 ⟨ha.size,fun t ht=>(ha.tm t ht).iJ h,ha.df.mono fun _ _ x=>x.iJ h⟩
theorem Vu (l:Array ae)(d t:Nat)(v:ae):(l.setIfInBounds d v).getD t undef=if d=t/\d<l.size then v else l.getD t undef:=by
 simp only[Array.getD_eq_getD_getElem?,Array.getElem?_setIfInBounds]
 by_cases h:d=t
 ·subst h
  by_cases h2:d<l.size
  ·simp[h2]
  ·simp[h2,Array.getElem?_eq_none (Nat.le_of_not_lt h2)]
 ·simp[h]
theorem xz (a:Act)(d:Option Tmp)(v:ae):(a.put d v).defers=a.defers/\(a.put d v).tmps.size=a.tmps.size/\∀t,t<a.tmps.size->(a.put d v).tmps.getD t undef=if d=some t then v else a.tmps.getD t undef:=by
 cases d with
 |none=>exact⟨rfl,rfl,fun t ht=>by simp[Act.put]⟩
 |some d=>
  refine⟨rfl,by simp[Act.put],fun t ht=>?_⟩
  show(a.tmps.setIfInBounds d v).getD t undef=_
  rw[Vu]
  by_cases h:d=t
  ·subst h;simp[ht]
  ·simp[h]
theorem tz.put{nt:Nat}{ρ:dh}{tm:Tm}{df ml:Df}{a:Act}{ds:List Deferred}{d:Option Tmp}{v v':ae}(ha:tz nt ρ tm df a)(hd:∀x,d=some x->x<512)(qD:nt<=512)(hv:aQ ρ v v')(vt:bB (yB ρ) ml ds):
  tz nt ρ (GL d v tm) ml (Act.put ⟨a.tmps,ds⟩ d v'):=by
 obtain⟨h1,h2,h3⟩:=xz ⟨a.tmps,ds⟩ d v';refine⟨h2.trans ha.size,fun t ht=>?_,by rw[h1];exact vt⟩;rw[h3 t (by rw[<-ha.size]at ht;exact ht)];unfold GL;cases d with
 |none=>exact ha.tm t ht
 |some d=>
  simp only[];rw[o0 (hd d rfl) aj]
  by_cases h:d=t
  ·subst h;simp[hv]
  ·simp only[h,if_false,ah];exact ha.tm t ht
section
variable {P:aD}{X:Ext}{main:Bool}{J:JT}{F:Mem->Mem->Prop}{call:cB}{E:Perm}{bq:au}{σ:nF}{ρ:dh}{m m':Mem}{w:au}
variable {b:Frame}{a:Act}{k:List Item}{cs:List Frame}{ops:Array gU}{i:Nat}{rest:List Nat}{o:gU}{nt:Nat}{tm:Tm}{df ml:Df}{v:ae}
theorem J2 (ha:∀t,t<nt->aQ ρ (cY t tm) (a.tmps.getD t undef))(H:cU P E bq σ ρ m w){x:bX}(hx:rI nt P.globals.size x=true):aQ ρ (du tm x) (a.eval x):=by
 cases x with
 |tmp t=>
  simp only[rI,kl,jQ]at hx;exact ha t hx
 |const v=>exact bO hx
 |global g=>
  simp only[rI,kl,jQ]at hx;obtain⟨p,h1,h2,h3⟩:=H.oj g hx;exact cL.2 ⟨p,h1,rfl,by rw[h2,h3];rfl⟩
 |func f=>exact fP.2 ⟨_,_,rfl,trivial,trivial⟩
theorem FX (hJ:∀σ,gj P main (J σ))(hX:qh P X)(hF:wR F)(C:fW P X main J F call)(ho:ops[i]?=some o)(DU:Wf m)(hd:zI P call o tm m df v m' ml):F m m'/\∃c,
  ∀{E:Perm}{bq:au}{σ:nF}{ρ:dh}{w:au}{b:Frame}{a:Act}{k:List Item}{cs:List Frame}{rest:List Nat}{n:Nat},b.kind≠ .early->Region.wanted o (yielded ops a.tmps)=true->cU P E bq σ ρ m w->
   (∀x∈o.op.operands,aQ ρ (du tm x) (a.eval x))->bB (yB ρ) df a.defers->
   (∀gu bu v' w' ds,ρ.le bu->rR m ρ bu->cU P E bq gu bu m' w'->aQ bu v v'->bB (yB bu) ml ds->J gu n ((az bu m').or E) (G (b.at (Act.put ⟨a.tmps,ds⟩ o.dst v') (.inRegion ops rest::k)) cs) w')->
   J σ (n+c) ((az ρ m).or E) (G (b.at a (.inRegion ops (i::rest)::k)) cs) w:=by
 rcases hd with⟨dq,rfl⟩|⟨f,args,hc,gE,rfl⟩|⟨f,args,nW,rfl,rfl,rfl⟩
 ·refine⟨hF.fr (Tw dq).w,1,fun hk hw H dS vt hn=>?_⟩;exact A2 (hJ _) ho hw hk H dS dq fun bu v' w' hle hold H' hv=>hn _ bu v' w' _ hle (.of hold) H' hv (vt.mono fun _ _ x=>x.iJ hle)
 ·obtain⟨h1,h2,h3⟩:=C f args m v m' DU gE;refine⟨h1,?_⟩;cases hb:dM P f with
  |false=>
   refine⟨1,fun hk hw H dS vt hn=>?_⟩;exact VA hJ hX ho hw hk H dS hc (h2 hb) fun v' w' bu hle hold H' hv=>hn _ bu v' w' _ hle (.of hold) H' hv (vt.mono fun _ _ x=>x.iJ hle)
  |true=>
   obtain⟨c,uo⟩:=h3 hb;refine⟨c+1,fun{E bq σ ρ w b a k cs rest n} hk hw H dS vt hn=>?_⟩;refine F6 hJ hX ho hw hk H dS hc hb fun aO bJ gq hr=>uo bJ _ cs n .normal gq hr (.inl rfl) fun gu bu v' w' hle hold H' hv=>?_
   rw[bC rfl,zv ho];exact hn gu bu v' w' _ hle hold H' hv (vt.mono fun _ _ x=>x.iJ hle)
 ·refine⟨hF.refl _,1,fun hk hw H dS vt hn=>?_⟩;exact MX hJ ho hw hk H dS nW fun w' d H' WC=>hn _ _ undef w' (d::_) (dh.le_refl _) (.of fun _ _=>rfl) H' mD ⟨WC,vt⟩
theorem vS (ady:∀j want,o.guard=some (j,want)->∃g,(ops[j]?).bind (·.dst)=some g/\g<nt/\aQ ρ (cY g tm) (a.tmps.getD g undef))(hs:a.tmps.size=nt):Region.wanted o (yielded ops a.tmps)=cP ops o tm:=by
 unfold Region.wanted cP;cases hg:o.guard with
 |none=>rfl
 |some p=>
  obtain⟨j,want⟩:=p;obtain⟨g,h1,h2,h3⟩:=ady j want hg;simp only[h1];unfold yielded;rw[h1];simp only[a9];have e:a.tmps[g]?=some (a.tmps.getD g undef):=by
   rw[Array.getD_eq_getD_getElem?,Array.getElem?_eq_getElem (show g<a.tmps.size by rw[hs];exact h2)];rfl
  rw[e];have key:∀u u',aQ ρ u u'->∀want:Bool,((match(some u':Option ae)with |some (.bool b)=>some b|_=>none)==some want)=(match u with | .bool b=>b==want|_=>false):=by
   intro u u' hu want;cases u with
   |bool b=>have :=(aF (by rfl)).1 hu;subst this;cases b<;>cases want<;>rfl
   |agg cs=>obtain⟨_,rfl,_⟩:=gW.1 hu;rfl
   |tuple cs=>obtain⟨_,rfl,_⟩:=dU.1 hu;rfl
   |iface t x=>obtain⟨_,rfl,_⟩:=fQ.1 hu;rfl
   |func fn f c=>obtain⟨_,_,rfl,_⟩:=fP.1 hu;rfl
   |pointer p=>cases p with
    |none=>have :=(aF (by rfl)).1 hu;subst this;rfl
    |some p=>obtain⟨_,_,_,rfl⟩:=cL.1 hu;rfl
   |slice p l c=>cases p with
    |none=>have :=(aF (by rfl)).1 hu;subst this;rfl
    |some p=>obtain⟨_,_,_,_,rfl,_⟩:=bV.1 hu;rfl
   |map p=>cases p with
    |none=>have :=(aF (by rfl)).1 hu;subst this;rfl
    |some p=>obtain⟨_,_,rfl⟩:=gV.1 hu;rfl
   |_=>obtain⟨n,h'⟩:=hu;cases n with |zero=>exact h'.elim|succ n=>have e:u'=_:=h';subst e;rfl
  exact key _ _ h3 want
theorem Tx (hJ:∀σ,gj P main (J σ))(hX:qh P X)(hF:wR F)(C:fW P X main J F call)(qD:nt<=512){fe:Tm}(DU:Wf m)(hd:qL P call nt ops i tm m df fe m' ml):F m m'/\∃c,
  ∀{E:Perm}{bq:au}{σ:nF}{ρ:dh}{w:au}{b:Frame}{a:Act}{k:List Item}{cs:List Frame}{rest:List Nat}{n:Nat},b.kind≠ .early->cU P E bq σ ρ m w->tz nt ρ tm df a->
   (∀gu bu w' a',ρ.le bu->rR m ρ bu->cU P E bq gu bu m' w'->tz nt bu fe ml a'->J gu n ((az bu m').or E) (G (b.at a' (.inRegion ops rest::k)) cs) w')->
   J σ (n+c) ((az ρ m).or E) (G (b.at a (.inRegion ops (i::rest)::k)) cs) w:=by
 obtain⟨o,ho,nO,jV,h⟩:=hd;rcases h with⟨hw,v,MF,rfl⟩|⟨hw,rfl,rfl,rfl⟩
 ·obtain⟨h1,c,h2⟩:=FX hJ hX hF C ho DU MF;refine⟨h1,c,fun{E bq σ ρ w b a k cs rest n} hk H ha hn=>?_⟩;have uj:=vS (ops:=ops) (o:=o) (tm:=tm) (fun j want hj=>let⟨g,g1,g2,g3⟩:=jV j want hj;⟨g,g1,g2,ha.tm g g2⟩) ha.size;refine h2 hk (uj.trans hw) H (fun x hx=>J2 ha.tm H (nO.1 x hx)) ha.df fun gu bu v' w' ds hle hold H' hv vt=>hn gu bu w' _ hle hold H' ?_
  exact(ha.iJ hle).put nO.2 qD hv vt
 ·refine⟨hF.refl _,1,fun{E bq σ ρ w b a k cs rest n} hk H ha hn=>?_⟩;have uj:=vS (ops:=ops) (o:=o) (tm:=tm) (fun j want hj=>let⟨g,g1,g2,g3⟩:=jV j want hj;⟨g,g1,g2,ha.tm g g2⟩) ha.size;refine qN (hJ _) ho (uj.trans hw) fun aO jU=>hn _ _ aO _ (dh.le_refl _) (.of fun _ _=>rfl) (H.keeps jU) ?_
  exact ha.put (ds:=a.defers) nO.2 qD mD ha.df
end
end Go.AM
namespace Go.AM
open Go Go.Conc
def B (bI:Array Nat)(i j:Nat):Prop:=(bI.getD i 0).testBit j=true
theorem FM (bI:Array Nat)(j:Nat):∀(l:List Edge) (s:Nat),(l.foldl (fun s e=>if Region.binds .any e then s|||2^e.on|||bI.getD e.on 0 else s) s).testBit j=true↔
  s.testBit j=true\/∃e∈l,Region.binds .any e=true/\(e.on=j\/B bI e.on j)
 | [],s=>by simp
 |e::l,s=>by
  rw[List.foldl_cons,FM bI j l]
  by_cases h:Region.binds .any e=true
  ·rw[bC h];simp only[Nat.testBit_or,Bool.or_eq_true,Nat.testBit_two_pow,jQ,aI]
   constructor
   ·rintro(((h1|h1)|h1)|⟨e',h1,h2⟩)
    ·exact .inl h1
    ·exact .inr ⟨e,.inl rfl,h,.inl h1⟩
    ·exact .inr ⟨e,.inl rfl,h,.inr h1⟩
    ·exact .inr ⟨e',.inr h1,h2⟩
   ·rintro(h1|⟨e',(rfl|h1),h2,h3⟩)
    ·exact .inl (.inl (.inl h1))
    ·rcases h3 with h3|h3
     ·exact .inl (.inl (.inr h3))
     ·exact .inl (.inr h3)
    ·exact .inr ⟨e',h1,h2,h3⟩
  ·rw[bS h]
   constructor
   ·rintro(h1|⟨e',h1,h2⟩)
    ·exact .inl h1
    ·exact .inr ⟨e',List.mem_cons_of_mem _ h1,h2⟩
   ·rintro(h1|⟨e',h1,h2,h3⟩)
    ·exact .inl h1
    ·rcases aI.1 h1 with rfl|h1
     ·exact absurd h2 h
     ·exact .inr ⟨e',h1,h2,h3⟩
structure yz (ops:Array gU)(bI:Array Nat)(nt:Nat):Prop where
 back:∀i o,ops[i]?=some o->∀e∈o.after,Region.binds .any e=true->e.on<i
 iff:∀i o,ops[i]?=some o->∀j,B bI i j↔∃e∈o.after,Region.binds .any e=true/\(e.on=j\/B bI e.on j)
 dst:∀(i:Nat) (o:gU) (d:Nat),ops[i]?=some o->o.dst=some d->d<nt
theorem dz {α:Type}{l:Array α}{i:Nat}{x:α}(h:l[i]?=some x):i<l.size:=by
 rcases Nat.lt_or_ge i l.size with h1|h1
 ·exact h1
 ·rw[Array.getElem?_eq_none h1]at h;cases h
theorem Tu {ops:Array gU}{bI:Array Nat}{nt:Nat}(h:GO ops bI nt=true):yz ops bI nt:=by
 have key:∀i o,ops[i]?=some o->(o.after.toList.all (fun e=>!Region.binds .any e||Nat.blt e.on i)&&Nat.beq (o.after.toList.foldl (fun s e=>if Region.binds .any e then s|||2^e.on|||bI.getD e.on 0 else s) 0) (bI.getD i 0)&&(match o.dst with |some d=>Nat.blt d nt|none=>true))=true:=by
  intro i o ho;have :=aB.1 h i (List.mem_range.2 (dz ho));rw[ho]at this;exact this
 refine⟨fun i o ho e he hb=>?_,fun i o ho j=>?_,fun i o d ho hd=>?_⟩
 ·have :=key i o ho;simp only[ag]at this;have h1:=aB.1 this.1.1 e (by simpa using he);simp only[hb,Bool.not_true,Bool.false_or,Nat.blt_eq]at h1;exact h1
 ·have :=key i o ho;simp only[ag]at this;have h1:=aA this.1.2;unfold B;rw[<-h1,FM];simp[B]
 ·have :=key i o ho;simp only[ag,hd]at this;simpa[kl]using this.2
section
variable {ops:Array gU}{bI:Array Nat}{nt:Nat}
theorem yz.lt(h:yz ops bI nt):∀{i j:Nat},i<ops.size->B bI i j->j<i:=by
 intro i
 induction i using Nat.strongRecOn with
 |_ i ih=>
  intro j hi hb;obtain⟨e,he,JP,hj⟩:=(h.iff i _ (Array.getElem?_eq_getElem hi) j).1 hb;have cC:=h.back i _ (Array.getElem?_eq_getElem hi) e he JP;rcases hj with rfl|hj
  ·exact cC
  ·have :=ih e.on cC aj hj;omega
theorem yz.trans(h:yz ops bI nt):∀{i j k:Nat},i<ops.size->B bI i j->B bI j k->B bI i k:=by
 intro i
 induction i using Nat.strongRecOn with
 |_ i ih=>
  intro j k hi hb hk;obtain⟨e,he,JP,hj⟩:=(h.iff i _ (Array.getElem?_eq_getElem hi) j).1 hb;have cC:=h.back i _ (Array.getElem?_eq_getElem hi) e he JP;rcases hj with rfl|hj
  ·exact(h.iff i _ (Array.getElem?_eq_getElem hi) k).2 ⟨e,he,JP,.inr hk⟩
  ·exact(h.iff i _ (Array.getElem?_eq_getElem hi) k).2 ⟨e,he,JP,.inr (ih e.on cC aj hj hk)⟩
structure j7 (ops:Array gU)(bI:Array Nat)(D:Nat->Prop)(l:List Nat):Prop where
 nodup:l.Nodup
 lt:∀i∈l,i<ops.size
 fresh:∀i∈l,¬D i
 all:∀i,i<ops.size->D i\/i∈l
 down:∀i,D i->∀j,B bI i j->D j
 ahead:∀G0 i GZ,l=G0++i::GZ->∀j,B bI i j->D j\/j∈G0
 dlt:∀i,D i->i<ops.size
theorem j7.head{D:Nat->Prop}{i:Nat}{l:List Nat}(h:j7 ops bI D (i::l)):(∀j,B bI i j->D j)/\¬D i/\i<ops.size/\j7 ops bI (fun x=>D x\/x=i) l:=by
 have h1:∀j,B bI i j->D j:=fun j hj=>(h.ahead [] i l rfl j hj).resolve_right de
 have hn:=List.nodup_cons.1 h.nodup;refine⟨h1,h.fresh i de,h.lt i de,hn.2,fun x hx=>h.lt x (by simp[hx]),fun x hx=>?_,fun x hx=>?_,fun x hx j hj=>?_,fun G0 x GZ e j hj=>?_,fun x hx=>?_⟩
 ·rintro(h2|rfl)
  ·exact h.fresh x (by simp[hx]) h2
  ·exact hn.1 hx
 ·rcases h.all x hx with h2|h2
  ·exact .inl (.inl h2)
  ·rcases aI.1 h2 with rfl|h2
   ·exact .inl (.inr rfl)
   ·exact .inr h2
 ·rcases hx with hx|rfl
  ·exact .inl (h.down x hx j hj)
  ·exact .inl (h1 j hj)
 ·rcases h.ahead (i::G0) x GZ (by rw[e];rfl) j hj with h2|h2
  ·exact .inl (.inl h2)
  ·rcases aI.1 h2 with rfl|h2
   ·exact .inl (.inr rfl)
   ·exact .inr h2
 ·rcases hx with hx|rfl
  ·exact h.dlt x hx
  ·exact h.lt x de
def Gm (n:Nat)(listed:Array Bool):Nat:=((List.range n).filter fun i=>!listed.getD i false).length
theorem SJ (l:Array Bool)(i x:Nat)(hi:i<l.size):(l.setIfInBounds i true).getD x false=(decide (i=x)||l.getD x false):=by
 simp only[Array.getD_eq_getD_getElem?,Array.getElem?_setIfInBounds]
 by_cases h:i=x
 ·subst h;simp[hi]
 ·simp[h]
theorem filter_lt {α:Type}{p q:α->Bool}:∀{l:List α}{x:α},x∈l->p x=true->q x=false->(∀y,q y=true->p y=true)->(l.filter q).length<(l.filter p).length
 |a::l,x,hx,hp,hq,h=>by
  have hle:∀(l:List α),(l.filter q).length<=(l.filter p).length:=by
   intro l
   induction l with
   |nil=>exact ai _
   |cons b l ih=>
    simp only[List.filter_cons];cases hqb:q b
    ·cases hpb:p b<;>simp <;>omega
    ·rw[h b hqb];simp;omega
  rcases aI.1 hx with rfl|hx
  ·have :=hle l;simp only[List.filter_cons,hp,hq,if_true,bU,if_false,List.length_cons];omega
  ·have :=filter_lt hx hp hq h;simp only[List.filter_cons];cases hqb:q a
   ·cases hpb:p a<;>simp <;>omega
   ·rw[h a hqb];simp;omega
theorem Bg (h:yz ops bI nt){D:Nat->Prop}(cC:∀i,D i->i<ops.size)(hc:∀i,D i->∀o,ops[i]?=some o->∀e∈o.after,Region.binds .any e=true->D e.on):∀i,D i->∀j,B bI i j->D j:=by
 intro i
 induction i using Nat.strongRecOn with
 |_ i ih=>
  intro hi j hj;have hil:=cC i hi;obtain⟨e,he,JP,hj⟩:=(h.iff i _ (Array.getElem?_eq_getElem hil) j).1 hj;have h1:=hc i hi _ (Array.getElem?_eq_getElem hil) e he JP;rcases hj with rfl|hj
  ·exact h1
  ·exact ih e.on (h.back i _ (Array.getElem?_eq_getElem hil) e he JP) h1 j hj
theorem j7.nil{D:Nat->Prop}(oh:∀i,i<ops.size->D i)(Vb:∀i,D i->∀j,B bI i j->D j)(cC:∀i,D i->i<ops.size):j7 ops bI D []:=
 ⟨List.nodup_nil,de,de,fun i hi=> .inl (oh i hi),Vb,fun G0 i GZ e=>(by simp at e),cC⟩
theorem Tt (h:yz ops bI nt):∀(fuel t:Nat) (listed:Array Bool),listed.size=ops.size->Gm ops.size listed<=fuel->
  (∀i,listed.getD i false=true->∀o,ops[i]?=some o->∀e∈o.after,Region.binds .any e=true->listed.getD e.on false=true)->
  j7 ops bI (fun i=>listed.getD i false=true) (Region.linearise.go .any ops fuel t listed []):=by
 intro fuel
 induction fuel with
 |zero=>
  intro t listed hs hu hc;have cC:∀i,listed.getD i false=true->i<ops.size:=fun i hi=>by
   rcases Nat.lt_or_ge i ops.size with h1|h1
   ·exact h1
   ·rw[Array.getD_eq_getD_getElem?,Array.getElem?_eq_none aj]at hi;cases hi
  simp only[Region.linearise.go,List.reverse_nil];refine j7.nil (fun i hi=>?_) (Bg h cC hc) cC;have :(List.range ops.size).filter (fun i=>!listed.getD i false)=[]:=List.eq_nil_of_length_eq_zero (by unfold Gm at hu;omega);rw[List.filter_eq_nil_iff]at this;simpa using this i (List.mem_range.2 hi)
 |succ fuel ih=>
  intro t listed hs hu hc;have cC:∀i,listed.getD i false=true->i<ops.size:=fun i hi=>by
   rcases Nat.lt_or_ge i ops.size with h1|h1
   ·exact h1
   ·rw[Array.getD_eq_getD_getElem?,Array.getElem?_eq_none aj]at hi;cases hi
  have hTF:∀i,i<ops.size->listed.getD i true=listed.getD i false:=fun i hi=>by
   simp only[Array.getD_eq_getD_getElem?,Array.getElem?_eq_getElem (show i<listed.size by omega),Option.getD_some]
  simp only[Region.linearise.go]
  change j7 ops bI _ (match(Region.ready .any ops listed)[t%(Region.ready .any ops listed).length]? with
   |some i=>Region.linearise.go .any ops fuel (t / (Region.ready .any ops listed).length) (listed.setIfInBounds i true) [i]
   |none=>[].reverse)
  have UR:∀i,i∈Region.ready .any ops listed↔i<ops.size/\listed.getD i false=false/\∀o,ops[i]?=some o->∀e∈o.after,Region.binds .any e=true->listed.getD e.on false=true:=by
   intro i;unfold Region.ready;rw[List.mem_filter,List.mem_range]
   constructor
   ·rintro⟨h1,h2⟩;simp only[ag,Bool.not_eq_true',Array.getElem?_eq_getElem h1,cN,Option.getD_some]at h2;rw[hTF i h1]at h2;refine⟨h1,h2.1,fun o ho e he hb=>?_⟩;rw[Array.getElem?_eq_getElem h1]at ho;cases ho;have :=Array.all_eq_true_iff_forall_mem.1 h2.2 e he;simpa[hb]using this
   ·rintro⟨h1,h2,h3⟩;refine⟨h1,?_⟩;simp only[ag,Bool.not_eq_true',Array.getElem?_eq_getElem h1,cN,Option.getD_some];rw[hTF i h1];refine⟨h2,Array.all_eq_true_iff_forall_mem.2 fun e he=>?_⟩;cases hb:Region.binds .any e with
    |false=>simp
    |true=>simpa[hb]using h3 _ (Array.getElem?_eq_getElem h1) e he hb
  cases hi:(Region.ready .any ops listed)[t%(Region.ready .any ops listed).length]? with
  |none=>
   have Mx:Region.ready .any ops listed=[]:=by
    cases hr:Region.ready .any ops listed with
    |nil=>rfl
    |cons x xs=>
     rw[hr]at hi;have U1:t%(x::xs).length<(x::xs).length:=Nat.mod_lt _ de;simp only[List.getElem?_eq_none_iff]at hi;omega
   simp only[List.reverse_nil];refine j7.nil (fun i hi=>?_) (Bg h cC hc) cC
   induction i using Nat.strongRecOn with
   |_ i ih2=>
    cases hd:listed.getD i false with
    |true=>rfl
    |false=>
     have :i∈Region.ready .any ops listed:=(UR i).2 ⟨hi,hd,fun o ho e he hb=>ih2 e.on (h.back i o ho e he hb) (by have :=h.back i o ho e he hb;omega)⟩;rw[Mx]at this;cases this
  |some i=>
   obtain⟨h1,h2,h3⟩:=(UR i).1 (List.mem_of_getElem? hi);have his:i<listed.size:=aj;simp only[];rw[linearise_go_acc,List.reverse_singleton,List.singleton_append];have wq:∀x,(listed.setIfInBounds i true).getD x false=true↔listed.getD x false=true\/x=i:=fun x=>by
    rw[SJ _ _ _ his];simp only[Bool.or_eq_true,jQ];exact⟨fun h=>h.elim (fun e=> .inr e.symm) .inl,fun h=>h.elim .inr fun e=> .inl e.symm⟩
   have hL:=ih (t / (Region.ready .any ops listed).length) (listed.setIfInBounds i true) (by simpa using hs) (by
    have :=filter_lt (p:=fun x=>!listed.getD x false) (q:=fun x=> !(listed.setIfInBounds i true).getD x false) (List.mem_range.2 h1) (by simp[h2]) (by simp[(wq i).2 (.inr rfl)]) (fun y hy=>by
     simp only[Bool.not_eq_true']at hy⊢;cases hh:listed.getD y false with
     |false=>rfl
     |true=>rw[(wq y).2 (.inl hh)]at hy;cases hy)
    unfold Gm at hu⊢;omega) (fun x hx o ho e he hb=>by
     rcases(wq x).1 hx with hx|rfl
     ·exact(wq _).2 (.inl (hc x hx o ho e he hb))
     ·exact(wq _).2 (.inl (h3 o ho e he hb)))
   have um:i∉Region.linearise.go .any ops fuel (t / (Region.ready .any ops listed).length) (listed.setIfInBounds i true) []:=fun hm=>hL.fresh i hm ((wq i).2 (.inr rfl))
   refine⟨List.nodup_cons.2 ⟨um,hL.nodup⟩,fun x hx=>?_,fun x hx hd=>?_,fun x hx=>?_,Bg h cC hc,fun G0 x GZ e j hj=>?_,cC⟩
   ·rcases aI.1 hx with rfl|hx
    ·exact h1
    ·exact hL.lt x hx
   ·rcases aI.1 hx with rfl|hx
    ·rw[h2]at hd;cases hd
    ·exact hL.fresh x hx ((wq x).2 (.inl hd))
   ·rcases hL.all x hx with h4|h4
    ·rcases(wq x).1 h4 with h5|rfl
     ·exact .inl h5
     ·exact .inr de
    ·exact .inr (by simp[h4])
   ·cases G0 with
    |nil=>
     simp only[List.nil_append,List.cons.injEq]at e;obtain⟨rfl,_⟩:=e;obtain⟨ed,he,JP,hjj⟩:=(h.iff i _ (Array.getElem?_eq_getElem h1) j).1 hj;have h5:=h3 _ (Array.getElem?_eq_getElem h1) ed he JP;rcases hjj with rfl|hjj
     ·exact .inl h5
     ·exact .inl (Bg h cC hc _ h5 j hjj)
    |cons y G0=>
     simp only[List.cons_append,List.cons.injEq]at e;obtain⟨rfl,e⟩:=e;rcases hL.ahead G0 x GZ e j hj with h4|h4
     ·rcases(wq j).1 h4 with h5|rfl
      ·exact .inl h5
      ·exact .inr de
     ·exact .inr (by simp[h4])
theorem I4 (h:yz ops bI nt)(t:Nat):j7 ops bI (fun _=>False) (Region.linearise .any ops t):=by
 have hg:∀i,(Array.replicate ops.size false).getD i false=false:=fun i=>by
  simp only[Array.getD_eq_getD_getElem?,Array.getElem?_replicate]
  split<;>rfl
 have :=Tt h ops.size t (Array.replicate ops.size false) de (by
  unfold Gm;have :=List.length_filter_le (fun i=> !(Array.replicate ops.size false).getD i false) (List.range ops.size);simpa using this) (fun i hi=>by rw[hg i]at hi;cases hi)
 have e:(fun i=>(Array.replicate ops.size false).getD i false=true)=fun _=>False:=by
  funext i
  rw[hg i];simp
 rw[e]at this;exact this
end
end Go.AM
namespace Go.AM
open Go Go.Conc
structure kO (m m':Mem):Prop where
 fr:jk m m'
 blk:∀b,b<m.next->m'.blk b=m.blk b
theorem kO.refl(m:Mem):kO m m:=⟨jk.refl m,fun _ _=>rfl⟩
theorem kO.trans{m m₁ m₂:Mem}(h:kO m m₁)(k:kO m₁ m₂):kO m m₂:=
 ⟨h.fr.trans k.fr,fun b hb=>(k.blk b (aW hb h.fr.1.next)).trans (h.blk b hb)⟩
theorem kO.alloc(m:Mem)(k:dJ)(hk:k.live):kO m (m.alloc k):=⟨jk.alloc m k hk,fun b hb=>by rw[Mem.bY,bS aj]⟩
section
variable {m m':Mem}(h:kO m m')
include h
theorem kO.home:m'.home=m.home:=h.fr.1.home
theorem kO.bl:m'.bl=m.bl:=h.fr.1.bl
theorem kO.base:m'.base=m.base:=h.fr.1.base
theorem kO.floor:m'.floor=m.floor:=h.fr.1.floor
theorem kO.opn:m'.opn=m.opn:=h.fr.1.opn
theorem kO.next:m.next<=m'.next:=h.fr.1.next
theorem kO.deaf:m'.deaf=m.deaf:=h.fr.2.1
end
section
variable {P:aD}{E:Perm}{bq:au}{σ:nF}{ρ bu:dh}{m m':Mem}{w w':au}
theorem I1 (hb:∀b p,ρ b=some p->m'.blk b=m.blk b)(hh:m'.bl=m.bl)(hhm:m'.home=m.home)(hf:m'.floor=m.floor)(ho:m'.opn=m.opn)(hd:m'.deaf=m.deaf):az ρ m'=az ρ m:=by
 have hR:∀b p o,ρ b=some p->(m'.nK b o↔m.nK b o):=fun b p o hp=>by unfold Mem.nK;rw[hb b p hp,hh]
 have hW:∀b p o,ρ b=some p->(m'.okW b o↔m.okW b o):=fun b p o hp=>by unfold Mem.okW;rw[hR b p o hp,hf,ho]
 have hO:∀b,m'.bg b=m.bg b:=fun b=>by unfold Mem.bg;rw[hh,hhm]
 unfold az
 congr 1
 ·funext c x
  exact propext ⟨fun⟨b,p,h1,h2,h3,h4,h5⟩=>⟨b,p,h1,h2,h3,h4,(hR b p _ h1).1 h5⟩,fun⟨b,p,h1,h2,h3,h4,h5⟩=>⟨b,p,h1,h2,h3,h4,(hR b p _ h1).2 h5⟩⟩
 ·funext c x
  exact propext ⟨fun⟨b,p,h1,h2,h3,h4,h5⟩=>⟨b,p,h1,h2,h3,h4,(hW b p _ h1).1 h5⟩,fun⟨b,p,h1,h2,h3,h4,h5⟩=>⟨b,p,h1,h2,h3,h4,(hW b p _ h1).2 h5⟩⟩
 ·funext c
  exact propext ⟨fun⟨b,p,h1,h2,h3,h4⟩=>⟨b,p,h1,h2,by rwa[hb b p h1]at h3,by rwa[hO]at h4⟩,fun⟨b,p,h1,h2,h3,h4⟩=>⟨b,p,h1,h2,by rwa[hb b p h1],by rwa[hO]⟩⟩
theorem cU.grow(H:cU P E bq σ ρ m w)(g:kO m m'):cU P E bq σ ρ m' w/\az ρ m'=az ρ m:=by
 have hb:∀b p,ρ b=some p->m'.blk b=m.blk b:=fun b p hp=>g.blk b (H.jY.mz b p hp)
 have hp:=I1 hb g.bl g.home g.floor g.opn g.deaf;refine⟨⟨H.jY.FW g.next hb g.bl g.base g.home,H.rest,by rw[hp];exact H.apart,H.oj,H.fI.fr g.fr.1 ρ.le_refl (fun _ _=>rfl),g.fr.2.2 H.wf,H.Nq.step H.wf H.apart g.fr.1 (fun _ _=>rfl) (by rw[hp];exact eJ.refl _ _),by rw[hp];exact H.ew⟩,hp⟩
def jA (o:gU)(ev:bX->ae)(v:ae):ae:=
 match o.op with
 | .load _ x=>ev x
 | .lookup _ x _ _=>ev x
 | .slice _ x _ _ _=>ev x
 |_=>v
theorem map_eq {v:ae}{o:Option ae}:o.map (fun x=>(x,m))=some (v,m')↔o=some v/\m'=m:=by
 cases o with
 |none=>simp
 |some x=>simp only[cN,ah,ay];exact⟨fun h=>⟨h.1,h.2.symm⟩,fun h=>⟨h.1,h.2.symm⟩⟩
theorem Cp {b o n:Nat}{vs:List ae}(h:m.dB b o n=some vs)(hb:m'.blk b=m.blk b)(hm:meets m'.bl b o n=false):m'.dB b o n=some vs:=by
 unfold Mem.dB at h⊢;simp only[hb]at h⊢
 split at h
 ·rename_i hc;simp only[ag]at hc;rw[bC (by simp only[ag];exact⟨hc.1,by rw[hm];rfl⟩)];exact h
 ·cases h
theorem qA {b o n:Nat}{vs:List ae}(h:m.dB b o n=some vs):meets m.bl b o n=false/\(m.blk b).kind=1:=by
 unfold Mem.dB at h;simp only[]at h
 split at h
 ·rename_i hc;simp only[ag,Bool.not_eq_true',beq_iff_eq]at hc;exact⟨hc.2,hc.1⟩
 ·cases h
theorem Jo {t:aM}{p v:ae}(h:j9 P t p m=some v):∃b o n,p= .pointer (some ⟨b,o,none⟩)/\(m.blk b).kind=1/\meets m.bl b o n=false/\
  ∀m':Mem,m'.blk b=m.blk b->((j9 P t p m').isSome=true\/meets m'.bl b o n=false)->j9 P t p m'=some v:=by
 unfold j9 at h
 split at h
 ·rename_i b o
  split at h
  ·rename_i ha;obtain⟨n,hn,h⟩:=bD.1 h;obtain⟨l,hl,rfl⟩:=aC.1 h;have hk:=qA hl;refine⟨b,o,n,rfl,hk.2,hk.1,fun m' hb hm=>?_⟩;have OS:meets m'.bl b o n=false:=by
    rcases hm with hm|hm
    ·unfold j9 at hm;simp only[ha,hn,a9,Option.isSome_map]at hm;obtain⟨l',AR⟩:=iA.1 hm;exact(qA AR).1
    ·exact hm
   unfold j9;simp only[ha,hn,a9,Cp hl hb OS,cN]
  ·rename_i ha;obtain⟨l,hl,h⟩:=bD.1 h;have hk:=qA hl;refine⟨b,o,1,rfl,hk.2,hk.1,fun m' hb hm=>?_⟩;have OS:meets m'.bl b o 1=false:=by
    rcases hm with hm|hm
    ·unfold j9 at hm;simp only[ha]at hm;obtain⟨l',AR⟩:=iA.1 hm;obtain⟨l'',ak4,_⟩:=bD.1 AR;exact(qA ak4).1
    ·exact hm
   unfold j9;simp only[ha,Cp hl hb OS,a9,h]
  ·cases h
 ·cases h
theorem Cn {t:aM}{x k v:ae}{ok:Bool}(h:gH P t x k ok m=some v):
  (∀m',gH P t x k ok m'=some v)\/∃b,x= .map (some b)/\(m.blk b).kind=2/\m.bg b=true/\∀m':Mem,m'.blk b=m.blk b->((gH P t x k ok m').isSome=true\/m'.bg b=true)->gH P t x k ok m'=some v:=by
 unfold gH at h
 split at h
 ·rename_i kt et r s hu
  split at h
  ·rename_i z hk hz;cases r with
   |none=>
    left
    intro m';unfold gH;simp only[hu,hk,hz];exact h
   |some b=>
    right
    simp only[]at h
    split at h
    ·rename_i es FH
     split at FH
     ·rename_i hc;simp only[ag,beq_iff_eq]at hc;refine⟨b,rfl,hc.1,hc.2,fun m' hb hm=>?_⟩;have ho:m'.bg b=true:=by
       rcases hm with hm|hm
       ·unfold gH at hm;simp only[hu,hk,hz]at hm
        split at hm
        ·rename_i jD ahT
         split at ahT
         ·rename_i FI;simp only[ag]at FI;exact FI.2
         ·cases ahT
        ·cases hm
       ·exact hm
      unfold gH;simp only[hu,hk,hz];rw[bC (by rw[hb,hc.1,ho];rfl),hb];simp only[ah]at FH;subst FH;exact h
     ·cases FH
    ·cases h
  ·cases h
 ·rename_i kt et b cs hu
  right
  have hr:∃r,y8 P kt b (.agg cs) m=some r:=by
   unfold sA at h
   split at h
   ·exact⟨_,nV⟩
   ·exact⟨_,nV⟩
   ·cases h
  obtain⟨r,hr⟩:=hr;obtain⟨h1,h2,_⟩:=mI hr;refine⟨b,rfl,h1,h2,fun m' hb hm=>?_⟩;have ho:m'.bg b=true:=by
   rcases hm with hm|hm
   ·unfold gH at hm;simp only[hu]at hm;unfold sA at hm
    split at hm
    ·exact(mI nV).2.1
    ·exact(mI nV).2.1
    ·cases hm
   ·exact hm
  have e:y8 P kt b (.agg cs) m'=y8 P kt b (.agg cs) m:=by
   unfold y8;rw[hb,ho,h2]
  unfold gH;simp only[hu];unfold sA at h⊢;rw[e];exact h
 ·cases h
theorem Fa {t:aM}{x:ae}{lo hi:Option ae}{m':Mem}(hb:∀b,mY x=some b->m'.blk b=m.blk b):jb P t x lo hi m'=jb P t x lo hi m:=by
 unfold jb
 split
 ·rename_i b o len cap hu;rw[hb b rfl]
 ·rfl
 ·rfl
 ·rfl
def Nv (mk:Nat->ae):Prop:=(mk=fun β=>ptrTo β 0)\/(∃l c,c≠cD/\mk=fun β=> .slice (some ⟨β,0,none⟩) l c)\/(mk=fun β=> .map (some β))
theorem aQ.back:∀{n:Nat}{v u u':ae},ρ.le bu->VR ρ n v u'->aQ bu v u->aQ ρ v u:=by
 intro n
 induction n with
 |zero=>intro v u u' _ h _;exact h.elim
 |succ n ih=>
  intro v u u' hle h h';have list:∀{l l' r:List ae},bB (VR ρ n) l l'->bB (aQ bu) l r->bB (aQ ρ) l r:=by
   intro l
   induction l with
   |nil=>intro l' r _ h2;cases r<;>simp_all [bB]
   |cons a l ihl=>
    intro l' r h1 h2;cases l' with
    |nil=>exact h1.elim
    |cons a' l'=>cases r with
     |nil=>exact h2.elim
     |cons b r=>exact⟨ih hle h1.1 h2.1,ihl h1.2 h2.2⟩
  cases v with
  |pointer a=>cases a with
   |none=>exact(aF rfl).2 ((aF rfl).1 h')
   |some a=>
    obtain⟨p,h1,h2,_⟩:=h;obtain⟨q,g1,g2,g3⟩:=cL.1 h';rw[hle _ _ h1]at g1;cases g1;exact cL.2 ⟨_,h1,h2,g3⟩
  |slice a l c=>cases a with
   |none=>exact(aF rfl).2 ((aF rfl).1 h')
   |some a=>
    obtain⟨p,_,h1,h2,_⟩:=h;obtain⟨q,c',g1,g2,g3⟩:=bV.1 h';rw[hle _ _ h1]at g1;cases g1;exact bV.2 ⟨_,c',h1,g2,g3⟩
  |map a=>cases a with
   |none=>exact(aF rfl).2 ((aF rfl).1 h')
   |some a=>
    obtain⟨p,h1,h2⟩:=h;obtain⟨q,g1,g2⟩:=gV.1 h';rw[hle _ _ h1]at g1;cases g1;exact gV.2 ⟨_,h1,g2⟩
  |func fn f c=>
   obtain⟨_,_,_,h1,h2⟩:=h;obtain⟨f',c',e,g1,g2⟩:=fP.1 h';exact fP.2 ⟨f',c',e,list h1 g1,list h2 g2⟩
  |iface t x=>
   obtain⟨_,_,h1⟩:=h;obtain⟨x',e,g1⟩:=fQ.1 h';exact fQ.2 ⟨x',e,ih hle h1 g1⟩
  |agg cs=>
   obtain⟨_,_,h1⟩:=h;obtain⟨x',e,g1⟩:=gW.1 h';exact gW.2 ⟨x',e,list h1 g1⟩
  |tuple cs=>
   obtain⟨_,_,h1⟩:=h;obtain⟨x',e,g1⟩:=dU.1 h';exact dU.2 ⟨x',e,list h1 g1⟩
  |bool b=>exact(aF rfl).2 ((aF rfl).1 h')
  |int k b=>exact(aF rfl).2 ((aF rfl).1 h')
  |string b=>exact(aF rfl).2 ((aF rfl).1 h')
  |nilFunc=>exact(aF rfl).2 ((aF rfl).1 h')
  |nilIface=>exact(aF rfl).2 ((aF rfl).1 h')
  |float k b=>obtain⟨n,h'⟩:=h';cases n with |zero=>exact h'.elim|succ n=>exact⟨1,h'⟩
  |complex k a b=>obtain⟨n,h'⟩:=h';cases n with |zero=>exact h'.elim|succ n=>exact⟨1,h'⟩
  |chan r=>obtain⟨n,h'⟩:=h';cases n with |zero=>exact h'.elim|succ n=>exact⟨1,h'⟩
theorem fH.aiR(h:fH ρ m w'){β Gf:Nat}{A:Mem}{pl:Pl}(jj:ρ β=none)(cC:β<m.next)(h':fH bu A w')(hp:bu Gf=some pl)(hle:ρ.le bu)(dH:∀b p,ρ b=some p->b≠Gf)
  (e:(A.blk Gf).kind=(m.blk β).kind/\(A.blk Gf).sz=(m.blk β).sz/\(A.blk Gf).pos=(m.blk β).pos/\(A.blk Gf).cs=(m.blk β).cs/\(A.blk Gf).es=(m.blk β).es/\(A.blk Gf).clock=(m.blk β).clock)
  (MB:(m.blk β).kind≠3)(hA:∀b p,ρ b=some p->A.blk b=m.blk b)(s9:A.base<=Gf)(vr:aL A.bl Gf=false/\A.home<=Gf)(FH:(m.blk β).es=#[])
  (hv:∀v,some v∈(m.blk β).cs->∃u,aQ ρ v u):fH (ρ.put β pl) m w':=by
 obtain⟨e1,e2,e3,e4,e5,e6⟩:=e;have YY:=dh.uf jj pl;have dO:∀b' p',ρ.put β pl b'=some p'->(b'=β/\p'=pl)\/(b'≠β/\ρ b'=some p'):=by
  intro b' p' dy;unfold dh.put at dy
  split at dy
  ·rename_i e;exact .inl ⟨e,(Option.some.inj dy).symm⟩
  ·rename_i e;exact .inr ⟨e,dy⟩
 refine⟨fun b' p' dy=>?_,fun b' p' dy hk=>?_,fun b' p' x v dy hc=>?_,fun b' p' x dy hx hk nC=>?_,fun b' p' dy hk ho=>?_,fun b' p' dy hk ho=>?_,fun yn ym nJ oH My pN AL k₁ k₂ hc=>?_,fun b' p' dy=>?_,fun b' p' dy hk wY=>?_⟩
 ·rcases dO _ _ dy with⟨rfl,rfl⟩|⟨_,hq⟩
  ·exact cC
  ·exact h.mz _ _ hq
 ·rcases dO _ _ dy with⟨rfl,rfl⟩|⟨_,hq⟩
  ·obtain⟨g1,g2,g3⟩:=h'.cells Gf _ hp (by rw[e1];exact hk);exact⟨g1.trans e2,by rw[<-e4];exact g2,g3⟩
  ·exact h.cells _ _ hq hk
 ·rcases dO _ _ dy with⟨rfl,rfl⟩|⟨_,hq⟩
  ·have hx:(m.blk b').kind=1/\(m.blk b').cs[x]?=some (some v):=by
    unfold Mem.cell at hc
    split at hc
    ·rename_i hk;cases hg:(m.blk b').cs[x]? with
     |none=>simp[hg]at hc
     |some u=>cases u<;>simp[hg]at hc;subst hc;exact⟨hk.1,rfl⟩
    ·cases hc
   have FI:A.cell Gf x=some v:=by
    unfold Mem.cell;rw[bC ⟨by rw[e1];exact hx.1,dV vr.1 x⟩,e4,hx.2];rfl
   obtain⟨v',g1,g2⟩:=h'.lj Gf _ x v hp FI;obtain⟨u,n,hu⟩:=hv v (List.mem_of_getElem? hx.2);exact⟨v',g1,(aQ.back hle hu g2).iJ YY⟩
  ·obtain⟨v',h1,h2⟩:=h.lj _ _ _ _ hq hc;exact⟨v',h1,h2.iJ YY⟩
 ·rcases dO _ _ dy with⟨rfl,rfl⟩|⟨_,hq⟩
  ·exact h'.thaw Gf _ x hp hx (by rw[e1];exact hk) s9
  ·exact h.thaw _ _ _ hq hx hk nC
 ·rcases dO _ _ dy with⟨rfl,rfl⟩|⟨_,hq⟩
  ·obtain⟨jD,g1,g2⟩:=h'.maps Gf _ hp (by rw[e1];exact hk) (by unfold Mem.bg;rw[vr.1];simpa using vr.2);rw[e5,FH]at g2;refine⟨jD,by rw[<-e6];exact g1,?_⟩;rw[FH];cases hh:jD.toList with
   |nil=>trivial
   |cons a l=>rw[hh]at g2;exact g2.elim
  ·obtain⟨jD,g1,g2⟩:=h.maps _ _ hq hk ho;exact⟨jD,g1,g2.mono fun _ _ x=>⟨x.1.iJ YY,x.2.1.iJ YY,x.2.2⟩⟩
 ·rcases dO _ _ dy with⟨rfl,rfl⟩|⟨_,hq⟩
  ·exact absurd hk MB
  ·exact h.lD _ _ hq hk ho
 ·rcases dO _ _ pN with⟨rfl,rfl⟩|⟨amP,IS⟩<;>rcases dO _ _ AL with⟨rfl,rfl⟩|⟨amO,IQ⟩
  ·exact absurd rfl My
  ·have :=h'.sep Gf ym _ oH (Ne.symm (dH _ _ IQ)) hp (hle _ _ IQ) (by rw[e1];exact k₁) (by rw[hA _ _ IQ];exact k₂) hc;rw[e1,hA _ _ IQ]at this;exact this
  ·have :=h'.sep yn Gf nJ _ (dH _ _ IS) (hle _ _ IS) hp (by rw[hA _ _ IS];exact k₁) (by rw[e1];exact k₂) hc;rw[e1,hA _ _ IS]at this;exact this
  ·exact h.sep _ _ _ _ My IS IQ k₁ k₂ hc
 ·rcases dO _ _ dy with⟨rfl,rfl⟩|⟨_,hq⟩
  ·exact h'.rG _ _ hp
  ·exact h.rG _ _ hq
 ·rcases dO _ _ dy with⟨rfl,rfl⟩|⟨_,hq⟩
  ·exact h'.vars _ _ hp (by rw[e1];exact hk) (by rw[e3];exact wY)
  ·exact h.vars _ _ hq hk wY
end
end Go.AM
namespace Go.AM
open Go Go.Conc
section
variable {P:aD}{E:Perm}{bq:au}{σ:nF}{ρ bu:dh}{m m':Mem}{w w':au}
def Mem.shut(m:Mem):Mem:={m with floor:=m.next,opn:=[],home:=m.next,base:=m.next}
theorem fH.shut(h:fH ρ m w):fH ρ m.shut w:=
 ⟨h.mz,h.cells,h.lj,fun b p o hp _ _ hb=>absurd (h.mz b p hp) (Nat.not_lt.2 hb),fun b p hp _ ho=>absurd (h.mz b p hp) (Nat.not_lt.2 (Mem.lY ho).2),fun b p hp _ ho=>absurd (h.mz b p hp) (Nat.not_lt.2 (Mem.lY ho).2),h.sep,h.rG,h.vars⟩
theorem PY (h:fH ρ m w):(∀b o,(az ρ m.shut).rd b o->(az ρ m).rd b o)/\(∀b o,¬(az ρ m.shut).wr b o)/\(∀b,¬(az ρ m.shut).ob b):=
 ⟨fun _ _ x=>x,fun c o ⟨b,p,h1,_,_,_,h5⟩=>h5.2.elim (fun hf=>absurd (h.mz b p h1) (Nat.not_lt.2 hf)) (fun hc=>by cases hc),fun c ⟨b,p,h1,_,_,h4⟩=>absurd (h.mz b p h1) (Nat.not_lt.2 (Mem.lY h4).2)⟩
theorem TO (h:fH ρ m w){c:Nat}(hc:(az ρ m).ob c):w.shape? c=none:=by
 obtain⟨b,p,h1,rfl,hk,ho⟩:=hc;unfold au.shape?;rcases hk with hk|hk
 ·obtain⟨jD,g,_⟩:=h.maps b p h1 hk ho;rw[g]
 ·obtain⟨_,g⟩:=h.lD b p h1 hk ho;rw[g]
theorem Ew {R:Perm}(h:tE R w.heap.size w w')(hw:∀b o,¬R.wr b o)(yE:∀b,¬R.ob b){S:Perm}(hS:∀b o,S.rd b o->b<w.heap.size)(hSo:∀b,S.ob b->b<w.heap.size/\w.shape? b=none):bj S w w':=
 ⟨h.tape,h.os,h.output,h.size,fun b hb=>h.shape b hb,fun b o hr=>h.cell b o (hS b o hr) (hw b o),fun b o hb=>h.qU b o hb,fun b hb=>h.obj b (hSo b hb).1 (yE b) (hSo b hb).2⟩
theorem afe (h:fH ρ m w){b o:Nat}(hr:(az ρ m).rd b o):b<w.heap.size:=by
 obtain⟨_,p,h1,rfl,_⟩:=hr;exact h.rG _ p h1
theorem ag1 (h:fH ρ m w){b:Nat}(hr:(az ρ m).ob b):b<w.heap.size:=by
 obtain⟨_,p,h1,rfl,_⟩:=hr;exact h.rG _ p h1
structure PE (P:aD)(o:gU)(ev:bX->ae)(mk:Nat->ae)(kb:dJ):Prop where
 form:Nv mk
 op:∀m,dx P ev o m=some (mk m.next,m.alloc kb)
 kind:kb.kind=1\/kb.kind=2
 es:kb.es=#[]
 lj:∀{ρ:dh}{pf:bX->ae},(∀x∈o.op.operands,aQ ρ (ev x) (pf x))->∀v,some v∈kb.cs->∃u,aQ ρ v u
theorem Qq {mk:Nat->ae}(h:Nv mk){β:Nat}{v':ae}(hv:aQ ρ (mk β) v'):∃pl,ρ β=some pl/\∀{eX:dh}{ZV:Nat},eX ZV=some pl->aQ eX (mk ZV) v':=by
 rcases h with rfl|⟨l,c,hc,rfl⟩|rfl
 ·obtain⟨pl,h1,h2,rfl⟩:=cL.1 hv;exact⟨pl,h1,fun h=>cL.2 ⟨pl,h,rfl,rfl⟩⟩
 ·obtain⟨pl,c',h1,h2,rfl,h3⟩:=bV.1 hv;exact⟨pl,h1,fun h=>bV.2 ⟨pl,c',h,rfl,rfl,h3⟩⟩
 ·obtain⟨pl,h1,rfl⟩:=gV.1 hv;exact⟨pl,h1,fun h=>gV.2 ⟨pl,h,rfl⟩⟩
theorem mH {mk:Nat->ae}(h:Nv mk)(β:Nat):mY (mk β)=some β:=by
 rcases h with rfl|⟨l,c,hc,rfl⟩|rfl<;>rfl
section
variable {main:Bool}{J:JT}{b:Frame}{a:Act}{k:List Item}{cs:List Frame}{ops:Array gU}{i:Nat}{rest:List Nat}{o:gU}
theorem Qt (hJ:∀σ,gj P main (J σ))(ho:ops[i]?=some o)(hw:Region.wanted o (yielded ops a.tmps)=true)(hk:b.kind≠ .early)(H:cU P E bq σ ρ m w){ev:bX->ae}
  (dS:∀x∈o.op.operands,aQ ρ (ev x) (a.eval x)){mk:Nat->ae}{kb:dJ}(hm:PE P o ev mk kb){β:Nat}(jj:ρ β=none)(cC:β<m.next)(H4:m.floor<=β)(kz:m.blk β={kb with aZ:=(m.blk β).aZ}){l:Nat}
  (hn:∀bu v' w',ρ.le bu->(∀b,b<m.next->b≠β->bu b=ρ b)->cU P E bq σ bu m w'->aQ bu (mk β) v'->J σ l ((az bu m).or E) (G (b.at (a.put o.dst v') (.inRegion ops rest::k)) cs) w'):
  J σ (l+1) ((az ρ m).or E) (G (b.at a (.inRegion ops (i::rest)::k)) cs) w:=by
 refine(hJ σ).step rfl fun aO jU=>?_
 have gq:=H.keeps jU;have hs:=gq.jY.shut;obtain⟨p1,p2,p3⟩:=PY gq.jY;obtain⟨nx,w',hY,⟨bu,hL,v',hv,hy⟩,hc,he⟩:=mF (ai _) (Fi hs (ai _) dS (hm.op m.shut));obtain⟨evs,zo,er⟩:=he #[];have mr:∀e∈listed P b.fn a o aO,nT (az ρ m) e:=fun e hx=>by
  have h1:=er e (by have :=mem_listed hx;rw[zo]at this;simpa using this);unfold nT at h1⊢
  split at h1
  ·refine⟨h1.1,?_⟩;have h2:=h1.2
   split at h2
   ·exact absurd h2 (p2 _ _)
   ·rename_i uj;rw[bS uj];exact p1 _ _ h2
  ·exact absurd h1.1 (p3 _)
  ·exact h1
  ·exact h1
 obtain⟨pl,dm,hmv⟩:=Qq hm.form hv;have xT:m.shut.next=m.next:=rfl;rw[xT]at dm;have hK:bj ((az ρ m).or E) aO w':=Ew hc p2 p3 (fun b o x=>x.elim (afe gq.jY) fun y=>(gq.apart.cell b o y).1)
  (fun b x=>x.elim (fun y=>⟨ag1 gq.jY y,TO gq.jY y⟩) fun y=>⟨(gq.apart.obj b y).1,(gq.apart.obj b y).2.2⟩)
 have qg:=gq.keeps hK;have hbA:(m.shut.alloc kb).blk m.next={kb with aZ:=m.tick}:=by rw[Mem.bY];exact bC rfl
 have OM:aL m.bl m.next=false:=by
  rcases ht:aL m.bl m.next with _|_
  ·rfl
  ·unfold aL at ht;obtain⟨s,hs,h1⟩:=List.any_eq_true.1 ht;simp only[ag,jQ]at h1;have :=gq.wf.bl s hs;omega
 have hA:∀b p,ρ b=some p->(m.shut.alloc kb).blk b=m.blk b:=fun b p hp=>by
  rw[Mem.bY,bS (by have :=gq.jY.mz b p hp;show m.next≠b;omega)];rfl
 have dH:∀b p,ρ b=some p->b≠m.next:=fun b p hp=>by have :=gq.jY.mz b p hp;omega
 have xW:(m.blk β).kind=kb.kind/\(m.blk β).sz=kb.sz/\(m.blk β).pos=kb.pos/\(m.blk β).cs=kb.cs/\(m.blk β).es=kb.es/\(m.blk β).clock=kb.clock:=by rw[kz];exact⟨rfl,rfl,rfl,rfl,rfl,rfl⟩
 have hS:fH (ρ.put β pl) m w':=qg.jY.aiR jj cC hL.jY dm hL.le dH (by rw[hbA];exact⟨xW.1.symm,xW.2.1.symm,xW.2.2.1.symm,xW.2.2.2.1.symm,xW.2.2.2.2.1.symm,xW.2.2.2.2.2.symm⟩)
  (by rw[xW.1];rcases hm.kind with h|h<;>omega) hA (ai _) ⟨OM,ai _⟩ (by rw[xW.2.2.2.2.1];exact hm.es) (fun v hv=>hm.lj dS v (by rw[<-xW.2.2.2.1];exact hv))
 have jT:∀x,pl.d<=x->x<pl.d+pl.room->(m.blk β).kind=1->m.nK β (x-pl.d)->aO.heap.size<=pl.c:=by
  intro x h1 h2 h3 h4;have h5:(az bu (m.shut.alloc kb)).rd pl.c x:=⟨m.next,pl,dm,rfl,h1,h2,by
   unfold Mem.nK;rw[hbA];refine⟨xW.1▸h3,dV OM _,?_⟩;rw[<-xW.2.2.2.1];exact h4.2.2⟩
  rcases hL.within.rd _ _ h5 with⟨b',p',g1,g2,g3,g4,g5⟩|h6
  ·exfalso
   have g5':m.nK b' (x-p'.d):=g5;have :=hL.jY.sep b' m.next p' pl (dH _ _ g1) (hL.le _ _ g1) dm (by rw[hA _ _ g1,g5'.1];simp) (by rw[hbA];show kb.kind≠0;rw[<-xW.1,h3];simp) g2;omega
  ·exact h6
 have yE:(m.blk β).kind=2->aO.heap.size<=pl.c:=by
  intro h3;have h5:(az bu (m.shut.alloc kb)).ob pl.c:=⟨m.next,pl,dm,rfl,.inl (by rw[hbA];show kb.kind=2;rw[<-xW.1,h3]),by
   unfold Mem.bg
   show(!aL m.bl m.next&&decide (m.next<=m.next))=true
   rw[OM];simp⟩
  rcases hL.within.ob _ h5 with h6|h6
  ·exact absurd h6 (p3 _)
  ·exact h6
 have dO:∀b' p',ρ.put β pl b'=some p'->(b'=β/\p'=pl)\/(b'≠β/\ρ b'=some p'):=by
  intro b' p' dy;unfold dh.put at dy
  split at dy
  ·rename_i e;exact .inl ⟨e,(Option.some.inj dy).symm⟩
  ·rename_i e;exact .inr ⟨e,dy⟩
 have hW:eJ (az ρ m) (az (ρ.put β pl) m) aO.heap.size:=by
  refine⟨fun c x=>?_,fun c x=>?_,fun c=>?_⟩
  ·rintro⟨b',p',g1,rfl,g3,g4,g5⟩;rcases dO _ _ g1 with⟨rfl,rfl⟩|⟨_,q⟩
   ·exact .inr (jT x g3 g4 g5.1 g5)
   ·exact .inl ⟨b',p',q,rfl,g3,g4,g5⟩
  ·rintro⟨b',p',g1,rfl,g3,g4,g5⟩;rcases dO _ _ g1 with⟨rfl,rfl⟩|⟨_,q⟩
   ·exact .inr (jT x g3 g4 g5.1.1 g5.1)
   ·exact .inl ⟨b',p',q,rfl,g3,g4,g5⟩
  ·rintro⟨b',p',g1,rfl,g3,g4⟩;rcases dO _ _ g1 with⟨rfl,rfl⟩|⟨_,q⟩
   ·rcases g3 with g3|g3
    ·exact .inr (yE g3)
    ·rw[xW.1]at g3;rcases hm.kind with h|h<;>omega
   ·exact .inl ⟨b',p',q,rfl,g3,g4⟩
 have hC:tE (az ρ m) aO.heap.size aO w':=⟨hc.tape,hc.os,hc.output,hc.size,hc.shape,fun b o hb _=>hc.cell b o hb (p2 b o),hc.qU,fun b hb _ fG=>hc.obj b hb (p3 b) fG⟩;have vy:cU P E bq σ (ρ.put β pl) m w':=by
  refine⟨hS,qg.rest,?_,fun g hg=>let⟨p,h1,h2⟩:=qg.oj g hg;⟨p,dh.uf jj pl _ _ h1,h2⟩,?_,qg.wf,fun b' p' x g1 gb g3 g4 g5 he=>?_,fun c x he hr=>(hW.rd c x hr).elim (gq.ew c x he) fun hN=>by have :=(gq.apart.cell c x (gq.apart.wf c x he)).1;omega⟩
  ·exact gq.apart.within hW hc.size hc.shape
  ·exact qg.fI.above fun b hb=>dh.LM _ _ aj
  ·rcases dO _ _ g1 with⟨rfl,rfl⟩|⟨_,q⟩
   ·have h8:=jT x g3 g4 g5.1 g5;have h9:=(gq.apart.cell _ _ he).1;omega
   ·exact gq.Nq b' p' x q gb g3 g4 g5 he
 have hvv:aQ (ρ.put β pl) (mk β) v':=hmv (dh.kH ..);have eD:∀g',stepG P main (G (b.at a (.inRegion ops (i::rest)::k)) cs) aO= .go g' w' (listed P b.fn a o aO)->
   Stepped P main ((az ρ m).or E) (G (b.at a (.inRegion ops (i::rest)::k)) cs) aO ((az (ρ.put β pl) m).or E) g' w' (listed P b.fn a o aO):=fun g' hs=>
  ⟨hs,hC.or,fun e hx=> .inl (mr e hx).or,hW.or,(kL mr _).symm,fun _=>vy.low⟩
 have adl:=hn (ρ.put β pl) v' w' (dh.uf jj pl) (fun b _ hb=>dh.LM _ _ hb) vy hvv;rcases hy with rfl|⟨rfl,hu,rfl⟩
 ·exact⟨_,w',_,_,eD _ (stepG_value ho hw hk hY),adl⟩
 ·exfalso
  have :=mH hm.form m.shut.next;rw[hu]at this;cases this
end
end
end Go.AM
namespace Go.AM
open Go Go.Conc
def fF (o:gU):Bool:=
 match o.op with
 | .load .. | .lookup .. | .slice .. | .alloc _| .box .. | .buildSlice .. | .makeSlice .. | .makeMap .. =>true
 |_=>false
inductive eM (P:aD)(o:gU)(ev:bX->ae)(v:ae)(m:Mem):Prop
 |pure (h:∀m,dx P ev o m=some (v,m))
 |look (hl:looks o=true) (h:dx P ev o m=some (v,m))
 |make (mk:Nat->ae) (kb:dJ) (β:Nat) (hm:PE P o ev mk kb) (hv:v=mk β) (cC:β<m.next) (H4:m.floor<=β) (hb:m.blk β={kb with aZ:=(m.blk β).aZ})
section
variable {P:aD}{o:gU}{ev:bX->ae}{v:ae}{m m':Mem}
theorem M9 {ρ:dh}{x x':ae}(h:aQ ρ x x'):∀v,some v∈x.cells.toList.map some->∃u,aQ ρ v u:=by
 intro v hv;obtain⟨y,hy,e⟩:=List.mem_map.1 hv;cases e;obtain⟨i,hi⟩:=List.mem_iff_getElem?.1 hy;obtain⟨u,_,hu⟩:=h.cells.get hi;exact⟨u,hu⟩
theorem zd {ρ:dh}{l l':List ae}(h:bB (aQ ρ) l l'):∀v,some v∈l.map some->∃u,aQ ρ v u:=by
 intro v hv;obtain⟨y,hy,e⟩:=List.mem_map.1 hv;cases e;obtain⟨i,hi⟩:=List.mem_iff_getElem?.1 hy;obtain⟨u,_,hu⟩:=h.get hi;exact⟨u,hu⟩
theorem eM.made{mk:Nat->ae}{kb:dJ}(hk:fF o=true)(hm:PE P o ev mk kb)(hw:Wf m)(h:dx P ev o m=some (v,m'))(hkl:kb.live:=by refine And.intro ?_ de;intro x hx;first |(cases hx;done)|(obtain⟨y,_,hy⟩:=List.mem_map.1 hx;rw[<-hy];simp)):kO m m'/\eM P o ev v m'/\(fF o=false->∀m,dx P ev o m=some (v,m)):=by
 rw[hm.op m]at h;simp only[ah,ay]at h;obtain⟨rfl,rfl⟩:=h;refine⟨kO.alloc _ _ hkl,.make mk kb m.next hm rfl (Nat.lt_succ_self _) hw.fl ?_,fun h=>by rw[hk]at h;cases h⟩;rw[Mem.bY,bC rfl]
theorem eM.looked(hk:fF o=true)(hl:looks o=true)(h:dx P ev o m=some (v,m'))(h2:m'=m):kO m m'/\eM P o ev v m'/\(fF o=false->∀m,dx P ev o m=some (v,m)):=by
 subst h2;exact⟨kO.refl _,.look hl h,fun h=>by rw[hk]at h;cases h⟩
set_option maxHeartbeats 1000000 in
theorem Uf(hl:fh o=true)(hw:Wf m)(h:dx P ev o m=some (v,m')):kO m m'/\eM P o ev v m'/\(fF o=false->∀m,dx P ev o m=some (v,m)):=by
 have still:∀{f:Option ae},(∀m,dx P ev o m=f.map fun v=>(v,m))->kO m m'/\eM P o ev v m'/\(fF o=false->∀m,dx P ev o m=some (v,m)):=fun{f} hf=>by
  rw[hf]at h;obtain⟨rfl,rfl⟩:=map_eq.1 h;exact⟨kO.refl _,.pure fun m=>by rw[hf];rfl,fun _ m=>by rw[hf];rfl⟩
 have one:∀{u:ae},(∀m,dx P ev o m=some (u,m))->kO m m'/\eM P o ev v m'/\(fF o=false->∀m,dx P ev o m=some (v,m)):=fun{u} hf=>still (f:=some u) hf
 unfold fh at hl
 split at hl
 ·rename_i x ho;exact one fun m=>by unfold dx;rw[ho]
 ·rename_i x ho;exact one fun m=>by unfold dx;rw[ho]
 ·rename_i c x y ho;cases hc:ev c with
  |bool t=>exact one (u:=if t then ev x else ev y) fun m=>by unfold dx;rw[ho];simp only[hc]
  |_=>unfold dx at h;rw[ho]at h;simp only[hc]at h;cases h
 ·rename_i s x f ho;exact still fun m=>by unfold dx;rw[ho]
 ·rename_i s x f ho;exact still fun m=>by unfold dx;rw[ho]
 ·rename_i t i ho;cases hc:ev t with
  |tuple vs=>exact still (f:=vs[i]?) fun m=>by unfold dx;rw[ho];simp only[hc]
  |_=>unfold dx at h;rw[ho]at h;simp only[hc]at h;cases h
 ·rename_i u t x ho;exact still fun m=>by unfold dx;rw[ho]
 ·rename_i op t x y u ho;cases op with
  |eql=>
   cases hc:rK P t (isConst x) (isConst y) (ev x) (ev y)with
   |some b=>exact one (u:= .bool b) fun m=>by unfold dx;rw[ho];simp only[hc]
   |none=>exact still (f:=dc P ev o) fun m=>by unfold dx;rw[ho];simp only[hc]
  |neq=>
   cases hc:rK P t (isConst x) (isConst y) (ev x) (ev y)with
   |some b=>exact one (u:= .bool (!b)) fun m=>by unfold dx;rw[ho];simp only[hc]
   |none=>exact still (f:=dc P ev o) fun m=>by unfold dx;rw[ho];simp only[hc]
  |_=>exact still fun m=>by unfold dx;rw[ho]
 ·rename_i t x ho;cases hu:P.underlying t with
  |none=>unfold dx at h;rw[ho]at h;simp only[hu]at h;cases h
  |some d=>
   cases d with
   |interface _=>unfold dx at h;rw[ho]at h;simp only[hu]at h;cases h
   |_=>exact one (u:= .iface t (ev x)) fun m=>by unfold dx;rw[ho];simp only[hu]
 ·rename_i fn f c ho;exact one fun m=>by unfold dx;rw[ho]
 ·rename_i x t a ok ho;exact still fun m=>by unfold dx;rw[ho]
 ·rename_i x ho;cases hc:ev x with
  |pointer a=>cases a with
   |none=>unfold dx at h;rw[ho]at h;simp only[hc]at h;cases h
   |some a=>exact one (u:= .pointer (some a)) fun m=>by unfold dx;rw[ho];simp only[hc]
  |func fn first cap=>
   cases fn with
   |method name=>
    cases hf:(first[0]?:Option ae)with
    |none=>unfold dx at h;rw[ho]at h;simp only[hc,hf]at h;cases h
    |some r=>
     by_cases hm:(dR P r name).isSome=true
     ·exact one (u:= .func (.method name) first cap) fun m=>by unfold dx;rw[ho];simp only[hc,hf,hm,if_true]
     ·unfold dx at h;rw[ho]at h;simp only[hc,hf,hm]at h;cases h
   |_=>unfold dx at h;rw[ho]at h;simp only[hc]at h;cases h
  |_=>unfold dx at h;rw[ho]at h;simp only[hc]at h;cases h
 ·rename_i t x i ho;cases hc:wo P t (ev x) (ev i)with
  |some u=>exact one (u:=u) fun m=>by unfold dx;rw[ho];simp only[hc]
  |none=>exact still (f:=dc P ev o) fun m=>by unfold dx;rw[ho];simp only[hc]
 ·rename_i t x i ho;exact still fun m=>by unfold dx;rw[ho]
 ·rename_i t x lo hi mx ho;refine eM.looked (by unfold fF;rw[ho]) (by unfold looks;rw[ho]) h ?_;unfold dx at h;rw[ho]at h;cases mx with
  |some _=>cases h
  |none=>
   simp only[]at h
   split at h
   ·simp only[ah,ay]at h;exact h.2.symm
   ·exact(map_eq.1 h).2
 ·rename_i t ps ho;exact still fun m=>by unfold dx;rw[ho]
 ·rename_i t x ho;refine eM.looked (by unfold fF;rw[ho]) (by unfold looks;rw[ho]) h ?_;unfold dx at h;rw[ho]at h;exact(map_eq.1 h).2
 ·rename_i t x k ok ho;refine eM.looked (by unfold fF;rw[ho]) (by unfold looks;rw[ho]) h ?_;unfold dx at h;rw[ho]at h;exact(map_eq.1 h).2
 ·rename_i e ho;cases hz:gL P e with
  |none=>unfold dx at h;rw[ho]at h;simp only[hz]at h;cases h
  |some z=>
   refine eM.made (by unfold fF;rw[ho]) (mk:=fun β=>ptrTo β 0) (kb:={kind:=1,sz:=0,cs:=z.cells.toList.map some,pos:=1}) ⟨.inl rfl,fun m=>by unfold dx;rw[ho];simp only[hz];rfl,.inl rfl,rfl,fun{ρ pf} _ v hv=>?_⟩ hw h;have :=(jP hz).1;exact zd (iV (ρ:=ρ) this) v hv
 ·rename_i e x ho;refine eM.made (by unfold fF;rw[ho]) (mk:=fun β=>ptrTo β 0) (kb:={kind:=1,sz:=0,cs:=(ev x).cells.toList.map some,pos:=1}) ⟨.inl rfl,fun m=>by unfold dx;rw[ho];rfl,.inl rfl,rfl,fun{ρ pf} dS v hv=>?_⟩ hw h;exact M9 (dS x (by rw[ho];simp[Op.operands])) v hv
 ·rename_i t n ps ho;have h0:=h;unfold dx at h0;rw[ho]at h0;simp only[]at h0;unfold bh at h0
  split at h0
  ·rename_i e hu
   split at h0
   ·rename_i size z hs hz
    split at h0
    ·cases h0
    ·rename_i iW;obtain⟨r,hr,_⟩:=aC.1 h0;refine eM.made (by unfold fF;rw[ho]) (mk:=fun β=> .slice (some ⟨β,0,none⟩) n n) (kb:={kind:=1,sz:=size,cs:=r.toList.map some}) ⟨.inr (.inl ⟨n,n,aj,rfl⟩),fun m=>?_,.inl rfl,rfl,fun{ρ pf} dS v hv=>?_⟩ hw h
     ·unfold dx;rw[ho];simp only[];unfold bh;simp only[hu,hs,hz];rw[bS iW,hr];rfl
     ·have hp:=yY (ρ:=ρ) (ev:=ev) (pf:=pf) (ps:=ps) (fun x hx=>dS x (by rw[ho];exact hx));obtain⟨r',_,zn⟩:=xZ hp (uU hz _) hr;exact zd zn v hv
   ·cases h0
  ·cases h0
 ·rename_i t l c ho;have h0:=h;unfold dx at h0;rw[ho]at h0;simp only[]at h0;unfold fT at h0
  split at h0
  ·rename_i e l' c' hu hel hec
   split at h0
   ·rename_i i z hi hz
    split at h0
    ·rename_i hc;refine eM.made (by unfold fF;rw[ho]) (mk:=fun β=> .slice (some ⟨β,0,none⟩) l'.toNat c'.toNat) (kb:={kind:=1,sz:=i.size,cs:=(((Array.range (c'.toNat*i.size)).map (z.cells[·%z.cells.size]!)).toList.map some)}) ⟨.inr (.inl ⟨l'.toNat,c'.toNat,by unfold cD;omega,rfl⟩),fun m=>?_,.inl rfl,rfl,fun{ρ pf} dS v hv=>?_⟩ hw h
     ·unfold dx;rw[ho];simp only[];unfold fT;rw[hel,hec];simp only[hu,hi,hz];rw[bC hc]
     ·exact zd (uU (ρ:=ρ) hz _) v hv
    ·cases h0
   ·cases h0
  ·cases h0
 ·rename_i t r ho;cases r with
  |some _=>unfold dx at h;rw[ho]at h;cases h
  |none=>
   refine eM.made (by unfold fF;rw[ho]) (mk:=fun β=> .map (some β)) (kb:={kind:=2}) ⟨.inr (.inr rfl),fun m=>by unfold dx;rw[ho],.inr rfl,rfl,fun{ρ pf} dS v hv=>by cases hv⟩ hw h
 ·rename_i b lI lB ho;have hml:b= .min\/b= .max\/b= .len:=by
   cases b<;>first |exact .inl rfl|exact .inr (.inl rfl)|exact .inr (.inr rfl)|cases hl
  have dm:(∀m,dx P ev o m=(dc P ev o).map fun v=>(v,m))->kO m m'/\eM P o ev v m'/\(fF o=false->∀m,dx P ev o m=some (v,m)):=fun hf=>still hf
  rcases hml with rfl|rfl|rfl
  ·exact dm fun m=>by unfold dx;rw[ho]
  ·exact dm fun m=>by unfold dx;rw[ho]
  ·have h0:=h;unfold dx at h0;rw[ho]at h0;simp only[]at h0
   split at h0
   ·rename_i e1 _;cases e1
   ·rename_i e1 _;cases e1
   ·rename_i e1 _;cases e1
   ·rename_i x _ hx;cases hs:(match(lB[0]?).bind P.underlying,ev x with |some (.slice _),.slice _ n _=>some n|_,_=>none:Option Nat)with
    |some n=>
     refine one (u:=goInt n) fun m=>?_
     unfold dx;rw[ho];simp only[hx]
     split at hs
     ·rename_i h1 h2;simp only[ah]at hs;subst hs;simp only[h1,h2]
     ·cases hs
    |none=>
     refine dm fun m=>?_
     unfold dx;rw[ho];simp only[hx]
     split at hs
     ·cases hs
     ·rename_i hn
      split
      ·rename_i h1 h2;exact absurd h2 (fun h2=>hn _ _ _ _ h1 h2)
      ·rfl
   ·rename_i e1;cases e1
   ·rename_i e1;cases e1
   ·cases h0
 ·cases hl
end
end Go.AM
namespace Go.AM
open Go Go.Conc
section
variable {P:aD}{o:gU}{ev:bX->ae}{v:ae}{m m':Mem}
theorem IA {t:aM}{x:ae}{lo hi:Option ae}{u:ae}(hb:∀b,mY x=some b->(m.blk b).kind≠0->m'.blk b=m.blk b):jb P t x lo hi m=some u->jb P t x lo hi m'=some u:=by
 unfold jb
 split
 ·rename_i b o len cap hu
  split
  ·rename_i l h' s' e1 e2 e3
   split
   ·intro h
    split at h
    ·rename_i uo;rw[bC]
     ·exact h
     ·refine⟨uo.1,uo.2.1,?_⟩;rcases uo.2.2 with h0|h0
      ·exact .inl h0
      ·refine .inr ?_;rw[hb b rfl aj];exact h0
    ·cases h
   ·exact id
  ·exact id
 ·exact id
 ·exact id
 ·exact id
theorem eM.grow(h:eM P o ev v m)(hw:Wf m)(g:kO m m'):eM P o ev v m':=by
 have cC:∀b,(m.blk b).kind≠0->b<m.next:=fun b hb=>by
  rcases Nat.lt_or_ge b m.next with h1|h1
  ·exact h1
  ·exact absurd (hw.x8 b h1) hb
 cases h with
 |pure h=>exact .pure h
 |make mk kb β hm hv hl H4 hb=>exact .make mk kb β hm hv (aW hl g.next) (by rw[g.floor];exact H4) (by rw[g.blk β hl];exact hb)
 |look hl h=>
  refine .look hl ?_;unfold looks at hl
  split at hl
  ·rename_i t x ho;unfold dx at h⊢;rw[ho]at h⊢;simp only[]at h⊢;have h1:=(map_eq.1 h).1;obtain⟨b,c,n,hx,hk,hme,KS⟩:=Jo h1;rw[KS m' (g.blk b (cC b aj)) (.inr (by rw[g.bl];exact hme))];rfl
  ·rename_i t x k ok ho;unfold dx at h⊢;rw[ho]at h⊢;simp only[]at h⊢;have h1:=(map_eq.1 h).1;rcases Cn h1 with h2|⟨b,hx,hk,vr,KS⟩
   ·rw[h2 m'];rfl
   ·rw[KS m' (g.blk b (cC b aj)) (.inr (by unfold Mem.bg at vr⊢;rw[g.bl,g.home];exact vr))];rfl
  ·rename_i t x lo hi mx ho;unfold dx at h⊢;rw[ho]at h⊢;cases mx with
   |some _=>cases h
   |none=>
    simp only[]at h⊢;have key:∀u,jb P t (ev x) (lo.map ev) (hi.map ev) m=some u->jb P t (ev x) (lo.map ev) (hi.map ev) m'=some u:=by
     exact fun u=>IA fun b hb hk=>g.blk b (cC b hk)
    split at h
    ·rename_i u hu;rw[key u hu];simp only[ah,ay]at h⊢;exact⟨h.1,trivial⟩
    ·rename_i hu;have hp:=(map_eq.1 h).1;have dm:plain (ev x)=true:=by
      unfold dc at hp
      split at hp
      ·rename_i oh;exact Array.all_eq_true_iff_forall_mem.1 oh x (by rw[ho];simp[Op.operands])
      ·cases hp
     have hnb:∀b,mY (ev x)=some b->False:=fun b hb=>by
      cases hx:ev x with
      |pointer a=>rw[hx]at hb dm;cases a<;>simp[mY,plain,cR]at hb dm
      |slice a l c=>rw[hx]at hb dm;cases a<;>simp[mY,plain,cR]at hb dm
      |map a=>rw[hx]at hb dm;cases a<;>simp[mY,plain,cR]at hb dm
      |_=>rw[hx]at hb;cases hb
     rw[Fa (m:=m) (m':=m') fun b hb=>(hnb b hb).elim,hu];simp only[hp];rfl
  ·cases hl
theorem Ji {m₂:Mem}(hl:looks o=true)(h:dx P ev o m=some (v,m₂)):m₂=m:=by
 unfold looks at hl
 split at hl
 ·rename_i t x ho;unfold dx at h;rw[ho]at h;exact(map_eq.1 h).2
 ·rename_i t x k ok ho;unfold dx at h;rw[ho]at h;exact(map_eq.1 h).2
 ·rename_i t x lo hi mx ho;unfold dx at h;rw[ho]at h;cases mx with
  |some _=>cases h
  |none=>
   simp only[]at h
   split at h
   ·simp only[ah,ay]at h;exact h.2.symm
   ·exact(map_eq.1 h).2
 ·cases hl
theorem Bs (hl:looks o=false):jA o ev v=v:=by
 unfold jA
 split
 ·rename_i ho;unfold looks at hl;rw[ho]at hl;cases hl
 ·rename_i ho;unfold looks at hl;rw[ho]at hl;cases hl
 ·rename_i ho;unfold looks at hl;rw[ho]at hl;cases hl
 ·rfl
theorem eM.check(h:eM P o ev v m)(hn:m.next<=m'.next)(hb:∀b,mY (jA o ev v)=some b->m'.blk b=m.blk b)(hl:looks o=true->(dx P ev o m').isSome=true)
  (hf:looks o=false->∀b,mY v=some b->m'.floor<=b):eM P o ev v m':=by
 cases h with
 |pure h=>exact .pure h
 |make mk kb β hm hv cC H4 H5=>
  cases hlk:looks o with
  |true=>
   have :=Ji hlk (hm.op m);have h2:=congrArg Mem.next this;simp at h2
  |false=>
   have jj:mY v=some β:=by rw[hv];exact mH hm.form β
   rw[Bs hlk]at hb;exact .make mk kb β hm hv (aW cC hn) (hf hlk β jj) (by rw[hb β jj];exact H5)
 |look hlk h=>
  have hs:=hl hlk;refine .look hlk ?_;have adq:=hlk;unfold looks at adq
  split at adq
  ·rename_i t x ho;have hwv:jA o ev v=ev x:=by unfold jA;rw[ho]
   rw[hwv]at hb;unfold dx at h hs⊢;rw[ho]at h hs⊢;simp only[Option.isSome_map]at h hs⊢;have h1:=(map_eq.1 h).1;obtain⟨b,c,n,hx,hk,hme,KS⟩:=Jo h1;rw[KS m' (hb b (by rw[hx];rfl)) (.inl hs)];rfl
  ·rename_i t x k ok ho;have hwv:jA o ev v=ev x:=by unfold jA;rw[ho]
   rw[hwv]at hb;unfold dx at h hs⊢;rw[ho]at h hs⊢;simp only[Option.isSome_map]at h hs⊢;have h1:=(map_eq.1 h).1;rcases Cn h1 with h2|⟨b,hx,hk,vr,KS⟩
   ·rw[h2 m'];rfl
   ·rw[KS m' (hb b (by rw[hx];rfl)) (.inl hs)];rfl
  ·rename_i t x lo hi mx ho;have hwv:jA o ev v=ev x:=by unfold jA;rw[ho]
   rw[hwv]at hb;unfold dx at h⊢;rw[ho]at h⊢;cases mx with
   |some _=>cases h
   |none=>
    simp only[]at h⊢;rw[Fa (m:=m) (m':=m') hb]
    split at h
    ·rename_i u hu;simp only[ah,ay]at h⊢;exact⟨h.1,trivial⟩
    ·rename_i hu;rw[(map_eq.1 h).1];rfl
  ·cases adq
end
def dk (ops:Array gU)(i:Nat):Option Tmp:=(ops[i]?).bind (·.dst)
structure lJ (ops:Array gU)(bI:Array Nat)(nt:Nat):Prop where
 ord:yz ops bI nt
 nt:nt<=512
 uniq:∀i j d,i≠j->dk ops i=some d->dk ops j≠some d
 abw:∀(i j:Nat) (o:gU) (d:Tmp),ops[i]?=some o->d∈kF ops o->j<ops.size->dk ops j=some d->B bI i j\/B bI j i
 chain:∀(k l a b:Nat),k<l->(aE ops)[k]?=some a->(aE ops)[l]?=some b->B bI b a
 steady:∀i,ie ops bI (aE ops) i=true->∀o,ops[i]?=some o->∀d∈kF ops o,∀j,dk ops j=some d->B bI i j
section
variable {ops:Array gU}{bI:Array Nat}{nt:Nat}
theorem MU {i:Nat}{d:Tmp}(h:dk ops i=some d):i<ops.size:=by
 unfold dk at h;obtain⟨o,ho,_⟩:=bD.1 h;exact dz ho
theorem fM {i:Nat}:i∈aE ops↔∃o,ops[i]?=some o/\fh o=false:=by
 unfold aE;rw[List.mem_filter,List.mem_range]
 constructor
 ·rintro⟨h1,h2⟩;rw[Array.getElem?_eq_getElem h1]at h2;exact⟨_,Array.getElem?_eq_getElem h1,by simpa using h2⟩
 ·rintro⟨o,ho,hl⟩;exact⟨dz ho,by rw[ho];simp[hl]⟩
theorem CN:(aE ops).Pairwise (·< ·):=List.Pairwise.filter _ List.pairwise_lt_range
theorem Kf {bI:Array Nat}(ht:∀{i j k:Nat},i<ops.size->B bI i j->B bI j k->B bI i k):∀{l:List Nat},(∀x∈l,x<ops.size)->yk bI l=true->∀(k m a b:Nat),k<m->l[k]?=some a->l[m]?=some b->B bI b a
 | [],_,_,k,m,a,b,_,h,_=>by simp at h
 | [x],_,_,k,m,a,b,hkm,h1,h2=>by
  cases m with
  |zero=>omega
  |succ m=>simp at h2
 |x::y::l,hl,hc,k,m,a,b,hkm,h1,h2=>by
  simp only[yk,ag]at hc;have KJ:B bI y x:=hc.1;have ih:=Kf ht (l:=y::l) (fun z hz=>hl z (by simp[hz])) hc.2;cases m with
  |zero=>omega
  |succ m=>
   simp only[List.getElem?_cons_succ]at h2;cases k with
   |succ k=>
    simp only[List.getElem?_cons_succ]at h1;exact ih k m a b aj h1 h2
   |zero=>
    simp only[List.getElem?_cons_zero,ah]at h1;subst h1;cases m with
    |zero=>simp only[List.getElem?_cons_zero,ah]at h2;subst h2;exact KJ
    |succ m=>
     have :=ih 0 (m+1) y b aj rfl h2;refine ht (hl b ?_) this KJ;exact List.mem_cons_of_mem _ (List.mem_of_getElem? h2)
theorem Tf (qD:nt<=512)(h1:yk (Region.before ops) (aE ops)=true)(h2:tidy ops (Region.before ops)=true)(h3:GO ops (Region.before ops) nt=true)(h4:steady ops (Region.before ops) (aE ops)=true):lJ ops (Region.before ops) nt:=by
 have ahC:=Tu h3;have aaz:∀(i j:Nat) (x y:gU) (d:Tmp),ops[i]?=some x->ops[j]?=some y->y.dst=some d->(i=j\/x.dst≠some d)/\(d∈kF ops x->B (Region.before ops) i j\/B (Region.before ops) j i):=by
  intro i j x y d hx hy hd;have a1:=aB.1 h2 i (List.mem_range.2 (dz hx));have a2:=aB.1 a1 j (List.mem_range.2 (dz hy));simp only[hx,hy,hd,ag,Bool.or_eq_true,beq_iff_eq,bne_iff_ne,Bool.not_eq_true']at a2;refine⟨a2.1,fun hs=>?_⟩;rcases a2.2 with h|h
  ·have :(kF ops x).contains d=true:=by simpa using hs
   rw[this]at h;cases h
  ·exact h
 refine⟨ahC,qD,fun i j d s7 hi hj=>?_,fun i j o d ho hd CI hj=>?_,fun k l a b=>?_,fun i hc o ho d hd j hj=>?_⟩
 ·unfold dk at hi hj;obtain⟨x,hx,hxd⟩:=bD.1 hi;obtain⟨y,hy,hyd⟩:=bD.1 hj;exact(aaz i j x y d hx hy hyd).1.elim s7 fun h=>h hxd
 ·unfold dk at hj;obtain⟨y,hy,hyd⟩:=bD.1 hj;exact(aaz i j o y d ho hy hyd).2 hd
 ·exact Kf (fun a b c=>ahC.trans a b c) (fun x hx=>by obtain⟨o,ho,_⟩:=fM.1 hx;exact dz ho) h1 k l a b
 ·unfold dk at hj;obtain⟨y,hy,hyd⟩:=bD.1 hj;have a1:=aB.1 h4 i (List.mem_range.2 (dz ho));simp only[hc,Bool.not_true,Bool.false_or,ho]at a1;have a2:=aB.1 a1 j (List.mem_range.2 (dz hy));simp only[hy,hyd,Bool.or_eq_true,Bool.not_eq_true']at a2;rcases a2 with h|h
  ·have :(kF ops o).contains d=true:=by simpa using hd
   rw[this]at h;cases h
  ·exact h
theorem sr {p:Nat->Bool}:∀{l:List Nat},(∀(k m a b:Nat),k<m->l[k]?=some a->l[m]?=some b->p b=true->p a=true)->∀(k x:Nat),l[k]?=some x->(p x=true↔k<(l.filter p).length)
 | [],_,k,x,h=>by simp at h
 |y::l,hd,k,x,h=>by
  have ih:=sr (l:=l) (p:=p) fun k m a b hkm h1 h2=>hd (k+1) (m+1) a b aj (by simpa using h1) (by simpa using h2)
  rw[List.filter_cons];cases hy:p y with
  |true=>
   simp only[if_true,List.length_cons];cases k with
   |zero=>simp only[List.getElem?_cons_zero,ah]at h;subst h;simp[hy]
   |succ k=>
    simp only[List.getElem?_cons_succ]at h;rw[ih k x h];omega
  |false=>
   have JA:∀z∈l,p z=false:=fun z hz=>by
    obtain⟨m,hm⟩:=List.mem_iff_getElem?.1 hz;cases hpz:p z with
    |false=>rfl
    |true=>rw[hd 0 (m+1) y z aj rfl (by simpa using hm) hpz]at hy;cases hy
   have Mx:l.filter p=[]:=List.filter_eq_nil_iff.2 fun z hz=>by rw[JA z hz];simp
   simp only[bU,if_false,Mx,List.length_nil,Nat.not_lt_zero,iff_false];cases k with
   |zero=>simp only[List.getElem?_cons_zero,ah]at h;subst h;simp[hy]
   |succ k=>
    simp only[List.getElem?_cons_succ]at h;rw[JA x (List.mem_of_getElem? h)];simp
theorem lJ.pR(h:lJ ops bI nt){i k x:Nat}(hi:i<ops.size)(hx:(aE ops)[k]?=some x):B bI i x↔k<cO bI (aE ops) i:=by
 unfold cO;exact sr (p:=fun h=>(bI.getD i 0).testBit h) (fun k m a b hkm h1 h2 hb=>h.ord.trans hi hb (h.chain k m a b hkm h1 h2)) k x hx
theorem lJ.xm(h:lJ ops bI nt){i k x:Nat}(hx:(aE ops)[k]?=some x):B bI x i↔rh bI (aE ops) i<=k:=by
 have :=sr (p:=fun h=> !(bI.getD h 0).testBit i) (l:=aE ops) (fun k m a b hkm h1 h2 hb=>by
  have cC:b<ops.size:=by obtain⟨o,ho,_⟩:=fM.1 (List.mem_of_getElem? h2);exact dz ho
  cases ha:(bI.getD a 0).testBit i with
  |false=>simp
  |true=>
   have :B bI b i:=h.ord.trans cC (h.chain k m a b hkm h1 h2) ha;unfold B at this;rw[this]at hb;cases hb) k x hx
 unfold B rh;cases hb:(bI.getD x 0).testBit i with
 |true=>rw[hb]at this;simp only[Bool.not_true,bU,false_iff,Nat.not_lt]at this;exact⟨fun _=>this,fun _=>rfl⟩
 |false=>rw[hb]at this;simp only[Bool.not_false,true_iff]at this;exact⟨fun h=>(by cases h),fun h=>absurd this (Nat.not_lt.2 h)⟩
theorem lJ.FL(h:lJ ops bI nt){i:Nat}(hi:i<ops.size):cO bI (aE ops) i<=rh bI (aE ops) i:=by
 rcases Nat.lt_or_ge (rh bI (aE ops) i) (cO bI (aE ops) i)with cC|w5
 ·have hle:cO bI (aE ops) i<=(aE ops).length:=List.length_filter_le _ _;have hx:=List.getElem?_eq_getElem (show rh bI (aE ops) i<(aE ops).length by omega);have h1:=(h.pR hi hx).2 cC;have h2:=(h.xm (i:=i) hx).2 (ai _);have h3:=h.ord.trans hi h1 h2;have :=h.ord.lt hi h3;omega
 ·exact w5
theorem lJ.zu(h:lJ ops bI nt){i j:Nat}(hi:i<ops.size)(hb:B bI i j):cO bI (aE ops) j<=cO bI (aE ops) i:=by
 have hj:=h.ord.lt hi hb;rcases Nat.lt_or_ge (cO bI (aE ops) i) (cO bI (aE ops) j)with cC|w5
 ·have hle:cO bI (aE ops) j<=(aE ops).length:=List.length_filter_le _ _;have hx:=List.getElem?_eq_getElem (show cO bI (aE ops) i<(aE ops).length by omega);have h1:=(h.pR aj hx).2 cC;have :=(h.pR hi hx).1 (h.ord.trans hi hb h1);omega
 ·exact w5
end
end Go.AM
namespace Go.AM
open Go Go.Conc
section
variable {P:aD}{ops:Array gU}{bI:Array Nat}{nt:Nat}{call:cB}{r:Ss}{lN:Tm}
def aev (P:aD)(nt:Nat)(ops:Array gU)(call:cB)(t:ni)(rest:iE)(tm:Tm)(m:Mem)(df:Df)(r:Ss):Prop:=
 match t with
 |(0,i,slot)=>∃fe m' ml,qL P call nt ops i tm m df fe m' ml/\rest call fe m' ml=some r/\(slot≠0->m.pend=[])
 |(1,i,slot)=>∃o x,ops[i]?=some o/\mC o=some x/\nt<=slot/\slot<512/\rest call (tJ slot (if cP ops o tm then jB m (du tm x)else undef) tm) m df=some r
 |(_,i,slot)=>∃o x,ops[i]?=some o/\mC o=some x/\rest call tm m df=some r/\(cP ops o tm=true->xx (cY slot tm) (jB m (du tm x))=true/\
   (looks o=true->(dx P (du tm) o m).isSome=true)/\(looks o=false->∀b,mY (du tm x)=some b->m.floor<=b))
theorem py {t:ni}{rest F:iE}(h:zO P nt ops t rest=some F){tm:Tm}{m:Mem}{df:Df}(hf:F call tm m df=some r):aev P nt ops call t rest tm m df r:=by
 obtain⟨k,i,slot⟩:=t
 match k with
 |0=>
  unfold zO at h;simp only[]at h
  split at h
  ·rename_i f hF;cases h;cases slot with
   |zero=>
    obtain⟨fe,m',ml,h1,h2⟩:=B4 hF hf;exact⟨fe,m',ml,h1,h2,fun h=>absurd rfl h⟩
   |succ n=>
    replace hf:N5 f call tm m df=some r:=hf
    unfold N5 at hf
    split at hf
    ·rename_i hp;obtain⟨fe,m',ml,h1,h2⟩:=B4 hF hf;exact⟨fe,m',ml,h1,h2,fun _=>hp⟩
    ·cases hf
  ·cases h
 |1=>
  unfold zO at h;simp only[]at h
  split at h
  ·rename_i o ho
   split at h
   ·rename_i x hx
    split at h
    ·rename_i hc;cases h;simp only[ag,Dw,kl,jQ]at hc;exact⟨o,x,ho,hx,hc.1.2,hc.2,hf⟩
    ·cases h
   ·cases h
  ·cases h
 |k+2=>
  unfold zO at h;simp only[]at h
  split at h
  ·rename_i o ho
   split at h
   ·rename_i x hx;cases h;unfold sI at hf;refine⟨o,x,ho,hx,?_⟩;cases hw:cP ops o tm with
    |false=>
     rw[hw]at hf;exact⟨hf,fun h=>by cases h⟩
    |true=>
     rw[hw]at hf;simp only[if_true]at hf;cases hl:looks o with
     |true=>
      simp only[hl,if_true]at hf
      split at hf
      ·rename_i hc;simp only[ag]at hc;exact⟨hf,fun _=>⟨hc.1,fun _=>hc.2,fun h=>by cases h⟩⟩
      ·cases hf
     |false=>
      simp only[hl,bU,if_false]at hf;cases wW:xx (cY slot tm) (jB m (du tm x))with
      |false=>
       rw[wW]at hf;cases hf
      |true=>
       rw[wW]at hf;cases H5:mY (du tm x)with
       |none=>
        rw[H5]at hf;exact⟨hf,fun _=>⟨rfl,fun h=>(by cases h),fun _ b hb=>by cases hb⟩⟩
       |some b=>
        rw[H5]at hf;simp only[Bool.true_and]at hf
        by_cases hle:m.floor.ble b=true
        ·rw[bC hle]at hf;refine⟨hf,fun _=>⟨rfl,fun h=>(by cases h),fun _ b' hb=>?_⟩⟩;cases hb;simpa[Dw]using hle
        ·rw[bS hle]at hf;cases hf
   ·cases h
  ·cases h
theorem lq {t:ni}{T:List ni}{F:iE}(h:iw P nt ops (t::T)=some F):∃rest,iw P nt ops T=some rest/\zO P nt ops t rest=some F:=by
 unfold iw at h
 split at h
 ·rename_i rest hr;exact⟨rest,hr,h⟩
 ·cases h
theorem LS {i:Nat}{tm fe:Tm}{m m':Mem}{df ml:Df}(h:qL P call nt ops i tm m df fe m' ml):∃v,fe=GL (dk ops i) v tm/\∀d,dk ops i=some d->d<512:=by
 obtain⟨o,ho,hg,_,h⟩:=h;have e:dk ops i=o.dst:=by unfold dk;rw[ho];rfl
 rw[e];rcases h with⟨_,v,_,rfl⟩|⟨_,rfl,_⟩
 ·exact⟨v,rfl,hg.2⟩
 ·exact⟨undef,rfl,hg.2⟩
theorem jw {d:Option Tmp}{t:Nat}(hd:∀x,d=some x->x<512)(ht:t<512)(v:ae)(tm:Tm):cY t (GL d v tm)=if d=some t then v else cY t tm:=by
 unfold GL;cases d with
 |none=>simp
 |some d=>simp only[o0 (hd d rfl) ht,ah]
theorem vX (qD:nt<=512):∀{T:List ni}{F:iE}{tm:Tm}{m:Mem}{df:Df},iw P nt ops T=some F->F call tm m df=some r->∀t,t<nt->(∀i x,(0,i,x)∈T->dk ops i≠some t)->cY t r.tm=cY t tm
 | [],F,tm,m,df,h,hf,t,ht,_=>by
  unfold iw at h;cases h;unfold Zp at hf;cases hf;rfl
 |u::T,F,tm,m,df,h,hf,t,ht,hn=>by
  obtain⟨rest,hr,hu⟩:=lq h;have hi:=py hu hf;have ih:=fun{fe m' ml} (AT:rest call fe m' ml=some r)=>vX qD hr AT t ht fun i x hx=>hn i x (List.mem_cons_of_mem _ hx)
  obtain⟨k,i,slot⟩:=u
  match k with
  |0=>
   obtain⟨fe,m',ml,ho,AT,_⟩:=hi;rw[ih AT];obtain⟨v,rfl,hd⟩:=LS ho;rw[jw hd aj,bS (hn i slot de)]
  |1=>
   obtain⟨o,x,_,_,h1,h2,AT⟩:=hi;rw[ih AT,o0 h2 aj,bS aj]
  |k+2=>
   obtain⟨o,x,_,_,AT,_⟩:=hi;exact ih AT
def Ex (ops:Array gU)(nt:Nat)(r:Ss)(lN:Tm)(S:Nat->Prop)(tm:Tm):Prop:=
 ∀t,t<nt->(∀i,S i->dk ops i=some t->cY t tm=cY t r.tm)/\((∀i,S i->dk ops i≠some t)->cY t tm=cY t lN)
def Seen (ops:Array gU)(bI:Array Nat)(nt:Nat)(r:Ss)(lN:Tm)(i:Nat)(tm:Tm):Prop:=
 ∀o,ops[i]?=some o->∀t∈kF ops o,t<nt->(∀j,B bI i j->dk ops j=some t->cY t tm=cY t r.tm)/\((∀j,B bI i j->dk ops j≠some t)->cY t tm=cY t lN)
theorem NQ (R:lJ ops bI nt){S:Nat->Prop}{tm:Tm}(h:Ex ops nt r lN S tm){i:Nat}(h1:∀j,B bI i j->S j)(h2:∀j,S j->¬B bI j i):Seen ops bI nt r lN i tm:=by
 intro o ho t ht cC;refine⟨fun j hj hd=>(h t cC).1 j (h1 j hj) hd,fun hn=>(h t cC).2 fun j hj hd=>?_⟩;rcases R.abw i j o t ho ht (MU hd) hd with hb|hb
 ·exact hn j hb hd
 ·exact h2 j hj hb
theorem NP {o:gU}{t:Tmp}(h:bX.tmp t∈o.op.operands):t∈kF ops o:=by
 unfold kF;rw[List.mem_append]
 left
 rw[List.mem_filterMap];exact⟨.tmp t,by simpa using h,rfl⟩
theorem BL {o:gU}{j:Nat}{want:Bool}{g:Tmp}(h:o.guard=some (j,want))(hg:dk ops j=some g):g∈kF ops o:=by
 unfold kF;rw[List.mem_append]
 right
 rw[h];unfold dk at hg;simp[hg]
theorem O8 {o:gU}{tm fe:Tm}(h:∀t∈kF ops o,t<nt->cY t tm=cY t fe)(hg:∀x∈o.op.operands,rI nt P.globals.size x=true):∀x∈o.op.operands,du tm x=du fe x:=by
 intro x hx;cases x with
 |tmp t=>exact h t (NP hx) (by have :=hg _ hx;simpa[rI,kl]using this)
 |_=>rfl
theorem xg {o:gU}{tm fe:Tm}(h:∀t∈kF ops o,t<nt->cY t tm=cY t fe)(hg:∀j want,o.guard=some (j,want)->∃g,dk ops j=some g/\g<nt):cP ops o tm=cP ops o fe:=by
 unfold cP;cases Y4:o.guard with
 |none=>rfl
 |some p=>
  obtain⟨j,want⟩:=p;obtain⟨g,h1,h2⟩:=hg j want Y4;have h3:=h1;unfold dk at h3;simp only[h3];rw[h g (BL Y4 h1) h2]
theorem acs {o:gU}(hl:looks o=true){ev pf:bX->ae}(h:∀x∈o.op.operands,ev x=pf x)(m:Mem):dx P ev o m=dx P pf o m:=by
 unfold looks at hl
 split at hl
 ·rename_i t x ho;have :=h x (by rw[ho];simp[Op.operands]);unfold dx;rw[ho];simp only[this]
 ·rename_i t x k ok ho;have h1:=h x (by rw[ho];simp[Op.operands]);have h2:=h k (by rw[ho];simp[Op.operands]);unfold dx;rw[ho];simp only[h1,h2]
 ·rename_i t x lo hi mx ho;have h1:=h x (by rw[ho];simp[Op.operands]);have h2:lo.map ev=lo.map pf:=by
   cases lo with
   |none=>rfl
   |some y=>simp only[cN];rw[h y (by rw[ho];simp[Op.operands])]
  have h3:hi.map ev=hi.map pf:=by
   cases hi with
   |none=>rfl
   |some y=>simp only[cN];rw[h y (by rw[ho];simp[Op.operands])]
  have h4:mx.map ev=mx.map pf:=by
   cases mx with
   |none=>rfl
   |some y=>simp only[cN];rw[h y (by rw[ho];simp[Op.operands])]
  have dm:dc P ev o=dc P pf o:=by
   unfold dc;have e1:o.op.operands.all (fun x=>plain (ev x))=o.op.operands.all (fun x=>plain (pf x)):=by
    rw[Bool.eq_iff_iff,Array.all_eq_true_iff_forall_mem,Array.all_eq_true_iff_forall_mem];exact⟨fun g y hy=>by rw[<-h y hy];exact g y hy,fun g y hy=>by rw[h y hy];exact g y hy⟩
   have e2:execOp ev o=execOp pf o:=by
    unfold execOp;rw[ho];simp only[h1,h2,h3,h4]
   rw[e1,e2]
  unfold dx;rw[ho];cases mx with
  |some _=>rfl
  |none=>simp only[h1,h2,h3,dm]
 ·cases hl
theorem EX {o:gU}{ev pf:bX->ae}(h:∀x∈o.op.operands,ev x=pf x)(v:ae):jA o ev v=jA o pf v:=by
 unfold jA
 split
 ·rename_i t x ho;exact h x (by rw[ho];simp[Op.operands])
 ·rename_i t x k ok ho;exact h x (by rw[ho];simp[Op.operands])
 ·rename_i t x lo hi mx ho;exact h x (by rw[ho];simp[Op.operands])
 ·rfl
structure EP (P:aD)(ops:Array gU)(bI:Array Nat)(nt:Nat)(r:Ss)(lN:Tm)(i:Nat)(E3:Tm)(v:ae)(m:Mem)(tm:Tm):Prop where
 op:∃o,ops[i]?=some o/\aa6 P nt o/\(∀j want,o.guard=some (j,want)->∃g,dk ops j=some g/\g<nt)/\(∀d,o.dst=some d->d<nt->v=cY d r.tm)/\
  ((cP ops o E3=false/\v=undef)\/(cP ops o E3=true/\eM P o (du E3) v m/\(fF o=false->∀m,dx P (du E3) o m=some (v,m))/\(ie ops bI (aE ops) i=true->nt+i<512/\∃m₁,Wf m₁/\Mv m₁ m/\eM P o (du E3) v m₁/\cY (nt+i) tm=jB m₁ (jA o (du E3) v))))
 seen:Seen ops bI nt r lN i E3
theorem PZ {a b:Nat}(h:xx (.int .i64 (.ofNat a)) (.int .i64 (.ofNat b))=true):a=b:=by
 simp only[xx]at h;exact aA h
theorem Lq {m m':Mem}(hw:Wf m)(hm:Mv m m'){x:ae}(h:xx (jB m x) (jB m' x)=true){b:Nat}(hb:mY x=some b):m'.blk b=m.blk b/\jB m x=jB m' x:=by
 unfold jB at h⊢;rw[hb]at h⊢;simp only[]at h⊢;have e:=PZ h;refine⟨?_,by rw[e]⟩;rcases hm.blk b with h1|h1
 ·exact h1
 ·have :=hw.aZ b;omega
theorem EY {o:gU}{x:bX}(h:mC o=some x){tm:Tm}{v:ae}(hv:∀d,o.dst=some d->cY d tm=v):du tm x=jA o (du tm) v:=by
 unfold mC at h;unfold jA
 split at h
 ·rename_i t y ho;cases h;rw[ho]
 ·rename_i t y k ok ho;cases h;rw[ho]
 ·rename_i t y lo hi mx ho;cases h;rw[ho]
 ·rename_i h1 h2 h3;cases hd:o.dst with
  |none=>rw[hd]at h;cases h
  |some d=>
   rw[hd]at h;cases h
   split
   ·rename_i ho;exact absurd ho (h1 _ _)
   ·rename_i ho;exact absurd ho (h2 _ _ _ _)
   ·rename_i ho;exact absurd ho (h3 _ _ _ _ _)
   ·exact hv d hd
end
end Go.AM
namespace Go.AM
open Go Go.Conc
section
variable {P:aD}{ops:Array gU}{bI:Array Nat}{nt:Nat}{call:cB}{r:Ss}{lN:Tm}
def za (ops:Array gU)(bI:Array Nat)(nt:Nat)(L:List Nat):List ni:=L.flatMap fun i=>if ie ops bI (aE ops) i then[(0,i,0),(1,i,nt+i)]else[(0,i,0)]
def Lin (ops:Array gU)(bI:Array Nat):(Nat->Prop)->List Nat->Prop
 |_,[]=>True
 |S,i::L=>(∀j,B bI i j->S j)/\(∀j,S j->¬B bI j i)/\¬S i/\(∃o,ops[i]?=some o/\fh o=true)/\Lin ops bI (fun x=>S x\/x=i) L
theorem Lin.aao:∀{L:List Nat}{S:Nat->Prop},Lin ops bI S L->∀x,S x->x∉L
 | [],S,_,x,_=>by simp
 |i::L,S,h,x,hx=>by
  obtain⟨_,_,h3,_,h5⟩:=h;intro hm;rcases aI.1 hm with rfl|hm
  ·exact h3 hx
  ·exact Lin.aao h5 x (.inl hx) hm
theorem Ug {o:gU}(hl:fh o=true):(∀x lI lB,o.op≠ .call {callee:= .value x,args:=lI,argTypes:=lB})/\(∀x n lI lB,o.op≠ .call {callee:= .invoke x n,args:=lI,argTypes:=lB})/\(∀c,o.op≠ .defer c):=by
 refine⟨fun x lI lB ho=>?_,fun x n lI lB ho=>?_,fun c ho=>?_⟩<;>(unfold fh at hl;rw[ho]at hl;cases hl)
theorem Mb {o:gU}{tm:Tm}{m m':Mem}{df ml:Df}{v:ae}(hl:fh o=true)(h:zI P call o tm m df v m' ml):dx P (du tm) o m=some (v,m')/\ml=df:=by
 obtain⟨n1,n2,n3⟩:=Ug hl;rcases h with h|⟨f,args,hc,_⟩|⟨f,args,hd,_⟩
 ·exact h
 ·rcases hc with⟨x,lI,lB,_,_,ho,_⟩|⟨x,n,lI,lB,_,ho,_⟩
  ·exact absurd ho (n1 _ _ _)
  ·exact absurd ho (n2 _ _ _ _)
 ·obtain⟨x,lI,lB,_,_,ho,_⟩:=hd;exact absurd ho (n3 _)
def tx (P:aD)(ops:Array gU)(i:Nat)(E3:Tm)(v:ae)(β:Nat):Prop:=∃o mk kb,ops[i]?=some o/\PE P o (du E3) mk kb/\v=mk β/\cP ops o E3=true
theorem LP (R:lJ ops bI nt){i:Nat}{o:gU}(ho:ops[i]?=some o){t:Tmp}(ht:t∈kF ops o):dk ops i≠some t:=by
 intro hd;have hi:=dz ho;rcases R.abw i i o t ho ht hi hd with h|h<;>(have :=R.ord.lt hi h;omega)
theorem Ex.step(R:lJ ops bI nt){S:Nat->Prop}{tm:Tm}(h:Ex ops nt r lN S tm){i:Nat}(hi:¬S i){v:ae}(hd:∀d,dk ops i=some d->d<512)(hv:∀d,dk ops i=some d->d<nt->v=cY d r.tm):Ex ops nt r lN (fun x=>S x\/x=i) (GL (dk ops i) v tm):=by
 intro t ht;have qD:=R.nt;rw[jw hd aj]
 by_cases he:dk ops i=some t
 ·rw[bC he];exact⟨fun _ _ _=>hv t he ht,fun hn=>absurd he (hn i (.inr rfl))⟩
 ·rw[bS he];refine⟨fun j hj hdj=>?_,fun hn=>(h t ht).2 fun j hj=>hn j (.inl hj)⟩;rcases hj with hj|rfl
  ·exact(h t ht).1 j hj hdj
  ·exact absurd hdj he
theorem Ex.slot{S:Nat->Prop}{tm:Tm}(h:Ex ops nt r lN S tm)(qD:nt<=512){slot:Nat}(h1:nt<=slot)(h2:slot<512)(v:ae):Ex ops nt r lN S (tJ slot v tm):=by
 intro t ht;rw[o0 h2 aj,bS aj];exact h t ht
theorem Ex.iff{S S':Nat->Prop}{tm:Tm}(h:Ex ops nt r lN S tm)(e:∀x,S x↔S' x):Ex ops nt r lN S' tm:=by
 have :S=S':=funext fun x=>propext (e x)
 rw[<-this];exact h
theorem guard_of {nt':Nat}{j:Nat}{want:Bool}{o:gU}(h:∀j want,o.guard=some (j,want)->∃g,(ops[j]?).bind (·.dst)=some g/\g<nt/\g<512):∀j want,o.guard=some (j,want)->∃g,dk ops j=some g/\g<nt:=fun j want hg=>let⟨g,h1,h2,_⟩:=h j want hg;⟨g,h1,h2⟩
set_option maxHeartbeats 1000000 in
theorem wi(R:lJ ops bI nt){T:List ni}:∀{L:List Nat}{S:Nat->Prop}{F:iE}{tm:Tm}{m:Mem}{df:Df},Lin ops bI S L->(∀x y,(0,x,y)∈T->¬S x/\x∉L)->
  iw P nt ops (za ops bI nt L++T)=some F->F call tm m df=some r->Wf m->Ex ops nt r lN S tm->
  ∃F' fe m',iw P nt ops T=some F'/\F' call fe m' df=some r/\kO m m'/\Ex ops nt r lN (fun x=>S x\/x∈L) fe/\(∀j,j∉L->nt+j<512->cY (nt+j) fe=cY (nt+j) tm)/\
   ∃(sS:Nat->Tm) (vI:Nat->ae),(∀i∈L,EP P ops bI nt r lN i (sS i) (vI i) m' fe)/\(∀i∈L,∀β,tx P ops i (sS i) (vI i) β->m.next<=β/\β<m'.next)/\
    (∀i∈L,∀j∈L,i≠j->∀β,tx P ops i (sS i) (vI i) β->¬tx P ops j (sS j) (vI j) β)
 | [],S,F,tm,m,df,_,_,hT,hf,hw,hex=>⟨F,tm,m,hT,hf,kO.refl m,hex.iff fun x=>by simp,fun _ _ _=>rfl,fun _=>tm,fun _=>undef,de,de,de⟩
 |i::L,S,F,tm,m,df,ak2,hTn,hT,hf,hw,hex=>by
  obtain⟨l1,l2,l3,⟨o,ho,hl⟩,l5⟩:=ak2;have qD:=R.nt;have hiL:i∉L:=Lin.aao l5 i (.inr rfl);have Jw:Seen ops bI nt r lN i tm:=NQ R hex l1 l2;have ed:dk ops i=o.dst:=by unfold dk;rw[ho];rfl
  have um:∀{x y:Nat},((0,x,y):ni)∈(if ie ops bI (aE ops) i then[((1,i,nt+i):ni)]else[])++(za ops bI nt L++T)->x≠i:=by
   intro x y hx;rcases List.mem_append.1 hx with h|h
   ·split at h
    ·simp at h
    ·simp at h
   ·rcases List.mem_append.1 h with h|h
    ·unfold za at h;obtain⟨z,hz,h⟩:=List.mem_flatMap.1 h;have :x=z:=by
      split at h
      ·simp at h;exact h.1
      ·simp at h;exact h.1
     subst this;rintro rfl;exact hiL hz
    ·rintro rfl;exact(hTn _ _ h).2 de
  have ahY:iw P nt ops ((0,i,0)::((if ie ops bI (aE ops) i then[((1,i,nt+i):ni)]else[])++(za ops bI nt L++T)))=some F:=by
   rw[<-hT]
   congr 1
   unfold za;rw[List.flatMap_cons]
   split<;>simp
  obtain⟨F1,KU,ht1⟩:=lq ahY;obtain⟨Lh,m1,df1,lK,MD,_⟩:=py ht1 hf;obtain⟨vv,amU,s8⟩:=LS lK;have amH:=lK;obtain⟨o',qe,nO,jV,MF⟩:=lK;rw[ho]at qe;cases qe;have gy:∀d,dk ops i=some d->d<nt->cY d Lh=cY d r.tm:=fun d hd cC=>(vX qD KU MD d cC fun x y hx he=>R.uniq x i d (um hx) he hd).symm
  obtain⟨v,hv,nW,hg1,er⟩:∃v,Lh=GL (dk ops i) v tm/\df1=df/\kO m m1/\((cP ops o tm=false/\v=undef)\/(cP ops o tm=true/\eM P o (du tm) v m1/\(fF o=false->∀m,dx P (du tm) o m=some (v,m))/\dx P (du tm) o m=some (v,m1))):=by
   rcases MF with⟨Ai,v,hd,rfl⟩|⟨Ai,rfl,rfl,rfl⟩
   ·obtain⟨h1,rfl⟩:=Mb hl hd;obtain⟨g1,g2,g3⟩:=Uf hl hw h1;exact⟨v,by rw[ed],rfl,g1,.inr ⟨Ai,g2,g3,h1⟩⟩
   ·exact⟨undef,by rw[ed],rfl,kO.refl _,.inl ⟨Ai,rfl⟩⟩
  subst nW;have OL:∀d,dk ops i=some d->d<nt->v=cY d r.tm:=fun d hd cC=>by
   rw[<-gy d hd cC,hv,jw s8 (aW cC qD),bC hd]
  have OK:Wf m1:=hg1.fr.2.2 hw;have ME:Ex ops nt r lN (fun x=>S x\/x=i) Lh:=by rw[hv];exact hex.step R l3 s8 OL
  have fj:∀t∈kF ops o,t<nt->cY t Lh=cY t tm:=fun t ht cC=>by
   rw[hv,jw s8 (aW cC qD),bS (LP R ho ht)]
  obtain⟨F2,Rx,hF2,MC,Y6,Mt,ahB⟩:∃F2 Rx,iw P nt ops (za ops bI nt L++T)=some F2/\F2 call Rx m1 df1=some r/\Ex ops nt r lN (fun x=>S x\/x=i) Rx/\
    (ie ops bI (aE ops) i=true->cP ops o tm=true->cY (nt+i) Rx=jB m1 (jA o (du tm) v))/\(∀j,j≠i->nt+j<512->cY (nt+j) Rx=cY (nt+j) tm):=by
   have vt:∀d,dk ops i=some d->d<nt:=fun d hd=>R.ord.dst i o d ho (by rw[<-ed];exact hd)
   have aaF:∀j,nt+j<512->cY (nt+j) Lh=cY (nt+j) tm:=fun j hj=>by
    rw[hv,jw s8 hj,bS];intro he;have h1:nt+j<nt:=vt _ he;omega
   by_cases hc:ie ops bI (aE ops) i=true
   ·rw[bC hc]at KU;obtain⟨F2,hF2,ht2⟩:=lq KU;obtain⟨o2,x,ho2,hx,s1,s2,MC⟩:=py ht2 MD;rw[ho]at ho2;cases ho2;refine⟨F2,_,hF2,MC,ME.slot qD s1 s2 _,fun _ Ai=>?_,fun j hj OW=>?_⟩
    ·rw[o0 s2 s2,bC rfl,bC]
     ·congr 1
      rw[EY hx (v:=v) fun d hd=>by rw[hv,jw s8 (s8 d (by rw[ed];exact hd)),bC (by rw[ed];exact hd)]];exact EX (fun y hy=>O8 fj nO.1 y hy) v
     ·rw[xg fj (fun j want hg=>let⟨g,h1,h2,_⟩:=jV j want hg;⟨g,h1,h2⟩)];exact Ai
    ·rw[o0 s2 OW,bS aj];exact aaF j OW
   ·rw[bS hc]at KU;exact⟨F1,Lh,KU,MD,ME,fun h=>absurd h hc,fun j _ OW=>aaF j OW⟩
  obtain⟨F',fe,m',hF',AT,Hg,ala,aaG,sS,vI,hp,YX,yF⟩:=wi R l5 (fun x y hx=>⟨fun h=>by
   rcases h with h|rfl
   ·exact(hTn x y hx).1 h
   ·exact(hTn x y hx).2 de,fun h=>(hTn x y hx).2 (by simp[h])⟩) hF2 MC OK Y6
  refine⟨F',fe,m',hF',AT,hg1.trans Hg,ala.iff fun x=>by simp only[aI];exact⟨fun h=>h.elim (fun h=>h.elim .inl fun h=> .inr (.inl h)) fun h=> .inr (.inr h),fun h=>h.elim (fun h=> .inl (.inl h)) fun h=>h.elim (fun h=> .inl (.inr h)) .inr⟩,
   fun j hj OW=>by rw[aaG j (fun h=>hj (by simp[h])) OW,ahB j (fun h=>hj (by simp[h])) OW],fun x=>if x=i then tm else sS x,fun x=>if x=i then v else vI x,fun x hx=>?_,fun x hx β jj=>?_,fun x hx y hy KJ β jj mK=>?_⟩
  ·rcases aI.1 hx with rfl|Wx
   ·simp only[if_true];refine⟨⟨o,ho,nO,fun j want hg=>let⟨g,h1,h2,_⟩:=jV j want hg;⟨g,h1,h2⟩,fun d hd cC=>OL d (by rw[ed];exact hd) cC,?_⟩,Jw⟩;rcases er with h|⟨h1,h2,h3,h4⟩
    ·exact .inl h
    ·have cC:ie ops bI (aE ops) x=true->nt+x<512:=fun hc=>by
      rw[bC hc]at KU;obtain⟨_,_,ht2⟩:=lq KU;obtain⟨_,_,_,_,_,s2,_⟩:=py ht2 MD;exact s2
     refine .inr ⟨h1,h2.grow OK Hg,h3,fun hc=>⟨cC hc,m1,OK,Hg.fr.w.mv,h2,?_⟩⟩;rw[aaG x hiL (cC hc)];exact Mt hc h1
   ·have dH:x≠i:=fun h=>hiL (h▸Wx)
    simp only[dH,if_false];exact hp x Wx
  ·rcases aI.1 hx with rfl|Wx
   ·simp only[if_true]at jj;obtain⟨o2,mk,kb,ho2,AP,hvm,Ai⟩:=jj;rw[ho]at ho2;cases ho2;rcases er with⟨h1,_⟩|⟨_,_,_,h4⟩
    ·rw[h1]at Ai;cases Ai
    ·rw[AP.op m]at h4;simp only[ah,ay]at h4;have e1:mY v=some m.next:=by rw[<-h4.1];exact mH AP.form _
     have e2:mY v=some β:=by rw[hvm];exact mH AP.form _
     rw[e1]at e2;cases e2;refine⟨ai _,?_⟩;have :=Hg.next;have h5:m1.next=m.next+1:=by rw[<-h4.2];rfl
     omega
   ·have dH:x≠i:=fun h=>hiL (h▸Wx)
    simp only[dH,if_false]at jj;have :=YX x Wx β jj;have :=hg1.next;omega
  ·
   have ah2:∀z∈L,∀β,tx P ops z (sS z) (vI z) β->m1.next<=β:=fun z hz β jj=>(YX z hz β jj).1
   have UO:∀β,tx P ops i tm v β->β<m1.next:=fun β jj=>by
    obtain⟨o2,mk,kb,ho2,AP,hvm,Ai⟩:=jj;rw[ho]at ho2;cases ho2;rcases er with⟨h1,_⟩|⟨_,_,_,h4⟩
    ·rw[h1]at Ai;cases Ai
    ·rw[AP.op m]at h4;simp only[ah,ay]at h4;have e1:mY v=some m.next:=by rw[<-h4.1];exact mH AP.form _
     have e2:mY v=some β:=by rw[hvm];exact mH AP.form _
     rw[e1]at e2;cases e2;have h5:m1.next=m.next+1:=by rw[<-h4.2];rfl
     omega
   rcases aI.1 hx with hxe|Wx<;>rcases aI.1 hy with hye|hyL
   ·exact KJ (hxe.trans hye.symm)
   ·have dH:y≠i:=fun h=>hiL (h▸hyL)
    simp only[hxe,if_true]at jj;simp only[dH,if_false]at mK;have :=ah2 y hyL β mK;have :=UO β jj;omega
   ·have dH:x≠i:=fun h=>hiL (h▸Wx)
    simp only[dH,if_false]at jj;simp only[hye,if_true]at mK;have :=ah2 x Wx β jj;have :=UO β mK;omega
   ·have h1:x≠i:=fun h=>hiL (h▸Wx)
    have h2:y≠i:=fun h=>hiL (h▸hyL)
    simp only[h1,if_false]at jj;simp only[h2,if_false]at mK;exact yF x Wx y hyL KJ β jj mK
end
end Go.AM
namespace Go.AM
open Go Go.Conc
section
variable {P:aD}{X:Ext}{main:Bool}{J:JT}{F:Mem->Mem->Prop}{ops:Array gU}{bI:Array Nat}{nt:Nat}{call:cB}{r:Ss}{lN:Tm}
theorem Dk {T:List ni}:∀{C:List Nat}{F:iE}{tm:Tm}{m:Mem}{df:Df},iw P nt ops ((C.map fun i=>((2,i,nt+i):ni))++T)=some F->F call tm m df=some r->
  ∃F',iw P nt ops T=some F'/\F' call tm m df=some r/\∀i∈C,∃o x,ops[i]?=some o/\mC o=some x/\(cP ops o tm=true->xx (cY (nt+i) tm) (jB m (du tm x))=true/\
   (looks o=true->(dx P (du tm) o m).isSome=true)/\(looks o=false->∀b,mY (du tm x)=some b->m.floor<=b))
 | [],F,tm,m,df,h,hf=>⟨F,h,hf,de⟩
 |i::C,F,tm,m,df,h,hf=>by
  obtain⟨F1,h1,ht⟩:=lq h;obtain⟨o,x,ho,hx,MD,hc⟩:=py ht hf;obtain⟨F',g1,g2,g3⟩:=Dk h1 MD;refine⟨F',g1,g2,fun j hj=>?_⟩;rcases aI.1 hj with rfl|hj
  ·exact⟨o,x,ho,hx,hc⟩
  ·exact g3 j hj
theorem EP.grow{i:Nat}{E3:Tm}{v:ae}{m m':Mem}{tm fe:Tm}(h:EP P ops bI nt r lN i E3 v m tm)(hw:Wf m)(g:kO m m')(ht:nt+i<512->cY (nt+i) fe=cY (nt+i) tm):EP P ops bI nt r lN i E3 v m' fe:=by
 obtain⟨⟨o,h1,h2,h3,h4,h5⟩,h6⟩:=h;refine⟨⟨o,h1,h2,h3,h4,h5.imp id ?_⟩,h6⟩;rintro⟨g1,g2,g3,g4⟩;refine⟨g1,g2.grow hw g,g3,fun hc=>?_⟩;obtain⟨k1,m₁,k2,k3,k4,k5⟩:=g4 hc;exact⟨k1,m₁,k2,k3.trans g.fr.w.mv,k4,by rw[ht k1];exact k5⟩
theorem EP.aeu(R:lJ ops bI nt){i:Nat}{E3:Tm}{v:ae}{m m':Mem}{tm fe:Tm}{S:Nat->Prop}(h:EP P ops bI nt r lN i E3 v m tm)(hm:Mv m m')(ht:nt+i<512->cY (nt+i) fe=cY (nt+i) tm)
  (hex:Ex ops nt r lN S fe)(hS:S i)(Vb:∀j,B bI i j->S j)
  (hc:ie ops bI (aE ops) i=true->∃o x,ops[i]?=some o/\mC o=some x/\(cP ops o fe=true->xx (cY (nt+i) fe) (jB m' (du fe x))=true/\
   (looks o=true->(dx P (du fe) o m').isSome=true)/\(looks o=false->∀b,mY (du fe x)=some b->m'.floor<=b)))
  (cC:cO bI (aE ops) i<rh bI (aE ops) i):EP P ops bI nt r lN i E3 v m' fe:=by
 obtain⟨⟨o,h1,h2,h3,h4,h5⟩,h6⟩:=h;refine⟨⟨o,h1,h2,h3,h4,h5.imp id ?_⟩,h6⟩;rintro⟨g1,g2,g3,g4⟩;cases hk:fF o with
 |false=>
  have hnc:ie ops bI (aE ops) i=false:=by
   show(Nat.blt _ _&&(ops[i]?).any fF)=false
   rw[h1];simp[hk]
  exact⟨g1,.pure (g3 hk),fun _=>g3 hk,fun hc=>by rw[hnc]at hc;cases hc⟩
 |true=>
  have RL:ie ops bI (aE ops) i=true:=by
   show(Nat.blt _ _&&(ops[i]?).any fF)=true
   rw[h1];simp[hk,kl,cC]
  obtain⟨o',x,qe,hx,adA⟩:=hc RL;rw[h1]at qe;cases qe;obtain⟨k1,m₁,k2,k3,k4,k5⟩:=g4 RL;have fj:∀t∈kF ops o,t<nt->cY t E3=cY t fe:=fun t ht cC=>by
   by_cases hw:∃j,dk ops j=some t
   ·obtain⟨j,hj⟩:=hw;have hb:=R.steady i RL o h1 t ht j hj;rw[(h6 o h1 t ht cC).1 j hb hj,(hex t cC).1 j (Vb j hb) hj]
   ·have hn:∀j,dk ops j≠some t:=fun j hj=>hw ⟨j,hj⟩
    rw[(h6 o h1 t ht cC).2 fun j _=>hn j,(hex t cC).2 fun j _=>hn j]
  have dS:∀y∈o.op.operands,du fe y=du E3 y:=fun y hy=>(O8 fj h2.1 y hy).symm
  obtain⟨c1,c2,c3⟩:=adA (by rw[<-xg fj h3];exact g1);have ed:dk ops i=o.dst:=by unfold dk;rw[h1];rfl
  have hdv:∀d,o.dst=some d->cY d fe=v:=fun d hd=>by
   have cC:=R.ord.dst i o d h1 hd;rw[h4 d hd cC];exact(hex d cC).1 i hS (by rw[ed];exact hd)
  have hwv:du fe x=jA o (du E3) v:=(EY hx hdv).trans (EX dS v);rw[hwv,ht k1,k5]at c1;have YX:=k3.trans hm;have kz:∀b,mY (jA o (du E3) v)=some b->m'.blk b=m₁.blk b:=fun b hb=>(Lq k2 YX c1 hb).1
  refine⟨g1,k4.check YX.next kz (fun hl=>?_) (fun hl b hb=>?_),fun h=>(by cases h),fun _=>⟨k1,m₁,k2,YX,k4,by rw[ht k1];exact k5⟩⟩
  ·rw[<-acs hl dS];exact c2 hl
  ·refine c3 hl b ?_;rw[hwv,Bs hl];exact hb
structure RT (nt:Nat)(ops:Array gU)(r:Ss)(lN:Tm)(ρ:dh)(D:Nat->Prop)(a:Act):Prop where
 size:a.tmps.size=nt
 done:∀t,t<nt->∀i,D i->dk ops i=some t->aQ ρ (cY t r.tm) (a.tmps.getD t undef)
 old:∀t,t<nt->(∀i,D i->dk ops i≠some t)->aQ ρ (cY t lN) (a.tmps.getD t undef)
theorem RT.iJ{ρ bu:dh}{D:Nat->Prop}{a:Act}(h:RT nt ops r lN ρ D a)(hle:ρ.le bu):RT nt ops r lN bu D a:=
 ⟨h.size,fun t ht i hi hd=>(h.done t ht i hi hd).iJ hle,fun t ht hn=>(h.old t ht hn).iJ hle⟩
theorem RT.step{ρ:dh}{D:Nat->Prop}{a:Act}(R:lJ ops bI nt)(h:RT nt ops r lN ρ D a){i:Nat}{o:gU}(ho:ops[i]?=some o){v v':ae}(hv:aQ ρ v v')(OL:∀d,o.dst=some d->d<nt->v=cY d r.tm)(ds:List Deferred):
  RT nt ops r lN ρ (fun x=>D x\/x=i) (Act.put ⟨a.tmps,ds⟩ o.dst v'):=by
 have ed:dk ops i=o.dst:=by unfold dk;rw[ho];rfl
 obtain⟨p1,p2,p3⟩:=xz ⟨a.tmps,ds⟩ o.dst v';refine⟨p2.trans h.size,fun t ht j hj hd=>?_,fun t ht hn=>?_⟩
 ·rw[p3 t (by show t<a.tmps.size;rw[h.size];exact ht)]
  by_cases he:o.dst=some t
  ·rw[bC he,<-OL t he ht];exact hv
  ·rw[bS he];rcases hj with hj|rfl
   ·exact h.done t ht j hj hd
   ·rw[ed]at hd;exact absurd hd he
 ·have he:o.dst≠some t:=by rw[<-ed];exact hn i (.inr rfl)
  rw[p3 t (by show t<a.tmps.size;rw[h.size];exact ht),bS he];exact h.old t ht fun j hj=>hn j (.inl hj)
theorem ID (R:lJ ops bI nt){ρ:dh}{D:Nat->Prop}{a:Act}{i:Nat}{Z5:Tm}(hs:Seen ops bI nt r lN i Z5)(h:RT nt ops r lN ρ D a)(h1:∀j,B bI i j->D j)(h2:∀j,D j->¬B bI j i){o:gU}(ho:ops[i]?=some o):
  ∀t∈kF ops o,t<nt->aQ ρ (cY t Z5) (a.tmps.getD t undef):=by
 intro t ht cC
 by_cases hw:∃j,B bI i j/\dk ops j=some t
 ·obtain⟨j,hb,hd⟩:=hw;rw[(hs o ho t ht cC).1 j hb hd];exact h.done t cC j (h1 j hb) hd
 ·rw[(hs o ho t ht cC).2 fun j hb hd=>hw ⟨j,hb,hd⟩];refine h.old t cC fun j hj hd=>?_
  rcases R.abw i j o t ho ht (MU hd) hd with hb|hb
  ·exact hw ⟨j,hb,hd⟩
  ·exact h2 j hj hb
theorem Tv {E:Perm}{bq:au}{σ:nF}{ρ:dh}{m:Mem}{w:au}(H:cU P E bq σ ρ m w){a:Act}{Z5:Tm}{o:gU}(h:∀t∈kF ops o,t<nt->aQ ρ (cY t Z5) (a.tmps.getD t undef))(hg:∀x∈o.op.operands,rI nt P.globals.size x=true):
  ∀x∈o.op.operands,aQ ρ (du Z5 x) (a.eval x):=by
 intro x hx;have hgx:=hg x hx;cases x with
 |tmp t=>
  simp only[rI,kl,jQ]at hgx;exact h t (NP hx) hgx
 |const v=>exact bO hgx
 |global g=>
  simp only[rI,kl,jQ]at hgx;obtain⟨p,h1,h2,h3⟩:=H.oj g hgx;exact cL.2 ⟨p,h1,rfl,by rw[h2,h3];rfl⟩
 |func f=>exact fP.2 ⟨_,_,rfl,trivial,trivial⟩
theorem tH {ρ:dh}{a:Act}{Z5:Tm}{o:gU}(h:∀t∈kF ops o,t<nt->aQ ρ (cY t Z5) (a.tmps.getD t undef))(hg:∀j want,o.guard=some (j,want)->∃g,dk ops j=some g/\g<nt)(hs:a.tmps.size=nt):
  Region.wanted o (yielded ops a.tmps)=cP ops o Z5:=
 vS (fun j want hj=>let⟨g,h1,h2⟩:=hg j want hj;⟨g,h1,h2,h g (BL hj h1) h2⟩) hs
end
end Go.AM
namespace Go.AM
open Go Go.Conc
section
variable {P:aD}{X:Ext}{main:Bool}{J:JT}{F:Mem->Mem->Prop}{ops:Array gU}{bI:Array Nat}{nt:Nat}{call:cB}{r:Ss}{lN:Tm}
def SS (ops:Array gU)(bI:Array Nat)(pre:List Nat)(i:Nat):Prop:=((∃o,ops[i]?=some o/\fh o=true)/\cO bI (aE ops) i<pre.length)\/i∈pre
theorem cz {s i:Nat}:i∈fY ops bI (aE ops) s↔(∃o,ops[i]?=some o/\fh o=true)/\cO bI (aE ops) i=s:=by
 unfold fY;rw[List.mem_filter,List.mem_range]
 constructor
 ·rintro⟨h1,h2⟩;simp only[ag,beq_iff_eq,Array.getElem?_eq_getElem h1]at h2;exact⟨⟨_,Array.getElem?_eq_getElem h1,by simpa using h2.1⟩,h2.2⟩
 ·rintro⟨⟨o,ho,hl⟩,h2⟩;exact⟨dz ho,by simp[ho,hl,h2]⟩
theorem Ql {pre rest:List Nat}{h:Nat}(hh:aE ops=pre++h::rest):(aE ops)[pre.length]?=some h:=by rw[hh];simp
theorem Cq (R:lJ ops bI nt){pre rest:List Nat}(hh:aE ops=pre++rest):Lin ops bI (SS ops bI pre) (fY ops bI (aE ops) pre.length):=by
 have vH:(fY ops bI (aE ops) pre.length).Pairwise (·< ·):=List.Pairwise.filter _ List.pairwise_lt_range;have oh:∀i∈fY ops bI (aE ops) pre.length,(∃o,ops[i]?=some o/\fh o=true)/\cO bI (aE ops) i=pre.length:=fun i hi=>cz.1 hi
 have JN:∀j,(∃o,ops[j]?=some o/\fh o=true)->cO bI (aE ops) j=pre.length->j∈fY ops bI (aE ops) pre.length:=fun j h1 h2=>cz.2 ⟨h1,h2⟩
 have wx:∀j,j∈pre->∃k,k<pre.length/\(aE ops)[k]?=some j:=fun j hj=>by
  obtain⟨k,hk,rfl⟩:=List.mem_iff_getElem.1 hj;exact⟨k,hk,by rw[hh,List.getElem?_append_left hk];exact List.getElem?_eq_getElem hk⟩
 have MI:∀i∈fY ops bI (aE ops) pre.length,∀j,B bI i j->SS ops bI pre j\/(j∈fY ops bI (aE ops) pre.length/\j<i):=by
  intro i hi j hb;obtain⟨⟨o,ho,hl⟩,hf⟩:=oh i hi;have hil:=dz ho;have hji:=R.ord.lt hil hb;have s6:ops[j]?=some ops[j]:=Array.getElem?_eq_getElem aj;cases OT:fh ops[j]with
  |true=>
   have hle:=R.zu hil hb;rcases Nat.lt_or_ge (cO bI (aE ops) j) pre.length with h1|h1
   ·exact .inl (.inl ⟨⟨_,s6,OT⟩,h1⟩)
   ·exact .inr ⟨JN j ⟨_,s6,OT⟩ aj,hji⟩
  |false=>
   have hm:j∈aE ops:=fM.2 ⟨_,s6,OT⟩;obtain⟨k,hk⟩:=List.mem_iff_getElem?.1 hm;have hkl:=(R.pR hil hk).1 hb;rw[hf]at hkl;rw[hh,List.getElem?_append_left hkl]at hk;exact .inl (.inr (List.mem_of_getElem? hk))
 have adk:∀i∈fY ops bI (aE ops) pre.length,¬SS ops bI pre i:=by
  intro i hi;obtain⟨⟨o,ho,hl⟩,hf⟩:=oh i hi;rintro(⟨_,h⟩|h)
  ·omega
  ·obtain⟨o',qe,AR⟩:=fM.1 (show i∈aE ops by rw[hh];exact List.mem_append_left _ h);rw[ho]at qe;cases qe;rw[hl]at AR;cases AR
 have Ak:∀i∈fY ops bI (aE ops) pre.length,∀j,SS ops bI pre j->¬B bI j i:=by
  intro i hi j hj hb;obtain⟨⟨o,ho,hl⟩,hf⟩:=oh i hi;rcases hj with⟨⟨o',qe,_⟩,cC⟩|hj
  ·have :=R.zu (dz qe) hb;omega
  ·obtain⟨k,hk,MA⟩:=wx j hj;have h1:=(R.xm MA).1 hb;have :=R.FL (dz ho);omega
 generalize hL:fY ops bI (aE ops) pre.length=L at*;have key:∀(M L':List Nat),L=M++L'->Lin ops bI (fun x=>SS ops bI pre x\/x∈M) L':=by
  intro M L'
  induction L' generalizing M with
  |nil=>intro _;trivial
  |cons i L' ih=>
   intro e;have hi:i∈L:=by rw[e];simp
   have cC:∀x∈M,x<i:=fun x hx=>by
    rw[e]at vH;exact(List.pairwise_append.1 vH).2.2 x hx i de
   have hgt:∀x∈L',i<x:=fun x hx=>by
    rw[e]at vH;exact(List.pairwise_cons.1 (List.pairwise_append.1 vH).2.1).1 x hx
   refine⟨fun j hb=>?_,fun j hj hb=>?_,?_,(oh i hi).1,?_⟩
   ·rcases MI i hi j hb with h|⟨h,hji⟩
    ·exact .inl h
    ·rw[e]at h;rcases List.mem_append.1 h with h|h
     ·exact .inr h
     ·rcases aI.1 h with rfl|h
      ·omega
      ·have :=hgt j h;omega
   ·rcases hj with hj|hj
    ·exact Ak i hi j hj hb
    ·have h1:=cC j hj;obtain⟨⟨o',qe,_⟩,_⟩:=oh j (by rw[e];simp[hj]);have :=R.ord.lt (dz qe) hb;omega
   ·rintro(h|h)
    ·exact adk i hi h
    ·have :=cC i h;omega
   ·have :=ih (M++[i]) (by rw[e];simp);have e2:(fun x=>SS ops bI pre x\/x∈M++[i])=fun x=>(SS ops bI pre x\/x∈M)\/x=i:=by
     funext x
     simp only[List.mem_append,List.mem_singleton,or_assoc]
    rw[e2]at this;exact this
 have :=key [] L rfl;simpa using this
theorem BH:∀{rest pre:List Nat},aE ops=pre++rest->∀x y,((0,x,y):ni)∈nu ops bI (aE ops) nt pre.length rest->(x∈rest\/((∃o,ops[x]?=some o/\fh o=true)/\pre.length<=cO bI (aE ops) x)):=by
 have eD:∀s x y,((0,x,y):ni)∈Gx ops bI (aE ops) nt s->(∃o,ops[x]?=some o/\fh o=true)/\cO bI (aE ops) x=s:=by
  intro s x y h;unfold Gx at h;obtain⟨z,hz,h⟩:=List.mem_flatMap.1 h;have e:x=z:=by
   split at h
   ·simp at h;exact h.1
   ·simp at h;exact h.1
  subst e;exact cz.1 hz
 intro rest
 induction rest with
 |nil=>
  intro pre hh x y h;unfold nu at h;obtain⟨h1,h2⟩:=eD _ _ _ h;exact .inr ⟨h1,aj⟩
 |cons a rest ih=>
  intro pre hh x y h;unfold nu at h;rcases List.mem_append.1 h with h|h
  ·obtain⟨h1,h2⟩:=eD _ _ _ h;exact .inr ⟨h1,aj⟩
  ·rcases aI.1 h with h|h
   ·cases h;exact .inl de
   ·rcases List.mem_append.1 h with h|h
    ·unfold vb at h;obtain⟨z,_,e⟩:=List.mem_map.1 h;cases e
    ·have :=ih (pre:=pre++[a]) (by rw[hh];simp) x y (by simpa using h);rcases this with h|⟨h1,h2⟩
     ·exact .inl (by simp[h])
     ·exact .inr ⟨h1,by simp at h2;omega⟩
structure PB (P:aD)(ops:Array gU)(bI:Array Nat)(nt:Nat)(r:Ss)(lN:Tm)(s pW:Nat)(sS:Nat->Tm)(vI:Nat->ae)(m:Mem)(tm:Tm):Prop where
 pend:∀i,(∃o,ops[i]?=some o/\fh o=true)->cO bI (aE ops) i<s->s<=rh bI (aE ops) i->EP P ops bI nt r lN i (sS i) (vI i) m tm
 made:∀i,(∃o,ops[i]?=some o/\fh o=true)->cO bI (aE ops) i<s->∀β,tx P ops i (sS i) (vI i) β->pW<=β/\β<m.next
 apart:∀i j,(∃o,ops[i]?=some o/\fh o=true)->(∃o,ops[j]?=some o/\fh o=true)->cO bI (aE ops) i<s->cO bI (aE ops) j<s->i≠j->∀β,tx P ops i (sS i) (vI i) β->¬tx P ops j (sS j) (vI j) β
def vg (P:aD)(J:JT)(ops:Array gU)(bI:Array Nat)(nt:Nat)(r:Ss)(lN:Tm)(pW:Nat)(pre rest:List Nat)(sS:Nat->Tm)(vI:Nat->ae)(RF:Nat)(m:Mem)(df:Df)(c:Nat):Prop:=
 ∀{E:Perm}{bq:au}{σ:nF}{ρ:dh}{w:au}{b:Frame}{a:Act}{k:List Item}{cs:List Frame}{l:List Nat}{D:Nat->Prop}{n:Nat},b.kind≠ .early->j7 ops bI D l->
  (∀h∈pre,D h)->(∀h∈rest,¬D h)->cU P E bq σ ρ m w->RT nt ops r lN ρ D a->bB (yB ρ) df a.defers->
  (∀i,(∃o,ops[i]?=some o/\fh o=true)->cO bI (aE ops) i<RF->¬D i->∀β,tx P ops i (sS i) (vI i) β->ρ β=none)->
  (∀gu bu w' a',ρ.le bu->(∀b,b<pW->bu b=ρ b)->cU P E bq gu bu r.mem w'->tz nt bu r.tm r.df a'->J gu n ((az bu r.mem).or E) (G (b.at a' (.inRegion ops []::k)) cs) w')->
  J σ (n+c+l.length) ((az ρ m).or E) (G (b.at a (.inRegion ops l::k)) cs) w
theorem xf (hJ:∀σ,gj P main (J σ))(hX:qh P X)(R:lJ ops bI nt){pre rest:List Nat}(hh:aE ops=pre++rest){pW:Nat}{sS:Nat->Tm}{vI:Nat->ae}{m:Mem}{tm:Tm}{df:Df}{c:Nat}(hN:pW<=m.next)
  (hp:PB P ops bI nt r lN (pre.length+1) pW sS vI m tm\/True)(OO:∀i,(∃o,ops[i]?=some o/\fh o=true)->cO bI (aE ops) i<=pre.length->pre.length<=rh bI (aE ops) i->EP P ops bI nt r lN i (sS i) (vI i) m tm)
  (vJ:∀i,(∃o,ops[i]?=some o/\fh o=true)->cO bI (aE ops) i<=pre.length->∀β,tx P ops i (sS i) (vI i) β->pW<=β/\β<m.next)
  (Hl:∀i j,(∃o,ops[i]?=some o/\fh o=true)->(∃o,ops[j]?=some o/\fh o=true)->cO bI (aE ops) i<=pre.length->cO bI (aE ops) j<=pre.length->i≠j->∀β,tx P ops i (sS i) (vI i) β->¬tx P ops j (sS j) (vI j) β)
  (Hh:rest=[]->∀{E:Perm}{bq:au}{σ:nF}{ρ:dh}{w:au}{b:Frame}{a:Act}{k:List Item}{cs:List Frame}{D:Nat->Prop}{n:Nat},b.kind≠ .early->j7 ops bI D []->cU P E bq σ ρ m w->RT nt ops r lN ρ D a->bB (yB ρ) df a.defers->
   (∀gu bu w' a',ρ.le bu->(∀b,b<pW->bu b=ρ b)->cU P E bq gu bu r.mem w'->tz nt bu r.tm r.df a'->J gu n ((az bu r.mem).or E) (G (b.at a' (.inRegion ops []::k)) cs) w')->
   J σ n ((az ρ m).or E) (G (b.at a (.inRegion ops []::k)) cs) w)
  (adv:∀h Ff,rest=h::Ff->∀{E:Perm}{bq:au}{σ:nF}{ρ:dh}{w:au}{b:Frame}{a:Act}{k:List Item}{cs:List Frame}{l:List Nat}{D:Nat->Prop}{n:Nat},b.kind≠ .early->j7 ops bI D (h::l)->
   (∀h∈pre,D h)->(∀h∈rest,¬D h)->cU P E bq σ ρ m w->RT nt ops r lN ρ D a->bB (yB ρ) df a.defers->
   (∀i,(∃o,ops[i]?=some o/\fh o=true)->cO bI (aE ops) i<=pre.length->¬D i->∀β,tx P ops i (sS i) (vI i) β->ρ β=none)->
   (∀gu bu w' a',ρ.le bu->(∀b,b<pW->bu b=ρ b)->cU P E bq gu bu r.mem w'->tz nt bu r.tm r.df a'->J gu n ((az bu r.mem).or E) (G (b.at a' (.inRegion ops []::k)) cs) w')->
   J σ (n+c+(l.length+1)) ((az ρ m).or E) (G (b.at a (.inRegion ops (h::l)::k)) cs) w):
  vg P J ops bI nt r lN pW pre rest sS vI (pre.length+1) m df c:=by
 intro E bq σ ρ w b a k cs l
 induction l generalizing σ ρ w a with
 |nil=>
  intro D n hk hl wx hZ H FD vt AP pP;have hr0:rest=[]:=by
   cases hr:rest with
   |nil=>rfl
   |cons h Ff=>
    exfalso
    have hm:h∈aE ops:=by rw[hh,hr];simp
    obtain⟨o,ho,_⟩:=fM.1 hm;rcases hl.all h (dz ho)with h1|h1
    ·exact hZ h (by rw[hr];simp) h1
    ·cases h1
  exact(hJ σ).le (show n<=n+c+0 by omega) (Hh hr0 hk hl H FD vt pP)
 |cons i l ih=>
  intro D n hk hl wx hZ H FD vt AP pP;obtain⟨d1,d2,d3,d4⟩:=hl.head;have hoi:ops[i]?=some ops[i]:=Array.getElem?_eq_getElem d3;have Ak:∀j,D j->¬B bI j i:=fun j hj hb=>d2 (hl.down j hj i hb)
  cases hli:fh ops[i]with
  |false=>
   have hm:i∈aE ops:=fM.2 ⟨_,hoi,hli⟩;rw[hh]at hm;rcases List.mem_append.1 hm with hm|hm
   ·exact absurd (wx i hm) d2
   ·cases hr:rest with
    |nil=>rw[hr]at hm;cases hm
    |cons h Ff=>
     have hih:i=h:=by
      rw[hr]at hm;rcases aI.1 hm with e|hm
      ·exact e
      ·exfalso
       obtain⟨q,hq⟩:=List.mem_iff_getElem?.1 hm;have h1:(aE ops)[pre.length]?=some h:=by rw[hh,hr];simp
       have h2:(aE ops)[pre.length+1+q]?=some i:=by
        rw[hh,hr,List.getElem?_append_right aj,show pre.length+1+q-pre.length=q+1 by omega];simpa using hq
       have hb:=R.chain pre.length (pre.length+1+q) h i aj h1 h2;exact hZ h (by rw[hr];simp) (d1 h hb)
     subst hih;exact adv i Ff hr hk hl wx (by rw[hr]at hZ⊢;exact hZ) H FD vt (fun j h1 h2 h3=>AP j h1 aj h3) pP
  |true=>
   have jH:∃o,ops[i]?=some o/\fh o=true:=⟨_,hoi,hli⟩;have U8:cO bI (aE ops) i<=pre.length:=by
    rcases Nat.lt_or_ge pre.length (cO bI (aE ops) i)with h1|h1
    ·exfalso
     have hle:cO bI (aE ops) i<=(aE ops).length:=List.length_filter_le _ _;have hx:=List.getElem?_eq_getElem (show pre.length<(aE ops).length by omega);have hb:=(R.pR d3 hx).2 h1;have um:(aE ops)[pre.length]∈rest:=by
      have e:(aE ops)[pre.length]?=rest[0]?:=by rw[hh,List.getElem?_append_right (ai _),Nat.sub_self]
      rw[hx]at e;exact List.mem_of_getElem? e.symm
     exact hZ _ um (d1 _ hb)
    ·exact h1
   have ahm:pre.length<=rh bI (aE ops) i:=by
    rcases Nat.lt_or_ge (rh bI (aE ops) i) pre.length with h1|h1
    ·exfalso
     have hq:∀(q:Nat) (hq:q<pre.length),(aE ops)[q]?=some pre[q]:=fun q hq=>by rw[hh,List.getElem?_append_left hq];exact List.getElem?_eq_getElem hq
     have hx:=hq _ h1;have hb:=(R.xm hx).2 (ai _);exact Ak _ (wx _ (List.getElem_mem h1)) hb
    ·exact h1
   obtain⟨⟨o,ho,nO,jV,AN,dO⟩,Jw⟩:=OO i jH U8 ahm;have YO:=ID R Jw FD d1 Ak ho;have uj:=tH YO jV FD.size;have ahD:=Tv H YO nO.1;have xT:∀{bu:dh}{v':ae}{w':au},ρ.le bu->(∀b,b<m.next->(∀β,tx P ops i (sS i) (vI i) β->b≠β)->bu b=ρ b)->cU P E bq σ bu m w'->aQ bu (vI i) v'->
     J σ (n+c+l.length) ((az bu m).or E) (G (b.at (a.put o.dst v') (.inRegion ops l::k)) cs) w':=by
    intro bu v' w' hle hold H' hv;refine ih (D:=fun x=>D x\/x=i) hk d4 (fun h hm=> .inl (wx h hm)) (fun h hm hd=>?_) H' ((FD.iJ hle).step R ho hv AN a.defers) (by rw[(xz a o.dst v').1];exact vt.mono fun _ _ x=>x.iJ hle) (fun j h1 h2 h3 β jj=>?_) (fun gu eX iH Nm og kU=>pP gu eX iH Nm (dh.le_trans hle og) fun b hb=>?_)
    ·rcases hd with hd|rfl
     ·exact hZ h hm hd
     ·obtain⟨o',qe,AR⟩:=fM.1 (show h∈aE ops by rw[hh];exact List.mem_append_right _ hm);rw[hoi]at qe;cases qe;rw[hli]at AR;cases AR
    ·rw[hold β (vJ j h1 aj β jj).2 fun Gf mK e=>?_]
     ·exact AP j h1 h2 (fun hd=>h3 (.inl hd)) β jj
     ·subst e;exact Hl i j jH h1 U8 aj (fun e=>h3 (.inr e.symm)) β mK jj
    ·rw[kU b hb,hold b aj fun β jj e=>by have :=(vJ i jH U8 β jj).1;omega]
   rcases dO with⟨DU,hvu⟩|⟨Ai,adr,_,_⟩
   ·refine(hJ σ).le (show(n+c+l.length)+1<=n+c+(l.length+1) by omega) ?_;refine qN (hJ σ) ho (uj.trans DU) fun aO jU=>?_
    exact xT (dh.le_refl ρ) (fun _ _ _=>rfl) (H.keeps jU) (by rw[hvu];exact mD)
   ·refine(hJ σ).le (show(n+c+l.length)+1<=n+c+(l.length+1) by omega) ?_;have UL:dx P (du (sS i)) o m=some (vI i,m)->J σ (n+c+l.length+1) ((az ρ m).or E) (G (b.at a (.inRegion ops (i::l)::k)) cs) w:=fun dq=>
     A2 (hJ σ) ho (uj.trans Ai) hk H ahD dq fun bu v' w' hle hold H' hv=>xT hle (fun b hb _=>hold b hb) H' hv
    cases adr with
    |pure h=>exact UL (h m)
    |look _ h=>exact UL h
    |make mk kb β hm hv cC H4 hb=>
     have hmo:tx P ops i (sS i) (vI i) β:=⟨o,mk,kb,ho,hm,hv,Ai⟩;refine Qt hJ ho (uj.trans Ai) hk H ahD hm (AP i jH aj d2 β hmo) cC H4 hb fun bu v' w' hle hold H' OL=>xT hle (fun b nD my=>hold b nD (my β hmo)) H' (by rw[hv];exact OL)
end
end Go.AM
namespace Go.AM
open Go Go.Conc
section
variable {P:aD}{X:Ext}{main:Bool}{J:JT}{F:Mem->Mem->Prop}{ops:Array gU}{bI:Array Nat}{nt:Nat}{call:cB}{r:Ss}{lN:Tm}
theorem kV {i:Nat}(h:i∈aE ops):¬∃o,ops[i]?=some o/\fh o=true:=by
 rintro⟨o,ho,hl⟩;obtain⟨o',qe,AR⟩:=fM.1 h;rw[ho]at qe;cases qe;rw[hl]at AR;cases AR
theorem GM {pre rest:List Nat}(hh:aE ops=pre++rest){x:Nat}(hx:x∈rest):x∉pre:=by
 intro hp;have :=CN (ops:=ops);rw[hh]at this;have :=(List.pairwise_append.1 this).2.2 x hp x hx;omega
theorem Ls {pre rest:List Nat}(hh:aE ops=pre++rest){x:Nat}(hx:x∈rest):¬SS ops bI pre x:=by
 rintro(⟨h,_⟩|h)
 ·exact kV (by rw[hh];exact List.mem_append_right _ hx) h
 ·exact GM hh hx h
theorem Xc (R:lJ ops bI nt){pre rest:List Nat}(hh:aE ops=pre++rest){i:Nat}(hl:∃o,ops[i]?=some o/\fh o=true)(hf:cO bI (aE ops) i<pre.length):∀j,B bI i j->SS ops bI pre j:=by
 intro j hb;obtain⟨o,ho,_⟩:=hl;have hi:=dz ho;have hji:=R.ord.lt hi hb;have s6:ops[j]?=some ops[j]:=Array.getElem?_eq_getElem aj;cases OT:fh ops[j]with
 |true=>
  have :=R.zu hi hb;exact .inl ⟨⟨_,s6,OT⟩,aj⟩
 |false=>
  obtain⟨q,hq⟩:=List.mem_iff_getElem?.1 (fM.2 ⟨_,s6,OT⟩);have h1:=(R.pR hi hq).1 hb;rw[hh,List.getElem?_append_left aj]at hq;exact .inr (List.mem_of_getElem? hq)
set_option maxHeartbeats 1000000 in
theorem Lr(hJ:∀σ,gj P main (J σ))(hX:qh P X)(hF:wR F)(C:fW P X main J F call)(R:lJ ops bI nt){pW:Nat}:∀{rest pre:List Nat}{tm:Tm}{m:Mem}{df:Df}{F0:iE}{sS:Nat->Tm}{vI:Nat->ae},aE ops=pre++rest->
  iw P nt ops (nu ops bI (aE ops) nt pre.length rest)=some F0->F0 call tm m df=some r->Wf m->Ex ops nt r lN (SS ops bI pre) tm->pW<=m.next->PB P ops bI nt r lN pre.length pW sS vI m tm->
  F m r.mem/\∃c,vg P J ops bI nt r lN pW pre rest sS vI pre.length m df c:=by
 intro rest
 induction rest with
 |nil=>
  intro pre tm m df F0 sS vI hh hT hf hw hex hN hp;unfold nu at hT;obtain⟨F1,Lh,m1,KU,MD,hg,ME,yD,tmL,vL,q1,q2,q3⟩:=wi (P:=P) (call:=call) R (T:=[]) (Cq R hh) (fun x y h=>by cases h) (by rw[List.append_nil];exact hT) hf hw hex;unfold iw at KU;cases KU;unfold Zp at MD;simp only[ah]at MD;refine⟨hF.fr (by rw[<-MD];exact hg.fr.w),0,?_⟩;have Mr:vg P J ops bI nt r lN pW pre [] (fun i=>if cO bI (aE ops) i=pre.length then tmL i else sS i) (fun i=>if cO bI (aE ops) i=pre.length then vL i else vI i) (pre.length+1) m1 df 0:=xf (P:=P) (J:=J) (c:=0) (df:=df) (r:=r) (lN:=lN) (tm:=Lh) hJ hX R hh (pW:=pW) (sS:=fun i=>if cO bI (aE ops) i=pre.length then tmL i else sS i) (vI:=fun i=>if cO bI (aE ops) i=pre.length then vL i else vI i)
   (cp hN hg.next) (.inr trivial)
   (fun i h1 h2 h3=>by
    by_cases he:cO bI (aE ops) i=pre.length
    ·simp only[he,if_true];exact q1 i (cz.2 ⟨h1,he⟩)
    ·simp only[he,if_false];exact(hp.pend i h1 aj h3).grow hw hg (yD i fun hm=>he (cz.1 hm).2))
   (fun i h1 h2 β jj=>by
    by_cases he:cO bI (aE ops) i=pre.length
    ·simp only[he,if_true]at jj;have :=q2 i (cz.2 ⟨h1,he⟩) β jj;omega
    ·simp only[he,if_false]at jj;have :=hp.made i h1 aj β jj;have :=hg.next;omega)
   (fun i j h1 h2 h3 h4 s7 β jj mK=>by
    by_cases he:cO bI (aE ops) i=pre.length<;>by_cases JK:cO bI (aE ops) j=pre.length
    ·simp only[he,if_true]at jj;simp only[JK,if_true]at mK;exact q3 i (cz.2 ⟨h1,he⟩) j (cz.2 ⟨h2,JK⟩) s7 β jj mK
    ·simp only[he,if_true]at jj;simp only[JK,if_false]at mK;have :=q2 i (cz.2 ⟨h1,he⟩) β jj;have :=hp.made j h2 aj β mK;omega
    ·simp only[he,if_false]at jj;simp only[JK,if_true]at mK;have :=q2 j (cz.2 ⟨h2,JK⟩) β mK;have :=hp.made i h1 aj β jj;omega
    ·simp only[he,if_false]at jj;simp only[JK,if_false]at mK;exact hp.apart i j h1 h2 aj aj s7 β jj mK)
   (fun _ {E bq σ ρ w b a k cs D n} hk hl H FD vt pP=>by
    have e:r.mem=m1:=by rw[<-MD]
    have ed:r.df=df:=by rw[<-MD]
    have et:r.tm=Lh:=by rw[<-MD]
    have :=pP σ ρ w a (dh.le_refl _) (fun _ _=>rfl) (by rw[e];exact H) ⟨FD.size,fun t ht=>by
     by_cases hw:∃i,dk ops i=some t
     ·obtain⟨i,hi⟩:=hw;refine FD.done t ht i ?_ hi;rcases hl.all i (MU hi)with h|h
      ·exact h
      ·cases h
     ·have hn:∀i,dk ops i≠some t:=fun i hi=>hw ⟨i,hi⟩
      rw[et,(ME t ht).2 fun i _=>hn i];exact FD.old t ht fun i _=>hn i,by rw[ed];exact vt⟩
    rw[e]at this;exact this)
   (fun h Ff e=>by cases e)
  intro E bq σ ρ w b a k cs l D n hk hl wx hZ H FD vt AP pP;obtain⟨H',qC⟩:=H.grow hg;rw[<-qC];refine Mr hk hl wx hZ H' FD vt (fun i h1 h2 h3 β jj=>?_) pP
  by_cases he:cO bI (aE ops) i=pre.length
  ·simp only[he,if_true]at jj;have :=q2 i (cz.2 ⟨h1,he⟩) β jj;cases hρ:ρ β with
   |none=>rfl
   |some p=>have :=H.jY.mz β p hρ;omega
  ·simp only[he,if_false]at jj;exact AP i h1 aj h3 β jj
 |cons h rest ih=>
  intro pre tm m df F0 sS vI hh hT hf hw hex hN hp;have hhm:h∈aE ops:=by rw[hh];simp
  have hhl:=kV hhm;have U6:aE ops=(pre++[h])++rest:=by rw[hh];simp
  have dm:(pre++[h]).length=pre.length+1:=de;unfold nu at hT;have hTn:∀x y,((0,x,y):ni)∈(0,h,1)::(vb ops bI (aE ops) nt pre.length++nu ops bI (aE ops) nt (pre.length+1) rest)->¬SS ops bI pre x/\x∉fY ops bI (aE ops) pre.length:=by
   intro x y hx;rcases aI.1 hx with e|hx
   ·cases e;exact⟨Ls hh de,fun hm=>hhl (cz.1 hm).1⟩
   ·rcases List.mem_append.1 hx with hx|hx
    ·unfold vb at hx;obtain⟨z,_,e⟩:=List.mem_map.1 hx;cases e
    ·rw[<-dm]at hx;rcases BH U6 x y hx with hm|⟨h1,h2⟩
     ·exact⟨Ls hh (by simp[hm]),fun OS=>kV (by rw[U6];exact List.mem_append_right _ hm) (cz.1 OS).1⟩
     ·refine⟨?_,fun hm=>by have :=(cz.1 hm).2;omega⟩;rintro(⟨_,h3⟩|h3)
      ·omega
      ·exact kV (by rw[hh];exact List.mem_append_left _ h3) h1
  obtain⟨F1,Lh,m1,KU,MD,hg,ME,yD,tmL,vL,q1,q2,q3⟩:=wi (P:=P) (call:=call) R (Cq R hh) hTn hT hf hw hex;have OK:Wf m1:=hg.fr.2.2 hw;obtain⟨F2,hF2,ht2⟩:=lq KU;obtain⟨Rx,m2,df2,lK,MC,hpd⟩:=py ht2 MD
  replace hpd:=hpd eS
  obtain⟨F3,hF3,hf3,adA⟩:=Dk hF2 MC;obtain⟨vv,ac2,s8⟩:=LS lK;obtain⟨o,ho,nO,jV,MF⟩:=lK;have ed:dk ops h=o.dst:=by unfold dk;rw[ho];rfl
  generalize ahl:(fun i=>if cO bI (aE ops) i=pre.length then tmL i else sS i)=Io;generalize akK:(fun i=>if cO bI (aE ops) i=pre.length then vL i else vI i)=ZZ;have eT:∀i,Io i=if cO bI (aE ops) i=pre.length then tmL i else sS i:=fun i=>by rw[<-ahl]
  have eV:∀i,ZZ i=if cO bI (aE ops) i=pre.length then vL i else vI i:=fun i=>by rw[<-akK]
  have OO:∀i,(∃o,ops[i]?=some o/\fh o=true)->cO bI (aE ops) i<=pre.length->pre.length<=rh bI (aE ops) i->EP P ops bI nt r lN i (Io i) (ZZ i) m1 Lh:=by
   intro i h1 h2 h3;rw[eT,eV]
   by_cases he:cO bI (aE ops) i=pre.length
   ·simp only[he,if_true];exact q1 i (cz.2 ⟨h1,he⟩)
   ·simp only[he,if_false];exact(hp.pend i h1 aj h3).grow hw hg (yD i fun hm=>he (cz.1 hm).2)
  have vJ:∀i,(∃o,ops[i]?=some o/\fh o=true)->cO bI (aE ops) i<=pre.length->∀β,tx P ops i (Io i) (ZZ i) β->pW<=β/\β<m1.next:=by
   intro i h1 h2 β jj;rw[eT,eV]at jj
   by_cases he:cO bI (aE ops) i=pre.length
   ·simp only[he,if_true]at jj;have :=q2 i (cz.2 ⟨h1,he⟩) β jj;omega
   ·simp only[he,if_false]at jj;have :=hp.made i h1 aj β jj;have :=hg.next;omega
  have Hl:∀i j,(∃o,ops[i]?=some o/\fh o=true)->(∃o,ops[j]?=some o/\fh o=true)->cO bI (aE ops) i<=pre.length->cO bI (aE ops) j<=pre.length->i≠j->∀β,tx P ops i (Io i) (ZZ i) β->¬tx P ops j (Io j) (ZZ j) β:=by
   intro i j h1 h2 h3 h4 s7 β jj mK;rw[eT,eV]at jj mK
   by_cases he:cO bI (aE ops) i=pre.length<;>by_cases JK:cO bI (aE ops) j=pre.length
   ·simp only[he,if_true]at jj;simp only[JK,if_true]at mK;exact q3 i (cz.2 ⟨h1,he⟩) j (cz.2 ⟨h2,JK⟩) s7 β jj mK
   ·simp only[he,if_true]at jj;simp only[JK,if_false]at mK;have :=q2 i (cz.2 ⟨h1,he⟩) β jj;have :=hp.made j h2 aj β mK;omega
   ·simp only[he,if_false]at jj;simp only[JK,if_true]at mK;have :=q2 j (cz.2 ⟨h2,JK⟩) β mK;have :=hp.made i h1 aj β jj;omega
   ·simp only[he,if_false]at jj;simp only[JK,if_false]at mK;exact hp.apart i j h1 h2 aj aj s7 β jj mK
  have hSh:¬(SS ops bI pre h\/h∈fY ops bI (aE ops) pre.length):=by
   rintro(h1|h1)
   ·exact Ls hh de h1
   ·exact hhl (cz.1 h1).1
  have U4:(aE ops)[pre.length]?=some h:=Ql hh;have ahO:h<ops.size:=dz ho;have MI:∀j,B bI h j->SS ops bI pre j\/j∈fY ops bI (aE ops) pre.length:=by
   intro j hb;have hjh:=R.ord.lt ahO hb;have s6:ops[j]?=some ops[j]:=Array.getElem?_eq_getElem aj;cases OT:fh ops[j]with
   |true=>
    have h1:=(R.xm U4).1 hb;have h2:=R.FL (i:=j) aj
    by_cases he:cO bI (aE ops) j=pre.length
    ·exact .inr (cz.2 ⟨⟨_,s6,OT⟩,he⟩)
    ·exact .inl (.inl ⟨⟨_,s6,OT⟩,aj⟩)
   |false=>
    obtain⟨q,hq⟩:=List.mem_iff_getElem?.1 (fM.2 ⟨_,s6,OT⟩);rcases Nat.lt_or_ge q pre.length with h1|h1
    ·rw[hh,List.getElem?_append_left h1]at hq;exact .inl (.inr (List.mem_of_getElem? hq))
    ·exfalso
     rcases Nat.eq_or_lt_of_le h1 with h2|h2
     ·rw[<-h2,U4]at hq;cases hq;omega
     ·have my:=R.chain pre.length q h j h2 U4 hq;have :=R.ord.lt aj my;omega
  have adD:∀j,(SS ops bI pre j\/j∈fY ops bI (aE ops) pre.length)->¬B bI j h:=by
   intro j hj hb;have OT:(∃o,ops[j]?=some o/\fh o=true)->cO bI (aE ops) j<=pre.length->False:=fun⟨o',qe,_⟩ hle=>by
    have :=(R.pR (dz qe) U4).1 hb;omega
   rcases hj with(⟨h1,h2⟩|h1)|h1
   ·exact OT h1 aj
   ·obtain⟨q,hq,rfl⟩:=List.mem_iff_getElem.1 h1;have xS:(aE ops)[q]?=some pre[q]:=by rw[hh,List.getElem?_append_left hq];exact List.getElem?_eq_getElem hq
    have my:=R.chain q pre.length _ _ hq xS U4;have hpm:pre[q]∈aE ops:=by rw[hh];exact List.mem_append_left _ h1
    obtain⟨o',qe,_⟩:=fM.1 hpm;have :=R.ord.lt (dz qe) hb;have :=R.ord.lt ahO my;omega
   ·obtain⟨h2,h3⟩:=cz.1 h1;exact OT h2 aj
  have ac6:Seen ops bI nt r lN h Lh:=NQ R ME MI adD;have ade:∀x y,((0,x,y):ni)∈vb ops bI (aE ops) nt pre.length++nu ops bI (aE ops) nt (pre.length+1) rest->x≠h:=by
   intro x y hx e;subst e;rcases List.mem_append.1 hx with hx|hx
   ·unfold vb at hx;obtain⟨z,_,e⟩:=List.mem_map.1 hx;cases e
   ·rw[<-dm]at hx;rcases BH U6 x y hx with hm|⟨h1,_⟩
    ·exact GM U6 hm de
    ·exact hhl h1
  have gy:∀d,dk ops h=some d->d<nt->cY d Rx=cY d r.tm:=fun d hd cC=>(vX R.nt hF2 MC d cC fun x y hx he=>R.uniq x h d (ade x y hx) he hd).symm
  have OL:∀d,dk ops h=some d->d<nt->vv=cY d r.tm:=fun d hd cC=>by
   rw[<-gy d hd cC,ac2,jw s8 (aW cC R.nt),bC hd]
  have Y6:Ex ops nt r lN (SS ops bI (pre++[h])) Rx:=by
   rw[ac2];refine(ME.step R hSh s8 OL).iff fun x=>?_
   unfold SS;rw[dm,cz,List.mem_append,List.mem_singleton]
   constructor
   ·rintro(((⟨a1,a2⟩|a1)|⟨a1,a2⟩)|a1)
    ·exact .inl ⟨a1,aj⟩
    ·exact .inr (.inl a1)
    ·exact .inl ⟨a1,aj⟩
    ·exact .inr (.inr a1)
   ·rintro(⟨a1,a2⟩|(a1|a1))
    ·by_cases he:cO bI (aE ops) x=pre.length
     ·exact .inl (.inr ⟨a1,he⟩)
     ·exact .inl (.inl (.inl ⟨a1,aj⟩))
    ·exact .inl (.inl (.inr a1))
    ·exact .inr a1
  obtain⟨ah7,ch,ahV⟩:F m1 m2/\∃ch,∀{E:Perm}{bq:au}{σ:nF}{ρ:dh}{w:au}{b:Frame}{a:Act}{k:List Item}{cs:List Frame}{l:List Nat}{n:Nat},b.kind≠ .early->a.tmps.size=nt->cU P E bq σ ρ m1 w->
    (∀t∈kF ops o,t<nt->aQ ρ (cY t Lh) (a.tmps.getD t undef))->bB (yB ρ) df a.defers->
    (∀gu bu v' w' ds,ρ.le bu->(∀b,b<m1.next->bu b=ρ b)->cU P E bq gu bu m2 w'->(∃v,aQ bu v v'/\∀d,o.dst=some d->d<nt->v=cY d r.tm)->bB (yB bu) df2 ds->J gu n ((az bu m2).or E) (G (b.at (Act.put ⟨a.tmps,ds⟩ o.dst v') (.inRegion ops l::k)) cs) w')->
    J σ (n+ch) ((az ρ m1).or E) (G (b.at a (.inRegion ops (h::l)::k)) cs) w:=by
   rcases MF with⟨Ai,v,hd,htv⟩|⟨Ai,htv,rfl,rfl⟩
   ·obtain⟨g1,c,g2⟩:=FX (P:=P) (ops:=ops) hJ hX hF C ho OK hd;have RH:∀d,o.dst=some d->d<nt->v=cY d r.tm:=fun d w6 cC=>by
     have h1:=gy d (by rw[ed];exact w6) cC;rw[<-h1,htv,jw (fun x hx=>s8 x (by rw[ed];exact hx)) (aW cC R.nt),bC w6]
    refine⟨g1,c,fun{E bq σ ρ w b a k cs l n} hk iW H YO vt hn=>?_⟩;have Y4:∀j want,o.guard=some (j,want)->∃g,dk ops j=some g/\g<nt:=fun j want hj=>let⟨g,k1,k2,_⟩:=jV j want hj;⟨g,k1,k2⟩
    exact g2 hk ((tH YO Y4 iW).trans Ai) H (Tv H YO nO.1) vt fun gu bu v' w' ds hle hold H' hv adz=>hn gu bu v' w' ds hle (fun b hb=>hold b hb (by rw[hpd];intro s hs;cases hs)) H' ⟨v,hv,RH⟩ adz
   ·refine⟨hF.refl _,1,fun{E bq σ ρ w b a k cs l n} hk iW H YO vt hn=>?_⟩;have Y4:∀j want,o.guard=some (j,want)->∃g,dk ops j=some g/\g<nt:=fun j want hj=>let⟨g,k1,k2,_⟩:=jV j want hj;⟨g,k1,k2⟩
    have RH:∀d,o.dst=some d->d<nt->undef=cY d r.tm:=fun d w6 cC=>by
     have h1:=gy d (by rw[ed];exact w6) cC;rw[<-h1,htv,jw (fun x hx=>s8 x (by rw[ed];exact hx)) (aW cC R.nt),bC w6]
    refine qN (hJ σ) ho ((tH YO Y4 iW).trans Ai) fun aO jU=>?_
    exact hn σ ρ undef aO a.defers (dh.le_refl _) (fun _ _=>rfl) (H.keeps jU) ⟨undef,mD,RH⟩ vt
  have hMv:=hF.mv ah7;have Mp:Wf m2:=hMv.wf OK;have hN2:pW<=m2.next:=cp hN (cp hg.next hMv.next);have Mt:∀i,nt+i<512->cY (nt+i) Rx=cY (nt+i) Lh:=fun i hi=>by
   rw[ac2,jw s8 hi,bS];intro he;have h1:nt+i<nt:=R.ord.dst h o _ ho (by rw[<-ed];exact he);omega
  obtain⟨hFr,cr,ahQ⟩:=ih (pre:=pre++[h]) (tm:=Rx) (m:=m2) (df:=df2) (F0:=F3) (sS:=Io) (vI:=ZZ) U6 (by rw[dm];exact hF3) hf3 Mp Y6 hN2 ⟨fun i h1 h2 h3=>by
    rw[dm]at h2 h3;refine(OO i h1 aj aj).aeu R hMv (Mt i) Y6 (.inl ⟨h1,by rw[dm];omega⟩) (Xc R U6 h1 (by rw[dm];omega)) (fun hc=>?_) aj;refine adA i ?_;rw[List.mem_filter,List.mem_range];obtain⟨o',qe,AR⟩:=h1;refine⟨dz qe,?_⟩;simp only[qe,Option.any_some,AR,hc,Bool.true_and,ag,jQ];omega,fun i h1 h2 β jj=>by
     rw[dm]at h2;have :=vJ i h1 aj β jj;have :=hMv.next;omega,fun i j h1 h2 h3 h4=>by rw[dm]at h3 h4;exact Hl i j h1 h2 aj aj⟩
  refine⟨hF.trans (hF.fr hg.fr.w) (hF.trans ah7 hFr),cr+ch,?_⟩;have Mr:vg P J ops bI nt r lN pW pre (h::rest) Io ZZ (pre.length+1) m1 df (cr+ch):=xf (P:=P) (J:=J) (c:=cr+ch) (df:=df) (r:=r) (lN:=lN) (tm:=Lh) hJ hX R hh (pW:=pW) (sS:=Io) (vI:=ZZ) (cp hN hg.next) (.inr trivial) OO vJ Hl (fun e=>by cases e)
   (fun h' Ff e {E bq σ ρ w b a k cs l D n} hk hl wx hZ H FD vt AP pP=>by
    cases e;obtain⟨d1,d2,d3,d4⟩:=hl.head;have Ak:∀j,D j->¬B bI j h:=fun j hj hb=>d2 (hl.down j hj h hb)
    have YO:=ID R ac6 FD d1 Ak ho;refine(hJ σ).le (show(n+cr+l.length)+ch<=n+(cr+ch)+(l.length+1) by omega) ?_;refine ahV hk FD.size H YO vt fun gu bu v' w' ds hle hold H' ⟨v,hv,hvd⟩ adz=>?_
    refine ahQ (D:=fun x=>D x\/x=h) hk d4 (fun x hx=>?_) (fun x hx hd=>?_) H' ((FD.iJ hle).step R ho hv hvd ds) (by rw[(xz ⟨a.tmps,ds⟩ o.dst v').1];exact adz) (fun i h1 h2 h3 β jj=>?_) (fun tF eX iH Nm og kU=>pP tF eX iH Nm (dh.le_trans hle og) fun b hb=>?_)
    ·rcases List.mem_append.1 hx with hx|hx
     ·exact .inl (wx x hx)
     ·exact .inr (by simpa using hx)
    ·rcases hd with hd|rfl
     ·exact hZ x (by simp[hx]) hd
     ·exact GM U6 hx de
    ·rw[dm]at h2;rw[hold β (vJ i h1 aj β jj).2];exact AP i h1 aj (fun hd=>h3 (.inl hd)) β jj
    ·rw[kU b hb,hold b (by have :=hg.next;omega)])
  intro E bq σ ρ w b a k cs l D n hk hl wx hZ H FD vt AP pP;obtain⟨H',qC⟩:=H.grow hg;rw[<-qC];refine Mr hk hl wx hZ H' FD vt (fun i h1 h2 h3 β jj=>?_) pP;rw[eT,eV]at jj
  by_cases he:cO bI (aE ops) i=pre.length
  ·simp only[he,if_true]at jj;have :=q2 i (cz.2 ⟨h1,he⟩) β jj;cases hρ:ρ β with
   |none=>rfl
   |some p=>have :=H.jY.mz β p hρ;omega
  ·simp only[he,if_false]at jj;exact AP i h1 aj h3 β jj
end
end Go.AM
