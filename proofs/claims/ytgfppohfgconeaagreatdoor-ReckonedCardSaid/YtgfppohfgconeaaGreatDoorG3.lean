/-
  What the claim stands on, part 3.
-/
import Derived.Test.YtgfppohfgconeaaGreatDoorG2
import Derived.Orders
set_option linter.unusedVariables false
set_option linter.unusedSimpArgs false
open Go renaming Value → af, Goroutine → au, World → aA, Program → aE, TypeId → aW, Operand → cq, IntKind → cQ, Oper → hZ
open Option.some renaming injEq → ah
open Nat renaming le_refl → ai, eq_of_beq_eq_true → aT, lt_of_lt_of_le → bq, le_trans → cM
open Bool renaming and_eq_true → aj, false_eq_true → bu
open Option renaming map_eq_some_iff → ar, bind_eq_some_iff → ay, bind_some → cz, map_some → cR, isSome_iff_exists → qF
open Prod.mk renaming injEq → aC
open List renaming all_eq_true → aV, mem_cons → bC
namespace Go.AM
open Go Go.Conc
def jU (P:aE)(f:Nat)(e:Array af->Sem af):Prop:=
 ∃fn,P.funcs[f]?=some fn/\fn.body.isNone=true/\(fn.name== "runtime.NumGoroutine")=false/\Extern.findNext fn=none/\Extern.find fn=some e
structure pL (P:aE)(X:Ext):Prop where
 names:∀(f:Nat) (fn:Func),P.funcs[f]?=some fn->fn.body.isSome=true->(fn.name== "runtime.NumGoroutine")=false
 mixed:P.follows .mixedOrders=true
 disable:jU P X.disable fun _=>do mark .disable;pure Extern.Race.none_
 enable:jU P X.enable fun _=>do mark .enable;pure Extern.Race.none_
 acquire:jU P X.acquire (Extern.Race.marked .acquire)
 sU:jU P X.sU (Extern.Race.marked .releaseMerge)
 D5:jU P X.D5 (Extern.Atomic.casT (.int .i32))
 Iv:jU P X.Iv (Extern.Atomic.update (Op.intArith .add) .i32 true)
section
variable {P:aE}{X:Ext}{ρ:dL}{m m':Mem}{w:aA}{N:Nat}{v:af}
theorem qR {R:Perm}{f:Nat}{e:Array af->Sem af}(h:jU P f e){args:Array af}{Q:Next->aA->Prop}(hq:er P R N (e args) (fun v w=>Q (.value v) w) w):er P R N (callFunc f args) Q w:=by
 obtain⟨fn,hf,hb,HN,hn,he⟩:=h;unfold callFunc;rw[az]
 show er P R N _ Q w
 rw[hf];simp only[];rw[bT (by rw[HN];simp),bL hb,az];refine⟨trivial,?_⟩;simp only[hn,he]
 show er P R N (e args>>=fun v=>pure (Next.value v)) Q w
 rw[az];exact hq
theorem wx {R:Perm}{f:Nat}{fn:Func}(hf:P.funcs[f]?=some fn)(hb:fn.body.isSome=true)(HN:(fn.name== "runtime.NumGoroutine")=false){args:Array af}{Q:Next->aA->Prop}(hq:Q (.enter f args) w):er P R N (callFunc f args) Q w:=by
 unfold callFunc;rw[az]
 show er P R N _ Q w
 rw[hf];simp only[];rw[bT (by rw[HN];simp),bT (by cases hx:fn.body<;>simp_all)];exact hq
theorem fO.deaf(h:fO ρ m w)(d:Nat):fO ρ {m with deaf:=d} w:=⟨h.nj,h.cells,h.lT,h.thaw,h.maps,h.lN,h.sep,h.rr,h.vars⟩
theorem Y6 {l:List af}{x:af}{l':List af}(h:l=[x])(hr:bM (bg ρ) l l'):∃x',l'=[x']/\bg ρ x x':=by
 subst h
 match l',hr with
 | [x'],hr=>exact⟨x',rfl,hr.1⟩
theorem Ay (hs:fO ρ m w){b o:Nat}{p:Pl}(dF:ρ b=some p){x x':af}{m₂:Mem}(h:m.dS b o [x]=some m₂)(hx:bg ρ x x'){md:Mode}{Q:Unit->aA->Prop}(hq:∀w',Left ρ m w ρ m₂ w'->Q () w'):
  er P (aB ρ m) N (Go.store ⟨p.c,p.d+o,none⟩ x' md) Q w:=by
 have hso:=oT (P:=P) (N:=N) hs dF h (qJ:=[x']) ⟨hx,trivial⟩ (Q:=Q) fun w' hL _=>hq w' hL
 simp only[storeCells]at hso;rw[az,jw,Nat.add_zero]at hso;exact hso
theorem GN (hs:fO ρ m w){b o:Nat}{p:Pl}(dF:ρ b=some p){u:Int}(hl:m.dQ b o 1=some [.int .i32 u]){Q:af->aA->Prop}(hQ:Q (.int .i32 u) w):er P (aB ρ m) N (Extern.Atomic.read (.int .i32) ⟨p.c,p.d+o,none⟩) Q w:=by
 obtain⟨z,z',g1,g2,g3,g4⟩:=hs.zd dF hl (show 0<1 by omega);simp only[List.getElem?_cons_zero,ah]at g1;subst g1;obtain rfl:=(aL (by rfl)).1 g2;unfold Extern.Atomic.read;rw[az];exact AZ g3 g4 hQ
theorem kX {b o:Nat}{x:af}(hl:m.dQ b o 1=some [x]):m.cell b o=some x:=by
 obtain⟨_,_,g⟩:=Mem.oZ hl;obtain⟨z,g1,g2⟩:=g 0 av;simp only[List.getElem?_cons_zero,ah]at g1;subst g1;exact g2
theorem KO (hs:fO ρ m w){b o:Nat}{p:Pl}(dF:ρ b=some p){x:af}(hl:m.dQ b o 1=some [x]){Q:Bool->aA->Prop}(hQ:Q (w.frozen? ⟨p.c,p.d+o,none⟩) w):
  er P (aB ρ m) N (Extern.Atomic.touchesFrozen ⟨p.c,p.d+o,none⟩) Q w:=by
 obtain⟨_,_,e,n,fQ,_⟩:=hs.cells b p dF (Mem.eN (kX hl)).1;unfold Extern.Atomic.touchesFrozen viewAt;rw[az,az];refine Dg fQ ?_;exact hQ
theorem MF (hs:fO ρ m w)(hX:pL P X){f:Nat}{args:List af}{bX:Array af}(hr:bM (bg ρ) args bX.toList)(h:tp X f args m=some (v,m'))(h1:f≠X.disable)(h2:f≠X.enable):
  jD m m'/\∃e,jU P f e/\∀{Q:af->aA->Prop},(∀w',Left ρ m w ρ m' w'->bg ρ v v->Q v w')->er P (aB ρ m) N (e bX) Q w:=by
 unfold tp at h;rw[bT h1,bT h2]at h
 split at h
 ·rename_i hf;subst hf
  split at h
  ·rename_i b o;simp only[ah,aC]at h;obtain⟨rfl,rfl⟩:=h;refine⟨jD.refl _,_,hX.acquire,fun hq=>?_⟩;obtain⟨x',hx,hxr⟩:=Y6 rfl hr;obtain⟨p,hp,_,rfl⟩:=cW.1 hxr;have :bX=#[.pointer (some ⟨p.c,p.d+o,none⟩)]:=by apply Array.ext';simpa using hx
   subst this;exact⟨trivial,hq _ (Left.refl hs) j9⟩
  ·cases h
 ·split at h
  ·rename_i hf;subst hf
   split at h
   ·rename_i b o;simp only[ah,aC]at h;obtain⟨rfl,rfl⟩:=h;refine⟨jD.refl _,_,hX.sU,fun hq=>?_⟩;obtain⟨x',hx,hxr⟩:=Y6 rfl hr;obtain⟨p,hp,_,rfl⟩:=cW.1 hxr;have :bX=#[.pointer (some ⟨p.c,p.d+o,none⟩)]:=by apply Array.ext';simpa using hx
    subst this;exact⟨trivial,hq _ (Left.refl hs) j9⟩
   ·cases h
  ·split at h
   ·rename_i hf;subst hf
    split at h
    ·rename_i b o x y
     match bX,hr with
     |⟨[p',x',y']⟩,hr=>
      obtain⟨hp,hx,hy,_⟩:=hr;obtain⟨p,dF,_,rfl⟩:=cW.1 hp;obtain rfl:=(aL (by rfl)).1 hx;obtain rfl:=(aL (by rfl)).1 hy
      split at h
      ·rename_i u hl;have Cn:w.frozen? ⟨p.c,p.d+o,none⟩=false->∀{Q:af->aA->Prop},er P (aB ρ m) N (if(u==x)=true then(do Go.store ⟨p.c,p.d+o,none⟩ (.int .i32 y) .atomic;pure (af.bool (u==x)))else pure (af.bool (u==x))) Q w->
         er P (aB ρ m) N (Extern.Atomic.casT (.int .i32) #[.pointer (some ⟨p.c,p.d+o,none⟩),.int .i32 x,.int .i32 y]) Q w:=by
        intro hz Q hQ;refine(az (asAddr (.pointer (some ⟨p.c,p.d+o,none⟩))) _ _ _).2 ?_;refine(az (Extern.Atomic.touchesFrozen ⟨p.c,p.d+o,none⟩) _ _ _).2 ?_;refine KO hs dF hl ?_;rw[hz];refine(az (Extern.Atomic.read (.int .i32) ⟨p.c,p.d+o,none⟩) _ _ _).2 ?_;refine GN hs dF hl ?_
        show er P (aB ρ m) N (if(u==x)=true then(do Go.store ⟨p.c,p.d+o,none⟩ (.int .i32 y) .atomic;pure (af.bool (u==x)))else pure (af.bool (u==x))) Q w
        by_cases hux:(u==x)=true
        ·rw[bL hux]at hQ⊢;exact hQ
        ·rw[bT hux]at hQ⊢;exact hQ
       split at h
       ·rename_i hux;obtain⟨m2,xC,he⟩:=ar.1 h;simp only[aC]at he;obtain⟨rfl,rfl⟩:=he;refine⟨jD.dS xC,_,hX.D5,fun hq=>?_⟩;have hz:w.frozen? ⟨p.c,p.d+o,none⟩=false:=by
         obtain⟨cs,_,_,HO,_⟩:=Mem.pQ xC;exact hs.thaw b p o dF (jc hs dF (kX hl)) (Mem.eN (kX hl)).1 (Mem.kS HO)
        refine Cn hz ?_;have WE:(u==x)=true:=by simpa using hux
        rw[bL WE,WE,az];exact Ay hs dF xC (cB rfl) fun w' hL=>hq w' hL (cB rfl)
       ·rename_i hux
        split at h
        ·rename_i sF;simp only[ah,aC]at h;obtain⟨rfl,rfl⟩:=h;refine⟨jD.refl _,_,hX.D5,fun hq=>?_⟩;have hz:w.frozen? ⟨p.c,p.d+o,none⟩=false:=hs.thaw b p o dF (jc hs dF (kX hl)) (Mem.eN (kX hl)).1 sF;refine Cn hz ?_;have WE:(u==x)=false:=by simpa using hux
         rw[WE];simp only[bu,if_false];exact hq _ (Left.refl hs) (cB rfl)
        ·cases h
      ·cases h
    ·cases h
   ·split at h
    ·rename_i hf;subst hf
     split at h
     ·rename_i b o y
      match bX,hr with
      |⟨[p',y']⟩,hr=>
       obtain⟨hp,hy,_⟩:=hr;obtain⟨p,dF,_,rfl⟩:=cW.1 hp;obtain rfl:=(aL (by rfl)).1 hy
       split at h
       ·rename_i u hl;obtain⟨m2,xC,he⟩:=ar.1 h;simp only[aC]at he;obtain⟨rfl,rfl⟩:=he;refine⟨jD.dS xC,_,hX.Iv,fun hq=>?_⟩;refine(az (asAddr (.pointer (some ⟨p.c,p.d+o,none⟩))) _ _ _).2 ?_;refine(az (Extern.Atomic.read (.int .i32) ⟨p.c,p.d+o,none⟩) _ _ _).2 ?_;refine GN hs dF hl ?_
        show er P (aB ρ m) N (do Go.store ⟨p.c,p.d+o,none⟩ (.int .i32 (cQ.i32.wrap (u+y))) .atomic;pure (af.int .i32 (cQ.i32.wrap (u+y)))) _ w
        rw[az];exact Ay hs dF xC (cB rfl) fun w' hL=>hq w' hL (cB rfl)
       ·cases h
     ·cases h
    ·cases h
end
end Go.AM
namespace Go.AM
open Go Go.Conc
structure Mv (m m':Mem):Prop where
 next:m.next<=m'.next
 tick:m.tick<=m'.tick
 wf:Wf m->Wf m'
 blk:∀b,m'.blk b=m.blk b\/m.tick<=(m'.blk b).bw
 pend:∀s∈m'.pend,s∈m.pend\/m.next<=s.lo
def rl (m:Mem)(ρ bH:dL):Prop:=∀b,b<m.next->(∀s∈m.pend,¬(s.lo<=b/\b<s.hi))->bH b=ρ b
theorem rl.of{m:Mem}{ρ bH:dL}(h:∀b,b<m.next->bH b=ρ b):rl m ρ bH:=fun b hb _=>h b hb
theorem rl.trans{m m₁:Mem}{ρ Am fj:dL}(hm:Mv m m₁)(h:rl m ρ Am)(k:rl m₁ Am fj):rl m ρ fj:=fun b hb hf=>(k b (bq hb hm.next) fun s hs=>(hm.pend s hs).elim (hf s) fun h=>by omega).trans (h b hb hf)
theorem Mv.refl(m:Mem):Mv m m:=⟨ai _,ai _,id,fun _=> .inl rfl,fun _=> .inl⟩
theorem Mv.trans{m m₁ m₂:Mem}(h:Mv m m₁)(k:Mv m₁ m₂):Mv m m₂:=
 ⟨cM h.next k.next,cM h.tick k.tick,k.wf∘h.wf,fun b=>by
  rcases k.blk b with e|e
  ·rw[e];exact h.blk b
  ·exact .inr (cM h.tick e),fun s hs=>(k.pend s hs).elim (h.pend s) fun x=> .inr (cM h.next x)⟩
def vH (m m':Mem):Prop:=Fr m m'/\(Wf m->Wf m')
theorem jD.w{m m':Mem}(h:jD m m'):vH m m':=⟨h.1,h.2.2⟩
theorem vH.refl(m:Mem):vH m m:=⟨Fr.refl m,id⟩
theorem vH.trans{m m₁ m₂:Mem}(h:vH m m₁)(k:vH m₁ m₂):vH m m₂:=⟨h.1.trans k.1,k.2∘h.2⟩
theorem vH.mv{m m':Mem}(h:vH m m'):Mv m m':=⟨h.1.next,h.1.tick,h.2,fun b=>(h.1.blk b).imp id (·.1),fun s hs=> .inl (by rw[<-h.1.pend];exact hs)⟩
theorem vH.deaf(m:Mem)(d:Nat):vH m {m with deaf:=d}:=⟨⟨rfl,ai _,ai _,fun _=> .inl rfl⟩,fun h=>⟨h.bw,h.DL,h.bO,h.fl,h.live⟩⟩
structure vJ (F:Mem->Mem->Prop):Prop where
 refl:∀m,F m m
 trans:∀{m m₁ m₂},F m m₁->F m₁ m₂->F m m₂
 fr:∀{m m'},vH m m'->F m m'
 mv:∀{m m'},F m m'->Mv m m'
theorem Te:vJ vH:=⟨vH.refl,vH.trans,id,vH.mv⟩
theorem MD:vJ Mv:=⟨Mv.refl,Mv.trans,vH.mv,id⟩
def xB (ρ:dL)(d:Nat×List af)(d':Deferred):Prop:=∃cap,d'.target= .fn (.func d.1) cap/\bM (bg ρ) d.2 (d'.args++cap).toList
theorem xB.pC{ρ bH:dL}(h:ρ.le bH){d:Nat×List af}{d':Deferred}(hd:xB ρ d d'):xB bH d d':=
 let⟨cap,h1,h2⟩:=hd;⟨cap,h1,h2.mono fun _ _ x=>x.pC h⟩
abbrev JT:=nq->Nat->Perm->au->aA->Prop
def iG (P:aE)(X:Ext)(main:Bool)(J:JT)(F:Mem->Mem->Prop)(call:cL):Prop:=
 ∀f args m v m',Wf m->call f args m=some (v,m')->F m m'/\(fN P f=false->tp X f args m=some (v,m'))/\
  (fN P f=true->∃c,∀{E:Perm}{bI:aA}{σ:nq}{ρ:dL}{w:aA} (bX:Array af) (fr:Frame) (cs:List Frame) (n:Nat) (kind:CallKind),
   dd P E bI σ ρ m w->bM (bg ρ) args bX.toList->(kind= .normal\/(kind= .deferred/\fr.mode= .returning/\f≠X.Aq/\f≠X.oQ))->
   (∀gJ bH v' w',ρ.le bH->rl m ρ bH->dd P E bI gJ bH m' w'->bg bH v v'->J gJ n ((aB bH m').or E) (G (if kind= .normal then fr.finish v' else fr) cs) w')->
   J σ (n+c) ((aB ρ m).or E) (G (Frame.enter P f bX kind) (fr::cs)) w)
section
variable {P:aE}{X:Ext}{main:Bool}{J:JT}{F:Mem->Mem->Prop}{call:cL}{E:Perm}{bI:aA}{σ:nq}{ρ:dL}{m m':Mem}{w:aA}
variable {b:Frame}{a:Act}{k:List Item}{cs:List Frame}{ops:Array hZ}{i:Nat}{rest:List Nat}{o:hZ}
theorem yr (ho:ops[i]?=some o)(v:af):(b.at a (.inRegion ops (i::rest)::k)).finish v=b.at (a.put o.dst v) (.inRegion ops rest::k):=by rw[Frame.finish_at,ho];rfl
theorem qM (hJ:∀σ,gp P main (J σ))(H:dd P E bI σ ρ m w){g:au}(hg:g.status= .running){n:Nat}
  (h:∀aR,dd P E bI σ ρ m aR->∃g' bH m' w' es,stepG P main g aR= .go g' w' es/\Left ρ m aR bH m' w'/\sG (aB ρ m) aR.heap.size aR w'/\(∀e∈es,EvW (aB ρ m) e)/\m'.deaf=deafBehind m.deaf es/\
   J σ n ((aB bH m').or E) g' w'):J σ (n+1) ((aB ρ m).or E) g w:=by
 refine(hJ σ).step hg fun aR hk=>?_
 obtain⟨g',bH,m',w',es,h1,h2,h3,h4,h5,h6⟩:=h aR (H.keeps hk);have ha:=(H.keeps hk).apart.within h2.within h3.size h3.shape;exact⟨g',w',es,_,⟨h1,h3.or,fun e he=>(h4 e he).imp nL.or id,h2.within.or,h5,fun _=>xY h2.ku ha⟩,h6⟩
theorem yB {R:Perm}{N:Nat}{ev:cq->af}(hX:pL P X){f:Nat}{args:List af}(hc:Cl P o ev f args)(eh:∀x∈o.op.operands,bg ρ (ev x) (a.eval x))
  {Q:Next->aA->Prop}(hq:∀bX,bM (bg ρ) args bX.toList->er P R N (callFunc f bX) Q w):er P R N (execOp a.eval o) Q w:=by
 rcases hc with⟨x,lO,lG,first,cap,ho,hx,rfl⟩|⟨r,name,lO,lG,recv,ho,hm,rfl⟩
 ·unfold execOp;rw[ho];simp only[];have hxm:x∈o.op.operands:=by rw[ho];simp[Op.operands,Call.operands]
  have hr:=eh x hxm;rw[hx]at hr;obtain⟨f',c',e,h1,h2⟩:=gZ.1 hr;rw[az];have pF:resolve a.eval {callee:= .value x,args:=lO,argTypes:=lG} o.type=pure {target:= .fn (.func f) c',args:=f'++lO.map a.eval}:=by
   unfold resolve;simp only[e,Deferred.ofValue]
  rw[pF]
  show er P R N (callFunc f (f'++lO.map a.eval++c')) Q w
  refine hq _ ?_;simp only[Array.toList_append,Array.toList_map];refine(h1.append (bM.oY fun y hy=>eh y ?_)).append h2;rw[ho];simp only[Op.operands,Call.operands,Array.mem_append];exact .inr (by simpa using hy)
 ·unfold execOp;rw[ho];simp only[];have hrm:r∈o.op.operands:=by rw[ho];simp[Op.operands,Call.operands]
  obtain⟨t,u,u',it,mt,e,h1,h2,rfl,h4,h5,h6,h7,h8,h9⟩:=y6 (eh r hrm) hm;rw[az];have pF:resolve a.eval {callee:= .invoke r name,args:=lO,argTypes:=lG} o.type=pure {target:= .fn (.method name) #[],args:=#[.iface t u']++lO.map a.eval}:=by
   unfold resolve;simp only[h2]
  rw[pF]
  show er P R N (invoke (.fn (.method name) #[]) (#[.iface t u']++lO.map a.eval)) Q w
  unfold invoke;simp only[];have e0:(#[af.iface t u']++lO.map a.eval)[0]?=some (.iface t u'):=by rw[<-Array.getElem?_toList];simp
  rw[e0];simp only[];unfold callMethod;simp only[];rw[az]
  show er P R N (method (P.types.size+Made.depth) t u' name>>=_) Q w
  rw[az];have hdp:0<Made.depth:=dB;obtain⟨d,hd⟩:∃d,P.types.size+Made.depth=d+1:=⟨P.types.size+Made.depth-1,av⟩;rw[hd];unfold method;rw[az];refine ik h5 ?_;rw[h7];simp only[h8,follow,pure_bind,h9];rw[az];unfold receiverAt;rw[az];refine aK h6 ?_;simp only[Place.get]
  show er P R N (callFunc f _) Q w
  refine hq _ ?_;have e1:(#[u']++(#[af.iface t u']++lO.map a.eval).extract 1 (#[af.iface t u']++lO.map a.eval).size).toList=u'::lO.toList.map a.eval:=by
   simp only[Array.toList_append,Array.toList_extract,List.extract_eq_take_drop];simp;exact List.take_of_length_le cK
  rw[e1];refine⟨h4,bM.oY fun y hy=>eh y ?_⟩;rw[ho];simp only[Op.operands,Call.operands,Array.mem_append];exact .inr (by simpa using hy)
theorem D6 (hJ:∀σ,gp P main (J σ))(hX:pL P X)(ho:ops[i]?=some o)(hw:Region.wanted o (yielded ops a.tmps)=true)(hk:b.kind≠ .early)(H:dd P E bI σ ρ m w){ev:cq->af}
  (eh:∀x∈o.op.operands,bg ρ (ev x) (a.eval x)){f:Nat}{args:List af}(hc:Cl P o ev f args)(hb:fN P f=true){n:Nat}
  (hn:∀aR bX,dd P E bI σ ρ m aR->bM (bg ρ) args bX.toList->J σ n ((aB ρ m).or E) (G (Frame.enter P f bX .normal) (b.at a (.inRegion ops (i::rest)::k)::cs)) aR):
  J σ (n+1) ((aB ρ m).or E) (G (b.at a (.inRegion ops (i::rest)::k)) cs) w:=by
 refine qM hJ H rfl fun aR gI=>?_
 obtain⟨fn,hf,uy⟩:∃fn,P.funcs[f]?=some fn/\fn.body.isSome=true:=by
  unfold fN at hb;cases hf:P.funcs[f]? with
  |none=>rw[hf]at hb;simp at hb
  |some fn=>exact⟨fn,rfl,by rw[hf]at hb;simpa using hb⟩
 obtain⟨nx,w',gR,⟨bX,hr,rfl,zO⟩,DD,he⟩:=mF (P:=P) (R:=aB ρ m) (N:=aR.heap.size) (Q:=fun nx w'=>∃bX,bM (bg ρ) args bX.toList/\nx= .enter f bX/\w'=aR) (ai _)
  (yB (w:=aR) hX hc eh fun bX hr=>wx hf uy (hX.names f fn hf uy) ⟨bX,hr,rfl,rfl⟩)
 rw[zO]at gR;obtain⟨evs,ym,jA⟩:=he #[];have oa:∀e∈listed P b.fn a o aR,nL (aB ρ m) e:=fun e hx=>jA e (by have :=mem_listed hx;rw[ym]at this;simpa using this)
 exact⟨_,ρ,m,aR,_,stepG_enter ho hw hk gR,Left.refl gI.ku,sG.refl ..,fun e he=> .inl (oa e he),(kV oa _).symm,hn aR bX gI hr⟩
theorem Ip {f:Nat}(hb:fN P f=true):∃fn,P.funcs[f]?=some fn/\fn.body.isSome=true:=by
 unfold fN at hb;cases hf:P.funcs[f]? with
 |none=>rw[hf]at hb;simp at hb
 |some fn=>exact⟨fn,rfl,by rw[hf]at hb;simpa using hb⟩
theorem Ib {ev:cq->af}{f:Nat}{args:List af}(hc:Cl P o ev f args)(eh:∀x∈o.op.operands,bg ρ (ev x) (a.eval x))(ha:args=[]):
  execOp a.eval o=callFunc f #[]:=by
 rcases hc with⟨x,lO,lG,first,cap,ho,hx,rfl⟩|⟨r,name,lO,lG,recv,ho,hm,rfl⟩
 ·simp only[List.append_eq_nil_iff,Array.toList_eq_nil_iff,List.map_eq_nil_iff]at ha;obtain⟨⟨rfl,rfl⟩,rfl⟩:=ha;have hxm:x∈o.op.operands:=by rw[ho];simp[Op.operands,Call.operands]
  have hr:=eh x hxm;rw[hx]at hr;obtain⟨f',c',e,h1,h2⟩:=gZ.1 hr;have e1:f'=#[]:=by
   have :=h1.length;simpa[eq_comm]using this
  have e2:c'=#[]:=by
   have :=h2.length;simpa[eq_comm]using this
  subst e1 e2;unfold execOp;rw[ho];simp[resolve,Deferred.ofValue,e,invoke]
 ·cases ha
theorem C0 (mk:Mark)(hm:∀g,mk≠ .extern g)(ho:ops[i]?=some o)(hw:Region.wanted o (yielded ops a.tmps)=true)(hk:b.kind≠ .early){f:Nat}(e1:execOp a.eval o=callFunc f #[])
  (hf:jU P f fun _=>do mark mk;pure Extern.Race.none_)(w:aA):
  stepG P main (G (b.at a (.inRegion ops (i::rest)::k)) cs) w= .go (G (b.at (a.put o.dst (.tuple #[])) (.inRegion ops rest::k)) cs) w #[⟨.mark mk,false,true⟩]:=by
 obtain⟨fn,h1,h2,h3,h4,h5⟩:=hf;rw[stepG_value (v:= .tuple #[]) (w':=w) ho hw hk (by rw[e1,run_callFunc_extern h1 h3 h2 h4 h5];simp[Extern.Race.none_])];unfold listed;rw[e1,events_callFunc_extern h1 h3 h2 h4 h5];simp only[List.push_toArray,List.nil_append];rw[show((do mark mk;pure Extern.Race.none_:Sem af)).events P w [⟨.mark (.extern f),false,true⟩].toArray=#[⟨.mark (.extern f),false,true⟩]++#[⟨.mark mk,false,true⟩] by simp];rw[seen_entry _ _ _ (by
  intro x hx;simp at hx;subst hx;exact⟨rfl,fun g h=>hm g (by cases h;rfl)⟩)]
theorem fO.YY(H:dd P E bI σ ρ m w)(d:Nat):dd P E bI σ ρ {m with deaf:=d} w:=
 ⟨H.ku.deaf d,H.rest,⟨H.apart.cell,H.apart.obj,H.apart.wf⟩,H.qy,H.fS.fr (vH.deaf m d).1 (ρ.le_refl) (fun _ _=>rfl),⟨H.wf.bw,H.wf.DL,H.wf.bO,H.wf.fl,H.wf.live⟩,H.K',H.ew⟩
theorem Tj (hJ:∀σ,gp P main (J σ))(hX:pL P X)(ho:ops[i]?=some o)(hw:Region.wanted o (yielded ops a.tmps)=true)(hk:b.kind≠ .early)(H:dd P E bI σ ρ m w){ev:cq->af}
  (eh:∀x∈o.op.operands,bg ρ (ev x) (a.eval x)){f:Nat}{args:List af}(hc:Cl P o ev f args){v:af}(hx:tp X f args m=some (v,m')){n:Nat}
  (hn:∀v' w' bH,ρ.le bH->(∀b,b<m.next->bH b=ρ b)->dd P E bI σ bH m' w'->bg bH v v'->J σ n ((aB bH m').or E) (G (b.at (a.put o.dst v') (.inRegion ops rest::k)) cs) w'):
  J σ (n+1) ((aB ρ m).or E) (G (b.at a (.inRegion ops (i::rest)::k)) cs) w:=by
 by_cases h1:f=X.disable
 ·subst h1;unfold tp at hx;rw[bL rfl]at hx
  split at hx
  ·simp only[ah,aC]at hx;obtain⟨rfl,rfl⟩:=hx;have e1:=Ib hc eh rfl;refine qM hJ H rfl fun aR gI=>⟨_,ρ,_,aR,_,C0 .disable cK ho hw hk e1 hX.disable aR,?_,sG.refl ..,?_,?_,hn _ _ _ ρ.le_refl (fun _ _=>rfl) (fO.YY gI _) j9⟩
   ·exact⟨ρ.le_refl,gI.ku.deaf _,⟨fun _ _ x=> .inl x,fun _ _ x=> .inl x,fun _ x=> .inl x⟩,fun _ _=>rfl⟩
   ·intro e he;simp only[List.mem_toArray,bC,List.not_mem_nil,or_false]at he;subst he;exact .inr (.inl rfl)
   ·rfl
  ·cases hx
 ·by_cases h2:f=X.enable
  ·subst h2;unfold tp at hx;rw[bT h1,bL rfl]at hx
   split at hx
   ·simp only[ah,aC]at hx;obtain⟨rfl,rfl⟩:=hx;have e1:=Ib hc eh rfl;refine qM hJ H rfl fun aR gI=>⟨_,ρ,_,aR,_,C0 .enable cK ho hw hk e1 hX.enable aR,?_,sG.refl ..,?_,?_,hn _ _ _ ρ.le_refl (fun _ _=>rfl) (fO.YY gI _) j9⟩
    ·exact⟨ρ.le_refl,gI.ku.deaf _,⟨fun _ _ x=> .inl x,fun _ _ x=> .inl x,fun _ x=> .inl x⟩,fun _ _=>rfl⟩
    ·intro e he;simp only[List.mem_toArray,bC,List.not_mem_nil,or_false]at he;subst he;exact .inr (.inr rfl)
    ·rfl
   ·cases hx
  ·refine qM hJ H rfl fun aR gI=>?_
   obtain⟨nx,w',gR,⟨Cn,hL,hnx⟩,DD,he⟩:=mF (P:=P) (R:=aB ρ m) (N:=aR.heap.size) (Q:=fun nx w'=>jD m m'/\Left ρ m aR ρ m' w'/\nx= .value v) (ai _)
    (yB (w:=aR) hX hc eh fun bX hr=>by
     obtain⟨g1,e,g2,g3⟩:=MF (P:=P) (N:=aR.heap.size) gI.ku hX hr hx h1 h2;exact qR g2 (g3 fun w' hL hv=>⟨g1,hL,rfl⟩))
   have hv:bg ρ v v:=by
    obtain⟨_,_,_,g,_⟩:=mF (P:=P) (R:=aB ρ m) (N:=aR.heap.size) (Q:=fun nx w'=>bg ρ v v) (ai _)
     (yB (w:=aR) hX hc eh fun bX hr=>by
      obtain⟨g1,e,g2,g3⟩:=MF (P:=P) (N:=aR.heap.size) gI.ku hX hr hx h1 h2;exact qR g2 (g3 fun w' hL hv=>hv))
    exact g
   subst hnx;obtain⟨evs,ym,jA⟩:=he #[];have oa:∀e∈listed P b.fn a o aR,nL (aB ρ m) e:=fun e hx=>jA e (by have :=mem_listed hx;rw[ym]at this;simpa using this)
   exact⟨_,ρ,m',w',_,stepG_value ho hw hk gR,hL,DD,fun e he=> .inl (oa e he),by rw[kV oa,Cn.2.1],hn v w' ρ hL.le hL.old (gI.left hL Cn DD) hv⟩
theorem KU (hJ:∀σ,gp P main (J σ))(ho:ops[i]?=some o)(hw:Region.wanted o (yielded ops a.tmps)=true)(hk:b.kind≠ .early)(H:dd P E bI σ ρ m w){ev:cq->af}
  (eh:∀x∈o.op.operands,bg ρ (ev x) (a.eval x)){f:Nat}{args:List af}(hd:Na o ev f args){n:Nat}
  (hn:∀w' d,dd P E bI σ ρ m w'->xB ρ (f,args) d->J σ n ((aB ρ m).or E) (G (b.at (Act.put ⟨a.tmps,d::a.defers⟩ o.dst undef) (.inRegion ops rest::k)) cs) w'):
  J σ (n+1) ((aB ρ m).or E) (G (b.at a (.inRegion ops (i::rest)::k)) cs) w:=by
 obtain⟨x,lO,lG,first,cap,dG,hx,rfl⟩:=hd;have hxm:x∈o.op.operands:=by rw[dG];simp[Op.operands,Call.operands]
 have hr:=eh x hxm;rw[hx]at hr;obtain⟨f',c',e,h1,h2⟩:=gZ.1 hr;have Ul:xB ρ (f,first.toList++lO.toList.map ev++cap.toList) {target:= .fn (.func f) c',args:=f'++lO.map a.eval}:=by
  refine⟨c',rfl,?_⟩;simp only[Array.toList_append,Array.toList_map];refine(h1.append (bM.oY fun y hy=>eh y ?_)).append h2;rw[dG];simp only[Op.operands,Call.operands,Array.mem_append];exact .inr (by simpa using hy)
 have gR:∀w,(execOp a.eval o).run P w= .ok (.defer {target:= .fn (.func f) c',args:=f'++lO.map a.eval}) w:=by
  intro w;unfold execOp;simp[dG,resolve,Deferred.ofValue,e]
 have ym:∀w,(execOp a.eval o).events P w #[]=#[]:=by
  intro w;unfold execOp;simp[dG,resolve,Deferred.ofValue,e]
 have fR:(b.kind==CallKind.early)=false:=by simpa using hk
 refine qM hJ H rfl fun aR gI=>⟨_,ρ,m,aR,#[],?_,Left.refl gI.ku,sG.refl ..,fun e he=>by simp at he,rfl,hn aR _ gI Ul⟩
 have pJ:=yr (b:=b) (a:=⟨a.tmps,({target:= .fn (.func f) c',args:=f'++lO.map a.eval}:Deferred)::a.defers⟩) (k:=k) (rest:=rest) ho undef;rw[stepG_oper ho hw,<-pJ];simp[stepG.apply,gR,ym,G,Frame.at,fR,GStep.after,seen_none]
end
end Go.AM
namespace Go.AM
open Go Go.Conc
structure sE (nt:Nat)(ρ:dL)(tm:Tm)(df:Df)(a:Act):Prop where
 size:a.tmps.size=nt
 tm:∀t,t<nt->bg ρ (de t tm) (a.tmps.getD t undef)
 df:bM (xB ρ) df a.defers
theorem sE.pC{nt:Nat}{ρ bH:dL}{tm:Tm}{df:Df}{a:Act}(h:ρ.le bH)(ha:sE nt ρ tm df a):sE nt bH tm df a:=
 ⟨ha.size,fun t ht=>(ha.tm t ht).pC h,ha.df.mono fun _ _ x=>x.pC h⟩
theorem Tb (l:Array af)(d t:Nat)(v:af):(l.setIfInBounds d v).getD t undef=if d=t/\d<l.size then v else l.getD t undef:=by
 simp only[Array.getD_eq_getD_getElem?,Array.getElem?_setIfInBounds]
 by_cases h:d=t
 ·subst h
  by_cases h2:d<l.size
  ·simp[h2]
  ·simp[h2,Array.getElem?_eq_none (Nat.le_of_not_lt h2)]
 ·simp[h]
theorem wm (a:Act)(d:Option Tmp)(v:af):(a.put d v).defers=a.defers/\(a.put d v).tmps.size=a.tmps.size/\∀t,t<a.tmps.size->(a.put d v).tmps.getD t undef=if d=some t then v else a.tmps.getD t undef:=by
 cases d with
 |none=>exact⟨rfl,rfl,fun t ht=>by simp[Act.put]⟩
 |some d=>
  refine⟨rfl,by simp[Act.put],fun t ht=>?_⟩
  show(a.tmps.setIfInBounds d v).getD t undef=_
  rw[Tb]
  by_cases h:d=t
  ·subst h;simp[ht]
  ·simp[h]
theorem sE.put{nt:Nat}{ρ:dL}{tm:Tm}{df me:Df}{a:Act}{ds:List Deferred}{d:Option Tmp}{v v':af}(ha:sE nt ρ tm df a)(hd:∀x,d=some x->x<512)(qI:nt<=512)(hv:bg ρ v v')(uv:bM (xB ρ) me ds):
  sE nt ρ (EL d v tm) me (Act.put ⟨a.tmps,ds⟩ d v'):=by
 obtain⟨h1,h2,h3⟩:=wm ⟨a.tmps,ds⟩ d v';refine⟨h2.trans ha.size,fun t ht=>?_,by rw[h1];exact uv⟩;rw[h3 t (by rw[<-ha.size]at ht;exact ht)];unfold EL;cases d with
 |none=>exact ha.tm t ht
 |some d=>
  simp only[];rw[oG (hd d rfl) av]
  by_cases h:d=t
  ·subst h;simp[hv]
  ·simp only[h,if_false,ah];exact ha.tm t ht
section
variable {P:aE}{X:Ext}{main:Bool}{J:JT}{F:Mem->Mem->Prop}{call:cL}{E:Perm}{bI:aA}{σ:nq}{ρ:dL}{m m':Mem}{w:aA}
variable {b:Frame}{a:Act}{k:List Item}{cs:List Frame}{ops:Array hZ}{i:Nat}{rest:List Nat}{o:hZ}{nt:Nat}{tm:Tm}{df me:Df}{v:af}
theorem HY (ha:∀t,t<nt->bg ρ (de t tm) (a.tmps.getD t undef))(H:dd P E bI σ ρ m w){x:cq}(hx:qV nt P.globals.size x=true):bg ρ (dH tm x) (a.eval x):=by
 cases x with
 |tmp t=>
  simp only[qV,jT,jE]at hx;exact ha t hx
 |const v=>exact cB hx
 |global g=>
  simp only[qV,jT,jE]at hx;obtain⟨p,h1,h2,h3⟩:=H.qy g hx;exact cW.2 ⟨p,h1,rfl,by rw[h2,h3];rfl⟩
 |func f=>exact gZ.2 ⟨_,_,rfl,trivial,trivial⟩
theorem DU (hJ:∀σ,gp P main (J σ))(hX:pL P X)(hF:vJ F)(C:iG P X main J F call)(ho:ops[i]?=some o)(Hz:Wf m)(hd:yJ P call o tm m df v m' me):F m m'/\∃c,
  ∀{E:Perm}{bI:aA}{σ:nq}{ρ:dL}{w:aA}{b:Frame}{a:Act}{k:List Item}{cs:List Frame}{rest:List Nat}{n:Nat},b.kind≠ .early->Region.wanted o (yielded ops a.tmps)=true->dd P E bI σ ρ m w->
   (∀x∈o.op.operands,bg ρ (dH tm x) (a.eval x))->bM (xB ρ) df a.defers->
   (∀gJ bH v' w' ds,ρ.le bH->rl m ρ bH->dd P E bI gJ bH m' w'->bg bH v v'->bM (xB bH) me ds->J gJ n ((aB bH m').or E) (G (b.at (Act.put ⟨a.tmps,ds⟩ o.dst v') (.inRegion ops rest::k)) cs) w')->
   J σ (n+c) ((aB ρ m).or E) (G (b.at a (.inRegion ops (i::rest)::k)) cs) w:=by
 rcases hd with⟨dG,rfl⟩|⟨f,args,hc,fX,rfl⟩|⟨f,args,nN,rfl,rfl,rfl⟩
 ·refine⟨hF.fr (QE dG).w,1,fun hk hw H eh uv hn=>?_⟩;exact z6 (hJ _) ho hw hk H eh dG fun bH v' w' hle hold H' hv=>hn _ bH v' w' _ hle (.of hold) H' hv (uv.mono fun _ _ x=>x.pC hle)
 ·obtain⟨h1,h2,h3⟩:=C f args m v m' Hz fX;refine⟨h1,?_⟩;cases hb:fN P f with
  |false=>
   refine⟨1,fun hk hw H eh uv hn=>?_⟩;exact Tj hJ hX ho hw hk H eh hc (h2 hb) fun v' w' bH hle hold H' hv=>hn _ bH v' w' _ hle (.of hold) H' hv (uv.mono fun _ _ x=>x.pC hle)
  |true=>
   obtain⟨c,uw⟩:=h3 hb;refine⟨c+1,fun{E bI σ ρ w b a k cs rest n} hk hw H eh uv hn=>?_⟩;refine D6 hJ hX ho hw hk H eh hc hb fun aR bX gI hr=>uw bX _ cs n .normal gI hr (.inl rfl) fun gJ bH v' w' hle hold H' hv=>?_
   rw[bL rfl,yr ho];exact hn gJ bH v' w' _ hle hold H' hv (uv.mono fun _ _ x=>x.pC hle)
 ·refine⟨hF.refl _,1,fun hk hw H eh uv hn=>?_⟩;exact KU hJ ho hw hk H eh nN fun w' d H' Ul=>hn _ _ undef w' (d::_) (dL.le_refl _) (.of fun _ _=>rfl) H' mA ⟨Ul,uv⟩
theorem uU (abK:∀j want,o.guard=some (j,want)->∃g,(ops[j]?).bind (·.dst)=some g/\g<nt/\bg ρ (de g tm) (a.tmps.getD g undef))(hs:a.tmps.size=nt):Region.wanted o (yielded ops a.tmps)=cT ops o tm:=by
 unfold Region.wanted cT;cases hg:o.guard with
 |none=>rfl
 |some p=>
  obtain⟨j,want⟩:=p;obtain⟨g,h1,h2,h3⟩:=abK j want hg;simp only[h1];unfold yielded;rw[h1];simp only[cz];have e:a.tmps[g]?=some (a.tmps.getD g undef):=by
   rw[Array.getD_eq_getD_getElem?,Array.getElem?_eq_getElem (show g<a.tmps.size by rw[hs];exact h2)];rfl
  rw[e];have key:∀u u',bg ρ u u'->∀want:Bool,((match(some u':Option af)with |some (.bool b)=>some b|_=>none)==some want)=(match u with | .bool b=>b==want|_=>false):=by
   intro u u' hu want;cases u with
   |bool b=>have :=(aL (by rfl)).1 hu;subst this;cases b<;>cases want<;>rfl
   |agg cs=>obtain⟨_,rfl,_⟩:=jl.1 hu;rfl
   |tuple cs=>obtain⟨_,rfl,_⟩:=fE.1 hu;rfl
   |iface t x=>obtain⟨_,rfl,_⟩:=iA.1 hu;rfl
   |func fn f c=>obtain⟨_,_,rfl,_⟩:=gZ.1 hu;rfl
   |pointer p=>cases p with
    |none=>have :=(aL (by rfl)).1 hu;subst this;rfl
    |some p=>obtain⟨_,_,_,rfl⟩:=cW.1 hu;rfl
   |slice p l c=>cases p with
    |none=>have :=(aL (by rfl)).1 hu;subst this;rfl
    |some p=>obtain⟨_,_,_,_,rfl,_⟩:=cA.1 hu;rfl
   |map p=>cases p with
    |none=>have :=(aL (by rfl)).1 hu;subst this;rfl
    |some p=>obtain⟨_,_,rfl⟩:=kO.1 hu;rfl
   |_=>obtain⟨n,h'⟩:=hu;cases n with |zero=>exact h'.elim|succ n=>have e:u'=_:=h';subst e;rfl
  exact key _ _ h3 want
theorem QF (hJ:∀σ,gp P main (J σ))(hX:pL P X)(hF:vJ F)(C:iG P X main J F call)(qI:nt<=512){eG:Tm}(Hz:Wf m)(hd:p8 P call nt ops i tm m df eG m' me):F m m'/\∃c,
  ∀{E:Perm}{bI:aA}{σ:nq}{ρ:dL}{w:aA}{b:Frame}{a:Act}{k:List Item}{cs:List Frame}{rest:List Nat}{n:Nat},b.kind≠ .early->dd P E bI σ ρ m w->sE nt ρ tm df a->
   (∀gJ bH w' a',ρ.le bH->rl m ρ bH->dd P E bI gJ bH m' w'->sE nt bH eG me a'->J gJ n ((aB bH m').or E) (G (b.at a' (.inRegion ops rest::k)) cs) w')->
   J σ (n+c) ((aB ρ m).or E) (G (b.at a (.inRegion ops (i::rest)::k)) cs) w:=by
 obtain⟨o,ho,nG,j3,h⟩:=hd;rcases h with⟨hw,v,OM,rfl⟩|⟨hw,rfl,rfl,rfl⟩
 ·obtain⟨h1,c,h2⟩:=DU hJ hX hF C ho Hz OM;refine⟨h1,c,fun{E bI σ ρ w b a k cs rest n} hk H ha hn=>?_⟩;have tc:=uU (ops:=ops) (o:=o) (tm:=tm) (fun j want hj=>let⟨g,g1,g2,g3⟩:=j3 j want hj;⟨g,g1,g2,ha.tm g g2⟩) ha.size;refine h2 hk (tc.trans hw) H (fun x hx=>HY ha.tm H (nG.1 x hx)) ha.df fun gJ bH v' w' ds hle hold H' hv uv=>hn gJ bH w' _ hle hold H' ?_
  exact(ha.pC hle).put nG.2 qI hv uv
 ·refine⟨hF.refl _,1,fun{E bI σ ρ w b a k cs rest n} hk H ha hn=>?_⟩;have tc:=uU (ops:=ops) (o:=o) (tm:=tm) (fun j want hj=>let⟨g,g1,g2,g3⟩:=j3 j want hj;⟨g,g1,g2,ha.tm g g2⟩) ha.size;refine qe (hJ _) ho (tc.trans hw) fun aR j2=>hn _ _ aR _ (dL.le_refl _) (.of fun _ _=>rfl) (H.keeps j2) ?_
  exact ha.put (ds:=a.defers) nG.2 qI mA ha.df
end
end Go.AM
namespace Go.AM
open Go Go.Conc
def B (bK:Array Nat)(i j:Nat):Prop:=(bK.getD i 0).testBit j=true
theorem DK (bK:Array Nat)(j:Nat):∀(l:List Edge) (s:Nat),(l.foldl (fun s e=>if Region.binds .any e then s|||2^e.on|||bK.getD e.on 0 else s) s).testBit j=true↔
  s.testBit j=true\/∃e∈l,Region.binds .any e=true/\(e.on=j\/B bK e.on j)
 | [],s=>by simp
 |e::l,s=>by
  rw[List.foldl_cons,DK bK j l]
  by_cases h:Region.binds .any e=true
  ·rw[bL h];simp only[Nat.testBit_or,Bool.or_eq_true,Nat.testBit_two_pow,jE,bC]
   constructor
   ·rintro(((h1|h1)|h1)|⟨e',h1,h2⟩)
    ·exact .inl h1
    ·exact .inr ⟨e,.inl rfl,h,.inl h1⟩
    ·exact .inr ⟨e,.inl rfl,h,.inr h1⟩
    ·exact .inr ⟨e',.inr h1,h2⟩
   ·rintro(h1|⟨e',(rfl|h1),h2,h3⟩)
    ·exact .inl (.inl (.inl h1))
    ·rcases h3 with h3|h3
     ·exact .inl (.inl (.inr h3))
     ·exact .inl (.inr h3)
    ·exact .inr ⟨e',h1,h2,h3⟩
  ·rw[bT h]
   constructor
   ·rintro(h1|⟨e',h1,h2⟩)
    ·exact .inl h1
    ·exact .inr ⟨e',List.mem_cons_of_mem _ h1,h2⟩
   ·rintro(h1|⟨e',h1,h2,h3⟩)
    ·exact .inl h1
    ·rcases bC.1 h1 with rfl|h1
     ·exact absurd h2 h
     ·exact .inr ⟨e',h1,h2,h3⟩
structure xy (ops:Array hZ)(bK:Array Nat)(nt:Nat):Prop where
 back:∀i o,ops[i]?=some o->∀e∈o.after,Region.binds .any e=true->e.on<i
 iff:∀i o,ops[i]?=some o->∀j,B bK i j↔∃e∈o.after,Region.binds .any e=true/\(e.on=j\/B bK e.on j)
 dst:∀(i:Nat) (o:hZ) (d:Nat),ops[i]?=some o->o.dst=some d->d<nt
theorem dM {α:Type}{l:Array α}{i:Nat}{x:α}(h:l[i]?=some x):i<l.size:=by
 rcases Nat.lt_or_ge i l.size with h1|h1
 ·exact h1
 ·rw[Array.getElem?_eq_none h1]at h;cases h
theorem Qz {ops:Array hZ}{bK:Array Nat}{nt:Nat}(h:EO ops bK nt=true):xy ops bK nt:=by
 have key:∀i o,ops[i]?=some o->(o.after.toList.all (fun e=>!Region.binds .any e||Nat.blt e.on i)&&Nat.beq (o.after.toList.foldl (fun s e=>if Region.binds .any e then s|||2^e.on|||bK.getD e.on 0 else s) 0) (bK.getD i 0)&&(match o.dst with |some d=>Nat.blt d nt|none=>true))=true:=by
  intro i o ho;have :=aV.1 h i (List.mem_range.2 (dM ho));rw[ho]at this;exact this
 refine⟨fun i o ho e he hb=>?_,fun i o ho j=>?_,fun i o d ho hd=>?_⟩
 ·have :=key i o ho;simp only[aj]at this;have h1:=aV.1 this.1.1 e (by simpa using he);simp only[hb,Bool.not_true,Bool.false_or,Nat.blt_eq]at h1;exact h1
 ·have :=key i o ho;simp only[aj]at this;have h1:=aT this.1.2;unfold B;rw[<-h1,DK];simp[B]
 ·have :=key i o ho;simp only[aj,hd]at this;simpa[jT]using this.2
section
variable {ops:Array hZ}{bK:Array Nat}{nt:Nat}
theorem xy.lt(h:xy ops bK nt):∀{i j:Nat},i<ops.size->B bK i j->j<i:=by
 intro i
 induction i using Nat.strongRecOn with
 |_ i ih=>
  intro j hi hb;obtain⟨e,he,MA,hj⟩:=(h.iff i _ (Array.getElem?_eq_getElem hi) j).1 hb;have cN:=h.back i _ (Array.getElem?_eq_getElem hi) e he MA;rcases hj with rfl|hj
  ·exact cN
  ·have :=ih e.on cN av hj;omega
theorem xy.trans(h:xy ops bK nt):∀{i j k:Nat},i<ops.size->B bK i j->B bK j k->B bK i k:=by
 intro i
 induction i using Nat.strongRecOn with
 |_ i ih=>
  intro j k hi hb hk;obtain⟨e,he,MA,hj⟩:=(h.iff i _ (Array.getElem?_eq_getElem hi) j).1 hb;have cN:=h.back i _ (Array.getElem?_eq_getElem hi) e he MA;rcases hj with rfl|hj
  ·exact(h.iff i _ (Array.getElem?_eq_getElem hi) k).2 ⟨e,he,MA,.inr hk⟩
  ·exact(h.iff i _ (Array.getElem?_eq_getElem hi) k).2 ⟨e,he,MA,.inr (ih e.on cN av hj hk)⟩
structure kq (ops:Array hZ)(bK:Array Nat)(D:Nat->Prop)(l:List Nat):Prop where
 nodup:l.Nodup
 lt:∀i∈l,i<ops.size
 fresh:∀i∈l,¬D i
 all:∀i,i<ops.size->D i\/i∈l
 down:∀i,D i->∀j,B bK i j->D j
 ahead:∀E5 i E4,l=E5++i::E4->∀j,B bK i j->D j\/j∈E5
 dlt:∀i,D i->i<ops.size
theorem kq.head{D:Nat->Prop}{i:Nat}{l:List Nat}(h:kq ops bK D (i::l)):(∀j,B bK i j->D j)/\¬D i/\i<ops.size/\kq ops bK (fun x=>D x\/x=i) l:=by
 have h1:∀j,B bK i j->D j:=fun j hj=>(h.ahead [] i l rfl j hj).resolve_right cK
 have hn:=List.nodup_cons.1 h.nodup;refine⟨h1,h.fresh i cK,h.lt i cK,hn.2,fun x hx=>h.lt x (by simp[hx]),fun x hx=>?_,fun x hx=>?_,fun x hx j hj=>?_,fun E5 x E4 e j hj=>?_,fun x hx=>?_⟩
 ·rintro(h2|rfl)
  ·exact h.fresh x (by simp[hx]) h2
  ·exact hn.1 hx
 ·rcases h.all x hx with h2|h2
  ·exact .inl (.inl h2)
  ·rcases bC.1 h2 with rfl|h2
   ·exact .inl (.inr rfl)
   ·exact .inr h2
 ·rcases hx with hx|rfl
  ·exact .inl (h.down x hx j hj)
  ·exact .inl (h1 j hj)
 ·rcases h.ahead (i::E5) x E4 (by rw[e];rfl) j hj with h2|h2
  ·exact .inl (.inl h2)
  ·rcases bC.1 h2 with rfl|h2
   ·exact .inl (.inr rfl)
   ·exact .inr h2
 ·rcases hx with hx|rfl
  ·exact h.dlt x hx
  ·exact h.lt x cK
def Em (n:Nat)(listed:Array Bool):Nat:=((List.range n).filter fun i=>!listed.getD i false).length
theorem P7 (l:Array Bool)(i x:Nat)(hi:i<l.size):(l.setIfInBounds i true).getD x false=(decide (i=x)||l.getD x false):=by
 simp only[Array.getD_eq_getD_getElem?,Array.getElem?_setIfInBounds]
 by_cases h:i=x
 ·subst h;simp[hi]
 ·simp[h]
theorem filter_lt {α:Type}{p q:α->Bool}:∀{l:List α}{x:α},x∈l->p x=true->q x=false->(∀y,q y=true->p y=true)->(l.filter q).length<(l.filter p).length
 |a::l,x,hx,hp,hq,h=>by
  have hle:∀(l:List α),(l.filter q).length<=(l.filter p).length:=by
   intro l
   induction l with
   |nil=>exact ai _
   |cons b l ih=>
    simp only[List.filter_cons];cases hqb:q b
    ·cases hpb:p b<;>simp <;>omega
    ·rw[h b hqb];simp;omega
  rcases bC.1 hx with rfl|hx
  ·have :=hle l;simp only[List.filter_cons,hp,hq,if_true,bu,if_false,List.length_cons];omega
  ·have :=filter_lt hx hp hq h;simp only[List.filter_cons];cases hqb:q a
   ·cases hpb:p a<;>simp <;>omega
   ·rw[h a hqb];simp;omega
theorem Ai (h:xy ops bK nt){D:Nat->Prop}(cN:∀i,D i->i<ops.size)(hc:∀i,D i->∀o,ops[i]?=some o->∀e∈o.after,Region.binds .any e=true->D e.on):∀i,D i->∀j,B bK i j->D j:=by
 intro i
 induction i using Nat.strongRecOn with
 |_ i ih=>
  intro hi j hj;have Pq:=cN i hi;obtain⟨e,he,MA,hj⟩:=(h.iff i _ (Array.getElem?_eq_getElem Pq) j).1 hj;have h1:=hc i hi _ (Array.getElem?_eq_getElem Pq) e he MA;rcases hj with rfl|hj
  ·exact h1
  ·exact ih e.on (h.back i _ (Array.getElem?_eq_getElem Pq) e he MA) h1 j hj
theorem kq.nil{D:Nat->Prop}(uz:∀i,i<ops.size->D i)(SP:∀i,D i->∀j,B bK i j->D j)(cN:∀i,D i->i<ops.size):kq ops bK D []:=
 ⟨List.nodup_nil,cK,cK,fun i hi=> .inl (uz i hi),SP,fun E5 i E4 e=>(by simp at e),cN⟩
theorem Qy (h:xy ops bK nt):∀(fuel t:Nat) (listed:Array Bool),listed.size=ops.size->Em ops.size listed<=fuel->
  (∀i,listed.getD i false=true->∀o,ops[i]?=some o->∀e∈o.after,Region.binds .any e=true->listed.getD e.on false=true)->
  kq ops bK (fun i=>listed.getD i false=true) (Region.linearise.go .any ops fuel t listed []):=by
 intro fuel
 induction fuel with
 |zero=>
  intro t listed hs hu hc;have cN:∀i,listed.getD i false=true->i<ops.size:=fun i hi=>by
   rcases Nat.lt_or_ge i ops.size with h1|h1
   ·exact h1
   ·rw[Array.getD_eq_getD_getElem?,Array.getElem?_eq_none av]at hi;cases hi
  simp only[Region.linearise.go,List.reverse_nil];refine kq.nil (fun i hi=>?_) (Ai h cN hc) cN;have :(List.range ops.size).filter (fun i=>!listed.getD i false)=[]:=List.eq_nil_of_length_eq_zero (by unfold Em at hu;omega);rw[List.filter_eq_nil_iff]at this;simpa using this i (List.mem_range.2 hi)
 |succ fuel ih=>
  intro t listed hs hu hc;have cN:∀i,listed.getD i false=true->i<ops.size:=fun i hi=>by
   rcases Nat.lt_or_ge i ops.size with h1|h1
   ·exact h1
   ·rw[Array.getD_eq_getD_getElem?,Array.getElem?_eq_none av]at hi;cases hi
  have hTF:∀i,i<ops.size->listed.getD i true=listed.getD i false:=fun i hi=>by
   simp only[Array.getD_eq_getD_getElem?,Array.getElem?_eq_getElem (show i<listed.size by omega),Option.getD_some]
  simp only[Region.linearise.go]
  change kq ops bK _ (match(Region.ready .any ops listed)[t%(Region.ready .any ops listed).length]? with
   |some i=>Region.linearise.go .any ops fuel (t / (Region.ready .any ops listed).length) (listed.setIfInBounds i true) [i]
   |none=>[].reverse)
  have Sr:∀i,i∈Region.ready .any ops listed↔i<ops.size/\listed.getD i false=false/\∀o,ops[i]?=some o->∀e∈o.after,Region.binds .any e=true->listed.getD e.on false=true:=by
   intro i;unfold Region.ready;rw[List.mem_filter,List.mem_range]
   constructor
   ·rintro⟨h1,h2⟩;simp only[aj,Bool.not_eq_true',Array.getElem?_eq_getElem h1,cR,Option.getD_some]at h2;rw[hTF i h1]at h2;refine⟨h1,h2.1,fun o ho e he hb=>?_⟩;rw[Array.getElem?_eq_getElem h1]at ho;cases ho;have :=Array.all_eq_true_iff_forall_mem.1 h2.2 e he;simpa[hb]using this
   ·rintro⟨h1,h2,h3⟩;refine⟨h1,?_⟩;simp only[aj,Bool.not_eq_true',Array.getElem?_eq_getElem h1,cR,Option.getD_some];rw[hTF i h1];refine⟨h2,Array.all_eq_true_iff_forall_mem.2 fun e he=>?_⟩;cases hb:Region.binds .any e with
    |false=>simp
    |true=>simpa[hb]using h3 _ (Array.getElem?_eq_getElem h1) e he hb
  cases hi:(Region.ready .any ops listed)[t%(Region.ready .any ops listed).length]? with
  |none=>
   have CH:Region.ready .any ops listed=[]:=by
    cases hr:Region.ready .any ops listed with
    |nil=>rfl
    |cons x xs=>
     rw[hr]at hi;have ahH:t%(x::xs).length<(x::xs).length:=Nat.mod_lt _ cK;simp only[List.getElem?_eq_none_iff]at hi;omega
   simp only[List.reverse_nil];refine kq.nil (fun i hi=>?_) (Ai h cN hc) cN
   induction i using Nat.strongRecOn with
   |_ i ih2=>
    cases hd:listed.getD i false with
    |true=>rfl
    |false=>
     have :i∈Region.ready .any ops listed:=(Sr i).2 ⟨hi,hd,fun o ho e he hb=>ih2 e.on (h.back i o ho e he hb) (by have :=h.back i o ho e he hb;omega)⟩;rw[CH]at this;cases this
  |some i=>
   obtain⟨h1,h2,h3⟩:=(Sr i).1 (List.mem_of_getElem? hi);have his:i<listed.size:=av;simp only[];rw[linearise_go_acc,List.reverse_singleton,List.singleton_append];have zQ:∀x,(listed.setIfInBounds i true).getD x false=true↔listed.getD x false=true\/x=i:=fun x=>by
    rw[P7 _ _ _ his];simp only[Bool.or_eq_true,jE];exact⟨fun h=>h.elim (fun e=> .inr e.symm) .inl,fun h=>h.elim .inr fun e=> .inl e.symm⟩
   have hL:=ih (t / (Region.ready .any ops listed).length) (listed.setIfInBounds i true) (by simpa using hs) (by
    have :=filter_lt (p:=fun x=>!listed.getD x false) (q:=fun x=> !(listed.setIfInBounds i true).getD x false) (List.mem_range.2 h1) (by simp[h2]) (by simp[(zQ i).2 (.inr rfl)]) (fun y hy=>by
     simp only[Bool.not_eq_true']at hy⊢;cases hh:listed.getD y false with
     |false=>rfl
     |true=>rw[(zQ y).2 (.inl hh)]at hy;cases hy)
    unfold Em at hu⊢;omega) (fun x hx o ho e he hb=>by
     rcases(zQ x).1 hx with hx|rfl
     ·exact(zQ _).2 (.inl (hc x hx o ho e he hb))
     ·exact(zQ _).2 (.inl (h3 o ho e he hb)))
   have yl:i∉Region.linearise.go .any ops fuel (t / (Region.ready .any ops listed).length) (listed.setIfInBounds i true) []:=fun hm=>hL.fresh i hm ((zQ i).2 (.inr rfl))
   refine⟨List.nodup_cons.2 ⟨yl,hL.nodup⟩,fun x hx=>?_,fun x hx hd=>?_,fun x hx=>?_,Ai h cN hc,fun E5 x E4 e j hj=>?_,cN⟩
   ·rcases bC.1 hx with rfl|hx
    ·exact h1
    ·exact hL.lt x hx
   ·rcases bC.1 hx with rfl|hx
    ·rw[h2]at hd;cases hd
    ·exact hL.fresh x hx ((zQ x).2 (.inl hd))
   ·rcases hL.all x hx with h4|h4
    ·rcases(zQ x).1 h4 with h5|rfl
     ·exact .inl h5
     ·exact .inr cK
    ·exact .inr (by simp[h4])
   ·cases E5 with
    |nil=>
     simp only[List.nil_append,List.cons.injEq]at e;obtain⟨rfl,_⟩:=e;obtain⟨ed,he,MA,hjj⟩:=(h.iff i _ (Array.getElem?_eq_getElem h1) j).1 hj;have h5:=h3 _ (Array.getElem?_eq_getElem h1) ed he MA;rcases hjj with rfl|hjj
     ·exact .inl h5
     ·exact .inl (Ai h cN hc _ h5 j hjj)
    |cons y E5=>
     simp only[List.cons_append,List.cons.injEq]at e;obtain⟨rfl,e⟩:=e;rcases hL.ahead E5 x E4 e j hj with h4|h4
     ·rcases(zQ j).1 h4 with h5|rfl
      ·exact .inl h5
      ·exact .inr cK
     ·exact .inr (by simp[h4])
theorem G8 (h:xy ops bK nt)(t:Nat):kq ops bK (fun _=>False) (Region.linearise .any ops t):=by
 have hg:∀i,(Array.replicate ops.size false).getD i false=false:=fun i=>by
  simp only[Array.getD_eq_getD_getElem?,Array.getElem?_replicate]
  split<;>rfl
 have :=Qy h ops.size t (Array.replicate ops.size false) cK (by
  unfold Em;have :=List.length_filter_le (fun i=> !(Array.replicate ops.size false).getD i false) (List.range ops.size);simpa using this) (fun i hi=>by rw[hg i]at hi;cases hi)
 have e:(fun i=>(Array.replicate ops.size false).getD i false=true)=fun _=>False:=by
  funext i
  rw[hg i];simp
 rw[e]at this;exact this
end
end Go.AM
namespace Go.AM
open Go Go.Conc
structure lf (m m':Mem):Prop where
 fr:jD m m'
 blk:∀b,b<m.next->m'.blk b=m.blk b
theorem lf.refl(m:Mem):lf m m:=⟨jD.refl m,fun _ _=>rfl⟩
theorem lf.trans{m m₁ m₂:Mem}(h:lf m m₁)(k:lf m₁ m₂):lf m m₂:=
 ⟨h.fr.trans k.fr,fun b hb=>(k.blk b (bq hb h.fr.1.next)).trans (h.blk b hb)⟩
theorem lf.alloc(m:Mem)(k:mn)(hk:k.live):lf m (m.alloc k):=⟨jD.alloc m k hk,fun b hb=>by rw[Mem.cD,bT av]⟩
section
variable {m m':Mem}(h:lf m m')
include h
theorem lf.home:m'.home=m.home:=h.fr.1.home
theorem lf.bO:m'.bO=m.bO:=h.fr.1.bO
theorem lf.base:m'.base=m.base:=h.fr.1.base
theorem lf.floor:m'.floor=m.floor:=h.fr.1.floor
theorem lf.opn:m'.opn=m.opn:=h.fr.1.opn
theorem lf.next:m.next<=m'.next:=h.fr.1.next
theorem lf.deaf:m'.deaf=m.deaf:=h.fr.2.1
end
section
variable {P:aE}{E:Perm}{bI:aA}{σ:nq}{ρ bH:dL}{m m':Mem}{w w':aA}
theorem GY (hb:∀b p,ρ b=some p->m'.blk b=m.blk b)(hh:m'.bO=m.bO)(hhm:m'.home=m.home)(hf:m'.floor=m.floor)(ho:m'.opn=m.opn)(hd:m'.deaf=m.deaf):aB ρ m'=aB ρ m:=by
 have hR:∀b p o,ρ b=some p->(m'.pz b o↔m.pz b o):=fun b p o hp=>by unfold Mem.pz;rw[hb b p hp,hh]
 have hW:∀b p o,ρ b=some p->(m'.okW b o↔m.okW b o):=fun b p o hp=>by unfold Mem.okW;rw[hR b p o hp,hf,ho]
 have hO:∀b,m'.bU b=m.bU b:=fun b=>by unfold Mem.bU;rw[hh,hhm]
 unfold aB
 congr 1
 ·funext c x
  exact propext ⟨fun⟨b,p,h1,h2,h3,h4,h5⟩=>⟨b,p,h1,h2,h3,h4,(hR b p _ h1).1 h5⟩,fun⟨b,p,h1,h2,h3,h4,h5⟩=>⟨b,p,h1,h2,h3,h4,(hR b p _ h1).2 h5⟩⟩
 ·funext c x
  exact propext ⟨fun⟨b,p,h1,h2,h3,h4,h5⟩=>⟨b,p,h1,h2,h3,h4,(hW b p _ h1).1 h5⟩,fun⟨b,p,h1,h2,h3,h4,h5⟩=>⟨b,p,h1,h2,h3,h4,(hW b p _ h1).2 h5⟩⟩
 ·funext c
  exact propext ⟨fun⟨b,p,h1,h2,h3,h4⟩=>⟨b,p,h1,h2,by rwa[hb b p h1]at h3,by rwa[hO]at h4⟩,fun⟨b,p,h1,h2,h3,h4⟩=>⟨b,p,h1,h2,by rwa[hb b p h1],by rwa[hO]⟩⟩
theorem dd.grow(H:dd P E bI σ ρ m w)(g:lf m m'):dd P E bI σ ρ m' w/\aB ρ m'=aB ρ m:=by
 have hb:∀b p,ρ b=some p->m'.blk b=m.blk b:=fun b p hp=>g.blk b (H.ku.nj b p hp)
 have hp:=GY hb g.bO g.home g.floor g.opn g.deaf;refine⟨⟨H.ku.DT g.next hb g.bO g.base g.home,H.rest,by rw[hp];exact H.apart,H.qy,H.fS.fr g.fr.1 ρ.le_refl (fun _ _=>rfl),g.fr.2.2 H.wf,H.K'.step H.wf H.apart g.fr.1 (fun _ _=>rfl) (by rw[hp];exact eS.refl _ _),by rw[hp];exact H.ew⟩,hp⟩
def jF (o:hZ)(ev:cq->af)(v:af):af:=
 match o.op with
 | .load _ x=>ev x
 | .lookup _ x _ _=>ev x
 | .slice _ x _ _ _=>ev x
 |_=>v
theorem map_eq {v:af}{o:Option af}:o.map (fun x=>(x,m))=some (v,m')↔o=some v/\m'=m:=by
 cases o with
 |none=>simp
 |some x=>simp only[cR,ah,aC];exact⟨fun h=>⟨h.1,h.2.symm⟩,fun h=>⟨h.1,h.2.symm⟩⟩
theorem Bb {b o n:Nat}{vs:List af}(h:m.dQ b o n=some vs)(hb:m'.blk b=m.blk b)(hm:meets m'.bO b o n=false):m'.dQ b o n=some vs:=by
 unfold Mem.dQ at h⊢;simp only[hb]at h⊢
 split at h
 ·rename_i hc;simp only[aj]at hc;rw[bL (by simp only[aj];exact⟨hc.1,by rw[hm];rfl⟩)];exact h
 ·cases h
theorem pV {b o n:Nat}{vs:List af}(h:m.dQ b o n=some vs):meets m.bO b o n=false/\(m.blk b).kind=1:=by
 unfold Mem.dQ at h;simp only[]at h
 split at h
 ·rename_i hc;simp only[aj,Bool.not_eq_true',beq_iff_eq]at hc;exact⟨hc.2,hc.1⟩
 ·cases h
theorem Hr {t:aW}{p v:af}(h:kx P t p m=some v):∃b o n,p= .pointer (some ⟨b,o,none⟩)/\(m.blk b).kind=1/\meets m.bO b o n=false/\
  ∀m':Mem,m'.blk b=m.blk b->((kx P t p m').isSome=true\/meets m'.bO b o n=false)->kx P t p m'=some v:=by
 unfold kx at h
 split at h
 ·rename_i b o
  split at h
  ·rename_i ha;obtain⟨n,hn,h⟩:=ay.1 h;obtain⟨l,hl,rfl⟩:=ar.1 h;have hk:=pV hl;refine⟨b,o,n,rfl,hk.2,hk.1,fun m' hb hm=>?_⟩;have YG:meets m'.bO b o n=false:=by
    rcases hm with hm|hm
    ·unfold kx at hm;simp only[ha,hn,cz,Option.isSome_map]at hm;obtain⟨l',Ae⟩:=qF.1 hm;exact(pV Ae).1
    ·exact hm
   unfold kx;simp only[ha,hn,cz,Bb hl hb YG,cR]
  ·rename_i ha;obtain⟨l,hl,h⟩:=ay.1 h;have hk:=pV hl;refine⟨b,o,1,rfl,hk.2,hk.1,fun m' hb hm=>?_⟩;have YG:meets m'.bO b o 1=false:=by
    rcases hm with hm|hm
    ·unfold kx at hm;simp only[ha]at hm;obtain⟨l',Ae⟩:=qF.1 hm;obtain⟨l'',alX,_⟩:=ay.1 Ae;exact(pV alX).1
    ·exact hm
   unfold kx;simp only[ha,Bb hl hb YG,cz,h]
  ·cases h
 ·cases h
theorem A9 {t:aW}{x k v:af}{ok:Bool}(h:jQ P t x k ok m=some v):
  (∀m',jQ P t x k ok m'=some v)\/∃b,x= .map (some b)/\(m.blk b).kind=2/\m.bU b=true/\∀m':Mem,m'.blk b=m.blk b->((jQ P t x k ok m').isSome=true\/m'.bU b=true)->jQ P t x k ok m'=some v:=by
 unfold jQ at h
 split at h
 ·rename_i kt et r s hu
  split at h
  ·rename_i z hk hz;cases r with
   |none=>
    left
    intro m';unfold jQ;simp only[hu,hk,hz];exact h
   |some b=>
    right
    simp only[]at h
    split at h
    ·rename_i es IK
     split at IK
     ·rename_i hc;simp only[aj,beq_iff_eq]at hc;refine⟨b,rfl,hc.1,hc.2,fun m' hb hm=>?_⟩;have ho:m'.bU b=true:=by
       rcases hm with hm|hm
       ·unfold jQ at hm;simp only[hu,hk,hz]at hm
        split at hm
        ·rename_i mj ahR
         split at ahR
         ·rename_i DD;simp only[aj]at DD;exact DD.2
         ·cases ahR
        ·cases hm
       ·exact hm
      unfold jQ;simp only[hu,hk,hz];rw[bL (by rw[hb,hc.1,ho];rfl),hb];simp only[ah]at IK;subst IK;exact h
     ·cases IK
    ·cases h
  ·cases h
 ·cases h
theorem C8 {t:aW}{x:af}{lo hi:Option af}{m':Mem}(hb:∀b,mS x=some b->m'.blk b=m.blk b):jH P t x lo hi m'=jH P t x lo hi m:=by
 unfold jH
 split
 ·rename_i b o len cap hu;rw[hb b rfl]
 ·rfl
 ·rfl
 ·rfl
def Lc (mk:Nat->af):Prop:=(mk=fun β=>ptrTo β 0)\/(∃l c,c≠eP/\mk=fun β=> .slice (some ⟨β,0,none⟩) l c)\/(mk=fun β=> .map (some β))
theorem bg.back:∀{n:Nat}{v u u':af},ρ.le bH->VR ρ n v u'->bg bH v u->bg ρ v u:=by
 intro n
 induction n with
 |zero=>intro v u u' _ h _;exact h.elim
 |succ n ih=>
  intro v u u' hle h h';have list:∀{l l' r:List af},bM (VR ρ n) l l'->bM (bg bH) l r->bM (bg ρ) l r:=by
   intro l
   induction l with
   |nil=>intro l' r _ h2;cases r<;>simp_all [bM]
   |cons a l ihl=>
    intro l' r h1 h2;cases l' with
    |nil=>exact h1.elim
    |cons a' l'=>cases r with
     |nil=>exact h2.elim
     |cons b r=>exact⟨ih hle h1.1 h2.1,ihl h1.2 h2.2⟩
  cases v with
  |pointer a=>cases a with
   |none=>exact(aL rfl).2 ((aL rfl).1 h')
   |some a=>
    obtain⟨p,h1,h2,_⟩:=h;obtain⟨q,g1,g2,g3⟩:=cW.1 h';rw[hle _ _ h1]at g1;cases g1;exact cW.2 ⟨_,h1,h2,g3⟩
  |slice a l c=>cases a with
   |none=>exact(aL rfl).2 ((aL rfl).1 h')
   |some a=>
    obtain⟨p,_,h1,h2,_⟩:=h;obtain⟨q,c',g1,g2,g3⟩:=cA.1 h';rw[hle _ _ h1]at g1;cases g1;exact cA.2 ⟨_,c',h1,g2,g3⟩
  |map a=>cases a with
   |none=>exact(aL rfl).2 ((aL rfl).1 h')
   |some a=>
    obtain⟨p,h1,h2⟩:=h;obtain⟨q,g1,g2⟩:=kO.1 h';rw[hle _ _ h1]at g1;cases g1;exact kO.2 ⟨_,h1,g2⟩
  |func fn f c=>
   obtain⟨_,_,_,h1,h2⟩:=h;obtain⟨f',c',e,g1,g2⟩:=gZ.1 h';exact gZ.2 ⟨f',c',e,list h1 g1,list h2 g2⟩
  |iface t x=>
   obtain⟨_,_,h1⟩:=h;obtain⟨x',e,g1⟩:=iA.1 h';exact iA.2 ⟨x',e,ih hle h1 g1⟩
  |agg cs=>
   obtain⟨_,_,h1⟩:=h;obtain⟨x',e,g1⟩:=jl.1 h';exact jl.2 ⟨x',e,list h1 g1⟩
  |tuple cs=>
   obtain⟨_,_,h1⟩:=h;obtain⟨x',e,g1⟩:=fE.1 h';exact fE.2 ⟨x',e,list h1 g1⟩
  |bool b=>exact(aL rfl).2 ((aL rfl).1 h')
  |int k b=>exact(aL rfl).2 ((aL rfl).1 h')
  |string b=>exact(aL rfl).2 ((aL rfl).1 h')
  |nilFunc=>exact(aL rfl).2 ((aL rfl).1 h')
  |nilIface=>exact(aL rfl).2 ((aL rfl).1 h')
  |float k b=>obtain⟨n,h'⟩:=h';cases n with |zero=>exact h'.elim|succ n=>exact⟨1,h'⟩
  |complex k a b=>obtain⟨n,h'⟩:=h';cases n with |zero=>exact h'.elim|succ n=>exact⟨1,h'⟩
  |chan r=>obtain⟨n,h'⟩:=h';cases n with |zero=>exact h'.elim|succ n=>exact⟨1,h'⟩
theorem fO.aiW(h:fO ρ m w'){β Eg:Nat}{A:Mem}{pl:Pl}(jz:ρ β=none)(cN:β<m.next)(h':fO bH A w')(hp:bH Eg=some pl)(hle:ρ.le bH)(dx:∀b p,ρ b=some p->b≠Eg)
  (e:(A.blk Eg).kind=(m.blk β).kind/\(A.blk Eg).sz=(m.blk β).sz/\(A.blk Eg).pos=(m.blk β).pos/\(A.blk Eg).cs=(m.blk β).cs/\(A.blk Eg).es=(m.blk β).es/\(A.blk Eg).clock=(m.blk β).clock)
  (OI:(m.blk β).kind≠3)(hA:∀b p,ρ b=some p->A.blk b=m.blk b)(Bw:A.base<=Eg)(zS:aS A.bO Eg=false/\A.home<=Eg)(IK:(m.blk β).es=#[])
  (hv:∀v,some v∈(m.blk β).cs->∃u,bg ρ v u):fO (ρ.put β pl) m w':=by
 obtain⟨e1,e2,e3,e4,e5,e6⟩:=e;have OG:=dL.sZ jz pl;have dX:∀b' p',ρ.put β pl b'=some p'->(b'=β/\p'=pl)\/(b'≠β/\ρ b'=some p'):=by
  intro b' p' dW;unfold dL.put at dW
  split at dW
  ·rename_i e;exact .inl ⟨e,(Option.some.inj dW).symm⟩
  ·rename_i e;exact .inr ⟨e,dW⟩
 refine⟨fun b' p' dW=>?_,fun b' p' dW hk=>?_,fun b' p' x v dW hc=>?_,fun b' p' x dW hx hk sF=>?_,fun b' p' dW hk ho=>?_,fun b' p' dW hk ho=>?_,fun xn xm nA og KB pE zN k₁ k₂ hc=>?_,fun b' p' dW=>?_,fun b' p' dW hk Ad=>?_⟩
 ·rcases dX _ _ dW with⟨rfl,rfl⟩|⟨_,hq⟩
  ·exact cN
  ·exact h.nj _ _ hq
 ·rcases dX _ _ dW with⟨rfl,rfl⟩|⟨_,hq⟩
  ·obtain⟨g1,g2,g3⟩:=h'.cells Eg _ hp (by rw[e1];exact hk);exact⟨g1.trans e2,by rw[<-e4];exact g2,g3⟩
  ·exact h.cells _ _ hq hk
 ·rcases dX _ _ dW with⟨rfl,rfl⟩|⟨_,hq⟩
  ·have hx:(m.blk b').kind=1/\(m.blk b').cs[x]?=some (some v):=by
    unfold Mem.cell at hc
    split at hc
    ·rename_i hk;cases hg:(m.blk b').cs[x]? with
     |none=>simp[hg]at hc
     |some u=>cases u<;>simp[hg]at hc;subst hc;exact⟨hk.1,rfl⟩
    ·cases hc
   have DD:A.cell Eg x=some v:=by
    unfold Mem.cell;rw[bL ⟨by rw[e1];exact hx.1,ei zS.1 x⟩,e4,hx.2];rfl
   obtain⟨v',g1,g2⟩:=h'.lT Eg _ x v hp DD;obtain⟨u,n,hu⟩:=hv v (List.mem_of_getElem? hx.2);exact⟨v',g1,(bg.back hle hu g2).pC OG⟩
  ·obtain⟨v',h1,h2⟩:=h.lT _ _ _ _ hq hc;exact⟨v',h1,h2.pC OG⟩
 ·rcases dX _ _ dW with⟨rfl,rfl⟩|⟨_,hq⟩
  ·exact h'.thaw Eg _ x hp hx (by rw[e1];exact hk) Bw
  ·exact h.thaw _ _ _ hq hx hk sF
 ·rcases dX _ _ dW with⟨rfl,rfl⟩|⟨_,hq⟩
  ·obtain⟨mj,g1,g2⟩:=h'.maps Eg _ hp (by rw[e1];exact hk) (by unfold Mem.bU;rw[zS.1];simpa using zS.2);rw[e5,IK]at g2;refine⟨mj,by rw[<-e6];exact g1,?_⟩;rw[IK];cases hh:mj.toList with
   |nil=>trivial
   |cons a l=>rw[hh]at g2;exact g2.elim
  ·obtain⟨mj,g1,g2⟩:=h.maps _ _ hq hk ho;exact⟨mj,g1,g2.mono fun _ _ x=>⟨x.1.pC OG,x.2.1.pC OG,x.2.2⟩⟩
 ·rcases dX _ _ dW with⟨rfl,rfl⟩|⟨_,hq⟩
  ·exact absurd hk OI
  ·exact h.lN _ _ hq hk ho
 ·rcases dX _ _ pE with⟨rfl,rfl⟩|⟨ant,GQ⟩<;>rcases dX _ _ zN with⟨rfl,rfl⟩|⟨ans,GO⟩
  ·exact absurd rfl KB
  ·have :=h'.sep Eg xm _ og (Ne.symm (dx _ _ GO)) hp (hle _ _ GO) (by rw[e1];exact k₁) (by rw[hA _ _ GO];exact k₂) hc;rw[e1,hA _ _ GO]at this;exact this
  ·have :=h'.sep xn Eg nA _ (dx _ _ GQ) (hle _ _ GQ) hp (by rw[hA _ _ GQ];exact k₁) (by rw[e1];exact k₂) hc;rw[e1,hA _ _ GQ]at this;exact this
  ·exact h.sep _ _ _ _ KB GQ GO k₁ k₂ hc
 ·rcases dX _ _ dW with⟨rfl,rfl⟩|⟨_,hq⟩
  ·exact h'.rr _ _ hp
  ·exact h.rr _ _ hq
 ·rcases dX _ _ dW with⟨rfl,rfl⟩|⟨_,hq⟩
  ·exact h'.vars _ _ hp (by rw[e1];exact hk) (by rw[e3];exact Ad)
  ·exact h.vars _ _ hq hk Ad
end
end Go.AM
namespace Go.AM
open Go Go.Conc
section
variable {P:aE}{E:Perm}{bI:aA}{σ:nq}{ρ bH:dL}{m m':Mem}{w w':aA}
def Mem.shut(m:Mem):Mem:={m with floor:=m.next,opn:=[],home:=m.next,base:=m.next}
theorem fO.shut(h:fO ρ m w):fO ρ m.shut w:=
 ⟨h.nj,h.cells,h.lT,fun b p o hp _ _ hb=>absurd (h.nj b p hp) (Nat.not_lt.2 hb),fun b p hp _ ho=>absurd (h.nj b p hp) (Nat.not_lt.2 (Mem.lX ho).2),fun b p hp _ ho=>absurd (h.nj b p hp) (Nat.not_lt.2 (Mem.lX ho).2),h.sep,h.rr,h.vars⟩
theorem Nn (h:fO ρ m w):(∀b o,(aB ρ m.shut).rd b o->(aB ρ m).rd b o)/\(∀b o,¬(aB ρ m.shut).wr b o)/\(∀b,¬(aB ρ m.shut).ob b):=
 ⟨fun _ _ x=>x,fun c o ⟨b,p,h1,_,_,_,h5⟩=>h5.2.elim (fun hf=>absurd (h.nj b p h1) (Nat.not_lt.2 hf)) (fun hc=>by cases hc),fun c ⟨b,p,h1,_,_,h4⟩=>absurd (h.nj b p h1) (Nat.not_lt.2 (Mem.lX h4).2)⟩
theorem QQ (h:fO ρ m w){c:Nat}(hc:(aB ρ m).ob c):w.shape? c=none:=by
 obtain⟨b,p,h1,rfl,hk,ho⟩:=hc;unfold aA.shape?;rcases hk with hk|hk
 ·obtain⟨mj,g,_⟩:=h.maps b p h1 hk ho;rw[g]
 ·obtain⟨_,g⟩:=h.lN b p h1 hk ho;rw[g]
theorem CF {R:Perm}(h:sG R w.heap.size w w')(hw:∀b o,¬R.wr b o)(Dw:∀b,¬R.ob b){S:Perm}(hS:∀b o,S.rd b o->b<w.heap.size)(hSo:∀b,S.ob b->b<w.heap.size/\w.shape? b=none):bD S w w':=
 ⟨h.tape,h.os,h.output,h.size,fun b hb=>h.shape b hb,fun b o hr=>h.cell b o (hS b o hr) (hw b o),fun b o hb=>h.qA b o hb,fun b hb=>h.obj b (hSo b hb).1 (Dw b) (hSo b hb).2⟩
theorem adC (h:fO ρ m w){b o:Nat}(hr:(aB ρ m).rd b o):b<w.heap.size:=by
 obtain⟨_,p,h1,rfl,_⟩:=hr;exact h.rr _ p h1
theorem agU (h:fO ρ m w){b:Nat}(hr:(aB ρ m).ob b):b<w.heap.size:=by
 obtain⟨_,p,h1,rfl,_⟩:=hr;exact h.rr _ p h1
structure M0 (P:aE)(o:hZ)(ev:cq->af)(mk:Nat->af)(kb:mn):Prop where
 form:Lc mk
 op:∀m,dJ P ev o m=some (mk m.next,m.alloc kb)
 kind:kb.kind=1\/kb.kind=2
 es:kb.es=#[]
 lT:∀{ρ:dL}{oJ:cq->af},(∀x∈o.op.operands,bg ρ (ev x) (oJ x))->∀v,some v∈kb.cs->∃u,bg ρ v u
theorem Oq {mk:Nat->af}(h:Lc mk){β:Nat}{v':af}(hv:bg ρ (mk β) v'):∃pl,ρ β=some pl/\∀{fj:dL}{XE:Nat},fj XE=some pl->bg fj (mk XE) v':=by
 rcases h with rfl|⟨l,c,hc,rfl⟩|rfl
 ·obtain⟨pl,h1,h2,rfl⟩:=cW.1 hv;exact⟨pl,h1,fun h=>cW.2 ⟨pl,h,rfl,rfl⟩⟩
 ·obtain⟨pl,c',h1,h2,rfl,h3⟩:=cA.1 hv;exact⟨pl,h1,fun h=>cA.2 ⟨pl,c',h,rfl,rfl,h3⟩⟩
 ·obtain⟨pl,h1,rfl⟩:=kO.1 hv;exact⟨pl,h1,fun h=>kO.2 ⟨pl,h,rfl⟩⟩
theorem mH {mk:Nat->af}(h:Lc mk)(β:Nat):mS (mk β)=some β:=by
 rcases h with rfl|⟨l,c,hc,rfl⟩|rfl<;>rfl
section
variable {main:Bool}{J:JT}{b:Frame}{a:Act}{k:List Item}{cs:List Frame}{ops:Array hZ}{i:Nat}{rest:List Nat}{o:hZ}
theorem Ov (hJ:∀σ,gp P main (J σ))(ho:ops[i]?=some o)(hw:Region.wanted o (yielded ops a.tmps)=true)(hk:b.kind≠ .early)(H:dd P E bI σ ρ m w){ev:cq->af}
  (eh:∀x∈o.op.operands,bg ρ (ev x) (a.eval x)){mk:Nat->af}{kb:mn}(hm:M0 P o ev mk kb){β:Nat}(jz:ρ β=none)(cN:β<m.next)(IJ:m.floor<=β)(kK:m.blk β={kb with bw:=(m.blk β).bw}){l:Nat}
  (hn:∀bH v' w',ρ.le bH->(∀b,b<m.next->b≠β->bH b=ρ b)->dd P E bI σ bH m w'->bg bH (mk β) v'->J σ l ((aB bH m).or E) (G (b.at (a.put o.dst v') (.inRegion ops rest::k)) cs) w'):
  J σ (l+1) ((aB ρ m).or E) (G (b.at a (.inRegion ops (i::rest)::k)) cs) w:=by
 refine(hJ σ).step rfl fun aR j2=>?_
 have gI:=H.keeps j2;have hs:=gI.ku.shut;obtain⟨p1,p2,p3⟩:=Nn gI.ku;obtain⟨nx,w',gR,⟨bH,hL,v',hv,hy⟩,hc,he⟩:=mF (ai _) (De hs (ai _) eh (hm.op m.shut));obtain⟨evs,ym,jA⟩:=he #[];have oa:∀e∈listed P b.fn a o aR,nL (aB ρ m) e:=fun e hx=>by
  have h1:=jA e (by have :=mem_listed hx;rw[ym]at this;simpa using this);unfold nL at h1⊢
  split at h1
  ·refine⟨h1.1,?_⟩;have h2:=h1.2
   split at h2
   ·exact absurd h2 (p2 _ _)
   ·rename_i tc;rw[bT tc];exact p1 _ _ h2
  ·exact absurd h1.1 (p3 _)
  ·exact h1
  ·exact h1
 obtain⟨pl,dF,hmv⟩:=Oq hm.form hv;have zk:m.shut.next=m.next:=rfl;rw[zk]at dF;have hK:bD ((aB ρ m).or E) aR w':=CF hc p2 p3 (fun b o x=>x.elim (adC gI.ku) fun y=>(gI.apart.cell b o y).1)
  (fun b x=>x.elim (fun y=>⟨agU gI.ku y,QQ gI.ku y⟩) fun y=>⟨(gI.apart.obj b y).1,(gI.apart.obj b y).2.2⟩)
 have pK:=gI.keeps hK;have hbA:(m.shut.alloc kb).blk m.next={kb with bw:=m.tick}:=by rw[Mem.cD];exact bL rfl
 have Mh:aS m.bO m.next=false:=by
  rcases ht:aS m.bO m.next with _|_
  ·rfl
  ·unfold aS at ht;obtain⟨s,hs,h1⟩:=List.any_eq_true.1 ht;simp only[aj,jE]at h1;have :=gI.wf.bO s hs;omega
 have hA:∀b p,ρ b=some p->(m.shut.alloc kb).blk b=m.blk b:=fun b p hp=>by
  rw[Mem.cD,bT (by have :=gI.ku.nj b p hp;show m.next≠b;omega)];rfl
 have dx:∀b p,ρ b=some p->b≠m.next:=fun b p hp=>by have :=gI.ku.nj b p hp;omega
 have Mr:(m.blk β).kind=kb.kind/\(m.blk β).sz=kb.sz/\(m.blk β).pos=kb.pos/\(m.blk β).cs=kb.cs/\(m.blk β).es=kb.es/\(m.blk β).clock=kb.clock:=by rw[kK];exact⟨rfl,rfl,rfl,rfl,rfl,rfl⟩
 have hS:fO (ρ.put β pl) m w':=pK.ku.aiW jz cN hL.ku dF hL.le dx (by rw[hbA];exact⟨Mr.1.symm,Mr.2.1.symm,Mr.2.2.1.symm,Mr.2.2.2.1.symm,Mr.2.2.2.2.1.symm,Mr.2.2.2.2.2.symm⟩)
  (by rw[Mr.1];rcases hm.kind with h|h<;>omega) hA (ai _) ⟨Mh,ai _⟩ (by rw[Mr.2.2.2.2.1];exact hm.es) (fun v hv=>hm.lT eh v (by rw[<-Mr.2.2.2.1];exact hv))
 have vk:∀x,pl.d<=x->x<pl.d+pl.room->(m.blk β).kind=1->m.pz β (x-pl.d)->aR.heap.size<=pl.c:=by
  intro x h1 h2 h3 h4;have h5:(aB bH (m.shut.alloc kb)).rd pl.c x:=⟨m.next,pl,dF,rfl,h1,h2,by
   unfold Mem.pz;rw[hbA];refine⟨Mr.1▸h3,ei Mh _,?_⟩;rw[<-Mr.2.2.2.1];exact h4.2.2⟩
  rcases hL.within.rd _ _ h5 with⟨b',p',g1,g2,g3,g4,g5⟩|h6
  ·exfalso
   have g5':m.pz b' (x-p'.d):=g5;have :=hL.ku.sep b' m.next p' pl (dx _ _ g1) (hL.le _ _ g1) dF (by rw[hA _ _ g1,g5'.1];simp) (by rw[hbA];show kb.kind≠0;rw[<-Mr.1,h3];simp) g2;omega
  ·exact h6
 have Dw:(m.blk β).kind=2->aR.heap.size<=pl.c:=by
  intro h3;have h5:(aB bH (m.shut.alloc kb)).ob pl.c:=⟨m.next,pl,dF,rfl,.inl (by rw[hbA];show kb.kind=2;rw[<-Mr.1,h3]),by
   unfold Mem.bU
   show(!aS m.bO m.next&&decide (m.next<=m.next))=true
   rw[Mh];simp⟩
  rcases hL.within.ob _ h5 with h6|h6
  ·exact absurd h6 (p3 _)
  ·exact h6
 have dX:∀b' p',ρ.put β pl b'=some p'->(b'=β/\p'=pl)\/(b'≠β/\ρ b'=some p'):=by
  intro b' p' dW;unfold dL.put at dW
  split at dW
  ·rename_i e;exact .inl ⟨e,(Option.some.inj dW).symm⟩
  ·rename_i e;exact .inr ⟨e,dW⟩
 have hW:eS (aB ρ m) (aB (ρ.put β pl) m) aR.heap.size:=by
  refine⟨fun c x=>?_,fun c x=>?_,fun c=>?_⟩
  ·rintro⟨b',p',g1,rfl,g3,g4,g5⟩;rcases dX _ _ g1 with⟨rfl,rfl⟩|⟨_,q⟩
   ·exact .inr (vk x g3 g4 g5.1 g5)
   ·exact .inl ⟨b',p',q,rfl,g3,g4,g5⟩
  ·rintro⟨b',p',g1,rfl,g3,g4,g5⟩;rcases dX _ _ g1 with⟨rfl,rfl⟩|⟨_,q⟩
   ·exact .inr (vk x g3 g4 g5.1.1 g5.1)
   ·exact .inl ⟨b',p',q,rfl,g3,g4,g5⟩
  ·rintro⟨b',p',g1,rfl,g3,g4⟩;rcases dX _ _ g1 with⟨rfl,rfl⟩|⟨_,q⟩
   ·rcases g3 with g3|g3
    ·exact .inr (Dw g3)
    ·rw[Mr.1]at g3;rcases hm.kind with h|h<;>omega
   ·exact .inl ⟨b',p',q,rfl,g3,g4⟩
 have hC:sG (aB ρ m) aR.heap.size aR w':=⟨hc.tape,hc.os,hc.output,hc.size,hc.shape,fun b o hb _=>hc.cell b o hb (p2 b o),hc.qA,fun b hb _ fQ=>hc.obj b hb (p3 b) fQ⟩;have uD:dd P E bI σ (ρ.put β pl) m w':=by
  refine⟨hS,pK.rest,?_,fun g hg=>let⟨p,h1,h2⟩:=pK.qy g hg;⟨p,dL.sZ jz pl _ _ h1,h2⟩,?_,pK.wf,fun b' p' x g1 gb g3 g4 g5 he=>?_,fun c x he hr=>(hW.rd c x hr).elim (gI.ew c x he) fun hN=>by have :=(gI.apart.cell c x (gI.apart.wf c x he)).1;omega⟩
  ·exact gI.apart.within hW hc.size hc.shape
  ·exact pK.fS.above fun b hb=>dL.Ju _ _ av
  ·rcases dX _ _ g1 with⟨rfl,rfl⟩|⟨_,q⟩
   ·have h8:=vk x g3 g4 g5.1 g5;have h9:=(gI.apart.cell _ _ he).1;omega
   ·exact gI.K' b' p' x q gb g3 g4 g5 he
 have hvv:bg (ρ.put β pl) (mk β) v':=hmv (dL.kR ..);have fp:∀g',stepG P main (G (b.at a (.inRegion ops (i::rest)::k)) cs) aR= .go g' w' (listed P b.fn a o aR)->
   Stepped P main ((aB ρ m).or E) (G (b.at a (.inRegion ops (i::rest)::k)) cs) aR ((aB (ρ.put β pl) m).or E) g' w' (listed P b.fn a o aR):=fun g' hs=>
  ⟨hs,hC.or,fun e hx=> .inl (oa e hx).or,hW.or,(kV oa _).symm,fun _=>uD.low⟩
 have abC:=hn (ρ.put β pl) v' w' (dL.sZ jz pl) (fun b _ hb=>dL.Ju _ _ hb) uD hvv;rcases hy with rfl|⟨rfl,hu,rfl⟩
 ·exact⟨_,w',_,_,fp _ (stepG_value ho hw hk gR),abC⟩
 ·exfalso
  have :=mH hm.form m.shut.next;rw[hu]at this;cases this
end
end
end Go.AM
namespace Go.AM
open Go Go.Conc
def fI (o:hZ):Bool:=
 match o.op with
 | .load .. | .lookup .. | .slice .. | .alloc _| .box .. | .buildSlice .. | .makeSlice .. | .makeMap .. =>true
 |_=>false
inductive eZ (P:aE)(o:hZ)(ev:cq->af)(v:af)(m:Mem):Prop
 |pure (h:∀m,dJ P ev o m=some (v,m))
 |look (hl:looks o=true) (h:dJ P ev o m=some (v,m))
 |make (mk:Nat->af) (kb:mn) (β:Nat) (hm:M0 P o ev mk kb) (hv:v=mk β) (cN:β<m.next) (IJ:m.floor<=β) (hb:m.blk β={kb with bw:=(m.blk β).bw})
section
variable {P:aE}{o:hZ}{ev:cq->af}{v:af}{m m':Mem}
theorem KZ {ρ:dL}{x x':af}(h:bg ρ x x'):∀v,some v∈x.cells.toList.map some->∃u,bg ρ v u:=by
 intro v hv;obtain⟨y,hy,e⟩:=List.mem_map.1 hv;cases e;obtain⟨i,hi⟩:=List.mem_iff_getElem?.1 hy;obtain⟨u,_,hu⟩:=h.cells.get hi;exact⟨u,hu⟩
theorem x8 {ρ:dL}{l l':List af}(h:bM (bg ρ) l l'):∀v,some v∈l.map some->∃u,bg ρ v u:=by
 intro v hv;obtain⟨y,hy,e⟩:=List.mem_map.1 hv;cases e;obtain⟨i,hi⟩:=List.mem_iff_getElem?.1 hy;obtain⟨u,_,hu⟩:=h.get hi;exact⟨u,hu⟩
theorem eZ.made{mk:Nat->af}{kb:mn}(hk:fI o=true)(hm:M0 P o ev mk kb)(hw:Wf m)(h:dJ P ev o m=some (v,m'))(YJ:kb.live:=by refine And.intro ?_ cK;intro x hx;first |(cases hx;done)|(obtain⟨y,_,hy⟩:=List.mem_map.1 hx;rw[<-hy];simp)):lf m m'/\eZ P o ev v m'/\(fI o=false->∀m,dJ P ev o m=some (v,m)):=by
 rw[hm.op m]at h;simp only[ah,aC]at h;obtain⟨rfl,rfl⟩:=h;refine⟨lf.alloc _ _ YJ,.make mk kb m.next hm rfl (Nat.lt_succ_self _) hw.fl ?_,fun h=>by rw[hk]at h;cases h⟩;rw[Mem.cD,bL rfl]
theorem eZ.looked(hk:fI o=true)(hl:looks o=true)(h:dJ P ev o m=some (v,m'))(h2:m'=m):lf m m'/\eZ P o ev v m'/\(fI o=false->∀m,dJ P ev o m=some (v,m)):=by
 subst h2;exact⟨lf.refl _,.look hl h,fun h=>by rw[hk]at h;cases h⟩
set_option maxHeartbeats 1000000 in
theorem RG(hl:fu o=true)(hw:Wf m)(h:dJ P ev o m=some (v,m')):lf m m'/\eZ P o ev v m'/\(fI o=false->∀m,dJ P ev o m=some (v,m)):=by
 have still:∀{f:Option af},(∀m,dJ P ev o m=f.map fun v=>(v,m))->lf m m'/\eZ P o ev v m'/\(fI o=false->∀m,dJ P ev o m=some (v,m)):=fun{f} hf=>by
  rw[hf]at h;obtain⟨rfl,rfl⟩:=map_eq.1 h;exact⟨lf.refl _,.pure fun m=>by rw[hf];rfl,fun _ m=>by rw[hf];rfl⟩
 have one:∀{u:af},(∀m,dJ P ev o m=some (u,m))->lf m m'/\eZ P o ev v m'/\(fI o=false->∀m,dJ P ev o m=some (v,m)):=fun{u} hf=>still (f:=some u) hf
 unfold fu at hl
 split at hl
 ·rename_i x ho;exact one fun m=>by unfold dJ;rw[ho]
 ·rename_i x ho;exact one fun m=>by unfold dJ;rw[ho]
 ·rename_i c x y ho;cases hc:ev c with
  |bool t=>exact one (u:=if t then ev x else ev y) fun m=>by unfold dJ;rw[ho];simp only[hc]
  |_=>unfold dJ at h;rw[ho]at h;simp only[hc]at h;cases h
 ·rename_i s x f ho;exact still fun m=>by unfold dJ;rw[ho]
 ·rename_i s x f ho;exact still fun m=>by unfold dJ;rw[ho]
 ·rename_i t i ho;cases hc:ev t with
  |tuple vs=>exact still (f:=vs[i]?) fun m=>by unfold dJ;rw[ho];simp only[hc]
  |_=>unfold dJ at h;rw[ho]at h;simp only[hc]at h;cases h
 ·rename_i u t x ho;exact still fun m=>by unfold dJ;rw[ho]
 ·rename_i op t x y u ho;cases op with
  |eql=>
   cases hc:qZ P t (isConst x) (isConst y) (ev x) (ev y)with
   |some b=>exact one (u:= .bool b) fun m=>by unfold dJ;rw[ho];simp only[hc]
   |none=>exact still (f:=dp P ev o) fun m=>by unfold dJ;rw[ho];simp only[hc]
  |neq=>
   cases hc:qZ P t (isConst x) (isConst y) (ev x) (ev y)with
   |some b=>exact one (u:= .bool (!b)) fun m=>by unfold dJ;rw[ho];simp only[hc]
   |none=>exact still (f:=dp P ev o) fun m=>by unfold dJ;rw[ho];simp only[hc]
  |_=>exact still fun m=>by unfold dJ;rw[ho]
 ·rename_i t x ho;cases hu:P.underlying t with
  |none=>unfold dJ at h;rw[ho]at h;simp only[hu]at h;cases h
  |some d=>
   cases d with
   |interface _=>unfold dJ at h;rw[ho]at h;simp only[hu]at h;cases h
   |_=>exact one (u:= .iface t (ev x)) fun m=>by unfold dJ;rw[ho];simp only[hu]
 ·rename_i fn f c ho;exact one fun m=>by unfold dJ;rw[ho]
 ·rename_i x t a ok ho;exact still fun m=>by unfold dJ;rw[ho]
 ·rename_i x ho;cases hc:ev x with
  |pointer a=>cases a with
   |none=>unfold dJ at h;rw[ho]at h;simp only[hc]at h;cases h
   |some a=>exact one (u:= .pointer (some a)) fun m=>by unfold dJ;rw[ho];simp only[hc]
  |func fn first cap=>
   cases fn with
   |method name=>
    cases hf:(first[0]?:Option af)with
    |none=>unfold dJ at h;rw[ho]at h;simp only[hc,hf]at h;cases h
    |some r=>
     by_cases hm:(eW P r name).isSome=true
     ·exact one (u:= .func (.method name) first cap) fun m=>by unfold dJ;rw[ho];simp only[hc,hf,hm,if_true]
     ·unfold dJ at h;rw[ho]at h;simp only[hc,hf,hm]at h;cases h
   |_=>unfold dJ at h;rw[ho]at h;simp only[hc]at h;cases h
  |_=>unfold dJ at h;rw[ho]at h;simp only[hc]at h;cases h
 ·rename_i t x i ho;cases hc:vh P t (ev x) (ev i)with
  |some u=>exact one (u:=u) fun m=>by unfold dJ;rw[ho];simp only[hc]
  |none=>exact still (f:=dp P ev o) fun m=>by unfold dJ;rw[ho];simp only[hc]
 ·rename_i t x i ho;exact still fun m=>by unfold dJ;rw[ho]
 ·rename_i t x lo hi mx ho;refine eZ.looked (by unfold fI;rw[ho]) (by unfold looks;rw[ho]) h ?_;unfold dJ at h;rw[ho]at h;cases mx with
  |some _=>cases h
  |none=>
   simp only[]at h
   split at h
   ·simp only[ah,aC]at h;exact h.2.symm
   ·exact(map_eq.1 h).2
 ·rename_i t ps ho;exact still fun m=>by unfold dJ;rw[ho]
 ·rename_i t x ho;refine eZ.looked (by unfold fI;rw[ho]) (by unfold looks;rw[ho]) h ?_;unfold dJ at h;rw[ho]at h;exact(map_eq.1 h).2
 ·rename_i t x k ok ho;refine eZ.looked (by unfold fI;rw[ho]) (by unfold looks;rw[ho]) h ?_;unfold dJ at h;rw[ho]at h;exact(map_eq.1 h).2
 ·rename_i e ho;cases hz:jO P e with
  |none=>unfold dJ at h;rw[ho]at h;simp only[hz]at h;cases h
  |some z=>
   refine eZ.made (by unfold fI;rw[ho]) (mk:=fun β=>ptrTo β 0) (kb:={kind:=1,sz:=0,cs:=z.cells.toList.map some,pos:=1}) ⟨.inl rfl,fun m=>by unfold dJ;rw[ho];simp only[hz];rfl,.inl rfl,rfl,fun{ρ oJ} _ v hv=>?_⟩ hw h;have :=(jX hz).1;exact x8 (iY (ρ:=ρ) this) v hv
 ·rename_i e x ho;refine eZ.made (by unfold fI;rw[ho]) (mk:=fun β=>ptrTo β 0) (kb:={kind:=1,sz:=0,cs:=(ev x).cells.toList.map some,pos:=1}) ⟨.inl rfl,fun m=>by unfold dJ;rw[ho];rfl,.inl rfl,rfl,fun{ρ oJ} eh v hv=>?_⟩ hw h;exact KZ (eh x (by rw[ho];simp[Op.operands])) v hv
 ·rename_i t n ps ho;have h0:=h;unfold dJ at h0;rw[ho]at h0;simp only[]at h0;unfold ao at h0
  split at h0
  ·rename_i e hu
   split at h0
   ·rename_i size z hs hz
    split at h0
    ·cases h0
    ·rename_i jJ;obtain⟨r,hr,_⟩:=ar.1 h0;refine eZ.made (by unfold fI;rw[ho]) (mk:=fun β=> .slice (some ⟨β,0,none⟩) n n) (kb:={kind:=1,sz:=size,cs:=r.toList.map some}) ⟨.inr (.inl ⟨n,n,av,rfl⟩),fun m=>?_,.inl rfl,rfl,fun{ρ oJ} eh v hv=>?_⟩ hw h
     ·unfold dJ;rw[ho];simp only[];unfold ao;simp only[hu,hs,hz];rw[bT jJ,hr];rfl
     ·have hp:=xR (ρ:=ρ) (ev:=ev) (oJ:=oJ) (ps:=ps) (fun x hx=>eh x (by rw[ho];exact hx));obtain⟨r',_,yj⟩:=w7 hp (tK hz _) hr;exact x8 yj v hv
   ·cases h0
  ·cases h0
 ·rename_i t l c ho;have h0:=h;unfold dJ at h0;rw[ho]at h0;simp only[]at h0;unfold gh at h0
  split at h0
  ·rename_i e l' c' hu hel hec
   split at h0
   ·rename_i i z hi hz
    split at h0
    ·rename_i hc;refine eZ.made (by unfold fI;rw[ho]) (mk:=fun β=> .slice (some ⟨β,0,none⟩) l'.toNat c'.toNat) (kb:={kind:=1,sz:=i.size,cs:=(((Array.range (c'.toNat*i.size)).map (z.cells[·%z.cells.size]!)).toList.map some)}) ⟨.inr (.inl ⟨l'.toNat,c'.toNat,by unfold eP;omega,rfl⟩),fun m=>?_,.inl rfl,rfl,fun{ρ oJ} eh v hv=>?_⟩ hw h
     ·unfold dJ;rw[ho];simp only[];unfold gh;rw[hel,hec];simp only[hu,hi,hz];rw[bL hc]
     ·exact x8 (tK (ρ:=ρ) hz _) v hv
    ·cases h0
   ·cases h0
  ·cases h0
 ·rename_i t r ho;cases r with
  |some _=>unfold dJ at h;rw[ho]at h;cases h
  |none=>
   refine eZ.made (by unfold fI;rw[ho]) (mk:=fun β=> .map (some β)) (kb:={kind:=2}) ⟨.inr (.inr rfl),fun m=>by unfold dJ;rw[ho],.inr rfl,rfl,fun{ρ oJ} eh v hv=>by cases hv⟩ hw h
 ·rename_i b lO lG ho;have hml:b= .min\/b= .max\/b= .len:=by
   cases b<;>first |exact .inl rfl|exact .inr (.inl rfl)|exact .inr (.inr rfl)|cases hl
  have dF:(∀m,dJ P ev o m=(dp P ev o).map fun v=>(v,m))->lf m m'/\eZ P o ev v m'/\(fI o=false->∀m,dJ P ev o m=some (v,m)):=fun hf=>still hf
  rcases hml with rfl|rfl|rfl
  ·exact dF fun m=>by unfold dJ;rw[ho]
  ·exact dF fun m=>by unfold dJ;rw[ho]
  ·have h0:=h;unfold dJ at h0;rw[ho]at h0;simp only[]at h0
   split at h0
   ·rename_i e1 _;cases e1
   ·rename_i e1 _;cases e1
   ·rename_i e1 _;cases e1
   ·rename_i x _ hx;cases hs:(match(lG[0]?).bind P.underlying,ev x with |some (.slice _),.slice _ n _=>some n|_,_=>none:Option Nat)with
    |some n=>
     refine one (u:=goInt n) fun m=>?_
     unfold dJ;rw[ho];simp only[hx]
     split at hs
     ·rename_i h1 h2;simp only[ah]at hs;subst hs;simp only[h1,h2]
     ·cases hs
    |none=>
     refine dF fun m=>?_
     unfold dJ;rw[ho];simp only[hx]
     split at hs
     ·cases hs
     ·rename_i hn
      split
      ·rename_i h1 h2;exact absurd h2 (fun h2=>hn _ _ _ _ h1 h2)
      ·rfl
   ·rename_i e1;cases e1
   ·rename_i e1;cases e1
   ·cases h0
 ·cases hl
end
end Go.AM
namespace Go.AM
open Go Go.Conc
section
variable {P:aE}{o:hZ}{ev:cq->af}{v:af}{m m':Mem}
theorem Gt {t:aW}{x:af}{lo hi:Option af}{u:af}(hb:∀b,mS x=some b->(m.blk b).kind≠0->m'.blk b=m.blk b):jH P t x lo hi m=some u->jH P t x lo hi m'=some u:=by
 unfold jH
 split
 ·rename_i b o len cap hu
  split
  ·rename_i l h' s' e1 e2 e3
   split
   ·intro h
    split at h
    ·rename_i uw;rw[bL]
     ·exact h
     ·refine⟨uw.1,uw.2.1,?_⟩;rcases uw.2.2 with h0|h0
      ·exact .inl h0
      ·refine .inr ?_;rw[hb b rfl av];exact h0
    ·cases h
   ·exact id
  ·exact id
 ·exact id
 ·exact id
 ·exact id
theorem eZ.grow(h:eZ P o ev v m)(hw:Wf m)(g:lf m m'):eZ P o ev v m':=by
 have cN:∀b,(m.blk b).kind≠0->b<m.next:=fun b hb=>by
  rcases Nat.lt_or_ge b m.next with h1|h1
  ·exact h1
  ·exact absurd (hw.DL b h1) hb
 cases h with
 |pure h=>exact .pure h
 |make mk kb β hm hv hl IJ hb=>exact .make mk kb β hm hv (bq hl g.next) (by rw[g.floor];exact IJ) (by rw[g.blk β hl];exact hb)
 |look hl h=>
  refine .look hl ?_;unfold looks at hl
  split at hl
  ·rename_i t x ho;unfold dJ at h⊢;rw[ho]at h⊢;simp only[]at h⊢;have h1:=(map_eq.1 h).1;obtain⟨b,c,n,hx,hk,hme,hat⟩:=Hr h1;rw[hat m' (g.blk b (cN b av)) (.inr (by rw[g.bO];exact hme))];rfl
  ·rename_i t x k ok ho;unfold dJ at h⊢;rw[ho]at h⊢;simp only[]at h⊢;have h1:=(map_eq.1 h).1;rcases A9 h1 with h2|⟨b,hx,hk,zS,hat⟩
   ·rw[h2 m'];rfl
   ·rw[hat m' (g.blk b (cN b av)) (.inr (by unfold Mem.bU at zS⊢;rw[g.bO,g.home];exact zS))];rfl
  ·rename_i t x lo hi mx ho;unfold dJ at h⊢;rw[ho]at h⊢;cases mx with
   |some _=>cases h
   |none=>
    simp only[]at h⊢;have key:∀u,jH P t (ev x) (lo.map ev) (hi.map ev) m=some u->jH P t (ev x) (lo.map ev) (hi.map ev) m'=some u:=by
     exact fun u=>Gt fun b hb hk=>g.blk b (cN b hk)
    split at h
    ·rename_i u hu;rw[key u hu];simp only[ah,aC]at h⊢;exact⟨h.1,trivial⟩
    ·rename_i hu;have hp:=(map_eq.1 h).1;have dF:plain (ev x)=true:=by
      unfold dp at hp
      split at hp
      ·rename_i uz;exact Array.all_eq_true_iff_forall_mem.1 uz x (by rw[ho];simp[Op.operands])
      ·cases hp
     have hnb:∀b,mS (ev x)=some b->False:=fun b hb=>by
      cases hx:ev x with
      |pointer a=>rw[hx]at hb dF;cases a<;>simp[mS,plain,dE]at hb dF
      |slice a l c=>rw[hx]at hb dF;cases a<;>simp[mS,plain,dE]at hb dF
      |map a=>rw[hx]at hb dF;cases a<;>simp[mS,plain,dE]at hb dF
      |_=>rw[hx]at hb;cases hb
     rw[C8 (m:=m) (m':=m') fun b hb=>(hnb b hb).elim,hu];simp only[hp];rfl
  ·cases hl
theorem Hk {m₂:Mem}(hl:looks o=true)(h:dJ P ev o m=some (v,m₂)):m₂=m:=by
 unfold looks at hl
 split at hl
 ·rename_i t x ho;unfold dJ at h;rw[ho]at h;exact(map_eq.1 h).2
 ·rename_i t x k ok ho;unfold dJ at h;rw[ho]at h;exact(map_eq.1 h).2
 ·rename_i t x lo hi mx ho;unfold dJ at h;rw[ho]at h;cases mx with
  |some _=>cases h
  |none=>
   simp only[]at h
   split at h
   ·simp only[ah,aC]at h;exact h.2.symm
   ·exact(map_eq.1 h).2
 ·cases hl
theorem Ar (hl:looks o=false):jF o ev v=v:=by
 unfold jF
 split
 ·rename_i ho;unfold looks at hl;rw[ho]at hl;cases hl
 ·rename_i ho;unfold looks at hl;rw[ho]at hl;cases hl
 ·rename_i ho;unfold looks at hl;rw[ho]at hl;cases hl
 ·rfl
theorem eZ.check(h:eZ P o ev v m)(hn:m.next<=m'.next)(hb:∀b,mS (jF o ev v)=some b->m'.blk b=m.blk b)(hl:looks o=true->(dJ P ev o m').isSome=true)
  (hf:looks o=false->∀b,mS v=some b->m'.floor<=b):eZ P o ev v m':=by
 cases h with
 |pure h=>exact .pure h
 |make mk kb β hm hv cN IJ IN=>
  cases hlk:looks o with
  |true=>
   have :=Hk hlk (hm.op m);have h2:=congrArg Mem.next this;simp at h2
  |false=>
   have jz:mS v=some β:=by rw[hv];exact mH hm.form β
   rw[Ar hlk]at hb;exact .make mk kb β hm hv (bq cN hn) (hf hlk β jz) (by rw[hb β jz];exact IN)
 |look hlk h=>
  have hs:=hl hlk;refine .look hlk ?_;have abE:=hlk;unfold looks at abE
  split at abE
  ·rename_i t x ho;have Ys:jF o ev v=ev x:=by unfold jF;rw[ho]
   rw[Ys]at hb;unfold dJ at h hs⊢;rw[ho]at h hs⊢;simp only[Option.isSome_map]at h hs⊢;have h1:=(map_eq.1 h).1;obtain⟨b,c,n,hx,hk,hme,hat⟩:=Hr h1;rw[hat m' (hb b (by rw[hx];rfl)) (.inl hs)];rfl
  ·rename_i t x k ok ho;have Ys:jF o ev v=ev x:=by unfold jF;rw[ho]
   rw[Ys]at hb;unfold dJ at h hs⊢;rw[ho]at h hs⊢;simp only[Option.isSome_map]at h hs⊢;have h1:=(map_eq.1 h).1;rcases A9 h1 with h2|⟨b,hx,hk,zS,hat⟩
   ·rw[h2 m'];rfl
   ·rw[hat m' (hb b (by rw[hx];rfl)) (.inl hs)];rfl
  ·rename_i t x lo hi mx ho;have Ys:jF o ev v=ev x:=by unfold jF;rw[ho]
   rw[Ys]at hb;unfold dJ at h⊢;rw[ho]at h⊢;cases mx with
   |some _=>cases h
   |none=>
    simp only[]at h⊢;rw[C8 (m:=m) (m':=m') hb]
    split at h
    ·rename_i u hu;simp only[ah,aC]at h⊢;exact⟨h.1,trivial⟩
    ·rename_i hu;rw[(map_eq.1 h).1];rfl
  ·cases abE
end
def dz (ops:Array hZ)(i:Nat):Option Tmp:=(ops[i]?).bind (·.dst)
structure lP (ops:Array hZ)(bK:Array Nat)(nt:Nat):Prop where
 ord:xy ops bK nt
 nt:nt<=512
 uniq:∀i j d,i≠j->dz ops i=some d->dz ops j≠some d
 Zx:∀(i j:Nat) (o:hZ) (d:Tmp),ops[i]?=some o->d∈kQ ops o->j<ops.size->dz ops j=some d->B bK i j\/B bK j i
 chain:∀(k l a b:Nat),k<l->(aG ops)[k]?=some a->(aG ops)[l]?=some b->B bK b a
 steady:∀i,iu ops bK (aG ops) i=true->∀o,ops[i]?=some o->∀d∈kQ ops o,∀j,dz ops j=some d->B bK i j
section
variable {ops:Array hZ}{bK:Array Nat}{nt:Nat}
theorem KQ {i:Nat}{d:Tmp}(h:dz ops i=some d):i<ops.size:=by
 unfold dz at h;obtain⟨o,ho,_⟩:=ay.1 h;exact dM ho
theorem fL {i:Nat}:i∈aG ops↔∃o,ops[i]?=some o/\fu o=false:=by
 unfold aG;rw[List.mem_filter,List.mem_range]
 constructor
 ·rintro⟨h1,h2⟩;rw[Array.getElem?_eq_getElem h1]at h2;exact⟨_,Array.getElem?_eq_getElem h1,by simpa using h2⟩
 ·rintro⟨o,ho,hl⟩;exact⟨dM ho,by rw[ho];simp[hl]⟩
theorem Bt:(aG ops).Pairwise (·< ·):=List.Pairwise.filter _ List.pairwise_lt_range
theorem H9 {bK:Array Nat}(ht:∀{i j k:Nat},i<ops.size->B bK i j->B bK j k->B bK i k):∀{l:List Nat},(∀x∈l,x<ops.size)->xl bK l=true->∀(k m a b:Nat),k<m->l[k]?=some a->l[m]?=some b->B bK b a
 | [],_,_,k,m,a,b,_,h,_=>by simp at h
 | [x],_,_,k,m,a,b,hkm,h1,h2=>by
  cases m with
  |zero=>omega
  |succ m=>simp at h2
 |x::y::l,hl,hc,k,m,a,b,hkm,h1,h2=>by
  simp only[xl,aj]at hc;have IG:B bK y x:=hc.1;have ih:=H9 ht (l:=y::l) (fun z hz=>hl z (by simp[hz])) hc.2;cases m with
  |zero=>omega
  |succ m=>
   simp only[List.getElem?_cons_succ]at h2;cases k with
   |succ k=>
    simp only[List.getElem?_cons_succ]at h1;exact ih k m a b av h1 h2
   |zero=>
    simp only[List.getElem?_cons_zero,ah]at h1;subst h1;cases m with
    |zero=>simp only[List.getElem?_cons_zero,ah]at h2;subst h2;exact IG
    |succ m=>
     have :=ih 0 (m+1) y b av rfl h2;refine ht (hl b ?_) this IG;exact List.mem_cons_of_mem _ (List.mem_of_getElem? h2)
theorem Qh (qI:nt<=512)(h1:xl (Region.before ops) (aG ops)=true)(h2:tidy ops (Region.before ops)=true)(h3:EO ops (Region.before ops) nt=true)(h4:steady ops (Region.before ops) (aG ops)=true):lP ops (Region.before ops) nt:=by
 have ahA:=Qz h3;have Yv:∀(i j:Nat) (x y:hZ) (d:Tmp),ops[i]?=some x->ops[j]?=some y->y.dst=some d->(i=j\/x.dst≠some d)/\(d∈kQ ops x->B (Region.before ops) i j\/B (Region.before ops) j i):=by
  intro i j x y d hx hy hd;have a1:=aV.1 h2 i (List.mem_range.2 (dM hx));have a2:=aV.1 a1 j (List.mem_range.2 (dM hy));simp only[hx,hy,hd,aj,Bool.or_eq_true,beq_iff_eq,bne_iff_ne,Bool.not_eq_true']at a2;refine⟨a2.1,fun hs=>?_⟩;rcases a2.2 with h|h
  ·have :(kQ ops x).contains d=true:=by simpa using hs
   rw[this]at h;cases h
  ·exact h
 refine⟨ahA,qI,fun i j d vl hi hj=>?_,fun i j o d ho hd Bp hj=>?_,fun k l a b=>?_,fun i hc o ho d hd j hj=>?_⟩
 ·unfold dz at hi hj;obtain⟨x,hx,hxd⟩:=ay.1 hi;obtain⟨y,hy,hyd⟩:=ay.1 hj;exact(Yv i j x y d hx hy hyd).1.elim vl fun h=>h hxd
 ·unfold dz at hj;obtain⟨y,hy,hyd⟩:=ay.1 hj;exact(Yv i j o y d ho hy hyd).2 hd
 ·exact H9 (fun a b c=>ahA.trans a b c) (fun x hx=>by obtain⟨o,ho,_⟩:=fL.1 hx;exact dM ho) h1 k l a b
 ·unfold dz at hj;obtain⟨y,hy,hyd⟩:=ay.1 hj;have a1:=aV.1 h4 i (List.mem_range.2 (dM ho));simp only[hc,Bool.not_true,Bool.false_or,ho]at a1;have a2:=aV.1 a1 j (List.mem_range.2 (dM hy));simp only[hy,hyd,Bool.or_eq_true,Bool.not_eq_true']at a2;rcases a2 with h|h
  ·have :(kQ ops o).contains d=true:=by simpa using hd
   rw[this]at h;cases h
  ·exact h
theorem rG {p:Nat->Bool}:∀{l:List Nat},(∀(k m a b:Nat),k<m->l[k]?=some a->l[m]?=some b->p b=true->p a=true)->∀(k x:Nat),l[k]?=some x->(p x=true↔k<(l.filter p).length)
 | [],_,k,x,h=>by simp at h
 |y::l,hd,k,x,h=>by
  have ih:=rG (l:=l) (p:=p) fun k m a b hkm h1 h2=>hd (k+1) (m+1) a b av (by simpa using h1) (by simpa using h2)
  rw[List.filter_cons];cases hy:p y with
  |true=>
   simp only[if_true,List.length_cons];cases k with
   |zero=>simp only[List.getElem?_cons_zero,ah]at h;subst h;simp[hy]
   |succ k=>
    simp only[List.getElem?_cons_succ]at h;rw[ih k x h];omega
  |false=>
   have Pp:∀z∈l,p z=false:=fun z hz=>by
    obtain⟨m,hm⟩:=List.mem_iff_getElem?.1 hz;cases hpz:p z with
    |false=>rfl
    |true=>rw[hd 0 (m+1) y z av rfl (by simpa using hm) hpz]at hy;cases hy
   have CH:l.filter p=[]:=List.filter_eq_nil_iff.2 fun z hz=>by rw[Pp z hz];simp
   simp only[bu,if_false,CH,List.length_nil,Nat.not_lt_zero,iff_false];cases k with
   |zero=>simp only[List.getElem?_cons_zero,ah]at h;subst h;simp[hy]
   |succ k=>
    simp only[List.getElem?_cons_succ]at h;rw[Pp x (List.mem_of_getElem? h)];simp
theorem lP.pg(h:lP ops bK nt){i k x:Nat}(hi:i<ops.size)(hx:(aG ops)[k]?=some x):B bK i x↔k<cS bK (aG ops) i:=by
 unfold cS;exact rG (p:=fun h=>(bK.getD i 0).testBit h) (fun k m a b hkm h1 h2 hb=>h.ord.trans hi hb (h.chain k m a b hkm h1 h2)) k x hx
theorem lP.vX(h:lP ops bK nt){i k x:Nat}(hx:(aG ops)[k]?=some x):B bK x i↔qL bK (aG ops) i<=k:=by
 have :=rG (p:=fun h=> !(bK.getD h 0).testBit i) (l:=aG ops) (fun k m a b hkm h1 h2 hb=>by
  have cN:b<ops.size:=by obtain⟨o,ho,_⟩:=fL.1 (List.mem_of_getElem? h2);exact dM ho
  cases ha:(bK.getD a 0).testBit i with
  |false=>simp
  |true=>
   have :B bK b i:=h.ord.trans cN (h.chain k m a b hkm h1 h2) ha;unfold B at this;rw[this]at hb;cases hb) k x hx
 unfold B qL;cases hb:(bK.getD x 0).testBit i with
 |true=>rw[hb]at this;simp only[Bool.not_true,bu,false_iff,Nat.not_lt]at this;exact⟨fun _=>this,fun _=>rfl⟩
 |false=>rw[hb]at this;simp only[Bool.not_false,true_iff]at this;exact⟨fun h=>(by cases h),fun h=>absurd this (Nat.not_lt.2 h)⟩
theorem lP.DJ(h:lP ops bK nt){i:Nat}(hi:i<ops.size):cS bK (aG ops) i<=qL bK (aG ops) i:=by
 rcases Nat.lt_or_ge (qL bK (aG ops) i) (cS bK (aG ops) i)with cN|CI
 ·have hle:cS bK (aG ops) i<=(aG ops).length:=List.length_filter_le _ _;have hx:=List.getElem?_eq_getElem (show qL bK (aG ops) i<(aG ops).length by omega);have h1:=(h.pg hi hx).2 cN;have h2:=(h.vX (i:=i) hx).2 (ai _);have h3:=h.ord.trans hi h1 h2;have :=h.ord.lt hi h3;omega
 ·exact CI
theorem lP.yq(h:lP ops bK nt){i j:Nat}(hi:i<ops.size)(hb:B bK i j):cS bK (aG ops) j<=cS bK (aG ops) i:=by
 have hj:=h.ord.lt hi hb;rcases Nat.lt_or_ge (cS bK (aG ops) i) (cS bK (aG ops) j)with cN|CI
 ·have hle:cS bK (aG ops) j<=(aG ops).length:=List.length_filter_le _ _;have hx:=List.getElem?_eq_getElem (show cS bK (aG ops) i<(aG ops).length by omega);have h1:=(h.pg av hx).2 cN;have :=(h.pg hi hx).1 (h.ord.trans hi hb h1);omega
 ·exact CI
end
end Go.AM
namespace Go.AM
open Go Go.Conc
section
variable {P:aE}{ops:Array hZ}{bK:Array Nat}{nt:Nat}{call:cL}{r:Ss}{lR:Tm}
def acU (P:aE)(nt:Nat)(ops:Array hZ)(call:cL)(t:mU)(rest:iI)(tm:Tm)(m:Mem)(df:Df)(r:Ss):Prop:=
 match t with
 |(0,i,slot)=>∃eG m' me,p8 P call nt ops i tm m df eG m' me/\rest call eG m' me=some r/\(slot≠0->m.pend=[])
 |(1,i,slot)=>∃o x,ops[i]?=some o/\mz o=some x/\nt<=slot/\slot<512/\rest call (sK slot (if cT ops o tm then jG m (dH tm x)else undef) tm) m df=some r
 |(_,i,slot)=>∃o x,ops[i]?=some o/\mz o=some x/\rest call tm m df=some r/\(cT ops o tm=true->we (de slot tm) (jG m (dH tm x))=true/\
   (looks o=true->(dJ P (dH tm) o m).isSome=true)/\(looks o=false->∀b,mS (dH tm x)=some b->m.floor<=b))
theorem oS {t:mU}{rest F:iI}(h:yP P nt ops t rest=some F){tm:Tm}{m:Mem}{df:Df}(hf:F call tm m df=some r):acU P nt ops call t rest tm m df r:=by
 obtain⟨k,i,slot⟩:=t
 match k with
 |0=>
  unfold yP at h;simp only[]at h
  split at h
  ·rename_i f hF;cases h;cases slot with
   |zero=>
    obtain⟨eG,m',me,h1,h2⟩:=AW hF hf;exact⟨eG,m',me,h1,h2,fun h=>absurd rfl h⟩
   |succ n=>
    replace hf:Lz f call tm m df=some r:=hf
    unfold Lz at hf
    split at hf
    ·rename_i hp;obtain⟨eG,m',me,h1,h2⟩:=AW hF hf;exact⟨eG,m',me,h1,h2,fun _=>hp⟩
    ·cases hf
  ·cases h
 |1=>
  unfold yP at h;simp only[]at h
  split at h
  ·rename_i o ho
   split at h
   ·rename_i x hx
    split at h
    ·rename_i hc;cases h;simp only[aj,p6,jT,jE]at hc;exact⟨o,x,ho,hx,hc.1.2,hc.2,hf⟩
    ·cases h
   ·cases h
  ·cases h
 |k+2=>
  unfold yP at h;simp only[]at h
  split at h
  ·rename_i o ho
   split at h
   ·rename_i x hx;cases h;unfold rS at hf;refine⟨o,x,ho,hx,?_⟩;cases hw:cT ops o tm with
    |false=>
     rw[hw]at hf;exact⟨hf,fun h=>by cases h⟩
    |true=>
     rw[hw]at hf;simp only[if_true]at hf;cases hl:looks o with
     |true=>
      simp only[hl,if_true]at hf
      split at hf
      ·rename_i hc;simp only[aj]at hc;exact⟨hf,fun _=>⟨hc.1,fun _=>hc.2,fun h=>by cases h⟩⟩
      ·cases hf
     |false=>
      simp only[hl,bu,if_false]at hf;cases hsv:we (de slot tm) (jG m (dH tm x))with
      |false=>
       rw[hsv]at hf;cases hf
      |true=>
       rw[hsv]at hf;cases IN:mS (dH tm x)with
       |none=>
        rw[IN]at hf;exact⟨hf,fun _=>⟨rfl,fun h=>(by cases h),fun _ b hb=>by cases hb⟩⟩
       |some b=>
        rw[IN]at hf;simp only[Bool.true_and]at hf
        by_cases hle:m.floor.ble b=true
        ·rw[bL hle]at hf;refine⟨hf,fun _=>⟨rfl,fun h=>(by cases h),fun _ b' hb=>?_⟩⟩;cases hb;simpa[p6]using hle
        ·rw[bT hle]at hf;cases hf
   ·cases h
  ·cases h
theorem lB {t:mU}{T:List mU}{F:iI}(h:iB P nt ops (t::T)=some F):∃rest,iB P nt ops T=some rest/\yP P nt ops t rest=some F:=by
 unfold iB at h
 split at h
 ·rename_i rest hr;exact⟨rest,hr,h⟩
 ·cases h
theorem JL {i:Nat}{tm eG:Tm}{m m':Mem}{df me:Df}(h:p8 P call nt ops i tm m df eG m' me):∃v,eG=EL (dz ops i) v tm/\∀d,dz ops i=some d->d<512:=by
 obtain⟨o,ho,hg,_,h⟩:=h;have e:dz ops i=o.dst:=by unfold dz;rw[ho];rfl
 rw[e];rcases h with⟨_,v,_,rfl⟩|⟨_,rfl,_⟩
 ·exact⟨v,rfl,hg.2⟩
 ·exact⟨undef,rfl,hg.2⟩
theorem jy {d:Option Tmp}{t:Nat}(hd:∀x,d=some x->x<512)(ht:t<512)(v:af)(tm:Tm):de t (EL d v tm)=if d=some t then v else de t tm:=by
 unfold EL;cases d with
 |none=>simp
 |some d=>simp only[oG (hd d rfl) ht,ah]
theorem uV (qI:nt<=512):∀{T:List mU}{F:iI}{tm:Tm}{m:Mem}{df:Df},iB P nt ops T=some F->F call tm m df=some r->∀t,t<nt->(∀i x,(0,i,x)∈T->dz ops i≠some t)->de t r.tm=de t tm
 | [],F,tm,m,df,h,hf,t,ht,_=>by
  unfold iB at h;cases h;unfold Xe at hf;cases hf;rfl
 |u::T,F,tm,m,df,h,hf,t,ht,hn=>by
  obtain⟨rest,hr,hu⟩:=lB h;have hi:=oS hu hf;have ih:=fun{eG m' me} (Fs:rest call eG m' me=some r)=>uV qI hr Fs t ht fun i x hx=>hn i x (List.mem_cons_of_mem _ hx)
  obtain⟨k,i,slot⟩:=u
  match k with
  |0=>
   obtain⟨eG,m',me,ho,Fs,_⟩:=hi;rw[ih Fs];obtain⟨v,rfl,hd⟩:=JL ho;rw[jy hd av,bT (hn i slot cK)]
  |1=>
   obtain⟨o,x,_,_,h1,h2,Fs⟩:=hi;rw[ih Fs,oG h2 av,bT av]
  |k+2=>
   obtain⟨o,x,_,_,Fs,_⟩:=hi;exact ih Fs
def Ex (ops:Array hZ)(nt:Nat)(r:Ss)(lR:Tm)(S:Nat->Prop)(tm:Tm):Prop:=
 ∀t,t<nt->(∀i,S i->dz ops i=some t->de t tm=de t r.tm)/\((∀i,S i->dz ops i≠some t)->de t tm=de t lR)
def Seen (ops:Array hZ)(bK:Array Nat)(nt:Nat)(r:Ss)(lR:Tm)(i:Nat)(tm:Tm):Prop:=
 ∀o,ops[i]?=some o->∀t∈kQ ops o,t<nt->(∀j,B bK i j->dz ops j=some t->de t tm=de t r.tm)/\((∀j,B bK i j->dz ops j≠some t)->de t tm=de t lR)
theorem Ls (R:lP ops bK nt){S:Nat->Prop}{tm:Tm}(h:Ex ops nt r lR S tm){i:Nat}(h1:∀j,B bK i j->S j)(h2:∀j,S j->¬B bK j i):Seen ops bK nt r lR i tm:=by
 intro o ho t ht cN;refine⟨fun j hj hd=>(h t cN).1 j (h1 j hj) hd,fun hn=>(h t cN).2 fun j hj hd=>?_⟩;rcases R.Zx i j o t ho ht (KQ hd) hd with hb|hb
 ·exact hn j hb hd
 ·exact h2 j hj hb
theorem Lr {o:hZ}{t:Tmp}(h:cq.tmp t∈o.op.operands):t∈kQ ops o:=by
 unfold kQ;rw[List.mem_append]
 left
 rw[List.mem_filterMap];exact⟨.tmp t,by simpa using h,rfl⟩
theorem AI {o:hZ}{j:Nat}{want:Bool}{g:Tmp}(h:o.guard=some (j,want))(hg:dz ops j=some g):g∈kQ ops o:=by
 unfold kQ;rw[List.mem_append]
 right
 rw[h];unfold dz at hg;simp[hg]
theorem MG {o:hZ}{tm eG:Tm}(h:∀t∈kQ ops o,t<nt->de t tm=de t eG)(hg:∀x∈o.op.operands,qV nt P.globals.size x=true):∀x∈o.op.operands,dH tm x=dH eG x:=by
 intro x hx;cases x with
 |tmp t=>exact h t (Lr hx) (by have :=hg _ hx;simpa[qV,jT]using this)
 |_=>rfl
theorem vS {o:hZ}{tm eG:Tm}(h:∀t∈kQ ops o,t<nt->de t tm=de t eG)(hg:∀j want,o.guard=some (j,want)->∃g,dz ops j=some g/\g<nt):cT ops o tm=cT ops o eG:=by
 unfold cT;cases WW:o.guard with
 |none=>rfl
 |some p=>
  obtain⟨j,want⟩:=p;obtain⟨g,h1,h2⟩:=hg j want WW;have h3:=h1;unfold dz at h3;simp only[h3];rw[h g (AI WW h1) h2]
theorem aaC {o:hZ}(hl:looks o=true){ev oJ:cq->af}(h:∀x∈o.op.operands,ev x=oJ x)(m:Mem):dJ P ev o m=dJ P oJ o m:=by
 unfold looks at hl
 split at hl
 ·rename_i t x ho;have :=h x (by rw[ho];simp[Op.operands]);unfold dJ;rw[ho];simp only[this]
 ·rename_i t x k ok ho;have h1:=h x (by rw[ho];simp[Op.operands]);have h2:=h k (by rw[ho];simp[Op.operands]);unfold dJ;rw[ho];simp only[h1,h2]
 ·rename_i t x lo hi mx ho;have h1:=h x (by rw[ho];simp[Op.operands]);have h2:lo.map ev=lo.map oJ:=by
   cases lo with
   |none=>rfl
   |some y=>simp only[cR];rw[h y (by rw[ho];simp[Op.operands])]
  have h3:hi.map ev=hi.map oJ:=by
   cases hi with
   |none=>rfl
   |some y=>simp only[cR];rw[h y (by rw[ho];simp[Op.operands])]
  have h4:mx.map ev=mx.map oJ:=by
   cases mx with
   |none=>rfl
   |some y=>simp only[cR];rw[h y (by rw[ho];simp[Op.operands])]
  have dF:dp P ev o=dp P oJ o:=by
   unfold dp;have e1:o.op.operands.all (fun x=>plain (ev x))=o.op.operands.all (fun x=>plain (oJ x)):=by
    rw[Bool.eq_iff_iff,Array.all_eq_true_iff_forall_mem,Array.all_eq_true_iff_forall_mem];exact⟨fun g y hy=>by rw[<-h y hy];exact g y hy,fun g y hy=>by rw[h y hy];exact g y hy⟩
   have e2:execOp ev o=execOp oJ o:=by
    unfold execOp;rw[ho];simp only[h1,h2,h3,h4]
   rw[e1,e2]
  unfold dJ;rw[ho];cases mx with
  |some _=>rfl
  |none=>simp only[h1,h2,h3,dF]
 ·cases hl
theorem C1 {o:hZ}{ev oJ:cq->af}(h:∀x∈o.op.operands,ev x=oJ x)(v:af):jF o ev v=jF o oJ v:=by
 unfold jF
 split
 ·rename_i t x ho;exact h x (by rw[ho];simp[Op.operands])
 ·rename_i t x k ok ho;exact h x (by rw[ho];simp[Op.operands])
 ·rename_i t x lo hi mx ho;exact h x (by rw[ho];simp[Op.operands])
 ·rfl
structure CW (P:aE)(ops:Array hZ)(bK:Array Nat)(nt:Nat)(r:Ss)(lR:Tm)(i:Nat)(C3:Tm)(v:af)(m:Mem)(tm:Tm):Prop where
 op:∃o,ops[i]?=some o/\Zb P nt o/\(∀j want,o.guard=some (j,want)->∃g,dz ops j=some g/\g<nt)/\(∀d,o.dst=some d->d<nt->v=de d r.tm)/\
  ((cT ops o C3=false/\v=undef)\/(cT ops o C3=true/\eZ P o (dH C3) v m/\(fI o=false->∀m,dJ P (dH C3) o m=some (v,m))/\(iu ops bK (aG ops) i=true->nt+i<512/\∃m₁,Wf m₁/\Mv m₁ m/\eZ P o (dH C3) v m₁/\de (nt+i) tm=jG m₁ (jF o (dH C3) v))))
 seen:Seen ops bK nt r lR i C3
theorem Nq {a b:Nat}(h:we (.int .i64 (.ofNat a)) (.int .i64 (.ofNat b))=true):a=b:=by
 simp only[we]at h;exact aT h
theorem I9 {m m':Mem}(hw:Wf m)(hm:Mv m m'){x:af}(h:we (jG m x) (jG m' x)=true){b:Nat}(hb:mS x=some b):m'.blk b=m.blk b/\jG m x=jG m' x:=by
 unfold jG at h⊢;rw[hb]at h⊢;simp only[]at h⊢;have e:=Nq h;refine⟨?_,by rw[e]⟩;rcases hm.blk b with h1|h1
 ·exact h1
 ·have :=hw.bw b;omega
theorem C2 {o:hZ}{x:cq}(h:mz o=some x){tm:Tm}{v:af}(hv:∀d,o.dst=some d->de d tm=v):dH tm x=jF o (dH tm) v:=by
 unfold mz at h;unfold jF
 split at h
 ·rename_i t y ho;cases h;rw[ho]
 ·rename_i t y k ok ho;cases h;rw[ho]
 ·rename_i t y lo hi mx ho;cases h;rw[ho]
 ·rename_i h1 h2 h3;cases hd:o.dst with
  |none=>rw[hd]at h;cases h
  |some d=>
   rw[hd]at h;cases h
   split
   ·rename_i ho;exact absurd ho (h1 _ _)
   ·rename_i ho;exact absurd ho (h2 _ _ _ _)
   ·rename_i ho;exact absurd ho (h3 _ _ _ _ _)
   ·exact hv d hd
end
end Go.AM
namespace Go.AM
open Go Go.Conc
section
variable {P:aE}{ops:Array hZ}{bK:Array Nat}{nt:Nat}{call:cL}{r:Ss}{lR:Tm}
def xX (ops:Array hZ)(bK:Array Nat)(nt:Nat)(L:List Nat):List mU:=L.flatMap fun i=>if iu ops bK (aG ops) i then[(0,i,0),(1,i,nt+i)]else[(0,i,0)]
def Za (ops:Array hZ)(bK:Array Nat):(Nat->Prop)->List Nat->Prop
 |_,[]=>True
 |S,i::L=>(∀j,B bK i j->S j)/\(∀j,S j->¬B bK j i)/\¬S i/\(∃o,ops[i]?=some o/\fu o=true)/\Za ops bK (fun x=>S x\/x=i) L
theorem Za.Ye:∀{L:List Nat}{S:Nat->Prop},Za ops bK S L->∀x,S x->x∉L
 | [],S,_,x,_=>by simp
 |i::L,S,h,x,hx=>by
  obtain⟨_,_,h3,_,h5⟩:=h;intro hm;rcases bC.1 hm with rfl|hm
  ·exact h3 hx
  ·exact Za.Ye h5 x (.inl hx) hm
theorem RH {o:hZ}(hl:fu o=true):(∀x lO lG,o.op≠ .call {callee:= .value x,args:=lO,argTypes:=lG})/\(∀x n lO lG,o.op≠ .call {callee:= .invoke x n,args:=lO,argTypes:=lG})/\(∀c,o.op≠ .defer c):=by
 refine⟨fun x lO lG ho=>?_,fun x n lO lG ho=>?_,fun c ho=>?_⟩<;>(unfold fu at hl;rw[ho]at hl;cases hl)
theorem Kh {o:hZ}{tm:Tm}{m m':Mem}{df me:Df}{v:af}(hl:fu o=true)(h:yJ P call o tm m df v m' me):dJ P (dH tm) o m=some (v,m')/\me=df:=by
 obtain⟨n1,n2,n3⟩:=RH hl;rcases h with h|⟨f,args,hc,_⟩|⟨f,args,hd,_⟩
 ·exact h
 ·rcases hc with⟨x,lO,lG,_,_,ho,_⟩|⟨x,n,lO,lG,_,ho,_⟩
  ·exact absurd ho (n1 _ _ _)
  ·exact absurd ho (n2 _ _ _ _)
 ·obtain⟨x,lO,lG,_,_,ho,_⟩:=hd;exact absurd ho (n3 _)
def sD (P:aE)(ops:Array hZ)(i:Nat)(C3:Tm)(v:af)(β:Nat):Prop:=∃o mk kb,ops[i]?=some o/\M0 P o (dH C3) mk kb/\v=mk β/\cT ops o C3=true
theorem JG (R:lP ops bK nt){i:Nat}{o:hZ}(ho:ops[i]?=some o){t:Tmp}(ht:t∈kQ ops o):dz ops i≠some t:=by
 intro hd;have hi:=dM ho;rcases R.Zx i i o t ho ht hi hd with h|h<;>(have :=R.ord.lt hi h;omega)
theorem Ex.step(R:lP ops bK nt){S:Nat->Prop}{tm:Tm}(h:Ex ops nt r lR S tm){i:Nat}(hi:¬S i){v:af}(hd:∀d,dz ops i=some d->d<512)(hv:∀d,dz ops i=some d->d<nt->v=de d r.tm):Ex ops nt r lR (fun x=>S x\/x=i) (EL (dz ops i) v tm):=by
 intro t ht;have qI:=R.nt;rw[jy hd av]
 by_cases he:dz ops i=some t
 ·rw[bL he];exact⟨fun _ _ _=>hv t he ht,fun hn=>absurd he (hn i (.inr rfl))⟩
 ·rw[bT he];refine⟨fun j hj hdj=>?_,fun hn=>(h t ht).2 fun j hj=>hn j (.inl hj)⟩;rcases hj with hj|rfl
  ·exact(h t ht).1 j hj hdj
  ·exact absurd hdj he
theorem Ex.slot{S:Nat->Prop}{tm:Tm}(h:Ex ops nt r lR S tm)(qI:nt<=512){slot:Nat}(h1:nt<=slot)(h2:slot<512)(v:af):Ex ops nt r lR S (sK slot v tm):=by
 intro t ht;rw[oG h2 av,bT av];exact h t ht
theorem Ex.iff{S S':Nat->Prop}{tm:Tm}(h:Ex ops nt r lR S tm)(e:∀x,S x↔S' x):Ex ops nt r lR S' tm:=by
 have :S=S':=funext fun x=>propext (e x)
 rw[<-this];exact h
theorem ah3 {nt':Nat}{j:Nat}{want:Bool}{o:hZ}(h:∀j want,o.guard=some (j,want)->∃g,(ops[j]?).bind (·.dst)=some g/\g<nt/\g<512):∀j want,o.guard=some (j,want)->∃g,dz ops j=some g/\g<nt:=fun j want hg=>let⟨g,h1,h2,_⟩:=h j want hg;⟨g,h1,h2⟩
set_option maxHeartbeats 1000000 in
theorem u9(R:lP ops bK nt){T:List mU}:∀{L:List Nat}{S:Nat->Prop}{F:iI}{tm:Tm}{m:Mem}{df:Df},Za ops bK S L->(∀x y,(0,x,y)∈T->¬S x/\x∉L)->
  iB P nt ops (xX ops bK nt L++T)=some F->F call tm m df=some r->Wf m->Ex ops nt r lR S tm->
  ∃F' eG m',iB P nt ops T=some F'/\F' call eG m' df=some r/\lf m m'/\Ex ops nt r lR (fun x=>S x\/x∈L) eG/\(∀j,j∉L->nt+j<512->de (nt+j) eG=de (nt+j) tm)/\
   ∃(rV:Nat->Tm) (vI:Nat->af),(∀i∈L,CW P ops bK nt r lR i (rV i) (vI i) m' eG)/\(∀i∈L,∀β,sD P ops i (rV i) (vI i) β->m.next<=β/\β<m'.next)/\
    (∀i∈L,∀j∈L,i≠j->∀β,sD P ops i (rV i) (vI i) β->¬sD P ops j (rV j) (vI j) β)
 | [],S,F,tm,m,df,_,_,hT,hf,hw,hex=>⟨F,tm,m,hT,hf,lf.refl m,hex.iff fun x=>by simp,fun _ _ _=>rfl,fun _=>tm,fun _=>undef,cK,cK,cK⟩
 |i::L,S,F,tm,m,df,alW,hTn,hT,hf,hw,hex=>by
  obtain⟨l1,l2,l3,⟨o,ho,hl⟩,l5⟩:=alW;have qI:=R.nt;have YK:i∉L:=Za.Ye l5 i (.inr rfl);have HE:Seen ops bK nt r lR i tm:=Ls R hex l1 l2;have ed:dz ops i=o.dst:=by unfold dz;rw[ho];rfl
  have yl:∀{x y:Nat},((0,x,y):mU)∈(if iu ops bK (aG ops) i then[((1,i,nt+i):mU)]else[])++(xX ops bK nt L++T)->x≠i:=by
   intro x y hx;rcases List.mem_append.1 hx with h|h
   ·split at h
    ·simp at h
    ·simp at h
   ·rcases List.mem_append.1 h with h|h
    ·unfold xX at h;obtain⟨z,hz,h⟩:=List.mem_flatMap.1 h;have :x=z:=by
      split at h
      ·simp at h;exact h.1
      ·simp at h;exact h.1
     subst this;rintro rfl;exact YK hz
    ·rintro rfl;exact(hTn _ _ h).2 cK
  have ahW:iB P nt ops ((0,i,0)::((if iu ops bK (aG ops) i then[((1,i,nt+i):mU)]else[])++(xX ops bK nt L++T)))=some F:=by
   rw[<-hT]
   congr 1
   unfold xX;rw[List.flatMap_cons]
   split<;>simp
  obtain⟨F1,KJ,ht1⟩:=lB ahW;obtain⟨I4,m1,df1,qt,KG,_⟩:=oS ht1 hf;obtain⟨vv,anA,se⟩:=JL qt;have anm:=qt;obtain⟨o',pG,nG,j3,OM⟩:=qt;rw[ho]at pG;cases pG;have gL:∀d,dz ops i=some d->d<nt->de d I4=de d r.tm:=fun d hd cN=>(uV qI KJ KG d cN fun x y hx he=>R.uniq x i d (yl hx) he hd).symm
  obtain⟨v,hv,nN,hg1,jA⟩:∃v,I4=EL (dz ops i) v tm/\df1=df/\lf m m1/\((cT ops o tm=false/\v=undef)\/(cT ops o tm=true/\eZ P o (dH tm) v m1/\(fI o=false->∀m,dJ P (dH tm) o m=some (v,m))/\dJ P (dH tm) o m=some (v,m1))):=by
   rcases OM with⟨zj,v,hd,rfl⟩|⟨zj,rfl,rfl,rfl⟩
   ·obtain⟨h1,rfl⟩:=Kh hl hd;obtain⟨g1,g2,g3⟩:=RG hl hw h1;exact⟨v,by rw[ed],rfl,g1,.inr ⟨zj,g2,g3,h1⟩⟩
   ·exact⟨undef,by rw[ed],rfl,lf.refl _,.inl ⟨zj,rfl⟩⟩
  subst nN;have Uh:∀d,dz ops i=some d->d<nt->v=de d r.tm:=fun d hd cN=>by
   rw[<-gL d hd cN,hv,jy se (bq cN qI),bL hd]
  have IH:Wf m1:=hg1.fr.2.2 hw;have KH:Ex ops nt r lR (fun x=>S x\/x=i) I4:=by rw[hv];exact hex.step R l3 se Uh
  have fx:∀t∈kQ ops o,t<nt->de t I4=de t tm:=fun t ht cN=>by
   rw[hv,jy se (bq cN qI),bT (JG R ho ht)]
  obtain⟨F2,xH,hF2,KF,WZ,Kx,ahz⟩:∃F2 xH,iB P nt ops (xX ops bK nt L++T)=some F2/\F2 call xH m1 df1=some r/\Ex ops nt r lR (fun x=>S x\/x=i) xH/\
    (iu ops bK (aG ops) i=true->cT ops o tm=true->de (nt+i) xH=jG m1 (jF o (dH tm) v))/\(∀j,j≠i->nt+j<512->de (nt+j) xH=de (nt+j) tm):=by
   have uv:∀d,dz ops i=some d->d<nt:=fun d hd=>R.ord.dst i o d ho (by rw[<-ed];exact hd)
   have YD:∀j,nt+j<512->de (nt+j) I4=de (nt+j) tm:=fun j hj=>by
    rw[hv,jy se hj,bT];intro he;have h1:nt+j<nt:=uv _ he;omega
   by_cases hc:iu ops bK (aG ops) i=true
   ·rw[bL hc]at KJ;obtain⟨F2,hF2,ht2⟩:=lB KJ;obtain⟨o2,x,YF,hx,s1,s2,KF⟩:=oS ht2 KG;rw[ho]at YF;cases YF;refine⟨F2,_,hF2,KF,KH.slot qI s1 s2 _,fun _ zj=>?_,fun j hj hjl=>?_⟩
    ·rw[oG s2 s2,bL rfl,bL]
     ·congr 1
      rw[C2 hx (v:=v) fun d hd=>by rw[hv,jy se (se d (by rw[ed];exact hd)),bL (by rw[ed];exact hd)]];exact C1 (fun y hy=>MG fx nG.1 y hy) v
     ·rw[vS fx (fun j want hg=>let⟨g,h1,h2,_⟩:=j3 j want hg;⟨g,h1,h2⟩)];exact zj
    ·rw[oG s2 hjl,bT av];exact YD j hjl
   ·rw[bT hc]at KJ;exact⟨F1,I4,KJ,KG,KH,fun h=>absurd h hc,fun j _ hjl=>YD j hjl⟩
  obtain⟨F',eG,m',hF',Fs,KD,al2,YE,rV,vI,hp,hm1,xC⟩:=u9 R l5 (fun x y hx=>⟨fun h=>by
   rcases h with h|rfl
   ·exact(hTn x y hx).1 h
   ·exact(hTn x y hx).2 cK,fun h=>(hTn x y hx).2 (by simp[h])⟩) hF2 KF IH WZ
  refine⟨F',eG,m',hF',Fs,hg1.trans KD,al2.iff fun x=>by simp only[bC];exact⟨fun h=>h.elim (fun h=>h.elim .inl fun h=> .inr (.inl h)) fun h=> .inr (.inr h),fun h=>h.elim (fun h=> .inl (.inl h)) fun h=>h.elim (fun h=> .inl (.inr h)) .inr⟩,
   fun j hj hjl=>by rw[YE j (fun h=>hj (by simp[h])) hjl,ahz j (fun h=>hj (by simp[h])) hjl],fun x=>if x=i then tm else rV x,fun x=>if x=i then v else vI x,fun x hx=>?_,fun x hx β jz=>?_,fun x hx y hy IG β jz mJ=>?_⟩
  ·rcases bC.1 hx with rfl|Ug
   ·simp only[if_true];refine⟨⟨o,ho,nG,fun j want hg=>let⟨g,h1,h2,_⟩:=j3 j want hg;⟨g,h1,h2⟩,fun d hd cN=>Uh d (by rw[ed];exact hd) cN,?_⟩,HE⟩;rcases jA with h|⟨h1,h2,h3,h4⟩
    ·exact .inl h
    ·have cN:iu ops bK (aG ops) x=true->nt+x<512:=fun hc=>by
      rw[bL hc]at KJ;obtain⟨_,_,ht2⟩:=lB KJ;obtain⟨_,_,_,_,_,s2,_⟩:=oS ht2 KG;exact s2
     refine .inr ⟨h1,h2.grow IH KD,h3,fun hc=>⟨cN hc,m1,IH,KD.fr.w.mv,h2,?_⟩⟩;rw[YE x YK (cN hc)];exact Kx hc h1
   ·have dx:x≠i:=fun h=>YK (h▸Ug)
    simp only[dx,if_false];exact hp x Ug
  ·rcases bC.1 hx with rfl|Ug
   ·simp only[if_true]at jz;obtain⟨o2,mk,kb,YF,F9,hvm,zj⟩:=jz;rw[ho]at YF;cases YF;rcases jA with⟨h1,_⟩|⟨_,_,_,h4⟩
    ·rw[h1]at zj;cases zj
    ·rw[F9.op m]at h4;simp only[ah,aC]at h4;have e1:mS v=some m.next:=by rw[<-h4.1];exact mH F9.form _
     have e2:mS v=some β:=by rw[hvm];exact mH F9.form _
     rw[e1]at e2;cases e2;refine⟨ai _,?_⟩;have :=KD.next;have h5:m1.next=m.next+1:=by rw[<-h4.2];rfl
     omega
   ·have dx:x≠i:=fun h=>YK (h▸Ug)
    simp only[dx,if_false]at jz;have :=hm1 x Ug β jz;have :=hg1.next;omega
  ·
   have ahZ:∀z∈L,∀β,sD P ops z (rV z) (vI z) β->m1.next<=β:=fun z hz β jz=>(hm1 z hz β jz).1
   have Sp:∀β,sD P ops i tm v β->β<m1.next:=fun β jz=>by
    obtain⟨o2,mk,kb,YF,F9,hvm,zj⟩:=jz;rw[ho]at YF;cases YF;rcases jA with⟨h1,_⟩|⟨_,_,_,h4⟩
    ·rw[h1]at zj;cases zj
    ·rw[F9.op m]at h4;simp only[ah,aC]at h4;have e1:mS v=some m.next:=by rw[<-h4.1];exact mH F9.form _
     have e2:mS v=some β:=by rw[hvm];exact mH F9.form _
     rw[e1]at e2;cases e2;have h5:m1.next=m.next+1:=by rw[<-h4.2];rfl
     omega
   rcases bC.1 hx with hxe|Ug<;>rcases bC.1 hy with hye|hyL
   ·exact IG (hxe.trans hye.symm)
   ·have dx:y≠i:=fun h=>YK (h▸hyL)
    simp only[hxe,if_true]at jz;simp only[dx,if_false]at mJ;have :=ahZ y hyL β mJ;have :=Sp β jz;omega
   ·have dx:x≠i:=fun h=>YK (h▸Ug)
    simp only[dx,if_false]at jz;simp only[hye,if_true]at mJ;have :=ahZ x Ug β jz;have :=Sp β mJ;omega
   ·have h1:x≠i:=fun h=>YK (h▸Ug)
    have h2:y≠i:=fun h=>YK (h▸hyL)
    simp only[h1,if_false]at jz;simp only[h2,if_false]at mJ;exact xC x Ug y hyL IG β jz mJ
end
end Go.AM
namespace Go.AM
open Go Go.Conc
section
variable {P:aE}{X:Ext}{main:Bool}{J:JT}{F:Mem->Mem->Prop}{ops:Array hZ}{bK:Array Nat}{nt:Nat}{call:cL}{r:Ss}{lR:Tm}
theorem BV {T:List mU}:∀{C:List Nat}{F:iI}{tm:Tm}{m:Mem}{df:Df},iB P nt ops ((C.map fun i=>((2,i,nt+i):mU))++T)=some F->F call tm m df=some r->
  ∃F',iB P nt ops T=some F'/\F' call tm m df=some r/\∀i∈C,∃o x,ops[i]?=some o/\mz o=some x/\(cT ops o tm=true->we (de (nt+i) tm) (jG m (dH tm x))=true/\
   (looks o=true->(dJ P (dH tm) o m).isSome=true)/\(looks o=false->∀b,mS (dH tm x)=some b->m.floor<=b))
 | [],F,tm,m,df,h,hf=>⟨F,h,hf,cK⟩
 |i::C,F,tm,m,df,h,hf=>by
  obtain⟨F1,h1,ht⟩:=lB h;obtain⟨o,x,ho,hx,KG,hc⟩:=oS ht hf;obtain⟨F',g1,g2,g3⟩:=BV h1 KG;refine⟨F',g1,g2,fun j hj=>?_⟩;rcases bC.1 hj with rfl|hj
  ·exact⟨o,x,ho,hx,hc⟩
  ·exact g3 j hj
theorem CW.grow{i:Nat}{C3:Tm}{v:af}{m m':Mem}{tm eG:Tm}(h:CW P ops bK nt r lR i C3 v m tm)(hw:Wf m)(g:lf m m')(ht:nt+i<512->de (nt+i) eG=de (nt+i) tm):CW P ops bK nt r lR i C3 v m' eG:=by
 obtain⟨⟨o,h1,h2,h3,h4,h5⟩,h6⟩:=h;refine⟨⟨o,h1,h2,h3,h4,h5.imp id ?_⟩,h6⟩;rintro⟨g1,g2,g3,g4⟩;refine⟨g1,g2.grow hw g,g3,fun hc=>?_⟩;obtain⟨k1,m₁,k2,k3,k4,k5⟩:=g4 hc;exact⟨k1,m₁,k2,k3.trans g.fr.w.mv,k4,by rw[ht k1];exact k5⟩
theorem CW.acT(R:lP ops bK nt){i:Nat}{C3:Tm}{v:af}{m m':Mem}{tm eG:Tm}{S:Nat->Prop}(h:CW P ops bK nt r lR i C3 v m tm)(hm:Mv m m')(ht:nt+i<512->de (nt+i) eG=de (nt+i) tm)
  (hex:Ex ops nt r lR S eG)(hS:S i)(SP:∀j,B bK i j->S j)
  (hc:iu ops bK (aG ops) i=true->∃o x,ops[i]?=some o/\mz o=some x/\(cT ops o eG=true->we (de (nt+i) eG) (jG m' (dH eG x))=true/\
   (looks o=true->(dJ P (dH eG) o m').isSome=true)/\(looks o=false->∀b,mS (dH eG x)=some b->m'.floor<=b)))
  (cN:cS bK (aG ops) i<qL bK (aG ops) i):CW P ops bK nt r lR i C3 v m' eG:=by
 obtain⟨⟨o,h1,h2,h3,h4,h5⟩,h6⟩:=h;refine⟨⟨o,h1,h2,h3,h4,h5.imp id ?_⟩,h6⟩;rintro⟨g1,g2,g3,g4⟩;cases hk:fI o with
 |false=>
  have hnc:iu ops bK (aG ops) i=false:=by
   show(Nat.blt _ _&&(ops[i]?).any fI)=false
   rw[h1];simp[hk]
  exact⟨g1,.pure (g3 hk),fun _=>g3 hk,fun hc=>by rw[hnc]at hc;cases hc⟩
 |true=>
  have Um:iu ops bK (aG ops) i=true:=by
   show(Nat.blt _ _&&(ops[i]?).any fI)=true
   rw[h1];simp[hk,jT,cN]
  obtain⟨o',x,pG,hx,abN⟩:=hc Um;rw[h1]at pG;cases pG;obtain⟨k1,m₁,k2,k3,k4,k5⟩:=g4 Um;have fx:∀t∈kQ ops o,t<nt->de t C3=de t eG:=fun t ht cN=>by
   by_cases hw:∃j,dz ops j=some t
   ·obtain⟨j,hj⟩:=hw;have hb:=R.steady i Um o h1 t ht j hj;rw[(h6 o h1 t ht cN).1 j hb hj,(hex t cN).1 j (SP j hb) hj]
   ·have hn:∀j,dz ops j≠some t:=fun j hj=>hw ⟨j,hj⟩
    rw[(h6 o h1 t ht cN).2 fun j _=>hn j,(hex t cN).2 fun j _=>hn j]
  have eh:∀y∈o.op.operands,dH eG y=dH C3 y:=fun y hy=>(MG fx h2.1 y hy).symm
  obtain⟨c1,c2,c3⟩:=abN (by rw[<-vS fx h3];exact g1);have ed:dz ops i=o.dst:=by unfold dz;rw[h1];rfl
  have hdv:∀d,o.dst=some d->de d eG=v:=fun d hd=>by
   have cN:=R.ord.dst i o d h1 hd;rw[h4 d hd cN];exact(hex d cN).1 i hS (by rw[ed];exact hd)
  have Ys:dH eG x=jF o (dH C3) v:=(C2 hx hdv).trans (C1 eh v);rw[Ys,ht k1,k5]at c1;have hm1:=k3.trans hm;have kK:∀b,mS (jF o (dH C3) v)=some b->m'.blk b=m₁.blk b:=fun b hb=>(I9 k2 hm1 c1 hb).1
  refine⟨g1,k4.check hm1.next kK (fun hl=>?_) (fun hl b hb=>?_),fun h=>(by cases h),fun _=>⟨k1,m₁,k2,hm1,k4,by rw[ht k1];exact k5⟩⟩
  ·rw[<-aaC hl eh];exact c2 hl
  ·refine c3 hl b ?_;rw[Ys,Ar hl];exact hb
structure RT (nt:Nat)(ops:Array hZ)(r:Ss)(lR:Tm)(ρ:dL)(D:Nat->Prop)(a:Act):Prop where
 size:a.tmps.size=nt
 done:∀t,t<nt->∀i,D i->dz ops i=some t->bg ρ (de t r.tm) (a.tmps.getD t undef)
 old:∀t,t<nt->(∀i,D i->dz ops i≠some t)->bg ρ (de t lR) (a.tmps.getD t undef)
theorem RT.pC{ρ bH:dL}{D:Nat->Prop}{a:Act}(h:RT nt ops r lR ρ D a)(hle:ρ.le bH):RT nt ops r lR bH D a:=
 ⟨h.size,fun t ht i hi hd=>(h.done t ht i hi hd).pC hle,fun t ht hn=>(h.old t ht hn).pC hle⟩
theorem RT.step{ρ:dL}{D:Nat->Prop}{a:Act}(R:lP ops bK nt)(h:RT nt ops r lR ρ D a){i:Nat}{o:hZ}(ho:ops[i]?=some o){v v':af}(hv:bg ρ v v')(Uh:∀d,o.dst=some d->d<nt->v=de d r.tm)(ds:List Deferred):
  RT nt ops r lR ρ (fun x=>D x\/x=i) (Act.put ⟨a.tmps,ds⟩ o.dst v'):=by
 have ed:dz ops i=o.dst:=by unfold dz;rw[ho];rfl
 obtain⟨p1,p2,p3⟩:=wm ⟨a.tmps,ds⟩ o.dst v';refine⟨p2.trans h.size,fun t ht j hj hd=>?_,fun t ht hn=>?_⟩
 ·rw[p3 t (by show t<a.tmps.size;rw[h.size];exact ht)]
  by_cases he:o.dst=some t
  ·rw[bL he,<-Uh t he ht];exact hv
  ·rw[bT he];rcases hj with hj|rfl
   ·exact h.done t ht j hj hd
   ·rw[ed]at hd;exact absurd hd he
 ·have he:o.dst≠some t:=by rw[<-ed];exact hn i (.inr rfl)
  rw[p3 t (by show t<a.tmps.size;rw[h.size];exact ht),bT he];exact h.old t ht fun j hj=>hn j (.inl hj)
theorem Gx (R:lP ops bK nt){ρ:dL}{D:Nat->Prop}{a:Act}{i:Nat}{XI:Tm}(hs:Seen ops bK nt r lR i XI)(h:RT nt ops r lR ρ D a)(h1:∀j,B bK i j->D j)(h2:∀j,D j->¬B bK j i){o:hZ}(ho:ops[i]?=some o):
  ∀t∈kQ ops o,t<nt->bg ρ (de t XI) (a.tmps.getD t undef):=by
 intro t ht cN
 by_cases hw:∃j,B bK i j/\dz ops j=some t
 ·obtain⟨j,hb,hd⟩:=hw;rw[(hs o ho t ht cN).1 j hb hd];exact h.done t cN j (h1 j hb) hd
 ·rw[(hs o ho t ht cN).2 fun j hb hd=>hw ⟨j,hb,hd⟩];refine h.old t cN fun j hj hd=>?_
  rcases R.Zx i j o t ho ht (KQ hd) hd with hb|hb
  ·exact hw ⟨j,hb,hd⟩
  ·exact h2 j hj hb
theorem QC {E:Perm}{bI:aA}{σ:nq}{ρ:dL}{m:Mem}{w:aA}(H:dd P E bI σ ρ m w){a:Act}{XI:Tm}{o:hZ}(h:∀t∈kQ ops o,t<nt->bg ρ (de t XI) (a.tmps.getD t undef))(hg:∀x∈o.op.operands,qV nt P.globals.size x=true):
  ∀x∈o.op.operands,bg ρ (dH XI x) (a.eval x):=by
 intro x hx;have hgx:=hg x hx;cases x with
 |tmp t=>
  simp only[qV,jT,jE]at hgx;exact h t (Lr hx) hgx
 |const v=>exact cB hgx
 |global g=>
  simp only[qV,jT,jE]at hgx;obtain⟨p,h1,h2,h3⟩:=H.qy g hgx;exact cW.2 ⟨p,h1,rfl,by rw[h2,h3];rfl⟩
 |func f=>exact gZ.2 ⟨_,_,rfl,trivial,trivial⟩
theorem sJ {ρ:dL}{a:Act}{XI:Tm}{o:hZ}(h:∀t∈kQ ops o,t<nt->bg ρ (de t XI) (a.tmps.getD t undef))(hg:∀j want,o.guard=some (j,want)->∃g,dz ops j=some g/\g<nt)(hs:a.tmps.size=nt):
  Region.wanted o (yielded ops a.tmps)=cT ops o XI:=
 uU (fun j want hj=>let⟨g,h1,h2⟩:=hg j want hj;⟨g,h1,h2,h g (AI hj h1) h2⟩) hs
end
end Go.AM
namespace Go.AM
open Go Go.Conc
section
variable {P:aE}{X:Ext}{main:Bool}{J:JT}{F:Mem->Mem->Prop}{ops:Array hZ}{bK:Array Nat}{nt:Nat}{call:cL}{r:Ss}{lR:Tm}
def SS (ops:Array hZ)(bK:Array Nat)(pre:List Nat)(i:Nat):Prop:=((∃o,ops[i]?=some o/\fu o=true)/\cS bK (aG ops) i<pre.length)\/i∈pre
theorem cE {s i:Nat}:i∈gm ops bK (aG ops) s↔(∃o,ops[i]?=some o/\fu o=true)/\cS bK (aG ops) i=s:=by
 unfold gm;rw[List.mem_filter,List.mem_range]
 constructor
 ·rintro⟨h1,h2⟩;simp only[aj,beq_iff_eq,Array.getElem?_eq_getElem h1]at h2;exact⟨⟨_,Array.getElem?_eq_getElem h1,by simpa using h2.1⟩,h2.2⟩
 ·rintro⟨⟨o,ho,hl⟩,h2⟩;exact⟨dM ho,by simp[ho,hl,h2]⟩
theorem N1 {pre rest:List Nat}{h:Nat}(hh:aG ops=pre++h::rest):(aG ops)[pre.length]?=some h:=by rw[hh];simp
theorem Bc (R:lP ops bK nt){pre rest:List Nat}(hh:aG ops=pre++rest):Za ops bK (SS ops bK pre) (gm ops bK (aG ops) pre.length):=by
 have Mi:(gm ops bK (aG ops) pre.length).Pairwise (·< ·):=List.Pairwise.filter _ List.pairwise_lt_range;have uz:∀i∈gm ops bK (aG ops) pre.length,(∃o,ops[i]?=some o/\fu o=true)/\cS bK (aG ops) i=pre.length:=fun i hi=>cE.1 hi
 have HT:∀j,(∃o,ops[j]?=some o/\fu o=true)->cS bK (aG ops) j=pre.length->j∈gm ops bK (aG ops) pre.length:=fun j h1 h2=>cE.2 ⟨h1,h2⟩
 have vj:∀j,j∈pre->∃k,k<pre.length/\(aG ops)[k]?=some j:=fun j hj=>by
  obtain⟨k,hk,rfl⟩:=List.mem_iff_getElem.1 hj;exact⟨k,hk,by rw[hh,List.getElem?_append_left hk];exact List.getElem?_eq_getElem hk⟩
 have KI:∀i∈gm ops bK (aG ops) pre.length,∀j,B bK i j->SS ops bK pre j\/(j∈gm ops bK (aG ops) pre.length/\j<i):=by
  intro i hi j hb;obtain⟨⟨o,ho,hl⟩,hf⟩:=uz i hi;have Pq:=dM ho;have hji:=R.ord.lt Pq hb;have tU:ops[j]?=some ops[j]:=Array.getElem?_eq_getElem av;cases Mp:fu ops[j]with
  |true=>
   have hle:=R.yq Pq hb;rcases Nat.lt_or_ge (cS bK (aG ops) j) pre.length with h1|h1
   ·exact .inl (.inl ⟨⟨_,tU,Mp⟩,h1⟩)
   ·exact .inr ⟨HT j ⟨_,tU,Mp⟩ av,hji⟩
  |false=>
   have hm:j∈aG ops:=fL.2 ⟨_,tU,Mp⟩;obtain⟨k,hk⟩:=List.mem_iff_getElem?.1 hm;have YJ:=(R.pg Pq hk).1 hb;rw[hf]at YJ;rw[hh,List.getElem?_append_left YJ]at hk;exact .inl (.inr (List.mem_of_getElem? hk))
 have abB:∀i∈gm ops bK (aG ops) pre.length,¬SS ops bK pre i:=by
  intro i hi;obtain⟨⟨o,ho,hl⟩,hf⟩:=uz i hi;rintro(⟨_,h⟩|h)
  ·omega
  ·obtain⟨o',pG,Ae⟩:=fL.1 (show i∈aG ops by rw[hh];exact List.mem_append_left _ h);rw[ho]at pG;cases pG;rw[hl]at Ae;cases Ae
 have DG:∀i∈gm ops bK (aG ops) pre.length,∀j,SS ops bK pre j->¬B bK j i:=by
  intro i hi j hj hb;obtain⟨⟨o,ho,hl⟩,hf⟩:=uz i hi;rcases hj with⟨⟨o',pG,_⟩,cN⟩|hj
  ·have :=R.yq (dM pG) hb;omega
  ·obtain⟨k,hk,hkj⟩:=vj j hj;have h1:=(R.vX hkj).1 hb;have :=R.DJ (dM ho);omega
 generalize hL:gm ops bK (aG ops) pre.length=L at*;have key:∀(M L':List Nat),L=M++L'->Za ops bK (fun x=>SS ops bK pre x\/x∈M) L':=by
  intro M L'
  induction L' generalizing M with
  |nil=>intro _;trivial
  |cons i L' ih=>
   intro e;have hi:i∈L:=by rw[e];simp
   have cN:∀x∈M,x<i:=fun x hx=>by
    rw[e]at Mi;exact(List.pairwise_append.1 Mi).2.2 x hx i cK
   have hgt:∀x∈L',i<x:=fun x hx=>by
    rw[e]at Mi;exact(List.pairwise_cons.1 (List.pairwise_append.1 Mi).2.1).1 x hx
   refine⟨fun j hb=>?_,fun j hj hb=>?_,?_,(uz i hi).1,?_⟩
   ·rcases KI i hi j hb with h|⟨h,hji⟩
    ·exact .inl h
    ·rw[e]at h;rcases List.mem_append.1 h with h|h
     ·exact .inr h
     ·rcases bC.1 h with rfl|h
      ·omega
      ·have :=hgt j h;omega
   ·rcases hj with hj|hj
    ·exact DG i hi j hj hb
    ·have h1:=cN j hj;obtain⟨⟨o',pG,_⟩,_⟩:=uz j (by rw[e];simp[hj]);have :=R.ord.lt (dM pG) hb;omega
   ·rintro(h|h)
    ·exact abB i hi h
    ·have :=cN i h;omega
   ·have :=ih (M++[i]) (by rw[e];simp);have e2:(fun x=>SS ops bK pre x\/x∈M++[i])=fun x=>(SS ops bK pre x\/x∈M)\/x=i:=by
     funext x
     simp only[List.mem_append,List.mem_singleton,or_assoc]
    rw[e2]at this;exact this
 have :=key [] L rfl;simpa using this
theorem AB:∀{rest pre:List Nat},aG ops=pre++rest->∀x y,((0,x,y):mU)∈mX ops bK (aG ops) nt pre.length rest->(x∈rest\/((∃o,ops[x]?=some o/\fu o=true)/\pre.length<=cS bK (aG ops) x)):=by
 have fp:∀s x y,((0,x,y):mU)∈Ey ops bK (aG ops) nt s->(∃o,ops[x]?=some o/\fu o=true)/\cS bK (aG ops) x=s:=by
  intro s x y h;unfold Ey at h;obtain⟨z,hz,h⟩:=List.mem_flatMap.1 h;have e:x=z:=by
   split at h
   ·simp at h;exact h.1
   ·simp at h;exact h.1
  subst e;exact cE.1 hz
 intro rest
 induction rest with
 |nil=>
  intro pre hh x y h;unfold mX at h;obtain⟨h1,h2⟩:=fp _ _ _ h;exact .inr ⟨h1,av⟩
 |cons a rest ih=>
  intro pre hh x y h;unfold mX at h;rcases List.mem_append.1 h with h|h
  ·obtain⟨h1,h2⟩:=fp _ _ _ h;exact .inr ⟨h1,av⟩
  ·rcases bC.1 h with h|h
   ·cases h;exact .inl cK
   ·rcases List.mem_append.1 h with h|h
    ·unfold tY at h;obtain⟨z,_,e⟩:=List.mem_map.1 h;cases e
    ·have :=ih (pre:=pre++[a]) (by rw[hh];simp) x y (by simpa using h);rcases this with h|⟨h1,h2⟩
     ·exact .inl (by simp[h])
     ·exact .inr ⟨h1,by simp at h2;omega⟩
structure MZ (P:aE)(ops:Array hZ)(bK:Array Nat)(nt:Nat)(r:Ss)(lR:Tm)(s py:Nat)(rV:Nat->Tm)(vI:Nat->af)(m:Mem)(tm:Tm):Prop where
 pend:∀i,(∃o,ops[i]?=some o/\fu o=true)->cS bK (aG ops) i<s->s<=qL bK (aG ops) i->CW P ops bK nt r lR i (rV i) (vI i) m tm
 made:∀i,(∃o,ops[i]?=some o/\fu o=true)->cS bK (aG ops) i<s->∀β,sD P ops i (rV i) (vI i) β->py<=β/\β<m.next
 apart:∀i j,(∃o,ops[i]?=some o/\fu o=true)->(∃o,ops[j]?=some o/\fu o=true)->cS bK (aG ops) i<s->cS bK (aG ops) j<s->i≠j->∀β,sD P ops i (rV i) (vI i) β->¬sD P ops j (rV j) (vI j) β
def uh (P:aE)(J:JT)(ops:Array hZ)(bK:Array Nat)(nt:Nat)(r:Ss)(lR:Tm)(py:Nat)(pre rest:List Nat)(rV:Nat->Tm)(vI:Nat->af)(IE:Nat)(m:Mem)(df:Df)(c:Nat):Prop:=
 ∀{E:Perm}{bI:aA}{σ:nq}{ρ:dL}{w:aA}{b:Frame}{a:Act}{k:List Item}{cs:List Frame}{l:List Nat}{D:Nat->Prop}{n:Nat},b.kind≠ .early->kq ops bK D l->
  (∀h∈pre,D h)->(∀h∈rest,¬D h)->dd P E bI σ ρ m w->RT nt ops r lR ρ D a->bM (xB ρ) df a.defers->
  (∀i,(∃o,ops[i]?=some o/\fu o=true)->cS bK (aG ops) i<IE->¬D i->∀β,sD P ops i (rV i) (vI i) β->ρ β=none)->
  (∀gJ bH w' a',ρ.le bH->(∀b,b<py->bH b=ρ b)->dd P E bI gJ bH r.mem w'->sE nt bH r.tm r.df a'->J gJ n ((aB bH r.mem).or E) (G (b.at a' (.inRegion ops []::k)) cs) w')->
  J σ (n+c+l.length) ((aB ρ m).or E) (G (b.at a (.inRegion ops l::k)) cs) w
theorem vR (hJ:∀σ,gp P main (J σ))(hX:pL P X)(R:lP ops bK nt){pre rest:List Nat}(hh:aG ops=pre++rest){py:Nat}{rV:Nat->Tm}{vI:Nat->af}{m:Mem}{tm:Tm}{df:Df}{c:Nat}(hN:py<=m.next)
  (hp:MZ P ops bK nt r lR (pre.length+1) py rV vI m tm\/True)(Ml:∀i,(∃o,ops[i]?=some o/\fu o=true)->cS bK (aG ops) i<=pre.length->pre.length<=qL bK (aG ops) i->CW P ops bK nt r lR i (rV i) (vI i) m tm)
  (Dx:∀i,(∃o,ops[i]?=some o/\fu o=true)->cS bK (aG ops) i<=pre.length->∀β,sD P ops i (rV i) (vI i) β->py<=β/\β<m.next)
  (Fw:∀i j,(∃o,ops[i]?=some o/\fu o=true)->(∃o,ops[j]?=some o/\fu o=true)->cS bK (aG ops) i<=pre.length->cS bK (aG ops) j<=pre.length->i≠j->∀β,sD P ops i (rV i) (vI i) β->¬sD P ops j (rV j) (vI j) β)
  (Ft:rest=[]->∀{E:Perm}{bI:aA}{σ:nq}{ρ:dL}{w:aA}{b:Frame}{a:Act}{k:List Item}{cs:List Frame}{D:Nat->Prop}{n:Nat},b.kind≠ .early->kq ops bK D []->dd P E bI σ ρ m w->RT nt ops r lR ρ D a->bM (xB ρ) df a.defers->
   (∀gJ bH w' a',ρ.le bH->(∀b,b<py->bH b=ρ b)->dd P E bI gJ bH r.mem w'->sE nt bH r.tm r.df a'->J gJ n ((aB bH r.mem).or E) (G (b.at a' (.inRegion ops []::k)) cs) w')->
   J σ n ((aB ρ m).or E) (G (b.at a (.inRegion ops []::k)) cs) w)
  (abH:∀h Db,rest=h::Db->∀{E:Perm}{bI:aA}{σ:nq}{ρ:dL}{w:aA}{b:Frame}{a:Act}{k:List Item}{cs:List Frame}{l:List Nat}{D:Nat->Prop}{n:Nat},b.kind≠ .early->kq ops bK D (h::l)->
   (∀h∈pre,D h)->(∀h∈rest,¬D h)->dd P E bI σ ρ m w->RT nt ops r lR ρ D a->bM (xB ρ) df a.defers->
   (∀i,(∃o,ops[i]?=some o/\fu o=true)->cS bK (aG ops) i<=pre.length->¬D i->∀β,sD P ops i (rV i) (vI i) β->ρ β=none)->
   (∀gJ bH w' a',ρ.le bH->(∀b,b<py->bH b=ρ b)->dd P E bI gJ bH r.mem w'->sE nt bH r.tm r.df a'->J gJ n ((aB bH r.mem).or E) (G (b.at a' (.inRegion ops []::k)) cs) w')->
   J σ (n+c+(l.length+1)) ((aB ρ m).or E) (G (b.at a (.inRegion ops (h::l)::k)) cs) w):
  uh P J ops bK nt r lR py pre rest rV vI (pre.length+1) m df c:=by
 intro E bI σ ρ w b a k cs l
 induction l generalizing σ ρ w a with
 |nil=>
  intro D n hk hl vj gn H Du uv F9 pJ;have Sv:rest=[]:=by
   cases hr:rest with
   |nil=>rfl
   |cons h Db=>
    exfalso
    have hm:h∈aG ops:=by rw[hh,hr];simp
    obtain⟨o,ho,_⟩:=fL.1 hm;rcases hl.all h (dM ho)with h1|h1
    ·exact gn h (by rw[hr];simp) h1
    ·cases h1
  exact(hJ σ).le (show n<=n+c+0 by omega) (Ft Sv hk hl H Du uv pJ)
 |cons i l ih=>
  intro D n hk hl vj gn H Du uv F9 pJ;obtain⟨d1,d2,d3,d4⟩:=hl.head;have hoi:ops[i]?=some ops[i]:=Array.getElem?_eq_getElem d3;have DG:∀j,D j->¬B bK j i:=fun j hj hb=>d2 (hl.down j hj i hb)
  cases hli:fu ops[i]with
  |false=>
   have hm:i∈aG ops:=fL.2 ⟨_,hoi,hli⟩;rw[hh]at hm;rcases List.mem_append.1 hm with hm|hm
   ·exact absurd (vj i hm) d2
   ·cases hr:rest with
    |nil=>rw[hr]at hm;cases hm
    |cons h Db=>
     have hih:i=h:=by
      rw[hr]at hm;rcases bC.1 hm with e|hm
      ·exact e
      ·exfalso
       obtain⟨q,hq⟩:=List.mem_iff_getElem?.1 hm;have h1:(aG ops)[pre.length]?=some h:=by rw[hh,hr];simp
       have h2:(aG ops)[pre.length+1+q]?=some i:=by
        rw[hh,hr,List.getElem?_append_right av,show pre.length+1+q-pre.length=q+1 by omega];simpa using hq
       have hb:=R.chain pre.length (pre.length+1+q) h i av h1 h2;exact gn h (by rw[hr];simp) (d1 h hb)
     subst hih;exact abH i Db hr hk hl vj (by rw[hr]at gn⊢;exact gn) H Du uv (fun j h1 h2 h3=>F9 j h1 av h3) pJ
  |true=>
   have l7:∃o,ops[i]?=some o/\fu o=true:=⟨_,hoi,hli⟩;have SL:cS bK (aG ops) i<=pre.length:=by
    rcases Nat.lt_or_ge pre.length (cS bK (aG ops) i)with h1|h1
    ·exfalso
     have hle:cS bK (aG ops) i<=(aG ops).length:=List.length_filter_le _ _;have hx:=List.getElem?_eq_getElem (show pre.length<(aG ops).length by omega);have hb:=(R.pg d3 hx).2 h1;have yl:(aG ops)[pre.length]∈rest:=by
      have e:(aG ops)[pre.length]?=rest[0]?:=by rw[hh,List.getElem?_append_right (ai _),Nat.sub_self]
      rw[hx]at e;exact List.mem_of_getElem? e.symm
     exact gn _ yl (d1 _ hb)
    ·exact h1
   have ahk:pre.length<=qL bK (aG ops) i:=by
    rcases Nat.lt_or_ge (qL bK (aG ops) i) pre.length with h1|h1
    ·exfalso
     have hq:∀(q:Nat) (hq:q<pre.length),(aG ops)[q]?=some pre[q]:=fun q hq=>by rw[hh,List.getElem?_append_left hq];exact List.getElem?_eq_getElem hq
     have hx:=hq _ h1;have hb:=(R.vX hx).2 (ai _);exact DG _ (vj _ (List.getElem_mem h1)) hb
    ·exact h1
   obtain⟨⟨o,ho,nG,j3,HB,dX⟩,HE⟩:=Ml i l7 SL ahk;have WJ:=Gx R HE Du d1 DG ho;have tc:=sJ WJ j3 Du.size;have ahB:=QC H WJ nG.1;have zk:∀{bH:dL}{v':af}{w':aA},ρ.le bH->(∀b,b<m.next->(∀β,sD P ops i (rV i) (vI i) β->b≠β)->bH b=ρ b)->dd P E bI σ bH m w'->bg bH (vI i) v'->
     J σ (n+c+l.length) ((aB bH m).or E) (G (b.at (a.put o.dst v') (.inRegion ops l::k)) cs) w':=by
    intro bH v' w' hle hold H' hv;refine ih (D:=fun x=>D x\/x=i) hk d4 (fun h hm=> .inl (vj h hm)) (fun h hm hd=>?_) H' ((Du.pC hle).step R ho hv HB a.defers) (by rw[(wm a o.dst v').1];exact uv.mono fun _ _ x=>x.pC hle) (fun j h1 h2 h3 β jz=>?_) (fun gJ fj iL K8 nT ll=>pJ gJ fj iL K8 (dL.le_trans hle nT) fun b hb=>?_)
    ·rcases hd with hd|rfl
     ·exact gn h hm hd
     ·obtain⟨o',pG,Ae⟩:=fL.1 (show h∈aG ops by rw[hh];exact List.mem_append_right _ hm);rw[hoi]at pG;cases pG;rw[hli]at Ae;cases Ae
    ·rw[hold β (Dx j h1 av β jz).2 fun Eg mJ e=>?_]
     ·exact F9 j h1 h2 (fun hd=>h3 (.inl hd)) β jz
     ·subst e;exact Fw i j l7 h1 SL av (fun e=>h3 (.inr e.symm)) β mJ jz
    ·rw[ll b hb,hold b av fun β jz e=>by have :=(Dx i l7 SL β jz).1;omega]
   rcases dX with⟨Hz,hvu⟩|⟨zj,abF,_,_⟩
   ·refine(hJ σ).le (show(n+c+l.length)+1<=n+c+(l.length+1) by omega) ?_;refine qe (hJ σ) ho (tc.trans Hz) fun aR j2=>?_
    exact zk (dL.le_refl ρ) (fun _ _ _=>rfl) (H.keeps j2) (by rw[hvu];exact mA)
   ·refine(hJ σ).le (show(n+c+l.length)+1<=n+c+(l.length+1) by omega) ?_;have Sm:dJ P (dH (rV i)) o m=some (vI i,m)->J σ (n+c+l.length+1) ((aB ρ m).or E) (G (b.at a (.inRegion ops (i::l)::k)) cs) w:=fun dG=>
     z6 (hJ σ) ho (tc.trans zj) hk H ahB dG fun bH v' w' hle hold H' hv=>zk hle (fun b hb _=>hold b hb) H' hv
    cases abF with
    |pure h=>exact Sm (h m)
    |look _ h=>exact Sm h
    |make mk kb β hm hv cN IJ hb=>
     have hmo:sD P ops i (rV i) (vI i) β:=⟨o,mk,kb,ho,hm,hv,zj⟩;refine Ov hJ ho (tc.trans zj) hk H ahB hm (F9 i l7 av d2 β hmo) cN IJ hb fun bH v' w' hle hold H' Uh=>zk hle (fun b j8 iW=>hold b j8 (iW β hmo)) H' (by rw[hv];exact Uh)
end
end Go.AM
namespace Go.AM
open Go Go.Conc
section
variable {P:aE}{X:Ext}{main:Bool}{J:JT}{F:Mem->Mem->Prop}{ops:Array hZ}{bK:Array Nat}{nt:Nat}{call:cL}{r:Ss}{lR:Tm}
theorem lq {i:Nat}(h:i∈aG ops):¬∃o,ops[i]?=some o/\fu o=true:=by
 rintro⟨o,ho,hl⟩;obtain⟨o',pG,Ae⟩:=fL.1 h;rw[ho]at pG;cases pG;rw[hl]at Ae;cases Ae
theorem EM {pre rest:List Nat}(hh:aG ops=pre++rest){x:Nat}(hx:x∈rest):x∉pre:=by
 intro hp;have :=Bt (ops:=ops);rw[hh]at this;have :=(List.pairwise_append.1 this).2.2 x hp x hx;omega
theorem Jb {pre rest:List Nat}(hh:aG ops=pre++rest){x:Nat}(hx:x∈rest):¬SS ops bK pre x:=by
 rintro(⟨h,_⟩|h)
 ·exact lq (by rw[hh];exact List.mem_append_right _ hx) h
 ·exact EM hh hx h
theorem UO (R:lP ops bK nt){pre rest:List Nat}(hh:aG ops=pre++rest){i:Nat}(hl:∃o,ops[i]?=some o/\fu o=true)(hf:cS bK (aG ops) i<pre.length):∀j,B bK i j->SS ops bK pre j:=by
 intro j hb;obtain⟨o,ho,_⟩:=hl;have hi:=dM ho;have hji:=R.ord.lt hi hb;have tU:ops[j]?=some ops[j]:=Array.getElem?_eq_getElem av;cases Mp:fu ops[j]with
 |true=>
  have :=R.yq hi hb;exact .inl ⟨⟨_,tU,Mp⟩,av⟩
 |false=>
  obtain⟨q,hq⟩:=List.mem_iff_getElem?.1 (fL.2 ⟨_,tU,Mp⟩);have h1:=(R.pg hi hq).1 hb;rw[hh,List.getElem?_append_left av]at hq;exact .inr (List.mem_of_getElem? hq)
set_option maxHeartbeats 1000000 in
theorem Ja(hJ:∀σ,gp P main (J σ))(hX:pL P X)(hF:vJ F)(C:iG P X main J F call)(R:lP ops bK nt){py:Nat}:∀{rest pre:List Nat}{tm:Tm}{m:Mem}{df:Df}{F0:iI}{rV:Nat->Tm}{vI:Nat->af},aG ops=pre++rest->
  iB P nt ops (mX ops bK (aG ops) nt pre.length rest)=some F0->F0 call tm m df=some r->Wf m->Ex ops nt r lR (SS ops bK pre) tm->py<=m.next->MZ P ops bK nt r lR pre.length py rV vI m tm->
  F m r.mem/\∃c,uh P J ops bK nt r lR py pre rest rV vI pre.length m df c:=by
 intro rest
 induction rest with
 |nil=>
  intro pre tm m df F0 rV vI hh hT hf hw hex hN hp;unfold mX at hT;obtain⟨F1,I4,m1,KJ,KG,hg,KH,zP,tmL,vL,q1,q2,q3⟩:=u9 (P:=P) (call:=call) R (T:=[]) (Bc R hh) (fun x y h=>by cases h) (by rw[List.append_nil];exact hT) hf hw hex;unfold iB at KJ;cases KJ;unfold Xe at KG;simp only[ah]at KG;refine⟨hF.fr (by rw[<-KG];exact hg.fr.w),0,?_⟩;have Ku:uh P J ops bK nt r lR py pre [] (fun i=>if cS bK (aG ops) i=pre.length then tmL i else rV i) (fun i=>if cS bK (aG ops) i=pre.length then vL i else vI i) (pre.length+1) m1 df 0:=vR (P:=P) (J:=J) (c:=0) (df:=df) (r:=r) (lR:=lR) (tm:=I4) hJ hX R hh (py:=py) (rV:=fun i=>if cS bK (aG ops) i=pre.length then tmL i else rV i) (vI:=fun i=>if cS bK (aG ops) i=pre.length then vL i else vI i)
   (cM hN hg.next) (.inr trivial)
   (fun i h1 h2 h3=>by
    by_cases he:cS bK (aG ops) i=pre.length
    ·simp only[he,if_true];exact q1 i (cE.2 ⟨h1,he⟩)
    ·simp only[he,if_false];exact(hp.pend i h1 av h3).grow hw hg (zP i fun hm=>he (cE.1 hm).2))
   (fun i h1 h2 β jz=>by
    by_cases he:cS bK (aG ops) i=pre.length
    ·simp only[he,if_true]at jz;have :=q2 i (cE.2 ⟨h1,he⟩) β jz;omega
    ·simp only[he,if_false]at jz;have :=hp.made i h1 av β jz;have :=hg.next;omega)
   (fun i j h1 h2 h3 h4 vl β jz mJ=>by
    by_cases he:cS bK (aG ops) i=pre.length<;>by_cases HS:cS bK (aG ops) j=pre.length
    ·simp only[he,if_true]at jz;simp only[HS,if_true]at mJ;exact q3 i (cE.2 ⟨h1,he⟩) j (cE.2 ⟨h2,HS⟩) vl β jz mJ
    ·simp only[he,if_true]at jz;simp only[HS,if_false]at mJ;have :=q2 i (cE.2 ⟨h1,he⟩) β jz;have :=hp.made j h2 av β mJ;omega
    ·simp only[he,if_false]at jz;simp only[HS,if_true]at mJ;have :=q2 j (cE.2 ⟨h2,HS⟩) β mJ;have :=hp.made i h1 av β jz;omega
    ·simp only[he,if_false]at jz;simp only[HS,if_false]at mJ;exact hp.apart i j h1 h2 av av vl β jz mJ)
   (fun _ {E bI σ ρ w b a k cs D n} hk hl H Du uv pJ=>by
    have e:r.mem=m1:=by rw[<-KG]
    have ed:r.df=df:=by rw[<-KG]
    have et:r.tm=I4:=by rw[<-KG]
    have :=pJ σ ρ w a (dL.le_refl _) (fun _ _=>rfl) (by rw[e];exact H) ⟨Du.size,fun t ht=>by
     by_cases hw:∃i,dz ops i=some t
     ·obtain⟨i,hi⟩:=hw;refine Du.done t ht i ?_ hi;rcases hl.all i (KQ hi)with h|h
      ·exact h
      ·cases h
     ·have hn:∀i,dz ops i≠some t:=fun i hi=>hw ⟨i,hi⟩
      rw[et,(KH t ht).2 fun i _=>hn i];exact Du.old t ht fun i _=>hn i,by rw[ed];exact uv⟩
    rw[e]at this;exact this)
   (fun h Db e=>by cases e)
  intro E bI σ ρ w b a k cs l D n hk hl vj gn H Du uv F9 pJ;obtain⟨H',Sx⟩:=H.grow hg;rw[<-Sx];refine Ku hk hl vj gn H' Du uv (fun i h1 h2 h3 β jz=>?_) pJ
  by_cases he:cS bK (aG ops) i=pre.length
  ·simp only[he,if_true]at jz;have :=q2 i (cE.2 ⟨h1,he⟩) β jz;cases hρ:ρ β with
   |none=>rfl
   |some p=>have :=H.ku.nj β p hρ;omega
  ·simp only[he,if_false]at jz;exact F9 i h1 av h3 β jz
 |cons h rest ih=>
  intro pre tm m df F0 rV vI hh hT hf hw hex hN hp;have hhm:h∈aG ops:=by rw[hh];simp
  have hhl:=lq hhm;have WU:aG ops=(pre++[h])++rest:=by rw[hh];simp
  have dF:(pre++[h]).length=pre.length+1:=cK;unfold mX at hT;have hTn:∀x y,((0,x,y):mU)∈(0,h,1)::(tY ops bK (aG ops) nt pre.length++mX ops bK (aG ops) nt (pre.length+1) rest)->¬SS ops bK pre x/\x∉gm ops bK (aG ops) pre.length:=by
   intro x y hx;rcases bC.1 hx with e|hx
   ·cases e;exact⟨Jb hh cK,fun hm=>hhl (cE.1 hm).1⟩
   ·rcases List.mem_append.1 hx with hx|hx
    ·unfold tY at hx;obtain⟨z,_,e⟩:=List.mem_map.1 hx;cases e
    ·rw[<-dF]at hx;rcases AB WU x y hx with hm|⟨h1,h2⟩
     ·exact⟨Jb hh (by simp[hm]),fun YG=>lq (by rw[WU];exact List.mem_append_right _ hm) (cE.1 YG).1⟩
     ·refine⟨?_,fun hm=>by have :=(cE.1 hm).2;omega⟩;rintro(⟨_,h3⟩|h3)
      ·omega
      ·exact lq (by rw[hh];exact List.mem_append_left _ h3) h1
  obtain⟨F1,I4,m1,KJ,KG,hg,KH,zP,tmL,vL,q1,q2,q3⟩:=u9 (P:=P) (call:=call) R (Bc R hh) hTn hT hf hw hex;have IH:Wf m1:=hg.fr.2.2 hw;obtain⟨F2,hF2,ht2⟩:=lB KJ;obtain⟨xH,m2,df2,qt,KF,hpd⟩:=oS ht2 KG
  replace hpd:=hpd dB
  obtain⟨F3,hF3,hf3,abN⟩:=BV hF2 KF;obtain⟨vv,abn,se⟩:=JL qt;obtain⟨o,ho,nG,j3,OM⟩:=qt;have ed:dz ops h=o.dst:=by unfold dz;rw[ho];rfl
  generalize ahj:(fun i=>if cS bK (aG ops) i=pre.length then tmL i else rV i)=Gj;generalize alB:(fun i=>if cS bK (aG ops) i=pre.length then vL i else vI i)=XG;have eT:∀i,Gj i=if cS bK (aG ops) i=pre.length then tmL i else rV i:=fun i=>by rw[<-ahj]
  have eV:∀i,XG i=if cS bK (aG ops) i=pre.length then vL i else vI i:=fun i=>by rw[<-alB]
  have Ml:∀i,(∃o,ops[i]?=some o/\fu o=true)->cS bK (aG ops) i<=pre.length->pre.length<=qL bK (aG ops) i->CW P ops bK nt r lR i (Gj i) (XG i) m1 I4:=by
   intro i h1 h2 h3;rw[eT,eV]
   by_cases he:cS bK (aG ops) i=pre.length
   ·simp only[he,if_true];exact q1 i (cE.2 ⟨h1,he⟩)
   ·simp only[he,if_false];exact(hp.pend i h1 av h3).grow hw hg (zP i fun hm=>he (cE.1 hm).2)
  have Dx:∀i,(∃o,ops[i]?=some o/\fu o=true)->cS bK (aG ops) i<=pre.length->∀β,sD P ops i (Gj i) (XG i) β->py<=β/\β<m1.next:=by
   intro i h1 h2 β jz;rw[eT,eV]at jz
   by_cases he:cS bK (aG ops) i=pre.length
   ·simp only[he,if_true]at jz;have :=q2 i (cE.2 ⟨h1,he⟩) β jz;omega
   ·simp only[he,if_false]at jz;have :=hp.made i h1 av β jz;have :=hg.next;omega
  have Fw:∀i j,(∃o,ops[i]?=some o/\fu o=true)->(∃o,ops[j]?=some o/\fu o=true)->cS bK (aG ops) i<=pre.length->cS bK (aG ops) j<=pre.length->i≠j->∀β,sD P ops i (Gj i) (XG i) β->¬sD P ops j (Gj j) (XG j) β:=by
   intro i j h1 h2 h3 h4 vl β jz mJ;rw[eT,eV]at jz mJ
   by_cases he:cS bK (aG ops) i=pre.length<;>by_cases HS:cS bK (aG ops) j=pre.length
   ·simp only[he,if_true]at jz;simp only[HS,if_true]at mJ;exact q3 i (cE.2 ⟨h1,he⟩) j (cE.2 ⟨h2,HS⟩) vl β jz mJ
   ·simp only[he,if_true]at jz;simp only[HS,if_false]at mJ;have :=q2 i (cE.2 ⟨h1,he⟩) β jz;have :=hp.made j h2 av β mJ;omega
   ·simp only[he,if_false]at jz;simp only[HS,if_true]at mJ;have :=q2 j (cE.2 ⟨h2,HS⟩) β mJ;have :=hp.made i h1 av β jz;omega
   ·simp only[he,if_false]at jz;simp only[HS,if_false]at mJ;exact hp.apart i j h1 h2 av av vl β jz mJ
  have hSh:¬(SS ops bK pre h\/h∈gm ops bK (aG ops) pre.length):=by
   rintro(h1|h1)
   ·exact Jb hh cK h1
   ·exact hhl (cE.1 h1).1
  have SI:(aG ops)[pre.length]?=some h:=N1 hh;have ahM:h<ops.size:=dM ho;have KI:∀j,B bK h j->SS ops bK pre j\/j∈gm ops bK (aG ops) pre.length:=by
   intro j hb;have hjh:=R.ord.lt ahM hb;have tU:ops[j]?=some ops[j]:=Array.getElem?_eq_getElem av;cases Mp:fu ops[j]with
   |true=>
    have h1:=(R.vX SI).1 hb;have h2:=R.DJ (i:=j) av
    by_cases he:cS bK (aG ops) j=pre.length
    ·exact .inr (cE.2 ⟨⟨_,tU,Mp⟩,he⟩)
    ·exact .inl (.inl ⟨⟨_,tU,Mp⟩,av⟩)
   |false=>
    obtain⟨q,hq⟩:=List.mem_iff_getElem?.1 (fL.2 ⟨_,tU,Mp⟩);rcases Nat.lt_or_ge q pre.length with h1|h1
    ·rw[hh,List.getElem?_append_left h1]at hq;exact .inl (.inr (List.mem_of_getElem? hq))
    ·exfalso
     rcases Nat.eq_or_lt_of_le h1 with h2|h2
     ·rw[<-h2,SI]at hq;cases hq;omega
     ·have iW:=R.chain pre.length q h j h2 SI hq;have :=R.ord.lt av iW;omega
  have abQ:∀j,(SS ops bK pre j\/j∈gm ops bK (aG ops) pre.length)->¬B bK j h:=by
   intro j hj hb;have Mp:(∃o,ops[j]?=some o/\fu o=true)->cS bK (aG ops) j<=pre.length->False:=fun⟨o',pG,_⟩ hle=>by
    have :=(R.pg (dM pG) SI).1 hb;omega
   rcases hj with(⟨h1,h2⟩|h1)|h1
   ·exact Mp h1 av
   ·obtain⟨q,hq,rfl⟩:=List.mem_iff_getElem.1 h1;have Ac:(aG ops)[q]?=some pre[q]:=by rw[hh,List.getElem?_append_left hq];exact List.getElem?_eq_getElem hq
    have iW:=R.chain q pre.length _ _ hq Ac SI;have hpm:pre[q]∈aG ops:=by rw[hh];exact List.mem_append_left _ h1
    obtain⟨o',pG,_⟩:=fL.1 hpm;have :=R.ord.lt (dM pG) hb;have :=R.ord.lt ahM iW;omega
   ·obtain⟨h2,h3⟩:=cE.1 h1;exact Mp h2 av
  have abt:Seen ops bK nt r lR h I4:=Ls R KH KI abQ;have abw:∀x y,((0,x,y):mU)∈tY ops bK (aG ops) nt pre.length++mX ops bK (aG ops) nt (pre.length+1) rest->x≠h:=by
   intro x y hx e;subst e;rcases List.mem_append.1 hx with hx|hx
   ·unfold tY at hx;obtain⟨z,_,e⟩:=List.mem_map.1 hx;cases e
   ·rw[<-dF]at hx;rcases AB WU x y hx with hm|⟨h1,_⟩
    ·exact EM WU hm cK
    ·exact hhl h1
  have gL:∀d,dz ops h=some d->d<nt->de d xH=de d r.tm:=fun d hd cN=>(uV R.nt hF2 KF d cN fun x y hx he=>R.uniq x h d (abw x y hx) he hd).symm
  have Uh:∀d,dz ops h=some d->d<nt->vv=de d r.tm:=fun d hd cN=>by
   rw[<-gL d hd cN,abn,jy se (bq cN R.nt),bL hd]
  have WZ:Ex ops nt r lR (SS ops bK (pre++[h])) xH:=by
   rw[abn];refine(KH.step R hSh se Uh).iff fun x=>?_
   unfold SS;rw[dF,cE,List.mem_append,List.mem_singleton]
   constructor
   ·rintro(((⟨a1,a2⟩|a1)|⟨a1,a2⟩)|a1)
    ·exact .inl ⟨a1,av⟩
    ·exact .inr (.inl a1)
    ·exact .inl ⟨a1,av⟩
    ·exact .inr (.inr a1)
   ·rintro(⟨a1,a2⟩|(a1|a1))
    ·by_cases he:cS bK (aG ops) x=pre.length
     ·exact .inl (.inr ⟨a1,he⟩)
     ·exact .inl (.inl (.inl ⟨a1,av⟩))
    ·exact .inl (.inl (.inr a1))
    ·exact .inr a1
  obtain⟨ah2,ch,ahT⟩:F m1 m2/\∃ch,∀{E:Perm}{bI:aA}{σ:nq}{ρ:dL}{w:aA}{b:Frame}{a:Act}{k:List Item}{cs:List Frame}{l:List Nat}{n:Nat},b.kind≠ .early->a.tmps.size=nt->dd P E bI σ ρ m1 w->
    (∀t∈kQ ops o,t<nt->bg ρ (de t I4) (a.tmps.getD t undef))->bM (xB ρ) df a.defers->
    (∀gJ bH v' w' ds,ρ.le bH->(∀b,b<m1.next->bH b=ρ b)->dd P E bI gJ bH m2 w'->(∃v,bg bH v v'/\∀d,o.dst=some d->d<nt->v=de d r.tm)->bM (xB bH) df2 ds->J gJ n ((aB bH m2).or E) (G (b.at (Act.put ⟨a.tmps,ds⟩ o.dst v') (.inRegion ops l::k)) cs) w')->
    J σ (n+ch) ((aB ρ m1).or E) (G (b.at a (.inRegion ops (h::l)::k)) cs) w:=by
   rcases OM with⟨zj,v,hd,htv⟩|⟨zj,htv,rfl,rfl⟩
   ·obtain⟨g1,c,g2⟩:=DU (P:=P) (ops:=ops) hJ hX hF C ho IH hd;have Pn:∀d,o.dst=some d->d<nt->v=de d r.tm:=fun d CJ cN=>by
     have h1:=gL d (by rw[ed];exact CJ) cN;rw[<-h1,htv,jy (fun x hx=>se x (by rw[ed];exact hx)) (bq cN R.nt),bL CJ]
    refine⟨g1,c,fun{E bI σ ρ w b a k cs l n} hk jJ H WJ uv hn=>?_⟩;have WW:∀j want,o.guard=some (j,want)->∃g,dz ops j=some g/\g<nt:=fun j want hj=>let⟨g,k1,k2,_⟩:=j3 j want hj;⟨g,k1,k2⟩
    exact g2 hk ((sJ WJ WW jJ).trans zj) H (QC H WJ nG.1) uv fun gJ bH v' w' ds hle hold H' hv abL=>hn gJ bH v' w' ds hle (fun b hb=>hold b hb (by rw[hpd];intro s hs;cases hs)) H' ⟨v,hv,Pn⟩ abL
   ·refine⟨hF.refl _,1,fun{E bI σ ρ w b a k cs l n} hk jJ H WJ uv hn=>?_⟩;have WW:∀j want,o.guard=some (j,want)->∃g,dz ops j=some g/\g<nt:=fun j want hj=>let⟨g,k1,k2,_⟩:=j3 j want hj;⟨g,k1,k2⟩
    have Pn:∀d,o.dst=some d->d<nt->undef=de d r.tm:=fun d CJ cN=>by
     have h1:=gL d (by rw[ed];exact CJ) cN;rw[<-h1,htv,jy (fun x hx=>se x (by rw[ed];exact hx)) (bq cN R.nt),bL CJ]
    refine qe (hJ σ) ho ((sJ WJ WW jJ).trans zj) fun aR j2=>?_
    exact hn σ ρ undef aR a.defers (dL.le_refl _) (fun _ _=>rfl) (H.keeps j2) ⟨undef,mA,Pn⟩ uv
  have hMv:=hF.mv ah2;have HA:Wf m2:=hMv.wf IH;have hN2:py<=m2.next:=cM hN (cM hg.next hMv.next);have Kx:∀i,nt+i<512->de (nt+i) xH=de (nt+i) I4:=fun i hi=>by
   rw[abn,jy se hi,bT];intro he;have h1:nt+i<nt:=R.ord.dst h o _ ho (by rw[<-ed];exact he);omega
  obtain⟨hFr,cr,ahO⟩:=ih (pre:=pre++[h]) (tm:=xH) (m:=m2) (df:=df2) (F0:=F3) (rV:=Gj) (vI:=XG) WU (by rw[dF];exact hF3) hf3 HA WZ hN2 ⟨fun i h1 h2 h3=>by
    rw[dF]at h2 h3;refine(Ml i h1 av av).acT R hMv (Kx i) WZ (.inl ⟨h1,by rw[dF];omega⟩) (UO R WU h1 (by rw[dF];omega)) (fun hc=>?_) av;refine abN i ?_;rw[List.mem_filter,List.mem_range];obtain⟨o',pG,Ae⟩:=h1;refine⟨dM pG,?_⟩;simp only[pG,Option.any_some,Ae,hc,Bool.true_and,aj,jE];omega,fun i h1 h2 β jz=>by
     rw[dF]at h2;have :=Dx i h1 av β jz;have :=hMv.next;omega,fun i j h1 h2 h3 h4=>by rw[dF]at h3 h4;exact Fw i j h1 h2 av av⟩
  refine⟨hF.trans (hF.fr hg.fr.w) (hF.trans ah2 hFr),cr+ch,?_⟩;have Ku:uh P J ops bK nt r lR py pre (h::rest) Gj XG (pre.length+1) m1 df (cr+ch):=vR (P:=P) (J:=J) (c:=cr+ch) (df:=df) (r:=r) (lR:=lR) (tm:=I4) hJ hX R hh (py:=py) (rV:=Gj) (vI:=XG) (cM hN hg.next) (.inr trivial) Ml Dx Fw (fun e=>by cases e)
   (fun h' Db e {E bI σ ρ w b a k cs l D n} hk hl vj gn H Du uv F9 pJ=>by
    cases e;obtain⟨d1,d2,d3,d4⟩:=hl.head;have DG:∀j,D j->¬B bK j h:=fun j hj hb=>d2 (hl.down j hj h hb)
    have WJ:=Gx R abt Du d1 DG ho;refine(hJ σ).le (show(n+cr+l.length)+ch<=n+(cr+ch)+(l.length+1) by omega) ?_;refine ahT hk Du.size H WJ uv fun gJ bH v' w' ds hle hold H' ⟨v,hv,hvd⟩ abL=>?_
    refine ahO (D:=fun x=>D x\/x=h) hk d4 (fun x hx=>?_) (fun x hx hd=>?_) H' ((Du.pC hle).step R ho hv hvd ds) (by rw[(wm ⟨a.tmps,ds⟩ o.dst v').1];exact abL) (fun i h1 h2 h3 β jz=>?_) (fun sH fj iL K8 nT ll=>pJ sH fj iL K8 (dL.le_trans hle nT) fun b hb=>?_)
    ·rcases List.mem_append.1 hx with hx|hx
     ·exact .inl (vj x hx)
     ·exact .inr (by simpa using hx)
    ·rcases hd with hd|rfl
     ·exact gn x (by simp[hx]) hd
     ·exact EM WU hx cK
    ·rw[dF]at h2;rw[hold β (Dx i h1 av β jz).2];exact F9 i h1 av (fun hd=>h3 (.inl hd)) β jz
    ·rw[ll b hb,hold b (by have :=hg.next;omega)])
  intro E bI σ ρ w b a k cs l D n hk hl vj gn H Du uv F9 pJ;obtain⟨H',Sx⟩:=H.grow hg;rw[<-Sx];refine Ku hk hl vj gn H' Du uv (fun i h1 h2 h3 β jz=>?_) pJ;rw[eT,eV]at jz
  by_cases he:cS bK (aG ops) i=pre.length
  ·simp only[he,if_true]at jz;have :=q2 i (cE.2 ⟨h1,he⟩) β jz;cases hρ:ρ β with
   |none=>rfl
   |some p=>have :=H.ku.nj β p hρ;omega
  ·simp only[he,if_false]at jz;exact F9 i h1 av h3 β jz
end
end Go.AM
