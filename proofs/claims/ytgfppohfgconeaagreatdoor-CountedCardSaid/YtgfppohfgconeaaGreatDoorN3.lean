/-
  What the claim stands on, part 3.
-/
import Derived.Test.YtgfppohfgconeaaGreatDoorN2
import Derived.Orders
set_option linter.unusedVariables false
set_option linter.unusedSimpArgs false
open Go renaming Value → ae, Goroutine → ak, World → ay, Program → aD, TypeId → aM, IntKind → bX, Operand → cd, Oper → im
open Bool renaming and_eq_true → ag, false_eq_true → bO
open Option.some renaming injEq → ah
open Nat renaming le_refl → ai, eq_of_beq_eq_true → az, lt_of_lt_of_le → a8, le_trans → cF
open Prod.mk renaming injEq → au
open Option renaming map_eq_some_iff → aB, bind_some → aX, bind_eq_some_iff → bE, map_some → cT, isSome_iff_exists → iz
open List renaming all_eq_true → aE, mem_cons → aR
namespace Go.AM
open Go Go.Conc
def jA (P:aD)(f:Nat)(e:Array ae->Sem ae):Prop:=
 ∃fn,P.funcs[f]?=some fn/\fn.body.isNone=true/\(fn.name== "runtime.NumGoroutine")=false/\Extern.findNext fn=none/\Extern.find fn=some e
structure qf (P:aD)(X:Ext):Prop where
 names:∀(f:Nat) (fn:Func),P.funcs[f]?=some fn->fn.body.isSome=true->(fn.name== "runtime.NumGoroutine")=false
 mixed:P.follows .mixedOrders=true
 disable:jA P X.disable fun _=>do mark .disable;pure Extern.Race.none_
 enable:jA P X.enable fun _=>do mark .enable;pure Extern.Race.none_
 acquire:jA P X.acquire (Extern.Race.marked .acquire)
 tE:jA P X.tE (Extern.Race.marked .releaseMerge)
 Fx:jA P X.Fx (Extern.Atomic.casT (.int .i32))
 Kd:jA P X.Kd (Extern.Atomic.update (Op.intArith .add) .i32 true)
section
variable {P:aD}{X:Ext}{ρ:cZ}{m m':Mem}{w:ay}{N:Nat}{v:ae}
theorem rh {R:Perm}{f:Nat}{e:Array ae->Sem ae}(h:jA P f e){args:Array ae}{Q:Next->ay->Prop}(hq:dA P R N (e args) (fun v w=>Q (.value v) w) w):dA P R N (callFunc f args) Q w:=by
 obtain⟨fn,hf,hb,Je,hn,he⟩:=h;unfold callFunc;rw[ar]
 show dA P R N _ Q w
 rw[hf];simp only[];rw[bZ (by rw[Je];simp),bK hb,ar];refine⟨trivial,?_⟩;simp only[hn,he]
 show dA P R N (e args>>=fun v=>pure (Next.value v)) Q w
 rw[ar];exact hq
theorem xf {R:Perm}{f:Nat}{fn:Func}(hf:P.funcs[f]?=some fn)(hb:fn.body.isSome=true)(Je:(fn.name== "runtime.NumGoroutine")=false){args:Array ae}{Q:Next->ay->Prop}(hq:Q (.enter f args) w):dA P R N (callFunc f args) Q w:=by
 unfold callFunc;rw[ar]
 show dA P R N _ Q w
 rw[hf];simp only[];rw[bZ (by rw[Je];simp),bZ (by cases hx:fn.body<;>simp_all)];exact hq
theorem fI.deaf(h:fI ρ m w)(d:Nat):fI ρ {m with deaf:=d} w:=⟨h.my,h.cells,h.lP,h.thaw,h.maps,h.lC,h.sep,h.rr,h.vars⟩
theorem aaP {l:List ae}{x:ae}{l':List ae}(h:l=[x])(hr:bC (aP ρ) l l'):∃x',l'=[x']/\aP ρ x x':=by
 subst h
 match l',hr with
 | [x'],hr=>exact⟨x',rfl,hr.1⟩
theorem Br (hs:fI ρ m w){b o:Nat}{p:Pl}(dd:ρ b=some p){x x':ae}{m₂:Mem}(h:m.dD b o [x]=some m₂)(hx:aP ρ x x'){md:Mode}{Q:Unit->ay->Prop}(hq:∀w',Left ρ m w ρ m₂ w'->Q () w'):
  dA P (aA ρ m) N (Go.store ⟨p.c,p.d+o,none⟩ x' md) Q w:=by
 have hso:=pf (P:=P) (N:=N) hs dd h (qX:=[x']) ⟨hx,trivial⟩ (Q:=Q) fun w' hL _=>hq w' hL
 simp only[storeCells]at hso;rw[ar,jd,Nat.add_zero]at hso;exact hso
theorem Iq (hs:fI ρ m w){b o:Nat}{p:Pl}(dd:ρ b=some p){u:Int}(hl:m.dv b o 1=some [.int .i32 u]){Q:ae->ay->Prop}(hQ:Q (.int .i32 u) w):dA P (aA ρ m) N (Extern.Atomic.read (.int .i32) ⟨p.c,p.d+o,none⟩) Q w:=by
 obtain⟨z,z',g1,g2,g3,g4⟩:=hs.z0 dd hl (show 0<1 by omega);simp only[List.getElem?_cons_zero,ah]at g1;subst g1;obtain rfl:=(aG (by rfl)).1 g2;unfold Extern.Atomic.read;rw[ar];exact BM g3 g4 hQ
theorem kJ {b o:Nat}{x:ae}(hl:m.dv b o 1=some [x]):m.cell b o=some x:=by
 obtain⟨_,_,g⟩:=Mem.py hl;obtain⟨z,g1,g2⟩:=g 0 aj;simp only[List.getElem?_cons_zero,ah]at g1;subst g1;exact g2
theorem Mn (hs:fI ρ m w){b o:Nat}{p:Pl}(dd:ρ b=some p){x:ae}(hl:m.dv b o 1=some [x]){Q:Bool->ay->Prop}(hQ:Q (w.frozen? ⟨p.c,p.d+o,none⟩) w):
  dA P (aA ρ m) N (Extern.Atomic.touchesFrozen ⟨p.c,p.d+o,none⟩) Q w:=by
 obtain⟨_,_,e,n,fN,_⟩:=hs.cells b p dd (Mem.eD (kJ hl)).1;unfold Extern.Atomic.touchesFrozen viewAt;rw[ar,ar];refine EK fN ?_;exact hQ
theorem OE (hs:fI ρ m w)(hX:qf P X){f:Nat}{args:List ae}{bj:Array ae}(hr:bC (aP ρ) args bj.toList)(h:tZ X f args m=some (v,m'))(h1:f≠X.disable)(h2:f≠X.enable):
  jb m m'/\∃e,jA P f e/\∀{Q:ae->ay->Prop},(∀w',Left ρ m w ρ m' w'->aP ρ v v->Q v w')->dA P (aA ρ m) N (e bj) Q w:=by
 unfold tZ at h;rw[bZ h1,bZ h2]at h
 split at h
 ·rename_i hf;subst hf
  split at h
  ·rename_i b o;simp only[ah,au]at h;obtain⟨rfl,rfl⟩:=h;refine⟨jb.refl _,_,hX.acquire,fun hq=>?_⟩;obtain⟨x',hx,hxr⟩:=aaP rfl hr;obtain⟨p,hp,_,rfl⟩:=cH.1 hxr;have :bj=#[.pointer (some ⟨p.c,p.d+o,none⟩)]:=by apply Array.ext';simpa using hx
   subst this;exact⟨trivial,hq _ (Left.refl hs) jT⟩
  ·cases h
 ·split at h
  ·rename_i hf;subst hf
   split at h
   ·rename_i b o;simp only[ah,au]at h;obtain⟨rfl,rfl⟩:=h;refine⟨jb.refl _,_,hX.tE,fun hq=>?_⟩;obtain⟨x',hx,hxr⟩:=aaP rfl hr;obtain⟨p,hp,_,rfl⟩:=cH.1 hxr;have :bj=#[.pointer (some ⟨p.c,p.d+o,none⟩)]:=by apply Array.ext';simpa using hx
    subst this;exact⟨trivial,hq _ (Left.refl hs) jT⟩
   ·cases h
  ·split at h
   ·rename_i hf;subst hf
    split at h
    ·rename_i b o x y
     match bj,hr with
     |⟨[p',x',y']⟩,hr=>
      obtain⟨hp,hx,hy,_⟩:=hr;obtain⟨p,dd,_,rfl⟩:=cH.1 hp;obtain rfl:=(aG (by rfl)).1 hx;obtain rfl:=(aG (by rfl)).1 hy
      split at h
      ·rename_i u hl;have Dq:w.frozen? ⟨p.c,p.d+o,none⟩=false->∀{Q:ae->ay->Prop},dA P (aA ρ m) N (if(u==x)=true then(do Go.store ⟨p.c,p.d+o,none⟩ (.int .i32 y) .atomic;pure (ae.bool (u==x)))else pure (ae.bool (u==x))) Q w->
         dA P (aA ρ m) N (Extern.Atomic.casT (.int .i32) #[.pointer (some ⟨p.c,p.d+o,none⟩),.int .i32 x,.int .i32 y]) Q w:=by
        intro hz Q hQ;refine(ar (asAddr (.pointer (some ⟨p.c,p.d+o,none⟩))) _ _ _).2 ?_;refine(ar (Extern.Atomic.touchesFrozen ⟨p.c,p.d+o,none⟩) _ _ _).2 ?_;refine Mn hs dd hl ?_;rw[hz];refine(ar (Extern.Atomic.read (.int .i32) ⟨p.c,p.d+o,none⟩) _ _ _).2 ?_;refine Iq hs dd hl ?_
        show dA P (aA ρ m) N (if(u==x)=true then(do Go.store ⟨p.c,p.d+o,none⟩ (.int .i32 y) .atomic;pure (ae.bool (u==x)))else pure (ae.bool (u==x))) Q w
        by_cases hux:(u==x)=true
        ·rw[bK hux]at hQ⊢;exact hQ
        ·rw[bZ hux]at hQ⊢;exact hQ
       split at h
       ·rename_i hux;obtain⟨m2,yn,he⟩:=aB.1 h;simp only[au]at he;obtain⟨rfl,rfl⟩:=he;refine⟨jb.dD yn,_,hX.Fx,fun hq=>?_⟩;have hz:w.frozen? ⟨p.c,p.d+o,none⟩=false:=by
         obtain⟨cs,_,_,Jg,_⟩:=Mem.qj yn;exact hs.thaw b p o dd (iS hs dd (kJ hl)) (Mem.eD (kJ hl)).1 (Mem.kH Jg)
        refine Dq hz ?_;have YD:(u==x)=true:=by simpa using hux
        rw[bK YD,YD,ar];exact Br hs dd yn (bM rfl) fun w' hL=>hq w' hL (bM rfl)
       ·rename_i hux
        split at h
        ·rename_i nA;simp only[ah,au]at h;obtain⟨rfl,rfl⟩:=h;refine⟨jb.refl _,_,hX.Fx,fun hq=>?_⟩;have hz:w.frozen? ⟨p.c,p.d+o,none⟩=false:=hs.thaw b p o dd (iS hs dd (kJ hl)) (Mem.eD (kJ hl)).1 nA;refine Dq hz ?_;have YD:(u==x)=false:=by simpa using hux
         rw[YD];simp only[bO,if_false];exact hq _ (Left.refl hs) (bM rfl)
        ·cases h
      ·cases h
    ·cases h
   ·split at h
    ·rename_i hf;subst hf
     split at h
     ·rename_i b o y
      match bj,hr with
      |⟨[p',y']⟩,hr=>
       obtain⟨hp,hy,_⟩:=hr;obtain⟨p,dd,_,rfl⟩:=cH.1 hp;obtain rfl:=(aG (by rfl)).1 hy
       split at h
       ·rename_i u hl;obtain⟨m2,yn,he⟩:=aB.1 h;simp only[au]at he;obtain⟨rfl,rfl⟩:=he;refine⟨jb.dD yn,_,hX.Kd,fun hq=>?_⟩;refine(ar (asAddr (.pointer (some ⟨p.c,p.d+o,none⟩))) _ _ _).2 ?_;refine(ar (Extern.Atomic.read (.int .i32) ⟨p.c,p.d+o,none⟩) _ _ _).2 ?_;refine Iq hs dd hl ?_
        show dA P (aA ρ m) N (do Go.store ⟨p.c,p.d+o,none⟩ (.int .i32 (bX.i32.wrap (u+y))) .atomic;pure (ae.int .i32 (bX.i32.wrap (u+y)))) _ w
        rw[ar];exact Br hs dd yn (bM rfl) fun w' hL=>hq w' hL (bM rfl)
       ·cases h
     ·cases h
    ·cases h
end
end Go.AM
namespace Go.AM
open Go Go.Conc
structure Mv (m m':Mem):Prop where
 next:m.next<=m'.next
 tick:m.tick<=m'.tick
 wf:Wf m->Wf m'
 blk:∀b,m'.blk b=m.blk b\/m.tick<=(m'.blk b).a9
 pend:∀s∈m'.pend,s∈m.pend\/m.next<=s.lo
def qU (m:Mem)(ρ bq:cZ):Prop:=∀b,b<m.next->(∀s∈m.pend,¬(s.lo<=b/\b<s.hi))->bq b=ρ b
theorem qU.of{m:Mem}{ρ bq:cZ}(h:∀b,b<m.next->bq b=ρ b):qU m ρ bq:=fun b hb _=>h b hb
theorem qU.trans{m m₁:Mem}{ρ Bc eY:cZ}(hm:Mv m m₁)(h:qU m ρ Bc)(k:qU m₁ Bc eY):qU m ρ eY:=fun b hb hf=>(k b (a8 hb hm.next) fun s hs=>(hm.pend s hs).elim (hf s) fun h=>by omega).trans (h b hb hf)
theorem Mv.refl(m:Mem):Mv m m:=⟨ai _,ai _,id,fun _=> .inl rfl,fun _=> .inl⟩
theorem Mv.trans{m m₁ m₂:Mem}(h:Mv m m₁)(k:Mv m₁ m₂):Mv m m₂:=
 ⟨cF h.next k.next,cF h.tick k.tick,k.wf∘h.wf,fun b=>by
  rcases k.blk b with e|e
  ·rw[e];exact h.blk b
  ·exact .inr (cF h.tick e),fun s hs=>(k.pend s hs).elim (h.pend s) fun x=> .inr (cF h.next x)⟩
def wy (m m':Mem):Prop:=Fr m m'/\(Wf m->Wf m')
theorem jb.w{m m':Mem}(h:jb m m'):wy m m':=⟨h.1,h.2.2⟩
theorem wy.refl(m:Mem):wy m m:=⟨Fr.refl m,id⟩
theorem wy.trans{m m₁ m₂:Mem}(h:wy m m₁)(k:wy m₁ m₂):wy m m₂:=⟨h.1.trans k.1,k.2∘h.2⟩
theorem wy.mv{m m':Mem}(h:wy m m'):Mv m m':=⟨h.1.next,h.1.tick,h.2,fun b=>(h.1.blk b).imp id (·.1),fun s hs=> .inl (by rw[<-h.1.pend];exact hs)⟩
theorem wy.deaf(m:Mem)(d:Nat):wy m {m with deaf:=d}:=⟨⟨rfl,ai _,ai _,fun _=> .inl rfl⟩,fun h=>⟨h.a9,h.xM,h.bB,h.fl,h.live⟩⟩
structure wz (F:Mem->Mem->Prop):Prop where
 refl:∀m,F m m
 trans:∀{m m₁ m₂},F m m₁->F m₁ m₂->F m m₂
 fr:∀{m m'},wy m m'->F m m'
 mv:∀{m m'},F m m'->Mv m m'
theorem V8:wz wy:=⟨wy.refl,wy.trans,id,wy.mv⟩
theorem OC:wz Mv:=⟨Mv.refl,Mv.trans,wy.mv,id⟩
def yk (ρ:cZ)(d:Nat×List ae)(d':Deferred):Prop:=∃cap,d'.target= .fn (.func d.1) cap/\bC (aP ρ) d.2 (d'.args++cap).toList
theorem yk.iA{ρ bq:cZ}(h:ρ.le bq){d:Nat×List ae}{d':Deferred}(hd:yk ρ d d'):yk bq d d':=
 let⟨cap,h1,h2⟩:=hd;⟨cap,h1,h2.mono fun _ _ x=>x.iA h⟩
abbrev JT:=mA->Nat->Perm->ak->ay->Prop
def fe (P:aD)(X:Ext)(main:Bool)(J:JT)(F:Mem->Mem->Prop)(call:bJ):Prop:=
 ∀f args m v m',Wf m->call f args m=some (v,m')->F m m'/\(dE P f=false->tZ X f args m=some (v,m'))/\
  (dE P f=true->∃c,∀{E:Perm}{bg:ay}{σ:mA}{ρ:cZ}{w:ay} (bj:Array ae) (fr:Frame) (cs:List Frame) (n:Nat) (kind:CallKind),
   cQ P E bg σ ρ m w->bC (aP ρ) args bj.toList->(kind= .normal\/(kind= .deferred/\fr.mode= .returning/\f≠X.yv/\f≠X.mD))->
   (∀fX bq v' w',ρ.le bq->qU m ρ bq->cQ P E bg fX bq m' w'->aP bq v v'->J fX n ((aA bq m').or E) (G (if kind= .normal then fr.finish v' else fr) cs) w')->
   J σ (n+c) ((aA ρ m).or E) (G (Frame.enter P f bj kind) (fr::cs)) w)
section
variable {P:aD}{X:Ext}{main:Bool}{J:JT}{F:Mem->Mem->Prop}{call:bJ}{E:Perm}{bg:ay}{σ:mA}{ρ:cZ}{m m':Mem}{w:ay}
variable {b:Frame}{a:Act}{k:List Item}{cs:List Frame}{ops:Array im}{i:Nat}{rest:List Nat}{o:im}
theorem zf (ho:ops[i]?=some o)(v:ae):(b.at a (.inRegion ops (i::rest)::k)).finish v=b.at (a.put o.dst v) (.inRegion ops rest::k):=by rw[Frame.finish_at,ho];rfl
theorem q5 (hJ:∀σ,gi P main (J σ))(H:cQ P E bg σ ρ m w){g:ak}(hg:g.status= .running){n:Nat}
  (h:∀aN,cQ P E bg σ ρ m aN->∃g' bq m' w' es,stepG P main g aN= .go g' w' es/\Left ρ m aN bq m' w'/\s8 (aA ρ m) aN.heap.size aN w'/\(∀e∈es,EvW (aA ρ m) e)/\m'.deaf=deafBehind m.deaf es/\
   J σ n ((aA bq m').or E) g' w'):J σ (n+1) ((aA ρ m).or E) g w:=by
 refine(hJ σ).step hg fun aN hk=>?_
 obtain⟨g',bq,m',w',es,h1,h2,h3,h4,h5,h6⟩:=h aN (H.keeps hk);have ha:=(H.keeps hk).apart.within h2.within h3.size h3.shape;exact⟨g',w',es,_,⟨h1,h3.or,fun e he=>(h4 e he).imp nT.or id,h2.within.or,h5,fun _=>vG h2.jF ha⟩,h6⟩
theorem zn {R:Perm}{N:Nat}{ev:cd->ae}(hX:qf P X){f:Nat}{args:List ae}(hc:Dp P o ev f args)(dP:∀x∈o.op.operands,aP ρ (ev x) (a.eval x))
  {Q:Next->ay->Prop}(hq:∀bj,bC (aP ρ) args bj.toList->dA P R N (callFunc f bj) Q w):dA P R N (execOp a.eval o) Q w:=by
 rcases hc with⟨x,lG,ly,first,cap,ho,hx,rfl⟩|⟨r,name,lG,ly,recv,ho,hm,rfl⟩
 ·unfold execOp;rw[ho];simp only[];have Vk:x∈o.op.operands:=by rw[ho];simp[Op.operands,Call.operands]
  have hr:=dP x Vk;rw[hx]at hr;obtain⟨f',c',e,h1,h2⟩:=fO.1 hr;rw[ar];have Cd:resolve a.eval {callee:= .value x,args:=lG,argTypes:=ly} o.type=pure {target:= .fn (.func f) c',args:=f'++lG.map a.eval}:=by
   unfold resolve;simp only[e,Deferred.ofValue]
  rw[Cd]
  show dA P R N (callFunc f (f'++lG.map a.eval++c')) Q w
  refine hq _ ?_;simp only[Array.toList_append,Array.toList_map];refine(h1.append (bC.px fun y hy=>dP y ?_)).append h2;rw[ho];simp only[Op.operands,Call.operands,Array.mem_append];exact .inr (by simpa using hy)
 ·unfold execOp;rw[ho];simp only[];have hrm:r∈o.op.operands:=by rw[ho];simp[Op.operands,Call.operands]
  obtain⟨t,u,u',it,mt,e,h1,h2,rfl,h4,h5,h6,h7,h8,h9⟩:=zW (dP r hrm) hm;rw[ar];have Cd:resolve a.eval {callee:= .invoke r name,args:=lG,argTypes:=ly} o.type=pure {target:= .fn (.method name) #[],args:=#[.iface t u']++lG.map a.eval}:=by
   unfold resolve;simp only[h2]
  rw[Cd]
  show dA P R N (invoke (.fn (.method name) #[]) (#[.iface t u']++lG.map a.eval)) Q w
  unfold invoke;simp only[];have e0:(#[ae.iface t u']++lG.map a.eval)[0]?=some (.iface t u'):=by rw[<-Array.getElem?_toList];simp
  rw[e0];simp only[];unfold callMethod;simp only[];rw[ar]
  show dA P R N (method (P.types.size+Made.depth) t u' name>>=_) Q w
  rw[ar];have hdp:0<Made.depth:=gC;obtain⟨d,hd⟩:∃d,P.types.size+Made.depth=d+1:=⟨P.types.size+Made.depth-1,aj⟩;rw[hd];unfold method;rw[ar];refine gU h5 ?_;rw[h7];simp only[h8,follow,pure_bind,h9];rw[ar];unfold receiverAt;rw[ar];refine aH h6 ?_;simp only[Place.get]
  show dA P R N (callFunc f _) Q w
  refine hq _ ?_;have e1:(#[u']++(#[ae.iface t u']++lG.map a.eval).extract 1 (#[ae.iface t u']++lG.map a.eval).size).toList=u'::lG.toList.map a.eval:=by
   simp only[Array.toList_append,Array.toList_extract,List.extract_eq_take_drop];simp;exact List.take_of_length_le cY
  rw[e1];refine⟨h4,bC.px fun y hy=>dP y ?_⟩;rw[ho];simp only[Op.operands,Call.operands,Array.mem_append];exact .inr (by simpa using hy)
theorem Fy (hJ:∀σ,gi P main (J σ))(hX:qf P X)(ho:ops[i]?=some o)(hw:Region.wanted o (yielded ops a.tmps)=true)(hk:b.kind≠ .early)(H:cQ P E bg σ ρ m w){ev:cd->ae}
  (dP:∀x∈o.op.operands,aP ρ (ev x) (a.eval x)){f:Nat}{args:List ae}(hc:Dp P o ev f args)(hb:dE P f=true){n:Nat}
  (hn:∀aN bj,cQ P E bg σ ρ m aN->bC (aP ρ) args bj.toList->J σ n ((aA ρ m).or E) (G (Frame.enter P f bj .normal) (b.at a (.inRegion ops (i::rest)::k)::cs)) aN):
  J σ (n+1) ((aA ρ m).or E) (G (b.at a (.inRegion ops (i::rest)::k)) cs) w:=by
 refine q5 hJ H rfl fun aN gp=>?_
 obtain⟨fn,hf,ry⟩:∃fn,P.funcs[f]?=some fn/\fn.body.isSome=true:=by
  unfold dE at hb;cases hf:P.funcs[f]? with
  |none=>rw[hf]at hb;simp at hb
  |some fn=>exact⟨fn,rfl,by rw[hf]at hb;simpa using hb⟩
 obtain⟨nx,w',gY,⟨bj,hr,rfl,DT⟩,E5,he⟩:=mI (P:=P) (R:=aA ρ m) (N:=aN.heap.size) (Q:=fun nx w'=>∃bj,bC (aP ρ) args bj.toList/\nx= .enter f bj/\w'=aN) (ai _)
  (zn (w:=aN) hX hc dP fun bj hr=>xf hf ry (hX.names f fn hf ry) ⟨bj,hr,rfl,rfl⟩)
 rw[DT]at gY;obtain⟨evs,y7,ep⟩:=he #[];have mo:∀e∈listed P b.fn a o aN,nT (aA ρ m) e:=fun e hx=>ep e (by have :=mem_listed hx;rw[y7]at this;simpa using this)
 exact⟨_,ρ,m,aN,_,stepG_enter ho hw hk gY,Left.refl gp.jF,s8.refl ..,fun e he=> .inl (mo e he),(kI mo _).symm,hn aN bj gp hr⟩
theorem J4 {f:Nat}(hb:dE P f=true):∃fn,P.funcs[f]?=some fn/\fn.body.isSome=true:=by
 unfold dE at hb;cases hf:P.funcs[f]? with
 |none=>rw[hf]at hb;simp at hb
 |some fn=>exact⟨fn,rfl,by rw[hf]at hb;simpa using hb⟩
theorem JU {ev:cd->ae}{f:Nat}{args:List ae}(hc:Dp P o ev f args)(dP:∀x∈o.op.operands,aP ρ (ev x) (a.eval x))(ha:args=[]):
  execOp a.eval o=callFunc f #[]:=by
 rcases hc with⟨x,lG,ly,first,cap,ho,hx,rfl⟩|⟨r,name,lG,ly,recv,ho,hm,rfl⟩
 ·simp only[List.append_eq_nil_iff,Array.toList_eq_nil_iff,List.map_eq_nil_iff]at ha;obtain⟨⟨rfl,rfl⟩,rfl⟩:=ha;have Vk:x∈o.op.operands:=by rw[ho];simp[Op.operands,Call.operands]
  have hr:=dP x Vk;rw[hx]at hr;obtain⟨f',c',e,h1,h2⟩:=fO.1 hr;have e1:f'=#[]:=by
   have :=h1.length;simpa[eq_comm]using this
  have e2:c'=#[]:=by
   have :=h2.length;simpa[eq_comm]using this
  subst e1 e2;unfold execOp;rw[ho];simp[resolve,Deferred.ofValue,e,invoke]
 ·cases ha
theorem En (mk:Mark)(hm:∀g,mk≠ .extern g)(ho:ops[i]?=some o)(hw:Region.wanted o (yielded ops a.tmps)=true)(hk:b.kind≠ .early){f:Nat}(e1:execOp a.eval o=callFunc f #[])
  (hf:jA P f fun _=>do mark mk;pure Extern.Race.none_)(w:ay):
  stepG P main (G (b.at a (.inRegion ops (i::rest)::k)) cs) w= .go (G (b.at (a.put o.dst (.tuple #[])) (.inRegion ops rest::k)) cs) w #[⟨.mark mk,false,true⟩]:=by
 obtain⟨fn,h1,h2,h3,h4,h5⟩:=hf;rw[stepG_value (v:= .tuple #[]) (w':=w) ho hw hk (by rw[e1,run_callFunc_extern h1 h3 h2 h4 h5];simp[Extern.Race.none_])];unfold listed;rw[e1,events_callFunc_extern h1 h3 h2 h4 h5];simp only[List.push_toArray,List.nil_append];rw[show((do mark mk;pure Extern.Race.none_:Sem ae)).events P w [⟨.mark (.extern f),false,true⟩].toArray=#[⟨.mark (.extern f),false,true⟩]++#[⟨.mark mk,false,true⟩] by simp];rw[seen_entry _ _ _ (by
  intro x hx;simp at hx;subst hx;exact⟨rfl,fun g h=>hm g (by cases h;rfl)⟩)]
theorem fI.aaE(H:cQ P E bg σ ρ m w)(d:Nat):cQ P E bg σ ρ {m with deaf:=d} w:=
 ⟨H.jF.deaf d,H.rest,⟨H.apart.cell,H.apart.obj,H.apart.wf⟩,H.og,H.fL.fr (wy.deaf m d).1 (ρ.le_refl) (fun _ _=>rfl),⟨H.wf.a9,H.wf.xM,H.wf.bB,H.wf.fl,H.wf.live⟩,H.MN,H.ew⟩
theorem Wa (hJ:∀σ,gi P main (J σ))(hX:qf P X)(ho:ops[i]?=some o)(hw:Region.wanted o (yielded ops a.tmps)=true)(hk:b.kind≠ .early)(H:cQ P E bg σ ρ m w){ev:cd->ae}
  (dP:∀x∈o.op.operands,aP ρ (ev x) (a.eval x)){f:Nat}{args:List ae}(hc:Dp P o ev f args){v:ae}(hx:tZ X f args m=some (v,m')){n:Nat}
  (hn:∀v' w' bq,ρ.le bq->(∀b,b<m.next->bq b=ρ b)->cQ P E bg σ bq m' w'->aP bq v v'->J σ n ((aA bq m').or E) (G (b.at (a.put o.dst v') (.inRegion ops rest::k)) cs) w'):
  J σ (n+1) ((aA ρ m).or E) (G (b.at a (.inRegion ops (i::rest)::k)) cs) w:=by
 by_cases h1:f=X.disable
 ·subst h1;unfold tZ at hx;rw[bK rfl]at hx
  split at hx
  ·simp only[ah,au]at hx;obtain⟨rfl,rfl⟩:=hx;have e1:=JU hc dP rfl;refine q5 hJ H rfl fun aN gp=>⟨_,ρ,_,aN,_,En .disable cY ho hw hk e1 hX.disable aN,?_,s8.refl ..,?_,?_,hn _ _ _ ρ.le_refl (fun _ _=>rfl) (fI.aaE gp _) jT⟩
   ·exact⟨ρ.le_refl,gp.jF.deaf _,⟨fun _ _ x=> .inl x,fun _ _ x=> .inl x,fun _ x=> .inl x⟩,fun _ _=>rfl⟩
   ·intro e he;simp only[List.mem_toArray,aR,List.not_mem_nil,or_false]at he;subst he;exact .inr (.inl rfl)
   ·rfl
  ·cases hx
 ·by_cases h2:f=X.enable
  ·subst h2;unfold tZ at hx;rw[bZ h1,bK rfl]at hx
   split at hx
   ·simp only[ah,au]at hx;obtain⟨rfl,rfl⟩:=hx;have e1:=JU hc dP rfl;refine q5 hJ H rfl fun aN gp=>⟨_,ρ,_,aN,_,En .enable cY ho hw hk e1 hX.enable aN,?_,s8.refl ..,?_,?_,hn _ _ _ ρ.le_refl (fun _ _=>rfl) (fI.aaE gp _) jT⟩
    ·exact⟨ρ.le_refl,gp.jF.deaf _,⟨fun _ _ x=> .inl x,fun _ _ x=> .inl x,fun _ x=> .inl x⟩,fun _ _=>rfl⟩
    ·intro e he;simp only[List.mem_toArray,aR,List.not_mem_nil,or_false]at he;subst he;exact .inr (.inr rfl)
    ·rfl
   ·cases hx
  ·refine q5 hJ H rfl fun aN gp=>?_
   obtain⟨nx,w',gY,⟨Dq,hL,Jc⟩,E5,he⟩:=mI (P:=P) (R:=aA ρ m) (N:=aN.heap.size) (Q:=fun nx w'=>jb m m'/\Left ρ m aN ρ m' w'/\nx= .value v) (ai _)
    (zn (w:=aN) hX hc dP fun bj hr=>by
     obtain⟨g1,e,g2,g3⟩:=OE (P:=P) (N:=aN.heap.size) gp.jF hX hr hx h1 h2;exact rh g2 (g3 fun w' hL hv=>⟨g1,hL,rfl⟩))
   have hv:aP ρ v v:=by
    obtain⟨_,_,_,g,_⟩:=mI (P:=P) (R:=aA ρ m) (N:=aN.heap.size) (Q:=fun nx w'=>aP ρ v v) (ai _)
     (zn (w:=aN) hX hc dP fun bj hr=>by
      obtain⟨g1,e,g2,g3⟩:=OE (P:=P) (N:=aN.heap.size) gp.jF hX hr hx h1 h2;exact rh g2 (g3 fun w' hL hv=>hv))
    exact g
   subst Jc;obtain⟨evs,y7,ep⟩:=he #[];have mo:∀e∈listed P b.fn a o aN,nT (aA ρ m) e:=fun e hx=>ep e (by have :=mem_listed hx;rw[y7]at this;simpa using this)
   exact⟨_,ρ,m',w',_,stepG_value ho hw hk gY,hL,E5,fun e he=> .inl (mo e he),by rw[kI mo,Dq.2.1],hn v w' ρ hL.le hL.old (gp.left hL Dq E5) hv⟩
theorem Ms (hJ:∀σ,gi P main (J σ))(ho:ops[i]?=some o)(hw:Region.wanted o (yielded ops a.tmps)=true)(hk:b.kind≠ .early)(H:cQ P E bg σ ρ m w){ev:cd->ae}
  (dP:∀x∈o.op.operands,aP ρ (ev x) (a.eval x)){f:Nat}{args:List ae}(hd:Pb o ev f args){n:Nat}
  (hn:∀w' d,cQ P E bg σ ρ m w'->yk ρ (f,args) d->J σ n ((aA ρ m).or E) (G (b.at (Act.put ⟨a.tmps,d::a.defers⟩ o.dst undef) (.inRegion ops rest::k)) cs) w'):
  J σ (n+1) ((aA ρ m).or E) (G (b.at a (.inRegion ops (i::rest)::k)) cs) w:=by
 obtain⟨x,lG,ly,first,cap,di,hx,rfl⟩:=hd;have Vk:x∈o.op.operands:=by rw[di];simp[Op.operands,Call.operands]
 have hr:=dP x Vk;rw[hx]at hr;obtain⟨f',c',e,h1,h2⟩:=fO.1 hr;have Xh:yk ρ (f,first.toList++lG.toList.map ev++cap.toList) {target:= .fn (.func f) c',args:=f'++lG.map a.eval}:=by
  refine⟨c',rfl,?_⟩;simp only[Array.toList_append,Array.toList_map];refine(h1.append (bC.px fun y hy=>dP y ?_)).append h2;rw[di];simp only[Op.operands,Call.operands,Array.mem_append];exact .inr (by simpa using hy)
 have gY:∀w,(execOp a.eval o).run P w= .ok (.defer {target:= .fn (.func f) c',args:=f'++lG.map a.eval}) w:=by
  intro w;unfold execOp;simp[di,resolve,Deferred.ofValue,e]
 have y7:∀w,(execOp a.eval o).events P w #[]=#[]:=by
  intro w;unfold execOp;simp[di,resolve,Deferred.ofValue,e]
 have gf:(b.kind==CallKind.early)=false:=by simpa using hk
 refine q5 hJ H rfl fun aN gp=>⟨_,ρ,m,aN,#[],?_,Left.refl gp.jF,s8.refl ..,fun e he=>by simp at he,rfl,hn aN _ gp Xh⟩
 have nP:=zf (b:=b) (a:=⟨a.tmps,({target:= .fn (.func f) c',args:=f'++lG.map a.eval}:Deferred)::a.defers⟩) (k:=k) (rest:=rest) ho undef;rw[stepG_oper ho hw,<-nP];simp[stepG.apply,gY,y7,G,Frame.at,gf,GStep.after,seen_none]
end
end Go.AM
namespace Go.AM
open Go Go.Conc
structure s7 (nt:Nat)(ρ:cZ)(tm:Tm)(df:Df)(a:Act):Prop where
 size:a.tmps.size=nt
 tm:∀t,t<nt->aP ρ (cV t tm) (a.tmps.getD t undef)
 df:bC (yk ρ) df a.defers
theorem s7.iA{nt:Nat}{ρ bq:cZ}{tm:Tm}{df:Df}{a:Act}(h:ρ.le bq)(ha:s7 nt ρ tm df a):s7 nt bq tm df a:=
 ⟨ha.size,fun t ht=>(ha.tm t ht).iA h,ha.df.mono fun _ _ x=>x.iA h⟩
theorem V5 (l:Array ae)(d t:Nat)(v:ae):(l.setIfInBounds d v).getD t undef=if d=t/\d<l.size then v else l.getD t undef:=by
 simp only[Array.getD_eq_getD_getElem?,Array.getElem?_setIfInBounds]
 by_cases h:d=t
 ·subst h
  by_cases h2:d<l.size
  ·simp[h2]
  ·simp[h2,Array.getElem?_eq_none (Nat.le_of_not_lt h2)]
 ·simp[h]
theorem w7 (a:Act)(d:Option Tmp)(v:ae):(a.put d v).defers=a.defers/\(a.put d v).tmps.size=a.tmps.size/\∀t,t<a.tmps.size->(a.put d v).tmps.getD t undef=if d=some t then v else a.tmps.getD t undef:=by
 cases d with
 |none=>exact⟨rfl,rfl,fun t ht=>by simp[Act.put]⟩
 |some d=>
  refine⟨rfl,by simp[Act.put],fun t ht=>?_⟩
  show(a.tmps.setIfInBounds d v).getD t undef=_
  rw[V5]
  by_cases h:d=t
  ·subst h;simp[ht]
  ·simp[h]
theorem s7.put{nt:Nat}{ρ:cZ}{tm:Tm}{df ma:Df}{a:Act}{ds:List Deferred}{d:Option Tmp}{v v':ae}(ha:s7 nt ρ tm df a)(hd:∀x,d=some x->x<512)(qx:nt<=512)(hv:aP ρ v v')(u7:bC (yk ρ) ma ds):
  s7 nt ρ (Gf d v tm) ma (Act.put ⟨a.tmps,ds⟩ d v'):=by
 obtain⟨h1,h2,h3⟩:=w7 ⟨a.tmps,ds⟩ d v';refine⟨h2.trans ha.size,fun t ht=>?_,by rw[h1];exact u7⟩;rw[h3 t (by rw[<-ha.size]at ht;exact ht)];unfold Gf;cases d with
 |none=>exact ha.tm t ht
 |some d=>
  simp only[];rw[oT (hd d rfl) aj]
  by_cases h:d=t
  ·subst h;simp[hv]
  ·simp only[h,if_false,ah];exact ha.tm t ht
section
variable {P:aD}{X:Ext}{main:Bool}{J:JT}{F:Mem->Mem->Prop}{call:bJ}{E:Perm}{bg:ay}{σ:mA}{ρ:cZ}{m m':Mem}{w:ay}
variable {b:Frame}{a:Act}{k:List Item}{cs:List Frame}{ops:Array im}{i:Nat}{rest:List Nat}{o:im}{nt:Nat}{tm:Tm}{df ma:Df}{v:ae}
theorem Jz (ha:∀t,t<nt->aP ρ (cV t tm) (a.tmps.getD t undef))(H:cQ P E bg σ ρ m w){x:cd}(hx:rA nt P.globals.size x=true):aP ρ (dj tm x) (a.eval x):=by
 cases x with
 |tmp t=>
  simp only[rA,jz,jE]at hx;exact ha t hx
 |const v=>exact bM hx
 |global g=>
  simp only[rA,jz,jE]at hx;obtain⟨p,h1,h2,h3⟩:=H.og g hx;exact cH.2 ⟨p,h1,rfl,by rw[h2,h3];rfl⟩
 |func f=>exact fO.2 ⟨_,_,rfl,trivial,trivial⟩
theorem Fp (hJ:∀σ,gi P main (J σ))(hX:qf P X)(hF:wz F)(C:fe P X main J F call)(ho:ops[i]?=some o)(I6:Wf m)(hd:zv P call o tm m df v m' ma):F m m'/\∃c,
  ∀{E:Perm}{bg:ay}{σ:mA}{ρ:cZ}{w:ay}{b:Frame}{a:Act}{k:List Item}{cs:List Frame}{rest:List Nat}{n:Nat},b.kind≠ .early->Region.wanted o (yielded ops a.tmps)=true->cQ P E bg σ ρ m w->
   (∀x∈o.op.operands,aP ρ (dj tm x) (a.eval x))->bC (yk ρ) df a.defers->
   (∀fX bq v' w' ds,ρ.le bq->qU m ρ bq->cQ P E bg fX bq m' w'->aP bq v v'->bC (yk bq) ma ds->J fX n ((aA bq m').or E) (G (b.at (Act.put ⟨a.tmps,ds⟩ o.dst v') (.inRegion ops rest::k)) cs) w')->
   J σ (n+c) ((aA ρ m).or E) (G (b.at a (.inRegion ops (i::rest)::k)) cs) w:=by
 rcases hd with⟨di,rfl⟩|⟨f,args,hc,fK,rfl⟩|⟨f,args,nV,rfl,rfl,rfl⟩
 ·refine⟨hF.fr (SW di).w,1,fun hk hw H dP u7 hn=>?_⟩;exact AS (hJ _) ho hw hk H dP di fun bq v' w' hle hold H' hv=>hn _ bq v' w' _ hle (.of hold) H' hv (u7.mono fun _ _ x=>x.iA hle)
 ·obtain⟨h1,h2,h3⟩:=C f args m v m' I6 fK;refine⟨h1,?_⟩;cases hb:dE P f with
  |false=>
   refine⟨1,fun hk hw H dP u7 hn=>?_⟩;exact Wa hJ hX ho hw hk H dP hc (h2 hb) fun v' w' bq hle hold H' hv=>hn _ bq v' w' _ hle (.of hold) H' hv (u7.mono fun _ _ x=>x.iA hle)
  |true=>
   obtain⟨c,wE⟩:=h3 hb;refine⟨c+1,fun{E bg σ ρ w b a k cs rest n} hk hw H dP u7 hn=>?_⟩;refine Fy hJ hX ho hw hk H dP hc hb fun aN bj gp hr=>wE bj _ cs n .normal gp hr (.inl rfl) fun fX bq v' w' hle hold H' hv=>?_
   rw[bK rfl,zf ho];exact hn fX bq v' w' _ hle hold H' hv (u7.mono fun _ _ x=>x.iA hle)
 ·refine⟨hF.refl _,1,fun hk hw H dP u7 hn=>?_⟩;exact Ms hJ ho hw hk H dP nV fun w' d H' Xh=>hn _ _ undef w' (d::_) (cZ.le_refl _) (.of fun _ _=>rfl) H' mF ⟨Xh,u7⟩
theorem vu (adi:∀j want,o.guard=some (j,want)->∃g,(ops[j]?).bind (·.dst)=some g/\g<nt/\aP ρ (cV g tm) (a.tmps.getD g undef))(hs:a.tmps.size=nt):Region.wanted o (yielded ops a.tmps)=cM ops o tm:=by
 unfold Region.wanted cM;cases hg:o.guard with
 |none=>rfl
 |some p=>
  obtain⟨j,want⟩:=p;obtain⟨g,h1,h2,h3⟩:=adi j want hg;simp only[h1];unfold yielded;rw[h1];simp only[aX];have e:a.tmps[g]?=some (a.tmps.getD g undef):=by
   rw[Array.getD_eq_getD_getElem?,Array.getElem?_eq_getElem (show g<a.tmps.size by rw[hs];exact h2)];rfl
  rw[e];have key:∀u u',aP ρ u u'->∀want:Bool,((match(some u':Option ae)with |some (.bool b)=>some b|_=>none)==some want)=(match u with | .bool b=>b==want|_=>false):=by
   intro u u' hu want;cases u with
   |bool b=>have :=(aG (by rfl)).1 hu;subst this;cases b<;>cases want<;>rfl
   |agg cs=>obtain⟨_,rfl,_⟩:=gQ.1 hu;rfl
   |tuple cs=>obtain⟨_,rfl,_⟩:=dQ.1 hu;rfl
   |iface t x=>obtain⟨_,rfl,_⟩:=fQ.1 hu;rfl
   |func fn f c=>obtain⟨_,_,rfl,_⟩:=fO.1 hu;rfl
   |pointer p=>cases p with
    |none=>have :=(aG (by rfl)).1 hu;subst this;rfl
    |some p=>obtain⟨_,_,_,rfl⟩:=cH.1 hu;rfl
   |slice p l c=>cases p with
    |none=>have :=(aG (by rfl)).1 hu;subst this;rfl
    |some p=>obtain⟨_,_,_,_,rfl,_⟩:=bU.1 hu;rfl
   |map p=>cases p with
    |none=>have :=(aG (by rfl)).1 hu;subst this;rfl
    |some p=>obtain⟨_,_,rfl⟩:=gP.1 hu;rfl
   |_=>obtain⟨n,h'⟩:=hu;cases n with |zero=>exact h'.elim|succ n=>have e:u'=_:=h';subst e;rfl
  exact key _ _ h3 want
theorem SY (hJ:∀σ,gi P main (J σ))(hX:qf P X)(hF:wz F)(C:fe P X main J F call)(qx:nt<=512){fC:Tm}(I6:Wf m)(hd:qG P call nt ops i tm m df fC m' ma):F m m'/\∃c,
  ∀{E:Perm}{bg:ay}{σ:mA}{ρ:cZ}{w:ay}{b:Frame}{a:Act}{k:List Item}{cs:List Frame}{rest:List Nat}{n:Nat},b.kind≠ .early->cQ P E bg σ ρ m w->s7 nt ρ tm df a->
   (∀fX bq w' a',ρ.le bq->qU m ρ bq->cQ P E bg fX bq m' w'->s7 nt bq fC ma a'->J fX n ((aA bq m').or E) (G (b.at a' (.inRegion ops rest::k)) cs) w')->
   J σ (n+c) ((aA ρ m).or E) (G (b.at a (.inRegion ops (i::rest)::k)) cs) w:=by
 obtain⟨o,ho,nO,jN,h⟩:=hd;rcases h with⟨hw,v,Mg,rfl⟩|⟨hw,rfl,rfl,rfl⟩
 ·obtain⟨h1,c,h2⟩:=Fp hJ hX hF C ho I6 Mg;refine⟨h1,c,fun{E bg σ ρ w b a k cs rest n} hk H ha hn=>?_⟩;have tS:=vu (ops:=ops) (o:=o) (tm:=tm) (fun j want hj=>let⟨g,g1,g2,g3⟩:=jN j want hj;⟨g,g1,g2,ha.tm g g2⟩) ha.size;refine h2 hk (tS.trans hw) H (fun x hx=>Jz ha.tm H (nO.1 x hx)) ha.df fun fX bq v' w' ds hle hold H' hv u7=>hn fX bq w' _ hle hold H' ?_
  exact(ha.iA hle).put nO.2 qx hv u7
 ·refine⟨hF.refl _,1,fun{E bg σ ρ w b a k cs rest n} hk H ha hn=>?_⟩;have tS:=vu (ops:=ops) (o:=o) (tm:=tm) (fun j want hj=>let⟨g,g1,g2,g3⟩:=jN j want hj;⟨g,g1,g2,ha.tm g g2⟩) ha.size;refine qI (hJ _) ho (tS.trans hw) fun aN jM=>hn _ _ aN _ (cZ.le_refl _) (.of fun _ _=>rfl) (H.keeps jM) ?_
  exact ha.put (ds:=a.defers) nO.2 qx mF ha.df
end
end Go.AM
namespace Go.AM
open Go Go.Conc
def B (bH:Array Nat)(i j:Nat):Prop:=(bH.getD i 0).testBit j=true
theorem Fb (bH:Array Nat)(j:Nat):∀(l:List Edge) (s:Nat),(l.foldl (fun s e=>if Region.binds .any e then s|||2^e.on|||bH.getD e.on 0 else s) s).testBit j=true↔
  s.testBit j=true\/∃e∈l,Region.binds .any e=true/\(e.on=j\/B bH e.on j)
 | [],s=>by simp
 |e::l,s=>by
  rw[List.foldl_cons,Fb bH j l]
  by_cases h:Region.binds .any e=true
  ·rw[bK h];simp only[Nat.testBit_or,Bool.or_eq_true,Nat.testBit_two_pow,jE,aR]
   constructor
   ·rintro(((h1|h1)|h1)|⟨e',h1,h2⟩)
    ·exact .inl h1
    ·exact .inr ⟨e,.inl rfl,h,.inl h1⟩
    ·exact .inr ⟨e,.inl rfl,h,.inr h1⟩
    ·exact .inr ⟨e',.inr h1,h2⟩
   ·rintro(h1|⟨e',(rfl|h1),h2,h3⟩)
    ·exact .inl (.inl (.inl h1))
    ·rcases h3 with h3|h3
     ·exact .inl (.inl (.inr h3))
     ·exact .inl (.inr h3)
    ·exact .inr ⟨e',h1,h2,h3⟩
  ·rw[bZ h]
   constructor
   ·rintro(h1|⟨e',h1,h2⟩)
    ·exact .inl h1
    ·exact .inr ⟨e',List.mem_cons_of_mem _ h1,h2⟩
   ·rintro(h1|⟨e',h1,h2,h3⟩)
    ·exact .inl h1
    ·rcases aR.1 h1 with rfl|h1
     ·exact absurd h2 h
     ·exact .inr ⟨e',h1,h2,h3⟩
structure yi (ops:Array im)(bH:Array Nat)(nt:Nat):Prop where
 back:∀i o,ops[i]?=some o->∀e∈o.after,Region.binds .any e=true->e.on<i
 iff:∀i o,ops[i]?=some o->∀j,B bH i j↔∃e∈o.after,Region.binds .any e=true/\(e.on=j\/B bH e.on j)
 dst:∀(i:Nat) (o:im) (d:Nat),ops[i]?=some o->o.dst=some d->d<nt
theorem dq {α:Type}{l:Array α}{i:Nat}{x:α}(h:l[i]?=some x):i<l.size:=by
 rcases Nat.lt_or_ge i l.size with h1|h1
 ·exact h1
 ·rw[Array.getElem?_eq_none h1]at h;cases h
theorem SR {ops:Array im}{bH:Array Nat}{nt:Nat}(h:Gi ops bH nt=true):yi ops bH nt:=by
 have key:∀i o,ops[i]?=some o->(o.after.toList.all (fun e=>!Region.binds .any e||Nat.blt e.on i)&&Nat.beq (o.after.toList.foldl (fun s e=>if Region.binds .any e then s|||2^e.on|||bH.getD e.on 0 else s) 0) (bH.getD i 0)&&(match o.dst with |some d=>Nat.blt d nt|none=>true))=true:=by
  intro i o ho;have :=aE.1 h i (List.mem_range.2 (dq ho));rw[ho]at this;exact this
 refine⟨fun i o ho e he hb=>?_,fun i o ho j=>?_,fun i o d ho hd=>?_⟩
 ·have :=key i o ho;simp only[ag]at this;have h1:=aE.1 this.1.1 e (by simpa using he);simp only[hb,Bool.not_true,Bool.false_or,Nat.blt_eq]at h1;exact h1
 ·have :=key i o ho;simp only[ag]at this;have h1:=az this.1.2;unfold B;rw[<-h1,Fb];simp[B]
 ·have :=key i o ho;simp only[ag,hd]at this;simpa[jz]using this.2
section
variable {ops:Array im}{bH:Array Nat}{nt:Nat}
theorem yi.lt(h:yi ops bH nt):∀{i j:Nat},i<ops.size->B bH i j->j<i:=by
 intro i
 induction i using Nat.strongRecOn with
 |_ i ih=>
  intro j hi hb;obtain⟨e,he,Jo,hj⟩:=(h.iff i _ (Array.getElem?_eq_getElem hi) j).1 hb;have cA:=h.back i _ (Array.getElem?_eq_getElem hi) e he Jo;rcases hj with rfl|hj
  ·exact cA
  ·have :=ih e.on cA aj hj;omega
theorem yi.trans(h:yi ops bH nt):∀{i j k:Nat},i<ops.size->B bH i j->B bH j k->B bH i k:=by
 intro i
 induction i using Nat.strongRecOn with
 |_ i ih=>
  intro j k hi hb hk;obtain⟨e,he,Jo,hj⟩:=(h.iff i _ (Array.getElem?_eq_getElem hi) j).1 hb;have cA:=h.back i _ (Array.getElem?_eq_getElem hi) e he Jo;rcases hj with rfl|hj
  ·exact(h.iff i _ (Array.getElem?_eq_getElem hi) k).2 ⟨e,he,Jo,.inr hk⟩
  ·exact(h.iff i _ (Array.getElem?_eq_getElem hi) k).2 ⟨e,he,Jo,.inr (ih e.on cA aj hj hk)⟩
structure j7 (ops:Array im)(bH:Array Nat)(D:Nat->Prop)(l:List Nat):Prop where
 nodup:l.Nodup
 lt:∀i∈l,i<ops.size
 fresh:∀i∈l,¬D i
 all:∀i,i<ops.size->D i\/i∈l
 down:∀i,D i->∀j,B bH i j->D j
 ahead:∀Gy i Gx,l=Gy++i::Gx->∀j,B bH i j->D j\/j∈Gy
 dlt:∀i,D i->i<ops.size
theorem j7.head{D:Nat->Prop}{i:Nat}{l:List Nat}(h:j7 ops bH D (i::l)):(∀j,B bH i j->D j)/\¬D i/\i<ops.size/\j7 ops bH (fun x=>D x\/x=i) l:=by
 have h1:∀j,B bH i j->D j:=fun j hj=>(h.ahead [] i l rfl j hj).resolve_right cY
 have hn:=List.nodup_cons.1 h.nodup;refine⟨h1,h.fresh i cY,h.lt i cY,hn.2,fun x hx=>h.lt x (by simp[hx]),fun x hx=>?_,fun x hx=>?_,fun x hx j hj=>?_,fun Gy x Gx e j hj=>?_,fun x hx=>?_⟩
 ·rintro(h2|rfl)
  ·exact h.fresh x (by simp[hx]) h2
  ·exact hn.1 hx
 ·rcases h.all x hx with h2|h2
  ·exact .inl (.inl h2)
  ·rcases aR.1 h2 with rfl|h2
   ·exact .inl (.inr rfl)
   ·exact .inr h2
 ·rcases hx with hx|rfl
  ·exact .inl (h.down x hx j hj)
  ·exact .inl (h1 j hj)
 ·rcases h.ahead (i::Gy) x Gx (by rw[e];rfl) j hj with h2|h2
  ·exact .inl (.inl h2)
  ·rcases aR.1 h2 with rfl|h2
   ·exact .inl (.inr rfl)
   ·exact .inr h2
 ·rcases hx with hx|rfl
  ·exact h.dlt x hx
  ·exact h.lt x cY
def FP (n:Nat)(listed:Array Bool):Nat:=((List.range n).filter fun i=>!listed.getD i false).length
theorem Sl (l:Array Bool)(i x:Nat)(hi:i<l.size):(l.setIfInBounds i true).getD x false=(decide (i=x)||l.getD x false):=by
 simp only[Array.getD_eq_getD_getElem?,Array.getElem?_setIfInBounds]
 by_cases h:i=x
 ·subst h;simp[hi]
 ·simp[h]
theorem filter_lt {α:Type}{p q:α->Bool}:∀{l:List α}{x:α},x∈l->p x=true->q x=false->(∀y,q y=true->p y=true)->(l.filter q).length<(l.filter p).length
 |a::l,x,hx,hp,hq,h=>by
  have hle:∀(l:List α),(l.filter q).length<=(l.filter p).length:=by
   intro l
   induction l with
   |nil=>exact ai _
   |cons b l ih=>
    simp only[List.filter_cons];cases hqb:q b
    ·cases hpb:p b<;>simp <;>omega
    ·rw[h b hqb];simp;omega
  rcases aR.1 hx with rfl|hx
  ·have :=hle l;simp only[List.filter_cons,hp,hq,if_true,bO,if_false,List.length_cons];omega
  ·have :=filter_lt hx hp hq h;simp only[List.filter_cons];cases hqb:q a
   ·cases hpb:p a<;>simp <;>omega
   ·rw[h a hqb];simp;omega
theorem A3 (h:yi ops bH nt){D:Nat->Prop}(cA:∀i,D i->i<ops.size)(hc:∀i,D i->∀o,ops[i]?=some o->∀e∈o.after,Region.binds .any e=true->D e.on):∀i,D i->∀j,B bH i j->D j:=by
 intro i
 induction i using Nat.strongRecOn with
 |_ i ih=>
  intro hi j hj;have hil:=cA i hi;obtain⟨e,he,Jo,hj⟩:=(h.iff i _ (Array.getElem?_eq_getElem hil) j).1 hj;have h1:=hc i hi _ (Array.getElem?_eq_getElem hil) e he Jo;rcases hj with rfl|hj
  ·exact h1
  ·exact ih e.on (h.back i _ (Array.getElem?_eq_getElem hil) e he Jo) h1 j hj
theorem j7.nil{D:Nat->Prop}(pF:∀i,i<ops.size->D i)(VO:∀i,D i->∀j,B bH i j->D j)(cA:∀i,D i->i<ops.size):j7 ops bH D []:=
 ⟨List.nodup_nil,cY,cY,fun i hi=> .inl (pF i hi),VO,fun Gy i Gx e=>(by simp at e),cA⟩
theorem SQ (h:yi ops bH nt):∀(fuel t:Nat) (listed:Array Bool),listed.size=ops.size->FP ops.size listed<=fuel->
  (∀i,listed.getD i false=true->∀o,ops[i]?=some o->∀e∈o.after,Region.binds .any e=true->listed.getD e.on false=true)->
  j7 ops bH (fun i=>listed.getD i false=true) (Region.linearise.go .any ops fuel t listed []):=by
 intro fuel
 induction fuel with
 |zero=>
  intro t listed hs hu hc;have cA:∀i,listed.getD i false=true->i<ops.size:=fun i hi=>by
   rcases Nat.lt_or_ge i ops.size with h1|h1
   ·exact h1
   ·rw[Array.getD_eq_getD_getElem?,Array.getElem?_eq_none aj]at hi;cases hi
  simp only[Region.linearise.go,List.reverse_nil];refine j7.nil (fun i hi=>?_) (A3 h cA hc) cA;have :(List.range ops.size).filter (fun i=>!listed.getD i false)=[]:=List.eq_nil_of_length_eq_zero (by unfold FP at hu;omega);rw[List.filter_eq_nil_iff]at this;simpa using this i (List.mem_range.2 hi)
 |succ fuel ih=>
  intro t listed hs hu hc;have cA:∀i,listed.getD i false=true->i<ops.size:=fun i hi=>by
   rcases Nat.lt_or_ge i ops.size with h1|h1
   ·exact h1
   ·rw[Array.getD_eq_getD_getElem?,Array.getElem?_eq_none aj]at hi;cases hi
  have hTF:∀i,i<ops.size->listed.getD i true=listed.getD i false:=fun i hi=>by
   simp only[Array.getD_eq_getD_getElem?,Array.getElem?_eq_getElem (show i<listed.size by omega),Option.getD_some]
  simp only[Region.linearise.go]
  change j7 ops bH _ (match(Region.ready .any ops listed)[t%(Region.ready .any ops listed).length]? with
   |some i=>Region.linearise.go .any ops fuel (t / (Region.ready .any ops listed).length) (listed.setIfInBounds i true) [i]
   |none=>[].reverse)
  have Vt:∀i,i∈Region.ready .any ops listed↔i<ops.size/\listed.getD i false=false/\∀o,ops[i]?=some o->∀e∈o.after,Region.binds .any e=true->listed.getD e.on false=true:=by
   intro i;unfold Region.ready;rw[List.mem_filter,List.mem_range]
   constructor
   ·rintro⟨h1,h2⟩;simp only[ag,Bool.not_eq_true',Array.getElem?_eq_getElem h1,cT,Option.getD_some]at h2;rw[hTF i h1]at h2;refine⟨h1,h2.1,fun o ho e he hb=>?_⟩;rw[Array.getElem?_eq_getElem h1]at ho;cases ho;have :=Array.all_eq_true_iff_forall_mem.1 h2.2 e he;simpa[hb]using this
   ·rintro⟨h1,h2,h3⟩;refine⟨h1,?_⟩;simp only[ag,Bool.not_eq_true',Array.getElem?_eq_getElem h1,cT,Option.getD_some];rw[hTF i h1];refine⟨h2,Array.all_eq_true_iff_forall_mem.2 fun e he=>?_⟩;cases hb:Region.binds .any e with
    |false=>simp
    |true=>simpa[hb]using h3 _ (Array.getElem?_eq_getElem h1) e he hb
  cases hi:(Region.ready .any ops listed)[t%(Region.ready .any ops listed).length]? with
  |none=>
   have L9:Region.ready .any ops listed=[]:=by
    cases hr:Region.ready .any ops listed with
    |nil=>rfl
    |cons x xs=>
     rw[hr]at hi;have ahp:t%(x::xs).length<(x::xs).length:=Nat.mod_lt _ cY;simp only[List.getElem?_eq_none_iff]at hi;omega
   simp only[List.reverse_nil];refine j7.nil (fun i hi=>?_) (A3 h cA hc) cA
   induction i using Nat.strongRecOn with
   |_ i ih2=>
    cases hd:listed.getD i false with
    |true=>rfl
    |false=>
     have :i∈Region.ready .any ops listed:=(Vt i).2 ⟨hi,hd,fun o ho e he hb=>ih2 e.on (h.back i o ho e he hb) (by have :=h.back i o ho e he hb;omega)⟩;rw[L9]at this;cases this
  |some i=>
   obtain⟨h1,h2,h3⟩:=(Vt i).1 (List.mem_of_getElem? hi);have his:i<listed.size:=aj;simp only[];rw[linearise_go_acc,List.reverse_singleton,List.singleton_append];have vO:∀x,(listed.setIfInBounds i true).getD x false=true↔listed.getD x false=true\/x=i:=fun x=>by
    rw[Sl _ _ _ his];simp only[Bool.or_eq_true,jE];exact⟨fun h=>h.elim (fun e=> .inr e.symm) .inl,fun h=>h.elim .inr fun e=> .inl e.symm⟩
   have hL:=ih (t / (Region.ready .any ops listed).length) (listed.setIfInBounds i true) (by simpa using hs) (by
    have :=filter_lt (p:=fun x=>!listed.getD x false) (q:=fun x=> !(listed.setIfInBounds i true).getD x false) (List.mem_range.2 h1) (by simp[h2]) (by simp[(vO i).2 (.inr rfl)]) (fun y hy=>by
     simp only[Bool.not_eq_true']at hy⊢;cases hh:listed.getD y false with
     |false=>rfl
     |true=>rw[(vO y).2 (.inl hh)]at hy;cases hy)
    unfold FP at hu⊢;omega) (fun x hx o ho e he hb=>by
     rcases(vO x).1 hx with hx|rfl
     ·exact(vO _).2 (.inl (hc x hx o ho e he hb))
     ·exact(vO _).2 (.inl (h3 o ho e he hb)))
   have y6:i∉Region.linearise.go .any ops fuel (t / (Region.ready .any ops listed).length) (listed.setIfInBounds i true) []:=fun hm=>hL.fresh i hm ((vO i).2 (.inr rfl))
   refine⟨List.nodup_cons.2 ⟨y6,hL.nodup⟩,fun x hx=>?_,fun x hx hd=>?_,fun x hx=>?_,A3 h cA hc,fun Gy x Gx e j hj=>?_,cA⟩
   ·rcases aR.1 hx with rfl|hx
    ·exact h1
    ·exact hL.lt x hx
   ·rcases aR.1 hx with rfl|hx
    ·rw[h2]at hd;cases hd
    ·exact hL.fresh x hx ((vO x).2 (.inl hd))
   ·rcases hL.all x hx with h4|h4
    ·rcases(vO x).1 h4 with h5|rfl
     ·exact .inl h5
     ·exact .inr cY
    ·exact .inr (by simp[h4])
   ·cases Gy with
    |nil=>
     simp only[List.nil_append,List.cons.injEq]at e;obtain⟨rfl,_⟩:=e;obtain⟨ed,he,Jo,hjj⟩:=(h.iff i _ (Array.getElem?_eq_getElem h1) j).1 hj;have h5:=h3 _ (Array.getElem?_eq_getElem h1) ed he Jo;rcases hjj with rfl|hjj
     ·exact .inl h5
     ·exact .inl (A3 h cA hc _ h5 j hjj)
    |cons y Gy=>
     simp only[List.cons_append,List.cons.injEq]at e;obtain⟨rfl,e⟩:=e;rcases hL.ahead Gy x Gx e j hj with h4|h4
     ·rcases(vO j).1 h4 with h5|rfl
      ·exact .inl h5
      ·exact .inr cY
     ·exact .inr (by simp[h4])
theorem IC (h:yi ops bH nt)(t:Nat):j7 ops bH (fun _=>False) (Region.linearise .any ops t):=by
 have hg:∀i,(Array.replicate ops.size false).getD i false=false:=fun i=>by
  simp only[Array.getD_eq_getD_getElem?,Array.getElem?_replicate]
  split<;>rfl
 have :=SQ h ops.size t (Array.replicate ops.size false) cY (by
  unfold FP;have :=List.length_filter_le (fun i=> !(Array.replicate ops.size false).getD i false) (List.range ops.size);simpa using this) (fun i hi=>by rw[hg i]at hi;cases hi)
 have e:(fun i=>(Array.replicate ops.size false).getD i false=true)=fun _=>False:=by
  funext i
  rw[hg i];simp
 rw[e]at this;exact this
end
end Go.AM
namespace Go.AM
open Go Go.Conc
structure kL (m m':Mem):Prop where
 fr:jb m m'
 blk:∀b,b<m.next->m'.blk b=m.blk b
theorem kL.refl(m:Mem):kL m m:=⟨jb.refl m,fun _ _=>rfl⟩
theorem kL.trans{m m₁ m₂:Mem}(h:kL m m₁)(k:kL m₁ m₂):kL m m₂:=
 ⟨h.fr.trans k.fr,fun b hb=>(k.blk b (a8 hb h.fr.1.next)).trans (h.blk b hb)⟩
theorem kL.alloc(m:Mem)(k:dU)(hk:k.live):kL m (m.alloc k):=⟨jb.alloc m k hk,fun b hb=>by rw[Mem.cf,bZ aj]⟩
section
variable {m m':Mem}(h:kL m m')
include h
theorem kL.home:m'.home=m.home:=h.fr.1.home
theorem kL.bB:m'.bB=m.bB:=h.fr.1.bB
theorem kL.base:m'.base=m.base:=h.fr.1.base
theorem kL.floor:m'.floor=m.floor:=h.fr.1.floor
theorem kL.opn:m'.opn=m.opn:=h.fr.1.opn
theorem kL.next:m.next<=m'.next:=h.fr.1.next
theorem kL.deaf:m'.deaf=m.deaf:=h.fr.2.1
end
section
variable {P:aD}{E:Perm}{bg:ay}{σ:mA}{ρ bq:cZ}{m m':Mem}{w w':ay}
theorem Iy (hb:∀b p,ρ b=some p->m'.blk b=m.blk b)(hh:m'.bB=m.bB)(hhm:m'.home=m.home)(hf:m'.floor=m.floor)(ho:m'.opn=m.opn)(hd:m'.deaf=m.deaf):aA ρ m'=aA ρ m:=by
 have hR:∀b p o,ρ b=some p->(m'.nI b o↔m.nI b o):=fun b p o hp=>by unfold Mem.nI;rw[hb b p hp,hh]
 have hW:∀b p o,ρ b=some p->(m'.okW b o↔m.okW b o):=fun b p o hp=>by unfold Mem.okW;rw[hR b p o hp,hf,ho]
 have hO:∀b,m'.bz b=m.bz b:=fun b=>by unfold Mem.bz;rw[hh,hhm]
 unfold aA
 congr 1
 ·funext c x
  exact propext ⟨fun⟨b,p,h1,h2,h3,h4,h5⟩=>⟨b,p,h1,h2,h3,h4,(hR b p _ h1).1 h5⟩,fun⟨b,p,h1,h2,h3,h4,h5⟩=>⟨b,p,h1,h2,h3,h4,(hR b p _ h1).2 h5⟩⟩
 ·funext c x
  exact propext ⟨fun⟨b,p,h1,h2,h3,h4,h5⟩=>⟨b,p,h1,h2,h3,h4,(hW b p _ h1).1 h5⟩,fun⟨b,p,h1,h2,h3,h4,h5⟩=>⟨b,p,h1,h2,h3,h4,(hW b p _ h1).2 h5⟩⟩
 ·funext c
  exact propext ⟨fun⟨b,p,h1,h2,h3,h4⟩=>⟨b,p,h1,h2,by rwa[hb b p h1]at h3,by rwa[hO]at h4⟩,fun⟨b,p,h1,h2,h3,h4⟩=>⟨b,p,h1,h2,by rwa[hb b p h1],by rwa[hO]⟩⟩
theorem cQ.grow(H:cQ P E bg σ ρ m w)(g:kL m m'):cQ P E bg σ ρ m' w/\aA ρ m'=aA ρ m:=by
 have hb:∀b p,ρ b=some p->m'.blk b=m.blk b:=fun b p hp=>g.blk b (H.jF.my b p hp)
 have hp:=Iy hb g.bB g.home g.floor g.opn g.deaf;refine⟨⟨H.jF.Fo g.next hb g.bB g.base g.home,H.rest,by rw[hp];exact H.apart,H.og,H.fL.fr g.fr.1 ρ.le_refl (fun _ _=>rfl),g.fr.2.2 H.wf,H.MN.step H.wf H.apart g.fr.1 (fun _ _=>rfl) (by rw[hp];exact eJ.refl _ _),by rw[hp];exact H.ew⟩,hp⟩
def jk (o:im)(ev:cd->ae)(v:ae):ae:=
 match o.op with
 | .load _ x=>ev x
 | .lookup _ x _ _=>ev x
 | .slice _ x _ _ _=>ev x
 |_=>v
theorem map_eq {v:ae}{o:Option ae}:o.map (fun x=>(x,m))=some (v,m')↔o=some v/\m'=m:=by
 cases o with
 |none=>simp
 |some x=>simp only[cT,ah,au];exact⟨fun h=>⟨h.1,h.2.symm⟩,fun h=>⟨h.1,h.2.symm⟩⟩
theorem BX {b o n:Nat}{vs:List ae}(h:m.dv b o n=some vs)(hb:m'.blk b=m.blk b)(hm:meets m'.bB b o n=false):m'.dv b o n=some vs:=by
 unfold Mem.dv at h⊢;simp only[hb]at h⊢
 split at h
 ·rename_i hc;simp only[ag]at hc;rw[bK (by simp only[ag];exact⟨hc.1,by rw[hm];rfl⟩)];exact h
 ·cases h
theorem qu {b o n:Nat}{vs:List ae}(h:m.dv b o n=some vs):meets m.bB b o n=false/\(m.blk b).kind=1:=by
 unfold Mem.dv at h;simp only[]at h
 split at h
 ·rename_i hc;simp only[ag,Bool.not_eq_true',beq_iff_eq]at hc;exact⟨hc.2,hc.1⟩
 ·cases h
theorem IX {t:aM}{p v:ae}(h:j9 P t p m=some v):∃b o n,p= .pointer (some ⟨b,o,none⟩)/\(m.blk b).kind=1/\meets m.bB b o n=false/\
  ∀m':Mem,m'.blk b=m.blk b->((j9 P t p m').isSome=true\/meets m'.bB b o n=false)->j9 P t p m'=some v:=by
 unfold j9 at h
 split at h
 ·rename_i b o
  split at h
  ·rename_i ha;obtain⟨n,hn,h⟩:=bE.1 h;obtain⟨l,hl,rfl⟩:=aB.1 h;have hk:=qu hl;refine⟨b,o,n,rfl,hk.2,hk.1,fun m' hb hm=>?_⟩;have hm':meets m'.bB b o n=false:=by
    rcases hm with hm|hm
    ·unfold j9 at hm;simp only[ha,hn,aX,Option.isSome_map]at hm;obtain⟨l',A1⟩:=iz.1 hm;exact(qu A1).1
    ·exact hm
   unfold j9;simp only[ha,hn,aX,BX hl hb hm',cT]
  ·rename_i ha;obtain⟨l,hl,h⟩:=bE.1 h;have hk:=qu hl;refine⟨b,o,1,rfl,hk.2,hk.1,fun m' hb hm=>?_⟩;have hm':meets m'.bB b o 1=false:=by
    rcases hm with hm|hm
    ·unfold j9 at hm;simp only[ha]at hm;obtain⟨l',A1⟩:=iz.1 hm;obtain⟨l'',akG,_⟩:=bE.1 A1;exact(qu akG).1
    ·exact hm
   unfold j9;simp only[ha,BX hl hb hm',aX,h]
  ·cases h
 ·cases h
theorem BV {t:aM}{x k v:ae}{ok:Bool}(h:gW P t x k ok m=some v):
  (∀m',gW P t x k ok m'=some v)\/∃b,x= .map (some b)/\(m.blk b).kind=2/\m.bz b=true/\∀m':Mem,m'.blk b=m.blk b->((gW P t x k ok m').isSome=true\/m'.bz b=true)->gW P t x k ok m'=some v:=by
 unfold gW at h
 split at h
 ·rename_i kt et r s hu
  split at h
  ·rename_i z hk hz;cases r with
   |none=>
    left
    intro m';unfold gW;simp only[hu,hk,hz];exact h
   |some b=>
    right
    simp only[]at h
    split at h
    ·rename_i es Kq
     split at Kq
     ·rename_i hc;simp only[ag,beq_iff_eq]at hc;refine⟨b,rfl,hc.1,hc.2,fun m' hb hm=>?_⟩;have ho:m'.bz b=true:=by
       rcases hm with hm|hm
       ·unfold gW at hm;simp only[hu,hk,hz]at hm
        split at hm
        ·rename_i js ahB
         split at ahB
         ·rename_i E5;simp only[ag]at E5;exact E5.2
         ·cases ahB
        ·cases hm
       ·exact hm
      unfold gW;simp only[hu,hk,hz];rw[bK (by rw[hb,hc.1,ho];rfl),hb];simp only[ah]at Kq;subst Kq;exact h
     ·cases Kq
    ·cases h
  ·cases h
 ·rename_i kt et b cs hu
  right
  have hr:∃r,yP P kt b (.agg cs) m=some r:=by
   unfold rX at h
   split at h
   ·exact⟨_,nZ⟩
   ·exact⟨_,nZ⟩
   ·cases h
  obtain⟨r,hr⟩:=hr;obtain⟨h1,h2,_⟩:=mL hr;refine⟨b,rfl,h1,h2,fun m' hb hm=>?_⟩;have ho:m'.bz b=true:=by
   rcases hm with hm|hm
   ·unfold gW at hm;simp only[hu]at hm;unfold rX at hm
    split at hm
    ·exact(mL nZ).2.1
    ·exact(mL nZ).2.1
    ·cases hm
   ·exact hm
  have e:yP P kt b (.agg cs) m'=yP P kt b (.agg cs) m:=by
   unfold yP;rw[hb,ho,h2]
  unfold gW;simp only[hu];unfold rX at h⊢;rw[e];exact h
 ·cases h
theorem ED {t:aM}{x:ae}{lo hi:Option ae}{m':Mem}(hb:∀b,mZ x=some b->m'.blk b=m.blk b):iR P t x lo hi m'=iR P t x lo hi m:=by
 unfold iR
 split
 ·rename_i b o len cap hu;rw[hb b rfl]
 ·rfl
 ·rfl
 ·rfl
def MT (mk:Nat->ae):Prop:=(mk=fun β=>ptrTo β 0)\/(∃l c,c≠fp/\mk=fun β=> .slice (some ⟨β,0,none⟩) l c)\/(mk=fun β=> .map (some β))
theorem aP.back:∀{n:Nat}{v u u':ae},ρ.le bq->VR ρ n v u'->aP bq v u->aP ρ v u:=by
 intro n
 induction n with
 |zero=>intro v u u' _ h _;exact h.elim
 |succ n ih=>
  intro v u u' hle h h';have list:∀{l l' r:List ae},bC (VR ρ n) l l'->bC (aP bq) l r->bC (aP ρ) l r:=by
   intro l
   induction l with
   |nil=>intro l' r _ h2;cases r<;>simp_all [bC]
   |cons a l ihl=>
    intro l' r h1 h2;cases l' with
    |nil=>exact h1.elim
    |cons a' l'=>cases r with
     |nil=>exact h2.elim
     |cons b r=>exact⟨ih hle h1.1 h2.1,ihl h1.2 h2.2⟩
  cases v with
  |pointer a=>cases a with
   |none=>exact(aG rfl).2 ((aG rfl).1 h')
   |some a=>
    obtain⟨p,h1,h2,_⟩:=h;obtain⟨q,g1,g2,g3⟩:=cH.1 h';rw[hle _ _ h1]at g1;cases g1;exact cH.2 ⟨_,h1,h2,g3⟩
  |slice a l c=>cases a with
   |none=>exact(aG rfl).2 ((aG rfl).1 h')
   |some a=>
    obtain⟨p,_,h1,h2,_⟩:=h;obtain⟨q,c',g1,g2,g3⟩:=bU.1 h';rw[hle _ _ h1]at g1;cases g1;exact bU.2 ⟨_,c',h1,g2,g3⟩
  |map a=>cases a with
   |none=>exact(aG rfl).2 ((aG rfl).1 h')
   |some a=>
    obtain⟨p,h1,h2⟩:=h;obtain⟨q,g1,g2⟩:=gP.1 h';rw[hle _ _ h1]at g1;cases g1;exact gP.2 ⟨_,h1,g2⟩
  |func fn f c=>
   obtain⟨_,_,_,h1,h2⟩:=h;obtain⟨f',c',e,g1,g2⟩:=fO.1 h';exact fO.2 ⟨f',c',e,list h1 g1,list h2 g2⟩
  |iface t x=>
   obtain⟨_,_,h1⟩:=h;obtain⟨x',e,g1⟩:=fQ.1 h';exact fQ.2 ⟨x',e,ih hle h1 g1⟩
  |agg cs=>
   obtain⟨_,_,h1⟩:=h;obtain⟨x',e,g1⟩:=gQ.1 h';exact gQ.2 ⟨x',e,list h1 g1⟩
  |tuple cs=>
   obtain⟨_,_,h1⟩:=h;obtain⟨x',e,g1⟩:=dQ.1 h';exact dQ.2 ⟨x',e,list h1 g1⟩
  |bool b=>exact(aG rfl).2 ((aG rfl).1 h')
  |int k b=>exact(aG rfl).2 ((aG rfl).1 h')
  |string b=>exact(aG rfl).2 ((aG rfl).1 h')
  |nilFunc=>exact(aG rfl).2 ((aG rfl).1 h')
  |nilIface=>exact(aG rfl).2 ((aG rfl).1 h')
  |float k b=>obtain⟨n,h'⟩:=h';cases n with |zero=>exact h'.elim|succ n=>exact⟨1,h'⟩
  |complex k a b=>obtain⟨n,h'⟩:=h';cases n with |zero=>exact h'.elim|succ n=>exact⟨1,h'⟩
  |chan r=>obtain⟨n,h'⟩:=h';cases n with |zero=>exact h'.elim|succ n=>exact⟨1,h'⟩
theorem fI.aiD(h:fI ρ m w'){β FJ:Nat}{A:Mem}{pl:Pl}(ja:ρ β=none)(cA:β<m.next)(h':fI bq A w')(hp:bq FJ=some pl)(hle:ρ.le bq)(dO:∀b p,ρ b=some p->b≠FJ)
  (e:(A.blk FJ).kind=(m.blk β).kind/\(A.blk FJ).sz=(m.blk β).sz/\(A.blk FJ).pos=(m.blk β).pos/\(A.blk FJ).cs=(m.blk β).cs/\(A.blk FJ).es=(m.blk β).es/\(A.blk FJ).clock=(m.blk β).clock)
  (Mc:(m.blk β).kind≠3)(hA:∀b p,ρ b=some p->A.blk b=m.blk b)(vl:A.base<=FJ)(u6:aL A.bB FJ=false/\A.home<=FJ)(Kq:(m.blk β).es=#[])
  (hv:∀v,some v∈(m.blk β).cs->∃u,aP ρ v u):fI (ρ.put β pl) m w':=by
 obtain⟨e1,e2,e3,e4,e5,e6⟩:=e;have YP:=cZ.tN ja pl;have dJ:∀b' p',ρ.put β pl b'=some p'->(b'=β/\p'=pl)\/(b'≠β/\ρ b'=some p'):=by
  intro b' p' du;unfold cZ.put at du
  split at du
  ·rename_i e;exact .inl ⟨e,(Option.some.inj du).symm⟩
  ·rename_i e;exact .inr ⟨e,du⟩
 refine⟨fun b' p' du=>?_,fun b' p' du hk=>?_,fun b' p' x v du hc=>?_,fun b' p' x du hx hk nA=>?_,fun b' p' du hk ho=>?_,fun b' p' du hk ho=>?_,fun x9 x8 nH oG Ma h₁ AF k₁ k₂ hc=>?_,fun b' p' du=>?_,fun b' p' du hk wD=>?_⟩
 ·rcases dJ _ _ du with⟨rfl,rfl⟩|⟨_,hq⟩
  ·exact cA
  ·exact h.my _ _ hq
 ·rcases dJ _ _ du with⟨rfl,rfl⟩|⟨_,hq⟩
  ·obtain⟨g1,g2,g3⟩:=h'.cells FJ _ hp (by rw[e1];exact hk);exact⟨g1.trans e2,by rw[<-e4];exact g2,g3⟩
  ·exact h.cells _ _ hq hk
 ·rcases dJ _ _ du with⟨rfl,rfl⟩|⟨_,hq⟩
  ·have hx:(m.blk b').kind=1/\(m.blk b').cs[x]?=some (some v):=by
    unfold Mem.cell at hc
    split at hc
    ·rename_i hk;cases hg:(m.blk b').cs[x]? with
     |none=>simp[hg]at hc
     |some u=>cases u<;>simp[hg]at hc;subst hc;exact⟨hk.1,rfl⟩
    ·cases hc
   have E5:A.cell FJ x=some v:=by
    unfold Mem.cell;rw[bK ⟨by rw[e1];exact hx.1,dR u6.1 x⟩,e4,hx.2];rfl
   obtain⟨v',g1,g2⟩:=h'.lP FJ _ x v hp E5;obtain⟨u,n,hu⟩:=hv v (List.mem_of_getElem? hx.2);exact⟨v',g1,(aP.back hle hu g2).iA YP⟩
  ·obtain⟨v',h1,h2⟩:=h.lP _ _ _ _ hq hc;exact⟨v',h1,h2.iA YP⟩
 ·rcases dJ _ _ du with⟨rfl,rfl⟩|⟨_,hq⟩
  ·exact h'.thaw FJ _ x hp hx (by rw[e1];exact hk) vl
  ·exact h.thaw _ _ _ hq hx hk nA
 ·rcases dJ _ _ du with⟨rfl,rfl⟩|⟨_,hq⟩
  ·obtain⟨js,g1,g2⟩:=h'.maps FJ _ hp (by rw[e1];exact hk) (by unfold Mem.bz;rw[u6.1];simpa using u6.2);rw[e5,Kq]at g2;refine⟨js,by rw[<-e6];exact g1,?_⟩;rw[Kq];cases hh:js.toList with
   |nil=>trivial
   |cons a l=>rw[hh]at g2;exact g2.elim
  ·obtain⟨js,g1,g2⟩:=h.maps _ _ hq hk ho;exact⟨js,g1,g2.mono fun _ _ x=>⟨x.1.iA YP,x.2.1.iA YP,x.2.2⟩⟩
 ·rcases dJ _ _ du with⟨rfl,rfl⟩|⟨_,hq⟩
  ·exact absurd hk Mc
  ·exact h.lC _ _ hq hk ho
 ·rcases dJ _ _ h₁ with⟨rfl,rfl⟩|⟨amg,Is⟩<;>rcases dJ _ _ AF with⟨rfl,rfl⟩|⟨amf,Ir⟩
  ·exact absurd rfl Ma
  ·have :=h'.sep FJ x8 _ oG (Ne.symm (dO _ _ Ir)) hp (hle _ _ Ir) (by rw[e1];exact k₁) (by rw[hA _ _ Ir];exact k₂) hc;rw[e1,hA _ _ Ir]at this;exact this
  ·have :=h'.sep x9 FJ nH _ (dO _ _ Is) (hle _ _ Is) hp (by rw[hA _ _ Is];exact k₁) (by rw[e1];exact k₂) hc;rw[e1,hA _ _ Is]at this;exact this
  ·exact h.sep _ _ _ _ Ma Is Ir k₁ k₂ hc
 ·rcases dJ _ _ du with⟨rfl,rfl⟩|⟨_,hq⟩
  ·exact h'.rr _ _ hp
  ·exact h.rr _ _ hq
 ·rcases dJ _ _ du with⟨rfl,rfl⟩|⟨_,hq⟩
  ·exact h'.vars _ _ hp (by rw[e1];exact hk) (by rw[e3];exact wD)
  ·exact h.vars _ _ hq hk wD
end
end Go.AM
namespace Go.AM
open Go Go.Conc
section
variable {P:aD}{E:Perm}{bg:ay}{σ:mA}{ρ bq:cZ}{m m':Mem}{w w':ay}
def Mem.shut(m:Mem):Mem:={m with floor:=m.next,opn:=[],home:=m.next,base:=m.next}
theorem fI.shut(h:fI ρ m w):fI ρ m.shut w:=
 ⟨h.my,h.cells,h.lP,fun b p o hp _ _ hb=>absurd (h.my b p hp) (Nat.not_lt.2 hb),fun b p hp _ ho=>absurd (h.my b p hp) (Nat.not_lt.2 (Mem.lW ho).2),fun b p hp _ ho=>absurd (h.my b p hp) (Nat.not_lt.2 (Mem.lW ho).2),h.sep,h.rr,h.vars⟩
theorem Pv (h:fI ρ m w):(∀b o,(aA ρ m.shut).rd b o->(aA ρ m).rd b o)/\(∀b o,¬(aA ρ m.shut).wr b o)/\(∀b,¬(aA ρ m.shut).ob b):=
 ⟨fun _ _ x=>x,fun c o ⟨b,p,h1,_,_,_,h5⟩=>h5.2.elim (fun hf=>absurd (h.my b p h1) (Nat.not_lt.2 hf)) (fun hc=>by cases hc),fun c ⟨b,p,h1,_,_,h4⟩=>absurd (h.my b p h1) (Nat.not_lt.2 (Mem.lW h4).2)⟩
theorem Td (h:fI ρ m w){c:Nat}(hc:(aA ρ m).ob c):w.shape? c=none:=by
 obtain⟨b,p,h1,rfl,hk,ho⟩:=hc;unfold ay.shape?;rcases hk with hk|hk
 ·obtain⟨js,g,_⟩:=h.maps b p h1 hk ho;rw[g]
 ·obtain⟨_,g⟩:=h.lC b p h1 hk ho;rw[g]
theorem DS {R:Perm}(h:s8 R w.heap.size w w')(hw:∀b o,¬R.wr b o)(Ab:∀b,¬R.ob b){S:Perm}(hS:∀b o,S.rd b o->b<w.heap.size)(hSo:∀b,S.ob b->b<w.heap.size/\w.shape? b=none):bh S w w':=
 ⟨h.tape,h.os,h.output,h.size,fun b hb=>h.shape b hb,fun b o hr=>h.cell b o (hS b o hr) (hw b o),fun b o hb=>h.qP b o hb,fun b hb=>h.obj b (hSo b hb).1 (Ab b) (hSo b hb).2⟩
theorem aeL (h:fI ρ m w){b o:Nat}(hr:(aA ρ m).rd b o):b<w.heap.size:=by
 obtain⟨_,p,h1,rfl,_⟩:=hr;exact h.rr _ p h1
theorem agN (h:fI ρ m w){b:Nat}(hr:(aA ρ m).ob b):b<w.heap.size:=by
 obtain⟨_,p,h1,rfl,_⟩:=hr;exact h.rr _ p h1
structure O9 (P:aD)(o:im)(ev:cd->ae)(mk:Nat->ae)(kb:dU):Prop where
 form:MT mk
 op:∀m,dp P ev o m=some (mk m.next,m.alloc kb)
 kind:kb.kind=1\/kb.kind=2
 es:kb.es=#[]
 lP:∀{ρ:cZ}{oV:cd->ae},(∀x∈o.op.operands,aP ρ (ev x) (oV x))->∀v,some v∈kb.cs->∃u,aP ρ v u
theorem PZ {mk:Nat->ae}(h:MT mk){β:Nat}{v':ae}(hv:aP ρ (mk β) v'):∃pl,ρ β=some pl/\∀{eY:cZ}{ZP:Nat},eY ZP=some pl->aP eY (mk ZP) v':=by
 rcases h with rfl|⟨l,c,hc,rfl⟩|rfl
 ·obtain⟨pl,h1,h2,rfl⟩:=cH.1 hv;exact⟨pl,h1,fun h=>cH.2 ⟨pl,h,rfl,rfl⟩⟩
 ·obtain⟨pl,c',h1,h2,rfl,h3⟩:=bU.1 hv;exact⟨pl,h1,fun h=>bU.2 ⟨pl,c',h,rfl,rfl,h3⟩⟩
 ·obtain⟨pl,h1,rfl⟩:=gP.1 hv;exact⟨pl,h1,fun h=>gP.2 ⟨pl,h,rfl⟩⟩
theorem mK {mk:Nat->ae}(h:MT mk)(β:Nat):mZ (mk β)=some β:=by
 rcases h with rfl|⟨l,c,hc,rfl⟩|rfl<;>rfl
section
variable {main:Bool}{J:JT}{b:Frame}{a:Act}{k:List Item}{cs:List Frame}{ops:Array im}{i:Nat}{rest:List Nat}{o:im}
theorem P2 (hJ:∀σ,gi P main (J σ))(ho:ops[i]?=some o)(hw:Region.wanted o (yielded ops a.tmps)=true)(hk:b.kind≠ .early)(H:cQ P E bg σ ρ m w){ev:cd->ae}
  (dP:∀x∈o.op.operands,aP ρ (ev x) (a.eval x)){mk:Nat->ae}{kb:dU}(hm:O9 P o ev mk kb){β:Nat}(ja:ρ β=none)(cA:β<m.next)(HF:m.floor<=β)(kq:m.blk β={kb with a9:=(m.blk β).a9}){l:Nat}
  (hn:∀bq v' w',ρ.le bq->(∀b,b<m.next->b≠β->bq b=ρ b)->cQ P E bg σ bq m w'->aP bq (mk β) v'->J σ l ((aA bq m).or E) (G (b.at (a.put o.dst v') (.inRegion ops rest::k)) cs) w'):
  J σ (l+1) ((aA ρ m).or E) (G (b.at a (.inRegion ops (i::rest)::k)) cs) w:=by
 refine(hJ σ).step rfl fun aN jM=>?_
 have gp:=H.keeps jM;have hs:=gp.jF.shut;obtain⟨p1,p2,p3⟩:=Pv gp.jF;obtain⟨nx,w',gY,⟨bq,hL,v',hv,hy⟩,hc,he⟩:=mI (ai _) (EJ hs (ai _) dP (hm.op m.shut));obtain⟨evs,y7,ep⟩:=he #[];have mo:∀e∈listed P b.fn a o aN,nT (aA ρ m) e:=fun e hx=>by
  have h1:=ep e (by have :=mem_listed hx;rw[y7]at this;simpa using this);unfold nT at h1⊢
  split at h1
  ·refine⟨h1.1,?_⟩;have h2:=h1.2
   split at h2
   ·exact absurd h2 (p2 _ _)
   ·rename_i tS;rw[bZ tS];exact p1 _ _ h2
  ·exact absurd h1.1 (p3 _)
  ·exact h1
  ·exact h1
 obtain⟨pl,dd,hmv⟩:=PZ hm.form hv;have xE:m.shut.next=m.next:=rfl;rw[xE]at dd;have hK:bh ((aA ρ m).or E) aN w':=DS hc p2 p3 (fun b o x=>x.elim (aeL gp.jF) fun y=>(gp.apart.cell b o y).1)
  (fun b x=>x.elim (fun y=>⟨agN gp.jF y,Td gp.jF y⟩) fun y=>⟨(gp.apart.obj b y).1,(gp.apart.obj b y).2.2⟩)
 have qe:=gp.keeps hK;have hbA:(m.shut.alloc kb).blk m.next={kb with a9:=m.tick}:=by rw[Mem.cf];exact bK rfl
 have Oc:aL m.bB m.next=false:=by
  rcases ht:aL m.bB m.next with _|_
  ·rfl
  ·unfold aL at ht;obtain⟨s,hs,h1⟩:=List.any_eq_true.1 ht;simp only[ag,jE]at h1;have :=gp.wf.bB s hs;omega
 have hA:∀b p,ρ b=some p->(m.shut.alloc kb).blk b=m.blk b:=fun b p hp=>by
  rw[Mem.cf,bZ (by have :=gp.jF.my b p hp;show m.next≠b;omega)];rfl
 have dO:∀b p,ρ b=some p->b≠m.next:=fun b p hp=>by have :=gp.jF.my b p hp;omega
 have xG:(m.blk β).kind=kb.kind/\(m.blk β).sz=kb.sz/\(m.blk β).pos=kb.pos/\(m.blk β).cs=kb.cs/\(m.blk β).es=kb.es/\(m.blk β).clock=kb.clock:=by rw[kq];exact⟨rfl,rfl,rfl,rfl,rfl,rfl⟩
 have hS:fI (ρ.put β pl) m w':=qe.jF.aiD ja cA hL.jF dd hL.le dO (by rw[hbA];exact⟨xG.1.symm,xG.2.1.symm,xG.2.2.1.symm,xG.2.2.2.1.symm,xG.2.2.2.2.1.symm,xG.2.2.2.2.2.symm⟩)
  (by rw[xG.1];rcases hm.kind with h|h<;>omega) hA (ai _) ⟨Oc,ai _⟩ (by rw[xG.2.2.2.2.1];exact hm.es) (fun v hv=>hm.lP dP v (by rw[<-xG.2.2.2.1];exact hv))
 have me:∀x,pl.d<=x->x<pl.d+pl.room->(m.blk β).kind=1->m.nI β (x-pl.d)->aN.heap.size<=pl.c:=by
  intro x h1 h2 h3 h4;have h5:(aA bq (m.shut.alloc kb)).rd pl.c x:=⟨m.next,pl,dd,rfl,h1,h2,by
   unfold Mem.nI;rw[hbA];refine⟨xG.1▸h3,dR Oc _,?_⟩;rw[<-xG.2.2.2.1];exact h4.2.2⟩
  rcases hL.within.rd _ _ h5 with⟨b',p',g1,g2,g3,g4,g5⟩|h6
  ·exfalso
   have g5':m.nI b' (x-p'.d):=g5;have :=hL.jF.sep b' m.next p' pl (dO _ _ g1) (hL.le _ _ g1) dd (by rw[hA _ _ g1,g5'.1];simp) (by rw[hbA];show kb.kind≠0;rw[<-xG.1,h3];simp) g2;omega
  ·exact h6
 have Ab:(m.blk β).kind=2->aN.heap.size<=pl.c:=by
  intro h3;have h5:(aA bq (m.shut.alloc kb)).ob pl.c:=⟨m.next,pl,dd,rfl,.inl (by rw[hbA];show kb.kind=2;rw[<-xG.1,h3]),by
   unfold Mem.bz
   show(!aL m.bB m.next&&decide (m.next<=m.next))=true
   rw[Oc];simp⟩
  rcases hL.within.ob _ h5 with h6|h6
  ·exact absurd h6 (p3 _)
  ·exact h6
 have dJ:∀b' p',ρ.put β pl b'=some p'->(b'=β/\p'=pl)\/(b'≠β/\ρ b'=some p'):=by
  intro b' p' du;unfold cZ.put at du
  split at du
  ·rename_i e;exact .inl ⟨e,(Option.some.inj du).symm⟩
  ·rename_i e;exact .inr ⟨e,du⟩
 have hW:eJ (aA ρ m) (aA (ρ.put β pl) m) aN.heap.size:=by
  refine⟨fun c x=>?_,fun c x=>?_,fun c=>?_⟩
  ·rintro⟨b',p',g1,rfl,g3,g4,g5⟩;rcases dJ _ _ g1 with⟨rfl,rfl⟩|⟨_,q⟩
   ·exact .inr (me x g3 g4 g5.1 g5)
   ·exact .inl ⟨b',p',q,rfl,g3,g4,g5⟩
  ·rintro⟨b',p',g1,rfl,g3,g4,g5⟩;rcases dJ _ _ g1 with⟨rfl,rfl⟩|⟨_,q⟩
   ·exact .inr (me x g3 g4 g5.1.1 g5.1)
   ·exact .inl ⟨b',p',q,rfl,g3,g4,g5⟩
  ·rintro⟨b',p',g1,rfl,g3,g4⟩;rcases dJ _ _ g1 with⟨rfl,rfl⟩|⟨_,q⟩
   ·rcases g3 with g3|g3
    ·exact .inr (Ab g3)
    ·rw[xG.1]at g3;rcases hm.kind with h|h<;>omega
   ·exact .inl ⟨b',p',q,rfl,g3,g4⟩
 have hC:s8 (aA ρ m) aN.heap.size aN w':=⟨hc.tape,hc.os,hc.output,hc.size,hc.shape,fun b o hb _=>hc.cell b o hb (p2 b o),hc.qP,fun b hb _ fN=>hc.obj b hb (p3 b) fN⟩;have va:cQ P E bg σ (ρ.put β pl) m w':=by
  refine⟨hS,qe.rest,?_,fun g hg=>let⟨p,h1,h2⟩:=qe.og g hg;⟨p,cZ.tN ja pl _ _ h1,h2⟩,?_,qe.wf,fun b' p' x g1 gb g3 g4 g5 he=>?_,fun c x he hr=>(hW.rd c x hr).elim (gp.ew c x he) fun hN=>by have :=(gp.apart.cell c x (gp.apart.wf c x he)).1;omega⟩
  ·exact gp.apart.within hW hc.size hc.shape
  ·exact qe.fL.above fun b hb=>cZ.Lh _ _ aj
  ·rcases dJ _ _ g1 with⟨rfl,rfl⟩|⟨_,q⟩
   ·have h8:=me x g3 g4 g5.1 g5;have h9:=(gp.apart.cell _ _ he).1;omega
   ·exact gp.MN b' p' x q gb g3 g4 g5 he
 have hvv:aP (ρ.put β pl) (mk β) v':=hmv (cZ.kG ..);have ei:∀g',stepG P main (G (b.at a (.inRegion ops (i::rest)::k)) cs) aN= .go g' w' (listed P b.fn a o aN)->
   Stepped P main ((aA ρ m).or E) (G (b.at a (.inRegion ops (i::rest)::k)) cs) aN ((aA (ρ.put β pl) m).or E) g' w' (listed P b.fn a o aN):=fun g' hs=>
  ⟨hs,hC.or,fun e hx=> .inl (mo e hx).or,hW.or,(kI mo _).symm,fun _=>va.low⟩
 have ac4:=hn (ρ.put β pl) v' w' (cZ.tN ja pl) (fun b _ hb=>cZ.Lh _ _ hb) va hvv;rcases hy with rfl|⟨rfl,hu,rfl⟩
 ·exact⟨_,w',_,_,ei _ (stepG_value ho hw hk gY),ac4⟩
 ·exfalso
  have :=mK hm.form m.shut.next;rw[hu]at this;cases this
end
end
end Go.AM
namespace Go.AM
open Go Go.Conc
def fH (o:im):Bool:=
 match o.op with
 | .load .. | .lookup .. | .slice .. | .alloc _| .box .. | .buildSlice .. | .makeSlice .. | .makeMap .. =>true
 |_=>false
inductive eN (P:aD)(o:im)(ev:cd->ae)(v:ae)(m:Mem):Prop
 |pure (h:∀m,dp P ev o m=some (v,m))
 |look (hl:looks o=true) (h:dp P ev o m=some (v,m))
 |make (mk:Nat->ae) (kb:dU) (β:Nat) (hm:O9 P o ev mk kb) (hv:v=mk β) (cA:β<m.next) (HF:m.floor<=β) (hb:m.blk β={kb with a9:=(m.blk β).a9})
section
variable {P:aD}{o:im}{ev:cd->ae}{v:ae}{m m':Mem}
theorem My {ρ:cZ}{x x':ae}(h:aP ρ x x'):∀v,some v∈x.cells.toList.map some->∃u,aP ρ v u:=by
 intro v hv;obtain⟨y,hy,e⟩:=List.mem_map.1 hv;cases e;obtain⟨i,hi⟩:=List.mem_iff_getElem?.1 hy;obtain⟨u,_,hu⟩:=h.cells.get hi;exact⟨u,hu⟩
theorem yT {ρ:cZ}{l l':List ae}(h:bC (aP ρ) l l'):∀v,some v∈l.map some->∃u,aP ρ v u:=by
 intro v hv;obtain⟨y,hy,e⟩:=List.mem_map.1 hv;cases e;obtain⟨i,hi⟩:=List.mem_iff_getElem?.1 hy;obtain⟨u,_,hu⟩:=h.get hi;exact⟨u,hu⟩
theorem eN.made{mk:Nat->ae}{kb:dU}(hk:fH o=true)(hm:O9 P o ev mk kb)(hw:Wf m)(h:dp P ev o m=some (v,m'))(hkl:kb.live:=by refine And.intro ?_ cY;intro x hx;first |(cases hx;done)|(obtain⟨y,_,hy⟩:=List.mem_map.1 hx;rw[<-hy];simp)):kL m m'/\eN P o ev v m'/\(fH o=false->∀m,dp P ev o m=some (v,m)):=by
 rw[hm.op m]at h;simp only[ah,au]at h;obtain⟨rfl,rfl⟩:=h;refine⟨kL.alloc _ _ hkl,.make mk kb m.next hm rfl (Nat.lt_succ_self _) hw.fl ?_,fun h=>by rw[hk]at h;cases h⟩;rw[Mem.cf,bK rfl]
theorem eN.looked(hk:fH o=true)(hl:looks o=true)(h:dp P ev o m=some (v,m'))(h2:m'=m):kL m m'/\eN P o ev v m'/\(fH o=false->∀m,dp P ev o m=some (v,m)):=by
 subst h2;exact⟨kL.refl _,.look hl h,fun h=>by rw[hk]at h;cases h⟩
set_option maxHeartbeats 1000000 in
theorem TF(hl:fh o=true)(hw:Wf m)(h:dp P ev o m=some (v,m')):kL m m'/\eN P o ev v m'/\(fH o=false->∀m,dp P ev o m=some (v,m)):=by
 have still:∀{f:Option ae},(∀m,dp P ev o m=f.map fun v=>(v,m))->kL m m'/\eN P o ev v m'/\(fH o=false->∀m,dp P ev o m=some (v,m)):=fun{f} hf=>by
  rw[hf]at h;obtain⟨rfl,rfl⟩:=map_eq.1 h;exact⟨kL.refl _,.pure fun m=>by rw[hf];rfl,fun _ m=>by rw[hf];rfl⟩
 have one:∀{u:ae},(∀m,dp P ev o m=some (u,m))->kL m m'/\eN P o ev v m'/\(fH o=false->∀m,dp P ev o m=some (v,m)):=fun{u} hf=>still (f:=some u) hf
 unfold fh at hl
 split at hl
 ·rename_i x ho;exact one fun m=>by unfold dp;rw[ho]
 ·rename_i x ho;exact one fun m=>by unfold dp;rw[ho]
 ·rename_i c x y ho;cases hc:ev c with
  |bool t=>exact one (u:=if t then ev x else ev y) fun m=>by unfold dp;rw[ho];simp only[hc]
  |_=>unfold dp at h;rw[ho]at h;simp only[hc]at h;cases h
 ·rename_i s x f ho;exact still fun m=>by unfold dp;rw[ho]
 ·rename_i s x f ho;exact still fun m=>by unfold dp;rw[ho]
 ·rename_i t i ho;cases hc:ev t with
  |tuple vs=>exact still (f:=vs[i]?) fun m=>by unfold dp;rw[ho];simp only[hc]
  |_=>unfold dp at h;rw[ho]at h;simp only[hc]at h;cases h
 ·rename_i u t x ho;exact still fun m=>by unfold dp;rw[ho]
 ·rename_i op t x y u ho;cases op with
  |eql=>
   cases hc:rC P t (isConst x) (isConst y) (ev x) (ev y)with
   |some b=>exact one (u:= .bool b) fun m=>by unfold dp;rw[ho];simp only[hc]
   |none=>exact still (f:=cX P ev o) fun m=>by unfold dp;rw[ho];simp only[hc]
  |neq=>
   cases hc:rC P t (isConst x) (isConst y) (ev x) (ev y)with
   |some b=>exact one (u:= .bool (!b)) fun m=>by unfold dp;rw[ho];simp only[hc]
   |none=>exact still (f:=cX P ev o) fun m=>by unfold dp;rw[ho];simp only[hc]
  |_=>exact still fun m=>by unfold dp;rw[ho]
 ·rename_i t x ho;cases hu:P.underlying t with
  |none=>unfold dp at h;rw[ho]at h;simp only[hu]at h;cases h
  |some d=>
   cases d with
   |interface _=>unfold dp at h;rw[ho]at h;simp only[hu]at h;cases h
   |_=>exact one (u:= .iface t (ev x)) fun m=>by unfold dp;rw[ho];simp only[hu]
 ·rename_i fn f c ho;exact one fun m=>by unfold dp;rw[ho]
 ·rename_i x t a ok ho;exact still fun m=>by unfold dp;rw[ho]
 ·rename_i x ho;cases hc:ev x with
  |pointer a=>cases a with
   |none=>unfold dp at h;rw[ho]at h;simp only[hc]at h;cases h
   |some a=>exact one (u:= .pointer (some a)) fun m=>by unfold dp;rw[ho];simp only[hc]
  |func fn first cap=>
   cases fn with
   |method name=>
    cases hf:(first[0]?:Option ae)with
    |none=>unfold dp at h;rw[ho]at h;simp only[hc,hf]at h;cases h
    |some r=>
     by_cases hm:(dN P r name).isSome=true
     ·exact one (u:= .func (.method name) first cap) fun m=>by unfold dp;rw[ho];simp only[hc,hf,hm,if_true]
     ·unfold dp at h;rw[ho]at h;simp only[hc,hf,hm]at h;cases h
   |_=>unfold dp at h;rw[ho]at h;simp only[hc]at h;cases h
  |_=>unfold dp at h;rw[ho]at h;simp only[hc]at h;cases h
 ·rename_i t x i ho;cases hc:vM P t (ev x) (ev i)with
  |some u=>exact one (u:=u) fun m=>by unfold dp;rw[ho];simp only[hc]
  |none=>exact still (f:=cX P ev o) fun m=>by unfold dp;rw[ho];simp only[hc]
 ·rename_i t x i ho;exact still fun m=>by unfold dp;rw[ho]
 ·rename_i t x lo hi mx ho;refine eN.looked (by unfold fH;rw[ho]) (by unfold looks;rw[ho]) h ?_;unfold dp at h;rw[ho]at h;cases mx with
  |some _=>cases h
  |none=>
   simp only[]at h
   split at h
   ·simp only[ah,au]at h;exact h.2.symm
   ·exact(map_eq.1 h).2
 ·rename_i t ps ho;exact still fun m=>by unfold dp;rw[ho]
 ·rename_i t x ho;refine eN.looked (by unfold fH;rw[ho]) (by unfold looks;rw[ho]) h ?_;unfold dp at h;rw[ho]at h;exact(map_eq.1 h).2
 ·rename_i t x k ok ho;refine eN.looked (by unfold fH;rw[ho]) (by unfold looks;rw[ho]) h ?_;unfold dp at h;rw[ho]at h;exact(map_eq.1 h).2
 ·rename_i e ho;cases hz:gO P e with
  |none=>unfold dp at h;rw[ho]at h;simp only[hz]at h;cases h
  |some z=>
   refine eN.made (by unfold fH;rw[ho]) (mk:=fun β=>ptrTo β 0) (kb:={kind:=1,sz:=0,cs:=z.cells.toList.map some,pos:=1}) ⟨.inl rfl,fun m=>by unfold dp;rw[ho];simp only[hz];rfl,.inl rfl,rfl,fun{ρ oV} _ v hv=>?_⟩ hw h;have :=(jG hz).1;exact yT (gS (ρ:=ρ) this) v hv
 ·rename_i e x ho;refine eN.made (by unfold fH;rw[ho]) (mk:=fun β=>ptrTo β 0) (kb:={kind:=1,sz:=0,cs:=(ev x).cells.toList.map some,pos:=1}) ⟨.inl rfl,fun m=>by unfold dp;rw[ho];rfl,.inl rfl,rfl,fun{ρ oV} dP v hv=>?_⟩ hw h;exact My (dP x (by rw[ho];simp[Op.operands])) v hv
 ·rename_i t n ps ho;have h0:=h;unfold dp at h0;rw[ho]at h0;simp only[]at h0;unfold bI at h0
  split at h0
  ·rename_i e hu
   split at h0
   ·rename_i size z hs hz
    split at h0
    ·cases h0
    ·rename_i iB;obtain⟨r,hr,_⟩:=aB.1 h0;refine eN.made (by unfold fH;rw[ho]) (mk:=fun β=> .slice (some ⟨β,0,none⟩) n n) (kb:={kind:=1,sz:=size,cs:=r.toList.map some}) ⟨.inr (.inl ⟨n,n,aj,rfl⟩),fun m=>?_,.inl rfl,rfl,fun{ρ oV} dP v hv=>?_⟩ hw h
     ·unfold dp;rw[ho];simp only[];unfold bI;simp only[hu,hs,hz];rw[bZ iB,hr];rfl
     ·have hp:=yL (ρ:=ρ) (ev:=ev) (oV:=oV) (ps:=ps) (fun x hx=>dP x (by rw[ho];exact hx));obtain⟨r',_,yZ⟩:=xL hp (uF hz _) hr;exact yT yZ v hv
   ·cases h0
  ·cases h0
 ·rename_i t l c ho;have h0:=h;unfold dp at h0;rw[ho]at h0;simp only[]at h0;unfold fV at h0
  split at h0
  ·rename_i e l' c' hu hel hec
   split at h0
   ·rename_i i z hi hz
    split at h0
    ·rename_i hc;refine eN.made (by unfold fH;rw[ho]) (mk:=fun β=> .slice (some ⟨β,0,none⟩) l'.toNat c'.toNat) (kb:={kind:=1,sz:=i.size,cs:=(((Array.range (c'.toNat*i.size)).map (z.cells[·%z.cells.size]!)).toList.map some)}) ⟨.inr (.inl ⟨l'.toNat,c'.toNat,by unfold fp;omega,rfl⟩),fun m=>?_,.inl rfl,rfl,fun{ρ oV} dP v hv=>?_⟩ hw h
     ·unfold dp;rw[ho];simp only[];unfold fV;rw[hel,hec];simp only[hu,hi,hz];rw[bK hc]
     ·exact yT (uF (ρ:=ρ) hz _) v hv
    ·cases h0
   ·cases h0
  ·cases h0
 ·rename_i t r ho;cases r with
  |some _=>unfold dp at h;rw[ho]at h;cases h
  |none=>
   refine eN.made (by unfold fH;rw[ho]) (mk:=fun β=> .map (some β)) (kb:={kind:=2}) ⟨.inr (.inr rfl),fun m=>by unfold dp;rw[ho],.inr rfl,rfl,fun{ρ oV} dP v hv=>by cases hv⟩ hw h
 ·rename_i b lG ly ho;have hml:b= .min\/b= .max\/b= .len:=by
   cases b<;>first |exact .inl rfl|exact .inr (.inl rfl)|exact .inr (.inr rfl)|cases hl
  have dd:(∀m,dp P ev o m=(cX P ev o).map fun v=>(v,m))->kL m m'/\eN P o ev v m'/\(fH o=false->∀m,dp P ev o m=some (v,m)):=fun hf=>still hf
  rcases hml with rfl|rfl|rfl
  ·exact dd fun m=>by unfold dp;rw[ho]
  ·exact dd fun m=>by unfold dp;rw[ho]
  ·have h0:=h;unfold dp at h0;rw[ho]at h0;simp only[]at h0
   split at h0
   ·rename_i e1 _;cases e1
   ·rename_i e1 _;cases e1
   ·rename_i e1 _;cases e1
   ·rename_i x _ hx;cases hs:(match(ly[0]?).bind P.underlying,ev x with |some (.slice _),.slice _ n _=>some n|_,_=>none:Option Nat)with
    |some n=>
     refine one (u:=goInt n) fun m=>?_
     unfold dp;rw[ho];simp only[hx]
     split at hs
     ·rename_i h1 h2;simp only[ah]at hs;subst hs;simp only[h1,h2]
     ·cases hs
    |none=>
     refine dd fun m=>?_
     unfold dp;rw[ho];simp only[hx]
     split at hs
     ·cases hs
     ·rename_i hn
      split
      ·rename_i h1 h2;exact absurd h2 (fun h2=>hn _ _ _ _ h1 h2)
      ·rfl
   ·rename_i e1;cases e1
   ·rename_i e1;cases e1
   ·cases h0
 ·cases hl
end
end Go.AM
namespace Go.AM
open Go Go.Conc
section
variable {P:aD}{o:im}{ev:cd->ae}{v:ae}{m m':Mem}
theorem Ib {t:aM}{x:ae}{lo hi:Option ae}{u:ae}(hb:∀b,mZ x=some b->(m.blk b).kind≠0->m'.blk b=m.blk b):iR P t x lo hi m=some u->iR P t x lo hi m'=some u:=by
 unfold iR
 split
 ·rename_i b o len cap hu
  split
  ·rename_i l h' s' e1 e2 e3
   split
   ·intro h
    split at h
    ·rename_i wE;rw[bK]
     ·exact h
     ·refine⟨wE.1,wE.2.1,?_⟩;rcases wE.2.2 with h0|h0
      ·exact .inl h0
      ·refine .inr ?_;rw[hb b rfl aj];exact h0
    ·cases h
   ·exact id
  ·exact id
 ·exact id
 ·exact id
 ·exact id
theorem eN.grow(h:eN P o ev v m)(hw:Wf m)(g:kL m m'):eN P o ev v m':=by
 have cA:∀b,(m.blk b).kind≠0->b<m.next:=fun b hb=>by
  rcases Nat.lt_or_ge b m.next with h1|h1
  ·exact h1
  ·exact absurd (hw.xM b h1) hb
 cases h with
 |pure h=>exact .pure h
 |make mk kb β hm hv hl HF hb=>exact .make mk kb β hm hv (a8 hl g.next) (by rw[g.floor];exact HF) (by rw[g.blk β hl];exact hb)
 |look hl h=>
  refine .look hl ?_;unfold looks at hl
  split at hl
  ·rename_i t x ho;unfold dp at h⊢;rw[ho]at h⊢;simp only[]at h⊢;have h1:=(map_eq.1 h).1;obtain⟨b,c,n,hx,hk,hme,Rh⟩:=IX h1;rw[Rh m' (g.blk b (cA b aj)) (.inr (by rw[g.bB];exact hme))];rfl
  ·rename_i t x k ok ho;unfold dp at h⊢;rw[ho]at h⊢;simp only[]at h⊢;have h1:=(map_eq.1 h).1;rcases BV h1 with h2|⟨b,hx,hk,u6,Rh⟩
   ·rw[h2 m'];rfl
   ·rw[Rh m' (g.blk b (cA b aj)) (.inr (by unfold Mem.bz at u6⊢;rw[g.bB,g.home];exact u6))];rfl
  ·rename_i t x lo hi mx ho;unfold dp at h⊢;rw[ho]at h⊢;cases mx with
   |some _=>cases h
   |none=>
    simp only[]at h⊢;have key:∀u,iR P t (ev x) (lo.map ev) (hi.map ev) m=some u->iR P t (ev x) (lo.map ev) (hi.map ev) m'=some u:=by
     exact fun u=>Ib fun b hb hk=>g.blk b (cA b hk)
    split at h
    ·rename_i u hu;rw[key u hu];simp only[ah,au]at h⊢;exact⟨h.1,trivial⟩
    ·rename_i hu;have hp:=(map_eq.1 h).1;have dd:plain (ev x)=true:=by
      unfold cX at hp
      split at hp
      ·rename_i pF;exact Array.all_eq_true_iff_forall_mem.1 pF x (by rw[ho];simp[Op.operands])
      ·cases hp
     have hnb:∀b,mZ (ev x)=some b->False:=fun b hb=>by
      cases hx:ev x with
      |pointer a=>rw[hx]at hb dd;cases a<;>simp[mZ,plain,cG]at hb dd
      |slice a l c=>rw[hx]at hb dd;cases a<;>simp[mZ,plain,cG]at hb dd
      |map a=>rw[hx]at hb dd;cases a<;>simp[mZ,plain,cG]at hb dd
      |_=>rw[hx]at hb;cases hb
     rw[ED (m:=m) (m':=m') fun b hb=>(hnb b hb).elim,hu];simp only[hp];rfl
  ·cases hl
theorem IQ {m₂:Mem}(hl:looks o=true)(h:dp P ev o m=some (v,m₂)):m₂=m:=by
 unfold looks at hl
 split at hl
 ·rename_i t x ho;unfold dp at h;rw[ho]at h;exact(map_eq.1 h).2
 ·rename_i t x k ok ho;unfold dp at h;rw[ho]at h;exact(map_eq.1 h).2
 ·rename_i t x lo hi mx ho;unfold dp at h;rw[ho]at h;cases mx with
  |some _=>cases h
  |none=>
   simp only[]at h
   split at h
   ·simp only[ah,au]at h;exact h.2.symm
   ·exact(map_eq.1 h).2
 ·cases hl
theorem Bh (hl:looks o=false):jk o ev v=v:=by
 unfold jk
 split
 ·rename_i ho;unfold looks at hl;rw[ho]at hl;cases hl
 ·rename_i ho;unfold looks at hl;rw[ho]at hl;cases hl
 ·rename_i ho;unfold looks at hl;rw[ho]at hl;cases hl
 ·rfl
theorem eN.check(h:eN P o ev v m)(hn:m.next<=m'.next)(hb:∀b,mZ (jk o ev v)=some b->m'.blk b=m.blk b)(hl:looks o=true->(dp P ev o m').isSome=true)
  (hf:looks o=false->∀b,mZ v=some b->m'.floor<=b):eN P o ev v m':=by
 cases h with
 |pure h=>exact .pure h
 |make mk kb β hm hv cA HF HH=>
  cases hlk:looks o with
  |true=>
   have :=IQ hlk (hm.op m);have h2:=congrArg Mem.next this;simp at h2
  |false=>
   have ja:mZ v=some β:=by rw[hv];exact mK hm.form β
   rw[Bh hlk]at hb;exact .make mk kb β hm hv (a8 cA hn) (hf hlk β ja) (by rw[hb β ja];exact HH)
 |look hlk h=>
  have hs:=hl hlk;refine .look hlk ?_;have ac9:=hlk;unfold looks at ac9
  split at ac9
  ·rename_i t x ho;have hwv:jk o ev v=ev x:=by unfold jk;rw[ho]
   rw[hwv]at hb;unfold dp at h hs⊢;rw[ho]at h hs⊢;simp only[Option.isSome_map]at h hs⊢;have h1:=(map_eq.1 h).1;obtain⟨b,c,n,hx,hk,hme,Rh⟩:=IX h1;rw[Rh m' (hb b (by rw[hx];rfl)) (.inl hs)];rfl
  ·rename_i t x k ok ho;have hwv:jk o ev v=ev x:=by unfold jk;rw[ho]
   rw[hwv]at hb;unfold dp at h hs⊢;rw[ho]at h hs⊢;simp only[Option.isSome_map]at h hs⊢;have h1:=(map_eq.1 h).1;rcases BV h1 with h2|⟨b,hx,hk,u6,Rh⟩
   ·rw[h2 m'];rfl
   ·rw[Rh m' (hb b (by rw[hx];rfl)) (.inl hs)];rfl
  ·rename_i t x lo hi mx ho;have hwv:jk o ev v=ev x:=by unfold jk;rw[ho]
   rw[hwv]at hb;unfold dp at h⊢;rw[ho]at h⊢;cases mx with
   |some _=>cases h
   |none=>
    simp only[]at h⊢;rw[ED (m:=m) (m':=m') hb]
    split at h
    ·rename_i u hu;simp only[ah,au]at h⊢;exact⟨h.1,trivial⟩
    ·rename_i hu;rw[(map_eq.1 h).1];rfl
  ·cases ac9
end
def dh (ops:Array im)(i:Nat):Option Tmp:=(ops[i]?).bind (·.dst)
structure lH (ops:Array im)(bH:Array Nat)(nt:Nat):Prop where
 ord:yi ops bH nt
 nt:nt<=512
 uniq:∀i j d,i≠j->dh ops i=some d->dh ops j≠some d
 abk:∀(i j:Nat) (o:im) (d:Tmp),ops[i]?=some o->d∈kF ops o->j<ops.size->dh ops j=some d->B bH i j\/B bH j i
 chain:∀(k l a b:Nat),k<l->(aF ops)[k]?=some a->(aF ops)[l]?=some b->B bH b a
 steady:∀i,g9 ops bH (aF ops) i=true->∀o,ops[i]?=some o->∀d∈kF ops o,∀j,dh ops j=some d->B bH i j
section
variable {ops:Array im}{bH:Array Nat}{nt:Nat}
theorem Mq {i:Nat}{d:Tmp}(h:dh ops i=some d):i<ops.size:=by
 unfold dh at h;obtain⟨o,ho,_⟩:=bE.1 h;exact dq ho
theorem fJ {i:Nat}:i∈aF ops↔∃o,ops[i]?=some o/\fh o=false:=by
 unfold aF;rw[List.mem_filter,List.mem_range]
 constructor
 ·rintro⟨h1,h2⟩;rw[Array.getElem?_eq_getElem h1]at h2;exact⟨_,Array.getElem?_eq_getElem h1,by simpa using h2⟩
 ·rintro⟨o,ho,hl⟩;exact⟨dq ho,by rw[ho];simp[hl]⟩
theorem Co:(aF ops).Pairwise (·< ·):=List.Pairwise.filter _ List.pairwise_lt_range
theorem JQ {bH:Array Nat}(ht:∀{i j k:Nat},i<ops.size->B bH i j->B bH j k->B bH i k):∀{l:List Nat},(∀x∈l,x<ops.size)->xX bH l=true->∀(k m a b:Nat),k<m->l[k]?=some a->l[m]?=some b->B bH b a
 | [],_,_,k,m,a,b,_,h,_=>by simp at h
 | [x],_,_,k,m,a,b,hkm,h1,h2=>by
  cases m with
  |zero=>omega
  |succ m=>simp at h2
 |x::y::l,hl,hc,k,m,a,b,hkm,h1,h2=>by
  simp only[xX,ag]at hc;have Ko:B bH y x:=hc.1;have ih:=JQ ht (l:=y::l) (fun z hz=>hl z (by simp[hz])) hc.2;cases m with
  |zero=>omega
  |succ m=>
   simp only[List.getElem?_cons_succ]at h2;cases k with
   |succ k=>
    simp only[List.getElem?_cons_succ]at h1;exact ih k m a b aj h1 h2
   |zero=>
    simp only[List.getElem?_cons_zero,ah]at h1;subst h1;cases m with
    |zero=>simp only[List.getElem?_cons_zero,ah]at h2;subst h2;exact Ko
    |succ m=>
     have :=ih 0 (m+1) y b aj rfl h2;refine ht (hl b ?_) this Ko;exact List.mem_cons_of_mem _ (List.mem_of_getElem? h2)
theorem SE (qx:nt<=512)(h1:xX (Region.before ops) (aF ops)=true)(h2:tidy ops (Region.before ops)=true)(h3:Gi ops (Region.before ops) nt=true)(h4:steady ops (Region.before ops) (aF ops)=true):lH ops (Region.before ops) nt:=by
 have ahj:=SR h3;have aao:∀(i j:Nat) (x y:im) (d:Tmp),ops[i]?=some x->ops[j]?=some y->y.dst=some d->(i=j\/x.dst≠some d)/\(d∈kF ops x->B (Region.before ops) i j\/B (Region.before ops) j i):=by
  intro i j x y d hx hy hd;have a1:=aE.1 h2 i (List.mem_range.2 (dq hx));have a2:=aE.1 a1 j (List.mem_range.2 (dq hy));simp only[hx,hy,hd,ag,Bool.or_eq_true,beq_iff_eq,bne_iff_ne,Bool.not_eq_true']at a2;refine⟨a2.1,fun hs=>?_⟩;rcases a2.2 with h|h
  ·have :(kF ops x).contains d=true:=by simpa using hs
   rw[this]at h;cases h
  ·exact h
 refine⟨ahj,qx,fun i j d sN hi hj=>?_,fun i j o d ho hd Ck hj=>?_,fun k l a b=>?_,fun i hc o ho d hd j hj=>?_⟩
 ·unfold dh at hi hj;obtain⟨x,hx,hxd⟩:=bE.1 hi;obtain⟨y,hy,hyd⟩:=bE.1 hj;exact(aao i j x y d hx hy hyd).1.elim sN fun h=>h hxd
 ·unfold dh at hj;obtain⟨y,hy,hyd⟩:=bE.1 hj;exact(aao i j o y d ho hy hyd).2 hd
 ·exact JQ (fun a b c=>ahj.trans a b c) (fun x hx=>by obtain⟨o,ho,_⟩:=fJ.1 hx;exact dq ho) h1 k l a b
 ·unfold dh at hj;obtain⟨y,hy,hyd⟩:=bE.1 hj;have a1:=aE.1 h4 i (List.mem_range.2 (dq ho));simp only[hc,Bool.not_true,Bool.false_or,ho]at a1;have a2:=aE.1 a1 j (List.mem_range.2 (dq hy));simp only[hy,hyd,Bool.or_eq_true,Bool.not_eq_true']at a2;rcases a2 with h|h
  ·have :(kF ops o).contains d=true:=by simpa using hd
   rw[this]at h;cases h
  ·exact h
theorem rU {p:Nat->Bool}:∀{l:List Nat},(∀(k m a b:Nat),k<m->l[k]?=some a->l[m]?=some b->p b=true->p a=true)->∀(k x:Nat),l[k]?=some x->(p x=true↔k<(l.filter p).length)
 | [],_,k,x,h=>by simp at h
 |y::l,hd,k,x,h=>by
  have ih:=rU (l:=l) (p:=p) fun k m a b hkm h1 h2=>hd (k+1) (m+1) a b aj (by simpa using h1) (by simpa using h2)
  rw[List.filter_cons];cases hy:p y with
  |true=>
   simp only[if_true,List.length_cons];cases k with
   |zero=>simp only[List.getElem?_cons_zero,ah]at h;subst h;simp[hy]
   |succ k=>
    simp only[List.getElem?_cons_succ]at h;rw[ih k x h];omega
  |false=>
   have Jd:∀z∈l,p z=false:=fun z hz=>by
    obtain⟨m,hm⟩:=List.mem_iff_getElem?.1 hz;cases hpz:p z with
    |false=>rfl
    |true=>rw[hd 0 (m+1) y z aj rfl (by simpa using hm) hpz]at hy;cases hy
   have L9:l.filter p=[]:=List.filter_eq_nil_iff.2 fun z hz=>by rw[Jd z hz];simp
   simp only[bO,if_false,L9,List.length_nil,Nat.not_lt_zero,iff_false];cases k with
   |zero=>simp only[List.getElem?_cons_zero,ah]at h;subst h;simp[hy]
   |succ k=>
    simp only[List.getElem?_cons_succ]at h;rw[Jd x (List.mem_of_getElem? h)];simp
theorem lH.pG(h:lH ops bH nt){i k x:Nat}(hi:i<ops.size)(hx:(aF ops)[k]?=some x):B bH i x↔k<cK bH (aF ops) i:=by
 unfold cK;exact rU (p:=fun h=>(bH.getD i 0).testBit h) (fun k m a b hkm h1 h2 hb=>h.ord.trans hi hb (h.chain k m a b hkm h1 h2)) k x hx
theorem lH.wR(h:lH ops bH nt){i k x:Nat}(hx:(aF ops)[k]?=some x):B bH x i↔q0 bH (aF ops) i<=k:=by
 have :=rU (p:=fun h=> !(bH.getD h 0).testBit i) (l:=aF ops) (fun k m a b hkm h1 h2 hb=>by
  have cA:b<ops.size:=by obtain⟨o,ho,_⟩:=fJ.1 (List.mem_of_getElem? h2);exact dq ho
  cases ha:(bH.getD a 0).testBit i with
  |false=>simp
  |true=>
   have :B bH b i:=h.ord.trans cA (h.chain k m a b hkm h1 h2) ha;unfold B at this;rw[this]at hb;cases hb) k x hx
 unfold B q0;cases hb:(bH.getD x 0).testBit i with
 |true=>rw[hb]at this;simp only[Bool.not_true,bO,false_iff,Nat.not_lt]at this;exact⟨fun _=>this,fun _=>rfl⟩
 |false=>rw[hb]at this;simp only[Bool.not_false,true_iff]at this;exact⟨fun h=>(by cases h),fun h=>absurd this (Nat.not_lt.2 h)⟩
theorem lH.Fa(h:lH ops bH nt){i:Nat}(hi:i<ops.size):cK bH (aF ops) i<=q0 bH (aF ops) i:=by
 rcases Nat.lt_or_ge (q0 bH (aF ops) i) (cK bH (aF ops) i)with cA|Ad
 ·have hle:cK bH (aF ops) i<=(aF ops).length:=List.length_filter_le _ _;have hx:=List.getElem?_eq_getElem (show q0 bH (aF ops) i<(aF ops).length by omega);have h1:=(h.pG hi hx).2 cA;have h2:=(h.wR (i:=i) hx).2 (ai _);have h3:=h.ord.trans hi h1 h2;have :=h.ord.lt hi h3;omega
 ·exact Ad
theorem lH.ze(h:lH ops bH nt){i j:Nat}(hi:i<ops.size)(hb:B bH i j):cK bH (aF ops) j<=cK bH (aF ops) i:=by
 have hj:=h.ord.lt hi hb;rcases Nat.lt_or_ge (cK bH (aF ops) i) (cK bH (aF ops) j)with cA|Ad
 ·have hle:cK bH (aF ops) j<=(aF ops).length:=List.length_filter_le _ _;have hx:=List.getElem?_eq_getElem (show cK bH (aF ops) i<(aF ops).length by omega);have h1:=(h.pG aj hx).2 cA;have :=(h.pG hi hx).1 (h.ord.trans hi hb h1);omega
 ·exact Ad
end
end Go.AM
namespace Go.AM
open Go Go.Conc
section
variable {P:aD}{ops:Array im}{bH:Array Nat}{nt:Nat}{call:bJ}{r:Ss}{lL:Tm}
def ad9 (P:aD)(nt:Nat)(ops:Array im)(call:bJ)(t:nj)(rest:iC)(tm:Tm)(m:Mem)(df:Df)(r:Ss):Prop:=
 match t with
 |(0,i,slot)=>∃fC m' ma,qG P call nt ops i tm m df fC m' ma/\rest call fC m' ma=some r/\(slot≠0->m.pend=[])
 |(1,i,slot)=>∃o x,ops[i]?=some o/\mE o=some x/\nt<=slot/\slot<512/\rest call (tn slot (if cM ops o tm then jo m (dj tm x)else undef) tm) m df=some r
 |(_,i,slot)=>∃o x,ops[i]?=some o/\mE o=some x/\rest call tm m df=some r/\(cM ops o tm=true->w6 (cV slot tm) (jo m (dj tm x))=true/\
   (looks o=true->(dp P (dj tm) o m).isSome=true)/\(looks o=false->∀b,mZ (dj tm x)=some b->m.floor<=b))
theorem pd {t:nj}{rest F:iC}(h:zB P nt ops t rest=some F){tm:Tm}{m:Mem}{df:Df}(hf:F call tm m df=some r):ad9 P nt ops call t rest tm m df r:=by
 obtain⟨k,i,slot⟩:=t
 match k with
 |0=>
  unfold zB at h;simp only[]at h
  split at h
  ·rename_i f hF;cases h;cases slot with
   |zero=>
    obtain⟨fC,m',ma,h1,h2⟩:=BK hF hf;exact⟨fC,m',ma,h1,h2,fun h=>absurd rfl h⟩
   |succ n=>
    replace hf:Ny f call tm m df=some r:=hf
    unfold Ny at hf
    split at hf
    ·rename_i hp;obtain⟨fC,m',ma,h1,h2⟩:=BK hF hf;exact⟨fC,m',ma,h1,h2,fun _=>hp⟩
    ·cases hf
  ·cases h
 |1=>
  unfold zB at h;simp only[]at h
  split at h
  ·rename_i o ho
   split at h
   ·rename_i x hx
    split at h
    ·rename_i hc;cases h;simp only[ag,yf,jz,jE]at hc;exact⟨o,x,ho,hx,hc.1.2,hc.2,hf⟩
    ·cases h
   ·cases h
  ·cases h
 |k+2=>
  unfold zB at h;simp only[]at h
  split at h
  ·rename_i o ho
   split at h
   ·rename_i x hx;cases h;unfold sj at hf;refine⟨o,x,ho,hx,?_⟩;cases hw:cM ops o tm with
    |false=>
     rw[hw]at hf;exact⟨hf,fun h=>by cases h⟩
    |true=>
     rw[hw]at hf;simp only[if_true]at hf;cases hl:looks o with
     |true=>
      simp only[hl,if_true]at hf
      split at hf
      ·rename_i hc;simp only[ag]at hc;exact⟨hf,fun _=>⟨hc.1,fun _=>hc.2,fun h=>by cases h⟩⟩
      ·cases hf
     |false=>
      simp only[hl,bO,if_false]at hf;cases wB:w6 (cV slot tm) (jo m (dj tm x))with
      |false=>
       rw[wB]at hf;cases hf
      |true=>
       rw[wB]at hf;cases HH:mZ (dj tm x)with
       |none=>
        rw[HH]at hf;exact⟨hf,fun _=>⟨rfl,fun h=>(by cases h),fun _ b hb=>by cases hb⟩⟩
       |some b=>
        rw[HH]at hf;simp only[Bool.true_and]at hf
        by_cases hle:m.floor.ble b=true
        ·rw[bK hle]at hf;refine⟨hf,fun _=>⟨rfl,fun h=>(by cases h),fun _ b' hb=>?_⟩⟩;cases hb;simpa[yf]using hle
        ·rw[bZ hle]at hf;cases hf
   ·cases h
  ·cases h
theorem kZ {t:nj}{T:List nj}{F:iC}(h:ir P nt ops (t::T)=some F):∃rest,ir P nt ops T=some rest/\zB P nt ops t rest=some F:=by
 unfold ir at h
 split at h
 ·rename_i rest hr;exact⟨rest,hr,h⟩
 ·cases h
theorem Ln {i:Nat}{tm fC:Tm}{m m':Mem}{df ma:Df}(h:qG P call nt ops i tm m df fC m' ma):∃v,fC=Gf (dh ops i) v tm/\∀d,dh ops i=some d->d<512:=by
 obtain⟨o,ho,hg,_,h⟩:=h;have e:dh ops i=o.dst:=by unfold dh;rw[ho];rfl
 rw[e];rcases h with⟨_,v,_,rfl⟩|⟨_,rfl,_⟩
 ·exact⟨v,rfl,hg.2⟩
 ·exact⟨undef,rfl,hg.2⟩
theorem jh {d:Option Tmp}{t:Nat}(hd:∀x,d=some x->x<512)(ht:t<512)(v:ae)(tm:Tm):cV t (Gf d v tm)=if d=some t then v else cV t tm:=by
 unfold Gf;cases d with
 |none=>simp
 |some d=>simp only[oT (hd d rfl) ht,ah]
theorem vx (qx:nt<=512):∀{T:List nj}{F:iC}{tm:Tm}{m:Mem}{df:Df},ir P nt ops T=some F->F call tm m df=some r->∀t,t<nt->(∀i x,(0,i,x)∈T->dh ops i≠some t)->cV t r.tm=cV t tm
 | [],F,tm,m,df,h,hf,t,ht,_=>by
  unfold ir at h;cases h;unfold Ze at hf;cases hf;rfl
 |u::T,F,tm,m,df,h,hf,t,ht,hn=>by
  obtain⟨rest,hr,hu⟩:=kZ h;have hi:=pd hu hf;have ih:=fun{fC m' ma} (GZ:rest call fC m' ma=some r)=>vx qx hr GZ t ht fun i x hx=>hn i x (List.mem_cons_of_mem _ hx)
  obtain⟨k,i,slot⟩:=u
  match k with
  |0=>
   obtain⟨fC,m',ma,ho,GZ,_⟩:=hi;rw[ih GZ];obtain⟨v,rfl,hd⟩:=Ln ho;rw[jh hd aj,bZ (hn i slot cY)]
  |1=>
   obtain⟨o,x,_,_,h1,h2,GZ⟩:=hi;rw[ih GZ,oT h2 aj,bZ aj]
  |k+2=>
   obtain⟨o,x,_,_,GZ,_⟩:=hi;exact ih GZ
def Ex (ops:Array im)(nt:Nat)(r:Ss)(lL:Tm)(S:Nat->Prop)(tm:Tm):Prop:=
 ∀t,t<nt->(∀i,S i->dh ops i=some t->cV t tm=cV t r.tm)/\((∀i,S i->dh ops i≠some t)->cV t tm=cV t lL)
def Seen (ops:Array im)(bH:Array Nat)(nt:Nat)(r:Ss)(lL:Tm)(i:Nat)(tm:Tm):Prop:=
 ∀o,ops[i]?=some o->∀t∈kF ops o,t<nt->(∀j,B bH i j->dh ops j=some t->cV t tm=cV t r.tm)/\((∀j,B bH i j->dh ops j≠some t)->cV t tm=cV t lL)
theorem Nl (R:lH ops bH nt){S:Nat->Prop}{tm:Tm}(h:Ex ops nt r lL S tm){i:Nat}(h1:∀j,B bH i j->S j)(h2:∀j,S j->¬B bH j i):Seen ops bH nt r lL i tm:=by
 intro o ho t ht cA;refine⟨fun j hj hd=>(h t cA).1 j (h1 j hj) hd,fun hn=>(h t cA).2 fun j hj hd=>?_⟩;rcases R.abk i j o t ho ht (Mq hd) hd with hb|hb
 ·exact hn j hb hd
 ·exact h2 j hj hb
theorem Nk {o:im}{t:Tmp}(h:cd.tmp t∈o.op.operands):t∈kF ops o:=by
 unfold kF;rw[List.mem_append]
 left
 rw[List.mem_filterMap];exact⟨.tmp t,by simpa using h,rfl⟩
theorem Bz {o:im}{j:Nat}{want:Bool}{g:Tmp}(h:o.guard=some (j,want))(hg:dh ops j=some g):g∈kF ops o:=by
 unfold kF;rw[List.mem_append]
 right
 rw[h];unfold dh at hg;simp[hg]
theorem OF {o:im}{tm fC:Tm}(h:∀t∈kF ops o,t<nt->cV t tm=cV t fC)(hg:∀x∈o.op.operands,rA nt P.globals.size x=true):∀x∈o.op.operands,dj tm x=dj fC x:=by
 intro x hx;cases x with
 |tmp t=>exact h t (Nk hx) (by have :=hg _ hx;simpa[rA,jz]using this)
 |_=>rfl
theorem wL {o:im}{tm fC:Tm}(h:∀t∈kF ops o,t<nt->cV t tm=cV t fC)(hg:∀j want,o.guard=some (j,want)->∃g,dh ops j=some g/\g<nt):cM ops o tm=cM ops o fC:=by
 unfold cM;cases YU:o.guard with
 |none=>rfl
 |some p=>
  obtain⟨j,want⟩:=p;obtain⟨g,h1,h2⟩:=hg j want YU;have h3:=h1;unfold dh at h3;simp only[h3];rw[h g (Bz YU h1) h2]
theorem ab5 {o:im}(hl:looks o=true){ev oV:cd->ae}(h:∀x∈o.op.operands,ev x=oV x)(m:Mem):dp P ev o m=dp P oV o m:=by
 unfold looks at hl
 split at hl
 ·rename_i t x ho;have :=h x (by rw[ho];simp[Op.operands]);unfold dp;rw[ho];simp only[this]
 ·rename_i t x k ok ho;have h1:=h x (by rw[ho];simp[Op.operands]);have h2:=h k (by rw[ho];simp[Op.operands]);unfold dp;rw[ho];simp only[h1,h2]
 ·rename_i t x lo hi mx ho;have h1:=h x (by rw[ho];simp[Op.operands]);have h2:lo.map ev=lo.map oV:=by
   cases lo with
   |none=>rfl
   |some y=>simp only[cT];rw[h y (by rw[ho];simp[Op.operands])]
  have h3:hi.map ev=hi.map oV:=by
   cases hi with
   |none=>rfl
   |some y=>simp only[cT];rw[h y (by rw[ho];simp[Op.operands])]
  have h4:mx.map ev=mx.map oV:=by
   cases mx with
   |none=>rfl
   |some y=>simp only[cT];rw[h y (by rw[ho];simp[Op.operands])]
  have dd:cX P ev o=cX P oV o:=by
   unfold cX;have e1:o.op.operands.all (fun x=>plain (ev x))=o.op.operands.all (fun x=>plain (oV x)):=by
    rw[Bool.eq_iff_iff,Array.all_eq_true_iff_forall_mem,Array.all_eq_true_iff_forall_mem];exact⟨fun g y hy=>by rw[<-h y hy];exact g y hy,fun g y hy=>by rw[h y hy];exact g y hy⟩
   have e2:execOp ev o=execOp oV o:=by
    unfold execOp;rw[ho];simp only[h1,h2,h3,h4]
   rw[e1,e2]
  unfold dp;rw[ho];cases mx with
  |some _=>rfl
  |none=>simp only[h1,h2,h3,dd]
 ·cases hl
theorem Ep {o:im}{ev oV:cd->ae}(h:∀x∈o.op.operands,ev x=oV x)(v:ae):jk o ev v=jk o oV v:=by
 unfold jk
 split
 ·rename_i t x ho;exact h x (by rw[ho];simp[Op.operands])
 ·rename_i t x k ok ho;exact h x (by rw[ho];simp[Op.operands])
 ·rename_i t x lo hi mx ho;exact h x (by rw[ho];simp[Op.operands])
 ·rfl
structure Eh (P:aD)(ops:Array im)(bH:Array Nat)(nt:Nat)(r:Ss)(lL:Tm)(i:Nat)(Eu:Tm)(v:ae)(m:Mem)(tm:Tm):Prop where
 op:∃o,ops[i]?=some o/\aaS P nt o/\(∀j want,o.guard=some (j,want)->∃g,dh ops j=some g/\g<nt)/\(∀d,o.dst=some d->d<nt->v=cV d r.tm)/\
  ((cM ops o Eu=false/\v=undef)\/(cM ops o Eu=true/\eN P o (dj Eu) v m/\(fH o=false->∀m,dp P (dj Eu) o m=some (v,m))/\(g9 ops bH (aF ops) i=true->nt+i<512/\∃m₁,Wf m₁/\Mv m₁ m/\eN P o (dj Eu) v m₁/\cV (nt+i) tm=jo m₁ (jk o (dj Eu) v))))
 seen:Seen ops bH nt r lL i Eu
theorem Pw {a b:Nat}(h:w6 (.int .i64 (.ofNat a)) (.int .i64 (.ofNat b))=true):a=b:=by
 simp only[w6]at h;exact az h
theorem KY {m m':Mem}(hw:Wf m)(hm:Mv m m'){x:ae}(h:w6 (jo m x) (jo m' x)=true){b:Nat}(hb:mZ x=some b):m'.blk b=m.blk b/\jo m x=jo m' x:=by
 unfold jo at h⊢;rw[hb]at h⊢;simp only[]at h⊢;have e:=Pw h;refine⟨?_,by rw[e]⟩;rcases hm.blk b with h1|h1
 ·exact h1
 ·have :=hw.a9 b;omega
theorem Er {o:im}{x:cd}(h:mE o=some x){tm:Tm}{v:ae}(hv:∀d,o.dst=some d->cV d tm=v):dj tm x=jk o (dj tm) v:=by
 unfold mE at h;unfold jk
 split at h
 ·rename_i t y ho;cases h;rw[ho]
 ·rename_i t y k ok ho;cases h;rw[ho]
 ·rename_i t y lo hi mx ho;cases h;rw[ho]
 ·rename_i h1 h2 h3;cases hd:o.dst with
  |none=>rw[hd]at h;cases h
  |some d=>
   rw[hd]at h;cases h
   split
   ·rename_i ho;exact absurd ho (h1 _ _)
   ·rename_i ho;exact absurd ho (h2 _ _ _ _)
   ·rename_i ho;exact absurd ho (h3 _ _ _ _ _)
   ·exact hv d hd
end
end Go.AM
namespace Go.AM
open Go Go.Conc
section
variable {P:aD}{ops:Array im}{bH:Array Nat}{nt:Nat}{call:bJ}{r:Ss}{lL:Tm}
def yR (ops:Array im)(bH:Array Nat)(nt:Nat)(L:List Nat):List nj:=L.flatMap fun i=>if g9 ops bH (aF ops) i then[(0,i,0),(1,i,nt+i)]else[(0,i,0)]
def Lin (ops:Array im)(bH:Array Nat):(Nat->Prop)->List Nat->Prop
 |_,[]=>True
 |S,i::L=>(∀j,B bH i j->S j)/\(∀j,S j->¬B bH j i)/\¬S i/\(∃o,ops[i]?=some o/\fh o=true)/\Lin ops bH (fun x=>S x\/x=i) L
theorem Lin.aai:∀{L:List Nat}{S:Nat->Prop},Lin ops bH S L->∀x,S x->x∉L
 | [],S,_,x,_=>by simp
 |i::L,S,h,x,hx=>by
  obtain⟨_,_,h3,_,h5⟩:=h;intro hm;rcases aR.1 hm with rfl|hm
  ·exact h3 hx
  ·exact Lin.aai h5 x (.inl hx) hm
theorem TG {o:im}(hl:fh o=true):(∀x lG ly,o.op≠ .call {callee:= .value x,args:=lG,argTypes:=ly})/\(∀x n lG ly,o.op≠ .call {callee:= .invoke x n,args:=lG,argTypes:=ly})/\(∀c,o.op≠ .defer c):=by
 refine⟨fun x lG ly ho=>?_,fun x n lG ly ho=>?_,fun c ho=>?_⟩<;>(unfold fh at hl;rw[ho]at hl;cases hl)
theorem LI {o:im}{tm:Tm}{m m':Mem}{df ma:Df}{v:ae}(hl:fh o=true)(h:zv P call o tm m df v m' ma):dp P (dj tm) o m=some (v,m')/\ma=df:=by
 obtain⟨n1,n2,n3⟩:=TG hl;rcases h with h|⟨f,args,hc,_⟩|⟨f,args,hd,_⟩
 ·exact h
 ·rcases hc with⟨x,lG,ly,_,_,ho,_⟩|⟨x,n,lG,ly,_,ho,_⟩
  ·exact absurd ho (n1 _ _ _)
  ·exact absurd ho (n2 _ _ _ _)
 ·obtain⟨x,lG,ly,_,_,ho,_⟩:=hd;exact absurd ho (n3 _)
def s6 (P:aD)(ops:Array im)(i:Nat)(Eu:Tm)(v:ae)(β:Nat):Prop:=∃o mk kb,ops[i]?=some o/\O9 P o (dj Eu) mk kb/\v=mk β/\cM ops o Eu=true
theorem Lk (R:lH ops bH nt){i:Nat}{o:im}(ho:ops[i]?=some o){t:Tmp}(ht:t∈kF ops o):dh ops i≠some t:=by
 intro hd;have hi:=dq ho;rcases R.abk i i o t ho ht hi hd with h|h<;>(have :=R.ord.lt hi h;omega)
theorem Ex.step(R:lH ops bH nt){S:Nat->Prop}{tm:Tm}(h:Ex ops nt r lL S tm){i:Nat}(hi:¬S i){v:ae}(hd:∀d,dh ops i=some d->d<512)(hv:∀d,dh ops i=some d->d<nt->v=cV d r.tm):Ex ops nt r lL (fun x=>S x\/x=i) (Gf (dh ops i) v tm):=by
 intro t ht;have qx:=R.nt;rw[jh hd aj]
 by_cases he:dh ops i=some t
 ·rw[bK he];exact⟨fun _ _ _=>hv t he ht,fun hn=>absurd he (hn i (.inr rfl))⟩
 ·rw[bZ he];refine⟨fun j hj hdj=>?_,fun hn=>(h t ht).2 fun j hj=>hn j (.inl hj)⟩;rcases hj with hj|rfl
  ·exact(h t ht).1 j hj hdj
  ·exact absurd hdj he
theorem Ex.slot{S:Nat->Prop}{tm:Tm}(h:Ex ops nt r lL S tm)(qx:nt<=512){slot:Nat}(h1:nt<=slot)(h2:slot<512)(v:ae):Ex ops nt r lL S (tn slot v tm):=by
 intro t ht;rw[oT h2 aj,bZ aj];exact h t ht
theorem Ex.iff{S S':Nat->Prop}{tm:Tm}(h:Ex ops nt r lL S tm)(e:∀x,S x↔S' x):Ex ops nt r lL S' tm:=by
 have :S=S':=funext fun x=>propext (e x)
 rw[<-this];exact h
set_option maxHeartbeats 1000000 in
theorem vH(R:lH ops bH nt){T:List nj}:∀{L:List Nat}{S:Nat->Prop}{F:iC}{tm:Tm}{m:Mem}{df:Df},Lin ops bH S L->(∀x y,(0,x,y)∈T->¬S x/\x∉L)->
  ir P nt ops (yR ops bH nt L++T)=some F->F call tm m df=some r->Wf m->Ex ops nt r lL S tm->
  ∃F' fC m',ir P nt ops T=some F'/\F' call fC m' df=some r/\kL m m'/\Ex ops nt r lL (fun x=>S x\/x∈L) fC/\(∀j,j∉L->nt+j<512->cV (nt+j) fC=cV (nt+j) tm)/\
   ∃(sF:Nat->Tm) (vI:Nat->ae),(∀i∈L,Eh P ops bH nt r lL i (sF i) (vI i) m' fC)/\(∀i∈L,∀β,s6 P ops i (sF i) (vI i) β->m.next<=β/\β<m'.next)/\
    (∀i∈L,∀j∈L,i≠j->∀β,s6 P ops i (sF i) (vI i) β->¬s6 P ops j (sF j) (vI j) β)
 | [],S,F,tm,m,df,_,_,hT,hf,hw,hex=>⟨F,tm,m,hT,hf,kL.refl m,hex.iff fun x=>by simp,fun _ _ _=>rfl,fun _=>tm,fun _=>undef,cY,cY,cY⟩
 |i::L,S,F,tm,m,df,akF,hTn,hT,hf,hw,hex=>by
  obtain⟨l1,l2,l3,⟨o,ho,hl⟩,l5⟩:=akF;have qx:=R.nt;have hiL:i∉L:=Lin.aai l5 i (.inr rfl);have I8:Seen ops bH nt r lL i tm:=Nl R hex l1 l2;have ed:dh ops i=o.dst:=by unfold dh;rw[ho];rfl
  have y6:∀{x y:Nat},((0,x,y):nj)∈(if g9 ops bH (aF ops) i then[((1,i,nt+i):nj)]else[])++(yR ops bH nt L++T)->x≠i:=by
   intro x y hx;rcases List.mem_append.1 hx with h|h
   ·split at h
    ·simp at h
    ·simp at h
   ·rcases List.mem_append.1 h with h|h
    ·unfold yR at h;obtain⟨z,hz,h⟩:=List.mem_flatMap.1 h;have :x=z:=by
      split at h
      ·simp at h;exact h.1
      ·simp at h;exact h.1
     subst this;rintro rfl;exact hiL hz
    ·rintro rfl;exact(hTn _ _ h).2 cY
  have ahG:ir P nt ops ((0,i,0)::((if g9 ops bH (aF ops) i then[((1,i,nt+i):nj)]else[])++(yR ops bH nt L++T)))=some F:=by
   rw[<-hT]
   congr 1
   unfold yR;rw[List.flatMap_cons]
   split<;>simp
  obtain⟨F1,Kt,ht1⟩:=kZ ahG;obtain⟨KN,m1,df1,km,Me,_⟩:=pd ht1 hf;obtain⟨vv,amm,sO⟩:=Ln km;have ama:=km;obtain⟨o',pZ,nO,jN,Mg⟩:=km;rw[ho]at pZ;cases pZ;have gv:∀d,dh ops i=some d->d<nt->cV d KN=cV d r.tm:=fun d hd cA=>(vx qx Kt Me d cA fun x y hx he=>R.uniq x i d (y6 hx) he hd).symm
  obtain⟨v,hv,nV,hg1,ep⟩:∃v,KN=Gf (dh ops i) v tm/\df1=df/\kL m m1/\((cM ops o tm=false/\v=undef)\/(cM ops o tm=true/\eN P o (dj tm) v m1/\(fH o=false->∀m,dp P (dj tm) o m=some (v,m))/\dp P (dj tm) o m=some (v,m1))):=by
   rcases Mg with⟨z9,v,hd,rfl⟩|⟨z9,rfl,rfl,rfl⟩
   ·obtain⟨h1,rfl⟩:=LI hl hd;obtain⟨g1,g2,g3⟩:=TF hl hw h1;exact⟨v,by rw[ed],rfl,g1,.inr ⟨z9,g2,g3,h1⟩⟩
   ·exact⟨undef,by rw[ed],rfl,kL.refl _,.inl ⟨z9,rfl⟩⟩
  subst nV;have Rd:∀d,dh ops i=some d->d<nt->v=cV d r.tm:=fun d hd cA=>by
   rw[<-gv d hd cA,hv,jh sO (a8 cA qx),bK hd]
  have Oa:Wf m1:=hg1.fr.2.2 hw;have Mf:Ex ops nt r lL (fun x=>S x\/x=i) KN:=by rw[hv];exact hex.step R l3 sO Rd
  have fj:∀t∈kF ops o,t<nt->cV t KN=cV t tm:=fun t ht cA=>by
   rw[hv,jh sO (a8 cA qx),bZ (Lk R ho ht)]
  obtain⟨F2,Q2,hF2,Md,YW,L0,ahi⟩:∃F2 Q2,ir P nt ops (yR ops bH nt L++T)=some F2/\F2 call Q2 m1 df1=some r/\Ex ops nt r lL (fun x=>S x\/x=i) Q2/\
    (g9 ops bH (aF ops) i=true->cM ops o tm=true->cV (nt+i) Q2=jo m1 (jk o (dj tm) v))/\(∀j,j≠i->nt+j<512->cV (nt+j) Q2=cV (nt+j) tm):=by
   have u7:∀d,dh ops i=some d->d<nt:=fun d hd=>R.ord.dst i o d ho (by rw[<-ed];exact hd)
   have aau:∀j,nt+j<512->cV (nt+j) KN=cV (nt+j) tm:=fun j hj=>by
    rw[hv,jh sO hj,bZ];intro he;have h1:nt+j<nt:=u7 _ he;omega
   by_cases hc:g9 ops bH (aF ops) i=true
   ·rw[bK hc]at Kt;obtain⟨F2,hF2,ht2⟩:=kZ Kt;obtain⟨o2,x,ho2,hx,s1,s2,Md⟩:=pd ht2 Me;rw[ho]at ho2;cases ho2;refine⟨F2,_,hF2,Md,Mf.slot qx s1 s2 _,fun _ z9=>?_,fun j hj Oo=>?_⟩
    ·rw[oT s2 s2,bK rfl,bK]
     ·congr 1
      rw[Er hx (v:=v) fun d hd=>by rw[hv,jh sO (sO d (by rw[ed];exact hd)),bK (by rw[ed];exact hd)]];exact Ep (fun y hy=>OF fj nO.1 y hy) v
     ·rw[wL fj (fun j want hg=>let⟨g,h1,h2,_⟩:=jN j want hg;⟨g,h1,h2⟩)];exact z9
    ·rw[oT s2 Oo,bZ aj];exact aau j Oo
   ·rw[bZ hc]at Kt;exact⟨F1,KN,Kt,Me,Mf,fun h=>absurd h hc,fun j _ Oo=>aau j Oo⟩
  obtain⟨F',fC,m',hF',GZ,GX,akM,aav,sF,vI,hp,hm1,yn⟩:=vH R l5 (fun x y hx=>⟨fun h=>by
   rcases h with h|rfl
   ·exact(hTn x y hx).1 h
   ·exact(hTn x y hx).2 cY,fun h=>(hTn x y hx).2 (by simp[h])⟩) hF2 Md Oa YW
  refine⟨F',fC,m',hF',GZ,hg1.trans GX,akM.iff fun x=>by simp only[aR];exact⟨fun h=>h.elim (fun h=>h.elim .inl fun h=> .inr (.inl h)) fun h=> .inr (.inr h),fun h=>h.elim (fun h=> .inl (.inl h)) fun h=>h.elim (fun h=> .inl (.inr h)) .inr⟩,
   fun j hj Oo=>by rw[aav j (fun h=>hj (by simp[h])) Oo,ahi j (fun h=>hj (by simp[h])) Oo],fun x=>if x=i then tm else sF x,fun x=>if x=i then v else vI x,fun x hx=>?_,fun x hx β ja=>?_,fun x hx y hy Ko β ja mN=>?_⟩
  ·rcases aR.1 hx with rfl|Xc
   ·simp only[if_true];refine⟨⟨o,ho,nO,fun j want hg=>let⟨g,h1,h2,_⟩:=jN j want hg;⟨g,h1,h2⟩,fun d hd cA=>Rd d (by rw[ed];exact hd) cA,?_⟩,I8⟩;rcases ep with h|⟨h1,h2,h3,h4⟩
    ·exact .inl h
    ·have cA:g9 ops bH (aF ops) x=true->nt+x<512:=fun hc=>by
      rw[bK hc]at Kt;obtain⟨_,_,ht2⟩:=kZ Kt;obtain⟨_,_,_,_,_,s2,_⟩:=pd ht2 Me;exact s2
     refine .inr ⟨h1,h2.grow Oa GX,h3,fun hc=>⟨cA hc,m1,Oa,GX.fr.w.mv,h2,?_⟩⟩;rw[aav x hiL (cA hc)];exact L0 hc h1
   ·have dO:x≠i:=fun h=>hiL (h▸Xc)
    simp only[dO,if_false];exact hp x Xc
  ·rcases aR.1 hx with rfl|Xc
   ·simp only[if_true]at ja;obtain⟨o2,mk,kb,ho2,GU,hvm,z9⟩:=ja;rw[ho]at ho2;cases ho2;rcases ep with⟨h1,_⟩|⟨_,_,_,h4⟩
    ·rw[h1]at z9;cases z9
    ·rw[GU.op m]at h4;simp only[ah,au]at h4;have e1:mZ v=some m.next:=by rw[<-h4.1];exact mK GU.form _
     have e2:mZ v=some β:=by rw[hvm];exact mK GU.form _
     rw[e1]at e2;cases e2;refine⟨ai _,?_⟩;have :=GX.next;have h5:m1.next=m.next+1:=by rw[<-h4.2];rfl
     omega
   ·have dO:x≠i:=fun h=>hiL (h▸Xc)
    simp only[dO,if_false]at ja;have :=hm1 x Xc β ja;have :=hg1.next;omega
  ·
   have ahK:∀z∈L,∀β,s6 P ops z (sF z) (vI z) β->m1.next<=β:=fun z hz β ja=>(hm1 z hz β ja).1
   have Vs:∀β,s6 P ops i tm v β->β<m1.next:=fun β ja=>by
    obtain⟨o2,mk,kb,ho2,GU,hvm,z9⟩:=ja;rw[ho]at ho2;cases ho2;rcases ep with⟨h1,_⟩|⟨_,_,_,h4⟩
    ·rw[h1]at z9;cases z9
    ·rw[GU.op m]at h4;simp only[ah,au]at h4;have e1:mZ v=some m.next:=by rw[<-h4.1];exact mK GU.form _
     have e2:mZ v=some β:=by rw[hvm];exact mK GU.form _
     rw[e1]at e2;cases e2;have h5:m1.next=m.next+1:=by rw[<-h4.2];rfl
     omega
   rcases aR.1 hx with hxe|Xc<;>rcases aR.1 hy with hye|hyL
   ·exact Ko (hxe.trans hye.symm)
   ·have dO:y≠i:=fun h=>hiL (h▸hyL)
    simp only[hxe,if_true]at ja;simp only[dO,if_false]at mN;have :=ahK y hyL β mN;have :=Vs β ja;omega
   ·have dO:x≠i:=fun h=>hiL (h▸Xc)
    simp only[dO,if_false]at ja;simp only[hye,if_true]at mN;have :=ahK x Xc β ja;have :=Vs β mN;omega
   ·have h1:x≠i:=fun h=>hiL (h▸Xc)
    have h2:y≠i:=fun h=>hiL (h▸hyL)
    simp only[h1,if_false]at ja;simp only[h2,if_false]at mN;exact yn x Xc y hyL Ko β ja mN
end
end Go.AM
namespace Go.AM
open Go Go.Conc
section
variable {P:aD}{X:Ext}{main:Bool}{J:JT}{F:Mem->Mem->Prop}{ops:Array im}{bH:Array Nat}{nt:Nat}{call:bJ}{r:Ss}{lL:Tm}
theorem CO {T:List nj}:∀{C:List Nat}{F:iC}{tm:Tm}{m:Mem}{df:Df},ir P nt ops ((C.map fun i=>((2,i,nt+i):nj))++T)=some F->F call tm m df=some r->
  ∃F',ir P nt ops T=some F'/\F' call tm m df=some r/\∀i∈C,∃o x,ops[i]?=some o/\mE o=some x/\(cM ops o tm=true->w6 (cV (nt+i) tm) (jo m (dj tm x))=true/\
   (looks o=true->(dp P (dj tm) o m).isSome=true)/\(looks o=false->∀b,mZ (dj tm x)=some b->m.floor<=b))
 | [],F,tm,m,df,h,hf=>⟨F,h,hf,cY⟩
 |i::C,F,tm,m,df,h,hf=>by
  obtain⟨F1,h1,ht⟩:=kZ h;obtain⟨o,x,ho,hx,Me,hc⟩:=pd ht hf;obtain⟨F',g1,g2,g3⟩:=CO h1 Me;refine⟨F',g1,g2,fun j hj=>?_⟩;rcases aR.1 hj with rfl|hj
  ·exact⟨o,x,ho,hx,hc⟩
  ·exact g3 j hj
theorem Eh.grow{i:Nat}{Eu:Tm}{v:ae}{m m':Mem}{tm fC:Tm}(h:Eh P ops bH nt r lL i Eu v m tm)(hw:Wf m)(g:kL m m')(ht:nt+i<512->cV (nt+i) fC=cV (nt+i) tm):Eh P ops bH nt r lL i Eu v m' fC:=by
 obtain⟨⟨o,h1,h2,h3,h4,h5⟩,h6⟩:=h;refine⟨⟨o,h1,h2,h3,h4,h5.imp id ?_⟩,h6⟩;rintro⟨g1,g2,g3,g4⟩;refine⟨g1,g2.grow hw g,g3,fun hc=>?_⟩;obtain⟨k1,m₁,k2,k3,k4,k5⟩:=g4 hc;exact⟨k1,m₁,k2,k3.trans g.fr.w.mv,k4,by rw[ht k1];exact k5⟩
theorem Eh.ad8(R:lH ops bH nt){i:Nat}{Eu:Tm}{v:ae}{m m':Mem}{tm fC:Tm}{S:Nat->Prop}(h:Eh P ops bH nt r lL i Eu v m tm)(hm:Mv m m')(ht:nt+i<512->cV (nt+i) fC=cV (nt+i) tm)
  (hex:Ex ops nt r lL S fC)(hS:S i)(VO:∀j,B bH i j->S j)
  (hc:g9 ops bH (aF ops) i=true->∃o x,ops[i]?=some o/\mE o=some x/\(cM ops o fC=true->w6 (cV (nt+i) fC) (jo m' (dj fC x))=true/\
   (looks o=true->(dp P (dj fC) o m').isSome=true)/\(looks o=false->∀b,mZ (dj fC x)=some b->m'.floor<=b)))
  (cA:cK bH (aF ops) i<q0 bH (aF ops) i):Eh P ops bH nt r lL i Eu v m' fC:=by
 obtain⟨⟨o,h1,h2,h3,h4,h5⟩,h6⟩:=h;refine⟨⟨o,h1,h2,h3,h4,h5.imp id ?_⟩,h6⟩;rintro⟨g1,g2,g3,g4⟩;cases hk:fH o with
 |false=>
  have hnc:g9 ops bH (aF ops) i=false:=by
   show(Nat.blt _ _&&(ops[i]?).any fH)=false
   rw[h1];simp[hk]
  exact⟨g1,.pure (g3 hk),fun _=>g3 hk,fun hc=>by rw[hnc]at hc;cases hc⟩
 |true=>
  have hcr:g9 ops bH (aF ops) i=true:=by
   show(Nat.blt _ _&&(ops[i]?).any fH)=true
   rw[h1];simp[hk,jz,cA]
  obtain⟨o',x,pZ,hx,adk⟩:=hc hcr;rw[h1]at pZ;cases pZ;obtain⟨k1,m₁,k2,k3,k4,k5⟩:=g4 hcr;have fj:∀t∈kF ops o,t<nt->cV t Eu=cV t fC:=fun t ht cA=>by
   by_cases hw:∃j,dh ops j=some t
   ·obtain⟨j,hj⟩:=hw;have hb:=R.steady i hcr o h1 t ht j hj;rw[(h6 o h1 t ht cA).1 j hb hj,(hex t cA).1 j (VO j hb) hj]
   ·have hn:∀j,dh ops j≠some t:=fun j hj=>hw ⟨j,hj⟩
    rw[(h6 o h1 t ht cA).2 fun j _=>hn j,(hex t cA).2 fun j _=>hn j]
  have dP:∀y∈o.op.operands,dj fC y=dj Eu y:=fun y hy=>(OF fj h2.1 y hy).symm
  obtain⟨c1,c2,c3⟩:=adk (by rw[<-wL fj h3];exact g1);have ed:dh ops i=o.dst:=by unfold dh;rw[h1];rfl
  have hdv:∀d,o.dst=some d->cV d fC=v:=fun d hd=>by
   have cA:=R.ord.dst i o d h1 hd;rw[h4 d hd cA];exact(hex d cA).1 i hS (by rw[ed];exact hd)
  have hwv:dj fC x=jk o (dj Eu) v:=(Er hx hdv).trans (Ep dP v);rw[hwv,ht k1,k5]at c1;have hm1:=k3.trans hm;have kq:∀b,mZ (jk o (dj Eu) v)=some b->m'.blk b=m₁.blk b:=fun b hb=>(KY k2 hm1 c1 hb).1
  refine⟨g1,k4.check hm1.next kq (fun hl=>?_) (fun hl b hb=>?_),fun h=>(by cases h),fun _=>⟨k1,m₁,k2,hm1,k4,by rw[ht k1];exact k5⟩⟩
  ·rw[<-ab5 hl dP];exact c2 hl
  ·refine c3 hl b ?_;rw[hwv,Bh hl];exact hb
structure RT (nt:Nat)(ops:Array im)(r:Ss)(lL:Tm)(ρ:cZ)(D:Nat->Prop)(a:Act):Prop where
 size:a.tmps.size=nt
 done:∀t,t<nt->∀i,D i->dh ops i=some t->aP ρ (cV t r.tm) (a.tmps.getD t undef)
 old:∀t,t<nt->(∀i,D i->dh ops i≠some t)->aP ρ (cV t lL) (a.tmps.getD t undef)
theorem RT.iA{ρ bq:cZ}{D:Nat->Prop}{a:Act}(h:RT nt ops r lL ρ D a)(hle:ρ.le bq):RT nt ops r lL bq D a:=
 ⟨h.size,fun t ht i hi hd=>(h.done t ht i hi hd).iA hle,fun t ht hn=>(h.old t ht hn).iA hle⟩
theorem RT.step{ρ:cZ}{D:Nat->Prop}{a:Act}(R:lH ops bH nt)(h:RT nt ops r lL ρ D a){i:Nat}{o:im}(ho:ops[i]?=some o){v v':ae}(hv:aP ρ v v')(Rd:∀d,o.dst=some d->d<nt->v=cV d r.tm)(ds:List Deferred):
  RT nt ops r lL ρ (fun x=>D x\/x=i) (Act.put ⟨a.tmps,ds⟩ o.dst v'):=by
 have ed:dh ops i=o.dst:=by unfold dh;rw[ho];rfl
 obtain⟨p1,p2,p3⟩:=w7 ⟨a.tmps,ds⟩ o.dst v';refine⟨p2.trans h.size,fun t ht j hj hd=>?_,fun t ht hn=>?_⟩
 ·rw[p3 t (by show t<a.tmps.size;rw[h.size];exact ht)]
  by_cases he:o.dst=some t
  ·rw[bK he,<-Rd t he ht];exact hv
  ·rw[bZ he];rcases hj with hj|rfl
   ·exact h.done t ht j hj hd
   ·rw[ed]at hd;exact absurd hd he
 ·have he:o.dst≠some t:=by rw[<-ed];exact hn i (.inr rfl)
  rw[p3 t (by show t<a.tmps.size;rw[h.size];exact ht),bZ he];exact h.old t ht fun j hj=>hn j (.inl hj)
theorem Ig (R:lH ops bH nt){ρ:cZ}{D:Nat->Prop}{a:Act}{i:Nat}{ZV:Tm}(hs:Seen ops bH nt r lL i ZV)(h:RT nt ops r lL ρ D a)(h1:∀j,B bH i j->D j)(h2:∀j,D j->¬B bH j i){o:im}(ho:ops[i]?=some o):
  ∀t∈kF ops o,t<nt->aP ρ (cV t ZV) (a.tmps.getD t undef):=by
 intro t ht cA
 by_cases hw:∃j,B bH i j/\dh ops j=some t
 ·obtain⟨j,hb,hd⟩:=hw;rw[(hs o ho t ht cA).1 j hb hd];exact h.done t cA j (h1 j hb) hd
 ·rw[(hs o ho t ht cA).2 fun j hb hd=>hw ⟨j,hb,hd⟩];refine h.old t cA fun j hj hd=>?_
  rcases R.abk i j o t ho ht (Mq hd) hd with hb|hb
  ·exact hw ⟨j,hb,hd⟩
  ·exact h2 j hj hb
theorem SV {E:Perm}{bg:ay}{σ:mA}{ρ:cZ}{m:Mem}{w:ay}(H:cQ P E bg σ ρ m w){a:Act}{ZV:Tm}{o:im}(h:∀t∈kF ops o,t<nt->aP ρ (cV t ZV) (a.tmps.getD t undef))(hg:∀x∈o.op.operands,rA nt P.globals.size x=true):
  ∀x∈o.op.operands,aP ρ (dj ZV x) (a.eval x):=by
 intro x hx;have hgx:=hg x hx;cases x with
 |tmp t=>
  simp only[rA,jz,jE]at hgx;exact h t (Nk hx) hgx
 |const v=>exact bM hgx
 |global g=>
  simp only[rA,jz,jE]at hgx;obtain⟨p,h1,h2,h3⟩:=H.og g hgx;exact cH.2 ⟨p,h1,rfl,by rw[h2,h3];rfl⟩
 |func f=>exact fO.2 ⟨_,_,rfl,trivial,trivial⟩
theorem th {ρ:cZ}{a:Act}{ZV:Tm}{o:im}(h:∀t∈kF ops o,t<nt->aP ρ (cV t ZV) (a.tmps.getD t undef))(hg:∀j want,o.guard=some (j,want)->∃g,dh ops j=some g/\g<nt)(hs:a.tmps.size=nt):
  Region.wanted o (yielded ops a.tmps)=cM ops o ZV:=
 vu (fun j want hj=>let⟨g,h1,h2⟩:=hg j want hj;⟨g,h1,h2,h g (Bz hj h1) h2⟩) hs
end
end Go.AM
namespace Go.AM
open Go Go.Conc
section
variable {P:aD}{X:Ext}{main:Bool}{J:JT}{F:Mem->Mem->Prop}{ops:Array im}{bH:Array Nat}{nt:Nat}{call:bJ}{r:Ss}{lL:Tm}
def SS (ops:Array im)(bH:Array Nat)(pre:List Nat)(i:Nat):Prop:=((∃o,ops[i]?=some o/\fh o=true)/\cK bH (aF ops) i<pre.length)\/i∈pre
theorem ck {s i:Nat}:i∈fZ ops bH (aF ops) s↔(∃o,ops[i]?=some o/\fh o=true)/\cK bH (aF ops) i=s:=by
 unfold fZ;rw[List.mem_filter,List.mem_range]
 constructor
 ·rintro⟨h1,h2⟩;simp only[ag,beq_iff_eq,Array.getElem?_eq_getElem h1]at h2;exact⟨⟨_,Array.getElem?_eq_getElem h1,by simpa using h2.1⟩,h2.2⟩
 ·rintro⟨⟨o,ho,hl⟩,h2⟩;exact⟨dq ho,by simp[ho,hl,h2]⟩
theorem PU {pre rest:List Nat}{h:Nat}(hh:aF ops=pre++h::rest):(aF ops)[pre.length]?=some h:=by rw[hh];simp
theorem BY (R:lH ops bH nt){pre rest:List Nat}(hh:aF ops=pre++rest):Lin ops bH (SS ops bH pre) (fZ ops bH (aF ops) pre.length):=by
 have Aa:(fZ ops bH (aF ops) pre.length).Pairwise (·< ·):=List.Pairwise.filter _ List.pairwise_lt_range;have pF:∀i∈fZ ops bH (aF ops) pre.length,(∃o,ops[i]?=some o/\fh o=true)/\cK bH (aF ops) i=pre.length:=fun i hi=>ck.1 hi
 have Jk:∀j,(∃o,ops[j]?=some o/\fh o=true)->cK bH (aF ops) j=pre.length->j∈fZ ops bH (aF ops) pre.length:=fun j h1 h2=>ck.2 ⟨h1,h2⟩
 have vQ:∀j,j∈pre->∃k,k<pre.length/\(aF ops)[k]?=some j:=fun j hj=>by
  obtain⟨k,hk,rfl⟩:=List.mem_iff_getElem.1 hj;exact⟨k,hk,by rw[hh,List.getElem?_append_left hk];exact List.getElem?_eq_getElem hk⟩
 have Mi:∀i∈fZ ops bH (aF ops) pre.length,∀j,B bH i j->SS ops bH pre j\/(j∈fZ ops bH (aF ops) pre.length/\j<i):=by
  intro i hi j hb;obtain⟨⟨o,ho,hl⟩,hf⟩:=pF i hi;have hil:=dq ho;have hji:=R.ord.lt hil hb;have sM:ops[j]?=some ops[j]:=Array.getElem?_eq_getElem aj;cases Oj:fh ops[j]with
  |true=>
   have hle:=R.ze hil hb;rcases Nat.lt_or_ge (cK bH (aF ops) j) pre.length with h1|h1
   ·exact .inl (.inl ⟨⟨_,sM,Oj⟩,h1⟩)
   ·exact .inr ⟨Jk j ⟨_,sM,Oj⟩ aj,hji⟩
  |false=>
   have hm:j∈aF ops:=fJ.2 ⟨_,sM,Oj⟩;obtain⟨k,hk⟩:=List.mem_iff_getElem?.1 hm;have hkl:=(R.pG hil hk).1 hb;rw[hf]at hkl;rw[hh,List.getElem?_append_left hkl]at hk;exact .inl (.inr (List.mem_of_getElem? hk))
 have ac3:∀i∈fZ ops bH (aF ops) pre.length,¬SS ops bH pre i:=by
  intro i hi;obtain⟨⟨o,ho,hl⟩,hf⟩:=pF i hi;rintro(⟨_,h⟩|h)
  ·omega
  ·obtain⟨o',pZ,A1⟩:=fJ.1 (show i∈aF ops by rw[hh];exact List.mem_append_left _ h);rw[ho]at pZ;cases pZ;rw[hl]at A1;cases A1
 have E8:∀i∈fZ ops bH (aF ops) pre.length,∀j,SS ops bH pre j->¬B bH j i:=by
  intro i hi j hj hb;obtain⟨⟨o,ho,hl⟩,hf⟩:=pF i hi;rcases hj with⟨⟨o',pZ,_⟩,cA⟩|hj
  ·have :=R.ze (dq pZ) hb;omega
  ·obtain⟨k,hk,Mb⟩:=vQ j hj;have h1:=(R.wR Mb).1 hb;have :=R.Fa (dq ho);omega
 generalize hL:fZ ops bH (aF ops) pre.length=L at*;have key:∀(M L':List Nat),L=M++L'->Lin ops bH (fun x=>SS ops bH pre x\/x∈M) L':=by
  intro M L'
  induction L' generalizing M with
  |nil=>intro _;trivial
  |cons i L' ih=>
   intro e;have hi:i∈L:=by rw[e];simp
   have cA:∀x∈M,x<i:=fun x hx=>by
    rw[e]at Aa;exact(List.pairwise_append.1 Aa).2.2 x hx i cY
   have hgt:∀x∈L',i<x:=fun x hx=>by
    rw[e]at Aa;exact(List.pairwise_cons.1 (List.pairwise_append.1 Aa).2.1).1 x hx
   refine⟨fun j hb=>?_,fun j hj hb=>?_,?_,(pF i hi).1,?_⟩
   ·rcases Mi i hi j hb with h|⟨h,hji⟩
    ·exact .inl h
    ·rw[e]at h;rcases List.mem_append.1 h with h|h
     ·exact .inr h
     ·rcases aR.1 h with rfl|h
      ·omega
      ·have :=hgt j h;omega
   ·rcases hj with hj|hj
    ·exact E8 i hi j hj hb
    ·have h1:=cA j hj;obtain⟨⟨o',pZ,_⟩,_⟩:=pF j (by rw[e];simp[hj]);have :=R.ord.lt (dq pZ) hb;omega
   ·rintro(h|h)
    ·exact ac3 i hi h
    ·have :=cA i h;omega
   ·have :=ih (M++[i]) (by rw[e];simp);have e2:(fun x=>SS ops bH pre x\/x∈M++[i])=fun x=>(SS ops bH pre x\/x∈M)\/x=i:=by
     funext x
     simp only[List.mem_append,List.mem_singleton,or_assoc]
    rw[e2]at this;exact this
 have :=key [] L rfl;simpa using this
theorem Bu:∀{rest pre:List Nat},aF ops=pre++rest->∀x y,((0,x,y):nj)∈nu ops bH (aF ops) nt pre.length rest->(x∈rest\/((∃o,ops[x]?=some o/\fh o=true)/\pre.length<=cK bH (aF ops) x)):=by
 have ei:∀s x y,((0,x,y):nj)∈FZ ops bH (aF ops) nt s->(∃o,ops[x]?=some o/\fh o=true)/\cK bH (aF ops) x=s:=by
  intro s x y h;unfold FZ at h;obtain⟨z,hz,h⟩:=List.mem_flatMap.1 h;have e:x=z:=by
   split at h
   ·simp at h;exact h.1
   ·simp at h;exact h.1
  subst e;exact ck.1 hz
 intro rest
 induction rest with
 |nil=>
  intro pre hh x y h;unfold nu at h;obtain⟨h1,h2⟩:=ei _ _ _ h;exact .inr ⟨h1,aj⟩
 |cons a rest ih=>
  intro pre hh x y h;unfold nu at h;rcases List.mem_append.1 h with h|h
  ·obtain⟨h1,h2⟩:=ei _ _ _ h;exact .inr ⟨h1,aj⟩
  ·rcases aR.1 h with h|h
   ·cases h;exact .inl cY
   ·rcases List.mem_append.1 h with h|h
    ·unfold uR at h;obtain⟨z,_,e⟩:=List.mem_map.1 h;cases e
    ·have :=ih (pre:=pre++[a]) (by rw[hh];simp) x y (by simpa using h);rcases this with h|⟨h1,h2⟩
     ·exact .inl (by simp[h])
     ·exact .inr ⟨h1,by simp at h2;omega⟩
structure O5 (P:aD)(ops:Array im)(bH:Array Nat)(nt:Nat)(r:Ss)(lL:Tm)(s pR:Nat)(sF:Nat->Tm)(vI:Nat->ae)(m:Mem)(tm:Tm):Prop where
 pend:∀i,(∃o,ops[i]?=some o/\fh o=true)->cK bH (aF ops) i<s->s<=q0 bH (aF ops) i->Eh P ops bH nt r lL i (sF i) (vI i) m tm
 made:∀i,(∃o,ops[i]?=some o/\fh o=true)->cK bH (aF ops) i<s->∀β,s6 P ops i (sF i) (vI i) β->pR<=β/\β<m.next
 apart:∀i j,(∃o,ops[i]?=some o/\fh o=true)->(∃o,ops[j]?=some o/\fh o=true)->cK bH (aF ops) i<s->cK bH (aF ops) j<s->i≠j->∀β,s6 P ops i (sF i) (vI i) β->¬s6 P ops j (sF j) (vI j) β
def uW (P:aD)(J:JT)(ops:Array im)(bH:Array Nat)(nt:Nat)(r:Ss)(lL:Tm)(pR:Nat)(pre rest:List Nat)(sF:Nat->Tm)(vI:Nat->ae)(DQ:Nat)(m:Mem)(df:Df)(c:Nat):Prop:=
 ∀{E:Perm}{bg:ay}{σ:mA}{ρ:cZ}{w:ay}{b:Frame}{a:Act}{k:List Item}{cs:List Frame}{l:List Nat}{D:Nat->Prop}{n:Nat},b.kind≠ .early->j7 ops bH D l->
  (∀h∈pre,D h)->(∀h∈rest,¬D h)->cQ P E bg σ ρ m w->RT nt ops r lL ρ D a->bC (yk ρ) df a.defers->
  (∀i,(∃o,ops[i]?=some o/\fh o=true)->cK bH (aF ops) i<DQ->¬D i->∀β,s6 P ops i (sF i) (vI i) β->ρ β=none)->
  (∀fX bq w' a',ρ.le bq->(∀b,b<pR->bq b=ρ b)->cQ P E bg fX bq r.mem w'->s7 nt bq r.tm r.df a'->J fX n ((aA bq r.mem).or E) (G (b.at a' (.inRegion ops []::k)) cs) w')->
  J σ (n+c+l.length) ((aA ρ m).or E) (G (b.at a (.inRegion ops l::k)) cs) w
theorem wK (hJ:∀σ,gi P main (J σ))(hX:qf P X)(R:lH ops bH nt){pre rest:List Nat}(hh:aF ops=pre++rest){pR:Nat}{sF:Nat->Tm}{vI:Nat->ae}{m:Mem}{tm:Tm}{df:Df}{c:Nat}(hN:pR<=m.next)
  (hp:O5 P ops bH nt r lL (pre.length+1) pR sF vI m tm\/True)(Oe:∀i,(∃o,ops[i]?=some o/\fh o=true)->cK bH (aF ops) i<=pre.length->pre.length<=q0 bH (aF ops) i->Eh P ops bH nt r lL i (sF i) (vI i) m tm)
  (vj:∀i,(∃o,ops[i]?=some o/\fh o=true)->cK bH (aF ops) i<=pre.length->∀β,s6 P ops i (sF i) (vI i) β->pR<=β/\β<m.next)
  (G4:∀i j,(∃o,ops[i]?=some o/\fh o=true)->(∃o,ops[j]?=some o/\fh o=true)->cK bH (aF ops) i<=pre.length->cK bH (aF ops) j<=pre.length->i≠j->∀β,s6 P ops i (sF i) (vI i) β->¬s6 P ops j (sF j) (vI j) β)
  (G0:rest=[]->∀{E:Perm}{bg:ay}{σ:mA}{ρ:cZ}{w:ay}{b:Frame}{a:Act}{k:List Item}{cs:List Frame}{D:Nat->Prop}{n:Nat},b.kind≠ .early->j7 ops bH D []->cQ P E bg σ ρ m w->RT nt ops r lL ρ D a->bC (yk ρ) df a.defers->
   (∀fX bq w' a',ρ.le bq->(∀b,b<pR->bq b=ρ b)->cQ P E bg fX bq r.mem w'->s7 nt bq r.tm r.df a'->J fX n ((aA bq r.mem).or E) (G (b.at a' (.inRegion ops []::k)) cs) w')->
   J σ n ((aA ρ m).or E) (G (b.at a (.inRegion ops []::k)) cs) w)
  (adf:∀h EG,rest=h::EG->∀{E:Perm}{bg:ay}{σ:mA}{ρ:cZ}{w:ay}{b:Frame}{a:Act}{k:List Item}{cs:List Frame}{l:List Nat}{D:Nat->Prop}{n:Nat},b.kind≠ .early->j7 ops bH D (h::l)->
   (∀h∈pre,D h)->(∀h∈rest,¬D h)->cQ P E bg σ ρ m w->RT nt ops r lL ρ D a->bC (yk ρ) df a.defers->
   (∀i,(∃o,ops[i]?=some o/\fh o=true)->cK bH (aF ops) i<=pre.length->¬D i->∀β,s6 P ops i (sF i) (vI i) β->ρ β=none)->
   (∀fX bq w' a',ρ.le bq->(∀b,b<pR->bq b=ρ b)->cQ P E bg fX bq r.mem w'->s7 nt bq r.tm r.df a'->J fX n ((aA bq r.mem).or E) (G (b.at a' (.inRegion ops []::k)) cs) w')->
   J σ (n+c+(l.length+1)) ((aA ρ m).or E) (G (b.at a (.inRegion ops (h::l)::k)) cs) w):
  uW P J ops bH nt r lL pR pre rest sF vI (pre.length+1) m df c:=by
 intro E bg σ ρ w b a k cs l
 induction l generalizing σ ρ w a with
 |nil=>
  intro D n hk hl vQ gZ H EZ u7 GU nP;have hr0:rest=[]:=by
   cases hr:rest with
   |nil=>rfl
   |cons h EG=>
    exfalso
    have hm:h∈aF ops:=by rw[hh,hr];simp
    obtain⟨o,ho,_⟩:=fJ.1 hm;rcases hl.all h (dq ho)with h1|h1
    ·exact gZ h (by rw[hr];simp) h1
    ·cases h1
  exact(hJ σ).le (show n<=n+c+0 by omega) (G0 hr0 hk hl H EZ u7 nP)
 |cons i l ih=>
  intro D n hk hl vQ gZ H EZ u7 GU nP;obtain⟨d1,d2,d3,d4⟩:=hl.head;have hoi:ops[i]?=some ops[i]:=Array.getElem?_eq_getElem d3;have E8:∀j,D j->¬B bH j i:=fun j hj hb=>d2 (hl.down j hj i hb)
  cases hli:fh ops[i]with
  |false=>
   have hm:i∈aF ops:=fJ.2 ⟨_,hoi,hli⟩;rw[hh]at hm;rcases List.mem_append.1 hm with hm|hm
   ·exact absurd (vQ i hm) d2
   ·cases hr:rest with
    |nil=>rw[hr]at hm;cases hm
    |cons h EG=>
     have hih:i=h:=by
      rw[hr]at hm;rcases aR.1 hm with e|hm
      ·exact e
      ·exfalso
       obtain⟨q,hq⟩:=List.mem_iff_getElem?.1 hm;have h1:(aF ops)[pre.length]?=some h:=by rw[hh,hr];simp
       have h2:(aF ops)[pre.length+1+q]?=some i:=by
        rw[hh,hr,List.getElem?_append_right aj,show pre.length+1+q-pre.length=q+1 by omega];simpa using hq
       have hb:=R.chain pre.length (pre.length+1+q) h i aj h1 h2;exact gZ h (by rw[hr];simp) (d1 h hb)
     subst hih;exact adf i EG hr hk hl vQ (by rw[hr]at gZ⊢;exact gZ) H EZ u7 (fun j h1 h2 h3=>GU j h1 aj h3) nP
  |true=>
   have lD:∃o,ops[i]?=some o/\fh o=true:=⟨_,hoi,hli⟩;have VJ:cK bH (aF ops) i<=pre.length:=by
    rcases Nat.lt_or_ge pre.length (cK bH (aF ops) i)with h1|h1
    ·exfalso
     have hle:cK bH (aF ops) i<=(aF ops).length:=List.length_filter_le _ _;have hx:=List.getElem?_eq_getElem (show pre.length<(aF ops).length by omega);have hb:=(R.pG d3 hx).2 h1;have y6:(aF ops)[pre.length]∈rest:=by
      have e:(aF ops)[pre.length]?=rest[0]?:=by rw[hh,List.getElem?_append_right (ai _),Nat.sub_self]
      rw[hx]at e;exact List.mem_of_getElem? e.symm
     exact gZ _ y6 (d1 _ hb)
    ·exact h1
   have ag5:pre.length<=q0 bH (aF ops) i:=by
    rcases Nat.lt_or_ge (q0 bH (aF ops) i) pre.length with h1|h1
    ·exfalso
     have hq:∀(q:Nat) (hq:q<pre.length),(aF ops)[q]?=some pre[q]:=fun q hq=>by rw[hh,List.getElem?_append_left hq];exact List.getElem?_eq_getElem hq
     have hx:=hq _ h1;have hb:=(R.wR hx).2 (ai _);exact E8 _ (vQ _ (List.getElem_mem h1)) hb
    ·exact h1
   obtain⟨⟨o,ho,nO,jN,GR,dJ⟩,I8⟩:=Oe i lD VJ ag5;have YH:=Ig R I8 EZ d1 E8 ho;have tS:=th YH jN EZ.size;have ahk:=SV H YH nO.1;have xE:∀{bq:cZ}{v':ae}{w':ay},ρ.le bq->(∀b,b<m.next->(∀β,s6 P ops i (sF i) (vI i) β->b≠β)->bq b=ρ b)->cQ P E bg σ bq m w'->aP bq (vI i) v'->
     J σ (n+c+l.length) ((aA bq m).or E) (G (b.at (a.put o.dst v') (.inRegion ops l::k)) cs) w':=by
    intro bq v' w' hle hold H' hv;refine ih (D:=fun x=>D x\/x=i) hk d4 (fun h hm=> .inl (vQ h hm)) (fun h hm hd=>?_) H' ((EZ.iA hle).step R ho hv GR a.defers) (by rw[(w7 a o.dst v').1];exact u7.mono fun _ _ x=>x.iA hle) (fun j h1 h2 h3 β ja=>?_) (fun fX eY iF ML oe kQ=>nP fX eY iF ML (cZ.le_trans hle oe) fun b hb=>?_)
    ·rcases hd with hd|rfl
     ·exact gZ h hm hd
     ·obtain⟨o',pZ,A1⟩:=fJ.1 (show h∈aF ops by rw[hh];exact List.mem_append_right _ hm);rw[hoi]at pZ;cases pZ;rw[hli]at A1;cases A1
    ·rw[hold β (vj j h1 aj β ja).2 fun FJ mN e=>?_]
     ·exact GU j h1 h2 (fun hd=>h3 (.inl hd)) β ja
     ·subst e;exact G4 i j lD h1 VJ aj (fun e=>h3 (.inr e.symm)) β mN ja
    ·rw[kQ b hb,hold b aj fun β ja e=>by have :=(vj i lD VJ β ja).1;omega]
   rcases dJ with⟨I6,hvu⟩|⟨z9,ada,_,_⟩
   ·refine(hJ σ).le (show(n+c+l.length)+1<=n+c+(l.length+1) by omega) ?_;refine qI (hJ σ) ho (tS.trans I6) fun aN jM=>?_
    exact xE (cZ.le_refl ρ) (fun _ _ _=>rfl) (H.keeps jM) (by rw[hvu];exact mF)
   ·refine(hJ σ).le (show(n+c+l.length)+1<=n+c+(l.length+1) by omega) ?_;have Vp:dp P (dj (sF i)) o m=some (vI i,m)->J σ (n+c+l.length+1) ((aA ρ m).or E) (G (b.at a (.inRegion ops (i::l)::k)) cs) w:=fun di=>
     AS (hJ σ) ho (tS.trans z9) hk H ahk di fun bq v' w' hle hold H' hv=>xE hle (fun b hb _=>hold b hb) H' hv
    cases ada with
    |pure h=>exact Vp (h m)
    |look _ h=>exact Vp h
    |make mk kb β hm hv cA HF hb=>
     have hmo:s6 P ops i (sF i) (vI i) β:=⟨o,mk,kb,ho,hm,hv,z9⟩;refine P2 hJ ho (tS.trans z9) hk H ahk hm (GU i lD aj d2 β hmo) cA HF hb fun bq v' w' hle hold H' Rd=>xE hle (fun b nX mr=>hold b nX (mr β hmo)) H' (by rw[hv];exact Rd)
end
end Go.AM
namespace Go.AM
open Go Go.Conc
section
variable {P:aD}{X:Ext}{main:Bool}{J:JT}{F:Mem->Mem->Prop}{ops:Array im}{bH:Array Nat}{nt:Nat}{call:bJ}{r:Ss}{lL:Tm}
theorem kT {i:Nat}(h:i∈aF ops):¬∃o,ops[i]?=some o/\fh o=true:=by
 rintro⟨o,ho,hl⟩;obtain⟨o',pZ,A1⟩:=fJ.1 h;rw[ho]at pZ;cases pZ;rw[hl]at A1;cases A1
theorem Gg {pre rest:List Nat}(hh:aF ops=pre++rest){x:Nat}(hx:x∈rest):x∉pre:=by
 intro hp;have :=Co (ops:=ops);rw[hh]at this;have :=(List.pairwise_append.1 this).2.2 x hp x hx;omega
theorem K0 {pre rest:List Nat}(hh:aF ops=pre++rest){x:Nat}(hx:x∈rest):¬SS ops bH pre x:=by
 rintro(⟨h,_⟩|h)
 ·exact kT (by rw[hh];exact List.mem_append_right _ hx) h
 ·exact Gg hh hx h
theorem XM (R:lH ops bH nt){pre rest:List Nat}(hh:aF ops=pre++rest){i:Nat}(hl:∃o,ops[i]?=some o/\fh o=true)(hf:cK bH (aF ops) i<pre.length):∀j,B bH i j->SS ops bH pre j:=by
 intro j hb;obtain⟨o,ho,_⟩:=hl;have hi:=dq ho;have hji:=R.ord.lt hi hb;have sM:ops[j]?=some ops[j]:=Array.getElem?_eq_getElem aj;cases Oj:fh ops[j]with
 |true=>
  have :=R.ze hi hb;exact .inl ⟨⟨_,sM,Oj⟩,aj⟩
 |false=>
  obtain⟨q,hq⟩:=List.mem_iff_getElem?.1 (fJ.2 ⟨_,sM,Oj⟩);have h1:=(R.pG hi hq).1 hb;rw[hh,List.getElem?_append_left aj]at hq;exact .inr (List.mem_of_getElem? hq)
set_option maxHeartbeats 1000000 in
theorem KZ(hJ:∀σ,gi P main (J σ))(hX:qf P X)(hF:wz F)(C:fe P X main J F call)(R:lH ops bH nt){pR:Nat}:∀{rest pre:List Nat}{tm:Tm}{m:Mem}{df:Df}{F0:iC}{sF:Nat->Tm}{vI:Nat->ae},aF ops=pre++rest->
  ir P nt ops (nu ops bH (aF ops) nt pre.length rest)=some F0->F0 call tm m df=some r->Wf m->Ex ops nt r lL (SS ops bH pre) tm->pR<=m.next->O5 P ops bH nt r lL pre.length pR sF vI m tm->
  F m r.mem/\∃c,uW P J ops bH nt r lL pR pre rest sF vI pre.length m df c:=by
 intro rest
 induction rest with
 |nil=>
  intro pre tm m df F0 sF vI hh hT hf hw hex hN hp;unfold nu at hT;obtain⟨F1,KN,m1,Kt,Me,hg,Mf,ym,tmL,vL,q1,q2,q3⟩:=vH (P:=P) (call:=call) R (T:=[]) (BY R hh) (fun x y h=>by cases h) (by rw[List.append_nil];exact hT) hf hw hex;unfold ir at Kt;cases Kt;unfold Ze at Me;simp only[ah]at Me;refine⟨hF.fr (by rw[<-Me];exact hg.fr.w),0,?_⟩;have LY:uW P J ops bH nt r lL pR pre [] (fun i=>if cK bH (aF ops) i=pre.length then tmL i else sF i) (fun i=>if cK bH (aF ops) i=pre.length then vL i else vI i) (pre.length+1) m1 df 0:=wK (P:=P) (J:=J) (c:=0) (df:=df) (r:=r) (lL:=lL) (tm:=KN) hJ hX R hh (pR:=pR) (sF:=fun i=>if cK bH (aF ops) i=pre.length then tmL i else sF i) (vI:=fun i=>if cK bH (aF ops) i=pre.length then vL i else vI i)
   (cF hN hg.next) (.inr trivial)
   (fun i h1 h2 h3=>by
    by_cases he:cK bH (aF ops) i=pre.length
    ·simp only[he,if_true];exact q1 i (ck.2 ⟨h1,he⟩)
    ·simp only[he,if_false];exact(hp.pend i h1 aj h3).grow hw hg (ym i fun hm=>he (ck.1 hm).2))
   (fun i h1 h2 β ja=>by
    by_cases he:cK bH (aF ops) i=pre.length
    ·simp only[he,if_true]at ja;have :=q2 i (ck.2 ⟨h1,he⟩) β ja;omega
    ·simp only[he,if_false]at ja;have :=hp.made i h1 aj β ja;have :=hg.next;omega)
   (fun i j h1 h2 h3 h4 sN β ja mN=>by
    by_cases he:cK bH (aF ops) i=pre.length<;>by_cases E4:cK bH (aF ops) j=pre.length
    ·simp only[he,if_true]at ja;simp only[E4,if_true]at mN;exact q3 i (ck.2 ⟨h1,he⟩) j (ck.2 ⟨h2,E4⟩) sN β ja mN
    ·simp only[he,if_true]at ja;simp only[E4,if_false]at mN;have :=q2 i (ck.2 ⟨h1,he⟩) β ja;have :=hp.made j h2 aj β mN;omega
    ·simp only[he,if_false]at ja;simp only[E4,if_true]at mN;have :=q2 j (ck.2 ⟨h2,E4⟩) β mN;have :=hp.made i h1 aj β ja;omega
    ·simp only[he,if_false]at ja;simp only[E4,if_false]at mN;exact hp.apart i j h1 h2 aj aj sN β ja mN)
   (fun _ {E bg σ ρ w b a k cs D n} hk hl H EZ u7 nP=>by
    have e:r.mem=m1:=by rw[<-Me]
    have ed:r.df=df:=by rw[<-Me]
    have et:r.tm=KN:=by rw[<-Me]
    have :=nP σ ρ w a (cZ.le_refl _) (fun _ _=>rfl) (by rw[e];exact H) ⟨EZ.size,fun t ht=>by
     by_cases hw:∃i,dh ops i=some t
     ·obtain⟨i,hi⟩:=hw;refine EZ.done t ht i ?_ hi;rcases hl.all i (Mq hi)with h|h
      ·exact h
      ·cases h
     ·have hn:∀i,dh ops i≠some t:=fun i hi=>hw ⟨i,hi⟩
      rw[et,(Mf t ht).2 fun i _=>hn i];exact EZ.old t ht fun i _=>hn i,by rw[ed];exact u7⟩
    rw[e]at this;exact this)
   (fun h EG e=>by cases e)
  intro E bg σ ρ w b a k cs l D n hk hl vQ gZ H EZ u7 GU nP;obtain⟨H',Cf⟩:=H.grow hg;rw[<-Cf];refine LY hk hl vQ gZ H' EZ u7 (fun i h1 h2 h3 β ja=>?_) nP
  by_cases he:cK bH (aF ops) i=pre.length
  ·simp only[he,if_true]at ja;have :=q2 i (ck.2 ⟨h1,he⟩) β ja;cases hρ:ρ β with
   |none=>rfl
   |some p=>have :=H.jF.my β p hρ;omega
  ·simp only[he,if_false]at ja;exact GU i h1 aj h3 β ja
 |cons h rest ih=>
  intro pre tm m df F0 sF vI hh hT hf hw hex hN hp;have hhm:h∈aF ops:=by rw[hh];simp
  have hhl:=kT hhm;have VH:aF ops=(pre++[h])++rest:=by rw[hh];simp
  have dd:(pre++[h]).length=pre.length+1:=cY;unfold nu at hT;have hTn:∀x y,((0,x,y):nj)∈(0,h,1)::(uR ops bH (aF ops) nt pre.length++nu ops bH (aF ops) nt (pre.length+1) rest)->¬SS ops bH pre x/\x∉fZ ops bH (aF ops) pre.length:=by
   intro x y hx;rcases aR.1 hx with e|hx
   ·cases e;exact⟨K0 hh cY,fun hm=>hhl (ck.1 hm).1⟩
   ·rcases List.mem_append.1 hx with hx|hx
    ·unfold uR at hx;obtain⟨z,_,e⟩:=List.mem_map.1 hx;cases e
    ·rw[<-dd]at hx;rcases Bu VH x y hx with hm|⟨h1,h2⟩
     ·exact⟨K0 hh (by simp[hm]),fun hm'=>kT (by rw[VH];exact List.mem_append_right _ hm) (ck.1 hm').1⟩
     ·refine⟨?_,fun hm=>by have :=(ck.1 hm).2;omega⟩;rintro(⟨_,h3⟩|h3)
      ·omega
      ·exact kT (by rw[hh];exact List.mem_append_left _ h3) h1
  obtain⟨F1,KN,m1,Kt,Me,hg,Mf,ym,tmL,vL,q1,q2,q3⟩:=vH (P:=P) (call:=call) R (BY R hh) hTn hT hf hw hex;have Oa:Wf m1:=hg.fr.2.2 hw;obtain⟨F2,hF2,ht2⟩:=kZ Kt;obtain⟨Q2,m2,df2,km,Md,hpd⟩:=pd ht2 Me
  replace hpd:=hpd gC
  obtain⟨F3,hF3,hf3,adk⟩:=CO hF2 Md;obtain⟨vv,acN,sO⟩:=Ln km;obtain⟨o,ho,nO,jN,Mg⟩:=km;have ed:dh ops h=o.dst:=by unfold dh;rw[ho];rfl
  generalize ag4:(fun i=>if cK bH (aF ops) i=pre.length then tmL i else sF i)=HY;generalize akn:(fun i=>if cK bH (aF ops) i=pre.length then vL i else vI i)=ZQ;have eT:∀i,HY i=if cK bH (aF ops) i=pre.length then tmL i else sF i:=fun i=>by rw[<-ag4]
  have eV:∀i,ZQ i=if cK bH (aF ops) i=pre.length then vL i else vI i:=fun i=>by rw[<-akn]
  have Oe:∀i,(∃o,ops[i]?=some o/\fh o=true)->cK bH (aF ops) i<=pre.length->pre.length<=q0 bH (aF ops) i->Eh P ops bH nt r lL i (HY i) (ZQ i) m1 KN:=by
   intro i h1 h2 h3;rw[eT,eV]
   by_cases he:cK bH (aF ops) i=pre.length
   ·simp only[he,if_true];exact q1 i (ck.2 ⟨h1,he⟩)
   ·simp only[he,if_false];exact(hp.pend i h1 aj h3).grow hw hg (ym i fun hm=>he (ck.1 hm).2)
  have vj:∀i,(∃o,ops[i]?=some o/\fh o=true)->cK bH (aF ops) i<=pre.length->∀β,s6 P ops i (HY i) (ZQ i) β->pR<=β/\β<m1.next:=by
   intro i h1 h2 β ja;rw[eT,eV]at ja
   by_cases he:cK bH (aF ops) i=pre.length
   ·simp only[he,if_true]at ja;have :=q2 i (ck.2 ⟨h1,he⟩) β ja;omega
   ·simp only[he,if_false]at ja;have :=hp.made i h1 aj β ja;have :=hg.next;omega
  have G4:∀i j,(∃o,ops[i]?=some o/\fh o=true)->(∃o,ops[j]?=some o/\fh o=true)->cK bH (aF ops) i<=pre.length->cK bH (aF ops) j<=pre.length->i≠j->∀β,s6 P ops i (HY i) (ZQ i) β->¬s6 P ops j (HY j) (ZQ j) β:=by
   intro i j h1 h2 h3 h4 sN β ja mN;rw[eT,eV]at ja mN
   by_cases he:cK bH (aF ops) i=pre.length<;>by_cases E4:cK bH (aF ops) j=pre.length
   ·simp only[he,if_true]at ja;simp only[E4,if_true]at mN;exact q3 i (ck.2 ⟨h1,he⟩) j (ck.2 ⟨h2,E4⟩) sN β ja mN
   ·simp only[he,if_true]at ja;simp only[E4,if_false]at mN;have :=q2 i (ck.2 ⟨h1,he⟩) β ja;have :=hp.made j h2 aj β mN;omega
   ·simp only[he,if_false]at ja;simp only[E4,if_true]at mN;have :=q2 j (ck.2 ⟨h2,E4⟩) β mN;have :=hp.made i h1 aj β ja;omega
   ·simp only[he,if_false]at ja;simp only[E4,if_false]at mN;exact hp.apart i j h1 h2 aj aj sN β ja mN
  have hSh:¬(SS ops bH pre h\/h∈fZ ops bH (aF ops) pre.length):=by
   rintro(h1|h1)
   ·exact K0 hh cY h1
   ·exact hhl (ck.1 h1).1
  have VF:(aF ops)[pre.length]?=some h:=PU hh;have ahw:h<ops.size:=dq ho;have Mi:∀j,B bH h j->SS ops bH pre j\/j∈fZ ops bH (aF ops) pre.length:=by
   intro j hb;have hjh:=R.ord.lt ahw hb;have sM:ops[j]?=some ops[j]:=Array.getElem?_eq_getElem aj;cases Oj:fh ops[j]with
   |true=>
    have h1:=(R.wR VF).1 hb;have h2:=R.Fa (i:=j) aj
    by_cases he:cK bH (aF ops) j=pre.length
    ·exact .inr (ck.2 ⟨⟨_,sM,Oj⟩,he⟩)
    ·exact .inl (.inl ⟨⟨_,sM,Oj⟩,aj⟩)
   |false=>
    obtain⟨q,hq⟩:=List.mem_iff_getElem?.1 (fJ.2 ⟨_,sM,Oj⟩);rcases Nat.lt_or_ge q pre.length with h1|h1
    ·rw[hh,List.getElem?_append_left h1]at hq;exact .inl (.inr (List.mem_of_getElem? hq))
    ·exfalso
     rcases Nat.eq_or_lt_of_le h1 with h2|h2
     ·rw[<-h2,VF]at hq;cases hq;omega
     ·have mr:=R.chain pre.length q h j h2 VF hq;have :=R.ord.lt aj mr;omega
  have adn:∀j,(SS ops bH pre j\/j∈fZ ops bH (aF ops) pre.length)->¬B bH j h:=by
   intro j hj hb;have Oj:(∃o,ops[j]?=some o/\fh o=true)->cK bH (aF ops) j<=pre.length->False:=fun⟨o',pZ,_⟩ hle=>by
    have :=(R.pG (dq pZ) VF).1 hb;omega
   rcases hj with(⟨h1,h2⟩|h1)|h1
   ·exact Oj h1 aj
   ·obtain⟨q,hq,rfl⟩:=List.mem_iff_getElem.1 h1;have A0:(aF ops)[q]?=some pre[q]:=by rw[hh,List.getElem?_append_left hq];exact List.getElem?_eq_getElem hq
    have mr:=R.chain q pre.length _ _ hq A0 VF;have hpm:pre[q]∈aF ops:=by rw[hh];exact List.mem_append_left _ h1
    obtain⟨o',pZ,_⟩:=fJ.1 hpm;have :=R.ord.lt (dq pZ) hb;have :=R.ord.lt ahw mr;omega
   ·obtain⟨h2,h3⟩:=ck.1 h1;exact Oj h2 aj
  have acR:Seen ops bH nt r lL h KN:=Nl R Mf Mi adn;have acX:∀x y,((0,x,y):nj)∈uR ops bH (aF ops) nt pre.length++nu ops bH (aF ops) nt (pre.length+1) rest->x≠h:=by
   intro x y hx e;subst e;rcases List.mem_append.1 hx with hx|hx
   ·unfold uR at hx;obtain⟨z,_,e⟩:=List.mem_map.1 hx;cases e
   ·rw[<-dd]at hx;rcases Bu VH x y hx with hm|⟨h1,_⟩
    ·exact Gg VH hm cY
    ·exact hhl h1
  have gv:∀d,dh ops h=some d->d<nt->cV d Q2=cV d r.tm:=fun d hd cA=>(vx R.nt hF2 Md d cA fun x y hx he=>R.uniq x h d (acX x y hx) he hd).symm
  have Rd:∀d,dh ops h=some d->d<nt->vv=cV d r.tm:=fun d hd cA=>by
   rw[<-gv d hd cA,acN,jh sO (a8 cA R.nt),bK hd]
  have YW:Ex ops nt r lL (SS ops bH (pre++[h])) Q2:=by
   rw[acN];refine(Mf.step R hSh sO Rd).iff fun x=>?_
   unfold SS;rw[dd,ck,List.mem_append,List.mem_singleton]
   constructor
   ·rintro(((⟨a1,a2⟩|a1)|⟨a1,a2⟩)|a1)
    ·exact .inl ⟨a1,aj⟩
    ·exact .inr (.inl a1)
    ·exact .inl ⟨a1,aj⟩
    ·exact .inr (.inr a1)
   ·rintro(⟨a1,a2⟩|(a1|a1))
    ·by_cases he:cK bH (aF ops) x=pre.length
     ·exact .inl (.inr ⟨a1,he⟩)
     ·exact .inl (.inl (.inl ⟨a1,aj⟩))
    ·exact .inl (.inl (.inr a1))
    ·exact .inr a1
  obtain⟨ahQ,ch,ahD⟩:F m1 m2/\∃ch,∀{E:Perm}{bg:ay}{σ:mA}{ρ:cZ}{w:ay}{b:Frame}{a:Act}{k:List Item}{cs:List Frame}{l:List Nat}{n:Nat},b.kind≠ .early->a.tmps.size=nt->cQ P E bg σ ρ m1 w->
    (∀t∈kF ops o,t<nt->aP ρ (cV t KN) (a.tmps.getD t undef))->bC (yk ρ) df a.defers->
    (∀fX bq v' w' ds,ρ.le bq->(∀b,b<m1.next->bq b=ρ b)->cQ P E bg fX bq m2 w'->(∃v,aP bq v v'/\∀d,o.dst=some d->d<nt->v=cV d r.tm)->bC (yk bq) df2 ds->J fX n ((aA bq m2).or E) (G (b.at (Act.put ⟨a.tmps,ds⟩ o.dst v') (.inRegion ops l::k)) cs) w')->
    J σ (n+ch) ((aA ρ m1).or E) (G (b.at a (.inRegion ops (h::l)::k)) cs) w:=by
   rcases Mg with⟨z9,v,hd,htv⟩|⟨z9,htv,rfl,rfl⟩
   ·obtain⟨g1,c,g2⟩:=Fp (P:=P) (ops:=ops) hJ hX hF C ho Oa hd;have Ob:∀d,o.dst=some d->d<nt->v=cV d r.tm:=fun d DW cA=>by
     have h1:=gv d (by rw[ed];exact DW) cA;rw[<-h1,htv,jh (fun x hx=>sO x (by rw[ed];exact hx)) (a8 cA R.nt),bK DW]
    refine⟨g1,c,fun{E bg σ ρ w b a k cs l n} hk iB H YH u7 hn=>?_⟩;have YU:∀j want,o.guard=some (j,want)->∃g,dh ops j=some g/\g<nt:=fun j want hj=>let⟨g,k1,k2,_⟩:=jN j want hj;⟨g,k1,k2⟩
    exact g2 hk ((th YH YU iB).trans z9) H (SV H YH nO.1) u7 fun fX bq v' w' ds hle hold H' hv adj=>hn fX bq v' w' ds hle (fun b hb=>hold b hb (by rw[hpd];intro s hs;cases hs)) H' ⟨v,hv,Ob⟩ adj
   ·refine⟨hF.refl _,1,fun{E bg σ ρ w b a k cs l n} hk iB H YH u7 hn=>?_⟩;have YU:∀j want,o.guard=some (j,want)->∃g,dh ops j=some g/\g<nt:=fun j want hj=>let⟨g,k1,k2,_⟩:=jN j want hj;⟨g,k1,k2⟩
    have Ob:∀d,o.dst=some d->d<nt->undef=cV d r.tm:=fun d DW cA=>by
     have h1:=gv d (by rw[ed];exact DW) cA;rw[<-h1,htv,jh (fun x hx=>sO x (by rw[ed];exact hx)) (a8 cA R.nt),bK DW]
    refine qI (hJ σ) ho ((th YH YU iB).trans z9) fun aN jM=>?_
    exact hn σ ρ undef aN a.defers (cZ.le_refl _) (fun _ _=>rfl) (H.keeps jM) ⟨undef,mF,Ob⟩ u7
  have hMv:=hF.mv ahQ;have Rb:Wf m2:=hMv.wf Oa;have hN2:pR<=m2.next:=cF hN (cF hg.next hMv.next);have L0:∀i,nt+i<512->cV (nt+i) Q2=cV (nt+i) KN:=fun i hi=>by
   rw[acN,jh sO hi,bZ];intro he;have h1:nt+i<nt:=R.ord.dst h o _ ho (by rw[<-ed];exact he);omega
  obtain⟨hFr,cr,ahy⟩:=ih (pre:=pre++[h]) (tm:=Q2) (m:=m2) (df:=df2) (F0:=F3) (sF:=HY) (vI:=ZQ) VH (by rw[dd];exact hF3) hf3 Rb YW hN2 ⟨fun i h1 h2 h3=>by
    rw[dd]at h2 h3;refine(Oe i h1 aj aj).ad8 R hMv (L0 i) YW (.inl ⟨h1,by rw[dd];omega⟩) (XM R VH h1 (by rw[dd];omega)) (fun hc=>?_) aj;refine adk i ?_;rw[List.mem_filter,List.mem_range];obtain⟨o',pZ,A1⟩:=h1;refine⟨dq pZ,?_⟩;simp only[pZ,Option.any_some,A1,hc,Bool.true_and,ag,jE];omega,fun i h1 h2 β ja=>by
     rw[dd]at h2;have :=vj i h1 aj β ja;have :=hMv.next;omega,fun i j h1 h2 h3 h4=>by rw[dd]at h3 h4;exact G4 i j h1 h2 aj aj⟩
  refine⟨hF.trans (hF.fr hg.fr.w) (hF.trans ahQ hFr),cr+ch,?_⟩;have LY:uW P J ops bH nt r lL pR pre (h::rest) HY ZQ (pre.length+1) m1 df (cr+ch):=wK (P:=P) (J:=J) (c:=cr+ch) (df:=df) (r:=r) (lL:=lL) (tm:=KN) hJ hX R hh (pR:=pR) (sF:=HY) (vI:=ZQ) (cF hN hg.next) (.inr trivial) Oe vj G4 (fun e=>by cases e)
   (fun h' EG e {E bg σ ρ w b a k cs l D n} hk hl vQ gZ H EZ u7 GU nP=>by
    cases e;obtain⟨d1,d2,d3,d4⟩:=hl.head;have E8:∀j,D j->¬B bH j h:=fun j hj hb=>d2 (hl.down j hj h hb)
    have YH:=Ig R acR EZ d1 E8 ho;refine(hJ σ).le (show(n+cr+l.length)+ch<=n+(cr+ch)+(l.length+1) by omega) ?_;refine ahD hk EZ.size H YH u7 fun fX bq v' w' ds hle hold H' ⟨v,hv,hvd⟩ adj=>?_
    refine ahy (D:=fun x=>D x\/x=h) hk d4 (fun x hx=>?_) (fun x hx hd=>?_) H' ((EZ.iA hle).step R ho hv hvd ds) (by rw[(w7 ⟨a.tmps,ds⟩ o.dst v').1];exact adj) (fun i h1 h2 h3 β ja=>?_) (fun s9 eY iF ML oe kQ=>nP s9 eY iF ML (cZ.le_trans hle oe) fun b hb=>?_)
    ·rcases List.mem_append.1 hx with hx|hx
     ·exact .inl (vQ x hx)
     ·exact .inr (by simpa using hx)
    ·rcases hd with hd|rfl
     ·exact gZ x (by simp[hx]) hd
     ·exact Gg VH hx cY
    ·rw[dd]at h2;rw[hold β (vj i h1 aj β ja).2];exact GU i h1 aj (fun hd=>h3 (.inl hd)) β ja
    ·rw[kQ b hb,hold b (by have :=hg.next;omega)])
  intro E bg σ ρ w b a k cs l D n hk hl vQ gZ H EZ u7 GU nP;obtain⟨H',Cf⟩:=H.grow hg;rw[<-Cf];refine LY hk hl vQ gZ H' EZ u7 (fun i h1 h2 h3 β ja=>?_) nP;rw[eT,eV]at ja
  by_cases he:cK bH (aF ops) i=pre.length
  ·simp only[he,if_true]at ja;have :=q2 i (ck.2 ⟨h1,he⟩) β ja;cases hρ:ρ β with
   |none=>rfl
   |some p=>have :=H.jF.my β p hρ;omega
  ·simp only[he,if_false]at ja;exact GU i h1 aj h3 β ja
end
end Go.AM
