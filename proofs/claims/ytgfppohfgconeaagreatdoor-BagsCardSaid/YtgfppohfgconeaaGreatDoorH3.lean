/-
  What the claim stands on, part 3.
-/
import Derived.Test.YtgfppohfgconeaaGreatDoorH2
import Derived.Orders
import Derived.Conc.CompanyDraw
set_option linter.unusedVariables false
set_option linter.unusedSimpArgs false
open Go renaming Value → ae, Goroutine → ak, World → ao, Program → aC, TypeId → aO, Operand → bS, Oper → gK
open Bool renaming and_eq_true → ag, false_eq_true → cF
open Option.some renaming injEq → ah
open Nat renaming le_refl → aj, eq_of_beq_eq_true → ay, lt_of_lt_of_le → aW, le_trans → bV
open Prod.mk renaming injEq → au
open Option renaming map_eq_some_iff → az, bind_eq_some_iff → bC, map_some → cU, bind_some → dq, isSome_iff_exists → qU
open List renaming all_eq_true → aB, mem_cons → aL
namespace Go.AM
open Go Go.Conc
structure Mv (m m':Mem):Prop where
 next:m.next<=m'.next
 tick:m.tick<=m'.tick
 wf:Wf m->Wf m'
 blk:∀b,m'.blk b=m.blk b\/m.tick<=(m'.blk b).bK
 pend:∀s∈m'.pend,s∈m.pend\/m.next<=s.lo
def rK (m:Mem)(ρ bq:dw):Prop:=∀b,b<m.next->(∀s∈m.pend,¬(s.lo<=b/\b<s.hi))->bq b=ρ b
theorem rK.of{m:Mem}{ρ bq:dw}(h:∀b,b<m.next->bq b=ρ b):rK m ρ bq:=fun b hb _=>h b hb
theorem rK.trans{m m₁:Mem}{ρ Bn fg:dw}(hm:Mv m m₁)(h:rK m ρ Bn)(k:rK m₁ Bn fg):rK m ρ fg:=fun b hb hf=>(k b (aW hb hm.next) fun s hs=>(hm.pend s hs).elim (hf s) fun h=>by omega).trans (h b hb hf)
theorem Mv.refl(m:Mem):Mv m m:=⟨aj _,aj _,id,fun _=> .inl rfl,fun _=> .inl⟩
theorem Mv.trans{m m₁ m₂:Mem}(h:Mv m m₁)(k:Mv m₁ m₂):Mv m m₂:=
 ⟨bV h.next k.next,bV h.tick k.tick,k.wf∘h.wf,fun b=>by
  rcases k.blk b with e|e
  ·rw[e];exact h.blk b
  ·exact .inr (bV h.tick e),fun s hs=>(k.pend s hs).elim (h.pend s) fun x=> .inr (bV h.next x)⟩
def wW (m m':Mem):Prop:=Fr m m'/\(Wf m->Wf m')
theorem jg.w{m m':Mem}(h:jg m m'):wW m m':=⟨h.1,h.2.2⟩
theorem wW.refl(m:Mem):wW m m:=⟨Fr.refl m,id⟩
theorem wW.trans{m m₁ m₂:Mem}(h:wW m m₁)(k:wW m₁ m₂):wW m m₂:=⟨h.1.trans k.1,k.2∘h.2⟩
theorem wW.mv{m m':Mem}(h:wW m m'):Mv m m':=⟨h.1.next,h.1.tick,h.2,fun b=>(h.1.blk b).imp id (·.1),fun s hs=> .inl (by rw[<-h.1.pend];exact hs)⟩
theorem wW.deaf(m:Mem)(d:Nat):wW m {m with deaf:=d}:=⟨⟨rfl,aj _,aj _,fun _=> .inl rfl⟩,fun h=>⟨h.bK,h.x8,h.bh,h.fl,h.live⟩⟩
structure wX (F:Mem->Mem->Prop):Prop where
 refl:∀m,F m m
 trans:∀{m m₁ m₂},F m m₁->F m₁ m₂->F m m₂
 fr:∀{m m'},wW m m'->F m m'
 mv:∀{m m'},F m m'->Mv m m'
theorem UE:wX wW:=⟨wW.refl,wW.trans,id,wW.mv⟩
theorem OL:wX Mv:=⟨Mv.refl,Mv.trans,wW.mv,id⟩
def yz (ρ:dw)(d:Nat×List ae)(d':Deferred):Prop:=∃cap,d'.target= .fn (.func d.1) cap/\bH (aQ ρ) d.2 (d'.args++cap).toList
theorem yz.jN{ρ bq:dw}(h:ρ.le bq){d:Nat×List ae}{d':Deferred}(hd:yz ρ d d'):yz bq d d':=
 let⟨cap,h1,h2⟩:=hd;⟨cap,h1,h2.mono fun _ _ x=>x.jN h⟩
abbrev JT:=nz->Nat->Perm->ak->ao->Prop
def fT (P:aC)(X:Ext)(main:Bool)(J:JT)(F:Mem->Mem->Prop)(call:cE):Prop:=
 ∀f args m v m',Wf m->call f args m=some (v,m')->F m m'/\(dY P f=false->uj X f args m=some (v,m'))/\
  (dY P f=true->∃c,∀{E:Perm}{bl:ao}{σ:nz}{ρ:dw}{w:ao} (bJ:Array ae) (fr:Frame) (cs:List Frame) (n:Nat) (kind:CallKind),
   dk P E bl σ ρ m w->bH (aQ ρ) args bJ.toList->(kind= .normal\/(kind= .deferred/\fr.mode= .returning/\f≠X.KX/\f≠X.vV))->
   (∀gj bq v' w',ρ.le bq->rK m ρ bq->dk P E bl gj bq m' w'->aQ bq v v'->J gj n ((ax bq m').or E) (G (if kind= .normal then fr.finish v' else fr) cs) w')->
   J σ (n+c) ((ax ρ m).or E) (G (Frame.enter P f bJ kind) (fr::cs)) w)
section
variable {P:aC}{X:Ext}{main:Bool}{J:JT}{F:Mem->Mem->Prop}{call:cE}{E:Perm}{bl:ao}{σ:nz}{ρ:dw}{m m':Mem}{w:ao}
variable {b:Frame}{a:Act}{k:List Item}{cs:List Frame}{ops:Array gK}{i:Nat}{rest:List Nat}{o:gK}
theorem zl (ho:ops[i]?=some o)(v:ae):(b.at a (.inRegion ops (i::rest)::k)).finish v=b.at (a.put o.dst v) (.inRegion ops rest::k):=by rw[Frame.finish_at,ho];rfl
theorem q0 (hJ:∀σ,fY P main (J σ))(H:dk P E bl σ ρ m w){g:ak}(hg:g.status= .running){n:Nat}
  (h:∀aN,dk P E bl σ ρ m aN->∃g' bq m' w' es,stepG P main g aN= .go g' w' es/\Left ρ m aN bq m' w'/\tu (ax ρ m) aN.heap.size aN w'/\(∀e∈es,EvW (ax ρ m) e)/\m'.deaf=deafBehind m.deaf es/\
   J σ n ((ax bq m').or E) g' w'):J σ (n+1) ((ax ρ m).or E) g w:=by
 refine(hJ σ).step hg fun aN hk=>?_
 obtain⟨g',bq,m',w',es,h1,h2,h3,h4,h5,h6⟩:=h aN (H.keeps hk);have ha:=(H.keeps hk).apart.within h2.within h3.size h3.shape;exact⟨g',w',es,_,⟨h1,h3.or,fun e he=>(h4 e he).imp nJ.or id,h2.within.or,h5,fun _=>Cm h2.jM ha⟩,h6⟩
theorem zr {R:Perm}{N:Nat}{ev:bS->ae}(hX:qd P X){f:Nat}{args:List ae}(hc:DG P o ev f args)(dV:∀x∈o.op.operands,aQ ρ (ev x) (a.eval x))
  {Q:Next->ao->Prop}(hq:∀bJ,bH (aQ ρ) args bJ.toList->dR P R N (callFunc f bJ) Q w):dR P R N (execOp a.eval o) Q w:=by
 rcases hc with⟨x,lf,kW,first,cap,ho,hx,rfl⟩|⟨r,name,lf,kW,recv,ho,hm,rfl⟩
 ·unfold execOp;rw[ho];simp only[];have hxm:x∈o.op.operands:=by rw[ho];simp[Op.operands,Call.operands]
  have hr:=dV x hxm;rw[hx]at hr;obtain⟨f',c',e,h1,h2⟩:=fN.1 hr;rw[ar];have CH:resolve a.eval {callee:= .value x,args:=lf,argTypes:=kW} o.type=pure {target:= .fn (.func f) c',args:=f'++lf.map a.eval}:=by
   unfold resolve;simp only[e,Deferred.ofValue]
  rw[CH]
  show dR P R N (callFunc f (f'++lf.map a.eval++c')) Q w
  refine hq _ ?_;simp only[Array.toList_append,Array.toList_map];refine(h1.append (bH.pF fun y hy=>dV y ?_)).append h2;rw[ho];simp only[Op.operands,Call.operands,Array.mem_append];exact .inr (by simpa using hy)
 ·unfold execOp;rw[ho];simp only[];have hrm:r∈o.op.operands:=by rw[ho];simp[Op.operands,Call.operands]
  obtain⟨t,u,u',it,mt,e,h1,h2,rfl,h4,h5,h6,h7,h8,h9⟩:=zZ (dV r hrm) hm;rw[ar];have CH:resolve a.eval {callee:= .invoke r name,args:=lf,argTypes:=kW} o.type=pure {target:= .fn (.method name) #[],args:=#[.iface t u']++lf.map a.eval}:=by
   unfold resolve;simp only[h2]
  rw[CH]
  show dR P R N (invoke (.fn (.method name) #[]) (#[.iface t u']++lf.map a.eval)) Q w
  unfold invoke;simp only[];have e0:(#[ae.iface t u']++lf.map a.eval)[0]?=some (.iface t u'):=by rw[<-Array.getElem?_toList];simp
  rw[e0];simp only[];unfold callMethod;simp only[];rw[ar]
  show dR P R N (method (P.types.size+Made.depth) t u' name>>=_) Q w
  rw[ar];have hdp:0<Made.depth:=eS;obtain⟨d,hd⟩:∃d,P.types.size+Made.depth=d+1:=⟨P.types.size+Made.depth-1,ai⟩;rw[hd];unfold method;rw[ar];refine gP h5 ?_;rw[h7];simp only[h8,follow,pure_bind,h9];rw[ar];unfold receiverAt;rw[ar];refine aG h6 ?_;simp only[Place.get]
  show dR P R N (callFunc f _) Q w
  refine hq _ ?_;have e1:(#[u']++(#[ae.iface t u']++lf.map a.eval).extract 1 (#[ae.iface t u']++lf.map a.eval).size).toList=u'::lf.toList.map a.eval:=by
   simp only[Array.toList_append,Array.toList_extract,List.extract_eq_take_drop];simp;exact List.take_of_length_le du
  rw[e1];refine⟨h4,bH.pF fun y hy=>dV y ?_⟩;rw[ho];simp only[Op.operands,Call.operands,Array.mem_append];exact .inr (by simpa using hy)
theorem FC (hJ:∀σ,fY P main (J σ))(hX:qd P X)(ho:ops[i]?=some o)(hw:Region.wanted o (yielded ops a.tmps)=true)(hk:b.kind≠ .early)(H:dk P E bl σ ρ m w){ev:bS->ae}
  (dV:∀x∈o.op.operands,aQ ρ (ev x) (a.eval x)){f:Nat}{args:List ae}(hc:DG P o ev f args)(hb:dY P f=true){n:Nat}
  (hn:∀aN bJ,dk P E bl σ ρ m aN->bH (aQ ρ) args bJ.toList->J σ n ((ax ρ m).or E) (G (Frame.enter P f bJ .normal) (b.at a (.inRegion ops (i::rest)::k)::cs)) aN):
  J σ (n+1) ((ax ρ m).or E) (G (b.at a (.inRegion ops (i::rest)::k)) cs) w:=by
 refine q0 hJ H rfl fun aN gi=>?_
 obtain⟨fn,hf,tj⟩:∃fn,P.funcs[f]?=some fn/\fn.body.isSome=true:=by
  unfold dY at hb;cases hf:P.funcs[f]? with
  |none=>rw[hf]at hb;simp at hb
  |some fn=>exact⟨fn,rfl,by rw[hf]at hb;simpa using hb⟩
 obtain⟨nx,w',gR,⟨bJ,hr,rfl,Ei⟩,Fe,he⟩:=mI (P:=P) (R:=ax ρ m) (N:=aN.heap.size) (Q:=fun nx w'=>∃bJ,bH (aQ ρ) args bJ.toList/\nx= .enter f bJ/\w'=aN) (aj _)
  (zr (w:=aN) hX hc dV fun bJ hr=>xH hf tj (hX.names f fn hf tj) ⟨bJ,hr,rfl,rfl⟩)
 rw[Ei]at gR;obtain⟨evs,zh,eZ⟩:=he #[];have om:∀e∈listed P b.fn a o aN,nJ (ax ρ m) e:=fun e hx=>eZ e (by have :=mem_listed hx;rw[zh]at this;simpa using this)
 exact⟨_,ρ,m,aN,_,stepG_enter ho hw hk gR,Left.refl gi.jM,tu.refl ..,fun e he=> .inl (om e he),(kz om _).symm,hn aN bJ gi hr⟩
theorem Kh {f:Nat}(hb:dY P f=true):∃fn,P.funcs[f]?=some fn/\fn.body.isSome=true:=by
 unfold dY at hb;cases hf:P.funcs[f]? with
 |none=>rw[hf]at hb;simp at hb
 |some fn=>exact⟨fn,rfl,by rw[hf]at hb;simpa using hb⟩
theorem J9 {ev:bS->ae}{f:Nat}{args:List ae}(hc:DG P o ev f args)(dV:∀x∈o.op.operands,aQ ρ (ev x) (a.eval x))(ha:args=[]):
  execOp a.eval o=callFunc f #[]:=by
 rcases hc with⟨x,lf,kW,first,cap,ho,hx,rfl⟩|⟨r,name,lf,kW,recv,ho,hm,rfl⟩
 ·simp only[List.append_eq_nil_iff,Array.toList_eq_nil_iff,List.map_eq_nil_iff]at ha;obtain⟨⟨rfl,rfl⟩,rfl⟩:=ha;have hxm:x∈o.op.operands:=by rw[ho];simp[Op.operands,Call.operands]
  have hr:=dV x hxm;rw[hx]at hr;obtain⟨f',c',e,h1,h2⟩:=fN.1 hr;have e1:f'=#[]:=by
   have :=h1.length;simpa[eq_comm]using this
  have e2:c'=#[]:=by
   have :=h2.length;simpa[eq_comm]using this
  subst e1 e2;unfold execOp;rw[ho];simp[resolve,Deferred.ofValue,e,invoke]
 ·cases ha
theorem ED (mk:Mark)(hm:∀g,mk≠ .extern g)(ho:ops[i]?=some o)(hw:Region.wanted o (yielded ops a.tmps)=true)(hk:b.kind≠ .early){f:Nat}(e1:execOp a.eval o=callFunc f #[])
  (hf:jB P f fun _=>do mark mk;pure Extern.Race.none_)(w:ao):
  stepG P main (G (b.at a (.inRegion ops (i::rest)::k)) cs) w= .go (G (b.at (a.put o.dst (.tuple #[])) (.inRegion ops rest::k)) cs) w #[⟨.mark mk,false,true⟩]:=by
 obtain⟨fn,h1,h2,h3,h4,h5⟩:=hf;rw[stepG_value (v:= .tuple #[]) (w':=w) ho hw hk (by rw[e1,run_callFunc_extern h1 h3 h2 h4 h5];simp[Extern.Race.none_])];unfold listed;rw[e1,events_callFunc_extern h1 h3 h2 h4 h5];simp only[List.push_toArray,List.nil_append];rw[show((do mark mk;pure Extern.Race.none_:Sem ae)).events P w [⟨.mark (.extern f),false,true⟩].toArray=#[⟨.mark (.extern f),false,true⟩]++#[⟨.mark mk,false,true⟩] by simp];rw[seen_entry _ _ _ (by
  intro x hx;simp at hx;subst hx;exact⟨rfl,fun g h=>hm g (by cases h;rfl)⟩)]
theorem fL.ZY(H:dk P E bl σ ρ m w)(d:Nat):dk P E bl σ ρ {m with deaf:=d} w:=
 ⟨H.jM.deaf d,H.rest,⟨H.apart.cell,H.apart.obj,H.apart.wf⟩,H.nW,H.fD.fr (wW.deaf m d).1 (ρ.le_refl) (fun _ _=>rfl),⟨H.wf.bK,H.wf.x8,H.wf.bh,H.wf.fl,H.wf.live⟩,H.M9,H.ew⟩
theorem UI (hJ:∀σ,fY P main (J σ))(hX:qd P X)(ho:ops[i]?=some o)(hw:Region.wanted o (yielded ops a.tmps)=true)(hk:b.kind≠ .early)(H:dk P E bl σ ρ m w){ev:bS->ae}
  (dV:∀x∈o.op.operands,aQ ρ (ev x) (a.eval x)){f:Nat}{args:List ae}(hc:DG P o ev f args){v:ae}(hx:uj X f args m=some (v,m')){n:Nat}
  (hn:∀v' w' bq,ρ.le bq->(∀b,b<m.next->bq b=ρ b)->dk P E bl σ bq m' w'->aQ bq v v'->J σ n ((ax bq m').or E) (G (b.at (a.put o.dst v') (.inRegion ops rest::k)) cs) w'):
  J σ (n+1) ((ax ρ m).or E) (G (b.at a (.inRegion ops (i::rest)::k)) cs) w:=by
 by_cases h1:f=X.disable
 ·subst h1;unfold uj at hx;rw[bj rfl]at hx
  split at hx
  ·simp only[ah,au]at hx;obtain⟨rfl,rfl⟩:=hx;have e1:=J9 hc dV rfl;refine q0 hJ H rfl fun aN gi=>⟨_,ρ,_,aN,_,ED .disable du ho hw hk e1 hX.disable aN,?_,tu.refl ..,?_,?_,hn _ _ _ ρ.le_refl (fun _ _=>rfl) (fL.ZY gi _) jO⟩
   ·exact⟨ρ.le_refl,gi.jM.deaf _,⟨fun _ _ x=> .inl x,fun _ _ x=> .inl x,fun _ x=> .inl x⟩,fun _ _=>rfl⟩
   ·intro e he;simp only[List.mem_toArray,aL,List.not_mem_nil,or_false]at he;subst he;exact .inr (.inl rfl)
   ·rfl
  ·cases hx
 ·by_cases h2:f=X.enable
  ·subst h2;unfold uj at hx;rw[bW h1,bj rfl]at hx
   split at hx
   ·simp only[ah,au]at hx;obtain⟨rfl,rfl⟩:=hx;have e1:=J9 hc dV rfl;refine q0 hJ H rfl fun aN gi=>⟨_,ρ,_,aN,_,ED .enable du ho hw hk e1 hX.enable aN,?_,tu.refl ..,?_,?_,hn _ _ _ ρ.le_refl (fun _ _=>rfl) (fL.ZY gi _) jO⟩
    ·exact⟨ρ.le_refl,gi.jM.deaf _,⟨fun _ _ x=> .inl x,fun _ _ x=> .inl x,fun _ x=> .inl x⟩,fun _ _=>rfl⟩
    ·intro e he;simp only[List.mem_toArray,aL,List.not_mem_nil,or_false]at he;subst he;exact .inr (.inr rfl)
    ·rfl
   ·cases hx
  ·refine q0 hJ H rfl fun aN gi=>?_
   obtain⟨nx,w',gR,⟨DN,hL,HU⟩,Fe,he⟩:=mI (P:=P) (R:=ax ρ m) (N:=aN.heap.size) (Q:=fun nx w'=>jg m m'/\Left ρ m aN ρ m' w'/\nx= .value v) (aj _)
    (zr (w:=aN) hX hc dV fun bJ hr=>by
     obtain⟨g1,e,g2,g3⟩:=ON (P:=P) (N:=aN.heap.size) gi.jM hX hr hx h1 h2;exact rk g2 (g3 fun w' hL hv=>⟨g1,hL,rfl⟩))
   have hv:aQ ρ v v:=by
    obtain⟨_,_,_,g,_⟩:=mI (P:=P) (R:=ax ρ m) (N:=aN.heap.size) (Q:=fun nx w'=>aQ ρ v v) (aj _)
     (zr (w:=aN) hX hc dV fun bJ hr=>by
      obtain⟨g1,e,g2,g3⟩:=ON (P:=P) (N:=aN.heap.size) gi.jM hX hr hx h1 h2;exact rk g2 (g3 fun w' hL hv=>hv))
    exact g
   subst HU;obtain⟨evs,zh,eZ⟩:=he #[];have om:∀e∈listed P b.fn a o aN,nJ (ax ρ m) e:=fun e hx=>eZ e (by have :=mem_listed hx;rw[zh]at this;simpa using this)
   exact⟨_,ρ,m',w',_,stepG_value ho hw hk gR,hL,Fe,fun e he=> .inl (om e he),by rw[kz om,DN.2.1],hn v w' ρ hL.le hL.old (gi.left hL DN Fe) hv⟩
theorem MI (hJ:∀σ,fY P main (J σ))(ho:ops[i]?=some o)(hw:Region.wanted o (yielded ops a.tmps)=true)(hk:b.kind≠ .early)(H:dk P E bl σ ρ m w){ev:bS->ae}
  (dV:∀x∈o.op.operands,aQ ρ (ev x) (a.eval x)){f:Nat}{args:List ae}(hd:Pf o ev f args){n:Nat}
  (hn:∀w' d,dk P E bl σ ρ m w'->yz ρ (f,args) d->J σ n ((ax ρ m).or E) (G (b.at (Act.put ⟨a.tmps,d::a.defers⟩ o.dst undef) (.inRegion ops rest::k)) cs) w'):
  J σ (n+1) ((ax ρ m).or E) (G (b.at a (.inRegion ops (i::rest)::k)) cs) w:=by
 obtain⟨x,lf,kW,first,cap,dC,hx,rfl⟩:=hd;have hxm:x∈o.op.operands:=by rw[dC];simp[Op.operands,Call.operands]
 have hr:=dV x hxm;rw[hx]at hr;obtain⟨f',c',e,h1,h2⟩:=fN.1 hr;have VC:yz ρ (f,first.toList++lf.toList.map ev++cap.toList) {target:= .fn (.func f) c',args:=f'++lf.map a.eval}:=by
  refine⟨c',rfl,?_⟩;simp only[Array.toList_append,Array.toList_map];refine(h1.append (bH.pF fun y hy=>dV y ?_)).append h2;rw[dC];simp only[Op.operands,Call.operands,Array.mem_append];exact .inr (by simpa using hy)
 have gR:∀w,(execOp a.eval o).run P w= .ok (.defer {target:= .fn (.func f) c',args:=f'++lf.map a.eval}) w:=by
  intro w;unfold execOp;simp[dC,resolve,Deferred.ofValue,e]
 have zh:∀w,(execOp a.eval o).events P w #[]=#[]:=by
  intro w;unfold execOp;simp[dC,resolve,Deferred.ofValue,e]
 have gh:(b.kind==CallKind.early)=false:=by simpa using hk
 refine q0 hJ H rfl fun aN gi=>⟨_,ρ,m,aN,#[],?_,Left.refl gi.jM,tu.refl ..,fun e he=>by simp at he,rfl,hn aN _ gi VC⟩
 have rC:=zl (b:=b) (a:=⟨a.tmps,({target:= .fn (.func f) c',args:=f'++lf.map a.eval}:Deferred)::a.defers⟩) (k:=k) (rest:=rest) ho undef;rw[stepG_oper ho hw,<-rC];simp[stepG.apply,gR,zh,G,Frame.at,gh,GStep.after,seen_none]
end
end Go.AM
namespace Go.AM
open Go Go.Conc
structure tq (nt:Nat)(ρ:dw)(tm:Tm)(df:Df)(a:Act):Prop where
 size:a.tmps.size=nt
 tm:∀t,t<nt->aQ ρ (dj t tm) (a.tmps.getD t undef)
 df:bH (yz ρ) df a.defers
theorem tq.jN{nt:Nat}{ρ bq:dw}{tm:Tm}{df:Df}{a:Act}(h:ρ.le bq)(ha:tq nt ρ tm df a):tq nt bq tm df a:=
 ⟨ha.size,fun t ht=>(ha.tm t ht).jN h,ha.df.mono fun _ _ x=>x.jN h⟩
theorem UB (l:Array ae)(d t:Nat)(v:ae):(l.setIfInBounds d v).getD t undef=if d=t/\d<l.size then v else l.getD t undef:=by
 simp only[Array.getD_eq_getD_getElem?,Array.getElem?_setIfInBounds]
 by_cases h:d=t
 ·subst h
  by_cases h2:d<l.size
  ·simp[h2]
  ·simp[h2,Array.getElem?_eq_none (Nat.le_of_not_lt h2)]
 ·simp[h]
theorem xD (a:Act)(d:Option Tmp)(v:ae):(a.put d v).defers=a.defers/\(a.put d v).tmps.size=a.tmps.size/\∀t,t<a.tmps.size->(a.put d v).tmps.getD t undef=if d=some t then v else a.tmps.getD t undef:=by
 cases d with
 |none=>exact⟨rfl,rfl,fun t ht=>by simp[Act.put]⟩
 |some d=>
  refine⟨rfl,by simp[Act.put],fun t ht=>?_⟩
  show(a.tmps.setIfInBounds d v).getD t undef=_
  rw[UB]
  by_cases h:d=t
  ·subst h;simp[ht]
  ·simp[h]
theorem tq.put{nt:Nat}{ρ:dw}{tm:Tm}{df lX:Df}{a:Act}{ds:List Deferred}{d:Option Tmp}{v v':ae}(ha:tq nt ρ tm df a)(hd:∀x,d=some x->x<512)(qy:nt<=512)(hv:aQ ρ v v')(vt:bH (yz ρ) lX ds):
  tq nt ρ (Gp d v tm) lX (Act.put ⟨a.tmps,ds⟩ d v'):=by
 obtain⟨h1,h2,h3⟩:=xD ⟨a.tmps,ds⟩ d v';refine⟨h2.trans ha.size,fun t ht=>?_,by rw[h1];exact vt⟩;rw[h3 t (by rw[<-ha.size]at ht;exact ht)];unfold Gp;cases d with
 |none=>exact ha.tm t ht
 |some d=>
  simp only[];rw[oV (hd d rfl) ai]
  by_cases h:d=t
  ·subst h;simp[hv]
  ·simp only[h,if_false,ah];exact ha.tm t ht
section
variable {P:aC}{X:Ext}{main:Bool}{J:JT}{F:Mem->Mem->Prop}{call:cE}{E:Perm}{bl:ao}{σ:nz}{ρ:dw}{m m':Mem}{w:ao}
variable {b:Frame}{a:Act}{k:List Item}{cs:List Frame}{ops:Array gK}{i:Nat}{rest:List Nat}{o:gK}{nt:Nat}{tm:Tm}{df lX:Df}{v:ae}
theorem JO (ha:∀t,t<nt->aQ ρ (dj t tm) (a.tmps.getD t undef))(H:dk P E bl σ ρ m w){x:bS}(hx:rD nt P.globals.size x=true):aQ ρ (dz tm x) (a.eval x):=by
 cases x with
 |tmp t=>
  simp only[rD,j3,iB]at hx;exact ha t hx
 |const v=>exact cj hx
 |global g=>
  simp only[rD,j3,iB]at hx;obtain⟨p,h1,h2,h3⟩:=H.nW g hx;exact cP.2 ⟨p,h1,rfl,by rw[h2,h3];rfl⟩
 |func f=>exact fN.2 ⟨_,_,rfl,trivial,trivial⟩
theorem Fx (hJ:∀σ,fY P main (J σ))(hX:qd P X)(hF:wX F)(C:fT P X main J F call)(ho:ops[i]?=some o)(DL:Wf m)(hd:zD P call o tm m df v m' lX):F m m'/\∃c,
  ∀{E:Perm}{bl:ao}{σ:nz}{ρ:dw}{w:ao}{b:Frame}{a:Act}{k:List Item}{cs:List Frame}{rest:List Nat}{n:Nat},b.kind≠ .early->Region.wanted o (yielded ops a.tmps)=true->dk P E bl σ ρ m w->
   (∀x∈o.op.operands,aQ ρ (dz tm x) (a.eval x))->bH (yz ρ) df a.defers->
   (∀gj bq v' w' ds,ρ.le bq->rK m ρ bq->dk P E bl gj bq m' w'->aQ bq v v'->bH (yz bq) lX ds->J gj n ((ax bq m').or E) (G (b.at (Act.put ⟨a.tmps,ds⟩ o.dst v') (.inRegion ops rest::k)) cs) w')->
   J σ (n+c) ((ax ρ m).or E) (G (b.at a (.inRegion ops (i::rest)::k)) cs) w:=by
 rcases hd with⟨dC,rfl⟩|⟨f,args,hc,gu,rfl⟩|⟨f,args,nL,rfl,rfl,rfl⟩
 ·refine⟨hF.fr (SC dC).w,1,fun hk hw H dV vt hn=>?_⟩;exact AY (hJ _) ho hw hk H dV dC fun bq v' w' hle hold H' hv=>hn _ bq v' w' _ hle (.of hold) H' hv (vt.mono fun _ _ x=>x.jN hle)
 ·obtain⟨h1,h2,h3⟩:=C f args m v m' DL gu;refine⟨h1,?_⟩;cases hb:dY P f with
  |false=>
   refine⟨1,fun hk hw H dV vt hn=>?_⟩;exact UI hJ hX ho hw hk H dV hc (h2 hb) fun v' w' bq hle hold H' hv=>hn _ bq v' w' _ hle (.of hold) H' hv (vt.mono fun _ _ x=>x.jN hle)
  |true=>
   obtain⟨c,th⟩:=h3 hb;refine⟨c+1,fun{E bl σ ρ w b a k cs rest n} hk hw H dV vt hn=>?_⟩;refine FC hJ hX ho hw hk H dV hc hb fun aN bJ gi hr=>th bJ _ cs n .normal gi hr (.inl rfl) fun gj bq v' w' hle hold H' hv=>?_
   rw[bj rfl,zl ho];exact hn gj bq v' w' _ hle hold H' hv (vt.mono fun _ _ x=>x.jN hle)
 ·refine⟨hF.refl _,1,fun hk hw H dV vt hn=>?_⟩;exact MI hJ ho hw hk H dV nL fun w' d H' VC=>hn _ _ undef w' (d::_) (dw.le_refl _) (.of fun _ _=>rfl) H' mE ⟨VC,vt⟩
theorem vX (aco:∀j want,o.guard=some (j,want)->∃g,(ops[j]?).bind (·.dst)=some g/\g<nt/\aQ ρ (dj g tm) (a.tmps.getD g undef))(hs:a.tmps.size=nt):Region.wanted o (yielded ops a.tmps)=cY ops o tm:=by
 unfold Region.wanted cY;cases hg:o.guard with
 |none=>rfl
 |some p=>
  obtain⟨j,want⟩:=p;obtain⟨g,h1,h2,h3⟩:=aco j want hg;simp only[h1];unfold yielded;rw[h1];simp only[dq];have e:a.tmps[g]?=some (a.tmps.getD g undef):=by
   rw[Array.getD_eq_getD_getElem?,Array.getElem?_eq_getElem (show g<a.tmps.size by rw[hs];exact h2)];rfl
  rw[e];have key:∀u u',aQ ρ u u'->∀want:Bool,((match(some u':Option ae)with |some (.bool b)=>some b|_=>none)==some want)=(match u with | .bool b=>b==want|_=>false):=by
   intro u u' hu want;cases u with
   |bool b=>have :=(aF (by rfl)).1 hu;subst this;cases b<;>cases want<;>rfl
   |agg cs=>obtain⟨_,rfl,_⟩:=gN.1 hu;rfl
   |tuple cs=>obtain⟨_,rfl,_⟩:=eQ.1 hu;rfl
   |iface t x=>obtain⟨_,rfl,_⟩:=fO.1 hu;rfl
   |func fn f c=>obtain⟨_,_,rfl,_⟩:=fN.1 hu;rfl
   |pointer p=>cases p with
    |none=>have :=(aF (by rfl)).1 hu;subst this;rfl
    |some p=>obtain⟨_,_,_,rfl⟩:=cP.1 hu;rfl
   |slice p l c=>cases p with
    |none=>have :=(aF (by rfl)).1 hu;subst this;rfl
    |some p=>obtain⟨_,_,_,_,rfl,_⟩:=bZ.1 hu;rfl
   |map p=>cases p with
    |none=>have :=(aF (by rfl)).1 hu;subst this;rfl
    |some p=>obtain⟨_,_,rfl⟩:=iV.1 hu;rfl
   |_=>obtain⟨n,h'⟩:=hu;cases n with |zero=>exact h'.elim|succ n=>have e:u'=_:=h';subst e;rfl
  exact key _ _ h3 want
theorem SD (hJ:∀σ,fY P main (J σ))(hX:qd P X)(hF:wX F)(C:fT P X main J F call)(qy:nt<=512){cV:Tm}(DL:Wf m)(hd:qE P call nt ops i tm m df cV m' lX):F m m'/\∃c,
  ∀{E:Perm}{bl:ao}{σ:nz}{ρ:dw}{w:ao}{b:Frame}{a:Act}{k:List Item}{cs:List Frame}{rest:List Nat}{n:Nat},b.kind≠ .early->dk P E bl σ ρ m w->tq nt ρ tm df a->
   (∀gj bq w' a',ρ.le bq->rK m ρ bq->dk P E bl gj bq m' w'->tq nt bq cV lX a'->J gj n ((ax bq m').or E) (G (b.at a' (.inRegion ops rest::k)) cs) w')->
   J σ (n+c) ((ax ρ m).or E) (G (b.at a (.inRegion ops (i::rest)::k)) cs) w:=by
 obtain⟨o,ho,nE,jK,h⟩:=hd;rcases h with⟨hw,v,Ms,rfl⟩|⟨hw,rfl,rfl,rfl⟩
 ·obtain⟨h1,c,h2⟩:=Fx hJ hX hF C ho DL Ms;refine⟨h1,c,fun{E bl σ ρ w b a k cs rest n} hk H ha hn=>?_⟩;have tY:=vX (ops:=ops) (o:=o) (tm:=tm) (fun j want hj=>let⟨g,g1,g2,g3⟩:=jK j want hj;⟨g,g1,g2,ha.tm g g2⟩) ha.size;refine h2 hk (tY.trans hw) H (fun x hx=>JO ha.tm H (nE.1 x hx)) ha.df fun gj bq v' w' ds hle hold H' hv vt=>hn gj bq w' _ hle hold H' ?_
  exact(ha.jN hle).put nE.2 qy hv vt
 ·refine⟨hF.refl _,1,fun{E bl σ ρ w b a k cs rest n} hk H ha hn=>?_⟩;have tY:=vX (ops:=ops) (o:=o) (tm:=tm) (fun j want hj=>let⟨g,g1,g2,g3⟩:=jK j want hj;⟨g,g1,g2,ha.tm g g2⟩) ha.size;refine qG (hJ _) ho (tY.trans hw) fun aN jJ=>hn _ _ aN _ (dw.le_refl _) (.of fun _ _=>rfl) (H.keeps jJ) ?_
  exact ha.put (ds:=a.defers) nE.2 qy mE ha.df
end
end Go.AM
namespace Go.AM
open Go Go.Conc
def B (bD:Array Nat)(i j:Nat):Prop:=(bD.getD i 0).testBit j=true
theorem Fl (bD:Array Nat)(j:Nat):∀(l:List Edge) (s:Nat),(l.foldl (fun s e=>if Region.binds .any e then s|||2^e.on|||bD.getD e.on 0 else s) s).testBit j=true↔
  s.testBit j=true\/∃e∈l,Region.binds .any e=true/\(e.on=j\/B bD e.on j)
 | [],s=>by simp
 |e::l,s=>by
  rw[List.foldl_cons,Fl bD j l]
  by_cases h:Region.binds .any e=true
  ·rw[bj h];simp only[Nat.testBit_or,Bool.or_eq_true,Nat.testBit_two_pow,iB,aL]
   constructor
   ·rintro(((h1|h1)|h1)|⟨e',h1,h2⟩)
    ·exact .inl h1
    ·exact .inr ⟨e,.inl rfl,h,.inl h1⟩
    ·exact .inr ⟨e,.inl rfl,h,.inr h1⟩
    ·exact .inr ⟨e',.inr h1,h2⟩
   ·rintro(h1|⟨e',(rfl|h1),h2,h3⟩)
    ·exact .inl (.inl (.inl h1))
    ·rcases h3 with h3|h3
     ·exact .inl (.inl (.inr h3))
     ·exact .inl (.inr h3)
    ·exact .inr ⟨e',h1,h2,h3⟩
  ·rw[bW h]
   constructor
   ·rintro(h1|⟨e',h1,h2⟩)
    ·exact .inl h1
    ·exact .inr ⟨e',List.mem_cons_of_mem _ h1,h2⟩
   ·rintro(h1|⟨e',h1,h2,h3⟩)
    ·exact .inl h1
    ·rcases aL.1 h1 with rfl|h1
     ·exact absurd h2 h
     ·exact .inr ⟨e',h1,h2,h3⟩
structure yv (ops:Array gK)(bD:Array Nat)(nt:Nat):Prop where
 back:∀i o,ops[i]?=some o->∀e∈o.after,Region.binds .any e=true->e.on<i
 iff:∀i o,ops[i]?=some o->∀j,B bD i j↔∃e∈o.after,Region.binds .any e=true/\(e.on=j\/B bD e.on j)
 dst:∀(i:Nat) (o:gK) (d:Nat),ops[i]?=some o->o.dst=some d->d<nt
theorem dH {α:Type}{l:Array α}{i:Nat}{x:α}(h:l[i]?=some x):i<l.size:=by
 rcases Nat.lt_or_ge i l.size with h1|h1
 ·exact h1
 ·rw[Array.getElem?_eq_none h1]at h;cases h
theorem Sz {ops:Array gK}{bD:Array Nat}{nt:Nat}(h:Gt ops bD nt=true):yv ops bD nt:=by
 have key:∀i o,ops[i]?=some o->(o.after.toList.all (fun e=>!Region.binds .any e||Nat.blt e.on i)&&Nat.beq (o.after.toList.foldl (fun s e=>if Region.binds .any e then s|||2^e.on|||bD.getD e.on 0 else s) 0) (bD.getD i 0)&&(match o.dst with |some d=>Nat.blt d nt|none=>true))=true:=by
  intro i o ho;have :=aB.1 h i (List.mem_range.2 (dH ho));rw[ho]at this;exact this
 refine⟨fun i o ho e he hb=>?_,fun i o ho j=>?_,fun i o d ho hd=>?_⟩
 ·have :=key i o ho;simp only[ag]at this;have h1:=aB.1 this.1.1 e (by simpa using he);simp only[hb,Bool.not_true,Bool.false_or,Nat.blt_eq]at h1;exact h1
 ·have :=key i o ho;simp only[ag]at this;have h1:=ay this.1.2;unfold B;rw[<-h1,Fl];simp[B]
 ·have :=key i o ho;simp only[ag,hd]at this;simpa[j3]using this.2
section
variable {ops:Array gK}{bD:Array Nat}{nt:Nat}
theorem yv.lt(h:yv ops bD nt):∀{i j:Nat},i<ops.size->B bD i j->j<i:=by
 intro i
 induction i using Nat.strongRecOn with
 |_ i ih=>
  intro j hi hb;obtain⟨e,he,Ff,hj⟩:=(h.iff i _ (Array.getElem?_eq_getElem hi) j).1 hb;have cB:=h.back i _ (Array.getElem?_eq_getElem hi) e he Ff;rcases hj with rfl|hj
  ·exact cB
  ·have :=ih e.on cB ai hj;omega
theorem yv.trans(h:yv ops bD nt):∀{i j k:Nat},i<ops.size->B bD i j->B bD j k->B bD i k:=by
 intro i
 induction i using Nat.strongRecOn with
 |_ i ih=>
  intro j k hi hb hk;obtain⟨e,he,Ff,hj⟩:=(h.iff i _ (Array.getElem?_eq_getElem hi) j).1 hb;have cB:=h.back i _ (Array.getElem?_eq_getElem hi) e he Ff;rcases hj with rfl|hj
  ·exact(h.iff i _ (Array.getElem?_eq_getElem hi) k).2 ⟨e,he,Ff,.inr hk⟩
  ·exact(h.iff i _ (Array.getElem?_eq_getElem hi) k).2 ⟨e,he,Ff,.inr (ih e.on cB ai hj hk)⟩
structure jW (ops:Array gK)(bD:Array Nat)(D:Nat->Prop)(l:List Nat):Prop where
 nodup:l.Nodup
 lt:∀i∈l,i<ops.size
 fresh:∀i∈l,¬D i
 all:∀i,i<ops.size->D i\/i∈l
 down:∀i,D i->∀j,B bD i j->D j
 ahead:∀GJ i GI,l=GJ++i::GI->∀j,B bD i j->D j\/j∈GJ
 dlt:∀i,D i->i<ops.size
theorem jW.head{D:Nat->Prop}{i:Nat}{l:List Nat}(h:jW ops bD D (i::l)):(∀j,B bD i j->D j)/\¬D i/\i<ops.size/\jW ops bD (fun x=>D x\/x=i) l:=by
 have h1:∀j,B bD i j->D j:=fun j hj=>(h.ahead [] i l rfl j hj).resolve_right du
 have hn:=List.nodup_cons.1 h.nodup;refine⟨h1,h.fresh i du,h.lt i du,hn.2,fun x hx=>h.lt x (by simp[hx]),fun x hx=>?_,fun x hx=>?_,fun x hx j hj=>?_,fun GJ x GI e j hj=>?_,fun x hx=>?_⟩
 ·rintro(h2|rfl)
  ·exact h.fresh x (by simp[hx]) h2
  ·exact hn.1 hx
 ·rcases h.all x hx with h2|h2
  ·exact .inl (.inl h2)
  ·rcases aL.1 h2 with rfl|h2
   ·exact .inl (.inr rfl)
   ·exact .inr h2
 ·rcases hx with hx|rfl
  ·exact .inl (h.down x hx j hj)
  ·exact .inl (h1 j hj)
 ·rcases h.ahead (i::GJ) x GI (by rw[e];rfl) j hj with h2|h2
  ·exact .inl (.inl h2)
  ·rcases aL.1 h2 with rfl|h2
   ·exact .inl (.inr rfl)
   ·exact .inr h2
 ·rcases hx with hx|rfl
  ·exact h.dlt x hx
  ·exact h.lt x du
def FV (n:Nat)(listed:Array Bool):Nat:=((List.range n).filter fun i=>!listed.getD i false).length
theorem RZ (l:Array Bool)(i x:Nat)(hi:i<l.size):(l.setIfInBounds i true).getD x false=(decide (i=x)||l.getD x false):=by
 simp only[Array.getD_eq_getD_getElem?,Array.getElem?_setIfInBounds]
 by_cases h:i=x
 ·subst h;simp[hi]
 ·simp[h]
theorem filter_lt {α:Type}{p q:α->Bool}:∀{l:List α}{x:α},x∈l->p x=true->q x=false->(∀y,q y=true->p y=true)->(l.filter q).length<(l.filter p).length
 |a::l,x,hx,hp,hq,h=>by
  have hle:∀(l:List α),(l.filter q).length<=(l.filter p).length:=by
   intro l
   induction l with
   |nil=>exact aj _
   |cons b l ih=>
    simp only[List.filter_cons];cases hqb:q b
    ·cases hpb:p b<;>simp <;>omega
    ·rw[h b hqb];simp;omega
  rcases aL.1 hx with rfl|hx
  ·have :=hle l;simp only[List.filter_cons,hp,hq,if_true,cF,if_false,List.length_cons];omega
  ·have :=filter_lt hx hp hq h;simp only[List.filter_cons];cases hqb:q a
   ·cases hpb:p a<;>simp <;>omega
   ·rw[h a hqb];simp;omega
theorem Bh (h:yv ops bD nt){D:Nat->Prop}(cB:∀i,D i->i<ops.size)(hc:∀i,D i->∀o,ops[i]?=some o->∀e∈o.after,Region.binds .any e=true->D e.on):∀i,D i->∀j,B bD i j->D j:=by
 intro i
 induction i using Nat.strongRecOn with
 |_ i ih=>
  intro hi j hj;have hil:=cB i hi;obtain⟨e,he,Ff,hj⟩:=(h.iff i _ (Array.getElem?_eq_getElem hil) j).1 hj;have h1:=hc i hi _ (Array.getElem?_eq_getElem hil) e he Ff;rcases hj with rfl|hj
  ·exact h1
  ·exact ih e.on (h.back i _ (Array.getElem?_eq_getElem hil) e he Ff) h1 j hj
theorem jW.nil{D:Nat->Prop}(lQ:∀i,i<ops.size->D i)(Ui:∀i,D i->∀j,B bD i j->D j)(cB:∀i,D i->i<ops.size):jW ops bD D []:=
 ⟨List.nodup_nil,du,du,fun i hi=> .inl (lQ i hi),Ui,fun GJ i GI e=>(by simp at e),cB⟩
theorem Sy (h:yv ops bD nt):∀(fuel t:Nat) (listed:Array Bool),listed.size=ops.size->FV ops.size listed<=fuel->
  (∀i,listed.getD i false=true->∀o,ops[i]?=some o->∀e∈o.after,Region.binds .any e=true->listed.getD e.on false=true)->
  jW ops bD (fun i=>listed.getD i false=true) (Region.linearise.go .any ops fuel t listed []):=by
 intro fuel
 induction fuel with
 |zero=>
  intro t listed hs hu hc;have cB:∀i,listed.getD i false=true->i<ops.size:=fun i hi=>by
   rcases Nat.lt_or_ge i ops.size with h1|h1
   ·exact h1
   ·rw[Array.getD_eq_getD_getElem?,Array.getElem?_eq_none ai]at hi;cases hi
  simp only[Region.linearise.go,List.reverse_nil];refine jW.nil (fun i hi=>?_) (Bh h cB hc) cB;have :(List.range ops.size).filter (fun i=>!listed.getD i false)=[]:=List.eq_nil_of_length_eq_zero (by unfold FV at hu;omega);rw[List.filter_eq_nil_iff]at this;simpa using this i (List.mem_range.2 hi)
 |succ fuel ih=>
  intro t listed hs hu hc;have cB:∀i,listed.getD i false=true->i<ops.size:=fun i hi=>by
   rcases Nat.lt_or_ge i ops.size with h1|h1
   ·exact h1
   ·rw[Array.getD_eq_getD_getElem?,Array.getElem?_eq_none ai]at hi;cases hi
  have hTF:∀i,i<ops.size->listed.getD i true=listed.getD i false:=fun i hi=>by
   simp only[Array.getD_eq_getD_getElem?,Array.getElem?_eq_getElem (show i<listed.size by omega),Option.getD_some]
  simp only[Region.linearise.go]
  change jW ops bD _ (match(Region.ready .any ops listed)[t%(Region.ready .any ops listed).length]? with
   |some i=>Region.linearise.go .any ops fuel (t / (Region.ready .any ops listed).length) (listed.setIfInBounds i true) [i]
   |none=>[].reverse)
  have TY:∀i,i∈Region.ready .any ops listed↔i<ops.size/\listed.getD i false=false/\∀o,ops[i]?=some o->∀e∈o.after,Region.binds .any e=true->listed.getD e.on false=true:=by
   intro i;unfold Region.ready;rw[List.mem_filter,List.mem_range]
   constructor
   ·rintro⟨h1,h2⟩;simp only[ag,Bool.not_eq_true',Array.getElem?_eq_getElem h1,cU,Option.getD_some]at h2;rw[hTF i h1]at h2;refine⟨h1,h2.1,fun o ho e he hb=>?_⟩;rw[Array.getElem?_eq_getElem h1]at ho;cases ho;have :=Array.all_eq_true_iff_forall_mem.1 h2.2 e he;simpa[hb]using this
   ·rintro⟨h1,h2,h3⟩;refine⟨h1,?_⟩;simp only[ag,Bool.not_eq_true',Array.getElem?_eq_getElem h1,cU,Option.getD_some];rw[hTF i h1];refine⟨h2,Array.all_eq_true_iff_forall_mem.2 fun e he=>?_⟩;cases hb:Region.binds .any e with
    |false=>simp
    |true=>simpa[hb]using h3 _ (Array.getElem?_eq_getElem h1) e he hb
  cases hi:(Region.ready .any ops listed)[t%(Region.ready .any ops listed).length]? with
  |none=>
   have Ju:Region.ready .any ops listed=[]:=by
    cases hr:Region.ready .any ops listed with
    |nil=>rfl
    |cons x xs=>
     rw[hr]at hi;have ahh:t%(x::xs).length<(x::xs).length:=Nat.mod_lt _ du;simp only[List.getElem?_eq_none_iff]at hi;omega
   simp only[List.reverse_nil];refine jW.nil (fun i hi=>?_) (Bh h cB hc) cB
   induction i using Nat.strongRecOn with
   |_ i ih2=>
    cases hd:listed.getD i false with
    |true=>rfl
    |false=>
     have :i∈Region.ready .any ops listed:=(TY i).2 ⟨hi,hd,fun o ho e he hb=>ih2 e.on (h.back i o ho e he hb) (by have :=h.back i o ho e he hb;omega)⟩;rw[Ju]at this;cases this
  |some i=>
   obtain⟨h1,h2,h3⟩:=(TY i).1 (List.mem_of_getElem? hi);have his:i<listed.size:=ai;simp only[];rw[linearise_go_acc,List.reverse_singleton,List.singleton_append];have wC:∀x,(listed.setIfInBounds i true).getD x false=true↔listed.getD x false=true\/x=i:=fun x=>by
    rw[RZ _ _ _ his];simp only[Bool.or_eq_true,iB];exact⟨fun h=>h.elim (fun e=> .inr e.symm) .inl,fun h=>h.elim .inr fun e=> .inl e.symm⟩
   have hL:=ih (t / (Region.ready .any ops listed).length) (listed.setIfInBounds i true) (by simpa using hs) (by
    have :=filter_lt (p:=fun x=>!listed.getD x false) (q:=fun x=> !(listed.setIfInBounds i true).getD x false) (List.mem_range.2 h1) (by simp[h2]) (by simp[(wC i).2 (.inr rfl)]) (fun y hy=>by
     simp only[Bool.not_eq_true']at hy⊢;cases hh:listed.getD y false with
     |false=>rfl
     |true=>rw[(wC y).2 (.inl hh)]at hy;cases hy)
    unfold FV at hu⊢;omega) (fun x hx o ho e he hb=>by
     rcases(wC x).1 hx with hx|rfl
     ·exact(wC _).2 (.inl (hc x hx o ho e he hb))
     ·exact(wC _).2 (.inl (h3 o ho e he hb)))
   have zg:i∉Region.linearise.go .any ops fuel (t / (Region.ready .any ops listed).length) (listed.setIfInBounds i true) []:=fun hm=>hL.fresh i hm ((wC i).2 (.inr rfl))
   refine⟨List.nodup_cons.2 ⟨zg,hL.nodup⟩,fun x hx=>?_,fun x hx hd=>?_,fun x hx=>?_,Bh h cB hc,fun GJ x GI e j hj=>?_,cB⟩
   ·rcases aL.1 hx with rfl|hx
    ·exact h1
    ·exact hL.lt x hx
   ·rcases aL.1 hx with rfl|hx
    ·rw[h2]at hd;cases hd
    ·exact hL.fresh x hx ((wC x).2 (.inl hd))
   ·rcases hL.all x hx with h4|h4
    ·rcases(wC x).1 h4 with h5|rfl
     ·exact .inl h5
     ·exact .inr du
    ·exact .inr (by simp[h4])
   ·cases GJ with
    |nil=>
     simp only[List.nil_append,List.cons.injEq]at e;obtain⟨rfl,_⟩:=e;obtain⟨ed,he,Ff,hjj⟩:=(h.iff i _ (Array.getElem?_eq_getElem h1) j).1 hj;have h5:=h3 _ (Array.getElem?_eq_getElem h1) ed he Ff;rcases hjj with rfl|hjj
     ·exact .inl h5
     ·exact .inl (Bh h cB hc _ h5 j hjj)
    |cons y GJ=>
     simp only[List.cons_append,List.cons.injEq]at e;obtain⟨rfl,e⟩:=e;rcases hL.ahead GJ x GI e j hj with h4|h4
     ·rcases(wC j).1 h4 with h5|rfl
      ·exact .inl h5
      ·exact .inr du
     ·exact .inr (by simp[h4])
theorem IW (h:yv ops bD nt)(t:Nat):jW ops bD (fun _=>False) (Region.linearise .any ops t):=by
 have hg:∀i,(Array.replicate ops.size false).getD i false=false:=fun i=>by
  simp only[Array.getD_eq_getD_getElem?,Array.getElem?_replicate]
  split<;>rfl
 have :=Sy h ops.size t (Array.replicate ops.size false) du (by
  unfold FV;have :=List.length_filter_le (fun i=> !(Array.replicate ops.size false).getD i false) (List.range ops.size);simpa using this) (fun i hi=>by rw[hg i]at hi;cases hi)
 have e:(fun i=>(Array.replicate ops.size false).getD i false=true)=fun _=>False:=by
  funext i
  rw[hg i];simp
 rw[e]at this;exact this
end
end Go.AM
namespace Go.AM
open Go Go.Conc
structure kB (m m':Mem):Prop where
 fr:jg m m'
 blk:∀b,b<m.next->m'.blk b=m.blk b
theorem kB.refl(m:Mem):kB m m:=⟨jg.refl m,fun _ _=>rfl⟩
theorem kB.trans{m m₁ m₂:Mem}(h:kB m m₁)(k:kB m₁ m₂):kB m m₂:=
 ⟨h.fr.trans k.fr,fun b hb=>(k.blk b (aW hb h.fr.1.next)).trans (h.blk b hb)⟩
theorem kB.alloc(m:Mem)(k:dZ)(hk:k.live):kB m (m.alloc k):=⟨jg.alloc m k hk,fun b hb=>by rw[Mem.cD,bW ai]⟩
section
variable {m m':Mem}(h:kB m m')
include h
theorem kB.home:m'.home=m.home:=h.fr.1.home
theorem kB.bh:m'.bh=m.bh:=h.fr.1.bh
theorem kB.base:m'.base=m.base:=h.fr.1.base
theorem kB.floor:m'.floor=m.floor:=h.fr.1.floor
theorem kB.opn:m'.opn=m.opn:=h.fr.1.opn
theorem kB.next:m.next<=m'.next:=h.fr.1.next
theorem kB.deaf:m'.deaf=m.deaf:=h.fr.2.1
end
section
variable {P:aC}{E:Perm}{bl:ao}{σ:nz}{ρ bq:dw}{m m':Mem}{w w':ao}
theorem IS (hb:∀b p,ρ b=some p->m'.blk b=m.blk b)(hh:m'.bh=m.bh)(hhm:m'.home=m.home)(hf:m'.floor=m.floor)(ho:m'.opn=m.opn)(hd:m'.deaf=m.deaf):ax ρ m'=ax ρ m:=by
 have hR:∀b p o,ρ b=some p->(m'.nC b o↔m.nC b o):=fun b p o hp=>by unfold Mem.nC;rw[hb b p hp,hh]
 have hW:∀b p o,ρ b=some p->(m'.okW b o↔m.okW b o):=fun b p o hp=>by unfold Mem.okW;rw[hR b p o hp,hf,ho]
 have hO:∀b,m'.bI b=m.bI b:=fun b=>by unfold Mem.bI;rw[hh,hhm]
 unfold ax
 congr 1
 ·funext c x
  exact propext ⟨fun⟨b,p,h1,h2,h3,h4,h5⟩=>⟨b,p,h1,h2,h3,h4,(hR b p _ h1).1 h5⟩,fun⟨b,p,h1,h2,h3,h4,h5⟩=>⟨b,p,h1,h2,h3,h4,(hR b p _ h1).2 h5⟩⟩
 ·funext c x
  exact propext ⟨fun⟨b,p,h1,h2,h3,h4,h5⟩=>⟨b,p,h1,h2,h3,h4,(hW b p _ h1).1 h5⟩,fun⟨b,p,h1,h2,h3,h4,h5⟩=>⟨b,p,h1,h2,h3,h4,(hW b p _ h1).2 h5⟩⟩
 ·funext c
  exact propext ⟨fun⟨b,p,h1,h2,h3,h4⟩=>⟨b,p,h1,h2,by rwa[hb b p h1]at h3,by rwa[hO]at h4⟩,fun⟨b,p,h1,h2,h3,h4⟩=>⟨b,p,h1,h2,by rwa[hb b p h1],by rwa[hO]⟩⟩
theorem dk.grow(H:dk P E bl σ ρ m w)(g:kB m m'):dk P E bl σ ρ m' w/\ax ρ m'=ax ρ m:=by
 have hb:∀b p,ρ b=some p->m'.blk b=m.blk b:=fun b p hp=>g.blk b (H.jM.mo b p hp)
 have hp:=IS hb g.bh g.home g.floor g.opn g.deaf;refine⟨⟨H.jM.Fw g.next hb g.bh g.base g.home,H.rest,by rw[hp];exact H.apart,H.nW,H.fD.fr g.fr.1 ρ.le_refl (fun _ _=>rfl),g.fr.2.2 H.wf,H.M9.step H.wf H.apart g.fr.1 (fun _ _=>rfl) (by rw[hp];exact eK.refl _ _),by rw[hp];exact H.ew⟩,hp⟩
def jh (o:gK)(ev:bS->ae)(v:ae):ae:=
 match o.op with
 | .load _ x=>ev x
 | .lookup _ x _ _=>ev x
 | .slice _ x _ _ _=>ev x
 |_=>v
theorem map_eq {v:ae}{o:Option ae}:o.map (fun x=>(x,m))=some (v,m')↔o=some v/\m'=m:=by
 cases o with
 |none=>simp
 |some x=>simp only[cU,ah,au];exact⟨fun h=>⟨h.1,h.2.symm⟩,fun h=>⟨h.1,h.2.symm⟩⟩
theorem Cs {b o n:Nat}{vs:List ae}(h:m.dK b o n=some vs)(hb:m'.blk b=m.blk b)(hm:meets m'.bh b o n=false):m'.dK b o n=some vs:=by
 unfold Mem.dK at h⊢;simp only[hb]at h⊢
 split at h
 ·rename_i hc;simp only[ag]at hc;rw[bj (by simp only[ag];exact⟨hc.1,by rw[hm];rfl⟩)];exact h
 ·cases h
theorem qw {b o n:Nat}{vs:List ae}(h:m.dK b o n=some vs):meets m.bh b o n=false/\(m.blk b).kind=1:=by
 unfold Mem.dK at h;simp only[]at h
 split at h
 ·rename_i hc;simp only[ag,Bool.not_eq_true',beq_iff_eq]at hc;exact⟨hc.2,hc.1⟩
 ·cases h
theorem Jf {t:aO}{p v:ae}(h:ky P t p m=some v):∃b o n,p= .pointer (some ⟨b,o,none⟩)/\(m.blk b).kind=1/\meets m.bh b o n=false/\
  ∀m':Mem,m'.blk b=m.blk b->((ky P t p m').isSome=true\/meets m'.bh b o n=false)->ky P t p m'=some v:=by
 unfold ky at h
 split at h
 ·rename_i b o
  split at h
  ·rename_i ha;obtain⟨n,hn,h⟩:=bC.1 h;obtain⟨l,hl,rfl⟩:=az.1 h;have hk:=qw hl;refine⟨b,o,n,rfl,hk.2,hk.1,fun m' hb hm=>?_⟩;have T6:meets m'.bh b o n=false:=by
    rcases hm with hm|hm
    ·unfold ky at hm;simp only[ha,hn,dq,Option.isSome_map]at hm;obtain⟨l',Ag⟩:=qU.1 hm;exact(qw Ag).1
    ·exact hm
   unfold ky;simp only[ha,hn,dq,Cs hl hb T6,cU]
  ·rename_i ha;obtain⟨l,hl,h⟩:=bC.1 h;have hk:=qw hl;refine⟨b,o,1,rfl,hk.2,hk.1,fun m' hb hm=>?_⟩;have T6:meets m'.bh b o 1=false:=by
    rcases hm with hm|hm
    ·unfold ky at hm;simp only[ha]at hm;obtain⟨l',Ag⟩:=qU.1 hm;obtain⟨l'',akK,_⟩:=bC.1 Ag;exact(qw akK).1
    ·exact hm
   unfold ky;simp only[ha,Cs hl hb T6,dq,h]
  ·cases h
 ·cases h
theorem Cp {t:aO}{x k v:ae}{ok:Bool}(h:iQ P t x k ok m=some v):
  (∀m',iQ P t x k ok m'=some v)\/∃b,x= .map (some b)/\(m.blk b).kind=2/\m.bI b=true/\∀m':Mem,m'.blk b=m.blk b->((iQ P t x k ok m').isSome=true\/m'.bI b=true)->iQ P t x k ok m'=some v:=by
 unfold iQ at h
 split at h
 ·rename_i kt et r s hu
  split at h
  ·rename_i z hk hz;cases r with
   |none=>
    left
    intro m';unfold iQ;simp only[hu,hk,hz];exact h
   |some b=>
    right
    simp only[]at h
    split at h
    ·rename_i es KF
     split at KF
     ·rename_i hc;simp only[ag,beq_iff_eq]at hc;refine⟨b,rfl,hc.1,hc.2,fun m' hb hm=>?_⟩;have ho:m'.bI b=true:=by
       rcases hm with hm|hm
       ·unfold iQ at hm;simp only[hu,hk,hz]at hm
        split at hm
        ·rename_i lp ahr
         split at ahr
         ·rename_i Fe;simp only[ag]at Fe;exact Fe.2
         ·cases ahr
        ·cases hm
       ·exact hm
      unfold iQ;simp only[hu,hk,hz];rw[bj (by rw[hb,hc.1,ho];rfl),hb];simp only[ah]at KF;subst KF;exact h
     ·cases KF
    ·cases h
  ·cases h
 ·cases h
theorem EL {t:aO}{x:ae}{lo hi:Option ae}{m':Mem}(hb:∀b,mV x=some b->m'.blk b=m.blk b):iy P t x lo hi m'=iy P t x lo hi m:=by
 unfold iy
 split
 ·rename_i b o len cap hu;rw[hb b rfl]
 ·rfl
 ·rfl
 ·rfl
def Nd (mk:Nat->ae):Prop:=(mk=fun β=>ptrTo β 0)\/(∃l c,c≠cH/\mk=fun β=> .slice (some ⟨β,0,none⟩) l c)\/(mk=fun β=> .map (some β))
theorem aQ.back:∀{n:Nat}{v u u':ae},ρ.le bq->VR ρ n v u'->aQ bq v u->aQ ρ v u:=by
 intro n
 induction n with
 |zero=>intro v u u' _ h _;exact h.elim
 |succ n ih=>
  intro v u u' hle h h';have list:∀{l l' r:List ae},bH (VR ρ n) l l'->bH (aQ bq) l r->bH (aQ ρ) l r:=by
   intro l
   induction l with
   |nil=>intro l' r _ h2;cases r<;>simp_all [bH]
   |cons a l ihl=>
    intro l' r h1 h2;cases l' with
    |nil=>exact h1.elim
    |cons a' l'=>cases r with
     |nil=>exact h2.elim
     |cons b r=>exact⟨ih hle h1.1 h2.1,ihl h1.2 h2.2⟩
  cases v with
  |pointer a=>cases a with
   |none=>exact(aF rfl).2 ((aF rfl).1 h')
   |some a=>
    obtain⟨p,h1,h2,_⟩:=h;obtain⟨q,g1,g2,g3⟩:=cP.1 h';rw[hle _ _ h1]at g1;cases g1;exact cP.2 ⟨_,h1,h2,g3⟩
  |slice a l c=>cases a with
   |none=>exact(aF rfl).2 ((aF rfl).1 h')
   |some a=>
    obtain⟨p,_,h1,h2,_⟩:=h;obtain⟨q,c',g1,g2,g3⟩:=bZ.1 h';rw[hle _ _ h1]at g1;cases g1;exact bZ.2 ⟨_,c',h1,g2,g3⟩
  |map a=>cases a with
   |none=>exact(aF rfl).2 ((aF rfl).1 h')
   |some a=>
    obtain⟨p,h1,h2⟩:=h;obtain⟨q,g1,g2⟩:=iV.1 h';rw[hle _ _ h1]at g1;cases g1;exact iV.2 ⟨_,h1,g2⟩
  |func fn f c=>
   obtain⟨_,_,_,h1,h2⟩:=h;obtain⟨f',c',e,g1,g2⟩:=fN.1 h';exact fN.2 ⟨f',c',e,list h1 g1,list h2 g2⟩
  |iface t x=>
   obtain⟨_,_,h1⟩:=h;obtain⟨x',e,g1⟩:=fO.1 h';exact fO.2 ⟨x',e,ih hle h1 g1⟩
  |agg cs=>
   obtain⟨_,_,h1⟩:=h;obtain⟨x',e,g1⟩:=gN.1 h';exact gN.2 ⟨x',e,list h1 g1⟩
  |tuple cs=>
   obtain⟨_,_,h1⟩:=h;obtain⟨x',e,g1⟩:=eQ.1 h';exact eQ.2 ⟨x',e,list h1 g1⟩
  |bool b=>exact(aF rfl).2 ((aF rfl).1 h')
  |int k b=>exact(aF rfl).2 ((aF rfl).1 h')
  |string b=>exact(aF rfl).2 ((aF rfl).1 h')
  |nilFunc=>exact(aF rfl).2 ((aF rfl).1 h')
  |nilIface=>exact(aF rfl).2 ((aF rfl).1 h')
  |float k b=>obtain⟨n,h'⟩:=h';cases n with |zero=>exact h'.elim|succ n=>exact⟨1,h'⟩
  |complex k a b=>obtain⟨n,h'⟩:=h';cases n with |zero=>exact h'.elim|succ n=>exact⟨1,h'⟩
  |chan r=>obtain⟨n,h'⟩:=h';cases n with |zero=>exact h'.elim|succ n=>exact⟨1,h'⟩
theorem fL.aim(h:fL ρ m w'){β FO:Nat}{A:Mem}{pl:Pl}(jc:ρ β=none)(cB:β<m.next)(h':fL bq A w')(hp:bq FO=some pl)(hle:ρ.le bq)(dQ:∀b p,ρ b=some p->b≠FO)
  (e:(A.blk FO).kind=(m.blk β).kind/\(A.blk FO).sz=(m.blk β).sz/\(A.blk FO).pos=(m.blk β).pos/\(A.blk FO).cs=(m.blk β).cs/\(A.blk FO).es=(m.blk β).es/\(A.blk FO).clock=(m.blk β).clock)
  (T9:(m.blk β).kind≠3)(hA:∀b p,ρ b=some p->A.blk b=m.blk b)(sS:A.base<=FO)(vr:aJ A.bh FO=false/\A.home<=FO)(KF:(m.blk β).es=#[])
  (hv:∀v,some v∈(m.blk β).cs->∃u,aQ ρ v u):fL (ρ.put β pl) m w':=by
 obtain⟨e1,e2,e3,e4,e5,e6⟩:=e;have XC:=dw.tS jc pl;have dS:∀b' p',ρ.put β pl b'=some p'->(b'=β/\p'=pl)\/(b'≠β/\ρ b'=some p'):=by
  intro b' p' dG;unfold dw.put at dG
  split at dG
  ·rename_i e;exact .inl ⟨e,(Option.some.inj dG).symm⟩
  ·rename_i e;exact .inr ⟨e,dG⟩
 refine⟨fun b' p' dG=>?_,fun b' p' dG hk=>?_,fun b' p' x v dG hc=>?_,fun b' p' x dG hx hk ny=>?_,fun b' p' dG hk ho=>?_,fun b' p' dG hk ho=>?_,fun yp yo nB oG Ml pV AJ k₁ k₂ hc=>?_,fun b' p' dG=>?_,fun b' p' dG hk Be=>?_⟩
 ·rcases dS _ _ dG with⟨rfl,rfl⟩|⟨_,hq⟩
  ·exact cB
  ·exact h.mo _ _ hq
 ·rcases dS _ _ dG with⟨rfl,rfl⟩|⟨_,hq⟩
  ·obtain⟨g1,g2,g3⟩:=h'.cells FO _ hp (by rw[e1];exact hk);exact⟨g1.trans e2,by rw[<-e4];exact g2,g3⟩
  ·exact h.cells _ _ hq hk
 ·rcases dS _ _ dG with⟨rfl,rfl⟩|⟨_,hq⟩
  ·have hx:(m.blk b').kind=1/\(m.blk b').cs[x]?=some (some v):=by
    unfold Mem.cell at hc
    split at hc
    ·rename_i hk;cases hg:(m.blk b').cs[x]? with
     |none=>simp[hg]at hc
     |some u=>cases u<;>simp[hg]at hc;subst hc;exact⟨hk.1,rfl⟩
    ·cases hc
   have Fe:A.cell FO x=some v:=by
    unfold Mem.cell;rw[bj ⟨by rw[e1];exact hx.1,dW vr.1 x⟩,e4,hx.2];rfl
   obtain⟨v',g1,g2⟩:=h'.kN FO _ x v hp Fe;obtain⟨u,n,hu⟩:=hv v (List.mem_of_getElem? hx.2);exact⟨v',g1,(aQ.back hle hu g2).jN XC⟩
  ·obtain⟨v',h1,h2⟩:=h.kN _ _ _ _ hq hc;exact⟨v',h1,h2.jN XC⟩
 ·rcases dS _ _ dG with⟨rfl,rfl⟩|⟨_,hq⟩
  ·exact h'.thaw FO _ x hp hx (by rw[e1];exact hk) sS
  ·exact h.thaw _ _ _ hq hx hk ny
 ·rcases dS _ _ dG with⟨rfl,rfl⟩|⟨_,hq⟩
  ·obtain⟨lp,g1,g2⟩:=h'.maps FO _ hp (by rw[e1];exact hk) (by unfold Mem.bI;rw[vr.1];simpa using vr.2);rw[e5,KF]at g2;refine⟨lp,by rw[<-e6];exact g1,?_⟩;rw[KF];cases hh:lp.toList with
   |nil=>trivial
   |cons a l=>rw[hh]at g2;exact g2.elim
  ·obtain⟨lp,g1,g2⟩:=h.maps _ _ hq hk ho;exact⟨lp,g1,g2.mono fun _ _ x=>⟨x.1.jN XC,x.2.1.jN XC,x.2.2⟩⟩
 ·rcases dS _ _ dG with⟨rfl,rfl⟩|⟨_,hq⟩
  ·exact absurd hk T9
  ·exact h.kX _ _ hq hk ho
 ·rcases dS _ _ pV with⟨rfl,rfl⟩|⟨amp,II⟩<;>rcases dS _ _ AJ with⟨rfl,rfl⟩|⟨amo,IH⟩
  ·exact absurd rfl Ml
  ·have :=h'.sep FO yo _ oG (Ne.symm (dQ _ _ IH)) hp (hle _ _ IH) (by rw[e1];exact k₁) (by rw[hA _ _ IH];exact k₂) hc;rw[e1,hA _ _ IH]at this;exact this
  ·have :=h'.sep yp FO nB _ (dQ _ _ II) (hle _ _ II) hp (by rw[hA _ _ II];exact k₁) (by rw[e1];exact k₂) hc;rw[e1,hA _ _ II]at this;exact this
  ·exact h.sep _ _ _ _ Ml II IH k₁ k₂ hc
 ·rcases dS _ _ dG with⟨rfl,rfl⟩|⟨_,hq⟩
  ·exact h'.rB _ _ hp
  ·exact h.rB _ _ hq
 ·rcases dS _ _ dG with⟨rfl,rfl⟩|⟨_,hq⟩
  ·exact h'.vars _ _ hp (by rw[e1];exact hk) (by rw[e3];exact Be)
  ·exact h.vars _ _ hq hk Be
end
end Go.AM
namespace Go.AM
open Go Go.Conc
section
variable {P:aC}{E:Perm}{bl:ao}{σ:nz}{ρ bq:dw}{m m':Mem}{w w':ao}
def Mem.shut(m:Mem):Mem:={m with floor:=m.next,opn:=[],home:=m.next,base:=m.next}
theorem fL.shut(h:fL ρ m w):fL ρ m.shut w:=
 ⟨h.mo,h.cells,h.kN,fun b p o hp _ _ hb=>absurd (h.mo b p hp) (Nat.not_lt.2 hb),fun b p hp _ ho=>absurd (h.mo b p hp) (Nat.not_lt.2 (Mem.lJ ho).2),fun b p hp _ ho=>absurd (h.mo b p hp) (Nat.not_lt.2 (Mem.lJ ho).2),h.sep,h.rB,h.vars⟩
theorem Pz (h:fL ρ m w):(∀b o,(ax ρ m.shut).rd b o->(ax ρ m).rd b o)/\(∀b o,¬(ax ρ m.shut).wr b o)/\(∀b,¬(ax ρ m.shut).ob b):=
 ⟨fun _ _ x=>x,fun c o ⟨b,p,h1,_,_,_,h5⟩=>h5.2.elim (fun hf=>absurd (h.mo b p h1) (Nat.not_lt.2 hf)) (fun hc=>by cases hc),fun c ⟨b,p,h1,_,_,h4⟩=>absurd (h.mo b p h1) (Nat.not_lt.2 (Mem.lJ h4).2)⟩
theorem SW (h:fL ρ m w){c:Nat}(hc:(ax ρ m).ob c):w.shape? c=none:=by
 obtain⟨b,p,h1,rfl,hk,ho⟩:=hc;unfold ao.shape?;rcases hk with hk|hk
 ·obtain⟨lp,g,_⟩:=h.maps b p h1 hk ho;rw[g]
 ·obtain⟨_,g⟩:=h.kX b p h1 hk ho;rw[g]
theorem Eg {R:Perm}(h:tu R w.heap.size w w')(hw:∀b o,¬R.wr b o)(Bf:∀b,¬R.ob b){S:Perm}(hS:∀b o,S.rd b o->b<w.heap.size)(hSo:∀b,S.ob b->b<w.heap.size/\w.shape? b=none):bg S w w':=
 ⟨h.tape,h.os,h.output,h.size,fun b hb=>h.shape b hb,fun b o hr=>h.cell b o (hS b o hr) (hw b o),fun b o hb=>h.qQ b o hb,fun b hb=>h.obj b (hSo b hb).1 (Bf b) (hSo b hb).2⟩
theorem ad0 (h:fL ρ m w){b o:Nat}(hr:(ax ρ m).rd b o):b<w.heap.size:=by
 obtain⟨_,p,h1,rfl,_⟩:=hr;exact h.rB _ p h1
theorem agD (h:fL ρ m w){b:Nat}(hr:(ax ρ m).ob b):b<w.heap.size:=by
 obtain⟨_,p,h1,rfl,_⟩:=hr;exact h.rB _ p h1
structure Pd (P:aC)(o:gK)(ev:bS->ae)(mk:Nat->ae)(kb:dZ):Prop where
 form:Nd mk
 op:∀m,dE P ev o m=some (mk m.next,m.alloc kb)
 kind:kb.kind=1\/kb.kind=2
 es:kb.es=#[]
 kN:∀{ρ:dw}{oY:bS->ae},(∀x∈o.op.operands,aQ ρ (ev x) (oY x))->∀v,some v∈kb.cs->∃u,aQ ρ v u
theorem P0 {mk:Nat->ae}(h:Nd mk){β:Nat}{v':ae}(hv:aQ ρ (mk β) v'):∃pl,ρ β=some pl/\∀{fg:dw}{Yw:Nat},fg Yw=some pl->aQ fg (mk Yw) v':=by
 rcases h with rfl|⟨l,c,hc,rfl⟩|rfl
 ·obtain⟨pl,h1,h2,rfl⟩:=cP.1 hv;exact⟨pl,h1,fun h=>cP.2 ⟨pl,h,rfl,rfl⟩⟩
 ·obtain⟨pl,c',h1,h2,rfl,h3⟩:=bZ.1 hv;exact⟨pl,h1,fun h=>bZ.2 ⟨pl,c',h,rfl,rfl,h3⟩⟩
 ·obtain⟨pl,h1,rfl⟩:=iV.1 hv;exact⟨pl,h1,fun h=>iV.2 ⟨pl,h,rfl⟩⟩
theorem mJ {mk:Nat->ae}(h:Nd mk)(β:Nat):mV (mk β)=some β:=by
 rcases h with rfl|⟨l,c,hc,rfl⟩|rfl<;>rfl
section
variable {main:Bool}{J:JT}{b:Frame}{a:Act}{k:List Item}{cs:List Frame}{ops:Array gK}{i:Nat}{rest:List Nat}{o:gK}
theorem P3 (hJ:∀σ,fY P main (J σ))(ho:ops[i]?=some o)(hw:Region.wanted o (yielded ops a.tmps)=true)(hk:b.kind≠ .early)(H:dk P E bl σ ρ m w){ev:bS->ae}
  (dV:∀x∈o.op.operands,aQ ρ (ev x) (a.eval x)){mk:Nat->ae}{kb:dZ}(hm:Pd P o ev mk kb){β:Nat}(jc:ρ β=none)(cB:β<m.next)(OH:m.floor<=β)(j7:m.blk β={kb with bK:=(m.blk β).bK}){l:Nat}
  (hn:∀bq v' w',ρ.le bq->(∀b,b<m.next->b≠β->bq b=ρ b)->dk P E bl σ bq m w'->aQ bq (mk β) v'->J σ l ((ax bq m).or E) (G (b.at (a.put o.dst v') (.inRegion ops rest::k)) cs) w'):
  J σ (l+1) ((ax ρ m).or E) (G (b.at a (.inRegion ops (i::rest)::k)) cs) w:=by
 refine(hJ σ).step rfl fun aN jJ=>?_
 have gi:=H.keeps jJ;have hs:=gi.jM.shut;obtain⟨p1,p2,p3⟩:=Pz gi.jM;obtain⟨nx,w',gR,⟨bq,hL,v',hv,hy⟩,hc,he⟩:=mI (aj _) (EU hs (aj _) dV (hm.op m.shut));obtain⟨evs,zh,eZ⟩:=he #[];have om:∀e∈listed P b.fn a o aN,nJ (ax ρ m) e:=fun e hx=>by
  have h1:=eZ e (by have :=mem_listed hx;rw[zh]at this;simpa using this);unfold nJ at h1⊢
  split at h1
  ·refine⟨h1.1,?_⟩;have h2:=h1.2
   split at h2
   ·exact absurd h2 (p2 _ _)
   ·rename_i tY;rw[bW tY];exact p1 _ _ h2
  ·exact absurd h1.1 (p3 _)
  ·exact h1
  ·exact h1
 obtain⟨pl,dB,hmv⟩:=P0 hm.form hv;have Ae:m.shut.next=m.next:=rfl;rw[Ae]at dB;have hK:bg ((ax ρ m).or E) aN w':=Eg hc p2 p3 (fun b o x=>x.elim (ad0 gi.jM) fun y=>(gi.apart.cell b o y).1)
  (fun b x=>x.elim (fun y=>⟨agD gi.jM y,SW gi.jM y⟩) fun y=>⟨(gi.apart.obj b y).1,(gi.apart.obj b y).2.2⟩)
 have pZ:=gi.keeps hK;have hbA:(m.shut.alloc kb).blk m.next={kb with bK:=m.tick}:=by rw[Mem.cD];exact bj rfl
 have Ot:aJ m.bh m.next=false:=by
  rcases ht:aJ m.bh m.next with _|_
  ·rfl
  ·unfold aJ at ht;obtain⟨s,hs,h1⟩:=List.any_eq_true.1 ht;simp only[ag,iB]at h1;have :=gi.wf.bh s hs;omega
 have hA:∀b p,ρ b=some p->(m.shut.alloc kb).blk b=m.blk b:=fun b p hp=>by
  rw[Mem.cD,bW (by have :=gi.jM.mo b p hp;show m.next≠b;omega)];rfl
 have dQ:∀b p,ρ b=some p->b≠m.next:=fun b p hp=>by have :=gi.jM.mo b p hp;omega
 have xX:(m.blk β).kind=kb.kind/\(m.blk β).sz=kb.sz/\(m.blk β).pos=kb.pos/\(m.blk β).cs=kb.cs/\(m.blk β).es=kb.es/\(m.blk β).clock=kb.clock:=by rw[j7];exact⟨rfl,rfl,rfl,rfl,rfl,rfl⟩
 have hS:fL (ρ.put β pl) m w':=pZ.jM.aim jc cB hL.jM dB hL.le dQ (by rw[hbA];exact⟨xX.1.symm,xX.2.1.symm,xX.2.2.1.symm,xX.2.2.2.1.symm,xX.2.2.2.2.1.symm,xX.2.2.2.2.2.symm⟩)
  (by rw[xX.1];rcases hm.kind with h|h<;>omega) hA (aj _) ⟨Ot,aj _⟩ (by rw[xX.2.2.2.2.1];exact hm.es) (fun v hv=>hm.kN dV v (by rw[<-xX.2.2.2.1];exact hv))
 have oN:∀x,pl.d<=x->x<pl.d+pl.room->(m.blk β).kind=1->m.nC β (x-pl.d)->aN.heap.size<=pl.c:=by
  intro x h1 h2 h3 h4;have h5:(ax bq (m.shut.alloc kb)).rd pl.c x:=⟨m.next,pl,dB,rfl,h1,h2,by
   unfold Mem.nC;rw[hbA];refine⟨xX.1▸h3,dW Ot _,?_⟩;rw[<-xX.2.2.2.1];exact h4.2.2⟩
  rcases hL.within.rd _ _ h5 with⟨b',p',g1,g2,g3,g4,g5⟩|h6
  ·exfalso
   have g5':m.nC b' (x-p'.d):=g5;have :=hL.jM.sep b' m.next p' pl (dQ _ _ g1) (hL.le _ _ g1) dB (by rw[hA _ _ g1,g5'.1];simp) (by rw[hbA];show kb.kind≠0;rw[<-xX.1,h3];simp) g2;omega
  ·exact h6
 have Bf:(m.blk β).kind=2->aN.heap.size<=pl.c:=by
  intro h3;have h5:(ax bq (m.shut.alloc kb)).ob pl.c:=⟨m.next,pl,dB,rfl,.inl (by rw[hbA];show kb.kind=2;rw[<-xX.1,h3]),by
   unfold Mem.bI
   show(!aJ m.bh m.next&&decide (m.next<=m.next))=true
   rw[Ot];simp⟩
  rcases hL.within.ob _ h5 with h6|h6
  ·exact absurd h6 (p3 _)
  ·exact h6
 have dS:∀b' p',ρ.put β pl b'=some p'->(b'=β/\p'=pl)\/(b'≠β/\ρ b'=some p'):=by
  intro b' p' dG;unfold dw.put at dG
  split at dG
  ·rename_i e;exact .inl ⟨e,(Option.some.inj dG).symm⟩
  ·rename_i e;exact .inr ⟨e,dG⟩
 have hW:eK (ax ρ m) (ax (ρ.put β pl) m) aN.heap.size:=by
  refine⟨fun c x=>?_,fun c x=>?_,fun c=>?_⟩
  ·rintro⟨b',p',g1,rfl,g3,g4,g5⟩;rcases dS _ _ g1 with⟨rfl,rfl⟩|⟨_,q⟩
   ·exact .inr (oN x g3 g4 g5.1 g5)
   ·exact .inl ⟨b',p',q,rfl,g3,g4,g5⟩
  ·rintro⟨b',p',g1,rfl,g3,g4,g5⟩;rcases dS _ _ g1 with⟨rfl,rfl⟩|⟨_,q⟩
   ·exact .inr (oN x g3 g4 g5.1.1 g5.1)
   ·exact .inl ⟨b',p',q,rfl,g3,g4,g5⟩
  ·rintro⟨b',p',g1,rfl,g3,g4⟩;rcases dS _ _ g1 with⟨rfl,rfl⟩|⟨_,q⟩
   ·rcases g3 with g3|g3
    ·exact .inr (Bf g3)
    ·rw[xX.1]at g3;rcases hm.kind with h|h<;>omega
   ·exact .inl ⟨b',p',q,rfl,g3,g4⟩
 have hC:tu (ax ρ m) aN.heap.size aN w':=⟨hc.tape,hc.os,hc.output,hc.size,hc.shape,fun b o hb _=>hc.cell b o hb (p2 b o),hc.qQ,fun b hb _ fI=>hc.obj b hb (p3 b) fI⟩;have vA:dk P E bl σ (ρ.put β pl) m w':=by
  refine⟨hS,pZ.rest,?_,fun g hg=>let⟨p,h1,h2⟩:=pZ.nW g hg;⟨p,dw.tS jc pl _ _ h1,h2⟩,?_,pZ.wf,fun b' p' x g1 gb g3 g4 g5 he=>?_,fun c x he hr=>(hW.rd c x hr).elim (gi.ew c x he) fun hN=>by have :=(gi.apart.cell c x (gi.apart.wf c x he)).1;omega⟩
  ·exact gi.apart.within hW hc.size hc.shape
  ·exact pZ.fD.above fun b hb=>dw.Lw _ _ ai
  ·rcases dS _ _ g1 with⟨rfl,rfl⟩|⟨_,q⟩
   ·have h8:=oN x g3 g4 g5.1 g5;have h9:=(gi.apart.cell _ _ he).1;omega
   ·exact gi.M9 b' p' x q gb g3 g4 g5 he
 have hvv:aQ (ρ.put β pl) (mk β) v':=hmv (dw.kr ..);have fp:∀g',stepG P main (G (b.at a (.inRegion ops (i::rest)::k)) cs) aN= .go g' w' (listed P b.fn a o aN)->
   Stepped P main ((ax ρ m).or E) (G (b.at a (.inRegion ops (i::rest)::k)) cs) aN ((ax (ρ.put β pl) m).or E) g' w' (listed P b.fn a o aN):=fun g' hs=>
  ⟨hs,hC.or,fun e hx=> .inl (om e hx).or,hW.or,(kz om _).symm,fun _=>vA.low⟩
 have acb:=hn (ρ.put β pl) v' w' (dw.tS jc pl) (fun b _ hb=>dw.Lw _ _ hb) vA hvv;rcases hy with rfl|⟨rfl,hu,rfl⟩
 ·exact⟨_,w',_,_,fp _ (stepG_value ho hw hk gR),acb⟩
 ·exfalso
  have :=mJ hm.form m.shut.next;rw[hu]at this;cases this
end
end
end Go.AM
namespace Go.AM
open Go Go.Conc
def fH (o:gK):Bool:=
 match o.op with
 | .load .. | .lookup .. | .slice .. | .alloc _| .box .. | .buildSlice .. | .makeSlice .. | .makeMap .. =>true
 |_=>false
inductive eO (P:aC)(o:gK)(ev:bS->ae)(v:ae)(m:Mem):Prop
 |pure (h:∀m,dE P ev o m=some (v,m))
 |look (hl:looks o=true) (h:dE P ev o m=some (v,m))
 |make (mk:Nat->ae) (kb:dZ) (β:Nat) (hm:Pd P o ev mk kb) (hv:v=mk β) (cB:β<m.next) (OH:m.floor<=β) (hb:m.blk β={kb with bK:=(m.blk β).bK})
section
variable {P:aC}{o:gK}{ev:bS->ae}{v:ae}{m m':Mem}
theorem ML {ρ:dw}{x x':ae}(h:aQ ρ x x'):∀v,some v∈x.cells.toList.map some->∃u,aQ ρ v u:=by
 intro v hv;obtain⟨y,hy,e⟩:=List.mem_map.1 hv;cases e;obtain⟨i,hi⟩:=List.mem_iff_getElem?.1 hy;obtain⟨u,_,hu⟩:=h.cells.get hi;exact⟨u,hu⟩
theorem yZ {ρ:dw}{l l':List ae}(h:bH (aQ ρ) l l'):∀v,some v∈l.map some->∃u,aQ ρ v u:=by
 intro v hv;obtain⟨y,hy,e⟩:=List.mem_map.1 hv;cases e;obtain⟨i,hi⟩:=List.mem_iff_getElem?.1 hy;obtain⟨u,_,hu⟩:=h.get hi;exact⟨u,hu⟩
theorem eO.made{mk:Nat->ae}{kb:dZ}(hk:fH o=true)(hm:Pd P o ev mk kb)(hw:Wf m)(h:dE P ev o m=some (v,m'))(XE:kb.live:=by refine And.intro ?_ du;intro x hx;first |(cases hx;done)|(obtain⟨y,_,hy⟩:=List.mem_map.1 hx;rw[<-hy];simp)):kB m m'/\eO P o ev v m'/\(fH o=false->∀m,dE P ev o m=some (v,m)):=by
 rw[hm.op m]at h;simp only[ah,au]at h;obtain⟨rfl,rfl⟩:=h;refine⟨kB.alloc _ _ XE,.make mk kb m.next hm rfl (Nat.lt_succ_self _) hw.fl ?_,fun h=>by rw[hk]at h;cases h⟩;rw[Mem.cD,bj rfl]
theorem eO.looked(hk:fH o=true)(hl:looks o=true)(h:dE P ev o m=some (v,m'))(h2:m'=m):kB m m'/\eO P o ev v m'/\(fH o=false->∀m,dE P ev o m=some (v,m)):=by
 subst h2;exact⟨kB.refl _,.look hl h,fun h=>by rw[hk]at h;cases h⟩
set_option maxHeartbeats 1000000 in
theorem To(hl:fx o=true)(hw:Wf m)(h:dE P ev o m=some (v,m')):kB m m'/\eO P o ev v m'/\(fH o=false->∀m,dE P ev o m=some (v,m)):=by
 have still:∀{f:Option ae},(∀m,dE P ev o m=f.map fun v=>(v,m))->kB m m'/\eO P o ev v m'/\(fH o=false->∀m,dE P ev o m=some (v,m)):=fun{f} hf=>by
  rw[hf]at h;obtain⟨rfl,rfl⟩:=map_eq.1 h;exact⟨kB.refl _,.pure fun m=>by rw[hf];rfl,fun _ m=>by rw[hf];rfl⟩
 have one:∀{u:ae},(∀m,dE P ev o m=some (u,m))->kB m m'/\eO P o ev v m'/\(fH o=false->∀m,dE P ev o m=some (v,m)):=fun{u} hf=>still (f:=some u) hf
 unfold fx at hl
 split at hl
 ·rename_i x ho;exact one fun m=>by unfold dE;rw[ho]
 ·rename_i x ho;exact one fun m=>by unfold dE;rw[ho]
 ·rename_i c x y ho;cases hc:ev c with
  |bool t=>exact one (u:=if t then ev x else ev y) fun m=>by unfold dE;rw[ho];simp only[hc]
  |_=>unfold dE at h;rw[ho]at h;simp only[hc]at h;cases h
 ·rename_i s x f ho;exact still fun m=>by unfold dE;rw[ho]
 ·rename_i s x f ho;exact still fun m=>by unfold dE;rw[ho]
 ·rename_i t i ho;cases hc:ev t with
  |tuple vs=>exact still (f:=vs[i]?) fun m=>by unfold dE;rw[ho];simp only[hc]
  |_=>unfold dE at h;rw[ho]at h;simp only[hc]at h;cases h
 ·rename_i u t x ho;exact still fun m=>by unfold dE;rw[ho]
 ·rename_i op t x y u ho;cases op with
  |eql=>
   cases hc:rF P t (isConst x) (isConst y) (ev x) (ev y)with
   |some b=>exact one (u:= .bool b) fun m=>by unfold dE;rw[ho];simp only[hc]
   |none=>exact still (f:=dp P ev o) fun m=>by unfold dE;rw[ho];simp only[hc]
  |neq=>
   cases hc:rF P t (isConst x) (isConst y) (ev x) (ev y)with
   |some b=>exact one (u:= .bool (!b)) fun m=>by unfold dE;rw[ho];simp only[hc]
   |none=>exact still (f:=dp P ev o) fun m=>by unfold dE;rw[ho];simp only[hc]
  |_=>exact still fun m=>by unfold dE;rw[ho]
 ·rename_i t x ho;cases hu:P.underlying t with
  |none=>unfold dE at h;rw[ho]at h;simp only[hu]at h;cases h
  |some d=>
   cases d with
   |interface _=>unfold dE at h;rw[ho]at h;simp only[hu]at h;cases h
   |_=>exact one (u:= .iface t (ev x)) fun m=>by unfold dE;rw[ho];simp only[hu]
 ·rename_i fn f c ho;exact one fun m=>by unfold dE;rw[ho]
 ·rename_i x t a ok ho;exact still fun m=>by unfold dE;rw[ho]
 ·rename_i x ho;cases hc:ev x with
  |pointer a=>cases a with
   |none=>unfold dE at h;rw[ho]at h;simp only[hc]at h;cases h
   |some a=>exact one (u:= .pointer (some a)) fun m=>by unfold dE;rw[ho];simp only[hc]
  |func fn first cap=>
   cases fn with
   |method name=>
    cases hf:(first[0]?:Option ae)with
    |none=>unfold dE at h;rw[ho]at h;simp only[hc,hf]at h;cases h
    |some r=>
     by_cases hm:(jQ P r name).isSome=true
     ·exact one (u:= .func (.method name) first cap) fun m=>by unfold dE;rw[ho];simp only[hc,hf,hm,if_true]
     ·unfold dE at h;rw[ho]at h;simp only[hc,hf,hm]at h;cases h
   |_=>unfold dE at h;rw[ho]at h;simp only[hc]at h;cases h
  |_=>unfold dE at h;rw[ho]at h;simp only[hc]at h;cases h
 ·rename_i t x i ho;cases hc:wB P t (ev x) (ev i)with
  |some u=>exact one (u:=u) fun m=>by unfold dE;rw[ho];simp only[hc]
  |none=>exact still (f:=dp P ev o) fun m=>by unfold dE;rw[ho];simp only[hc]
 ·rename_i t x i ho;exact still fun m=>by unfold dE;rw[ho]
 ·rename_i t x lo hi mx ho;refine eO.looked (by unfold fH;rw[ho]) (by unfold looks;rw[ho]) h ?_;unfold dE at h;rw[ho]at h;cases mx with
  |some _=>cases h
  |none=>
   simp only[]at h
   split at h
   ·simp only[ah,au]at h;exact h.2.symm
   ·exact(map_eq.1 h).2
 ·rename_i t ps ho;exact still fun m=>by unfold dE;rw[ho]
 ·rename_i t x ho;refine eO.looked (by unfold fH;rw[ho]) (by unfold looks;rw[ho]) h ?_;unfold dE at h;rw[ho]at h;exact(map_eq.1 h).2
 ·rename_i t x k ok ho;refine eO.looked (by unfold fH;rw[ho]) (by unfold looks;rw[ho]) h ?_;unfold dE at h;rw[ho]at h;exact(map_eq.1 h).2
 ·rename_i e ho;cases hz:iw P e with
  |none=>unfold dE at h;rw[ho]at h;simp only[hz]at h;cases h
  |some z=>
   refine eO.made (by unfold fH;rw[ho]) (mk:=fun β=>ptrTo β 0) (kb:={kind:=1,sz:=0,cs:=z.cells.toList.map some,pos:=1}) ⟨.inl rfl,fun m=>by unfold dE;rw[ho];simp only[hz];rfl,.inl rfl,rfl,fun{ρ oY} _ v hv=>?_⟩ hw h;have :=(jE hz).1;exact yZ (iF (ρ:=ρ) this) v hv
 ·rename_i e x ho;refine eO.made (by unfold fH;rw[ho]) (mk:=fun β=>ptrTo β 0) (kb:={kind:=1,sz:=0,cs:=(ev x).cells.toList.map some,pos:=1}) ⟨.inl rfl,fun m=>by unfold dE;rw[ho];rfl,.inl rfl,rfl,fun{ρ oY} dV v hv=>?_⟩ hw h;exact ML (dV x (by rw[ho];simp[Op.operands])) v hv
 ·rename_i t n ps ho;have h0:=h;unfold dE at h0;rw[ho]at h0;simp only[]at h0;unfold bY at h0
  split at h0
  ·rename_i e hu
   split at h0
   ·rename_i size z hs hz
    split at h0
    ·cases h0
    ·rename_i ig;obtain⟨r,hr,_⟩:=az.1 h0;refine eO.made (by unfold fH;rw[ho]) (mk:=fun β=> .slice (some ⟨β,0,none⟩) n n) (kb:={kind:=1,sz:=size,cs:=r.toList.map some}) ⟨.inr (.inl ⟨n,n,ai,rfl⟩),fun m=>?_,.inl rfl,rfl,fun{ρ oY} dV v hv=>?_⟩ hw h
     ·unfold dE;rw[ho];simp only[];unfold bY;simp only[hu,hs,hz];rw[bW ig,hr];rfl
     ·have hp:=yQ (ρ:=ρ) (ev:=ev) (oY:=oY) (ps:=ps) (fun x hx=>dV x (by rw[ho];exact hx));obtain⟨r',_,zf⟩:=xZ hp (uO hz _) hr;exact yZ zf v hv
   ·cases h0
  ·cases h0
 ·rename_i t l c ho;have h0:=h;unfold dE at h0;rw[ho]at h0;simp only[]at h0;unfold fP at h0
  split at h0
  ·rename_i e l' c' hu hel hec
   split at h0
   ·rename_i i z hi hz
    split at h0
    ·rename_i hc;refine eO.made (by unfold fH;rw[ho]) (mk:=fun β=> .slice (some ⟨β,0,none⟩) l'.toNat c'.toNat) (kb:={kind:=1,sz:=i.size,cs:=(((Array.range (c'.toNat*i.size)).map (z.cells[·%z.cells.size]!)).toList.map some)}) ⟨.inr (.inl ⟨l'.toNat,c'.toNat,by unfold cH;omega,rfl⟩),fun m=>?_,.inl rfl,rfl,fun{ρ oY} dV v hv=>?_⟩ hw h
     ·unfold dE;rw[ho];simp only[];unfold fP;rw[hel,hec];simp only[hu,hi,hz];rw[bj hc]
     ·exact yZ (uO (ρ:=ρ) hz _) v hv
    ·cases h0
   ·cases h0
  ·cases h0
 ·rename_i t r ho;cases r with
  |some _=>unfold dE at h;rw[ho]at h;cases h
  |none=>
   refine eO.made (by unfold fH;rw[ho]) (mk:=fun β=> .map (some β)) (kb:={kind:=2}) ⟨.inr (.inr rfl),fun m=>by unfold dE;rw[ho],.inr rfl,rfl,fun{ρ oY} dV v hv=>by cases hv⟩ hw h
 ·rename_i b lf kW ho;have hml:b= .min\/b= .max\/b= .len:=by
   cases b<;>first |exact .inl rfl|exact .inr (.inl rfl)|exact .inr (.inr rfl)|cases hl
  have dB:(∀m,dE P ev o m=(dp P ev o).map fun v=>(v,m))->kB m m'/\eO P o ev v m'/\(fH o=false->∀m,dE P ev o m=some (v,m)):=fun hf=>still hf
  rcases hml with rfl|rfl|rfl
  ·exact dB fun m=>by unfold dE;rw[ho]
  ·exact dB fun m=>by unfold dE;rw[ho]
  ·have h0:=h;unfold dE at h0;rw[ho]at h0;simp only[]at h0
   split at h0
   ·rename_i e1 _;cases e1
   ·rename_i e1 _;cases e1
   ·rename_i e1 _;cases e1
   ·rename_i x _ hx;cases hs:(match(kW[0]?).bind P.underlying,ev x with |some (.slice _),.slice _ n _=>some n|_,_=>none:Option Nat)with
    |some n=>
     refine one (u:=goInt n) fun m=>?_
     unfold dE;rw[ho];simp only[hx]
     split at hs
     ·rename_i h1 h2;simp only[ah]at hs;subst hs;simp only[h1,h2]
     ·cases hs
    |none=>
     refine dB fun m=>?_
     unfold dE;rw[ho];simp only[hx]
     split at hs
     ·cases hs
     ·rename_i hn
      split
      ·rename_i h1 h2;exact absurd h2 (fun h2=>hn _ _ _ _ h1 h2)
      ·rfl
   ·rename_i e1;cases e1
   ·rename_i e1;cases e1
   ·cases h0
 ·cases hl
end
end Go.AM
namespace Go.AM
open Go Go.Conc
section
variable {P:aC}{o:gK}{ev:bS->ae}{v:ae}{m m':Mem}
theorem Il {t:aO}{x:ae}{lo hi:Option ae}{u:ae}(hb:∀b,mV x=some b->(m.blk b).kind≠0->m'.blk b=m.blk b):iy P t x lo hi m=some u->iy P t x lo hi m'=some u:=by
 unfold iy
 split
 ·rename_i b o len cap hu
  split
  ·rename_i l h' s' e1 e2 e3
   split
   ·intro h
    split at h
    ·rename_i th;rw[bj]
     ·exact h
     ·refine⟨th.1,th.2.1,?_⟩;rcases th.2.2 with h0|h0
      ·exact .inl h0
      ·refine .inr ?_;rw[hb b rfl ai];exact h0
    ·cases h
   ·exact id
  ·exact id
 ·exact id
 ·exact id
 ·exact id
theorem eO.grow(h:eO P o ev v m)(hw:Wf m)(g:kB m m'):eO P o ev v m':=by
 have cB:∀b,(m.blk b).kind≠0->b<m.next:=fun b hb=>by
  rcases Nat.lt_or_ge b m.next with h1|h1
  ·exact h1
  ·exact absurd (hw.x8 b h1) hb
 cases h with
 |pure h=>exact .pure h
 |make mk kb β hm hv hl OH hb=>exact .make mk kb β hm hv (aW hl g.next) (by rw[g.floor];exact OH) (by rw[g.blk β hl];exact hb)
 |look hl h=>
  refine .look hl ?_;unfold looks at hl
  split at hl
  ·rename_i t x ho;unfold dE at h⊢;rw[ho]at h⊢;simp only[]at h⊢;have h1:=(map_eq.1 h).1;obtain⟨b,c,n,hx,hk,hme,Qk⟩:=Jf h1;rw[Qk m' (g.blk b (cB b ai)) (.inr (by rw[g.bh];exact hme))];rfl
  ·rename_i t x k ok ho;unfold dE at h⊢;rw[ho]at h⊢;simp only[]at h⊢;have h1:=(map_eq.1 h).1;rcases Cp h1 with h2|⟨b,hx,hk,vr,Qk⟩
   ·rw[h2 m'];rfl
   ·rw[Qk m' (g.blk b (cB b ai)) (.inr (by unfold Mem.bI at vr⊢;rw[g.bh,g.home];exact vr))];rfl
  ·rename_i t x lo hi mx ho;unfold dE at h⊢;rw[ho]at h⊢;cases mx with
   |some _=>cases h
   |none=>
    simp only[]at h⊢;have key:∀u,iy P t (ev x) (lo.map ev) (hi.map ev) m=some u->iy P t (ev x) (lo.map ev) (hi.map ev) m'=some u:=by
     exact fun u=>Il fun b hb hk=>g.blk b (cB b hk)
    split at h
    ·rename_i u hu;rw[key u hu];simp only[ah,au]at h⊢;exact⟨h.1,trivial⟩
    ·rename_i hu;have hp:=(map_eq.1 h).1;have dB:plain (ev x)=true:=by
      unfold dp at hp
      split at hp
      ·rename_i lQ;exact Array.all_eq_true_iff_forall_mem.1 lQ x (by rw[ho];simp[Op.operands])
      ·cases hp
     have hnb:∀b,mV (ev x)=some b->False:=fun b hb=>by
      cases hx:ev x with
      |pointer a=>rw[hx]at hb dB;cases a<;>simp[mV,plain,de]at hb dB
      |slice a l c=>rw[hx]at hb dB;cases a<;>simp[mV,plain,de]at hb dB
      |map a=>rw[hx]at hb dB;cases a<;>simp[mV,plain,de]at hb dB
      |_=>rw[hx]at hb;cases hb
     rw[EL (m:=m) (m':=m') fun b hb=>(hnb b hb).elim,hu];simp only[hp];rfl
  ·cases hl
theorem Ja {m₂:Mem}(hl:looks o=true)(h:dE P ev o m=some (v,m₂)):m₂=m:=by
 unfold looks at hl
 split at hl
 ·rename_i t x ho;unfold dE at h;rw[ho]at h;exact(map_eq.1 h).2
 ·rename_i t x k ok ho;unfold dE at h;rw[ho]at h;exact(map_eq.1 h).2
 ·rename_i t x lo hi mx ho;unfold dE at h;rw[ho]at h;cases mx with
  |some _=>cases h
  |none=>
   simp only[]at h
   split at h
   ·simp only[ah,au]at h;exact h.2.symm
   ·exact(map_eq.1 h).2
 ·cases hl
theorem Bs (hl:looks o=false):jh o ev v=v:=by
 unfold jh
 split
 ·rename_i ho;unfold looks at hl;rw[ho]at hl;cases hl
 ·rename_i ho;unfold looks at hl;rw[ho]at hl;cases hl
 ·rename_i ho;unfold looks at hl;rw[ho]at hl;cases hl
 ·rfl
theorem eO.check(h:eO P o ev v m)(hn:m.next<=m'.next)(hb:∀b,mV (jh o ev v)=some b->m'.blk b=m.blk b)(hl:looks o=true->(dE P ev o m').isSome=true)
  (hf:looks o=false->∀b,mV v=some b->m'.floor<=b):eO P o ev v m':=by
 cases h with
 |pure h=>exact .pure h
 |make mk kb β hm hv cB OH HV=>
  cases hlk:looks o with
  |true=>
   have :=Ja hlk (hm.op m);have h2:=congrArg Mem.next this;simp at h2
  |false=>
   have jc:mV v=some β:=by rw[hv];exact mJ hm.form β
   rw[Bs hlk]at hb;exact .make mk kb β hm hv (aW cB hn) (hf hlk β jc) (by rw[hb β jc];exact HV)
 |look hlk h=>
  have hs:=hl hlk;refine .look hlk ?_;have acg:=hlk;unfold looks at acg
  split at acg
  ·rename_i t x ho;have Zk:jh o ev v=ev x:=by unfold jh;rw[ho]
   rw[Zk]at hb;unfold dE at h hs⊢;rw[ho]at h hs⊢;simp only[Option.isSome_map]at h hs⊢;have h1:=(map_eq.1 h).1;obtain⟨b,c,n,hx,hk,hme,Qk⟩:=Jf h1;rw[Qk m' (hb b (by rw[hx];rfl)) (.inl hs)];rfl
  ·rename_i t x k ok ho;have Zk:jh o ev v=ev x:=by unfold jh;rw[ho]
   rw[Zk]at hb;unfold dE at h hs⊢;rw[ho]at h hs⊢;simp only[Option.isSome_map]at h hs⊢;have h1:=(map_eq.1 h).1;rcases Cp h1 with h2|⟨b,hx,hk,vr,Qk⟩
   ·rw[h2 m'];rfl
   ·rw[Qk m' (hb b (by rw[hx];rfl)) (.inl hs)];rfl
  ·rename_i t x lo hi mx ho;have Zk:jh o ev v=ev x:=by unfold jh;rw[ho]
   rw[Zk]at hb;unfold dE at h⊢;rw[ho]at h⊢;cases mx with
   |some _=>cases h
   |none=>
    simp only[]at h⊢;rw[EL (m:=m) (m':=m') hb]
    split at h
    ·rename_i u hu;simp only[ah,au]at h⊢;exact⟨h.1,trivial⟩
    ·rename_i hu;rw[(map_eq.1 h).1];rfl
  ·cases acg
end
def dA (ops:Array gK)(i:Nat):Option Tmp:=(ops[i]?).bind (·.dst)
structure lh (ops:Array gK)(bD:Array Nat)(nt:Nat):Prop where
 ord:yv ops bD nt
 nt:nt<=512
 uniq:∀i j d,i≠j->dA ops i=some d->dA ops j≠some d
 aaA:∀(i j:Nat) (o:gK) (d:Tmp),ops[i]?=some o->d∈ko ops o->j<ops.size->dA ops j=some d->B bD i j\/B bD j i
 chain:∀(k l a b:Nat),k<l->(aE ops)[k]?=some a->(aE ops)[l]?=some b->B bD b a
 steady:∀i,gV ops bD (aE ops) i=true->∀o,ops[i]?=some o->∀d∈ko ops o,∀j,dA ops j=some d->B bD i j
section
variable {ops:Array gK}{bD:Array Nat}{nt:Nat}
theorem MF {i:Nat}{d:Tmp}(h:dA ops i=some d):i<ops.size:=by
 unfold dA at h;obtain⟨o,ho,_⟩:=bC.1 h;exact dH ho
theorem fJ {i:Nat}:i∈aE ops↔∃o,ops[i]?=some o/\fx o=false:=by
 unfold aE;rw[List.mem_filter,List.mem_range]
 constructor
 ·rintro⟨h1,h2⟩;rw[Array.getElem?_eq_getElem h1]at h2;exact⟨_,Array.getElem?_eq_getElem h1,by simpa using h2⟩
 ·rintro⟨o,ho,hl⟩;exact⟨dH ho,by rw[ho];simp[hl]⟩
theorem CR:(aE ops).Pairwise (·< ·):=List.Pairwise.filter _ List.pairwise_lt_range
theorem J6 {bD:Array Nat}(ht:∀{i j k:Nat},i<ops.size->B bD i j->B bD j k->B bD i k):∀{l:List Nat},(∀x∈l,x<ops.size)->ym bD l=true->∀(k m a b:Nat),k<m->l[k]?=some a->l[m]?=some b->B bD b a
 | [],_,_,k,m,a,b,_,h,_=>by simp at h
 | [x],_,_,k,m,a,b,hkm,h1,h2=>by
  cases m with
  |zero=>omega
  |succ m=>simp at h2
 |x::y::l,hl,hc,k,m,a,b,hkm,h1,h2=>by
  simp only[ym,ag]at hc;have Eh:B bD y x:=hc.1;have ih:=J6 ht (l:=y::l) (fun z hz=>hl z (by simp[hz])) hc.2;cases m with
  |zero=>omega
  |succ m=>
   simp only[List.getElem?_cons_succ]at h2;cases k with
   |succ k=>
    simp only[List.getElem?_cons_succ]at h1;exact ih k m a b ai h1 h2
   |zero=>
    simp only[List.getElem?_cons_zero,ah]at h1;subst h1;cases m with
    |zero=>simp only[List.getElem?_cons_zero,ah]at h2;subst h2;exact Eh
    |succ m=>
     have :=ih 0 (m+1) y b ai rfl h2;refine ht (hl b ?_) this Eh;exact List.mem_cons_of_mem _ (List.mem_of_getElem? h2)
theorem Sg (qy:nt<=512)(h1:ym (Region.before ops) (aE ops)=true)(h2:tidy ops (Region.before ops)=true)(h3:Gt ops (Region.before ops) nt=true)(h4:steady ops (Region.before ops) (aE ops)=true):lh ops (Region.before ops) nt:=by
 have aha:=Sz h3;have Zo:∀(i j:Nat) (x y:gK) (d:Tmp),ops[i]?=some x->ops[j]?=some y->y.dst=some d->(i=j\/x.dst≠some d)/\(d∈ko ops x->B (Region.before ops) i j\/B (Region.before ops) j i):=by
  intro i j x y d hx hy hd;have a1:=aB.1 h2 i (List.mem_range.2 (dH hx));have a2:=aB.1 a1 j (List.mem_range.2 (dH hy));simp only[hx,hy,hd,ag,Bool.or_eq_true,beq_iff_eq,bne_iff_ne,Bool.not_eq_true']at a2;refine⟨a2.1,fun hs=>?_⟩;rcases a2.2 with h|h
  ·have :(ko ops x).contains d=true:=by simpa using hs
   rw[this]at h;cases h
  ·exact h
 refine⟨aha,qy,fun i j d jq hi hj=>?_,fun i j o d ho hd CN hj=>?_,fun k l a b=>?_,fun i hc o ho d hd j hj=>?_⟩
 ·unfold dA at hi hj;obtain⟨x,hx,hxd⟩:=bC.1 hi;obtain⟨y,hy,hyd⟩:=bC.1 hj;exact(Zo i j x y d hx hy hyd).1.elim jq fun h=>h hxd
 ·unfold dA at hj;obtain⟨y,hy,hyd⟩:=bC.1 hj;exact(Zo i j o y d ho hy hyd).2 hd
 ·exact J6 (fun a b c=>aha.trans a b c) (fun x hx=>by obtain⟨o,ho,_⟩:=fJ.1 hx;exact dH ho) h1 k l a b
 ·unfold dA at hj;obtain⟨y,hy,hyd⟩:=bC.1 hj;have a1:=aB.1 h4 i (List.mem_range.2 (dH ho));simp only[hc,Bool.not_true,Bool.false_or,ho]at a1;have a2:=aB.1 a1 j (List.mem_range.2 (dH hy));simp only[hy,hyd,Bool.or_eq_true,Bool.not_eq_true']at a2;rcases a2 with h|h
  ·have :(ko ops o).contains d=true:=by simpa using hd
   rw[this]at h;cases h
  ·exact h
theorem r6 {p:Nat->Bool}:∀{l:List Nat},(∀(k m a b:Nat),k<m->l[k]?=some a->l[m]?=some b->p b=true->p a=true)->∀(k x:Nat),l[k]?=some x->(p x=true↔k<(l.filter p).length)
 | [],_,k,x,h=>by simp at h
 |y::l,hd,k,x,h=>by
  have ih:=r6 (l:=l) (p:=p) fun k m a b hkm h1 h2=>hd (k+1) (m+1) a b ai (by simpa using h1) (by simpa using h2)
  rw[List.filter_cons];cases hy:p y with
  |true=>
   simp only[if_true,List.length_cons];cases k with
   |zero=>simp only[List.getElem?_cons_zero,ah]at h;subst h;simp[hy]
   |succ k=>
    simp only[List.getElem?_cons_succ]at h;rw[ih k x h];omega
  |false=>
   have Q7:∀z∈l,p z=false:=fun z hz=>by
    obtain⟨m,hm⟩:=List.mem_iff_getElem?.1 hz;cases hpz:p z with
    |false=>rfl
    |true=>rw[hd 0 (m+1) y z ai rfl (by simpa using hm) hpz]at hy;cases hy
   have Ju:l.filter p=[]:=List.filter_eq_nil_iff.2 fun z hz=>by rw[Q7 z hz];simp
   simp only[cF,if_false,Ju,List.length_nil,Nat.not_lt_zero,iff_false];cases k with
   |zero=>simp only[List.getElem?_cons_zero,ah]at h;subst h;simp[hy]
   |succ k=>
    simp only[List.getElem?_cons_succ]at h;rw[Q7 x (List.mem_of_getElem? h)];simp
theorem lh.pM(h:lh ops bD nt){i k x:Nat}(hi:i<ops.size)(hx:(aE ops)[k]?=some x):B bD i x↔k<cX bD (aE ops) i:=by
 unfold cX;exact r6 (p:=fun h=>(bD.getD i 0).testBit h) (fun k m a b hkm h1 h2 hb=>h.ord.trans hi hb (h.chain k m a b hkm h1 h2)) k x hx
theorem lh.xp(h:lh ops bD nt){i k x:Nat}(hx:(aE ops)[k]?=some x):B bD x i↔qZ bD (aE ops) i<=k:=by
 have :=r6 (p:=fun h=> !(bD.getD h 0).testBit i) (l:=aE ops) (fun k m a b hkm h1 h2 hb=>by
  have cB:b<ops.size:=by obtain⟨o,ho,_⟩:=fJ.1 (List.mem_of_getElem? h2);exact dH ho
  cases ha:(bD.getD a 0).testBit i with
  |false=>simp
  |true=>
   have :B bD b i:=h.ord.trans cB (h.chain k m a b hkm h1 h2) ha;unfold B at this;rw[this]at hb;cases hb) k x hx
 unfold B qZ;cases hb:(bD.getD x 0).testBit i with
 |true=>rw[hb]at this;simp only[Bool.not_true,cF,false_iff,Nat.not_lt]at this;exact⟨fun _=>this,fun _=>rfl⟩
 |false=>rw[hb]at this;simp only[Bool.not_false,true_iff]at this;exact⟨fun h=>(by cases h),fun h=>absurd this (Nat.not_lt.2 h)⟩
theorem lh.Fj(h:lh ops bD nt){i:Nat}(hi:i<ops.size):cX bD (aE ops) i<=qZ bD (aE ops) i:=by
 rcases Nat.lt_or_ge (qZ bD (aE ops) i) (cX bD (aE ops) i)with cB|uV
 ·have hle:cX bD (aE ops) i<=(aE ops).length:=List.length_filter_le _ _;have hx:=List.getElem?_eq_getElem (show qZ bD (aE ops) i<(aE ops).length by omega);have h1:=(h.pM hi hx).2 cB;have h2:=(h.xp (i:=i) hx).2 (aj _);have h3:=h.ord.trans hi h1 h2;have :=h.ord.lt hi h3;omega
 ·exact uV
theorem lh.zk(h:lh ops bD nt){i j:Nat}(hi:i<ops.size)(hb:B bD i j):cX bD (aE ops) j<=cX bD (aE ops) i:=by
 have hj:=h.ord.lt hi hb;rcases Nat.lt_or_ge (cX bD (aE ops) i) (cX bD (aE ops) j)with cB|uV
 ·have hle:cX bD (aE ops) j<=(aE ops).length:=List.length_filter_le _ _;have hx:=List.getElem?_eq_getElem (show cX bD (aE ops) i<(aE ops).length by omega);have h1:=(h.pM ai hx).2 cB;have :=(h.pM hi hx).1 (h.ord.trans hi hb h1);omega
 ·exact uV
end
end Go.AM
namespace Go.AM
open Go Go.Conc
section
variable {P:aC}{ops:Array gK}{bD:Array Nat}{nt:Nat}{call:cE}{r:Ss}{lr:Tm}
def adl (P:aC)(nt:Nat)(ops:Array gK)(call:cE)(t:mX)(rest:im)(tm:Tm)(m:Mem)(df:Df)(r:Ss):Prop:=
 match t with
 |(0,i,slot)=>∃cV m' lX,qE P call nt ops i tm m df cV m' lX/\rest call cV m' lX=some r/\(slot≠0->m.pend=[])
 |(1,i,slot)=>∃o x,ops[i]?=some o/\mD o=some x/\nt<=slot/\slot<512/\rest call (tC slot (if cY ops o tm then jj m (dz tm x)else undef) tm) m df=some r
 |(_,i,slot)=>∃o x,ops[i]?=some o/\mD o=some x/\rest call tm m df=some r/\(cY ops o tm=true->xA (dj slot tm) (jj m (dz tm x))=true/\
   (looks o=true->(dE P (dz tm) o m).isSome=true)/\(looks o=false->∀b,mV (dz tm x)=some b->m.floor<=b))
theorem pk {t:mX}{rest F:im}(h:zI P nt ops t rest=some F){tm:Tm}{m:Mem}{df:Df}(hf:F call tm m df=some r):adl P nt ops call t rest tm m df r:=by
 obtain⟨k,i,slot⟩:=t
 match k with
 |0=>
  unfold zI at h;simp only[]at h
  split at h
  ·rename_i f hF;cases h;cases slot with
   |zero=>
    obtain⟨cV,m',lX,h1,h2⟩:=B6 hF hf;exact⟨cV,m',lX,h1,h2,fun h=>absurd rfl h⟩
   |succ n=>
    replace hf:NJ f call tm m df=some r:=hf
    unfold NJ at hf
    split at hf
    ·rename_i hp;obtain⟨cV,m',lX,h1,h2⟩:=B6 hF hf;exact⟨cV,m',lX,h1,h2,fun _=>hp⟩
    ·cases hf
  ·cases h
 |1=>
  unfold zI at h;simp only[]at h
  split at h
  ·rename_i o ho
   split at h
   ·rename_i x hx
    split at h
    ·rename_i hc;cases h;simp only[ag,Dn,j3,iB]at hc;exact⟨o,x,ho,hx,hc.1.2,hc.2,hf⟩
    ·cases h
   ·cases h
  ·cases h
 |k+2=>
  unfold zI at h;simp only[]at h
  split at h
  ·rename_i o ho
   split at h
   ·rename_i x hx;cases h;unfold sD at hf;refine⟨o,x,ho,hx,?_⟩;cases hw:cY ops o tm with
    |false=>
     rw[hw]at hf;exact⟨hf,fun h=>by cases h⟩
    |true=>
     rw[hw]at hf;simp only[if_true]at hf;cases hl:looks o with
     |true=>
      simp only[hl,if_true]at hf
      split at hf
      ·rename_i hc;simp only[ag]at hc;exact⟨hf,fun _=>⟨hc.1,fun _=>hc.2,fun h=>by cases h⟩⟩
      ·cases hf
     |false=>
      simp only[hl,cF,if_false]at hf;cases xT:xA (dj slot tm) (jj m (dz tm x))with
      |false=>
       rw[xT]at hf;cases hf
      |true=>
       rw[xT]at hf;cases HV:mV (dz tm x)with
       |none=>
        rw[HV]at hf;exact⟨hf,fun _=>⟨rfl,fun h=>(by cases h),fun _ b hb=>by cases hb⟩⟩
       |some b=>
        rw[HV]at hf;simp only[Bool.true_and]at hf
        by_cases hle:m.floor.ble b=true
        ·rw[bj hle]at hf;refine⟨hf,fun _=>⟨rfl,fun h=>(by cases h),fun _ b' hb=>?_⟩⟩;cases hb;simpa[Dn]using hle
        ·rw[bW hle]at hf;cases hf
   ·cases h
  ·cases h
theorem kO {t:mX}{T:List mX}{F:im}(h:g9 P nt ops (t::T)=some F):∃rest,g9 P nt ops T=some rest/\zI P nt ops t rest=some F:=by
 unfold g9 at h
 split at h
 ·rename_i rest hr;exact⟨rest,hr,h⟩
 ·cases h
theorem LC {i:Nat}{tm cV:Tm}{m m':Mem}{df lX:Df}(h:qE P call nt ops i tm m df cV m' lX):∃v,cV=Gp (dA ops i) v tm/\∀d,dA ops i=some d->d<512:=by
 obtain⟨o,ho,hg,_,h⟩:=h;have e:dA ops i=o.dst:=by unfold dA;rw[ho];rfl
 rw[e];rcases h with⟨_,v,_,rfl⟩|⟨_,rfl,_⟩
 ·exact⟨v,rfl,hg.2⟩
 ·exact⟨undef,rfl,hg.2⟩
theorem jb {d:Option Tmp}{t:Nat}(hd:∀x,d=some x->x<512)(ht:t<512)(v:ae)(tm:Tm):dj t (Gp d v tm)=if d=some t then v else dj t tm:=by
 unfold Gp;cases d with
 |none=>simp
 |some d=>simp only[oV (hd d rfl) ht,ah]
theorem vY (qy:nt<=512):∀{T:List mX}{F:im}{tm:Tm}{m:Mem}{df:Df},g9 P nt ops T=some F->F call tm m df=some r->∀t,t<nt->(∀i x,(0,i,x)∈T->dA ops i≠some t)->dj t r.tm=dj t tm
 | [],F,tm,m,df,h,hf,t,ht,_=>by
  unfold g9 at h;cases h;unfold X6 at hf;cases hf;rfl
 |u::T,F,tm,m,df,h,hf,t,ht,hn=>by
  obtain⟨rest,hr,hu⟩:=kO h;have hi:=pk hu hf;have ih:=fun{cV m' lX} (AO:rest call cV m' lX=some r)=>vY qy hr AO t ht fun i x hx=>hn i x (List.mem_cons_of_mem _ hx)
  obtain⟨k,i,slot⟩:=u
  match k with
  |0=>
   obtain⟨cV,m',lX,ho,AO,_⟩:=hi;rw[ih AO];obtain⟨v,rfl,hd⟩:=LC ho;rw[jb hd ai,bW (hn i slot du)]
  |1=>
   obtain⟨o,x,_,_,h1,h2,AO⟩:=hi;rw[ih AO,oV h2 ai,bW ai]
  |k+2=>
   obtain⟨o,x,_,_,AO,_⟩:=hi;exact ih AO
def Ex (ops:Array gK)(nt:Nat)(r:Ss)(lr:Tm)(S:Nat->Prop)(tm:Tm):Prop:=
 ∀t,t<nt->(∀i,S i->dA ops i=some t->dj t tm=dj t r.tm)/\((∀i,S i->dA ops i≠some t)->dj t tm=dj t lr)
def Seen (ops:Array gK)(bD:Array Nat)(nt:Nat)(r:Ss)(lr:Tm)(i:Nat)(tm:Tm):Prop:=
 ∀o,ops[i]?=some o->∀t∈ko ops o,t<nt->(∀j,B bD i j->dA ops j=some t->dj t tm=dj t r.tm)/\((∀j,B bD i j->dA ops j≠some t)->dj t tm=dj t lr)
theorem Ny (R:lh ops bD nt){S:Nat->Prop}{tm:Tm}(h:Ex ops nt r lr S tm){i:Nat}(h1:∀j,B bD i j->S j)(h2:∀j,S j->¬B bD j i):Seen ops bD nt r lr i tm:=by
 intro o ho t ht cB;refine⟨fun j hj hd=>(h t cB).1 j (h1 j hj) hd,fun hn=>(h t cB).2 fun j hj hd=>?_⟩;rcases R.aaA i j o t ho ht (MF hd) hd with hb|hb
 ·exact hn j hb hd
 ·exact h2 j hj hb
theorem Nx {o:gK}{t:Tmp}(h:bS.tmp t∈o.op.operands):t∈ko ops o:=by
 unfold ko;rw[List.mem_append]
 left
 rw[List.mem_filterMap];exact⟨.tmp t,by simpa using h,rfl⟩
theorem BM {o:gK}{j:Nat}{want:Bool}{g:Tmp}(h:o.guard=some (j,want))(hg:dA ops j=some g):g∈ko ops o:=by
 unfold ko;rw[List.mem_append]
 right
 rw[h];unfold dA at hg;simp[hg]
theorem OO {o:gK}{tm cV:Tm}(h:∀t∈ko ops o,t<nt->dj t tm=dj t cV)(hg:∀x∈o.op.operands,rD nt P.globals.size x=true):∀x∈o.op.operands,dz tm x=dz cV x:=by
 intro x hx;cases x with
 |tmp t=>exact h t (Nx hx) (by have :=hg _ hx;simpa[rD,j3]using this)
 |_=>rfl
theorem xh {o:gK}{tm cV:Tm}(h:∀t∈ko ops o,t<nt->dj t tm=dj t cV)(hg:∀j want,o.guard=some (j,want)->∃g,dA ops j=some g/\g<nt):cY ops o tm=cY ops o cV:=by
 unfold cY;cases XK:o.guard with
 |none=>rfl
 |some p=>
  obtain⟨j,want⟩:=p;obtain⟨g,h1,h2⟩:=hg j want XK;have h3:=h1;unfold dA at h3;simp only[h3];rw[h g (BM XK h1) h2]
theorem abh {o:gK}(hl:looks o=true){ev oY:bS->ae}(h:∀x∈o.op.operands,ev x=oY x)(m:Mem):dE P ev o m=dE P oY o m:=by
 unfold looks at hl
 split at hl
 ·rename_i t x ho;have :=h x (by rw[ho];simp[Op.operands]);unfold dE;rw[ho];simp only[this]
 ·rename_i t x k ok ho;have h1:=h x (by rw[ho];simp[Op.operands]);have h2:=h k (by rw[ho];simp[Op.operands]);unfold dE;rw[ho];simp only[h1,h2]
 ·rename_i t x lo hi mx ho;have h1:=h x (by rw[ho];simp[Op.operands]);have h2:lo.map ev=lo.map oY:=by
   cases lo with
   |none=>rfl
   |some y=>simp only[cU];rw[h y (by rw[ho];simp[Op.operands])]
  have h3:hi.map ev=hi.map oY:=by
   cases hi with
   |none=>rfl
   |some y=>simp only[cU];rw[h y (by rw[ho];simp[Op.operands])]
  have h4:mx.map ev=mx.map oY:=by
   cases mx with
   |none=>rfl
   |some y=>simp only[cU];rw[h y (by rw[ho];simp[Op.operands])]
  have dB:dp P ev o=dp P oY o:=by
   unfold dp;have e1:o.op.operands.all (fun x=>plain (ev x))=o.op.operands.all (fun x=>plain (oY x)):=by
    rw[Bool.eq_iff_iff,Array.all_eq_true_iff_forall_mem,Array.all_eq_true_iff_forall_mem];exact⟨fun g y hy=>by rw[<-h y hy];exact g y hy,fun g y hy=>by rw[h y hy];exact g y hy⟩
   have e2:execOp ev o=execOp oY o:=by
    unfold execOp;rw[ho];simp only[h1,h2,h3,h4]
   rw[e1,e2]
  unfold dE;rw[ho];cases mx with
  |some _=>rfl
  |none=>simp only[h1,h2,h3,dB]
 ·cases hl
theorem EE {o:gK}{ev oY:bS->ae}(h:∀x∈o.op.operands,ev x=oY x)(v:ae):jh o ev v=jh o oY v:=by
 unfold jh
 split
 ·rename_i t x ho;exact h x (by rw[ho];simp[Op.operands])
 ·rename_i t x k ok ho;exact h x (by rw[ho];simp[Op.operands])
 ·rename_i t x lo hi mx ho;exact h x (by rw[ho];simp[Op.operands])
 ·rfl
structure Ey (P:aC)(ops:Array gK)(bD:Array Nat)(nt:Nat)(r:Ss)(lr:Tm)(i:Nat)(EH:Tm)(v:ae)(m:Mem)(tm:Tm):Prop where
 op:∃o,ops[i]?=some o/\aae P nt o/\(∀j want,o.guard=some (j,want)->∃g,dA ops j=some g/\g<nt)/\(∀d,o.dst=some d->d<nt->v=dj d r.tm)/\
  ((cY ops o EH=false/\v=undef)\/(cY ops o EH=true/\eO P o (dz EH) v m/\(fH o=false->∀m,dE P (dz EH) o m=some (v,m))/\(gV ops bD (aE ops) i=true->nt+i<512/\∃m₁,Wf m₁/\Mv m₁ m/\eO P o (dz EH) v m₁/\dj (nt+i) tm=jj m₁ (jh o (dz EH) v))))
 seen:Seen ops bD nt r lr i EH
theorem PA {a b:Nat}(h:xA (.int .i64 (.ofNat a)) (.int .i64 (.ofNat b))=true):a=b:=by
 simp only[xA]at h;exact ay h
theorem Lf {m m':Mem}(hw:Wf m)(hm:Mv m m'){x:ae}(h:xA (jj m x) (jj m' x)=true){b:Nat}(hb:mV x=some b):m'.blk b=m.blk b/\jj m x=jj m' x:=by
 unfold jj at h⊢;rw[hb]at h⊢;simp only[]at h⊢;have e:=PA h;refine⟨?_,by rw[e]⟩;rcases hm.blk b with h1|h1
 ·exact h1
 ·have :=hw.bK b;omega
theorem EF {o:gK}{x:bS}(h:mD o=some x){tm:Tm}{v:ae}(hv:∀d,o.dst=some d->dj d tm=v):dz tm x=jh o (dz tm) v:=by
 unfold mD at h;unfold jh
 split at h
 ·rename_i t y ho;cases h;rw[ho]
 ·rename_i t y k ok ho;cases h;rw[ho]
 ·rename_i t y lo hi mx ho;cases h;rw[ho]
 ·rename_i h1 h2 h3;cases hd:o.dst with
  |none=>rw[hd]at h;cases h
  |some d=>
   rw[hd]at h;cases h
   split
   ·rename_i ho;exact absurd ho (h1 _ _)
   ·rename_i ho;exact absurd ho (h2 _ _ _ _)
   ·rename_i ho;exact absurd ho (h3 _ _ _ _ _)
   ·exact hv d hd
end
end Go.AM
namespace Go.AM
open Go Go.Conc
section
variable {P:aC}{ops:Array gK}{bD:Array Nat}{nt:Nat}{call:cE}{r:Ss}{lr:Tm}
def yX (ops:Array gK)(bD:Array Nat)(nt:Nat)(L:List Nat):List mX:=L.flatMap fun i=>if gV ops bD (aE ops) i then[(0,i,0),(1,i,nt+i)]else[(0,i,0)]
def Lin (ops:Array gK)(bD:Array Nat):(Nat->Prop)->List Nat->Prop
 |_,[]=>True
 |S,i::L=>(∀j,B bD i j->S j)/\(∀j,S j->¬B bD j i)/\¬S i/\(∃o,ops[i]?=some o/\fx o=true)/\Lin ops bD (fun x=>S x\/x=i) L
theorem Lin.Y5:∀{L:List Nat}{S:Nat->Prop},Lin ops bD S L->∀x,S x->x∉L
 | [],S,_,x,_=>by simp
 |i::L,S,h,x,hx=>by
  obtain⟨_,_,h3,_,h5⟩:=h;intro hm;rcases aL.1 hm with rfl|hm
  ·exact h3 hx
  ·exact Lin.Y5 h5 x (.inl hx) hm
theorem Tp {o:gK}(hl:fx o=true):(∀x lf kW,o.op≠ .call {callee:= .value x,args:=lf,argTypes:=kW})/\(∀x n lf kW,o.op≠ .call {callee:= .invoke x n,args:=lf,argTypes:=kW})/\(∀c,o.op≠ .defer c):=by
 refine⟨fun x lf kW ho=>?_,fun x n lf kW ho=>?_,fun c ho=>?_⟩<;>(unfold fx at hl;rw[ho]at hl;cases hl)
theorem LV {o:gK}{tm:Tm}{m m':Mem}{df lX:Df}{v:ae}(hl:fx o=true)(h:zD P call o tm m df v m' lX):dE P (dz tm) o m=some (v,m')/\lX=df:=by
 obtain⟨n1,n2,n3⟩:=Tp hl;rcases h with h|⟨f,args,hc,_⟩|⟨f,args,hd,_⟩
 ·exact h
 ·rcases hc with⟨x,lf,kW,_,_,ho,_⟩|⟨x,n,lf,kW,_,ho,_⟩
  ·exact absurd ho (n1 _ _ _)
  ·exact absurd ho (n2 _ _ _ _)
 ·obtain⟨x,lf,kW,_,_,ho,_⟩:=hd;exact absurd ho (n3 _)
def tn (P:aC)(ops:Array gK)(i:Nat)(EH:Tm)(v:ae)(β:Nat):Prop:=∃o mk kb,ops[i]?=some o/\Pd P o (dz EH) mk kb/\v=mk β/\cY ops o EH=true
theorem Ly (R:lh ops bD nt){i:Nat}{o:gK}(ho:ops[i]?=some o){t:Tmp}(ht:t∈ko ops o):dA ops i≠some t:=by
 intro hd;have hi:=dH ho;rcases R.aaA i i o t ho ht hi hd with h|h<;>(have :=R.ord.lt hi h;omega)
theorem Ex.step(R:lh ops bD nt){S:Nat->Prop}{tm:Tm}(h:Ex ops nt r lr S tm){i:Nat}(hi:¬S i){v:ae}(hd:∀d,dA ops i=some d->d<512)(hv:∀d,dA ops i=some d->d<nt->v=dj d r.tm):Ex ops nt r lr (fun x=>S x\/x=i) (Gp (dA ops i) v tm):=by
 intro t ht;have qy:=R.nt;rw[jb hd ai]
 by_cases he:dA ops i=some t
 ·rw[bj he];exact⟨fun _ _ _=>hv t he ht,fun hn=>absurd he (hn i (.inr rfl))⟩
 ·rw[bW he];refine⟨fun j hj hdj=>?_,fun hn=>(h t ht).2 fun j hj=>hn j (.inl hj)⟩;rcases hj with hj|rfl
  ·exact(h t ht).1 j hj hdj
  ·exact absurd hdj he
theorem Ex.slot{S:Nat->Prop}{tm:Tm}(h:Ex ops nt r lr S tm)(qy:nt<=512){slot:Nat}(h1:nt<=slot)(h2:slot<512)(v:ae):Ex ops nt r lr S (tC slot v tm):=by
 intro t ht;rw[oV h2 ai,bW ai];exact h t ht
theorem Ex.iff{S S':Nat->Prop}{tm:Tm}(h:Ex ops nt r lr S tm)(e:∀x,S x↔S' x):Ex ops nt r lr S' tm:=by
 have :S=S':=funext fun x=>propext (e x)
 rw[<-this];exact h
theorem guard_of {nt':Nat}{j:Nat}{want:Bool}{o:gK}(h:∀j want,o.guard=some (j,want)->∃g,(ops[j]?).bind (·.dst)=some g/\g<nt/\g<512):∀j want,o.guard=some (j,want)->∃g,dA ops j=some g/\g<nt:=fun j want hg=>let⟨g,h1,h2,_⟩:=h j want hg;⟨g,h1,h2⟩
set_option maxHeartbeats 1000000 in
theorem wu(R:lh ops bD nt){T:List mX}:∀{L:List Nat}{S:Nat->Prop}{F:im}{tm:Tm}{m:Mem}{df:Df},Lin ops bD S L->(∀x y,(0,x,y)∈T->¬S x/\x∉L)->
  g9 P nt ops (yX ops bD nt L++T)=some F->F call tm m df=some r->Wf m->Ex ops nt r lr S tm->
  ∃F' cV m',g9 P nt ops T=some F'/\F' call cV m' df=some r/\kB m m'/\Ex ops nt r lr (fun x=>S x\/x∈L) cV/\(∀j,j∉L->nt+j<512->dj (nt+j) cV=dj (nt+j) tm)/\
   ∃(sM:Nat->Tm) (vI:Nat->ae),(∀i∈L,Ey P ops bD nt r lr i (sM i) (vI i) m' cV)/\(∀i∈L,∀β,tn P ops i (sM i) (vI i) β->m.next<=β/\β<m'.next)/\
    (∀i∈L,∀j∈L,i≠j->∀β,tn P ops i (sM i) (vI i) β->¬tn P ops j (sM j) (vI j) β)
 | [],S,F,tm,m,df,_,_,hT,hf,hw,hex=>⟨F,tm,m,hT,hf,kB.refl m,hex.iff fun x=>by simp,fun _ _ _=>rfl,fun _=>tm,fun _=>undef,du,du,du⟩
 |i::L,S,F,tm,m,df,akI,hTn,hT,hf,hw,hex=>by
  obtain⟨l1,l2,l3,⟨o,ho,hl⟩,l5⟩:=akI;have qy:=R.nt;have ZE:i∉L:=Lin.Y5 l5 i (.inr rfl);have Jr:Seen ops bD nt r lr i tm:=Ny R hex l1 l2;have ed:dA ops i=o.dst:=by unfold dA;rw[ho];rfl
  have zg:∀{x y:Nat},((0,x,y):mX)∈(if gV ops bD (aE ops) i then[((1,i,nt+i):mX)]else[])++(yX ops bD nt L++T)->x≠i:=by
   intro x y hx;rcases List.mem_append.1 hx with h|h
   ·split at h
    ·simp at h
    ·simp at h
   ·rcases List.mem_append.1 h with h|h
    ·unfold yX at h;obtain⟨z,hz,h⟩:=List.mem_flatMap.1 h;have :x=z:=by
      split at h
      ·simp at h;exact h.1
      ·simp at h;exact h.1
     subst this;rintro rfl;exact ZE hz
    ·rintro rfl;exact(hTn _ _ h).2 du
  have ahw:g9 P nt ops ((0,i,0)::((if gV ops bD (aE ops) i then[((1,i,nt+i):mX)]else[])++(yX ops bD nt L++T)))=some F:=by
   rw[<-hT]
   congr 1
   unfold yX;rw[List.flatMap_cons]
   split<;>simp
  obtain⟨F1,Rd,ht1⟩:=kO ahw;obtain⟨K7,m1,df1,lY,Mq,_⟩:=pk ht1 hf;obtain⟨vv,amt,sR⟩:=LC lY;have amg:=lY;obtain⟨o',pW,nE,jK,Ms⟩:=lY;rw[ho]at pW;cases pW;have gm:∀d,dA ops i=some d->d<nt->dj d K7=dj d r.tm:=fun d hd cB=>(vY qy Rd Mq d cB fun x y hx he=>R.uniq x i d (zg hx) he hd).symm
  obtain⟨v,hv,nL,hg1,eZ⟩:∃v,K7=Gp (dA ops i) v tm/\df1=df/\kB m m1/\((cY ops o tm=false/\v=undef)\/(cY ops o tm=true/\eO P o (dz tm) v m1/\(fH o=false->∀m,dE P (dz tm) o m=some (v,m))/\dE P (dz tm) o m=some (v,m1))):=by
   rcases Ms with⟨Ad,v,hd,rfl⟩|⟨Ad,rfl,rfl,rfl⟩
   ·obtain⟨h1,rfl⟩:=LV hl hd;obtain⟨g1,g2,g3⟩:=To hl hw h1;exact⟨v,by rw[ed],rfl,g1,.inr ⟨Ad,g2,g3,h1⟩⟩
   ·exact⟨undef,by rw[ed],rfl,kB.refl _,.inl ⟨Ad,rfl⟩⟩
  subst nL;have Oq:∀d,dA ops i=some d->d<nt->v=dj d r.tm:=fun d hd cB=>by
   rw[<-gm d hd cB,hv,jb sR (aW cB qy),bj hd]
  have Oo:Wf m1:=hg1.fr.2.2 hw;have Mr:Ex ops nt r lr (fun x=>S x\/x=i) K7:=by rw[hv];exact hex.step R l3 sR Oq
  have eF:∀t∈ko ops o,t<nt->dj t K7=dj t tm:=fun t ht cB=>by
   rw[hv,jb sR (aW cB qy),bW (Ly R ho ht)]
  obtain⟨F2,QY,hF2,Mp,XM,Mi,ag9⟩:∃F2 QY,g9 P nt ops (yX ops bD nt L++T)=some F2/\F2 call QY m1 df1=some r/\Ex ops nt r lr (fun x=>S x\/x=i) QY/\
    (gV ops bD (aE ops) i=true->cY ops o tm=true->dj (nt+i) QY=jj m1 (jh o (dz tm) v))/\(∀j,j≠i->nt+j<512->dj (nt+j) QY=dj (nt+j) tm):=by
   have vt:∀d,dA ops i=some d->d<nt:=fun d hd=>R.ord.dst i o d ho (by rw[<-ed];exact hd)
   have Zy:∀j,nt+j<512->dj (nt+j) K7=dj (nt+j) tm:=fun j hj=>by
    rw[hv,jb sR hj,bW];intro he;have h1:nt+j<nt:=vt _ he;omega
   by_cases hc:gV ops bD (aE ops) i=true
   ·rw[bj hc]at Rd;obtain⟨F2,hF2,Zp⟩:=kO Rd;obtain⟨o2,x,ZA,hx,s1,s2,Mp⟩:=pk Zp Mq;rw[ho]at ZA;cases ZA;refine⟨F2,_,hF2,Mp,Mr.slot qy s1 s2 _,fun _ Ad=>?_,fun j hj OD=>?_⟩
    ·rw[oV s2 s2,bj rfl,bj]
     ·congr 1
      rw[EF hx (v:=v) fun d hd=>by rw[hv,jb sR (sR d (by rw[ed];exact hd)),bj (by rw[ed];exact hd)]];exact EE (fun y hy=>OO eF nE.1 y hy) v
     ·rw[xh eF (fun j want hg=>let⟨g,h1,h2,_⟩:=jK j want hg;⟨g,h1,h2⟩)];exact Ad
    ·rw[oV s2 OD,bW ai];exact Zy j OD
   ·rw[bW hc]at Rd;exact⟨F1,K7,Rd,Mq,Mr,fun h=>absurd h hc,fun j _ OD=>Zy j OD⟩
  obtain⟨F',cV,m',hF',AO,Mo,akQ,Zz,sM,vI,hp,hm1,yC⟩:=wu R l5 (fun x y hx=>⟨fun h=>by
   rcases h with h|rfl
   ·exact(hTn x y hx).1 h
   ·exact(hTn x y hx).2 du,fun h=>(hTn x y hx).2 (by simp[h])⟩) hF2 Mp Oo XM
  refine⟨F',cV,m',hF',AO,hg1.trans Mo,akQ.iff fun x=>by simp only[aL];exact⟨fun h=>h.elim (fun h=>h.elim .inl fun h=> .inr (.inl h)) fun h=> .inr (.inr h),fun h=>h.elim (fun h=> .inl (.inl h)) fun h=>h.elim (fun h=> .inl (.inr h)) .inr⟩,
   fun j hj OD=>by rw[Zz j (fun h=>hj (by simp[h])) OD,ag9 j (fun h=>hj (by simp[h])) OD],fun x=>if x=i then tm else sM x,fun x=>if x=i then v else vI x,fun x hx=>?_,fun x hx β jc=>?_,fun x hx y hy Eh β jc mM=>?_⟩
  ·rcases aL.1 hx with rfl|Vy
   ·simp only[if_true];refine⟨⟨o,ho,nE,fun j want hg=>let⟨g,h1,h2,_⟩:=jK j want hg;⟨g,h1,h2⟩,fun d hd cB=>Oq d (by rw[ed];exact hd) cB,?_⟩,Jr⟩;rcases eZ with h|⟨h1,h2,h3,h4⟩
    ·exact .inl h
    ·have cB:gV ops bD (aE ops) x=true->nt+x<512:=fun hc=>by
      rw[bj hc]at Rd;obtain⟨_,_,Zp⟩:=kO Rd;obtain⟨_,_,_,_,_,s2,_⟩:=pk Zp Mq;exact s2
     refine .inr ⟨h1,h2.grow Oo Mo,h3,fun hc=>⟨cB hc,m1,Oo,Mo.fr.w.mv,h2,?_⟩⟩;rw[Zz x ZE (cB hc)];exact Mi hc h1
   ·have dQ:x≠i:=fun h=>ZE (h▸Vy)
    simp only[dQ,if_false];exact hp x Vy
  ·rcases aL.1 hx with rfl|Vy
   ·simp only[if_true]at jc;obtain⟨o2,mk,kb,ZA,AK,hvm,Ad⟩:=jc;rw[ho]at ZA;cases ZA;rcases eZ with⟨h1,_⟩|⟨_,_,_,h4⟩
    ·rw[h1]at Ad;cases Ad
    ·rw[AK.op m]at h4;simp only[ah,au]at h4;have e1:mV v=some m.next:=by rw[<-h4.1];exact mJ AK.form _
     have e2:mV v=some β:=by rw[hvm];exact mJ AK.form _
     rw[e1]at e2;cases e2;refine⟨aj _,?_⟩;have :=Mo.next;have h5:m1.next=m.next+1:=by rw[<-h4.2];rfl
     omega
   ·have dQ:x≠i:=fun h=>ZE (h▸Vy)
    simp only[dQ,if_false]at jc;have :=hm1 x Vy β jc;have :=hg1.next;omega
  ·
   have ahA:∀z∈L,∀β,tn P ops z (sM z) (vI z) β->m1.next<=β:=fun z hz β jc=>(hm1 z hz β jc).1
   have TX:∀β,tn P ops i tm v β->β<m1.next:=fun β jc=>by
    obtain⟨o2,mk,kb,ZA,AK,hvm,Ad⟩:=jc;rw[ho]at ZA;cases ZA;rcases eZ with⟨h1,_⟩|⟨_,_,_,h4⟩
    ·rw[h1]at Ad;cases Ad
    ·rw[AK.op m]at h4;simp only[ah,au]at h4;have e1:mV v=some m.next:=by rw[<-h4.1];exact mJ AK.form _
     have e2:mV v=some β:=by rw[hvm];exact mJ AK.form _
     rw[e1]at e2;cases e2;have h5:m1.next=m.next+1:=by rw[<-h4.2];rfl
     omega
   rcases aL.1 hx with hxe|Vy<;>rcases aL.1 hy with hye|hyL
   ·exact Eh (hxe.trans hye.symm)
   ·have dQ:y≠i:=fun h=>ZE (h▸hyL)
    simp only[hxe,if_true]at jc;simp only[dQ,if_false]at mM;have :=ahA y hyL β mM;have :=TX β jc;omega
   ·have dQ:x≠i:=fun h=>ZE (h▸Vy)
    simp only[dQ,if_false]at jc;simp only[hye,if_true]at mM;have :=ahA x Vy β jc;have :=TX β mM;omega
   ·have h1:x≠i:=fun h=>ZE (h▸Vy)
    have h2:y≠i:=fun h=>ZE (h▸hyL)
    simp only[h1,if_false]at jc;simp only[h2,if_false]at mM;exact yC x Vy y hyL Eh β jc mM
end
end Go.AM
namespace Go.AM
open Go Go.Conc
section
variable {P:aC}{X:Ext}{main:Bool}{J:JT}{F:Mem->Mem->Prop}{ops:Array gK}{bD:Array Nat}{nt:Nat}{call:cE}{r:Ss}{lr:Tm}
theorem Db {T:List mX}:∀{C:List Nat}{F:im}{tm:Tm}{m:Mem}{df:Df},g9 P nt ops ((C.map fun i=>((2,i,nt+i):mX))++T)=some F->F call tm m df=some r->
  ∃F',g9 P nt ops T=some F'/\F' call tm m df=some r/\∀i∈C,∃o x,ops[i]?=some o/\mD o=some x/\(cY ops o tm=true->xA (dj (nt+i) tm) (jj m (dz tm x))=true/\
   (looks o=true->(dE P (dz tm) o m).isSome=true)/\(looks o=false->∀b,mV (dz tm x)=some b->m.floor<=b))
 | [],F,tm,m,df,h,hf=>⟨F,h,hf,du⟩
 |i::C,F,tm,m,df,h,hf=>by
  obtain⟨F1,h1,ht⟩:=kO h;obtain⟨o,x,ho,hx,Mq,hc⟩:=pk ht hf;obtain⟨F',g1,g2,g3⟩:=Db h1 Mq;refine⟨F',g1,g2,fun j hj=>?_⟩;rcases aL.1 hj with rfl|hj
  ·exact⟨o,x,ho,hx,hc⟩
  ·exact g3 j hj
theorem Ey.grow{i:Nat}{EH:Tm}{v:ae}{m m':Mem}{tm cV:Tm}(h:Ey P ops bD nt r lr i EH v m tm)(hw:Wf m)(g:kB m m')(ht:nt+i<512->dj (nt+i) cV=dj (nt+i) tm):Ey P ops bD nt r lr i EH v m' cV:=by
 obtain⟨⟨o,h1,h2,h3,h4,h5⟩,h6⟩:=h;refine⟨⟨o,h1,h2,h3,h4,h5.imp id ?_⟩,h6⟩;rintro⟨g1,g2,g3,g4⟩;refine⟨g1,g2.grow hw g,g3,fun hc=>?_⟩;obtain⟨k1,m₁,k2,k3,k4,k5⟩:=g4 hc;exact⟨k1,m₁,k2,k3.trans g.fr.w.mv,k4,by rw[ht k1];exact k5⟩
theorem Ey.adk(R:lh ops bD nt){i:Nat}{EH:Tm}{v:ae}{m m':Mem}{tm cV:Tm}{S:Nat->Prop}(h:Ey P ops bD nt r lr i EH v m tm)(hm:Mv m m')(ht:nt+i<512->dj (nt+i) cV=dj (nt+i) tm)
  (hex:Ex ops nt r lr S cV)(hS:S i)(Ui:∀j,B bD i j->S j)
  (hc:gV ops bD (aE ops) i=true->∃o x,ops[i]?=some o/\mD o=some x/\(cY ops o cV=true->xA (dj (nt+i) cV) (jj m' (dz cV x))=true/\
   (looks o=true->(dE P (dz cV) o m').isSome=true)/\(looks o=false->∀b,mV (dz cV x)=some b->m'.floor<=b)))
  (cB:cX bD (aE ops) i<qZ bD (aE ops) i):Ey P ops bD nt r lr i EH v m' cV:=by
 obtain⟨⟨o,h1,h2,h3,h4,h5⟩,h6⟩:=h;refine⟨⟨o,h1,h2,h3,h4,h5.imp id ?_⟩,h6⟩;rintro⟨g1,g2,g3,g4⟩;cases hk:fH o with
 |false=>
  have hnc:gV ops bD (aE ops) i=false:=by
   show(Nat.blt _ _&&(ops[i]?).any fH)=false
   rw[h1];simp[hk]
  exact⟨g1,.pure (g3 hk),fun _=>g3 hk,fun hc=>by rw[hnc]at hc;cases hc⟩
 |true=>
  have Ra:gV ops bD (aE ops) i=true:=by
   show(Nat.blt _ _&&(ops[i]?).any fH)=true
   rw[h1];simp[hk,j3,cB]
  obtain⟨o',x,pW,hx,acr⟩:=hc Ra;rw[h1]at pW;cases pW;obtain⟨k1,m₁,k2,k3,k4,k5⟩:=g4 Ra;have eF:∀t∈ko ops o,t<nt->dj t EH=dj t cV:=fun t ht cB=>by
   by_cases hw:∃j,dA ops j=some t
   ·obtain⟨j,hj⟩:=hw;have hb:=R.steady i Ra o h1 t ht j hj;rw[(h6 o h1 t ht cB).1 j hb hj,(hex t cB).1 j (Ui j hb) hj]
   ·have hn:∀j,dA ops j≠some t:=fun j hj=>hw ⟨j,hj⟩
    rw[(h6 o h1 t ht cB).2 fun j _=>hn j,(hex t cB).2 fun j _=>hn j]
  have dV:∀y∈o.op.operands,dz cV y=dz EH y:=fun y hy=>(OO eF h2.1 y hy).symm
  obtain⟨c1,c2,c3⟩:=acr (by rw[<-xh eF h3];exact g1);have ed:dA ops i=o.dst:=by unfold dA;rw[h1];rfl
  have hdv:∀d,o.dst=some d->dj d cV=v:=fun d hd=>by
   have cB:=R.ord.dst i o d h1 hd;rw[h4 d hd cB];exact(hex d cB).1 i hS (by rw[ed];exact hd)
  have Zk:dz cV x=jh o (dz EH) v:=(EF hx hdv).trans (EE dV v);rw[Zk,ht k1,k5]at c1;have hm1:=k3.trans hm;have j7:∀b,mV (jh o (dz EH) v)=some b->m'.blk b=m₁.blk b:=fun b hb=>(Lf k2 hm1 c1 hb).1
  refine⟨g1,k4.check hm1.next j7 (fun hl=>?_) (fun hl b hb=>?_),fun h=>(by cases h),fun _=>⟨k1,m₁,k2,hm1,k4,by rw[ht k1];exact k5⟩⟩
  ·rw[<-abh hl dV];exact c2 hl
  ·refine c3 hl b ?_;rw[Zk,Bs hl];exact hb
structure RT (nt:Nat)(ops:Array gK)(r:Ss)(lr:Tm)(ρ:dw)(D:Nat->Prop)(a:Act):Prop where
 size:a.tmps.size=nt
 done:∀t,t<nt->∀i,D i->dA ops i=some t->aQ ρ (dj t r.tm) (a.tmps.getD t undef)
 old:∀t,t<nt->(∀i,D i->dA ops i≠some t)->aQ ρ (dj t lr) (a.tmps.getD t undef)
theorem RT.jN{ρ bq:dw}{D:Nat->Prop}{a:Act}(h:RT nt ops r lr ρ D a)(hle:ρ.le bq):RT nt ops r lr bq D a:=
 ⟨h.size,fun t ht i hi hd=>(h.done t ht i hi hd).jN hle,fun t ht hn=>(h.old t ht hn).jN hle⟩
theorem RT.step{ρ:dw}{D:Nat->Prop}{a:Act}(R:lh ops bD nt)(h:RT nt ops r lr ρ D a){i:Nat}{o:gK}(ho:ops[i]?=some o){v v':ae}(hv:aQ ρ v v')(Oq:∀d,o.dst=some d->d<nt->v=dj d r.tm)(ds:List Deferred):
  RT nt ops r lr ρ (fun x=>D x\/x=i) (Act.put ⟨a.tmps,ds⟩ o.dst v'):=by
 have ed:dA ops i=o.dst:=by unfold dA;rw[ho];rfl
 obtain⟨p1,p2,p3⟩:=xD ⟨a.tmps,ds⟩ o.dst v';refine⟨p2.trans h.size,fun t ht j hj hd=>?_,fun t ht hn=>?_⟩
 ·rw[p3 t (by show t<a.tmps.size;rw[h.size];exact ht)]
  by_cases he:o.dst=some t
  ·rw[bj he,<-Oq t he ht];exact hv
  ·rw[bW he];rcases hj with hj|rfl
   ·exact h.done t ht j hj hd
   ·rw[ed]at hd;exact absurd hd he
 ·have he:o.dst≠some t:=by rw[<-ed];exact hn i (.inr rfl)
  rw[p3 t (by show t<a.tmps.size;rw[h.size];exact ht),bW he];exact h.old t ht fun j hj=>hn j (.inl hj)
theorem Ip (R:lh ops bD nt){ρ:dw}{D:Nat->Prop}{a:Act}{i:Nat}{YE:Tm}(hs:Seen ops bD nt r lr i YE)(h:RT nt ops r lr ρ D a)(h1:∀j,B bD i j->D j)(h2:∀j,D j->¬B bD j i){o:gK}(ho:ops[i]?=some o):
  ∀t∈ko ops o,t<nt->aQ ρ (dj t YE) (a.tmps.getD t undef):=by
 intro t ht cB
 by_cases hw:∃j,B bD i j/\dA ops j=some t
 ·obtain⟨j,hb,hd⟩:=hw;rw[(hs o ho t ht cB).1 j hb hd];exact h.done t cB j (h1 j hb) hd
 ·rw[(hs o ho t ht cB).2 fun j hb hd=>hw ⟨j,hb,hd⟩];refine h.old t cB fun j hj hd=>?_
  rcases R.aaA i j o t ho ht (MF hd) hd with hb|hb
  ·exact hw ⟨j,hb,hd⟩
  ·exact h2 j hj hb
theorem SA {E:Perm}{bl:ao}{σ:nz}{ρ:dw}{m:Mem}{w:ao}(H:dk P E bl σ ρ m w){a:Act}{YE:Tm}{o:gK}(h:∀t∈ko ops o,t<nt->aQ ρ (dj t YE) (a.tmps.getD t undef))(hg:∀x∈o.op.operands,rD nt P.globals.size x=true):
  ∀x∈o.op.operands,aQ ρ (dz YE x) (a.eval x):=by
 intro x hx;have hgx:=hg x hx;cases x with
 |tmp t=>
  simp only[rD,j3,iB]at hgx;exact h t (Nx hx) hgx
 |const v=>exact cj hgx
 |global g=>
  simp only[rD,j3,iB]at hgx;obtain⟨p,h1,h2,h3⟩:=H.nW g hgx;exact cP.2 ⟨p,h1,rfl,by rw[h2,h3];rfl⟩
 |func f=>exact fN.2 ⟨_,_,rfl,trivial,trivial⟩
theorem tA {ρ:dw}{a:Act}{YE:Tm}{o:gK}(h:∀t∈ko ops o,t<nt->aQ ρ (dj t YE) (a.tmps.getD t undef))(hg:∀j want,o.guard=some (j,want)->∃g,dA ops j=some g/\g<nt)(hs:a.tmps.size=nt):
  Region.wanted o (yielded ops a.tmps)=cY ops o YE:=
 vX (fun j want hj=>let⟨g,h1,h2⟩:=hg j want hj;⟨g,h1,h2,h g (BM hj h1) h2⟩) hs
end
end Go.AM
namespace Go.AM
open Go Go.Conc
section
variable {P:aC}{X:Ext}{main:Bool}{J:JT}{F:Mem->Mem->Prop}{ops:Array gK}{bD:Array Nat}{nt:Nat}{call:cE}{r:Ss}{lr:Tm}
def SS (ops:Array gK)(bD:Array Nat)(pre:List Nat)(i:Nat):Prop:=((∃o,ops[i]?=some o/\fx o=true)/\cX bD (aE ops) i<pre.length)\/i∈pre
theorem cp {s i:Nat}:i∈fV ops bD (aE ops) s↔(∃o,ops[i]?=some o/\fx o=true)/\cX bD (aE ops) i=s:=by
 unfold fV;rw[List.mem_filter,List.mem_range]
 constructor
 ·rintro⟨h1,h2⟩;simp only[ag,beq_iff_eq,Array.getElem?_eq_getElem h1]at h2;exact⟨⟨_,Array.getElem?_eq_getElem h1,by simpa using h2.1⟩,h2.2⟩
 ·rintro⟨⟨o,ho,hl⟩,h2⟩;exact⟨dH ho,by simp[ho,hl,h2]⟩
theorem PW {pre rest:List Nat}{h:Nat}(hh:aE ops=pre++h::rest):(aE ops)[pre.length]?=some h:=by rw[hh];simp
theorem Cu (R:lh ops bD nt){pre rest:List Nat}(hh:aE ops=pre++rest):Lin ops bD (SS ops bD pre) (fV ops bD (aE ops) pre.length):=by
 have sP:(fV ops bD (aE ops) pre.length).Pairwise (·< ·):=List.Pairwise.filter _ List.pairwise_lt_range;have lQ:∀i∈fV ops bD (aE ops) pre.length,(∃o,ops[i]?=some o/\fx o=true)/\cX bD (aE ops) i=pre.length:=fun i hi=>cp.1 hi
 have JC:∀j,(∃o,ops[j]?=some o/\fx o=true)->cX bD (aE ops) j=pre.length->j∈fV ops bD (aE ops) pre.length:=fun j h1 h2=>cp.2 ⟨h1,h2⟩
 have wD:∀j,j∈pre->∃k,k<pre.length/\(aE ops)[k]?=some j:=fun j hj=>by
  obtain⟨k,hk,rfl⟩:=List.mem_iff_getElem.1 hj;exact⟨k,hk,by rw[hh,List.getElem?_append_left hk];exact List.getElem?_eq_getElem hk⟩
 have Mw:∀i∈fV ops bD (aE ops) pre.length,∀j,B bD i j->SS ops bD pre j\/(j∈fV ops bD (aE ops) pre.length/\j<i):=by
  intro i hi j hb;obtain⟨⟨o,ho,hl⟩,hf⟩:=lQ i hi;have hil:=dH ho;have hji:=R.ord.lt hil hb;have sQ:ops[j]?=some ops[j]:=Array.getElem?_eq_getElem ai;cases OA:fx ops[j]with
  |true=>
   have hle:=R.zk hil hb;rcases Nat.lt_or_ge (cX bD (aE ops) j) pre.length with h1|h1
   ·exact .inl (.inl ⟨⟨_,sQ,OA⟩,h1⟩)
   ·exact .inr ⟨JC j ⟨_,sQ,OA⟩ ai,hji⟩
  |false=>
   have hm:j∈aE ops:=fJ.2 ⟨_,sQ,OA⟩;obtain⟨k,hk⟩:=List.mem_iff_getElem?.1 hm;have XE:=(R.pM hil hk).1 hb;rw[hf]at XE;rw[hh,List.getElem?_append_left XE]at hk;exact .inl (.inr (List.mem_of_getElem? hk))
 have aca:∀i∈fV ops bD (aE ops) pre.length,¬SS ops bD pre i:=by
  intro i hi;obtain⟨⟨o,ho,hl⟩,hf⟩:=lQ i hi;rintro(⟨_,h⟩|h)
  ·omega
  ·obtain⟨o',pW,Ag⟩:=fJ.1 (show i∈aE ops by rw[hh];exact List.mem_append_left _ h);rw[ho]at pW;cases pW;rw[hl]at Ag;cases Ag
 have Ai:∀i∈fV ops bD (aE ops) pre.length,∀j,SS ops bD pre j->¬B bD j i:=by
  intro i hi j hj hb;obtain⟨⟨o,ho,hl⟩,hf⟩:=lQ i hi;rcases hj with⟨⟨o',pW,_⟩,cB⟩|hj
  ·have :=R.zk (dH pW) hb;omega
  ·obtain⟨k,hk,Mn⟩:=wD j hj;have h1:=(R.xp Mn).1 hb;have :=R.Fj (dH ho);omega
 generalize hL:fV ops bD (aE ops) pre.length=L at*;have key:∀(M L':List Nat),L=M++L'->Lin ops bD (fun x=>SS ops bD pre x\/x∈M) L':=by
  intro M L'
  induction L' generalizing M with
  |nil=>intro _;trivial
  |cons i L' ih=>
   intro e;have hi:i∈L:=by rw[e];simp
   have cB:∀x∈M,x<i:=fun x hx=>by
    rw[e]at sP;exact(List.pairwise_append.1 sP).2.2 x hx i du
   have hgt:∀x∈L',i<x:=fun x hx=>by
    rw[e]at sP;exact(List.pairwise_cons.1 (List.pairwise_append.1 sP).2.1).1 x hx
   refine⟨fun j hb=>?_,fun j hj hb=>?_,?_,(lQ i hi).1,?_⟩
   ·rcases Mw i hi j hb with h|⟨h,hji⟩
    ·exact .inl h
    ·rw[e]at h;rcases List.mem_append.1 h with h|h
     ·exact .inr h
     ·rcases aL.1 h with rfl|h
      ·omega
      ·have :=hgt j h;omega
   ·rcases hj with hj|hj
    ·exact Ai i hi j hj hb
    ·have h1:=cB j hj;obtain⟨⟨o',pW,_⟩,_⟩:=lQ j (by rw[e];simp[hj]);have :=R.ord.lt (dH pW) hb;omega
   ·rintro(h|h)
    ·exact aca i hi h
    ·have :=cB i h;omega
   ·have :=ih (M++[i]) (by rw[e];simp);have e2:(fun x=>SS ops bD pre x\/x∈M++[i])=fun x=>(SS ops bD pre x\/x∈M)\/x=i:=by
     funext x
     simp only[List.mem_append,List.mem_singleton,or_assoc]
    rw[e2]at this;exact this
 have :=key [] L rfl;simpa using this
theorem BH:∀{rest pre:List Nat},aE ops=pre++rest->∀x y,((0,x,y):mX)∈mZ ops bD (aE ops) nt pre.length rest->(x∈rest\/((∃o,ops[x]?=some o/\fx o=true)/\pre.length<=cX bD (aE ops) x)):=by
 have fp:∀s x y,((0,x,y):mX)∈F9 ops bD (aE ops) nt s->(∃o,ops[x]?=some o/\fx o=true)/\cX bD (aE ops) x=s:=by
  intro s x y h;unfold F9 at h;obtain⟨z,hz,h⟩:=List.mem_flatMap.1 h;have e:x=z:=by
   split at h
   ·simp at h;exact h.1
   ·simp at h;exact h.1
  subst e;exact cp.1 hz
 intro rest
 induction rest with
 |nil=>
  intro pre hh x y h;unfold mZ at h;obtain⟨h1,h2⟩:=fp _ _ _ h;exact .inr ⟨h1,ai⟩
 |cons a rest ih=>
  intro pre hh x y h;unfold mZ at h;rcases List.mem_append.1 h with h|h
  ·obtain⟨h1,h2⟩:=fp _ _ _ h;exact .inr ⟨h1,ai⟩
  ·rcases aL.1 h with h|h
   ·cases h;exact .inl du
   ·rcases List.mem_append.1 h with h|h
    ·unfold u4 at h;obtain⟨z,_,e⟩:=List.mem_map.1 h;cases e
    ·have :=ih (pre:=pre++[a]) (by rw[hh];simp) x y (by simpa using h);rcases this with h|⟨h1,h2⟩
     ·exact .inl (by simp[h])
     ·exact .inr ⟨h1,by simp at h2;omega⟩
structure O' (P:aC)(ops:Array gK)(bD:Array Nat)(nt:Nat)(r:Ss)(lr:Tm)(s pQ:Nat)(sM:Nat->Tm)(vI:Nat->ae)(m:Mem)(tm:Tm):Prop where
 pend:∀i,(∃o,ops[i]?=some o/\fx o=true)->cX bD (aE ops) i<s->s<=qZ bD (aE ops) i->Ey P ops bD nt r lr i (sM i) (vI i) m tm
 made:∀i,(∃o,ops[i]?=some o/\fx o=true)->cX bD (aE ops) i<s->∀β,tn P ops i (sM i) (vI i) β->pQ<=β/\β<m.next
 apart:∀i j,(∃o,ops[i]?=some o/\fx o=true)->(∃o,ops[j]?=some o/\fx o=true)->cX bD (aE ops) i<s->cX bD (aE ops) j<s->i≠j->∀β,tn P ops i (sM i) (vI i) β->¬tn P ops j (sM j) (vI j) β
def ve (P:aC)(J:JT)(ops:Array gK)(bD:Array Nat)(nt:Nat)(r:Ss)(lr:Tm)(pQ:Nat)(pre rest:List Nat)(sM:Nat->Tm)(vI:Nat->ae)(gq:Nat)(m:Mem)(df:Df)(c:Nat):Prop:=
 ∀{E:Perm}{bl:ao}{σ:nz}{ρ:dw}{w:ao}{b:Frame}{a:Act}{k:List Item}{cs:List Frame}{l:List Nat}{D:Nat->Prop}{n:Nat},b.kind≠ .early->jW ops bD D l->
  (∀h∈pre,D h)->(∀h∈rest,¬D h)->dk P E bl σ ρ m w->RT nt ops r lr ρ D a->bH (yz ρ) df a.defers->
  (∀i,(∃o,ops[i]?=some o/\fx o=true)->cX bD (aE ops) i<gq->¬D i->∀β,tn P ops i (sM i) (vI i) β->ρ β=none)->
  (∀gj bq w' a',ρ.le bq->(∀b,b<pQ->bq b=ρ b)->dk P E bl gj bq r.mem w'->tq nt bq r.tm r.df a'->J gj n ((ax bq r.mem).or E) (G (b.at a' (.inRegion ops []::k)) cs) w')->
  J σ (n+c+l.length) ((ax ρ m).or E) (G (b.at a (.inRegion ops l::k)) cs) w
theorem xg (hJ:∀σ,fY P main (J σ))(hX:qd P X)(R:lh ops bD nt){pre rest:List Nat}(hh:aE ops=pre++rest){pQ:Nat}{sM:Nat->Tm}{vI:Nat->ae}{m:Mem}{tm:Tm}{df:Df}{c:Nat}(hN:pQ<=m.next)
  (hp:O' P ops bD nt r lr (pre.length+1) pQ sM vI m tm\/True)(Ow:∀i,(∃o,ops[i]?=some o/\fx o=true)->cX bD (aE ops) i<=pre.length->pre.length<=qZ bD (aE ops) i->Ey P ops bD nt r lr i (sM i) (vI i) m tm)
  (Fa:∀i,(∃o,ops[i]?=some o/\fx o=true)->cX bD (aE ops) i<=pre.length->∀β,tn P ops i (sM i) (vI i) β->pQ<=β/\β<m.next)
  (G9:∀i j,(∃o,ops[i]?=some o/\fx o=true)->(∃o,ops[j]?=some o/\fx o=true)->cX bD (aE ops) i<=pre.length->cX bD (aE ops) j<=pre.length->i≠j->∀β,tn P ops i (sM i) (vI i) β->¬tn P ops j (sM j) (vI j) β)
  (G6:rest=[]->∀{E:Perm}{bl:ao}{σ:nz}{ρ:dw}{w:ao}{b:Frame}{a:Act}{k:List Item}{cs:List Frame}{D:Nat->Prop}{n:Nat},b.kind≠ .early->jW ops bD D []->dk P E bl σ ρ m w->RT nt ops r lr ρ D a->bH (yz ρ) df a.defers->
   (∀gj bq w' a',ρ.le bq->(∀b,b<pQ->bq b=ρ b)->dk P E bl gj bq r.mem w'->tq nt bq r.tm r.df a'->J gj n ((ax bq r.mem).or E) (G (b.at a' (.inRegion ops []::k)) cs) w')->
   J σ n ((ax ρ m).or E) (G (b.at a (.inRegion ops []::k)) cs) w)
  (acm:∀h sN,rest=h::sN->∀{E:Perm}{bl:ao}{σ:nz}{ρ:dw}{w:ao}{b:Frame}{a:Act}{k:List Item}{cs:List Frame}{l:List Nat}{D:Nat->Prop}{n:Nat},b.kind≠ .early->jW ops bD D (h::l)->
   (∀h∈pre,D h)->(∀h∈rest,¬D h)->dk P E bl σ ρ m w->RT nt ops r lr ρ D a->bH (yz ρ) df a.defers->
   (∀i,(∃o,ops[i]?=some o/\fx o=true)->cX bD (aE ops) i<=pre.length->¬D i->∀β,tn P ops i (sM i) (vI i) β->ρ β=none)->
   (∀gj bq w' a',ρ.le bq->(∀b,b<pQ->bq b=ρ b)->dk P E bl gj bq r.mem w'->tq nt bq r.tm r.df a'->J gj n ((ax bq r.mem).or E) (G (b.at a' (.inRegion ops []::k)) cs) w')->
   J σ (n+c+(l.length+1)) ((ax ρ m).or E) (G (b.at a (.inRegion ops (h::l)::k)) cs) w):
  ve P J ops bD nt r lr pQ pre rest sM vI (pre.length+1) m df c:=by
 intro E bl σ ρ w b a k cs l
 induction l generalizing σ ρ w a with
 |nil=>
  intro D n hk hl wD gS H E9 vt AK rC;have hr0:rest=[]:=by
   cases hr:rest with
   |nil=>rfl
   |cons h sN=>
    exfalso
    have hm:h∈aE ops:=by rw[hh,hr];simp
    obtain⟨o,ho,_⟩:=fJ.1 hm;rcases hl.all h (dH ho)with h1|h1
    ·exact gS h (by rw[hr];simp) h1
    ·cases h1
  exact(hJ σ).le (show n<=n+c+0 by omega) (G6 hr0 hk hl H E9 vt rC)
 |cons i l ih=>
  intro D n hk hl wD gS H E9 vt AK rC;obtain⟨d1,d2,d3,d4⟩:=hl.head;have hoi:ops[i]?=some ops[i]:=Array.getElem?_eq_getElem d3;have Ai:∀j,D j->¬B bD j i:=fun j hj hb=>d2 (hl.down j hj i hb)
  cases hli:fx ops[i]with
  |false=>
   have hm:i∈aE ops:=fJ.2 ⟨_,hoi,hli⟩;rw[hh]at hm;rcases List.mem_append.1 hm with hm|hm
   ·exact absurd (wD i hm) d2
   ·cases hr:rest with
    |nil=>rw[hr]at hm;cases hm
    |cons h sN=>
     have hih:i=h:=by
      rw[hr]at hm;rcases aL.1 hm with e|hm
      ·exact e
      ·exfalso
       obtain⟨q,hq⟩:=List.mem_iff_getElem?.1 hm;have h1:(aE ops)[pre.length]?=some h:=by rw[hh,hr];simp
       have h2:(aE ops)[pre.length+1+q]?=some i:=by
        rw[hh,hr,List.getElem?_append_right ai,show pre.length+1+q-pre.length=q+1 by omega];simpa using hq
       have hb:=R.chain pre.length (pre.length+1+q) h i ai h1 h2;exact gS h (by rw[hr];simp) (d1 h hb)
     subst hih;exact acm i sN hr hk hl wD (by rw[hr]at gS⊢;exact gS) H E9 vt (fun j h1 h2 h3=>AK j h1 ai h3) rC
  |true=>
   have jd:∃o,ops[i]?=some o/\fx o=true:=⟨_,hoi,hli⟩;have Uf:cX bD (aE ops) i<=pre.length:=by
    rcases Nat.lt_or_ge pre.length (cX bD (aE ops) i)with h1|h1
    ·exfalso
     have hle:cX bD (aE ops) i<=(aE ops).length:=List.length_filter_le _ _;have hx:=List.getElem?_eq_getElem (show pre.length<(aE ops).length by omega);have hb:=(R.pM d3 hx).2 h1;have zg:(aE ops)[pre.length]∈rest:=by
      have e:(aE ops)[pre.length]?=rest[0]?:=by rw[hh,List.getElem?_append_right (aj _),Nat.sub_self]
      rw[hx]at e;exact List.mem_of_getElem? e.symm
     exact gS _ zg (d1 _ hb)
    ·exact h1
   have agV:pre.length<=qZ bD (aE ops) i:=by
    rcases Nat.lt_or_ge (qZ bD (aE ops) i) pre.length with h1|h1
    ·exfalso
     have hq:∀(q:Nat) (hq:q<pre.length),(aE ops)[q]?=some pre[q]:=fun q hq=>by rw[hh,List.getElem?_append_left hq];exact List.getElem?_eq_getElem hq
     have hx:=hq _ h1;have hb:=(R.xp hx).2 (aj _);exact Ai _ (wD _ (List.getElem_mem h1)) hb
    ·exact h1
   obtain⟨⟨o,ho,nE,jK,CG,dS⟩,Jr⟩:=Ow i jd Uf agV;have Xr:=Ip R Jr E9 d1 Ai ho;have tY:=tA Xr jK E9.size;have ahb:=SA H Xr nE.1;have Ae:∀{bq:dw}{v':ae}{w':ao},ρ.le bq->(∀b,b<m.next->(∀β,tn P ops i (sM i) (vI i) β->b≠β)->bq b=ρ b)->dk P E bl σ bq m w'->aQ bq (vI i) v'->
     J σ (n+c+l.length) ((ax bq m).or E) (G (b.at (a.put o.dst v') (.inRegion ops l::k)) cs) w':=by
    intro bq v' w' hle hold H' hv;refine ih (D:=fun x=>D x\/x=i) hk d4 (fun h hm=> .inl (wD h hm)) (fun h hm hd=>?_) H' ((E9.jN hle).step R ho hv CG a.defers) (by rw[(xD a o.dst v').1];exact vt.mono fun _ _ x=>x.jN hle) (fun j h1 h2 h3 β jc=>?_) (fun gj fg ix MZ nT kD=>rC gj fg ix MZ (dw.le_trans hle nT) fun b hb=>?_)
    ·rcases hd with hd|rfl
     ·exact gS h hm hd
     ·obtain⟨o',pW,Ag⟩:=fJ.1 (show h∈aE ops by rw[hh];exact List.mem_append_right _ hm);rw[hoi]at pW;cases pW;rw[hli]at Ag;cases Ag
    ·rw[hold β (Fa j h1 ai β jc).2 fun FO mM e=>?_]
     ·exact AK j h1 h2 (fun hd=>h3 (.inl hd)) β jc
     ·subst e;exact G9 i j jd h1 Uf ai (fun e=>h3 (.inr e.symm)) β mM jc
    ·rw[kD b hb,hold b ai fun β jc e=>by have :=(Fa i jd Uf β jc).1;omega]
   rcases dS with⟨DL,hvu⟩|⟨Ad,ach,_,_⟩
   ·refine(hJ σ).le (show(n+c+l.length)+1<=n+c+(l.length+1) by omega) ?_;refine qG (hJ σ) ho (tY.trans DL) fun aN jJ=>?_
    exact Ae (dw.le_refl ρ) (fun _ _ _=>rfl) (H.keeps jJ) (by rw[hvu];exact mE)
   ·refine(hJ σ).le (show(n+c+l.length)+1<=n+c+(l.length+1) by omega) ?_;have TV:dE P (dz (sM i)) o m=some (vI i,m)->J σ (n+c+l.length+1) ((ax ρ m).or E) (G (b.at a (.inRegion ops (i::l)::k)) cs) w:=fun dC=>
     AY (hJ σ) ho (tY.trans Ad) hk H ahb dC fun bq v' w' hle hold H' hv=>Ae hle (fun b hb _=>hold b hb) H' hv
    cases ach with
    |pure h=>exact TV (h m)
    |look _ h=>exact TV h
    |make mk kb β hm hv cB OH hb=>
     have hmo:tn P ops i (sM i) (vI i) β:=⟨o,mk,kb,ho,hm,hv,Ad⟩;refine P3 hJ ho (tY.trans Ad) hk H ahb hm (AK i jd ai d2 β hmo) cB OH hb fun bq v' w' hle hold H' Oq=>Ae hle (fun b nN nU=>hold b nN (nU β hmo)) H' (by rw[hv];exact Oq)
end
end Go.AM
namespace Go.AM
open Go Go.Conc
section
variable {P:aC}{X:Ext}{main:Bool}{J:JT}{F:Mem->Mem->Prop}{ops:Array gK}{bD:Array Nat}{nt:Nat}{call:cE}{r:Ss}{lr:Tm}
theorem kE {i:Nat}(h:i∈aE ops):¬∃o,ops[i]?=some o/\fx o=true:=by
 rintro⟨o,ho,hl⟩;obtain⟨o',pW,Ag⟩:=fJ.1 h;rw[ho]at pW;cases pW;rw[hl]at Ag;cases Ag
theorem Gq {pre rest:List Nat}(hh:aE ops=pre++rest){x:Nat}(hx:x∈rest):x∉pre:=by
 intro hp;have :=CR (ops:=ops);rw[hh]at this;have :=(List.pairwise_append.1 this).2.2 x hp x hx;omega
theorem Lh {pre rest:List Nat}(hh:aE ops=pre++rest){x:Nat}(hx:x∈rest):¬SS ops bD pre x:=by
 rintro(⟨h,_⟩|h)
 ·exact kE (by rw[hh];exact List.mem_append_right _ hx) h
 ·exact Gq hh hx h
theorem V8 (R:lh ops bD nt){pre rest:List Nat}(hh:aE ops=pre++rest){i:Nat}(hl:∃o,ops[i]?=some o/\fx o=true)(hf:cX bD (aE ops) i<pre.length):∀j,B bD i j->SS ops bD pre j:=by
 intro j hb;obtain⟨o,ho,_⟩:=hl;have hi:=dH ho;have hji:=R.ord.lt hi hb;have sQ:ops[j]?=some ops[j]:=Array.getElem?_eq_getElem ai;cases OA:fx ops[j]with
 |true=>
  have :=R.zk hi hb;exact .inl ⟨⟨_,sQ,OA⟩,ai⟩
 |false=>
  obtain⟨q,hq⟩:=List.mem_iff_getElem?.1 (fJ.2 ⟨_,sQ,OA⟩);have h1:=(R.pM hi hq).1 hb;rw[hh,List.getElem?_append_left ai]at hq;exact .inr (List.mem_of_getElem? hq)
set_option maxHeartbeats 1000000 in
theorem Lg(hJ:∀σ,fY P main (J σ))(hX:qd P X)(hF:wX F)(C:fT P X main J F call)(R:lh ops bD nt){pQ:Nat}:∀{rest pre:List Nat}{tm:Tm}{m:Mem}{df:Df}{F0:im}{sM:Nat->Tm}{vI:Nat->ae},aE ops=pre++rest->
  g9 P nt ops (mZ ops bD (aE ops) nt pre.length rest)=some F0->F0 call tm m df=some r->Wf m->Ex ops nt r lr (SS ops bD pre) tm->pQ<=m.next->O' P ops bD nt r lr pre.length pQ sM vI m tm->
  F m r.mem/\∃c,ve P J ops bD nt r lr pQ pre rest sM vI pre.length m df c:=by
 intro rest
 induction rest with
 |nil=>
  intro pre tm m df F0 sM vI hh hT hf hw hex hN hp;unfold mZ at hT;obtain⟨F1,K7,m1,Rd,Mq,hg,Mr,wY,tmL,vL,q1,q2,q3⟩:=wu (P:=P) (call:=call) R (T:=[]) (Cu R hh) (fun x y h=>by cases h) (by rw[List.append_nil];exact hT) hf hw hex;unfold g9 at Rd;cases Rd;unfold X6 at Mq;simp only[ah]at Mq;refine⟨hF.fr (by rw[<-Mq];exact hg.fr.w),0,?_⟩;have Mg:ve P J ops bD nt r lr pQ pre [] (fun i=>if cX bD (aE ops) i=pre.length then tmL i else sM i) (fun i=>if cX bD (aE ops) i=pre.length then vL i else vI i) (pre.length+1) m1 df 0:=xg (P:=P) (J:=J) (c:=0) (df:=df) (r:=r) (lr:=lr) (tm:=K7) hJ hX R hh (pQ:=pQ) (sM:=fun i=>if cX bD (aE ops) i=pre.length then tmL i else sM i) (vI:=fun i=>if cX bD (aE ops) i=pre.length then vL i else vI i)
   (bV hN hg.next) (.inr trivial)
   (fun i h1 h2 h3=>by
    by_cases he:cX bD (aE ops) i=pre.length
    ·simp only[he,if_true];exact q1 i (cp.2 ⟨h1,he⟩)
    ·simp only[he,if_false];exact(hp.pend i h1 ai h3).grow hw hg (wY i fun hm=>he (cp.1 hm).2))
   (fun i h1 h2 β jc=>by
    by_cases he:cX bD (aE ops) i=pre.length
    ·simp only[he,if_true]at jc;have :=q2 i (cp.2 ⟨h1,he⟩) β jc;omega
    ·simp only[he,if_false]at jc;have :=hp.made i h1 ai β jc;have :=hg.next;omega)
   (fun i j h1 h2 h3 h4 jq β jc mM=>by
    by_cases he:cX bD (aE ops) i=pre.length<;>by_cases G7:cX bD (aE ops) j=pre.length
    ·simp only[he,if_true]at jc;simp only[G7,if_true]at mM;exact q3 i (cp.2 ⟨h1,he⟩) j (cp.2 ⟨h2,G7⟩) jq β jc mM
    ·simp only[he,if_true]at jc;simp only[G7,if_false]at mM;have :=q2 i (cp.2 ⟨h1,he⟩) β jc;have :=hp.made j h2 ai β mM;omega
    ·simp only[he,if_false]at jc;simp only[G7,if_true]at mM;have :=q2 j (cp.2 ⟨h2,G7⟩) β mM;have :=hp.made i h1 ai β jc;omega
    ·simp only[he,if_false]at jc;simp only[G7,if_false]at mM;exact hp.apart i j h1 h2 ai ai jq β jc mM)
   (fun _ {E bl σ ρ w b a k cs D n} hk hl H E9 vt rC=>by
    have e:r.mem=m1:=by rw[<-Mq]
    have ed:r.df=df:=by rw[<-Mq]
    have et:r.tm=K7:=by rw[<-Mq]
    have :=rC σ ρ w a (dw.le_refl _) (fun _ _=>rfl) (by rw[e];exact H) ⟨E9.size,fun t ht=>by
     by_cases hw:∃i,dA ops i=some t
     ·obtain⟨i,hi⟩:=hw;refine E9.done t ht i ?_ hi;rcases hl.all i (MF hi)with h|h
      ·exact h
      ·cases h
     ·have hn:∀i,dA ops i≠some t:=fun i hi=>hw ⟨i,hi⟩
      rw[et,(Mr t ht).2 fun i _=>hn i];exact E9.old t ht fun i _=>hn i,by rw[ed];exact vt⟩
    rw[e]at this;exact this)
   (fun h sN e=>by cases e)
  intro E bl σ ρ w b a k cs l D n hk hl wD gS H E9 vt AK rC;obtain⟨H',mj⟩:=H.grow hg;rw[<-mj];refine Mg hk hl wD gS H' E9 vt (fun i h1 h2 h3 β jc=>?_) rC
  by_cases he:cX bD (aE ops) i=pre.length
  ·simp only[he,if_true]at jc;have :=q2 i (cp.2 ⟨h1,he⟩) β jc;cases hρ:ρ β with
   |none=>rfl
   |some p=>have :=H.jM.mo β p hρ;omega
  ·simp only[he,if_false]at jc;exact AK i h1 ai h3 β jc
 |cons h rest ih=>
  intro pre tm m df F0 sM vI hh hT hf hw hex hN hp;have hhm:h∈aE ops:=by rw[hh];simp
  have hhl:=kE hhm;have Ud:aE ops=(pre++[h])++rest:=by rw[hh];simp
  have dB:(pre++[h]).length=pre.length+1:=du;unfold mZ at hT;have hTn:∀x y,((0,x,y):mX)∈(0,h,1)::(u4 ops bD (aE ops) nt pre.length++mZ ops bD (aE ops) nt (pre.length+1) rest)->¬SS ops bD pre x/\x∉fV ops bD (aE ops) pre.length:=by
   intro x y hx;rcases aL.1 hx with e|hx
   ·cases e;exact⟨Lh hh du,fun hm=>hhl (cp.1 hm).1⟩
   ·rcases List.mem_append.1 hx with hx|hx
    ·unfold u4 at hx;obtain⟨z,_,e⟩:=List.mem_map.1 hx;cases e
    ·rw[<-dB]at hx;rcases BH Ud x y hx with hm|⟨h1,h2⟩
     ·exact⟨Lh hh (by simp[hm]),fun T6=>kE (by rw[Ud];exact List.mem_append_right _ hm) (cp.1 T6).1⟩
     ·refine⟨?_,fun hm=>by have :=(cp.1 hm).2;omega⟩;rintro(⟨_,h3⟩|h3)
      ·omega
      ·exact kE (by rw[hh];exact List.mem_append_left _ h3) h1
  obtain⟨F1,K7,m1,Rd,Mq,hg,Mr,wY,tmL,vL,q1,q2,q3⟩:=wu (P:=P) (call:=call) R (Cu R hh) hTn hT hf hw hex;have Oo:Wf m1:=hg.fr.2.2 hw;obtain⟨F2,hF2,Zp⟩:=kO Rd;obtain⟨QY,m2,df2,lY,Mp,hpd⟩:=pk Zp Mq
  replace hpd:=hpd eS
  obtain⟨F3,hF3,hf3,acr⟩:=Db hF2 Mp;obtain⟨vv,abV,sR⟩:=LC lY;obtain⟨o,ho,nE,jK,Ms⟩:=lY;have ed:dA ops h=o.dst:=by unfold dA;rw[ho];rfl
  generalize agU:(fun i=>if cX bD (aE ops) i=pre.length then tmL i else sM i)=Ia;generalize akn:(fun i=>if cX bD (aE ops) i=pre.length then vL i else vI i)=YA;have eT:∀i,Ia i=if cX bD (aE ops) i=pre.length then tmL i else sM i:=fun i=>by rw[<-agU]
  have eV:∀i,YA i=if cX bD (aE ops) i=pre.length then vL i else vI i:=fun i=>by rw[<-akn]
  have Ow:∀i,(∃o,ops[i]?=some o/\fx o=true)->cX bD (aE ops) i<=pre.length->pre.length<=qZ bD (aE ops) i->Ey P ops bD nt r lr i (Ia i) (YA i) m1 K7:=by
   intro i h1 h2 h3;rw[eT,eV]
   by_cases he:cX bD (aE ops) i=pre.length
   ·simp only[he,if_true];exact q1 i (cp.2 ⟨h1,he⟩)
   ·simp only[he,if_false];exact(hp.pend i h1 ai h3).grow hw hg (wY i fun hm=>he (cp.1 hm).2)
  have Fa:∀i,(∃o,ops[i]?=some o/\fx o=true)->cX bD (aE ops) i<=pre.length->∀β,tn P ops i (Ia i) (YA i) β->pQ<=β/\β<m1.next:=by
   intro i h1 h2 β jc;rw[eT,eV]at jc
   by_cases he:cX bD (aE ops) i=pre.length
   ·simp only[he,if_true]at jc;have :=q2 i (cp.2 ⟨h1,he⟩) β jc;omega
   ·simp only[he,if_false]at jc;have :=hp.made i h1 ai β jc;have :=hg.next;omega
  have G9:∀i j,(∃o,ops[i]?=some o/\fx o=true)->(∃o,ops[j]?=some o/\fx o=true)->cX bD (aE ops) i<=pre.length->cX bD (aE ops) j<=pre.length->i≠j->∀β,tn P ops i (Ia i) (YA i) β->¬tn P ops j (Ia j) (YA j) β:=by
   intro i j h1 h2 h3 h4 jq β jc mM;rw[eT,eV]at jc mM
   by_cases he:cX bD (aE ops) i=pre.length<;>by_cases G7:cX bD (aE ops) j=pre.length
   ·simp only[he,if_true]at jc;simp only[G7,if_true]at mM;exact q3 i (cp.2 ⟨h1,he⟩) j (cp.2 ⟨h2,G7⟩) jq β jc mM
   ·simp only[he,if_true]at jc;simp only[G7,if_false]at mM;have :=q2 i (cp.2 ⟨h1,he⟩) β jc;have :=hp.made j h2 ai β mM;omega
   ·simp only[he,if_false]at jc;simp only[G7,if_true]at mM;have :=q2 j (cp.2 ⟨h2,G7⟩) β mM;have :=hp.made i h1 ai β jc;omega
   ·simp only[he,if_false]at jc;simp only[G7,if_false]at mM;exact hp.apart i j h1 h2 ai ai jq β jc mM
  have hSh:¬(SS ops bD pre h\/h∈fV ops bD (aE ops) pre.length):=by
   rintro(h1|h1)
   ·exact Lh hh du h1
   ·exact hhl (cp.1 h1).1
  have Ub:(aE ops)[pre.length]?=some h:=PW hh;have ahm:h<ops.size:=dH ho;have Mw:∀j,B bD h j->SS ops bD pre j\/j∈fV ops bD (aE ops) pre.length:=by
   intro j hb;have hjh:=R.ord.lt ahm hb;have sQ:ops[j]?=some ops[j]:=Array.getElem?_eq_getElem ai;cases OA:fx ops[j]with
   |true=>
    have h1:=(R.xp Ub).1 hb;have h2:=R.Fj (i:=j) ai
    by_cases he:cX bD (aE ops) j=pre.length
    ·exact .inr (cp.2 ⟨⟨_,sQ,OA⟩,he⟩)
    ·exact .inl (.inl ⟨⟨_,sQ,OA⟩,ai⟩)
   |false=>
    obtain⟨q,hq⟩:=List.mem_iff_getElem?.1 (fJ.2 ⟨_,sQ,OA⟩);rcases Nat.lt_or_ge q pre.length with h1|h1
    ·rw[hh,List.getElem?_append_left h1]at hq;exact .inl (.inr (List.mem_of_getElem? hq))
    ·exfalso
     rcases Nat.eq_or_lt_of_le h1 with h2|h2
     ·rw[<-h2,Ub]at hq;cases hq;omega
     ·have nU:=R.chain pre.length q h j h2 Ub hq;have :=R.ord.lt ai nU;omega
  have acv:∀j,(SS ops bD pre j\/j∈fV ops bD (aE ops) pre.length)->¬B bD j h:=by
   intro j hj hb;have OA:(∃o,ops[j]?=some o/\fx o=true)->cX bD (aE ops) j<=pre.length->False:=fun⟨o',pW,_⟩ hle=>by
    have :=(R.pM (dH pW) Ub).1 hb;omega
   rcases hj with(⟨h1,h2⟩|h1)|h1
   ·exact OA h1 ai
   ·obtain⟨q,hq,rfl⟩:=List.mem_iff_getElem.1 h1;have xU:(aE ops)[q]?=some pre[q]:=by rw[hh,List.getElem?_append_left hq];exact List.getElem?_eq_getElem hq
    have nU:=R.chain q pre.length _ _ hq xU Ub;have hpm:pre[q]∈aE ops:=by rw[hh];exact List.mem_append_left _ h1
    obtain⟨o',pW,_⟩:=fJ.1 hpm;have :=R.ord.lt (dH pW) hb;have :=R.ord.lt ahm nU;omega
   ·obtain⟨h2,h3⟩:=cp.1 h1;exact OA h2 ai
  have abZ:Seen ops bD nt r lr h K7:=Ny R Mr Mw acv;have ab5:∀x y,((0,x,y):mX)∈u4 ops bD (aE ops) nt pre.length++mZ ops bD (aE ops) nt (pre.length+1) rest->x≠h:=by
   intro x y hx e;subst e;rcases List.mem_append.1 hx with hx|hx
   ·unfold u4 at hx;obtain⟨z,_,e⟩:=List.mem_map.1 hx;cases e
   ·rw[<-dB]at hx;rcases BH Ud x y hx with hm|⟨h1,_⟩
    ·exact Gq Ud hm du
    ·exact hhl h1
  have gm:∀d,dA ops h=some d->d<nt->dj d QY=dj d r.tm:=fun d hd cB=>(vY R.nt hF2 Mp d cB fun x y hx he=>R.uniq x h d (ab5 x y hx) he hd).symm
  have Oq:∀d,dA ops h=some d->d<nt->vv=dj d r.tm:=fun d hd cB=>by
   rw[<-gm d hd cB,abV,jb sR (aW cB R.nt),bj hd]
  have XM:Ex ops nt r lr (SS ops bD (pre++[h])) QY:=by
   rw[abV];refine(Mr.step R hSh sR Oq).iff fun x=>?_
   unfold SS;rw[dB,cp,List.mem_append,List.mem_singleton]
   constructor
   ·rintro(((⟨a1,a2⟩|a1)|⟨a1,a2⟩)|a1)
    ·exact .inl ⟨a1,ai⟩
    ·exact .inr (.inl a1)
    ·exact .inl ⟨a1,ai⟩
    ·exact .inr (.inr a1)
   ·rintro(⟨a1,a2⟩|(a1|a1))
    ·by_cases he:cX bD (aE ops) x=pre.length
     ·exact .inl (.inr ⟨a1,he⟩)
     ·exact .inl (.inl (.inl ⟨a1,ai⟩))
    ·exact .inl (.inl (.inr a1))
    ·exact .inr a1
  obtain⟨ahE,ch,aht⟩:F m1 m2/\∃ch,∀{E:Perm}{bl:ao}{σ:nz}{ρ:dw}{w:ao}{b:Frame}{a:Act}{k:List Item}{cs:List Frame}{l:List Nat}{n:Nat},b.kind≠ .early->a.tmps.size=nt->dk P E bl σ ρ m1 w->
    (∀t∈ko ops o,t<nt->aQ ρ (dj t K7) (a.tmps.getD t undef))->bH (yz ρ) df a.defers->
    (∀gj bq v' w' ds,ρ.le bq->(∀b,b<m1.next->bq b=ρ b)->dk P E bl gj bq m2 w'->(∃v,aQ bq v v'/\∀d,o.dst=some d->d<nt->v=dj d r.tm)->bH (yz bq) df2 ds->J gj n ((ax bq m2).or E) (G (b.at (Act.put ⟨a.tmps,ds⟩ o.dst v') (.inRegion ops l::k)) cs) w')->
    J σ (n+ch) ((ax ρ m1).or E) (G (b.at a (.inRegion ops (h::l)::k)) cs) w:=by
   rcases Ms with⟨Ad,v,hd,htv⟩|⟨Ad,htv,rfl,rfl⟩
   ·obtain⟨g1,c,g2⟩:=Fx (P:=P) (ops:=ops) hJ hX hF C ho Oo hd;have Q6:∀d,o.dst=some d->d<nt->v=dj d r.tm:=fun d yD cB=>by
     have h1:=gm d (by rw[ed];exact yD) cB;rw[<-h1,htv,jb (fun x hx=>sR x (by rw[ed];exact hx)) (aW cB R.nt),bj yD]
    refine⟨g1,c,fun{E bl σ ρ w b a k cs l n} hk ig H Xr vt hn=>?_⟩;have XK:∀j want,o.guard=some (j,want)->∃g,dA ops j=some g/\g<nt:=fun j want hj=>let⟨g,k1,k2,_⟩:=jK j want hj;⟨g,k1,k2⟩
    exact g2 hk ((tA Xr XK ig).trans Ad) H (SA H Xr nE.1) vt fun gj bq v' w' ds hle hold H' hv acp=>hn gj bq v' w' ds hle (fun b hb=>hold b hb (by rw[hpd];intro s hs;cases hs)) H' ⟨v,hv,Q6⟩ acp
   ·refine⟨hF.refl _,1,fun{E bl σ ρ w b a k cs l n} hk ig H Xr vt hn=>?_⟩;have XK:∀j want,o.guard=some (j,want)->∃g,dA ops j=some g/\g<nt:=fun j want hj=>let⟨g,k1,k2,_⟩:=jK j want hj;⟨g,k1,k2⟩
    have Q6:∀d,o.dst=some d->d<nt->undef=dj d r.tm:=fun d yD cB=>by
     have h1:=gm d (by rw[ed];exact yD) cB;rw[<-h1,htv,jb (fun x hx=>sR x (by rw[ed];exact hx)) (aW cB R.nt),bj yD]
    refine qG (hJ σ) ho ((tA Xr XK ig).trans Ad) fun aN jJ=>?_
    exact hn σ ρ undef aN a.defers (dw.le_refl _) (fun _ _=>rfl) (H.keeps jJ) ⟨undef,mE,Q6⟩ vt
  have hMv:=hF.mv ahE;have Jp:Wf m2:=hMv.wf Oo;have hN2:pQ<=m2.next:=bV hN (bV hg.next hMv.next);have Mi:∀i,nt+i<512->dj (nt+i) QY=dj (nt+i) K7:=fun i hi=>by
   rw[abV,jb sR hi,bW];intro he;have h1:nt+i<nt:=R.ord.dst h o _ ho (by rw[<-ed];exact he);omega
  obtain⟨hFr,cr,aho⟩:=ih (pre:=pre++[h]) (tm:=QY) (m:=m2) (df:=df2) (F0:=F3) (sM:=Ia) (vI:=YA) Ud (by rw[dB];exact hF3) hf3 Jp XM hN2 ⟨fun i h1 h2 h3=>by
    rw[dB]at h2 h3;refine(Ow i h1 ai ai).adk R hMv (Mi i) XM (.inl ⟨h1,by rw[dB];omega⟩) (V8 R Ud h1 (by rw[dB];omega)) (fun hc=>?_) ai;refine acr i ?_;rw[List.mem_filter,List.mem_range];obtain⟨o',pW,Ag⟩:=h1;refine⟨dH pW,?_⟩;simp only[pW,Option.any_some,Ag,hc,Bool.true_and,ag,iB];omega,fun i h1 h2 β jc=>by
     rw[dB]at h2;have :=Fa i h1 ai β jc;have :=hMv.next;omega,fun i j h1 h2 h3 h4=>by rw[dB]at h3 h4;exact G9 i j h1 h2 ai ai⟩
  refine⟨hF.trans (hF.fr hg.fr.w) (hF.trans ahE hFr),cr+ch,?_⟩;have Mg:ve P J ops bD nt r lr pQ pre (h::rest) Ia YA (pre.length+1) m1 df (cr+ch):=xg (P:=P) (J:=J) (c:=cr+ch) (df:=df) (r:=r) (lr:=lr) (tm:=K7) hJ hX R hh (pQ:=pQ) (sM:=Ia) (vI:=YA) (bV hN hg.next) (.inr trivial) Ow Fa G9 (fun e=>by cases e)
   (fun h' sN e {E bl σ ρ w b a k cs l D n} hk hl wD gS H E9 vt AK rC=>by
    cases e;obtain⟨d1,d2,d3,d4⟩:=hl.head;have Ai:∀j,D j->¬B bD j h:=fun j hj hb=>d2 (hl.down j hj h hb)
    have Xr:=Ip R abZ E9 d1 Ai ho;refine(hJ σ).le (show(n+cr+l.length)+ch<=n+(cr+ch)+(l.length+1) by omega) ?_;refine aht hk E9.size H Xr vt fun gj bq v' w' ds hle hold H' ⟨v,hv,hvd⟩ acp=>?_
    refine aho (D:=fun x=>D x\/x=h) hk d4 (fun x hx=>?_) (fun x hx hd=>?_) H' ((E9.jN hle).step R ho hv hvd ds) (by rw[(xD ⟨a.tmps,ds⟩ o.dst v').1];exact acp) (fun i h1 h2 h3 β jc=>?_) (fun tx fg ix MZ nT kD=>rC tx fg ix MZ (dw.le_trans hle nT) fun b hb=>?_)
    ·rcases List.mem_append.1 hx with hx|hx
     ·exact .inl (wD x hx)
     ·exact .inr (by simpa using hx)
    ·rcases hd with hd|rfl
     ·exact gS x (by simp[hx]) hd
     ·exact Gq Ud hx du
    ·rw[dB]at h2;rw[hold β (Fa i h1 ai β jc).2];exact AK i h1 ai (fun hd=>h3 (.inl hd)) β jc
    ·rw[kD b hb,hold b (by have :=hg.next;omega)])
  intro E bl σ ρ w b a k cs l D n hk hl wD gS H E9 vt AK rC;obtain⟨H',mj⟩:=H.grow hg;rw[<-mj];refine Mg hk hl wD gS H' E9 vt (fun i h1 h2 h3 β jc=>?_) rC;rw[eT,eV]at jc
  by_cases he:cX bD (aE ops) i=pre.length
  ·simp only[he,if_true]at jc;have :=q2 i (cp.2 ⟨h1,he⟩) β jc;cases hρ:ρ β with
   |none=>rfl
   |some p=>have :=H.jM.mo β p hρ;omega
  ·simp only[he,if_false]at jc;exact AK i h1 ai h3 β jc
end
end Go.AM
namespace Go.AM
open Go Go.Conc
def Out (e:Exit)(k todo:List Item):Prop:=
 match e with
 | .normal=>todo=k
 | .ret=>∃k',todo= .code .ret::k'
 | .exit id=>∃k',todo= .code (.exit id)::k'/\exitTo id k'=exitTo id k
 | .goto l=>∃k',todo= .code (.goto l)::k'/\gotoIn l k'=gotoIn l k
 |_=>False
structure eN (P:aC)(J:JT)(nt:Nat)(st jL:Ss)(A:List Item)(B:List Item->Prop)(c:Nat):Prop where
 go:∀{E:Perm}{bl:ao}{σ:nz}{ρ:dw}{w:ao}{b:Frame}{a:Act}{cs:List Frame}{n:Nat},b.kind≠ .early->dk P E bl σ ρ st.mem w->tq nt ρ st.tm st.df a->
  (∀gj bq w' a' todo,B todo->ρ.le bq->rK st.mem ρ bq->dk P E bl gj bq jL.mem w'->tq nt bq jL.tm jL.df a'->J gj n ((ax bq jL.mem).or E) (G (b.at a' todo) cs) w')->
  J σ (n+c) ((ax ρ st.mem).or E) (G (b.at a A) cs) w
section
variable {P:aC}{X:Ext}{main:Bool}{J:JT}{F:Mem->Mem->Prop}{nt:Nat}{call:cE}
theorem eN.trans{st Nr YG:Ss}{A:List Item}{B C:List Item->Prop}{c d:Nat}(h:eN P J nt st Nr A B c)(hn:Mv st.mem Nr.mem)(k:∀A',B A'->eN P J nt Nr YG A' C d):eN P J nt st YG A C (d+c):=by
 refine⟨fun{E bl σ ρ w b a cs n} hk H ha Ox=>?_⟩;rw[<-Nat.add_assoc];refine h.go hk H ha fun gj bq w' a' todo hB hle hold H' mn=>(k todo hB).go hk H' mn fun tx fg ix MZ V2 hC nT kD pZ xY=>Ox tx fg ix MZ V2 hC (dw.le_trans hle nT) (hold.trans hn kD) pZ xY
theorem eN.weaken{st jL:Ss}{A:List Item}{B C:List Item->Prop}{c:Nat}(h:eN P J nt st jL A B c)(k:∀A',B A'->C A'):eN P J nt st jL A C c:=by
 refine⟨fun{E bl σ ρ w b a cs n} hk H ha Ox=>?_⟩;exact h.go hk H ha fun gj bq w' a' todo hB=>Ox gj bq w' a' todo (k todo hB)
theorem eN.here{st:Ss}{A:List Item}{B:List Item->Prop}(h:B A):eN P J nt st st A B 0:=by
 refine⟨fun{E bl σ ρ w b a cs n} hk H ha Ox=>?_⟩;exact Ox σ ρ w a A h (dw.le_refl _) (.of fun _ _=>rfl) H ha
theorem eN.move(hJ:∀σ,fY P main (J σ)){st:Ss}{A A':List Item}(h:∀{b:Frame}{a:Act}{cs:List Frame}{w:ao},stepG P main (G (b.at a A) cs) w= .go (G (b.at a A') cs) w #[]):eN P J nt st st A (·=A') 1:=by
 refine⟨fun{E bl σ ρ w b a cs n} hk H ha Ox=>?_⟩;refine mL (hJ σ) rfl (fun w=>h) fun aN jJ=>?_
 exact Ox σ ρ aN a A' rfl (dw.le_refl _) (.of fun _ _=>rfl) (H.keeps jJ) ha
theorem xR (hJ:∀σ,fY P main (J σ))(hX:qd P X)(hF:wX F)(C:fT P X main J F call)(qy:nt<=512){ops:Array gK}:∀{l:List Nat}{f:im}{tm:Tm}{m:Mem}{df:Df}{r:Ss},g9 P nt ops (l.map fun i=>(0,i,0))=some f->f call tm m df=some r->Wf m->
  F m r.mem/\∃c,∀k,eN P J nt ⟨tm,m,df⟩ r (.inRegion ops l::k) (·= .inRegion ops []::k) c
 | [],f,tm,m,df,r,h,hf,hw=>by
  unfold g9 at h;simp only[List.map_nil]at h;cases h;unfold X6 at hf;simp only[ah]at hf;subst hf;exact⟨hF.refl _,0,fun k=>eN.here rfl⟩
 |i::l,f,tm,m,df,r,h,hf,hw=>by
  simp only[List.map_cons]at h;obtain⟨rest,hr,ht⟩:=kO h;obtain⟨cV,m',lX,lY,AO,_⟩:=pk ht hf;obtain⟨g1,c,g2⟩:=SD hJ hX hF C qy hw lY;obtain⟨h1,c',h2⟩:=xR hJ hX hF C qy hr AO ((hF.mv g1).wf hw);refine⟨hF.trans g1 h1,c'+c,fun k=>?_⟩;refine eN.trans (Nr:=⟨cV,m',lX⟩) (B:=(·= .inRegion ops l::k)) ?_ (hF.mv g1) fun A' hA=>by subst hA;exact h2 k
  refine⟨fun{E bl σ ρ w b a cs n} hk H ha Ox=>?_⟩;exact g2 hk H ha fun gj bq w' a' hle hold H' mn=>Ox gj bq w' a' _ rfl hle hold H' mn
theorem Iq (hm:P.follows .mixedOrders=true)(ops:Array gK)(t:Nat):Region.schedule (P.follows .mixedOrders) ops t=Region.linearise .any ops t:=by
 unfold Region.schedule;rw[hm];rfl
theorem IF (hJ:∀σ,fY P main (J σ))(hX:qd P X)(hF:wX F)(C:fT P X main J F call)(qy:nt<=512){id:Nat}{ops:Array gK}{draw:Bool}{n:Nat}{f:Go.AM.F}(h:comp P nt (n+1) (.region id ops draw)=some f){st jL:Ss}{e:Exit}(hf:f call st=some (e,jL))(hw:Wf st.mem):
  e= .normal/\F st.mem jL.mem/\∃c,∀k,eN P J nt st jL (.code (.region id ops draw)::k) (·=k) c:=by
 unfold comp at h;simp only[]at h;have Js:∀o:im,PF o call st=some (e,jL)->e= .normal/\o call st.tm st.mem st.df=some jL:=by
  intro o ho;unfold PF at ho
  split at ho
  ·rename_i s hs;simp only[ah,au]at ho;obtain⟨rfl,rfl⟩:=ho;exact⟨rfl,hs⟩
  ·cases ho
 have G6:∀k,eN P J nt jL jL (.inRegion ops []::k) (·=k) 1:=fun k=>eN.move hJ stepG_region_end
 cases draw with
 |false=>
  simp only[cF,if_false]at h
  split at h
  ·rename_i o ho;cases h;obtain⟨h1,h2⟩:=Js o hf;obtain⟨g1,c,g2⟩:=xR hJ hX hF C qy ho h2 hw;refine⟨h1,g1,(1+c)+1,fun k=>eN.trans (eN.move hJ stepG_region) (Mv.refl _) fun A hA=>?_⟩;subst hA;exact eN.trans (g2 k) (hF.mv g1) fun A hA=>by subst hA;exact G6 k
  ·cases h
 |true=>
  simp only[if_true]at h
  split at h
  ·rename_i T hT
   split at h
   ·rename_i o ho;cases h;obtain⟨h1,h2⟩:=Js o hf;unfold UN at hT;simp only[]at hT
    split at hT
    ·rename_i hc;simp only[ah]at hT;subst hT;simp only[ag]at hc;have R:=Sg qy hc.1.1.1 hc.1.1.2 hc.1.2 hc.2;have hex:Ex ops nt jL st.tm (SS ops (Region.before ops) []) st.tm:=fun t ht=>⟨fun i hi=>(by
      rcases hi with⟨_,hi⟩|hi
      ·exact absurd hi (Nat.not_lt_zero _)
      ·cases hi),fun _=>rfl⟩
     obtain⟨g1,c,g2⟩:=Lg (pQ:=st.mem.next) hJ hX hF C R (rest:=aE ops) (pre:=[]) (sM:=fun _=>st.tm) (vI:=fun _=>undef) rfl ho h2 hw hex (aj _)
      ⟨fun i _ hi=>absurd hi (Nat.not_lt_zero _),fun i _ hi=>absurd hi (Nat.not_lt_zero _),fun i j _ _ hi=>absurd hi (Nat.not_lt_zero _)⟩
     refine⟨h1,g1,1+(c+ops.size)+1,fun k=>?_⟩;refine⟨fun{E bl σ ρ w b a cs n} hk H ha Ox=>?_⟩;rw[<-Nat.add_assoc];refine(hJ σ).step rfl fun aN jJ=>?_
     have gi:=H.keeps jJ;have ald:=bg.at ((ax ρ st.mem).or E) aN (aN.drawn+1);refine⟨_,{aN with drawn:=aN.drawn+1},#[],(ax ρ st.mem).or E,⟨stepG_region_draw,⟨rfl,rfl,rfl,aj _,fun _ _=>rfl,fun _ _ _ _=>rfl,fun _ _ _=>rfl,fun _ _ _ _=>rfl⟩,fun e he=>by simp at he,eK.refl _ _,rfl,fun h=>⟨h.rd,h.wr,h.ob⟩⟩,?_⟩;rw[Iq hX.mixed];have hL:=IW R.ord (aN.tape aN.drawn (.order b.fn id));have hlen:(Region.linearise .any ops (aN.tape aN.drawn (.order b.fn id))).length<=ops.size:=by
      have h3:=hL.nodup.length_le_of_subset (fun x hx=>List.mem_range.2 (hL.lt x hx));simpa using h3
     have pZ:=gi.keeps ald;have :=g2 (l:=Region.linearise .any ops (aN.tape aN.drawn (.order b.fn id))) (D:=fun _=>False) (n:=n+1) (k:=k) (cs:=cs) hk hL du (fun _ _ h=>h) pZ ⟨ha.size,fun t ht i hi=>hi.elim,fun t ht _=>ha.tm t ht⟩ ha.df (fun i _ hi=>absurd hi (Nat.not_lt_zero _))
      (fun gj bq w' a' hle hold H' mn=>by
       refine(G6 k).go hk H' mn fun tx fg ix MZ todo ht nT kD pZ xY=>?_
       exact Ox tx fg ix MZ todo ht (dw.le_trans hle nT) (rK.trans (hF.mv g1) (.of hold) kD) pZ xY)
     exact(hJ σ).le ai this
    ·cases hT
   ·cases h
  ·cases h
end
end Go.AM
