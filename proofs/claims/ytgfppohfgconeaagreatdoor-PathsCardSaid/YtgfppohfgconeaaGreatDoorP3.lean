/-
  What the claim stands on, part 3.
-/
import Derived.Test.YtgfppohfgconeaaGreatDoorP2
import Derived.Orders
import Derived.Conc.CompanyDraw
set_option linter.unusedVariables false
set_option linter.unusedSimpArgs false
open Option renaming some → Z
open Bool renaming true → U, false → O
open Go renaming Value → ab, Goroutine → ak, World → ar, Program → aE, TypeId → aT, Operand → cd, Oper → iK
open Bool renaming and_eq_true → ag, false_eq_true → cK
open Option.some renaming injEq → ah
open Nat renaming le_refl → aj, eq_of_beq_eq_true → aA, lt_of_lt_of_le → aZ, le_trans → bV
open Prod.mk renaming injEq → ay
open List renaming all_eq_true → aB, mem_cons → aN
open Option renaming map_eq_some_iff → aD, bind_eq_some_iff → bM, map_some → dk, bind_some → dw, isSome_iff_exists → sH
namespace Go.AM
open Go Go.Conc
structure Mv (m m':Mem):Prop where
 next:m.next<=m'.next
 tick:m.tick<=m'.tick
 wf:Wf m->Wf m'
 blk:∀b,m'.blk b=m.blk b\/m.tick<=(m'.blk b).bq
 pend:∀s∈m'.pend,s∈m.pend\/m.next<=s.lo
def tD (m:Mem)(ρ bK:dz):Prop:=∀b,b<m.next->(∀s∈m.pend,¬(s.lo<=b/\b<s.hi))->bK b=ρ b
theorem tD.of{m:Mem}{ρ a}(h:∀b,b<m.next->a b=ρ b):tD m ρ a:=λb c _=>h b c
theorem tD.trans{m a ρ f e}(hm:Mv m a)(h:tD m ρ f)(k:tD a f e):tD m ρ e:=λb d c=>(k b (aZ d hm.next) λs g=>(hm.pend s g).elim (c s) λh=>by omega).trans (h b d c)
theorem Mv.refl(m:Mem):Mv m m:=⟨aj _,aj _,id,λ_=> .inl rfl,λ_=> .inl⟩
theorem Mv.trans{m c a}(h:Mv m c)(k:Mv c a):Mv m a:=
 ⟨bV h.next k.next,bV h.tick k.tick,k.wf∘h.wf,λb=>by
  rcases k.blk b with e|e
  .rw[e];exact h.blk b
  .exact .inr (bV h.tick e),λs d=>(k.pend s d).elim (h.pend s) λx=> .inr (bV h.next x)⟩
def yn (m m':Mem):Prop:=Fr m m'/\(Wf m->Wf m')
theorem jS.w{m m'}(h:jS m m'):yn m m':=⟨h.1,h.2.2⟩
theorem yn.refl(m:Mem):yn m m:=⟨Fr.refl m,id⟩
theorem yn.trans{m b a}(h:yn m b)(k:yn b a):yn m a:=⟨h.1.trans k.1,k.2∘h.2⟩
theorem yn.mv{m m'}(h:yn m m'):Mv m m':=⟨h.1.next,h.1.tick,h.2,λb=>(h.1.blk b).imp id (·.1),λs a=> .inl (by rw[<-h.1.pend];exact a)⟩
theorem yn.deaf(m:Mem)(d:Nat):yn m {m with deaf:=d}:=⟨⟨rfl,aj _,aj _,λ_=> .inl rfl⟩,λh=>⟨h.bq,h.zo,h.bI,h.fl,h.live⟩⟩
structure yo (F:Mem->Mem->Prop):Prop where
 refl:∀m,F m m
 trans:∀{m m₁ m₂},F m m₁->F m₁ m₂->F m m₂
 fr:∀{m m'},yn m m'->F m m'
 mv:∀{m m'},F m m'->Mv m m'
theorem Ys:yo yn:=⟨yn.refl,yn.trans,id,yn.mv⟩
theorem QX:yo Mv:=⟨Mv.refl,Mv.trans,yn.mv,id⟩
def zP (ρ:dz)(d:Nat×List ab)(d':Deferred):Prop:=∃cap,d'.target=.fn (.func d.1) cap/\bP (aV ρ) d.2 (d'.args++cap).toList
theorem zP.iX{ρ c:dz}(h:ρ.le c){d b}(e:zP ρ d b):zP c d b:=
 let⟨a,g,f⟩:=e;⟨a,g,f.mono λ_ _ x=>x.iX h⟩
abbrev JT:=pj->Nat->Perm->ak->ar->Prop
def gE (P:aE)(X:Ext)(main:Bool)(J:JT)(F:Mem->Mem->Prop)(call:cH):Prop:=
 ∀f args m v m',Wf m->call f args m=Z (v,m')->F m m'/\(dX P f=O->vB X f args m=Z (v,m'))/\
  (dX P f=U->∃c,∀{E:Perm}{bJ:ar}{σ:pj}{ρ:dz}{w:ar} (bS:Array ab) (fr:Frame) (cs:List Frame) (n:Nat) (kind:CallKind),
   dj P E bJ σ ρ m w->bP (aV ρ) args bS.toList->(kind=.normal\/(kind=.deferred/\fr.mode=.returning/\f≠X.Nl/\f≠X.xy))->
   (∀gU bK v' w',ρ.le bK->tD m ρ bK->dj P E bJ gU bK m' w'->aV bK v v'->J gU n ((az bK m').or E) (G (if kind=.normal then fr.finish v' else fr) cs) w')->
   J σ (n+c) ((az ρ m).or E) (G (Frame.enter P f bS kind) (fr::cs)) w)
section
variable {P:aE}{X:Ext}{main:Bool}{J:JT}{F:Mem->Mem->Prop}{call:cH}{E:Perm}{bJ:ar}{σ:pj}{ρ:dz}{m m':Mem}{w:ar}
variable {b:Frame}{a:Act}{k:List Item}{cs:List Frame}{ops:Array iK}{i:Nat}{rest:List Nat}{o:iK}
theorem AF (c:ops[i]?=Z o)(v:ab):(b.at a (.inRegion ops (i::rest)::k)).finish v=b.at (a.put o.dst v) (.inRegion ops rest::k):=by rw[Frame.finish_at,c];rfl
theorem sP (q:∀σ,gN P main (J σ))(H:dj P E bJ σ ρ m w){g:ak}(l:g.status=.running){n:Nat}
  (h:∀a,dj P E bJ σ ρ m a->∃d j m' b c,stepG P main g a=.go d b c/\Left ρ m a j m' b/\uW (az ρ m) a.heap.size a b/\(∀e∈c,EvW (az ρ m) e)/\m'.deaf=deafBehind m.deaf c/\
   J σ n ((az j m').or E) d b):J σ (n+1) ((az ρ m).or E) g w:=by
 refine(q σ).step l λa k=>?_
 obtain⟨d,j,m',b,c,u,i,f,t,s,r⟩:=h a (H.keeps k);have p:=(H.keeps k).apart.within i.within f.size f.shape;exact⟨d,b,c,_,⟨u,f.or,λe o=>(t e o).imp pH.or id,i.within.or,s,λ_=>Ee i.kH p⟩,r⟩
theorem AN {R}{N:Nat}{ev}(hX:rH P X){f:Nat}{args}(E:FJ P o ev f args)(h:∀x∈o.op.operands,aV ρ (ev x) (a.eval x))
  {Q}(p:∀z,bP (aV ρ) args z.toList->dY P R N (callFunc f z) Q w):dY P R N (execOp a.eval o) Q w:=by
 rcases E with⟨x,b,i,first,T,g,A,rfl⟩|⟨r,name,b,i,recv,g,B,rfl⟩
 .unfold execOp;rw[g];simp only[];have V:x∈o.op.operands:=by rw[g];simp[Op.operands,Call.operands]
  have n:=h x V;rw[A]at n;obtain⟨s,v,e,q,l⟩:=gA.1 n;rw[au];have m:resolve a.eval {callee:=.value x,args:=b,argTypes:=i} o.type=pure {target:=.fn (.func f) v,args:=s++b.map a.eval}:=by
   unfold resolve;simp only[e,Deferred.ofValue]
  rw[m]
  show dY P R N (callFunc f (s++b.map a.eval++v)) Q w
  refine p _ ?_;simp only[Array.toList_append,Array.toList_map];refine(q.append (bP.qU λy j=>h y ?_)).append l;rw[g];simp only[Op.operands,Call.operands,Array.mem_append];exact .inr (by simpa using j)
 .unfold execOp;rw[g];simp only[];have k:r∈o.op.operands:=by rw[g];simp[Op.operands,Call.operands]
  obtain⟨t,u,c,it,W,e,q,l,rfl,L,K,J,H,G,F⟩:=Bv (h r k) B;rw[au];have m:resolve a.eval {callee:=.invoke r name,args:=b,argTypes:=i} o.type=pure {target:=.fn (.method name) #[],args:=#[.iface t c]++b.map a.eval}:=by
   unfold resolve;simp only[l]
  rw[m]
  show dY P R N (invoke (.fn (.method name) #[]) (#[.iface t c]++b.map a.eval)) Q w
  unfold invoke;simp only[];have S:(#[ab.iface t c]++b.map a.eval)[0]?=Z (.iface t c):=by rw[<-Array.getElem?_toList];simp
  rw[S];simp only[];unfold callMethod;simp only[];rw[au]
  show dY P R N (method (P.types.size+Made.depth) t c name>>=_) Q w
  rw[au];have C:0<Made.depth:=eJ;obtain⟨d,D⟩:∃d,P.types.size+Made.depth=d+1:=⟨P.types.size+Made.depth-1,ai⟩;rw[D];unfold method;rw[au];refine iB K ?_;rw[H];simp only[G,follow,pure_bind,F];rw[au];unfold receiverAt;rw[au];refine aH J ?_;simp only[Place.get]
  show dY P R N (callFunc f _) Q w
  refine p _ ?_;have M:(#[c]++(#[ab.iface t c]++b.map a.eval).extract 1 (#[ab.iface t c]++b.map a.eval).size).toList=c::b.toList.map a.eval:=by
   simp only[Array.toList_append,Array.toList_extract,List.extract_eq_take_drop];simp;exact List.take_of_length_le dA
  rw[M];refine⟨L,bP.qU λy j=>h y ?_⟩;rw[g];simp only[Op.operands,Call.operands,Array.mem_append];exact .inr (by simpa using j)
theorem HV (K:∀σ,gN P main (J σ))(v:rH P X)(B:ops[i]?=Z o)(A:Region.wanted o (yielded ops a.tmps)=U)(D:b.kind≠ .early)(H:dj P E bJ σ ρ m w){ev}
  (M:∀x∈o.op.operands,aV ρ (ev x) (a.eval x)){f:Nat}{args}(F:FJ P o ev f args)(j:dX P f=U){n:Nat}
  (C:∀d c,dj P E bJ σ ρ m d->bP (aV ρ) args c.toList->J σ n ((az ρ m).or E) (G (Frame.enter P f c .normal) (b.at a (.inRegion ops (i::rest)::k)::cs)) d):
  J σ (n+1) ((az ρ m).or E) (G (b.at a (.inRegion ops (i::rest)::k)) cs) w:=by
 refine sP K H rfl λd y=>?_
 obtain⟨g,h,r⟩:∃g,P.funcs[f]?=Z g/\g.body.isSome=U:=by
  unfold dX at j;cases h:P.funcs[f]? with
  |none=>rw[h]at j;simp at j
  |some g=>exact⟨g,rfl,by rw[h]at j;simpa using j⟩
 obtain⟨t,q,u,⟨c,l,rfl,T⟩,W,p⟩:=oC (P:=P) (R:=az ρ m) (N:=d.heap.size) (Q:=λt q=>∃c,bP (aV ρ) args c.toList/\t=.enter f c/\q=d) (aj _)
  (AN (w:=d) v F M λc l=>yW h r (v.names f g h r) ⟨c,l,rfl,rfl⟩)
 rw[T]at u;obtain⟨L,V,S⟩:=p #[];have s:∀e∈listed P b.fn a o d,pH (az ρ m) e:=λe z=>S e (by have :=mem_listed z;rw[V]at this;simpa using this)
 exact⟨_,ρ,m,d,_,stepG_enter B A D u,Left.refl y.kH,uW.refl ..,λe p=> .inl (s e p),(lN s _).symm,C d c y l⟩
theorem MJ {f:Nat}(a:dX P f=U):∃b,P.funcs[f]?=Z b/\b.body.isSome=U:=by
 unfold dX at a;cases c:P.funcs[f]? with
 |none=>rw[c]at a;simp at a
 |some b=>exact⟨b,rfl,by rw[c]at a;simpa using a⟩
theorem MA {ev}{f:Nat}{args}(j:FJ P o ev f args)(n:∀x∈o.op.operands,aV ρ (ev x) (a.eval x))(c:args=[]):
  execOp a.eval o=callFunc f #[]:=by
 rcases j with⟨x,g,h,first,s,b,i,rfl⟩|⟨r,name,g,h,recv,b,v,rfl⟩
 .simp only[List.append_eq_nil_iff,Array.toList_eq_nil_iff,List.map_eq_nil_iff]at c;obtain⟨⟨rfl,rfl⟩,rfl⟩:=c;have u:x∈o.op.operands:=by rw[b];simp[Op.operands,Call.operands]
  have d:=n x u;rw[i]at d;obtain⟨m,t,e,l,k⟩:=gA.1 d;have q:m=#[]:=by
   have :=l.length;simpa[eq_comm]using this
  have p:t=#[]:=by
   have :=k.length;simpa[eq_comm]using this
  subst q p;unfold execOp;rw[b];simp[resolve,Deferred.ofValue,e,invoke]
 .cases c
theorem GH (mk:Mark)(hm:∀g,mk≠ .extern g)(q:ops[i]?=Z o)(p:Region.wanted o (yielded ops a.tmps)=U)(r:b.kind≠ .early){f:Nat}(n:execOp a.eval o=callFunc f #[])
  (s:kg P f λ_=>do mark mk;pure Extern.Race.none_)(w:ar):
  stepG P main (G (b.at a (.inRegion ops (i::rest)::k)) cs) w=.go (G (b.at (a.put o.dst (.tuple #[])) (.inRegion ops rest::k)) cs) w #[⟨.mark mk,O,U⟩]:=by
 obtain⟨t,m,l,j,e,d⟩:=s;rw[stepG_value (v:=.tuple #[]) (w':=w) q p r (by rw[n,run_callFunc_extern m j l e d];simp[Extern.Race.none_])];unfold listed;rw[n,events_callFunc_extern m j l e d];simp only[List.push_toArray,List.nil_append];rw[show((do mark mk;pure Extern.Race.none_:Sem ab)).events P w [⟨.mark (.extern f),O,U⟩].toArray=#[⟨.mark (.extern f),O,U⟩]++#[⟨.mark mk,O,U⟩] by simp];rw[seen_entry _ _ _ (by
  intro x c;simp at c;subst c;exact⟨rfl,λg h=>hm g (by cases h;rfl)⟩)]
theorem gq.aeB(H:dj P E bJ σ ρ m w)(d:Nat):dj P E bJ σ ρ {m with deaf:=d} w:=
 ⟨H.kH.deaf d,H.rest,⟨H.apart.cell,H.apart.obj,H.apart.wf⟩,H.pS,H.gi.fr (yn.deaf m d).1 (ρ.le_refl) (λ_ _=>rfl),⟨H.wf.bq,H.wf.zo,H.wf.bI,H.wf.fl,H.wf.live⟩,H.Ps,H.ew⟩
theorem Yw (K:∀σ,gN P main (J σ))(q:rH P X)(C:ops[i]?=Z o)(A:Region.wanted o (yielded ops a.tmps)=U)(F:b.kind≠ .early)(H:dj P E bJ σ ρ m w){ev}
  (y:∀x∈o.op.operands,aV ρ (ev x) (a.eval x)){f:Nat}{args}(t:FJ P o ev f args){v}(c:vB X f args m=Z (v,m')){n:Nat}
  (D:∀V h r,ρ.le r->(∀b,b<m.next->r b=ρ b)->dj P E bJ σ r m' h->aV r v V->J σ n ((az r m').or E) (G (b.at (a.put o.dst V) (.inRegion ops rest::k)) cs) h):
  J σ (n+1) ((az ρ m).or E) (G (b.at a (.inRegion ops (i::rest)::k)) cs) w:=by
 by_cases u:f=X.disable
 .subst u;unfold vB at c;rw[bh rfl]at c
  split at c
  .simp only[ah,ay]at c;obtain⟨rfl,rfl⟩:=c;have T:=MA t y rfl;refine sP K H rfl λd l=>⟨_,ρ,_,d,_,GH .disable dA C A F T q.disable d,?_,uW.refl ..,?_,?_,D _ _ _ ρ.le_refl (λ_ _=>rfl) (gq.aeB l _) kJ⟩
   .exact⟨ρ.le_refl,l.kH.deaf _,⟨λ_ _ x=> .inl x,λ_ _ x=> .inl x,λ_ x=> .inl x⟩,λ_ _=>rfl⟩
   .intro e j;simp only[List.mem_toArray,aN,List.not_mem_nil,or_false]at j;subst j;exact .inr (.inl rfl)
   .rfl
  .cases c
 .by_cases L:f=X.enable
  .subst L;unfold vB at c;rw[bH u,bh rfl]at c
   split at c
   .simp only[ah,ay]at c;obtain⟨rfl,rfl⟩:=c;have T:=MA t y rfl;refine sP K H rfl λd l=>⟨_,ρ,_,d,_,GH .enable dA C A F T q.enable d,?_,uW.refl ..,?_,?_,D _ _ _ ρ.le_refl (λ_ _=>rfl) (gq.aeB l _) kJ⟩
    .exact⟨ρ.le_refl,l.kH.deaf _,⟨λ_ _ x=> .inl x,λ_ _ x=> .inl x,λ_ x=> .inl x⟩,λ_ _=>rfl⟩
    .intro e j;simp only[List.mem_toArray,aN,List.not_mem_nil,or_false]at j;subst j;exact .inr (.inr rfl)
    .rfl
   .cases c
  .refine sP K H rfl λd l=>?_
   obtain⟨z,h,iE,⟨FQ,p,J4⟩,EK,j⟩:=oC (P:=P) (R:=az ρ m) (N:=d.heap.size) (Q:=λz h=>jS m m'/\Left ρ m d ρ m' h/\z=.value v) (aj _)
    (AN (w:=d) q t y λbS B=>by
     obtain⟨g1,e,S,M⟩:=QZ (P:=P) (N:=d.heap.size) l.kH q B c u L;exact sS S (M λh p s=>⟨g1,p,rfl⟩))
   have s:aV ρ v v:=by
    obtain⟨_,_,_,g,_⟩:=oC (P:=P) (R:=az ρ m) (N:=d.heap.size) (Q:=λz h=>aV ρ v v) (aj _)
     (AN (w:=d) q t y λbS B=>by
      obtain⟨g1,e,S,M⟩:=QZ (P:=P) (N:=d.heap.size) l.kH q B c u L;exact sS S (M λh p s=>s))
    exact g
   subst J4;obtain⟨evs,Aw,dV⟩:=j #[];have W:∀e∈listed P b.fn a o d,pH (az ρ m) e:=λe c=>dV e (by have :=mem_listed c;rw[Aw]at this;simpa using this)
   exact⟨_,ρ,m',h,_,stepG_value C A F iE,p,EK,λe j=> .inl (W e j),by rw[lN W,FQ.2.1],D v h ρ p.le p.old (l.left p FQ EK) s⟩
theorem O5 (M:∀σ,gN P main (J σ))(r:ops[i]?=Z o)(C:Region.wanted o (yielded ops a.tmps)=U)(F:b.kind≠ .early)(H:dj P E bJ σ ρ m w){ev}
  (t:∀x∈o.op.operands,aV ρ (ev x) (a.eval x)){f:Nat}{args}(L:Rz o ev f args){n:Nat}
  (D:∀p d,dj P E bJ σ ρ m p->zP ρ (f,args) d->J σ n ((az ρ m).or E) (G (b.at (Act.put ⟨a.tmps,d::a.defers⟩ o.dst undef) (.inRegion ops rest::k)) cs) p):
  J σ (n+1) ((az ρ m).or E) (G (b.at a (.inRegion ops (i::rest)::k)) cs) w:=by
 obtain⟨x,c,W,first,l,g,B,rfl⟩:=L;have S:x∈o.op.operands:=by rw[g];simp[Op.operands,Call.operands]
 have q:=t x S;rw[B]at q;obtain⟨j,h,e,Q,N⟩:=gA.1 q;have T:zP ρ (f,first.toList++c.toList.map ev++l.toList) {target:=.fn (.func f) h,args:=j++c.map a.eval}:=by
  refine⟨h,rfl,?_⟩;simp only[Array.toList_append,Array.toList_map];refine(Q.append (bP.qU λy A=>t y ?_)).append N;rw[g];simp only[Op.operands,Call.operands,Array.mem_append];exact .inr (by simpa using A)
 have z:∀w,(execOp a.eval o).run P w=.ok (.defer {target:=.fn (.func f) h,args:=j++c.map a.eval}) w:=by
  intro w;unfold execOp;simp[g,resolve,Deferred.ofValue,e]
 have V:∀w,(execOp a.eval o).events P w #[]=#[]:=by
  intro w;unfold execOp;simp[g,resolve,Deferred.ofValue,e]
 have R:(b.kind==CallKind.early)=O:=by simpa using F
 refine sP M H rfl λu s=>⟨_,ρ,m,u,#[],?_,Left.refl s.kH,uW.refl ..,λe K=>by simp at K,rfl,D u _ s T⟩
 have v:=AF (b:=b) (a:=⟨a.tmps,({target:=.fn (.func f) h,args:=j++c.map a.eval}:Deferred)::a.defers⟩) (k:=k) (rest:=rest) r undef;rw[stepG_oper r C,<-v];simp[stepG.apply,z,V,G,Frame.at,R,GStep.after,seen_none]
end
structure uU (nt:Nat)(ρ:dz)(tm:Tm)(df:Df)(a:Act):Prop where
 size:a.tmps.size=nt
 tm:∀t,t<nt->aV ρ (di t tm) (a.tmps.getD t undef)
 df:bP (zP ρ) df a.defers
theorem uU.iX{nt:Nat}{ρ c:dz}{tm df a}(h:ρ.le c)(b:uU nt ρ tm df a):uU nt c tm df a:=
 ⟨b.size,λt d=>(b.tm t d).iX h,b.df.mono λ_ _ x=>x.iX h⟩
theorem Yn (l:Array ab)(d t:Nat)(v:ab):(l.setIfInBounds d v).getD t undef=if d=t/\d<l.size then v else l.getD t undef:=by
 simp only[Array.getD_eq_getD_getElem?,Array.getElem?_setIfInBounds]
 by_cases h:d=t
 .subst h
  by_cases a:d<l.size
  .simp[a]
  .simp[a,Array.getElem?_eq_none (Nat.le_of_not_lt a)]
 .simp[h]
theorem yR (a:Act)(d:Option Tmp)(v:ab):(a.put d v).defers=a.defers/\(a.put d v).tmps.size=a.tmps.size/\∀t,t<a.tmps.size->(a.put d v).tmps.getD t undef=if d=Z t then v else a.tmps.getD t undef:=by
 cases d with
 |none=>exact⟨rfl,rfl,λt b=>by simp[Act.put]⟩
 |some d=>
  refine⟨rfl,by simp[Act.put],λt b=>?_⟩
  show(a.tmps.setIfInBounds d v).getD t undef=_
  rw[Yn]
  by_cases h:d=t
  .subst h;simp[b]
  .simp[h]
theorem uU.put{nt:Nat}{ρ tm df f a ds d v e}(c:uU nt ρ tm df a)(j:∀x,d=Z x->x<512)(n:nt<=512)(i:aV ρ v e)(g:bP (zP ρ) f ds):
  uU nt ρ (ID d v tm) f (Act.put ⟨a.tmps,ds⟩ d e):=by
 obtain⟨m,l,k⟩:=yR ⟨a.tmps,ds⟩ d e;refine⟨l.trans c.size,λt b=>?_,by rw[m];exact g⟩;rw[k t (by rw[<-c.size]at b;exact b)];unfold ID;cases d with
 |none=>exact c.tm t b
 |some d=>
  simp only[];rw[qA (j d rfl) ai]
  by_cases h:d=t
  .subst h;simp[i]
  .simp only[h,if_false,ah];exact c.tm t b
section
variable {P:aE}{X:Ext}{main:Bool}{J:JT}{F:Mem->Mem->Prop}{call:cH}{E:Perm}{bJ:ar}{σ:pj}{ρ:dz}{m m':Mem}{w:ar}
variable {b:Frame}{a:Act}{k:List Item}{cs:List Frame}{ops:Array iK}{i:Nat}{rest:List Nat}{o:iK}{nt:Nat}{tm:Tm}{df nS:Df}{v:ab}
theorem Mg (c:∀t,t<nt->aV ρ (di t tm) (a.tmps.getD t undef))(H:dj P E bJ σ ρ m w){x}(b:s9 nt P.globals.size x=U):aV ρ (dG tm x) (a.eval x):=by
 cases x with
 |tmp t=>
  simp only[s9,lh,iU]at b;exact c t b
 |const v=>exact cz b
 |global g=>
  simp only[s9,lh,iU]at b;obtain⟨p,h,e,d⟩:=H.pS g b;exact cQ.2 ⟨p,h,rfl,by rw[e,d];rfl⟩
 |func f=>exact gA.2 ⟨_,_,rfl,trivial,trivial⟩
theorem HP (z:∀σ,gN P main (J σ))(D:rH P X)(K:yo F)(C:gE P X main J F call)(y:ops[i]?=Z o)(FP:Wf m)(S:AY P call o tm m df v m' nS):F m m'/\∃c,
  ∀{E:Perm}{bJ:ar}{σ:pj}{ρ:dz}{w:ar}{b:Frame}{a:Act}{k:List Item}{cs:List Frame}{rest:List Nat}{n:Nat},b.kind≠ .early->Region.wanted o (yielded ops a.tmps)=U->dj P E bJ σ ρ m w->
   (∀x∈o.op.operands,aV ρ (dG tm x) (a.eval x))->bP (zP ρ) df a.defers->
   (∀A g j h L,ρ.le g->tD m ρ g->dj P E bJ A g m' h->aV g v j->bP (zP g) nS L->J A n ((az g m').or E) (G (b.at (Act.put ⟨a.tmps,L⟩ o.dst j) (.inRegion ops rest::k)) cs) h)->
   J σ (n+c) ((az ρ m).or E) (G (b.at a (.inRegion ops (i::rest)::k)) cs) w:=by
 rcases S with⟨M,rfl⟩|⟨f,args,B,T,rfl⟩|⟨f,args,Q,rfl,rfl,rfl⟩
 .refine⟨K.fr (V3 M).w,1,λr p H s l q=>?_⟩;exact CF (z _) y p r H s M λg j h e hold t u=>q _ g j h _ e (.of hold) t u (l.mono λ_ _ x=>x.iX e)
 .obtain⟨h1,W,V⟩:=C f args m v m' FP T;refine⟨h1,?_⟩;cases hb:dX P f with
  |false=>
   refine⟨1,λr p H s l q=>?_⟩;exact Yw z D y p r H s B (W hb) λj h g e hold t u=>q _ g j h _ e (.of hold) t u (l.mono λ_ _ x=>x.iX e)
  |true=>
   obtain⟨c,N⟩:=V hb;refine⟨c+1,λ{E bJ σ ρ w b a k cs rest n} r p H s l q=>?_⟩;refine HV z D y p r H s B hb λaR bS gT R=>N bS _ cs n .normal gT R (.inl rfl) λA g j h e hold t u=>?_
   rw[bh rfl,AF y];exact q A g j h _ e hold t u (l.mono λ_ _ x=>x.iX e)
 .refine⟨K.refl _,1,λr p H s l q=>?_⟩;exact O5 z y p r H s Q λh d t S3=>q _ _ undef h (d::_) (dz.le_refl _) (.of λ_ _=>rfl) t oy ⟨S3,l⟩
theorem xz (k:∀j want,o.guard=Z (j,want)->∃g,(ops[j]?).bind (·.dst)=Z g/\g<nt/\aV ρ (di g tm) (a.tmps.getD g undef))(r:a.tmps.size=nt):Region.wanted o (yielded ops a.tmps)=cY ops o tm:=by
 unfold Region.wanted cY;cases s:o.guard with
 |none=>rfl
 |some p=>
  obtain⟨j,want⟩:=p;obtain⟨g,m,w,v⟩:=k j want s;simp only[m];unfold yielded;rw[m];simp only[dw];have e:a.tmps[g]?=Z (a.tmps.getD g undef):=by
   rw[Array.getD_eq_getD_getElem?,Array.getElem?_eq_getElem (show g<a.tmps.size by rw[r];exact w)];rfl
  rw[e];have i:∀u h,aV ρ u h->∀want:Bool,((match(Z h:Option ab)with |some (.bool b)=>Z b|_=>none)==Z want)=(match u with | .bool b=>b==want|_=>O):=by
   intro u h d want;cases u with
   |bool b=>have :=(aG (by rfl)).1 d;subst this;cases b<;>cases want<;>rfl
   |agg cs=>obtain⟨_,rfl,_⟩:=iz.1 d;rfl
   |tuple cs=>obtain⟨_,rfl,_⟩:=fw.1 d;rfl
   |iface t x=>obtain⟨_,rfl,_⟩:=gB.1 d;rfl
   |func y f c=>obtain⟨_,_,rfl,_⟩:=gA.1 d;rfl
   |pointer p=>cases p with
    |none=>have :=(aG (by rfl)).1 d;subst this;rfl
    |some p=>obtain⟨_,_,_,rfl⟩:=cQ.1 d;rfl
   |slice p l c=>cases p with
    |none=>have :=(aG (by rfl)).1 d;subst this;rfl
    |some p=>obtain⟨_,_,_,_,rfl,_⟩:=cp.1 d;rfl
   |map p=>cases p with
    |none=>have :=(aG (by rfl)).1 d;subst this;rfl
    |some p=>obtain⟨_,_,rfl⟩:=jG.1 d;rfl
   |_=>obtain⟨n,q⟩:=d;cases n with |zero=>exact q.elim|succ n=>have e:h=_:=q;subst e;rfl
  exact i _ _ v want
theorem V4 (L:∀σ,gN P main (J σ))(hX:rH P X)(M:yo F)(C:gE P X main J F call)(A:nt<=512){N}(FP:Wf m)(W:sg P call nt ops i tm m df N m' nS):F m m'/\∃c,
  ∀{E:Perm}{bJ:ar}{σ:pj}{ρ:dz}{w:ar}{b:Frame}{a:Act}{k:List Item}{cs:List Frame}{rest:List Nat}{n:Nat},b.kind≠ .early->dj P E bJ σ ρ m w->uU nt ρ tm df a->
   (∀q e p Q,ρ.le e->tD m ρ e->dj P E bJ q e m' p->uU nt e N nS Q->J q n ((az e m').or E) (G (b.at Q (.inRegion ops rest::k)) cs) p)->
   J σ (n+c) ((az ρ m).or E) (G (b.at a (.inRegion ops (i::rest)::k)) cs) w:=by
 obtain⟨o,D,s,B,h⟩:=W;rcases h with⟨t,v,OR,rfl⟩|⟨t,rfl,rfl,rfl⟩
 .obtain⟨h1,c,h2⟩:=HP L hX M C D FP OR;refine⟨h1,c,λ{E bJ σ ρ w b a k cs rest n} K H d u=>?_⟩;have r:=xz (ops:=ops) (o:=o) (tm:=tm) (λj want y=>let⟨g,z,l,g3⟩:=B j want y;⟨g,z,l,d.tm g l⟩) d.size;refine h2 K (r.trans t) H (λx T=>Mg d.tm H (s.1 x T)) d.df λq e v' p ds f hold H' V R=>u q e p _ f hold H' ?_
  exact(d.iX f).put s.2 A V R
 .refine⟨M.refl _,1,λ{E bJ σ ρ w b a k cs rest n} K H d u=>?_⟩;have r:=xz (ops:=ops) (o:=o) (tm:=tm) (λj want y=>let⟨g,z,l,g3⟩:=B j want y;⟨g,z,l,d.tm g l⟩) d.size;refine so (L _) D (r.trans t) λaR S=>u _ _ aR _ (dz.le_refl _) (.of λ_ _=>rfl) (H.keeps S) ?_
  exact d.put (ds:=a.defers) s.2 A oy d.df
end
def B (bN:Array Nat)(i j:Nat):Prop:=(bN.getD i 0).testBit j=U
theorem HA (f:Array Nat)(j:Nat):∀(l:List Edge) (s:Nat),(l.foldl (λs e=>if Region.binds .any e then s|||2^e.on|||f.getD e.on 0 else s) s).testBit j=U↔
  s.testBit j=U\/∃e∈l,Region.binds .any e=U/\(e.on=j\/B f e.on j)
 | [],s=>by simp
 |e::l,s=>by
  rw[List.foldl_cons,HA f j l]
  by_cases h:Region.binds .any e=U
  .rw[bh h];simp only[Nat.testBit_or,Bool.or_eq_true,Nat.testBit_two_pow,iU,aN]
   constructor
   .rintro(((a|a)|a)|⟨d,a,c⟩)
    .exact .inl a
    .exact .inr ⟨e,.inl rfl,h,.inl a⟩
    .exact .inr ⟨e,.inl rfl,h,.inr a⟩
    .exact .inr ⟨d,.inr a,c⟩
   .rintro(a|⟨d,(rfl|a),c,b⟩)
    .exact .inl (.inl (.inl a))
    .rcases b with b|b
     .exact .inl (.inl (.inr b))
     .exact .inl (.inr b)
    .exact .inr ⟨d,a,c,b⟩
  .rw[bH h]
   constructor
   .rintro(a|⟨d,a,c⟩)
    .exact .inl a
    .exact .inr ⟨d,List.mem_cons_of_mem _ a,c⟩
   .rintro(a|⟨d,a,c,b⟩)
    .exact .inl a
    .rcases aN.1 a with rfl|a
     .exact absurd c h
     .exact .inr ⟨d,a,c,b⟩
structure zL (ops:Array iK)(bN:Array Nat)(nt:Nat):Prop where
 back:∀i o,ops[i]?=Z o->∀e∈o.after,Region.binds .any e=U->e.on<i
 iff:∀i o,ops[i]?=Z o->∀j,B bN i j↔∃e∈o.after,Region.binds .any e=U/\(e.on=j\/B bN e.on j)
 dst:∀(i:Nat) (o:iK) (d:Nat),ops[i]?=Z o->o.dst=Z d->d<nt
theorem dO {α:Type}{l:Array α}{i:Nat}{x:α}(h:l[i]?=Z x):i<l.size:=by
 rcases Nat.lt_or_ge i l.size with a|a
 .exact a
 .rw[Array.getElem?_eq_none a]at h;cases h
theorem V1 {ops:Array iK}{f:Array Nat}{nt:Nat}(h:IJ ops f nt=U):zL ops f nt:=by
 have b:∀i o,ops[i]?=Z o->(o.after.toList.all (λe=>!Region.binds .any e||Nat.blt e.on i)&&Nat.beq (o.after.toList.foldl (λs e=>if Region.binds .any e then s|||2^e.on|||f.getD e.on 0 else s) 0) (f.getD i 0)&&(match o.dst with |some d=>Nat.blt d nt|none=>U))=U:=by
  intro i o a;have :=aB.1 h i (List.mem_range.2 (dO a));rw[a]at this;exact this
 refine⟨λi o a e g l=>?_,λi o a j=>?_,λi o d a k=>?_⟩
 .have :=b i o a;simp only[ag]at this;have c:=aB.1 this.1.1 e (by simpa using g);simp only[l,Bool.not_true,Bool.false_or,Nat.blt_eq]at c;exact c
 .have :=b i o a;simp only[ag]at this;have c:=aA this.1.2;unfold B;rw[<-c,HA];simp[B]
 .have :=b i o a;simp only[ag,k]at this;simpa[lh]using this.2
section
variable {ops:Array iK}{bN:Array Nat}{nt:Nat}
theorem zL.lt(h:zL ops bN nt):∀{i j:Nat},i<ops.size->B bN i j->j<i:=by
 intro i
 induction i using Nat.strongRecOn with
 |_ i d=>
  intro j b g;obtain⟨e,f,k,a⟩:=(h.iff i _ (Array.getElem?_eq_getElem b) j).1 g;have c:=h.back i _ (Array.getElem?_eq_getElem b) e f k;rcases a with rfl|a
  .exact c
  .have :=d e.on c ai a;omega
theorem zL.trans(h:zL ops bN nt):∀{i j k:Nat},i<ops.size->B bN i j->B bN j k->B bN i k:=by
 intro i
 induction i using Nat.strongRecOn with
 |_ i g=>
  intro j k a l f;obtain⟨e,c,d,b⟩:=(h.iff i _ (Array.getElem?_eq_getElem a) j).1 l;have m:=h.back i _ (Array.getElem?_eq_getElem a) e c d;rcases b with rfl|b
  .exact(h.iff i _ (Array.getElem?_eq_getElem a) k).2 ⟨e,c,d,.inr f⟩
  .exact(h.iff i _ (Array.getElem?_eq_getElem a) k).2 ⟨e,c,d,.inr (g e.on m ai b f)⟩
structure kV (ops:Array iK)(bN:Array Nat)(D:Nat->Prop)(l:List Nat):Prop where
 nodup:l.Nodup
 lt:∀i∈l,i<ops.size
 fresh:∀i∈l,¬D i
 all:∀i,i<ops.size->D i\/i∈l
 down:∀i,D i->∀j,B bN i j->D j
 ahead:∀IZ i IY,l=IZ++i::IY->∀j,B bN i j->D j\/j∈IZ
 dlt:∀i,D i->i<ops.size
theorem kV.head{D}{i:Nat}{l}(h:kV ops bN D (i::l)):(∀j,B bN i j->D j)/\¬D i/\i<ops.size/\kV ops bN (λx=>D x\/x=i) l:=by
 have f:∀j,B bN i j->D j:=λj c=>(h.ahead [] i l rfl j c).resolve_right dA
 have d:=List.nodup_cons.1 h.nodup;refine⟨f,h.fresh i dA,h.lt i dA,d.2,λx a=>h.lt x (by simp[a]),λx a=>?_,λx a=>?_,λx a j c=>?_,λg x k e j c=>?_,λx a=>?_⟩
 .rintro(b|rfl)
  .exact h.fresh x (by simp[a]) b
  .exact d.1 a
 .rcases h.all x a with b|b
  .exact .inl (.inl b)
  .rcases aN.1 b with rfl|b
   .exact .inl (.inr rfl)
   .exact .inr b
 .rcases a with a|rfl
  .exact .inl (h.down x a j c)
  .exact .inl (f j c)
 .rcases h.ahead (i::g) x k (by rw[e];rfl) j c with b|b
  .exact .inl (.inl b)
  .rcases aN.1 b with rfl|b
   .exact .inl (.inr rfl)
   .exact .inr b
 .rcases a with a|rfl
  .exact h.dlt x a
  .exact h.lt x dA
def Ic (n:Nat)(listed:Array Bool):Nat:=((List.range n).filter λi=>!listed.getD i O).length
theorem UK (l:Array Bool)(i x:Nat)(hi:i<l.size):(l.setIfInBounds i U).getD x O=(decide (i=x)||l.getD x O):=by
 simp only[Array.getD_eq_getD_getElem?,Array.getElem?_setIfInBounds]
 by_cases h:i=x
 .subst h;simp[hi]
 .simp[h]
theorem filter_lt {α:Type}{p q}:∀{l:List α}{x:α},x∈l->p x=U->q x=O->(∀y,q y=U->p y=U)->(l.filter q).length<(l.filter p).length
 |a::l,x,d,i,g,h=>by
  have f:∀(l:List α),(l.filter q).length<=(l.filter p).length:=by
   intro l
   induction l with
   |nil=>exact aj _
   |cons b l j=>
    simp only[List.filter_cons];cases c:q b
    .cases e:p b<;>simp <;>omega
    .rw[h b c];simp;omega
  rcases aN.1 d with rfl|d
  .have :=f l;simp only[List.filter_cons,i,g,if_true,cK,if_false,List.length_cons];omega
  .have :=filter_lt d i g h;simp only[List.filter_cons];cases c:q a
   .cases e:p a<;>simp <;>omega
   .rw[h a c];simp;omega
theorem CZ (h:zL ops bN nt){D:Nat->Prop}(m:∀i,D i->i<ops.size)(l:∀i,D i->∀o,ops[i]?=Z o->∀e∈o.after,Region.binds .any e=U->D e.on):∀i,D i->∀j,B bN i j->D j:=by
 intro i
 induction i using Nat.strongRecOn with
 |_ i k=>
  intro c j b;have a:=m i c;obtain⟨e,d,g,b⟩:=(h.iff i _ (Array.getElem?_eq_getElem a) j).1 b;have f:=l i c _ (Array.getElem?_eq_getElem a) e d g;rcases b with rfl|b
  .exact f
  .exact k e.on (h.back i _ (Array.getElem?_eq_getElem a) e d g) f j b
theorem kV.nil{D}(a:∀i,i<ops.size->D i)(d:∀i,D i->∀j,B bN i j->D j)(c:∀i,D i->i<ops.size):kV ops bN D []:=
 ⟨List.nodup_nil,dA,dA,λi b=> .inl (a i b),d,λf i g e=>(by simp at e),c⟩
theorem V0 (h:zL ops bN nt):∀(fuel t:Nat) (listed:Array Bool),listed.size=ops.size->Ic ops.size listed<=fuel->
  (∀i,listed.getD i O=U->∀o,ops[i]?=Z o->∀e∈o.after,Region.binds .any e=U->listed.getD e.on O=U)->
  kV ops bN (λi=>listed.getD i O=U) (Region.linearise.go .any ops fuel t listed []):=by
 intro fuel
 induction fuel with
 |zero=>
  intro t listed G D s;have m:∀i,listed.getD i O=U->i<ops.size:=λi b=>by
   rcases Nat.lt_or_ge i ops.size with a|a
   .exact a
   .rw[Array.getD_eq_getD_getElem?,Array.getElem?_eq_none ai]at b;cases b
  simp only[Region.linearise.go,List.reverse_nil];refine kV.nil (λi b=>?_) (CZ h m s) m;have :(List.range ops.size).filter (λi=>!listed.getD i O)=[]:=List.eq_nil_of_length_eq_zero (by unfold Ic at D;omega);rw[List.filter_eq_nil_iff]at this;simpa using this i (List.mem_range.2 b)
 |succ fuel K=>
  intro t listed G D s;have m:∀i,listed.getD i O=U->i<ops.size:=λi b=>by
   rcases Nat.lt_or_ge i ops.size with a|a
   .exact a
   .rw[Array.getD_eq_getD_getElem?,Array.getElem?_eq_none ai]at b;cases b
  have z:∀i,i<ops.size->listed.getD i U=listed.getD i O:=λi b=>by
   simp only[Array.getD_eq_getD_getElem?,Array.getElem?_eq_getElem (show i<listed.size by omega),Option.getD_some]
  simp only[Region.linearise.go]
  change kV ops bN _ (match(Region.ready .any ops listed)[t%(Region.ready .any ops listed).length]? with
   |some i=>Region.linearise.go .any ops fuel (t / (Region.ready .any ops listed).length) (listed.setIfInBounds i U) [i]
   |none=>[].reverse)
  have J:∀i,i∈Region.ready .any ops listed↔i<ops.size/\listed.getD i O=O/\∀o,ops[i]?=Z o->∀e∈o.after,Region.binds .any e=U->listed.getD e.on O=U:=by
   intro i;unfold Region.ready;rw[List.mem_filter,List.mem_range]
   constructor
   .rintro⟨a,k⟩;simp only[ag,Bool.not_eq_true',Array.getElem?_eq_getElem a,dk,Option.getD_some]at k;rw[z i a]at k;refine⟨a,k.1,λo l e d f=>?_⟩;rw[Array.getElem?_eq_getElem a]at l;cases l;have :=Array.all_eq_true_iff_forall_mem.1 k.2 e d;simpa[f]using this
   .rintro⟨a,k,A⟩;refine⟨a,?_⟩;simp only[ag,Bool.not_eq_true',Array.getElem?_eq_getElem a,dk,Option.getD_some];rw[z i a];refine⟨k,Array.all_eq_true_iff_forall_mem.2 λe d=>?_⟩;cases f:Region.binds .any e with
    |false=>simp
    |true=>simpa[f]using A _ (Array.getElem?_eq_getElem a) e d f
  cases b:(Region.ready .any ops listed)[t%(Region.ready .any ops listed).length]? with
  |none=>
   have R:Region.ready .any ops listed=[]:=by
    cases L:Region.ready .any ops listed with
    |nil=>rfl
    |cons x xs=>
     rw[L]at b;have Q:t%(x::xs).length<(x::xs).length:=Nat.mod_lt _ dA;simp only[List.getElem?_eq_none_iff]at b;omega
   simp only[List.reverse_nil];refine kV.nil (λi b=>?_) (CZ h m s) m
   induction i using Nat.strongRecOn with
   |_ i B=>
    cases w:listed.getD i O with
    |true=>rfl
    |false=>
     have :i∈Region.ready .any ops listed:=(J i).2 ⟨b,w,λo l e d f=>B e.on (h.back i o l e d f) (by have :=h.back i o l e d f;omega)⟩;rw[R]at this;cases this
  |some i=>
   obtain⟨a,k,A⟩:=(J i).1 (List.mem_of_getElem? b);have E:i<listed.size:=ai;simp only[];rw[linearise_go_acc,List.reverse_singleton,List.singleton_append];have g:∀x,(listed.setIfInBounds i U).getD x O=U↔listed.getD x O=U\/x=i:=λx=>by
    rw[UK _ _ _ E];simp only[Bool.or_eq_true,iU];exact⟨λh=>h.elim (λe=> .inr e.symm) .inl,λh=>h.elim .inr λe=> .inl e.symm⟩
   have u:=K (t / (Region.ready .any ops listed).length) (listed.setIfInBounds i U) (by simpa using G) (by
    have :=filter_lt (p:=λx=>!listed.getD x O) (q:=λx=> !(listed.setIfInBounds i U).getD x O) (List.mem_range.2 a) (by simp[k]) (by simp[(g i).2 (.inr rfl)]) (λy C=>by
     simp only[Bool.not_eq_true']at C⊢;cases N:listed.getD y O with
     |false=>rfl
     |true=>rw[(g y).2 (.inl N)]at C;cases C)
    unfold Ic at D⊢;omega) (λx c o l e d f=>by
     rcases(g x).1 c with c|rfl
     .exact(g _).2 (.inl (s x c o l e d f))
     .exact(g _).2 (.inl (A o l e d f)))
   have V:i∉Region.linearise.go .any ops fuel (t / (Region.ready .any ops listed).length) (listed.setIfInBounds i U) []:=λM=>u.fresh i M ((g i).2 (.inr rfl))
   refine⟨List.nodup_cons.2 ⟨V,u.nodup⟩,λx c=>?_,λx c w=>?_,λx c=>?_,CZ h m s,λF x T e j H=>?_,m⟩
   .rcases aN.1 c with rfl|c
    .exact a
    .exact u.lt x c
   .rcases aN.1 c with rfl|c
    .rw[k]at w;cases w
    .exact u.fresh x c ((g x).2 (.inl w))
   .rcases u.all x c with r|r
    .rcases(g x).1 r with v|rfl
     .exact .inl v
     .exact .inr dA
    .exact .inr (by simp[r])
   .cases F with
    |nil=>
     simp only[List.nil_append,List.cons.injEq]at e;obtain⟨rfl,_⟩:=e;obtain⟨P,d,S,n⟩:=(h.iff i _ (Array.getElem?_eq_getElem a) j).1 H;have v:=A _ (Array.getElem?_eq_getElem a) P d S;rcases n with rfl|n
     .exact .inl v
     .exact .inl (CZ h m s _ v j n)
    |cons y F=>
     simp only[List.cons_append,List.cons.injEq]at e;obtain⟨rfl,e⟩:=e;rcases u.ahead F x T e j H with r|r
     .rcases(g j).1 r with v|rfl
      .exact .inl v
      .exact .inr dA
     .exact .inr (by simp[r])
theorem Ll (h:zL ops bN nt)(t:Nat):kV ops bN (λ_=>False) (Region.linearise .any ops t):=by
 have b:∀i,(Array.replicate ops.size O).getD i O=O:=λi=>by
  simp only[Array.getD_eq_getD_getElem?,Array.getElem?_replicate]
  split<;>rfl
 have :=V0 h ops.size t (Array.replicate ops.size O) dA (by
  unfold Ic;have :=List.length_filter_le (λi=> !(Array.replicate ops.size O).getD i O) (List.range ops.size);simpa using this) (λi a=>by rw[b i]at a;cases a)
 have e:(λi=>(Array.replicate ops.size O).getD i O=U)=λ_=>False:=by
  funext i
  rw[b i];simp
 rw[e]at this;exact this
end
structure lP (m m':Mem):Prop where
 fr:jS m m'
 blk:∀b,b<m.next->m'.blk b=m.blk b
theorem lP.refl(m:Mem):lP m m:=⟨jS.refl m,λ_ _=>rfl⟩
theorem lP.trans{m c a}(h:lP m c)(k:lP c a):lP m a:=
 ⟨h.fr.trans k.fr,λb d=>(k.blk b (aZ d h.fr.1.next)).trans (h.blk b d)⟩
theorem lP.alloc(m:Mem)(k:eh)(a:k.live):lP m (m.alloc k):=⟨jS.alloc m k a,λb c=>by rw[Mem.cC,bH ai]⟩
section
variable {m m':Mem}(h:lP m m')
include h
theorem lP.home:m'.home=m.home:=h.fr.1.home
theorem lP.bI:m'.bI=m.bI:=h.fr.1.bI
theorem lP.base:m'.base=m.base:=h.fr.1.base
theorem lP.floor:m'.floor=m.floor:=h.fr.1.floor
theorem lP.opn:m'.opn=m.opn:=h.fr.1.opn
theorem lP.next:m.next<=m'.next:=h.fr.1.next
theorem lP.deaf:m'.deaf=m.deaf:=h.fr.2.1
end
section
variable {P:aE}{E:Perm}{bJ:ar}{σ:pj}{ρ bK:dz}{m m':Mem}{w w':ar}
theorem Li (j:∀b p,ρ b=Z p->m'.blk b=m.blk b)(l:m'.bI=m.bI)(i:m'.home=m.home)(s:m'.floor=m.floor)(r:m'.opn=m.opn)(t:m'.deaf=m.deaf):az ρ m'=az ρ m:=by
 have k:∀b p o,ρ b=Z p->(m'.px b o↔m.px b o):=λb p o h=>by unfold Mem.px;rw[j b p h,l]
 have n:∀b p o,ρ b=Z p->(m'.okW b o↔m.okW b o):=λb p o h=>by unfold Mem.okW;rw[k b p o h,s,r]
 have q:∀b,m'.bQ b=m.bQ b:=λb=>by unfold Mem.bQ;rw[l,i]
 unfold az
 congr 1
 .funext c x
  exact propext ⟨λ⟨b,p,a,d,f,e,g⟩=>⟨b,p,a,d,f,e,(k b p _ a).1 g⟩,λ⟨b,p,a,d,f,e,g⟩=>⟨b,p,a,d,f,e,(k b p _ a).2 g⟩⟩
 .funext c x
  exact propext ⟨λ⟨b,p,a,d,f,e,g⟩=>⟨b,p,a,d,f,e,(n b p _ a).1 g⟩,λ⟨b,p,a,d,f,e,g⟩=>⟨b,p,a,d,f,e,(n b p _ a).2 g⟩⟩
 .funext c
  exact propext ⟨λ⟨b,p,a,d,f,e⟩=>⟨b,p,a,d,by rwa[j b p a]at f,by rwa[q]at e⟩,λ⟨b,p,a,d,f,e⟩=>⟨b,p,a,d,by rwa[j b p a],by rwa[q]⟩⟩
theorem dj.grow(H:dj P E bJ σ ρ m w)(g:lP m m'):dj P E bJ σ ρ m' w/\az ρ m'=az ρ m:=by
 have c:∀b p,ρ b=Z p->m'.blk b=m.blk b:=λb p a=>g.blk b (H.kH.oe b p a)
 have a:=Li c g.bI g.home g.floor g.opn g.deaf;refine⟨⟨H.kH.HN g.next c g.bI g.base g.home,H.rest,by rw[a];exact H.apart,H.pS,H.gi.fr g.fr.1 ρ.le_refl (λ_ _=>rfl),g.fr.2.2 H.wf,H.Ps.step H.wf H.apart g.fr.1 (λ_ _=>rfl) (by rw[a];exact eZ.refl _ _),by rw[a];exact H.ew⟩,a⟩
def jU (o:iK)(ev:cd->ab)(v:ab):ab:=
 match o.op with
 | .load _ x=>ev x
 | .lookup _ x _ _=>ev x
 | .slice _ x _ _ _=>ev x
 |_=>v
theorem map_eq {v}{o:Option ab}:o.map (λx=>(x,m))=Z (v,m')↔o=Z v/\m'=m:=by
 cases o with
 |none=>simp
 |some x=>simp only[dk,ah,ay];exact⟨λh=>⟨h.1,h.2.symm⟩,λh=>⟨h.1,h.2.symm⟩⟩
theorem Eh {b o n:Nat}{vs}(h:m.dP b o n=Z vs)(c:m'.blk b=m.blk b)(hm:meets m'.bI b o n=O):m'.dP b o n=Z vs:=by
 unfold Mem.dP at h⊢;simp only[c]at h⊢
 split at h
 .rename_i a;simp only[ag]at a;rw[bh (by simp only[ag];exact⟨a.1,by rw[hm];rfl⟩)];exact h
 .cases h
theorem rW {b o n:Nat}{vs}(h:m.dP b o n=Z vs):meets m.bI b o n=O/\(m.blk b).kind=1:=by
 unfold Mem.dP at h;simp only[]at h
 split at h
 .rename_i a;simp only[ag,Bool.not_eq_true',beq_iff_eq]at a;exact⟨a.2,a.1⟩
 .cases h
theorem LH {t p v}(h:kY P t p m=Z v):∃b o n,p=.pointer (Z ⟨b,o,none⟩)/\(m.blk b).kind=1/\meets m.bI b o n=O/\
  ∀m':Mem,m'.blk b=m.blk b->((kY P t p m').isSome=U\/meets m'.bI b o n=O)->kY P t p m'=Z v:=by
 unfold kY at h
 split at h
 .rename_i b o
  split at h
  .rename_i e;obtain⟨n,k,h⟩:=bM.1 h;obtain⟨l,c,rfl⟩:=aD.1 h;have d:=rW c;refine⟨b,o,n,rfl,d.2,d.1,λm' f a=>?_⟩;have i:meets m'.bI b o n=O:=by
    rcases a with a|a
    .unfold kY at a;simp only[e,k,dw,Option.isSome_map]at a;obtain⟨r,j⟩:=sH.1 a;exact(rW j).1
    .exact a
   unfold kY;simp only[e,k,dw,Eh c f i,dk]
  .rename_i e;obtain⟨l,c,h⟩:=bM.1 h;have d:=rW c;refine⟨b,o,1,rfl,d.2,d.1,λm' f a=>?_⟩;have i:meets m'.bI b o 1=O:=by
    rcases a with a|a
    .unfold kY at a;simp only[e]at a;obtain⟨r,j⟩:=sH.1 a;obtain⟨q,g,_⟩:=bM.1 j;exact(rW g).1
    .exact a
   unfold kY;simp only[e,Eh c f i,dw,h]
  .cases h
 .cases h
theorem Ef {t x k v}{ok:Bool}(h:jA P t x k ok m=Z v):
  (∀m',jA P t x k ok m'=Z v)\/∃b,x=.map (Z b)/\(m.blk b).kind=2/\m.bQ b=U/\∀m':Mem,m'.blk b=m.blk b->((jA P t x k ok m').isSome=U\/m'.bQ b=U)->jA P t x k ok m'=Z v:=by
 unfold jA at h
 split at h
 .rename_i p q r s g
  split at h
  .rename_i z i f;cases r with
   |none=>
    left
    intro m';unfold jA;simp only[g,i,f];exact h
   |some b=>
    right
    simp only[]at h
    split at h
    .rename_i u e
     split at e
     .rename_i d;simp only[ag,beq_iff_eq]at d;refine⟨b,rfl,d.1,d.2,λm' j a=>?_⟩;have n:m'.bQ b=U:=by
       rcases a with a|a
       .unfold jA at a;simp only[g,i,f]at a
        split at a
        .rename_i o c
         split at c
         .rename_i l;simp only[ag]at l;exact l.2
         .cases c
        .cases a
       .exact a
      unfold jA;simp only[g,i,f];rw[bh (by rw[j,d.1,n];rfl),j];simp only[ah]at e;subst e;exact h
     .cases e
    .cases h
  .cases h
 .cases h
theorem GZ {t x lo hi}{m':Mem}(a:∀b,oS x=Z b->m'.blk b=m.blk b):jv P t x lo hi m'=jv P t x lo hi m:=by
 unfold jv
 split
 .rename_i b o len c d;rw[a b rfl]
 .rfl
 .rfl
 .rfl
def Px (mk:Nat->ab):Prop:=(mk=λβ=>ptrTo β 0)\/(∃l c,c≠dp/\mk=λβ=> .slice (Z ⟨β,0,none⟩) l c)\/(mk=λβ=> .map (Z β))
theorem aV.back:∀{n:Nat}{v u y:ab},ρ.le bK->VR ρ n v y->aV bK v u->aV ρ v u:=by
 intro n
 induction n with
 |zero=>intro v u y _ h _;exact h.elim
 |succ n C=>
  intro v u y j h d;have list:∀{l w r:List ab},bP (VR ρ n) l w->bP (aV bK) l r->bP (aV ρ) l r:=by
   intro l
   induction l with
   |nil=>intro w r _ m;cases r<;>simp_all [bP]
   |cons a l z=>
    intro w r g m;cases w with
    |nil=>exact g.elim
    |cons F w=>cases r with
     |nil=>exact m.elim
     |cons b r=>exact⟨C j g.1 m.1,z g.2 m.2⟩
  cases v with
  |pointer a=>cases a with
   |none=>exact(aG rfl).2 ((aG rfl).1 d)
   |some a=>
    obtain⟨p,g,m,_⟩:=h;obtain⟨q,i,o,A⟩:=cQ.1 d;rw[j _ _ g]at i;cases i;exact cQ.2 ⟨_,g,m,A⟩
  |slice a l c=>cases a with
   |none=>exact(aG rfl).2 ((aG rfl).1 d)
   |some a=>
    obtain⟨p,_,g,m,_⟩:=h;obtain⟨q,B,i,o,A⟩:=cp.1 d;rw[j _ _ g]at i;cases i;exact cp.2 ⟨_,B,g,o,A⟩
  |map a=>cases a with
   |none=>exact(aG rfl).2 ((aG rfl).1 d)
   |some a=>
    obtain⟨p,g,m⟩:=h;obtain⟨q,i,o⟩:=jG.1 d;rw[j _ _ g]at i;cases i;exact jG.2 ⟨_,g,o⟩
  |func E f c=>
   obtain⟨_,_,_,g,m⟩:=h;obtain⟨D,B,e,i,o⟩:=gA.1 d;exact gA.2 ⟨D,B,e,list g i,list m o⟩
  |iface t x=>
   obtain⟨_,_,g⟩:=h;obtain⟨s,e,i⟩:=gB.1 d;exact gB.2 ⟨s,e,C j g i⟩
  |agg cs=>
   obtain⟨_,_,g⟩:=h;obtain⟨s,e,i⟩:=iz.1 d;exact iz.2 ⟨s,e,list g i⟩
  |tuple cs=>
   obtain⟨_,_,g⟩:=h;obtain⟨s,e,i⟩:=fw.1 d;exact fw.2 ⟨s,e,list g i⟩
  |bool b=>exact(aG rfl).2 ((aG rfl).1 d)
  |int k b=>exact(aG rfl).2 ((aG rfl).1 d)
  |string b=>exact(aG rfl).2 ((aG rfl).1 d)
  |nilFunc=>exact(aG rfl).2 ((aG rfl).1 d)
  |nilIface=>exact(aG rfl).2 ((aG rfl).1 d)
  |float k b=>obtain⟨n,d⟩:=d;cases n with |zero=>exact d.elim|succ n=>exact⟨1,d⟩
  |complex k a b=>obtain⟨n,d⟩:=d;cases n with |zero=>exact d.elim|succ n=>exact⟨1,d⟩
  |chan r=>obtain⟨n,d⟩:=d;cases n with |zero=>exact d.elim|succ n=>exact⟨1,d⟩
theorem gq.anJ(h:gq ρ m w'){i d:Nat}{A F}(jQ:ρ i=none)(cF:i<m.next)(B:gq bK A w')(z:bK d=Z F)(C:ρ.le bK)(S:∀b p,ρ b=Z p->b≠d)
  (e:(A.blk d).kind=(m.blk i).kind/\(A.blk d).sz=(m.blk i).sz/\(A.blk d).pos=(m.blk i).pos/\(A.blk d).cs=(m.blk i).cs/\(A.blk d).es=(m.blk i).es/\(A.blk d).clock=(m.blk i).clock)
  (XQ:(m.blk i).kind≠3)(L:∀b p,ρ b=Z p->A.blk b=m.blk b)(uL:A.base<=d)(M:aP A.bI d=O/\A.home<=d)(W:(m.blk i).es=#[])
  (hv:∀v,Z v∈(m.blk i).cs->∃u,aV ρ v u):gq (ρ.put i F) m w':=by
 obtain⟨w,e2,e3,T,e5,e6⟩:=e;have y:=dz.vr jQ F;have s:∀g k,ρ.put i F g=Z k->(g=i/\k=F)\/(g≠i/\ρ g=Z k):=by
  intro g k c;unfold dz.put at c
  split at c
  .rename_i e;exact .inl ⟨e,(Option.some.inj c).symm⟩
  .rename_i e;exact .inr ⟨e,c⟩
 refine⟨λg k c=>?_,λg k c f=>?_,λg k x v c r=>?_,λg k x c E f ph=>?_,λg k c f P=>?_,λg k c f P=>?_,λX zB pq qh V G Cm q o r=>?_,λg k c=>?_,λg k c f Q=>?_⟩
 .rcases s _ _ c with⟨rfl,rfl⟩|⟨_,j⟩
  .exact cF
  .exact h.oe _ _ j
 .rcases s _ _ c with⟨rfl,rfl⟩|⟨_,j⟩
  .obtain⟨D,t,g3⟩:=B.cells d _ z (by rw[w];exact f);exact⟨D.trans e2,by rw[<-T];exact t,g3⟩
  .exact h.cells _ _ j f
 .rcases s _ _ c with⟨rfl,rfl⟩|⟨_,j⟩
  .have E:(m.blk g).kind=1/\(m.blk g).cs[x]?=Z (Z v):=by
    unfold Mem.cell at r
    split at r
    .rename_i f;cases R:(m.blk g).cs[x]? with
     |none=>simp[R]at r
     |some u=>cases u<;>simp[R]at r;subst r;exact⟨f.1,rfl⟩
    .cases r
   have EK:A.cell d x=Z v:=by
    unfold Mem.cell;rw[bh ⟨by rw[w];exact E.1,eH M.1 x⟩,T,E.2];rfl
   obtain⟨N,D,t⟩:=B.lZ d _ x v z EK;obtain⟨u,n,hu⟩:=hv v (List.mem_of_getElem? E.2);exact⟨N,D,(aV.back C hu t).iX y⟩
  .obtain⟨N,h1,h2⟩:=h.lZ _ _ _ _ j r;exact⟨N,h1,h2.iX y⟩
 .rcases s _ _ c with⟨rfl,rfl⟩|⟨_,j⟩
  .exact B.thaw d _ x z E (by rw[w];exact f) uL
  .exact h.thaw _ _ _ j E f ph
 .rcases s _ _ c with⟨rfl,rfl⟩|⟨_,j⟩
  .obtain⟨K,D,t⟩:=B.maps d _ z (by rw[w];exact f) (by unfold Mem.bQ;rw[M.1];simpa using M.2);rw[e5,W]at t;refine⟨K,by rw[<-e6];exact D,?_⟩;rw[W];cases hh:K.toList with
   |nil=>trivial
   |cons a l=>rw[hh]at t;exact t.elim
  .obtain⟨K,D,t⟩:=h.maps _ _ j f P;exact⟨K,D,t.mono λ_ _ x=>⟨x.1.iX y,x.2.1.iX y,x.2.2⟩⟩
 .rcases s _ _ c with⟨rfl,rfl⟩|⟨_,j⟩
  .exact absurd f XQ
  .exact h.mJ _ _ j f P
 .rcases s _ _ G with⟨rfl,rfl⟩|⟨arW,H⟩<;>rcases s _ _ Cm with⟨rfl,rfl⟩|⟨arV,J⟩
  .exact absurd rfl V
  .have :=B.sep d zB _ qh (Ne.symm (S _ _ J)) z (C _ _ J) (by rw[w];exact q) (by rw[L _ _ J];exact o) r;rw[w,L _ _ J]at this;exact this
  .have :=B.sep X d pq _ (S _ _ H) (C _ _ H) z (by rw[L _ _ H];exact q) (by rw[w];exact o) r;rw[w,L _ _ H]at this;exact this
  .exact h.sep _ _ _ _ V H J q o r
 .rcases s _ _ c with⟨rfl,rfl⟩|⟨_,j⟩
  .exact B.sX _ _ z
  .exact h.sX _ _ j
 .rcases s _ _ c with⟨rfl,rfl⟩|⟨_,j⟩
  .exact B.vars _ _ z (by rw[w];exact f) (by rw[e3];exact Q)
  .exact h.vars _ _ j f Q
end
section
variable {P:aE}{E:Perm}{bJ:ar}{σ:pj}{ρ bK:dz}{m m':Mem}{w w':ar}
def Mem.shut(m:Mem):Mem:={m with floor:=m.next,opn:=[],home:=m.next,base:=m.next}
theorem gq.shut(h:gq ρ m w):gq ρ m.shut w:=
 ⟨h.oe,h.cells,h.lZ,λb p o a _ _ d=>absurd (h.oe b p a) (Nat.not_lt.2 d),λb p a _ c=>absurd (h.oe b p a) (Nat.not_lt.2 (Mem.nC c).2),λb p a _ c=>absurd (h.oe b p a) (Nat.not_lt.2 (Mem.nC c).2),h.sep,h.sX,h.vars⟩
theorem RY (h:gq ρ m w):(∀b o,(az ρ m.shut).rd b o->(az ρ m).rd b o)/\(∀b o,¬(az ρ m.shut).wr b o)/\(∀b,¬(az ρ m.shut).ob b):=
 ⟨λ_ _ x=>x,λc o ⟨b,p,a,_,_,_,f⟩=>f.2.elim (λd=>absurd (h.oe b p a) (Nat.not_lt.2 d)) (λe=>by cases e),λc ⟨b,p,a,_,_,g⟩=>absurd (h.oe b p a) (Nat.not_lt.2 (Mem.nC g).2)⟩
theorem Ws (h:gq ρ m w){c:Nat}(f:(az ρ m).ob c):w.shape? c=none:=by
 obtain⟨b,p,e,rfl,a,d⟩:=f;unfold ar.shape?;rcases a with a|a
 .obtain⟨i,g,_⟩:=h.maps b p e a d;rw[g]
 .obtain⟨_,g⟩:=h.mJ b p e a d;rw[g]
theorem Gj {R}(h:uW R w.heap.size w w')(d:∀b o,¬R.wr b o)(g:∀b,¬R.ob b){S:Perm}(f:∀b o,S.rd b o->b<w.heap.size)(c:∀b,S.ob b->b<w.heap.size/\w.shape? b=none):bC S w w':=
 ⟨h.tape,h.os,h.output,h.size,λb a=>h.shape b a,λb o e=>h.cell b o (f b o e) (d b o),λb o a=>h.sE b o a,λb a=>h.obj b (c b a).1 (g b) (c b a).2⟩
theorem ai6 (h:gq ρ m w){b o:Nat}(a:(az ρ m).rd b o):b<w.heap.size:=by
 obtain⟨_,p,c,rfl,_⟩:=a;exact h.sX _ p c
theorem alL (h:gq ρ m w){b:Nat}(a:(az ρ m).ob b):b<w.heap.size:=by
 obtain⟨_,p,c,rfl,_⟩:=a;exact h.sX _ p c
structure Rx (P:aE)(o:iK)(ev:cd->ab)(mk:Nat->ab)(kb:eh):Prop where
 form:Px mk
 op:∀m,dL P ev o m=Z (mk m.next,m.alloc kb)
 kind:kb.kind=1\/kb.kind=2
 es:kb.es=#[]
 lZ:∀{ρ:dz}{qF:cd->ab},(∀x∈o.op.operands,aV ρ (ev x) (qF x))->∀v,Z v∈kb.cs->∃u,aV ρ v u
theorem Sz {mk}(h:Px mk){f:Nat}{g}(e:aV ρ (mk f) g):∃a,ρ f=Z a/\∀{i:dz}{d:Nat},i d=Z a->aV i (mk d) g:=by
 rcases h with rfl|⟨l,c,n,rfl⟩|rfl
 .obtain⟨a,b,k,rfl⟩:=cQ.1 e;exact⟨a,b,λh=>cQ.2 ⟨a,h,rfl,rfl⟩⟩
 .obtain⟨a,m,b,k,rfl,j⟩:=cp.1 e;exact⟨a,b,λh=>cp.2 ⟨a,m,h,rfl,rfl,j⟩⟩
 .obtain⟨a,b,rfl⟩:=jG.1 e;exact⟨a,b,λh=>jG.2 ⟨a,h,rfl⟩⟩
theorem oE {mk}(h:Px mk)(a:Nat):oS (mk a)=Z a:=by
 rcases h with rfl|⟨l,c,b,rfl⟩|rfl<;>rfl
section
variable {main:Bool}{J:JT}{b:Frame}{a:Act}{k:List Item}{cs:List Frame}{ops:Array iK}{i:Nat}{rest:List Nat}{o:iK}
theorem SE (hJ:∀σ,gN P main (J σ))(ho:ops[i]?=Z o)(hw:Region.wanted o (yielded ops a.tmps)=U)(hk:b.kind≠ .early)(H:dj P E bJ σ ρ m w){ev}
  (eG:∀x∈o.op.operands,aV ρ (ev x) (a.eval x)){mk kb}(hm:Rx P o ev mk kb){f:Nat}(jQ:ρ f=none)(cF:f<m.next)(Jh:m.floor<=f)(lC:m.blk f={kb with bq:=(m.blk f).bq}){l:Nat}
  (hn:∀bK S w',ρ.le bK->(∀b,b<m.next->b≠f->bK b=ρ b)->dj P E bJ σ bK m w'->aV bK (mk f) S->J σ l ((az bK m).or E) (G (b.at (a.put o.dst S) (.inRegion ops rest::k)) cs) w'):
  J σ (l+1) ((az ρ m).or E) (G (b.at a (.inRegion ops (i::rest)::k)) cs) w:=by
 refine(hJ σ).step rfl λK kq=>?_
 have n:=H.keeps kq;have V:=n.kH.shut;obtain⟨p1,p2,p3⟩:=RY n.kH;obtain⟨nx,w',iE,⟨bK,R,S,hv,hy⟩,C,M⟩:=oC (aj _) (G6 V (aj _) eG (hm.op m.shut));obtain⟨evs,Aw,dV⟩:=M #[];have qe:∀e∈listed P b.fn a o K,pH (az ρ m) e:=λe hx=>by
  have A:=dV e (by have :=mem_listed hx;rw[Aw]at this;simpa using this);unfold pH at A⊢
  split at A
  .refine⟨A.1,?_⟩;have N:=A.2
   split at N
   .exact absurd N (p2 _ _)
   .rename_i uJ;rw[bH uJ];exact p1 _ _ N
  .exact absurd A.1 (p3 _)
  .exact A
  .exact A
 obtain⟨j,X,hmv⟩:=Sz hm.form hv;have zg:m.shut.next=m.next:=rfl;rw[zg]at X;have hK:bC ((az ρ m).or E) K w':=Gj C p2 p3 (λb o x=>x.elim (ai6 n.kH) λy=>(n.apart.cell b o y).1)
  (λb x=>x.elim (λy=>⟨alL n.kH y,Ws n.kH y⟩) λy=>⟨(n.apart.obj b y).1,(n.apart.obj b y).2.2⟩)
 have T:=n.keeps hK;have L:(m.shut.alloc kb).blk m.next={kb with bq:=m.tick}:=by rw[Mem.cC];exact bh rfl
 have QE:aP m.bI m.next=O:=by
  rcases ht:aP m.bI m.next with _|_
  .rfl
  .unfold aP at ht;obtain⟨s,V,A⟩:=List.any_eq_true.1 ht;simp only[ag,iU]at A;have :=n.wf.bI s V;omega
 have hA:∀b p,ρ b=Z p->(m.shut.alloc kb).blk b=m.blk b:=λb p hp=>by
  rw[Mem.cC,bH (by have :=n.kH.oe b p hp;show m.next≠b;omega)];rfl
 have ep:∀b p,ρ b=Z p->b≠m.next:=λb p hp=>by have :=n.kH.oe b p hp;omega
 have z:(m.blk f).kind=kb.kind/\(m.blk f).sz=kb.sz/\(m.blk f).pos=kb.pos/\(m.blk f).cs=kb.cs/\(m.blk f).es=kb.es/\(m.blk f).clock=kb.clock:=by rw[lC];exact⟨rfl,rfl,rfl,rfl,rfl,rfl⟩
 have hS:gq (ρ.put f j) m w':=T.kH.anJ jQ cF R.kH X R.le ep (by rw[L];exact⟨z.1.symm,z.2.1.symm,z.2.2.1.symm,z.2.2.2.1.symm,z.2.2.2.2.1.symm,z.2.2.2.2.2.symm⟩)
  (by rw[z.1];rcases hm.kind with h|h<;>omega) hA (aj _) ⟨QE,aj _⟩ (by rw[z.2.2.2.2.1];exact hm.es) (λv hv=>hm.lZ eG v (by rw[<-z.2.2.2.1];exact hv))
 have kj:∀x,j.d<=x->x<j.d+j.room->(m.blk f).kind=1->m.px f (x-j.d)->K.heap.size<=j.c:=by
  intro x A N h3 h4;have h5:(az bK (m.shut.alloc kb)).rd j.c x:=⟨m.next,j,X,rfl,A,N,by
   unfold Mem.px;rw[L];refine⟨z.1▸h3,eH QE _,?_⟩;rw[<-z.2.2.2.1];exact h4.2.2⟩
  rcases R.within.rd _ _ h5 with⟨t,u,F,g2,r,D,B⟩|W
  .exfalso
   have g5':m.px t (x-u.d):=B;have :=R.kH.sep t m.next u j (ep _ _ F) (R.le _ _ F) X (by rw[hA _ _ F,g5'.1];simp) (by rw[L];show kb.kind≠0;rw[<-z.1,h3];simp) g2;omega
  .exact W
 have CW:(m.blk f).kind=2->K.heap.size<=j.c:=by
  intro h3;have h5:(az bK (m.shut.alloc kb)).ob j.c:=⟨m.next,j,X,rfl,.inl (by rw[L];show kb.kind=2;rw[<-z.1,h3]),by
   unfold Mem.bQ
   show(!aP m.bI m.next&&decide (m.next<=m.next))=U
   rw[QE];simp⟩
  rcases R.within.ob _ h5 with W|W
  .exact absurd W (p3 _)
  .exact W
 have dQ:∀t u,ρ.put f j t=Z u->(t=f/\u=j)\/(t≠f/\ρ t=Z u):=by
  intro t u dN;unfold dz.put at dN
  split at dN
  .rename_i e;exact .inl ⟨e,(Option.some.inj dN).symm⟩
  .rename_i e;exact .inr ⟨e,dN⟩
 have hW:eZ (az ρ m) (az (ρ.put f j) m) K.heap.size:=by
  refine⟨λc x=>?_,λc x=>?_,λc=>?_⟩
  .rintro⟨t,u,F,rfl,r,D,B⟩;rcases dQ _ _ F with⟨rfl,rfl⟩|⟨_,q⟩
   .exact .inr (kj x r D B.1 B)
   .exact .inl ⟨t,u,q,rfl,r,D,B⟩
  .rintro⟨t,u,F,rfl,r,D,B⟩;rcases dQ _ _ F with⟨rfl,rfl⟩|⟨_,q⟩
   .exact .inr (kj x r D B.1.1 B.1)
   .exact .inl ⟨t,u,q,rfl,r,D,B⟩
  .rintro⟨t,u,F,rfl,r,D⟩;rcases dQ _ _ F with⟨rfl,rfl⟩|⟨_,q⟩
   .rcases r with r|r
    .exact .inr (CW r)
    .rw[z.1]at r;rcases hm.kind with h|h<;>omega
   .exact .inl ⟨t,u,q,rfl,r,D⟩
 have hC:uW (az ρ m) K.heap.size K w':=⟨C.tape,C.os,C.output,C.size,C.shape,λb o Q _=>C.cell b o Q (p2 b o),C.sE,λb Q _ gh=>C.obj b Q (p3 b) gh⟩;have wX:dj P E bJ σ (ρ.put f j) m w':=by
  refine⟨hS,T.rest,?_,λg hg=>let⟨p,A,N⟩:=T.pS g hg;⟨p,dz.vr jQ j _ _ A,N⟩,?_,T.wf,λt u x F gb r D B M=>?_,λc x M hr=>(hW.rd c x hr).elim (n.ew c x M) λhN=>by have :=(n.apart.cell c x (n.apart.wf c x M)).1;omega⟩
  .exact n.apart.within hW C.size C.shape
  .exact T.gi.above λb Q=>dz.NU _ _ ai
  .rcases dQ _ _ F with⟨rfl,rfl⟩|⟨_,q⟩
   .have h8:=kj x r D B.1 B;have h9:=(n.apart.cell _ _ M).1;omega
   .exact n.Ps t u x q gb r D B M
 have hvv:aV (ρ.put f j) (mk f) S:=hmv (dz.lL ..);have fA:∀g',stepG P main (G (b.at a (.inRegion ops (i::rest)::k)) cs) K=.go g' w' (listed P b.fn a o K)->
   Stepped P main ((az ρ m).or E) (G (b.at a (.inRegion ops (i::rest)::k)) cs) K ((az (ρ.put f j) m).or E) g' w' (listed P b.fn a o K):=λg' V=>
  ⟨V,hC.or,λe hx=> .inl (qe e hx).or,hW.or,(lN qe _).symm,λ_=>wX.low⟩
 have ag7:=hn (ρ.put f j) S w' (dz.vr jQ j) (λb _ Q=>dz.NU _ _ Q) wX hvv;rcases hy with rfl|⟨rfl,hu,rfl⟩
 .exact⟨_,w',_,_,fA _ (stepG_value ho hw hk iE),ag7⟩
 .exfalso
  have :=oE hm.form m.shut.next;rw[hu]at this;cases this
end
end
def fZ (o:iK):Bool:=
 match o.op with
 | .load .. | .lookup .. | .slice .. | .alloc _| .box .. | .buildSlice .. | .makeSlice .. | .makeMap .. =>U
 |_=>O
inductive fj (P:aE)(o:iK)(ev:cd->ab)(v:ab)(m:Mem):Prop
 |pure (h:∀m,dL P ev o m=Z (v,m))
 |look (hl:looks o=U) (h:dL P ev o m=Z (v,m))
 |make (mk:Nat->ab) (kb:eh) (β:Nat) (hm:Rx P o ev mk kb) (hv:v=mk β) (cF:β<m.next) (Jh:m.floor<=β) (hb:m.blk β={kb with bq:=(m.blk β).bq})
section
variable {P:aE}{o:iK}{ev:cd->ab}{v:ab}{m m':Mem}
theorem Pb {ρ x a}(h:aV ρ x a):∀v,Z v∈x.cells.toList.map Z->∃u,aV ρ v u:=by
 intro v c;obtain⟨y,b,e⟩:=List.mem_map.1 c;cases e;obtain⟨i,f⟩:=List.mem_iff_getElem?.1 b;obtain⟨u,_,d⟩:=h.cells.get f;exact⟨u,d⟩
theorem Am {ρ l a}(h:bP (aV ρ) l a):∀v,Z v∈l.map Z->∃u,aV ρ v u:=by
 intro v c;obtain⟨y,b,e⟩:=List.mem_map.1 c;cases e;obtain⟨i,f⟩:=List.mem_iff_getElem?.1 b;obtain⟨u,_,d⟩:=h.get f;exact⟨u,d⟩
theorem fj.made{mk kb}(e:fZ o=U)(hm:Rx P o ev mk kb)(d:Wf m)(h:dL P ev o m=Z (v,m'))(a:kb.live:=by refine And.intro ?_ dA;intro x b;first |(cases b;done)|(obtain⟨y,_,c⟩:=List.mem_map.1 b;rw[<-c];simp)):lP m m'/\fj P o ev v m'/\(fZ o=O->∀m,dL P ev o m=Z (v,m)):=by
 rw[hm.op m]at h;simp only[ah,ay]at h;obtain⟨rfl,rfl⟩:=h;refine⟨lP.alloc _ _ a,.make mk kb m.next hm rfl (Nat.lt_succ_self _) d.fl ?_,λh=>by rw[e]at h;cases h⟩;rw[Mem.cC,bh rfl]
theorem fj.looked(b:fZ o=U)(a:looks o=U)(h:dL P ev o m=Z (v,m'))(c:m'=m):lP m m'/\fj P o ev v m'/\(fZ o=O->∀m,dL P ev o m=Z (v,m)):=by
 subst c;exact⟨lP.refl _,.look a h,λh=>by rw[b]at h;cases h⟩
set_option maxHeartbeats 1000000 in
theorem WN(K:fI o=U)(F:Wf m)(h:dL P ev o m=Z (v,m')):lP m m'/\fj P o ev v m'/\(fZ o=O->∀m,dL P ev o m=Z (v,m)):=by
 have still:∀{f:Option ab},(∀m,dL P ev o m=f.map λv=>(v,m))->lP m m'/\fj P o ev v m'/\(fZ o=O->∀m,dL P ev o m=Z (v,m)):=λ{f} q=>by
  rw[q]at h;obtain⟨rfl,rfl⟩:=map_eq.1 h;exact⟨lP.refl _,.pure λm=>by rw[q];rfl,λ_ m=>by rw[q];rfl⟩
 have one:∀{u:ab},(∀m,dL P ev o m=Z (u,m))->lP m m'/\fj P o ev v m'/\(fZ o=O->∀m,dL P ev o m=Z (v,m)):=λ{u} q=>still (f:=Z u) q
 unfold fI at K
 split at K
 .rename_i x g;exact one λm=>by unfold dL;rw[g]
 .rename_i x g;exact one λm=>by unfold dL;rw[g]
 .rename_i c x y g;cases p:ev c with
  |bool t=>exact one (u:=if t then ev x else ev y) λm=>by unfold dL;rw[g];simp only[p]
  |_=>unfold dL at h;rw[g]at h;simp only[p]at h;cases h
 .rename_i s x f g;exact still λm=>by unfold dL;rw[g]
 .rename_i s x f g;exact still λm=>by unfold dL;rw[g]
 .rename_i t i g;cases p:ev t with
  |tuple vs=>exact still (f:=vs[i]?) λm=>by unfold dL;rw[g];simp only[p]
  |_=>unfold dL at h;rw[g]at h;simp only[p]at h;cases h
 .rename_i u t x g;exact still λm=>by unfold dL;rw[g]
 .rename_i op t x y u g;cases op with
  |eql=>
   cases p:tk P t (isConst x) (isConst y) (ev x) (ev y)with
   |some b=>exact one (u:=.bool b) λm=>by unfold dL;rw[g];simp only[p]
   |none=>exact still (f:=dv P ev o) λm=>by unfold dL;rw[g];simp only[p]
  |neq=>
   cases p:tk P t (isConst x) (isConst y) (ev x) (ev y)with
   |some b=>exact one (u:=.bool (!b)) λm=>by unfold dL;rw[g];simp only[p]
   |none=>exact still (f:=dv P ev o) λm=>by unfold dL;rw[g];simp only[p]
  |_=>exact still λm=>by unfold dL;rw[g]
 .rename_i t x g;cases E:P.underlying t with
  |none=>unfold dL at h;rw[g]at h;simp only[E]at h;cases h
  |some d=>
   cases d with
   |interface _=>unfold dL at h;rw[g]at h;simp only[E]at h;cases h
   |_=>exact one (u:=.iface t (ev x)) λm=>by unfold dL;rw[g];simp only[E]
 .rename_i fn f c g;exact one λm=>by unfold dL;rw[g]
 .rename_i x t a ok g;exact still λm=>by unfold dL;rw[g]
 .rename_i x g;cases p:ev x with
  |pointer a=>cases a with
   |none=>unfold dL at h;rw[g]at h;simp only[p]at h;cases h
   |some a=>exact one (u:=.pointer (Z a)) λm=>by unfold dL;rw[g];simp only[p]
  |func fn first S=>
   cases fn with
   |method name=>
    cases q:(first[0]?:Option ab)with
    |none=>unfold dL at h;rw[g]at h;simp only[p,q]at h;cases h
    |some r=>
     by_cases hm:(gP P r name).isSome=U
     .exact one (u:=.func (.method name) first S) λm=>by unfold dL;rw[g];simp only[p,q,hm,if_true]
     .unfold dL at h;rw[g]at h;simp only[p,q,hm]at h;cases h
   |_=>unfold dL at h;rw[g]at h;simp only[p]at h;cases h
  |_=>unfold dL at h;rw[g]at h;simp only[p]at h;cases h
 .rename_i t x i g;cases p:xQ P t (ev x) (ev i)with
  |some u=>exact one (u:=u) λm=>by unfold dL;rw[g];simp only[p]
  |none=>exact still (f:=dv P ev o) λm=>by unfold dL;rw[g];simp only[p]
 .rename_i t x i g;exact still λm=>by unfold dL;rw[g]
 .rename_i t x lo X mx g;refine fj.looked (by unfold fZ;rw[g]) (by unfold looks;rw[g]) h ?_;unfold dL at h;rw[g]at h;cases mx with
  |some _=>cases h
  |none=>
   simp only[]at h
   split at h
   .simp only[ah,ay]at h;exact h.2.symm
   .exact(map_eq.1 h).2
 .rename_i t ps g;exact still λm=>by unfold dL;rw[g]
 .rename_i t x g;refine fj.looked (by unfold fZ;rw[g]) (by unfold looks;rw[g]) h ?_;unfold dL at h;rw[g]at h;exact(map_eq.1 h).2
 .rename_i t x k ok g;refine fj.looked (by unfold fZ;rw[g]) (by unfold looks;rw[g]) h ?_;unfold dL at h;rw[g]at h;exact(map_eq.1 h).2
 .rename_i e g;cases A:iT P e with
  |none=>unfold dL at h;rw[g]at h;simp only[A]at h;cases h
  |some z=>
   refine fj.made (by unfold fZ;rw[g]) (mk:=λw=>ptrTo w 0) (kb:={kind:=1,sz:=0,cs:=z.cells.toList.map Z,pos:=1}) ⟨.inl rfl,λm=>by unfold dL;rw[g];simp only[A];rfl,.inl rfl,rfl,λ{ρ qF} _ v B=>?_⟩ F h;have :=(kl A).1;exact Am (jo (ρ:=ρ) this) v B
 .rename_i e x g;refine fj.made (by unfold fZ;rw[g]) (mk:=λw=>ptrTo w 0) (kb:={kind:=1,sz:=0,cs:=(ev x).cells.toList.map Z,pos:=1}) ⟨.inl rfl,λm=>by unfold dL;rw[g];rfl,.inl rfl,rfl,λ{ρ qF} H v B=>?_⟩ F h;exact Pb (H x (by rw[g];simp[Op.operands])) v B
 .rename_i t n ps g;have j:=h;unfold dL at j;rw[g]at j;simp only[]at j;unfold bW at j
  split at j
  .rename_i e E
   split at j
   .rename_i size z D A
    split at j
    .cases j
    .rename_i ja;obtain⟨r,W,_⟩:=aD.1 j;refine fj.made (by unfold fZ;rw[g]) (mk:=λw=> .slice (Z ⟨w,0,none⟩) n n) (kb:={kind:=1,sz:=size,cs:=r.toList.map Z}) ⟨.inr (.inl ⟨n,n,ai,rfl⟩),λm=>?_,.inl rfl,rfl,λ{ρ qF} H v B=>?_⟩ F h
     .unfold dL;rw[g];simp only[];unfold bW;simp only[E,D,A];rw[bH ja,W];rfl
     .have hp:=Ad (ρ:=ρ) (ev:=ev) (qF:=qF) (ps:=ps) (λx J=>H x (by rw[g];exact J));obtain⟨r',_,Au⟩:=zn hp (v9 A _) W;exact Am Au v B
   .cases j
  .cases j
 .rename_i t l c g;have j:=h;unfold dL at j;rw[g]at j;simp only[]at j;unfold gC at j
  split at j
  .rename_i e V T E M N
   split at j
   .rename_i i z X A
    split at j
    .rename_i p;refine fj.made (by unfold fZ;rw[g]) (mk:=λw=> .slice (Z ⟨w,0,none⟩) V.toNat T.toNat) (kb:={kind:=1,sz:=i.size,cs:=(((Array.range (T.toNat*i.size)).map (z.cells[·%z.cells.size]!)).toList.map Z)}) ⟨.inr (.inl ⟨V.toNat,T.toNat,by unfold dp;omega,rfl⟩),λm=>?_,.inl rfl,rfl,λ{ρ qF} H v B=>?_⟩ F h
     .unfold dL;rw[g];simp only[];unfold gC;rw[M,N];simp only[E,X,A];rw[bh p]
     .exact Am (v9 (ρ:=ρ) A _) v B
    .cases j
   .cases j
  .cases j
 .rename_i t r g;cases r with
  |some _=>unfold dL at h;rw[g]at h;cases h
  |none=>
   refine fj.made (by unfold fZ;rw[g]) (mk:=λw=> .map (Z w)) (kb:={kind:=2}) ⟨.inr (.inr rfl),λm=>by unfold dL;rw[g],.inr rfl,rfl,λ{ρ qF} H v B=>by cases B⟩ F h
 .rename_i b mM mH g;have L:b=.min\/b=.max\/b=.len:=by
   cases b<;>first |exact .inl rfl|exact .inr (.inl rfl)|exact .inr (.inr rfl)|cases K
  have R:(∀m,dL P ev o m=(dv P ev o).map λv=>(v,m))->lP m m'/\fj P o ev v m'/\(fZ o=O->∀m,dL P ev o m=Z (v,m)):=λq=>still q
  rcases L with rfl|rfl|rfl
  .exact R λm=>by unfold dL;rw[g]
  .exact R λm=>by unfold dL;rw[g]
  .have j:=h;unfold dL at j;rw[g]at j;simp only[]at j
   split at j
   .rename_i C _;cases C
   .rename_i C _;cases C
   .rename_i C _;cases C
   .rename_i x _ J;cases D:(match(mH[0]?).bind P.underlying,ev x with |some (.slice _),.slice _ n _=>Z n|_,_=>none:Option Nat)with
    |some n=>
     refine one (u:=goInt n) λm=>?_
     unfold dL;rw[g];simp only[J]
     split at D
     .rename_i Q G;simp only[ah]at D;subst D;simp only[Q,G]
     .cases D
    |none=>
     refine R λm=>?_
     unfold dL;rw[g];simp only[J]
     split at D
     .cases D
     .rename_i hn
      split
      .rename_i Q G;exact absurd G (λG=>hn _ _ _ _ Q G)
      .rfl
   .rename_i C;cases C
   .rename_i C;cases C
   .cases j
 .cases K
end
section
variable {P:aE}{o:iK}{ev:cd->ab}{v:ab}{m m':Mem}
theorem Kx {t x lo hi u}(d:∀b,oS x=Z b->(m.blk b).kind≠0->m'.blk b=m.blk b):jv P t x lo hi m=Z u->jv P t x lo hi m'=Z u:=by
 unfold jv
 split
 .rename_i b o len e g
  split
  .rename_i l i f n k j
   split
   .intro h
    split at h
    .rename_i a;rw[bh]
     .exact h
     .refine⟨a.1,a.2.1,?_⟩;rcases a.2.2 with c|c
      .exact .inl c
      .refine .inr ?_;rw[d b rfl ai];exact c
    .cases h
   .exact id
  .exact id
 .exact id
 .exact id
 .exact id
theorem fj.grow(h:fj P o ev v m)(H:Wf m)(g:lP m m'):fj P o ev v m':=by
 have A:∀b,(m.blk b).kind≠0->b<m.next:=λb d=>by
  rcases Nat.lt_or_ge b m.next with f|f
  .exact f
  .exact absurd (H.zo b f) d
 cases h with
 |pure h=>exact .pure h
 |make mk kb β hm J e L d=>exact .make mk kb β hm J (aZ e g.next) (by rw[g.floor];exact L) (by rw[g.blk β e];exact d)
 |look e h=>
  refine .look e ?_;unfold looks at e
  split at e
  .rename_i t x j;unfold dL at h⊢;rw[j]at h⊢;simp only[]at h⊢;have f:=(map_eq.1 h).1;obtain⟨b,c,n,i,z,y,B⟩:=LH f;rw[B m' (g.blk b (A b ai)) (.inr (by rw[g.bI];exact y))];rfl
  .rename_i t x k ok j;unfold dL at h⊢;rw[j]at h⊢;simp only[]at h⊢;have f:=(map_eq.1 h).1;rcases Ef f with K|⟨b,i,z,C,B⟩
   .rw[K m'];rfl
   .rw[B m' (g.blk b (A b ai)) (.inr (by unfold Mem.bQ at C⊢;rw[g.bI,g.home];exact C))];rfl
  .rename_i t x D E F j;unfold dL at h⊢;rw[j]at h⊢;cases F with
   |some _=>cases h
   |none=>
    simp only[]at h⊢;have r:∀u,jv P t (ev x) (D.map ev) (E.map ev) m=Z u->jv P t (ev x) (D.map ev) (E.map ev) m'=Z u:=by
     exact λu=>Kx λb d z=>g.blk b (A b z)
    split at h
    .rename_i u s;rw[r u s];simp only[ah,ay]at h⊢;exact⟨h.1,trivial⟩
    .rename_i s;have q:=(map_eq.1 h).1;have p:plain (ev x)=U:=by
      unfold dv at q
      split at q
      .rename_i G;exact Array.all_eq_true_iff_forall_mem.1 G x (by rw[j];simp[Op.operands])
      .cases q
     have w:∀b,oS (ev x)=Z b->False:=λb d=>by
      cases i:ev x with
      |pointer a=>rw[i]at d p;cases a<;>simp[oS,plain,de]at d p
      |slice a l c=>rw[i]at d p;cases a<;>simp[oS,plain,de]at d p
      |map a=>rw[i]at d p;cases a<;>simp[oS,plain,de]at d p
      |_=>rw[i]at d;cases d
     rw[GZ (m:=m) (m':=m') λb d=>(w b d).elim,s];simp only[q];rfl
  .cases e
theorem LB {a}(c:looks o=U)(h:dL P ev o m=Z (v,a)):a=m:=by
 unfold looks at c
 split at c
 .rename_i t x b;unfold dL at h;rw[b]at h;exact(map_eq.1 h).2
 .rename_i t x k ok b;unfold dL at h;rw[b]at h;exact(map_eq.1 h).2
 .rename_i t x e f d b;unfold dL at h;rw[b]at h;cases d with
  |some _=>cases h
  |none=>
   simp only[]at h
   split at h
   .simp only[ah,ay]at h;exact h.2.symm
   .exact(map_eq.1 h).2
 .cases c
theorem De (a:looks o=O):jU o ev v=v:=by
 unfold jU
 split
 .rename_i b;unfold looks at a;rw[b]at a;cases a
 .rename_i b;unfold looks at a;rw[b]at a;cases a
 .rename_i b;unfold looks at a;rw[b]at a;cases a
 .rfl
theorem fj.check(h:fj P o ev v m)(z:m.next<=m'.next)(g:∀b,oS (jU o ev v)=Z b->m'.blk b=m.blk b)(B:looks o=U->(dL P ev o m').isSome=U)
  (D:looks o=O->∀b,oS v=Z b->m'.floor<=b):fj P o ev v m':=by
 cases h with
 |pure h=>exact .pure h
 |make mk kb β hm s E K F=>
  cases a:looks o with
  |true=>
   have :=LB a (hm.op m);have l:=congrArg Mem.next this;simp at l
  |false=>
   have r:oS v=Z β:=by rw[s];exact oE hm.form β
   rw[De a]at g;exact .make mk kb β hm s (aZ E z) (D a β r) (by rw[g β r];exact F)
 |look a h=>
  have e:=B a;refine .look a ?_;have i:=a;unfold looks at i
  split at i
  .rename_i t x f;have d:jU o ev v=ev x:=by unfold jU;rw[f]
   rw[d]at g;unfold dL at h e⊢;rw[f]at h e⊢;simp only[Option.isSome_map]at h e⊢;have p:=(map_eq.1 h).1;obtain⟨b,c,n,j,C,A,q⟩:=LH p;rw[q m' (g b (by rw[j];rfl)) (.inl e)];rfl
  .rename_i t x k ok f;have d:jU o ev v=ev x:=by unfold jU;rw[f]
   rw[d]at g;unfold dL at h e⊢;rw[f]at h e⊢;simp only[Option.isSome_map]at h e⊢;have p:=(map_eq.1 h).1;rcases Ef p with l|⟨b,j,C,G,q⟩
   .rw[l m'];rfl
   .rw[q m' (g b (by rw[j];rfl)) (.inl e)];rfl
  .rename_i t x H J w f;have d:jU o ev v=ev x:=by unfold jU;rw[f]
   rw[d]at g;unfold dL at h⊢;rw[f]at h⊢;cases w with
   |some _=>cases h
   |none=>
    simp only[]at h⊢;rw[GZ (m:=m) (m':=m') g]
    split at h
    .rename_i u y;simp only[ah,ay]at h⊢;exact⟨h.1,trivial⟩
    .rename_i y;rw[(map_eq.1 h).1];rfl
  .cases i
end
def dI (ops:Array iK)(i:Nat):Option Tmp:=(ops[i]?).bind (·.dst)
structure mN (ops:Array iK)(bN:Array Nat)(nt:Nat):Prop where
 ord:zL ops bN nt
 nt:nt<=512
 uniq:∀i j d,i≠j->dI ops i=Z d->dI ops j≠Z d
 afe:∀(i j:Nat) (o:iK) (d:Tmp),ops[i]?=Z o->d∈lK ops o->j<ops.size->dI ops j=Z d->B bN i j\/B bN j i
 chain:∀(k l a b:Nat),k<l->(aF ops)[k]?=Z a->(aF ops)[l]?=Z b->B bN b a
 steady:∀i,iG ops bN (aF ops) i=U->∀o,ops[i]?=Z o->∀d∈lK ops o,∀j,dI ops j=Z d->B bN i j
section
variable {ops:Array iK}{bN:Array Nat}{nt:Nat}
theorem O2 {i:Nat}{d:Tmp}(h:dI ops i=Z d):i<ops.size:=by
 unfold dI at h;obtain⟨o,a,_⟩:=bM.1 h;exact dO a
theorem gm {i:Nat}:i∈aF ops↔∃o,ops[i]?=Z o/\fI o=O:=by
 unfold aF;rw[List.mem_filter,List.mem_range]
 constructor
 .rintro⟨c,b⟩;rw[Array.getElem?_eq_getElem c]at b;exact⟨_,Array.getElem?_eq_getElem c,by simpa using b⟩
 .rintro⟨o,a,d⟩;exact⟨dO a,by rw[a];simp[d]⟩
theorem EI:(aF ops).Pairwise (·< ·):=List.Pairwise.filter _ List.pairwise_lt_range
theorem Mx {d}(o:∀{i j k:Nat},i<ops.size->B d i j->B d j k->B d i k):∀{l:List Nat},(∀x∈l,x<ops.size)->zy d l=U->∀(k m a b:Nat),k<m->l[k]?=Z a->l[m]?=Z b->B d b a
 | [],_,_,k,m,a,b,_,h,_=>by simp at h
 | [x],_,_,k,m,a,b,f,e,c=>by
  cases m with
  |zero=>omega
  |succ m=>simp at c
 |x::y::l,p,g,k,m,a,b,f,e,c=>by
  simp only[zy,ag]at g;have q:B d y x:=g.1;have n:=Mx o (l:=y::l) (λz r=>p z (by simp[r])) g.2;cases m with
  |zero=>omega
  |succ m=>
   simp only[List.getElem?_cons_succ]at c;cases k with
   |succ k=>
    simp only[List.getElem?_cons_succ]at e;exact n k m a b ai e c
   |zero=>
    simp only[List.getElem?_cons_zero,ah]at e;subst e;cases m with
    |zero=>simp only[List.getElem?_cons_zero,ah]at c;subst c;exact q
    |succ m=>
     have :=n 0 (m+1) y b ai rfl c;refine o (p b ?_) this q;exact List.mem_cons_of_mem _ (List.mem_of_getElem? c)
theorem VK (w:nt<=512)(G:zy (Region.before ops) (aF ops)=U)(F:tidy ops (Region.before ops)=U)(E:IJ ops (Region.before ops) nt=U)(D:steady ops (Region.before ops) (aF ops)=U):mN ops (Region.before ops) nt:=by
 have v:=V1 E;have r:∀(i j:Nat) (x y:iK) (d:Tmp),ops[i]?=Z x->ops[j]?=Z y->y.dst=Z d->(i=j\/x.dst≠Z d)/\(d∈lK ops x->B (Region.before ops) i j\/B (Region.before ops) j i):=by
  intro i j x y d m f q;have s:=aB.1 F i (List.mem_range.2 (dO m));have p:=aB.1 s j (List.mem_range.2 (dO f));simp only[m,f,q,ag,Bool.or_eq_true,beq_iff_eq,bne_iff_ne,Bool.not_eq_true']at p;refine⟨p.1,λA=>?_⟩;rcases p.2 with h|h
  .have :(lK ops x).contains d=U:=by simpa using A
   rw[this]at h;cases h
  .exact h
 refine⟨v,w,λi j d z u g=>?_,λi j o d n q H g=>?_,λk l a b=>?_,λi C o n d q j g=>?_⟩
 .unfold dI at u g;obtain⟨x,m,t⟩:=bM.1 u;obtain⟨y,f,e⟩:=bM.1 g;exact(r i j x y d m f e).1.elim z λh=>h t
 .unfold dI at g;obtain⟨y,f,e⟩:=bM.1 g;exact(r i j o y d n f e).2 q
 .exact Mx (λa b c=>v.trans a b c) (λx m=>by obtain⟨o,n,_⟩:=gm.1 m;exact dO n) G k l a b
 .unfold dI at g;obtain⟨y,f,e⟩:=bM.1 g;have s:=aB.1 D i (List.mem_range.2 (dO n));simp only[C,Bool.not_true,Bool.false_or,n]at s;have p:=aB.1 s j (List.mem_range.2 (dO f));simp only[f,e,Bool.or_eq_true,Bool.not_eq_true']at p;rcases p with h|h
  .have :(lK ops o).contains d=U:=by simpa using q
   rw[this]at h;cases h
  .exact h
theorem tV {p}:∀{l:List Nat},(∀(k m a b:Nat),k<m->l[k]?=Z a->l[m]?=Z b->p b=U->p a=U)->∀(k x:Nat),l[k]?=Z x->(p x=U↔k<(l.filter p).length)
 | [],_,k,x,h=>by simp at h
 |y::l,hd,k,x,h=>by
  have g:=tV (l:=l) (p:=p) λk m a b j o n=>hd (k+1) (m+1) a b ai (by simpa using o) (by simpa using n)
  rw[List.filter_cons];cases c:p y with
  |true=>
   simp only[if_true,List.length_cons];cases k with
   |zero=>simp only[List.getElem?_cons_zero,ah]at h;subst h;simp[c]
   |succ k=>
    simp only[List.getElem?_cons_succ]at h;rw[g k x h];omega
  |false=>
   have f:∀z∈l,p z=O:=λz d=>by
    obtain⟨m,i⟩:=List.mem_iff_getElem?.1 d;cases e:p z with
    |false=>rfl
    |true=>rw[hd 0 (m+1) y z ai rfl (by simpa using i) e]at c;cases c
   have q:l.filter p=[]:=List.filter_eq_nil_iff.2 λz d=>by rw[f z d];simp
   simp only[cK,if_false,q,List.length_nil,Nat.not_lt_zero,iff_false];cases k with
   |zero=>simp only[List.getElem?_cons_zero,ah]at h;subst h;simp[c]
   |succ k=>
    simp only[List.getElem?_cons_succ]at h;rw[f x (List.mem_of_getElem? h)];simp
theorem mN.re(h:mN ops bN nt){i k x:Nat}(hi:i<ops.size)(d:(aF ops)[k]?=Z x):B bN i x↔k<cX bN (aF ops) i:=by
 unfold cX;exact tV (p:=λh=>(bN.getD i 0).testBit h) (λk m a b c g f e=>h.ord.trans hi e (h.chain k m a b c g f)) k x d
theorem mN.yH(h:mN ops bN nt){i k x:Nat}(f:(aF ops)[k]?=Z x):B bN x i↔sN bN (aF ops) i<=k:=by
 have :=tV (p:=λh=> !(bN.getD h 0).testBit i) (l:=aF ops) (λk m a b d n e c=>by
  have q:b<ops.size:=by obtain⟨o,g,_⟩:=gm.1 (List.mem_of_getElem? e);exact dO g
  cases j:(bN.getD a 0).testBit i with
  |false=>simp
  |true=>
   have :B bN b i:=h.ord.trans q (h.chain k m a b d n e) j;unfold B at this;rw[this]at c;cases c) k x f
 unfold B sN;cases c:(bN.getD x 0).testBit i with
 |true=>rw[c]at this;simp only[Bool.not_true,cK,false_iff,Nat.not_lt]at this;exact⟨λ_=>this,λ_=>rfl⟩
 |false=>rw[c]at this;simp only[Bool.not_false,true_iff]at this;exact⟨λh=>(by cases h),λh=>absurd this (Nat.not_lt.2 h)⟩
theorem mN.Hz(h:mN ops bN nt){i:Nat}(hi:i<ops.size):cX bN (aF ops) i<=sN bN (aF ops) i:=by
 rcases Nat.lt_or_ge (sN bN (aF ops) i) (cX bN (aF ops) i)with g|b
 .have c:cX bN (aF ops) i<=(aF ops).length:=List.length_filter_le _ _;have a:=List.getElem?_eq_getElem (show sN bN (aF ops) i<(aF ops).length by omega);have f:=(h.re hi a).2 g;have e:=(h.yH (i:=i) a).2 (aj _);have d:=h.ord.trans hi f e;have :=h.ord.lt hi d;omega
 .exact b
theorem mN.AD(h:mN ops bN nt){i j:Nat}(hi:i<ops.size)(b:B bN i j):cX bN (aF ops) j<=cX bN (aF ops) i:=by
 have g:=h.ord.lt hi b;rcases Nat.lt_or_ge (cX bN (aF ops) i) (cX bN (aF ops) j)with f|c
 .have d:cX bN (aF ops) j<=(aF ops).length:=List.length_filter_le _ _;have a:=List.getElem?_eq_getElem (show cX bN (aF ops) i<(aF ops).length by omega);have e:=(h.re ai a).2 f;have :=(h.re hi a).1 (h.ord.trans hi b e);omega
 .exact c
end
section
variable {P:aE}{ops:Array iK}{bN:Array Nat}{nt:Nat}{call:cH}{r:Ss}{mX:Tm}
def aiq (P:aE)(nt:Nat)(ops:Array iK)(call:cH)(t:oV)(rest:iR)(tm:Tm)(m:Mem)(df:Df)(r:Ss):Prop:=
 match t with
 |(0,i,slot)=>∃dc m' nS,sg P call nt ops i tm m df dc m' nS/\rest call dc m' nS=Z r/\(slot≠0->m.pend=[])
 |(1,i,slot)=>∃o x,ops[i]?=Z o/\om o=Z x/\nt<=slot/\slot<512/\rest call (u5 slot (if cY ops o tm then jX m (dG tm x)else undef) tm) m df=Z r
 |(_,i,slot)=>∃o x,ops[i]?=Z o/\om o=Z x/\rest call tm m df=Z r/\(cY ops o tm=U->yP (di slot tm) (jX m (dG tm x))=U/\
   (looks o=U->(dL P (dG tm) o m).isSome=U)/\(looks o=O->∀b,oS (dG tm x)=Z b->m.floor<=b))
theorem qL {t rest F}(h:A8 P nt ops t rest=Z F){tm m df}(a:F call tm m df=Z r):aiq P nt ops call t rest tm m df r:=by
 obtain⟨k,i,slot⟩:=t
 match k with
 |0=>
  unfold A8 at h;simp only[]at h
  split at h
  .rename_i f w;cases h;cases slot with
   |zero=>
    obtain⟨s,e,d,q,p⟩:=DV w a;exact⟨s,e,d,q,p,λh=>absurd rfl h⟩
   |succ n=>
    replace a:P0 f call tm m df=Z r:=a
    unfold P0 at a
    split at a
    .rename_i z;obtain⟨s,e,d,q,p⟩:=DV w a;exact⟨s,e,d,q,p,λ_=>z⟩
    .cases a
  .cases h
 |1=>
  unfold A8 at h;simp only[]at h
  split at h
  .rename_i o j
   split at h
   .rename_i x g
    split at h
    .rename_i c;cases h;simp only[ag,Fs,lh,iU]at c;exact⟨o,x,j,g,c.1.2,c.2,a⟩
    .cases h
   .cases h
  .cases h
 |k+2=>
  unfold A8 at h;simp only[]at h
  split at h
  .rename_i o j
   split at h
   .rename_i x g;cases h;unfold uq at a;refine⟨o,x,j,g,?_⟩;cases hw:cY ops o tm with
    |false=>
     rw[hw]at a;exact⟨a,λh=>by cases h⟩
    |true=>
     rw[hw]at a;simp only[if_true]at a;cases v:looks o with
     |true=>
      simp only[v,if_true]at a
      split at a
      .rename_i c;simp only[ag]at c;exact⟨a,λ_=>⟨c.1,λ_=>c.2,λh=>by cases h⟩⟩
      .cases a
     |false=>
      simp only[v,cK,if_false]at a;cases u:yP (di slot tm) (jX m (dG tm x))with
      |false=>
       rw[u]at a;cases a
      |true=>
       rw[u]at a;cases y:oS (dG tm x)with
       |none=>
        rw[y]at a;exact⟨a,λ_=>⟨rfl,λh=>(by cases h),λ_ b l=>by cases l⟩⟩
       |some b=>
        rw[y]at a;simp only[Bool.true_and]at a
        by_cases hle:m.floor.ble b=U
        .rw[bh hle]at a;refine⟨a,λ_=>⟨rfl,λh=>(by cases h),λ_ A l=>?_⟩⟩;cases l;simpa[Fs]using hle
        .rw[bH hle]at a;cases a
   .cases h
  .cases h
theorem mh {t T F}(h:iL P nt ops (t::T)=Z F):∃rest,iL P nt ops T=Z rest/\A8 P nt ops t rest=Z F:=by
 unfold iL at h
 split at h
 .rename_i rest a;exact⟨rest,a,h⟩
 .cases h
theorem N3 {i:Nat}{tm b m m' df c}(h:sg P call nt ops i tm m df b m' c):∃v,b=ID (dI ops i) v tm/\∀d,dI ops i=Z d->d<512:=by
 obtain⟨o,f,a,_,h⟩:=h;have e:dI ops i=o.dst:=by unfold dI;rw[f];rfl
 rw[e];rcases h with⟨_,v,_,rfl⟩|⟨_,rfl,_⟩
 .exact⟨v,rfl,a.2⟩
 .exact⟨undef,rfl,a.2⟩
theorem jO {d}{t:Nat}(b:∀x,d=Z x->x<512)(a:t<512)(v:ab)(tm:Tm):di t (ID d v tm)=if d=Z t then v else di t tm:=by
 unfold ID;cases d with
 |none=>simp
 |some d=>simp only[qA (b d rfl) a,ah]
theorem xB (l:nt<=512):∀{T:List oV}{F:iR}{tm:Tm}{m:Mem}{df:Df},iL P nt ops T=Z F->F call tm m df=Z r->∀t,t<nt->(∀i x,(0,i,x)∈T->dI ops i≠Z t)->di t r.tm=di t tm
 | [],F,tm,m,df,h,b,t,f,_=>by
  unfold iL at h;cases h;unfold ac6 at b;cases b;rfl
 |u::T,F,tm,m,df,h,b,t,f,g=>by
  obtain⟨rest,q,p⟩:=mh h;have d:=qL p b;have c:=λ{j m' e} (a:rest call j m' e=Z r)=>xB l q a t f λi x n=>g i x (List.mem_cons_of_mem _ n)
  obtain⟨k,i,slot⟩:=u
  match k with
  |0=>
   obtain⟨j,m',e,s,a,_⟩:=d;rw[c a];obtain⟨v,rfl,w⟩:=N3 s;rw[jO w ai,bH (g i slot dA)]
  |1=>
   obtain⟨o,x,_,_,z,y,a⟩:=d;rw[c a,qA y ai,bH ai]
  |k+2=>
   obtain⟨o,x,_,_,a,_⟩:=d;exact c a
def Ex (ops:Array iK)(nt:Nat)(r:Ss)(mX:Tm)(S:Nat->Prop)(tm:Tm):Prop:=
 ∀t,t<nt->(∀i,S i->dI ops i=Z t->di t tm=di t r.tm)/\((∀i,S i->dI ops i≠Z t)->di t tm=di t mX)
def Seen (ops:Array iK)(bN:Array Nat)(nt:Nat)(r:Ss)(mX:Tm)(i:Nat)(tm:Tm):Prop:=
 ∀o,ops[i]?=Z o->∀t∈lK ops o,t<nt->(∀j,B bN i j->dI ops j=Z t->di t tm=di t r.tm)/\((∀j,B bN i j->dI ops j≠Z t)->di t tm=di t mX)
theorem PO (R:mN ops bN nt){S tm}(h:Ex ops nt r mX S tm){i:Nat}(l:∀j,B bN i j->S j)(k:∀j,S j->¬B bN j i):Seen ops bN nt r mX i tm:=by
 intro o f t e d;refine⟨λj b a=>(h t d).1 j (l j b) a,λg=>(h t d).2 λj b a=>?_⟩;rcases R.afe i j o t f e (O2 a) a with c|c
 .exact g j c a
 .exact k j b c
theorem PN {o:iK}{t}(h:cd.tmp t∈o.op.operands):t∈lK ops o:=by
 unfold lK;rw[List.mem_append]
 left
 rw[List.mem_filterMap];exact⟨.tmp t,by simpa using h,rfl⟩
theorem Dz {o:iK}{j:Nat}{want:Bool}{g}(h:o.guard=Z (j,want))(a:dI ops j=Z g):g∈lK ops o:=by
 unfold lK;rw[List.mem_append]
 right
 rw[h];unfold dI at a;simp[a]
theorem Q0 {o tm b}(h:∀t∈lK ops o,t<nt->di t tm=di t b)(c:∀x∈o.op.operands,s9 nt P.globals.size x=U):∀x∈o.op.operands,dG tm x=dG b x:=by
 intro x a;cases x with
 |tmp t=>exact h t (PN a) (by have :=c _ a;simpa[s9,lh]using this)
 |_=>rfl
theorem yC {o tm d}(h:∀t∈lK ops o,t<nt->di t tm=di t d)(e:∀j want,o.guard=Z (j,want)->∃g,dI ops j=Z g/\g<nt):cY ops o tm=cY ops o d:=by
 unfold cY;cases a:o.guard with
 |none=>rfl
 |some p=>
  obtain⟨j,want⟩:=p;obtain⟨g,c,f⟩:=e j want a;have b:=c;unfold dI at b;simp only[b];rw[h g (Dz a c) f]
theorem af9 {o}(i:looks o=U){ev qF}(h:∀x∈o.op.operands,ev x=qF x)(m:Mem):dL P ev o m=dL P qF o m:=by
 unfold looks at i
 split at i
 .rename_i t x a;have :=h x (by rw[a];simp[Op.operands]);unfold dL;rw[a];simp only[this]
 .rename_i t x k ok a;have e:=h x (by rw[a];simp[Op.operands]);have d:=h k (by rw[a];simp[Op.operands]);unfold dL;rw[a];simp only[e,d]
 .rename_i t x f j c a;have e:=h x (by rw[a];simp[Op.operands]);have d:f.map ev=f.map qF:=by
   cases f with
   |none=>rfl
   |some y=>simp only[dk];rw[h y (by rw[a];simp[Op.operands])]
  have l:j.map ev=j.map qF:=by
   cases j with
   |none=>rfl
   |some y=>simp only[dk];rw[h y (by rw[a];simp[Op.operands])]
  have n:c.map ev=c.map qF:=by
   cases c with
   |none=>rfl
   |some y=>simp only[dk];rw[h y (by rw[a];simp[Op.operands])]
  have r:dv P ev o=dv P qF o:=by
   unfold dv;have q:o.op.operands.all (λx=>plain (ev x))=o.op.operands.all (λx=>plain (qF x)):=by
    rw[Bool.eq_iff_iff,Array.all_eq_true_iff_forall_mem,Array.all_eq_true_iff_forall_mem];exact⟨λg y b=>by rw[<-h y b];exact g y b,λg y b=>by rw[h y b];exact g y b⟩
   have p:execOp ev o=execOp qF o:=by
    unfold execOp;rw[a];simp only[e,d,l,n]
   rw[q,p]
  unfold dL;rw[a];cases c with
  |some _=>rfl
  |none=>simp only[e,d,l,r]
 .cases i
theorem GJ {o:iK}{ev qF}(h:∀x∈o.op.operands,ev x=qF x)(v:ab):jU o ev v=jU o qF v:=by
 unfold jU
 split
 .rename_i t x a;exact h x (by rw[a];simp[Op.operands])
 .rename_i t x k ok a;exact h x (by rw[a];simp[Op.operands])
 .rename_i t x c d b a;exact h x (by rw[a];simp[Op.operands])
 .rfl
structure GA (P:aE)(ops:Array iK)(bN:Array Nat)(nt:Nat)(r:Ss)(mX:Tm)(i:Nat)(GO:Tm)(v:ab)(m:Mem)(tm:Tm):Prop where
 op:∃o,ops[i]?=Z o/\aeQ P nt o/\(∀j want,o.guard=Z (j,want)->∃g,dI ops j=Z g/\g<nt)/\(∀d,o.dst=Z d->d<nt->v=di d r.tm)/\
  ((cY ops o GO=O/\v=undef)\/(cY ops o GO=U/\fj P o (dG GO) v m/\(fZ o=O->∀m,dL P (dG GO) o m=Z (v,m))/\(iG ops bN (aF ops) i=U->nt+i<512/\∃m₁,Wf m₁/\Mv m₁ m/\fj P o (dG GO) v m₁/\di (nt+i) tm=jX m₁ (jU o (dG GO) v))))
 seen:Seen ops bN nt r mX i GO
theorem RZ {a b:Nat}(h:yP (.int .i64 (.ofNat a)) (.int .i64 (.ofNat b))=U):a=b:=by
 simp only[yP]at h;exact aA h
theorem Nz {m m'}(c:Wf m)(hm:Mv m m'){x}(h:yP (jX m x) (jX m' x)=U){b:Nat}(d:oS x=Z b):m'.blk b=m.blk b/\jX m x=jX m' x:=by
 unfold jX at h⊢;rw[d]at h⊢;simp only[]at h⊢;have e:=RZ h;refine⟨?_,by rw[e]⟩;rcases hm.blk b with a|a
 .exact a
 .have :=c.bq b;omega
theorem GL {o x}(h:om o=Z x){tm v}(b:∀d,o.dst=Z d->di d tm=v):dG tm x=jU o (dG tm) v:=by
 unfold om at h;unfold jU
 split at h
 .rename_i t y a;cases h;rw[a]
 .rename_i t y k ok a;cases h;rw[a]
 .rename_i t y i j g a;cases h;rw[a]
 .rename_i f e c;cases hd:o.dst with
  |none=>rw[hd]at h;cases h
  |some d=>
   rw[hd]at h;cases h
   split
   .rename_i a;exact absurd a (f _ _)
   .rename_i a;exact absurd a (e _ _ _ _)
   .rename_i a;exact absurd a (c _ _ _ _ _)
   .exact b d hd
end
section
variable {P:aE}{ops:Array iK}{bN:Array Nat}{nt:Nat}{call:cH}{r:Ss}{mX:Tm}
def Ak (ops:Array iK)(bN:Array Nat)(nt:Nat)(L:List Nat):List oV:=L.flatMap λi=>if iG ops bN (aF ops) i then[(0,i,0),(1,i,nt+i)]else[(0,i,0)]
def Lin (ops:Array iK)(bN:Array Nat):(Nat->Prop)->List Nat->Prop
 |_,[]=>True
 |S,i::L=>(∀j,B bN i j->S j)/\(∀j,S j->¬B bN j i)/\¬S i/\(∃o,ops[i]?=Z o/\fI o=U)/\Lin ops bN (λx=>S x\/x=i) L
theorem Lin.ad4:∀{L:List Nat}{S:Nat->Prop},Lin ops bN S L->∀x,S x->x∉L
 | [],S,_,x,_=>by simp
 |i::L,S,h,x,b=>by
  obtain⟨_,_,d,_,c⟩:=h;intro a;rcases aN.1 a with rfl|a
  .exact d b
  .exact Lin.ad4 c x (.inl b) a
theorem WO {o}(e:fI o=U):(∀x a b,o.op≠ .call {callee:=.value x,args:=a,argTypes:=b})/\(∀x n a b,o.op≠ .call {callee:=.invoke x n,args:=a,argTypes:=b})/\(∀c,o.op≠ .defer c):=by
 refine⟨λx a b d=>?_,λx n a b d=>?_,λc d=>?_⟩<;>(unfold fI at e;rw[d]at e;cases e)
theorem Ol {o tm m m' df b v}(j:fI o=U)(h:AY P call o tm m df v m' b):dL P (dG tm) o m=Z (v,m')/\b=df:=by
 obtain⟨i,g,e⟩:=WO j;rcases h with h|⟨f,args,l,_⟩|⟨f,args,k,_⟩
 .exact h
 .rcases l with⟨x,c,d,_,_,a,_⟩|⟨x,n,c,d,_,a,_⟩
  .exact absurd a (i _ _ _)
  .exact absurd a (g _ _ _ _)
 .obtain⟨x,c,d,_,_,a,_⟩:=k;exact absurd a (e _)
def uS (P:aE)(ops:Array iK)(i:Nat)(GO:Tm)(v:ab)(β:Nat):Prop:=∃o mk kb,ops[i]?=Z o/\Rx P o (dG GO) mk kb/\v=mk β/\cY ops o GO=U
theorem NZ (R:mN ops bN nt){i:Nat}{o:iK}(a:ops[i]?=Z o){t:Tmp}(c:t∈lK ops o):dI ops i≠Z t:=by
 intro d;have b:=dO a;rcases R.afe i i o t a c b d with h|h<;>(have :=R.ord.lt b h;omega)
theorem Ex.step(R:mN ops bN nt){S tm}(h:Ex ops nt r mX S tm){i:Nat}(hi:¬S i){v}(g:∀d,dI ops i=Z d->d<512)(f:∀d,dI ops i=Z d->d<nt->v=di d r.tm):Ex ops nt r mX (λx=>S x\/x=i) (ID (dI ops i) v tm):=by
 intro t c;have k:=R.nt;rw[jO g ai]
 by_cases he:dI ops i=Z t
 .rw[bh he];exact⟨λ_ _ _=>f t he c,λe=>absurd he (e i (.inr rfl))⟩
 .rw[bH he];refine⟨λj a b=>?_,λe=>(h t c).2 λj a=>e j (.inl a)⟩;rcases a with a|rfl
  .exact(h t c).1 j a b
  .exact absurd b he
theorem Ex.slot{S tm}(h:Ex ops nt r mX S tm)(c:nt<=512){slot:Nat}(d:nt<=slot)(b:slot<512)(v:ab):Ex ops nt r mX S (u5 slot v tm):=by
 intro t a;rw[qA b ai,bH ai];exact h t a
theorem Ex.iff{S S' tm}(h:Ex ops nt r mX S tm)(e:∀x,S x↔S' x):Ex ops nt r mX S' tm:=by
 have :S=S':=funext λx=>propext (e x)
 rw[<-this];exact h
set_option maxHeartbeats 1000000 in
theorem xM(R:mN ops bN nt){T}:∀{L:List Nat}{S:Nat->Prop}{F:iR}{tm:Tm}{m:Mem}{df:Df},Lin ops bN S L->(∀x y,(0,x,y)∈T->¬S x/\x∉L)->
  iL P nt ops (Ak ops bN nt L++T)=Z F->F call tm m df=Z r->Wf m->Ex ops nt r mX S tm->
  ∃F' dc m',iL P nt ops T=Z F'/\F' call dc m' df=Z r/\lP m m'/\Ex ops nt r mX (λx=>S x\/x∈L) dc/\(∀j,j∉L->nt+j<512->di (nt+j) dc=di (nt+j) tm)/\
   ∃(uF:Nat->Tm) (I:Nat->ab),(∀i∈L,GA P ops bN nt r mX i (uF i) (I i) m' dc)/\(∀i∈L,∀a,uS P ops i (uF i) (I i) a->m.next<=a/\a<m'.next)/\
    (∀i∈L,∀j∈L,i≠j->∀a,uS P ops i (uF i) (I i) a->¬uS P ops j (uF j) (I j) a)
 | [],S,F,tm,m,df,_,_,hT,hf,hw,hex=>⟨F,tm,m,hT,hf,lP.refl m,hex.iff λx=>by simp,λ_ _ _=>rfl,λ_=>tm,λ_=>undef,dA,dA,dA⟩
 |i::L,S,F,tm,m,df,ap6,C,hT,hf,hw,hex=>by
  obtain⟨l1,l2,l3,⟨o,D,hl⟩,l5⟩:=ap6;have rY:=R.nt;have c:i∉L:=Lin.ad4 l5 i (.inr rfl);have LQ:Seen ops bN nt r mX i tm:=PO R hex l1 l2;have ed:dI ops i=o.dst:=by unfold dI;rw[D];rfl
  have Av:∀{x y:Nat},((0,x,y):oV)∈(if iG ops bN (aF ops) i then[((1,i,nt+i):oV)]else[])++(Ak ops bN nt L++T)->x≠i:=by
   intro x y k;rcases List.mem_append.1 k with h|h
   .split at h
    .simp at h
    .simp at h
   .rcases List.mem_append.1 h with h|h
    .unfold Ak at h;obtain⟨z,hz,h⟩:=List.mem_flatMap.1 h;have :x=z:=by
      split at h
      .simp at h;exact h.1
      .simp at h;exact h.1
     subst this;rintro rfl;exact c hz
    .rintro rfl;exact(C _ _ h).2 dA
  have amL:iL P nt ops ((0,i,0)::((if iG ops bN (aF ops) i then[((1,i,nt+i):oV)]else[])++(Ak ops bN nt L++T)))=Z F:=by
   rw[<-hT]
   congr 1
   unfold Ak;rw[List.flatMap_cons]
   split<;>simp
  obtain⟨F1,N,ht1⟩:=mh amL;obtain⟨Nt,n,df1,mQ,OP,_⟩:=qL ht1 hf;obtain⟨vv,ar1,W⟩:=N3 mQ;have arQ:=mQ;obtain⟨o',rE,pB,ku,OR⟩:=mQ;rw[D]at rE;cases rE;have gW:∀d,dI ops i=Z d->d<nt->di d Nt=di d r.tm:=λd l p=>(xB rY N OP d p λx y k he=>R.uniq x i d (Av k) he l).symm
  obtain⟨v,hv,pJ,J,dV⟩:∃v,Nt=ID (dI ops i) v tm/\df1=df/\lP m n/\((cY ops o tm=O/\v=undef)\/(cY ops o tm=U/\fj P o (dG tm) v n/\(fZ o=O->∀m,dL P (dG tm) o m=Z (v,m))/\dL P (dG tm) o m=Z (v,n))):=by
   rcases OR with⟨q,v,l,rfl⟩|⟨q,rfl,rfl,rfl⟩
   .obtain⟨e,rfl⟩:=Ol hl l;obtain⟨g1,g2,g3⟩:=WN hl hw e;exact⟨v,by rw[ed],rfl,g1,.inr ⟨q,g2,g3,e⟩⟩
   .exact⟨undef,by rw[ed],rfl,lP.refl _,.inl ⟨q,rfl⟩⟩
  subst pJ;have QD:∀d,dI ops i=Z d->d<nt->v=di d r.tm:=λd l p=>by
   rw[<-gW d l p,hv,jO W (aZ p rY),bh l]
  have QC:Wf n:=J.fr.2.2 hw;have OQ:Ex ops nt r mX (λx=>S x\/x=i) Nt:=by rw[hv];exact hex.step R l3 W QD
  have fJ:∀t∈lK ops o,t<nt->di t Nt=di t tm:=λt ht p=>by
   rw[hv,jO W (aZ p rY),bH (NZ R D ht)]
  obtain⟨F2,TR,K,OO,acS,OG,amo⟩:∃F2 TR,iL P nt ops (Ak ops bN nt L++T)=Z F2/\F2 call TR n df1=Z r/\Ex ops nt r mX (λx=>S x\/x=i) TR/\
    (iG ops bN (aF ops) i=U->cY ops o tm=U->di (nt+i) TR=jX n (jU o (dG tm) v))/\(∀j,j≠i->nt+j<512->di (nt+j) TR=di (nt+j) tm):=by
   have wR:∀d,dI ops i=Z d->d<nt:=λd l=>R.ord.dst i o d D (by rw[<-ed];exact l)
   have ael:∀j,nt+j<512->di (nt+j) Nt=di (nt+j) tm:=λj hj=>by
    rw[hv,jO W hj,bH];intro he;have e:nt+j<nt:=wR _ he;omega
   by_cases B:iG ops bN (aF ops) i=U
   .rw[bh B]at N;obtain⟨F2,K,H⟩:=mh N;obtain⟨o2,x,b,k,s1,X,OO⟩:=qL H OP;rw[D]at b;cases b;refine⟨F2,_,K,OO,OQ.slot rY s1 X _,λ_ q=>?_,λj hj Q=>?_⟩
    .rw[qA X X,bh rfl,bh]
     .congr 1
      rw[GL k (v:=v) λd l=>by rw[hv,jO W (W d (by rw[ed];exact l)),bh (by rw[ed];exact l)]];exact GJ (λy hy=>Q0 fJ pB.1 y hy) v
     .rw[yC fJ (λj want hg=>let⟨g,e,E,_⟩:=ku j want hg;⟨g,e,E⟩)];exact q
    .rw[qA X Q,bH ai];exact ael j Q
   .rw[bH B]at N;exact⟨F1,Nt,N,OP,OQ,λh=>absurd h B,λj _ Q=>ael j Q⟩
  obtain⟨F',dc,m',hF',Cu,EH,aqe,aem,uF,I,hp,hm1,zQ⟩:=xM R l5 (λx y k=>⟨λh=>by
   rcases h with h|rfl
   .exact(C x y k).1 h
   .exact(C x y k).2 dA,λh=>(C x y k).2 (by simp[h])⟩) K OO QC acS
  refine⟨F',dc,m',hF',Cu,J.trans EH,aqe.iff λx=>by simp only[aN];exact⟨λh=>h.elim (λh=>h.elim .inl λh=> .inr (.inl h)) λh=> .inr (.inr h),λh=>h.elim (λh=> .inl (.inl h)) λh=>h.elim (λh=> .inl (.inr h)) .inr⟩,
   λj hj Q=>by rw[aem j (λh=>hj (by simp[h])) Q,amo j (λh=>hj (by simp[h])) Q],λx=>if x=i then tm else uF x,λx=>if x=i then v else I x,λx k=>?_,λx k a f=>?_,λx k y hy J3 a f oH=>?_⟩
  .rcases aN.1 k with rfl|u
   .simp only[if_true];refine⟨⟨o,D,pB,λj want hg=>let⟨g,e,E,_⟩:=ku j want hg;⟨g,e,E⟩,λd l p=>QD d (by rw[ed];exact l) p,?_⟩,LQ⟩;rcases dV with h|⟨e,E,h3,s⟩
    .exact .inl h
    .have p:iG ops bN (aF ops) x=U->nt+x<512:=λB=>by
      rw[bh B]at N;obtain⟨_,_,H⟩:=mh N;obtain⟨_,_,_,_,_,X,_⟩:=qL H OP;exact X
     refine .inr ⟨e,E.grow QC EH,h3,λB=>⟨p B,n,QC,EH.fr.w.mv,E,?_⟩⟩;rw[aem x c (p B)];exact OG B e
   .have M:x≠i:=λh=>c (h▸u)
    simp only[M,if_false];exact hp x u
  .rcases aN.1 k with rfl|u
   .simp only[if_true]at f;obtain⟨o2,mk,kb,b,V,G,q⟩:=f;rw[D]at b;cases b;rcases dV with⟨e,_⟩|⟨_,_,_,s⟩
    .rw[e]at q;cases q
    .rw[V.op m]at s;simp only[ah,ay]at s;have e1:oS v=Z m.next:=by rw[<-s.1];exact oE V.form _
     have e2:oS v=Z a:=by rw[G];exact oE V.form _
     rw[e1]at e2;cases e2;refine⟨aj _,?_⟩;have :=EH.next;have h5:n.next=m.next+1:=by rw[<-s.2];rfl
     omega
   .have M:x≠i:=λh=>c (h▸u)
    simp only[M,if_false]at f;have :=hm1 x u a f;have :=J.next;omega
  .
   have Gs:∀z∈L,∀a,uS P ops z (uF z) (I z) a->n.next<=a:=λz hz a f=>(hm1 z hz a f).1
   have Xy:∀a,uS P ops i tm v a->a<n.next:=λa f=>by
    obtain⟨o2,mk,kb,b,V,G,q⟩:=f;rw[D]at b;cases b;rcases dV with⟨e,_⟩|⟨_,_,_,s⟩
    .rw[e]at q;cases q
    .rw[V.op m]at s;simp only[ah,ay]at s;have e1:oS v=Z m.next:=by rw[<-s.1];exact oE V.form _
     have e2:oS v=Z a:=by rw[G];exact oE V.form _
     rw[e1]at e2;cases e2;have h5:n.next=m.next+1:=by rw[<-s.2];rfl
     omega
   rcases aN.1 k with hxe|u<;>rcases aN.1 hy with hye|A
   .exact J3 (hxe.trans hye.symm)
   .have M:y≠i:=λh=>c (h▸A)
    simp only[hxe,if_true]at f;simp only[M,if_false]at oH;have :=Gs y A a oH;have :=Xy a f;omega
   .have M:x≠i:=λh=>c (h▸u)
    simp only[M,if_false]at f;simp only[hye,if_true]at oH;have :=Gs x u a f;have :=Xy a oH;omega
   .have e:x≠i:=λh=>c (h▸u)
    have E:y≠i:=λh=>c (h▸A)
    simp only[e,if_false]at f;simp only[E,if_false]at oH;exact zQ x u y A J3 a f oH
end
section
variable {P:aE}{X:Ext}{main:Bool}{J:JT}{F:Mem->Mem->Prop}{ops:Array iK}{bN:Array Nat}{nt:Nat}{call:cH}{r:Ss}{mX:Tm}
theorem Fc {T}:∀{C:List Nat}{F:iR}{tm:Tm}{m:Mem}{df:Df},iL P nt ops ((C.map λi=>((2,i,nt+i):oV))++T)=Z F->F call tm m df=Z r->
  ∃a,iL P nt ops T=Z a/\a call tm m df=Z r/\∀i∈C,∃o x,ops[i]?=Z o/\om o=Z x/\(cY ops o tm=U->yP (di (nt+i) tm) (jX m (dG tm x))=U/\
   (looks o=U->(dL P (dG tm) o m).isSome=U)/\(looks o=O->∀b,oS (dG tm x)=Z b->m.floor<=b))
 | [],F,tm,m,df,h,d=>⟨F,h,d,dA⟩
 |i::C,F,tm,m,df,h,d=>by
  obtain⟨t,l,f⟩:=mh h;obtain⟨o,x,g,e,s,k⟩:=qL f d;obtain⟨a,q,p,n⟩:=Fc l s;refine⟨a,q,p,λj c=>?_⟩;rcases aN.1 c with rfl|c
  .exact⟨o,x,g,e,k⟩
  .exact n j c
theorem GA.grow{i:Nat}{c v m m' tm b}(h:GA P ops bN nt r mX i c v m tm)(k:Wf m)(g:lP m m')(l:nt+i<512->di (nt+i) b=di (nt+i) tm):GA P ops bN nt r mX i c v m' b:=by
 obtain⟨⟨o,x,u,t,s,q⟩,p⟩:=h;refine⟨⟨o,x,u,t,s,q.imp id ?_⟩,p⟩;rintro⟨B,A,z,y⟩;refine⟨B,A.grow k g,z,λn=>?_⟩;obtain⟨k1,a,j,f,e,d⟩:=y n;exact⟨k1,a,j,f.trans g.fr.w.mv,e,by rw[l k1];exact d⟩
theorem GA.aip(R:mN ops bN nt){i:Nat}{p v m m' tm a S}(h:GA P ops bN nt r mX i p v m tm)(hm:Mv m m')(l:nt+i<512->di (nt+i) a=di (nt+i) tm)
  (k:Ex ops nt r mX S a)(hS:S i)(X1:∀j,B bN i j->S j)
  (z:iG ops bN (aF ops) i=U->∃o x,ops[i]?=Z o/\om o=Z x/\(cY ops o a=U->yP (di (nt+i) a) (jX m' (dG a x))=U/\
   (looks o=U->(dL P (dG a) o m').isSome=U)/\(looks o=O->∀b,oS (dG a x)=Z b->m'.floor<=b)))
  (e:cX bN (aF ops) i<sN bN (aF ops) i):GA P ops bN nt r mX i p v m' a:=by
 obtain⟨⟨o,c,V,T,Q,h5⟩,E⟩:=h;refine⟨⟨o,c,V,T,Q,h5.imp id ?_⟩,E⟩;rintro⟨F,g2,W,g4⟩;cases w:fZ o with
 |false=>
  have A:iG ops bN (aF ops) i=O:=by
   show(Nat.blt _ _&&(ops[i]?).any fZ)=O
   rw[c];simp[w]
  exact⟨F,.pure (W w),λ_=>W w,λz=>by rw[A]at z;cases z⟩
 |true=>
  have H:iG ops bN (aF ops) i=U:=by
   show(Nat.blt _ _&&(ops[i]?).any fZ)=U
   rw[c];simp[w,lh,e]
  obtain⟨o',x,J,hx,G⟩:=z H;rw[c]at J;cases J;obtain⟨k1,f,M,k3,L,K⟩:=g4 H;have X:∀t∈lK ops o,t<nt->di t p=di t a:=λt l e=>by
   by_cases hw:∃j,dI ops j=Z t
   .obtain⟨j,u⟩:=hw;have n:=R.steady i H o c t l j u;rw[(E o c t l e).1 j n u,(k t e).1 j (X1 j n) u]
   .have N:∀j,dI ops j≠Z t:=λj u=>hw ⟨j,u⟩
    rw[(E o c t l e).2 λj _=>N j,(k t e).2 λj _=>N j]
  have eG:∀y∈o.op.operands,dG a y=dG p y:=λy hy=>(Q0 X V.1 y hy).symm
  obtain⟨c1,c2,c3⟩:=G (by rw[<-yC X T];exact F);have ed:dI ops i=o.dst:=by unfold dI;rw[c];rfl
  have C:∀d,o.dst=Z d->di d a=v:=λd D=>by
   have e:=R.ord.dst i o d c D;rw[Q d D e];exact(k d e).1 i hS (by rw[ed];exact D)
  have q:dG a x=jU o (dG p) v:=(GL hx C).trans (GJ eG v);rw[q,l k1,K]at c1;have g:=k3.trans hm;have lC:∀b,oS (jU o (dG p) v)=Z b->m'.blk b=f.blk b:=λb n=>(Nz M g c1 n).1
  refine⟨F,L.check g.next lC (λs=>?_) (λs b n=>?_),λh=>(by cases h),λ_=>⟨k1,f,M,g,L,by rw[l k1];exact K⟩⟩
  .rw[<-af9 s eG];exact c2 s
  .refine c3 s b ?_;rw[q,De s];exact n
structure RT (nt:Nat)(ops:Array iK)(r:Ss)(mX:Tm)(ρ:dz)(D:Nat->Prop)(a:Act):Prop where
 size:a.tmps.size=nt
 done:∀t,t<nt->∀i,D i->dI ops i=Z t->aV ρ (di t r.tm) (a.tmps.getD t undef)
 old:∀t,t<nt->(∀i,D i->dI ops i≠Z t)->aV ρ (di t mX) (a.tmps.getD t undef)
theorem RT.iX{ρ d D a}(h:RT nt ops r mX ρ D a)(b:ρ.le d):RT nt ops r mX d D a:=
 ⟨h.size,λt c i f g=>(h.done t c i f g).iX b,λt c e=>(h.old t c e).iX b⟩
theorem RT.step{ρ D a}(R:mN ops bN nt)(h:RT nt ops r mX ρ D a){i:Nat}{o}(q:ops[i]?=Z o){v f}(p:aV ρ v f)(s:∀d,o.dst=Z d->d<nt->v=di d r.tm)(ds:List Deferred):
  RT nt ops r mX ρ (λx=>D x\/x=i) (Act.put ⟨a.tmps,ds⟩ o.dst f):=by
 have m:dI ops i=o.dst:=by unfold dI;rw[q];rfl
 obtain⟨u,n,k⟩:=yR ⟨a.tmps,ds⟩ o.dst f;refine⟨n.trans h.size,λt b j e g=>?_,λt b l=>?_⟩
 .rw[k t (by show t<a.tmps.size;rw[h.size];exact b)]
  by_cases c:o.dst=Z t
  .rw[bh c,<-s t c b];exact p
  .rw[bH c];rcases e with e|rfl
   .exact h.done t b j e g
   .rw[m]at g;exact absurd g c
 .have c:o.dst≠Z t:=by rw[<-m];exact l i (.inr rfl)
  rw[k t (by show t<a.tmps.size;rw[h.size];exact b),bH c];exact h.old t b λj e=>l j (.inl e)
theorem KA (R:mN ops bN nt){ρ D a}{i:Nat}{d}(k:Seen ops bN nt r mX i d)(h:RT nt ops r mX ρ D a)(n:∀j,B bN i j->D j)(m:∀j,D j->¬B bN j i){o}(g:ops[i]?=Z o):
  ∀t∈lK ops o,t<nt->aV ρ (di t d) (a.tmps.getD t undef):=by
 intro t f e
 by_cases hw:∃j,B bN i j/\dI ops j=Z t
 .obtain⟨j,c,b⟩:=hw;rw[(k o g t f e).1 j c b];exact h.done t e j (n j c) b
 .rw[(k o g t f e).2 λj c b=>hw ⟨j,c,b⟩];refine h.old t e λj l b=>?_
  rcases R.afe i j o t g f (O2 b) b with c|c
  .exact hw ⟨j,c,b⟩
  .exact m j l c
theorem V2 {E n e ρ m w}(H:dj P E n e ρ m w){a:Act}{c o}(h:∀t∈lK ops o,t<nt->aV ρ (di t c) (a.tmps.getD t undef))(i:∀x∈o.op.operands,s9 nt P.globals.size x=U):
  ∀x∈o.op.operands,aV ρ (dG c x) (a.eval x):=by
 intro x d;have b:=i x d;cases x with
 |tmp t=>
  simp only[s9,lh,iU]at b;exact h t (PN d) b
 |const v=>exact cz b
 |global g=>
  simp only[s9,lh,iU]at b;obtain⟨p,l,k,j⟩:=H.pS g b;exact cQ.2 ⟨p,l,rfl,by rw[k,j];rfl⟩
 |func f=>exact gA.2 ⟨_,_,rfl,trivial,trivial⟩
theorem uZ {ρ}{a:Act}{b o}(h:∀t∈lK ops o,t<nt->aV ρ (di t b) (a.tmps.getD t undef))(i:∀j want,o.guard=Z (j,want)->∃g,dI ops j=Z g/\g<nt)(f:a.tmps.size=nt):
  Region.wanted o (yielded ops a.tmps)=cY ops o b:=
 xz (λj want c=>let⟨g,e,d⟩:=i j want c;⟨g,e,d,h g (Dz c e) d⟩) f
end
section
variable {P:aE}{X:Ext}{main:Bool}{J:JT}{F:Mem->Mem->Prop}{ops:Array iK}{bN:Array Nat}{nt:Nat}{call:cH}{r:Ss}{mX:Tm}
def SS (ops:Array iK)(bN:Array Nat)(pre:List Nat)(i:Nat):Prop:=((∃o,ops[i]?=Z o/\fI o=U)/\cX bN (aF ops) i<pre.length)\/i∈pre
theorem cD {s i:Nat}:i∈gJ ops bN (aF ops) s↔(∃o,ops[i]?=Z o/\fI o=U)/\cX bN (aF ops) i=s:=by
 unfold gJ;rw[List.mem_filter,List.mem_range]
 constructor
 .rintro⟨c,a⟩;simp only[ag,beq_iff_eq,Array.getElem?_eq_getElem c]at a;exact⟨⟨_,Array.getElem?_eq_getElem c,by simpa using a.1⟩,a.2⟩
 .rintro⟨⟨o,b,d⟩,a⟩;exact⟨dO b,by simp[b,d,a]⟩
theorem Su {pre rest}{h:Nat}(a:aF ops=pre++h::rest):(aF ops)[pre.length]?=Z h:=by rw[a];simp
theorem Ei (R:mN ops bN nt){pre rest:List Nat}(y:aF ops=pre++rest):Lin ops bN (SS ops bN pre) (gJ ops bN (aF ops) pre.length):=by
 have s:(gJ ops bN (aF ops) pre.length).Pairwise (·< ·):=List.Pairwise.filter _ List.pairwise_lt_range;have n:∀i∈gJ ops bN (aF ops) pre.length,(∃o,ops[i]?=Z o/\fI o=U)/\cX bN (aF ops) i=pre.length:=λi b=>cD.1 b
 have V:∀j,(∃o,ops[j]?=Z o/\fI o=U)->cX bN (aF ops) j=pre.length->j∈gJ ops bN (aF ops) pre.length:=λj l P=>cD.2 ⟨l,P⟩
 have H:∀j,j∈pre->∃k,k<pre.length/\(aF ops)[k]?=Z j:=λj a=>by
  obtain⟨k,d,rfl⟩:=List.mem_iff_getElem.1 a;exact⟨k,d,by rw[y,List.getElem?_append_left d];exact List.getElem?_eq_getElem d⟩
 have S:∀i∈gJ ops bN (aF ops) pre.length,∀j,B bN i j->SS ops bN pre j\/(j∈gJ ops bN (aF ops) pre.length/\j<i):=by
  intro i b j c;obtain⟨⟨o,p,w⟩,A⟩:=n i b;have f:=dO p;have r:=R.ord.lt f c;have t:ops[j]?=Z ops[j]:=Array.getElem?_eq_getElem ai;cases E:fI ops[j]with
  |true=>
   have N:=R.AD f c;rcases Nat.lt_or_ge (cX bN (aF ops) j) pre.length with l|l
   .exact .inl (.inl ⟨⟨_,t,E⟩,l⟩)
   .exact .inr ⟨V j ⟨_,t,E⟩ ai,r⟩
  |false=>
   have K:j∈aF ops:=gm.2 ⟨_,t,E⟩;obtain⟨k,d⟩:=List.mem_iff_getElem?.1 K;have q:=(R.re f d).1 c;rw[A]at q;rw[y,List.getElem?_append_left q]at d;exact .inl (.inr (List.mem_of_getElem? d))
 have D:∀i∈gJ ops bN (aF ops) pre.length,¬SS ops bN pre i:=by
  intro i b;obtain⟨⟨o,p,w⟩,A⟩:=n i b;rintro(⟨_,h⟩|h)
  .omega
  .obtain⟨F,g,G⟩:=gm.1 (show i∈aF ops by rw[y];exact List.mem_append_left _ h);rw[p]at g;cases g;rw[w]at G;cases G
 have W:∀i∈gJ ops bN (aF ops) pre.length,∀j,SS ops bN pre j->¬B bN j i:=by
  intro i b j a c;obtain⟨⟨o,p,w⟩,A⟩:=n i b;rcases a with⟨⟨F,g,_⟩,C⟩|a
  .have :=R.AD (dO g) c;omega
  .obtain⟨k,d,T⟩:=H j a;have l:=(R.yH T).1 c;have :=R.Hz (dO p);omega
 generalize X:gJ ops bN (aF ops) pre.length=L at*;have u:∀(M m:List Nat),L=M++m->Lin ops bN (λx=>SS ops bN pre x\/x∈M) m:=by
  intro M m
  induction m generalizing M with
  |nil=>intro _;trivial
  |cons i m J=>
   intro e;have b:i∈L:=by rw[e];simp
   have C:∀x∈M,x<i:=λx v=>by
    rw[e]at s;exact(List.pairwise_append.1 s).2.2 x v i dA
   have z:∀x∈m,i<x:=λx v=>by
    rw[e]at s;exact(List.pairwise_cons.1 (List.pairwise_append.1 s).2.1).1 x v
   refine⟨λj c=>?_,λj a c=>?_,?_,(n i b).1,?_⟩
   .rcases S i b j c with h|⟨h,r⟩
    .exact .inl h
    .rw[e]at h;rcases List.mem_append.1 h with h|h
     .exact .inr h
     .rcases aN.1 h with rfl|h
      .omega
      .have :=z j h;omega
   .rcases a with a|a
    .exact W i b j a c
    .have l:=C j a;obtain⟨⟨F,g,_⟩,_⟩:=n j (by rw[e];simp[a]);have :=R.ord.lt (dO g) c;omega
   .rintro(h|h)
    .exact D i b h
    .have :=C i h;omega
   .have :=J (M++[i]) (by rw[e];simp);have Q:(λx=>SS ops bN pre x\/x∈M++[i])=λx=>(SS ops bN pre x\/x∈M)\/x=i:=by
     funext x
     simp only[List.mem_append,List.mem_singleton,or_assoc]
    rw[Q]at this;exact this
 have :=u [] L rfl;simpa using this
theorem Du:∀{rest pre:List Nat},aF ops=pre++rest->∀x y,((0,x,y):oV)∈oY ops bN (aF ops) nt pre.length rest->(x∈rest\/((∃o,ops[x]?=Z o/\fI o=U)/\pre.length<=cX bN (aF ops) x)):=by
 have f:∀s x y,((0,x,y):oV)∈Ip ops bN (aF ops) nt s->(∃o,ops[x]?=Z o/\fI o=U)/\cX bN (aF ops) x=s:=by
  intro s x y h;unfold Ip at h;obtain⟨z,i,h⟩:=List.mem_flatMap.1 h;have e:x=z:=by
   split at h
   .simp at h;exact h.1
   .simp at h;exact h.1
  subst e;exact cD.1 i
 intro rest
 induction rest with
 |nil=>
  intro pre d x y h;unfold oY at h;obtain⟨b,c⟩:=f _ _ _ h;exact .inr ⟨b,ai⟩
 |cons a rest g=>
  intro pre d x y h;unfold oY at h;rcases List.mem_append.1 h with h|h
  .obtain⟨b,c⟩:=f _ _ _ h;exact .inr ⟨b,ai⟩
  .rcases aN.1 h with h|h
   .cases h;exact .inl dA
   .rcases List.mem_append.1 h with h|h
    .unfold wD at h;obtain⟨z,_,e⟩:=List.mem_map.1 h;cases e
    .have :=g (pre:=pre++[a]) (by rw[d];simp) x y (by simpa using h);rcases this with h|⟨b,c⟩
     .exact .inl (by simp[h])
     .exact .inr ⟨b,by simp at c;omega⟩
structure Ru (P:aE)(ops:Array iK)(bN:Array Nat)(nt:Nat)(r:Ss)(mX:Tm)(s ry:Nat)(uF:Nat->Tm)(I:Nat->ab)(m:Mem)(tm:Tm):Prop where
 pend:∀i,(∃o,ops[i]?=Z o/\fI o=U)->cX bN (aF ops) i<s->s<=sN bN (aF ops) i->GA P ops bN nt r mX i (uF i) (I i) m tm
 made:∀i,(∃o,ops[i]?=Z o/\fI o=U)->cX bN (aF ops) i<s->∀β,uS P ops i (uF i) (I i) β->ry<=β/\β<m.next
 apart:∀i j,(∃o,ops[i]?=Z o/\fI o=U)->(∃o,ops[j]?=Z o/\fI o=U)->cX bN (aF ops) i<s->cX bN (aF ops) j<s->i≠j->∀β,uS P ops i (uF i) (I i) β->¬uS P ops j (uF j) (I j) β
def wI (P:aE)(J:JT)(ops:Array iK)(bN:Array Nat)(nt:Nat)(r:Ss)(mX:Tm)(ry:Nat)(pre rest:List Nat)(uF:Nat->Tm)(I:Nat->ab)(gY:Nat)(m:Mem)(df:Df)(c:Nat):Prop:=
 ∀{E:Perm}{bJ:ar}{σ:pj}{ρ:dz}{w:ar}{b:Frame}{a:Act}{k:List Item}{cs:List Frame}{l:List Nat}{D:Nat->Prop}{n:Nat},b.kind≠ .early->kV ops bN D l->
  (∀h∈pre,D h)->(∀h∈rest,¬D h)->dj P E bJ σ ρ m w->RT nt ops r mX ρ D a->bP (zP ρ) df a.defers->
  (∀i,(∃o,ops[i]?=Z o/\fI o=U)->cX bN (aF ops) i<gY->¬D i->∀β,uS P ops i (uF i) (I i) β->ρ β=none)->
  (∀gU bK w' a',ρ.le bK->(∀b,b<ry->bK b=ρ b)->dj P E bJ gU bK r.mem w'->uU nt bK r.tm r.df a'->J gU n ((az bK r.mem).or E) (G (b.at a' (.inRegion ops []::k)) cs) w')->
  J σ (n+c+l.length) ((az ρ m).or E) (G (b.at a (.inRegion ops l::k)) cs) w
theorem yB (V:∀s,gN P main (J s))(hX:rH P X)(R:mN ops bN nt){pre rest:List Nat}(K:aF ops=pre++rest){ry:Nat}{uF:Nat->Tm}{I:Nat->ab}{m:Mem}{tm:Tm}{df:Df}{c:Nat}(hN:ry<=m.next)
  (hp:Ru P ops bN nt r mX (pre.length+1) ry uF I m tm\/True)(QG:∀i,(∃o,ops[i]?=Z o/\fI o=U)->cX bN (aF ops) i<=pre.length->pre.length<=sN bN (aF ops) i->GA P ops bN nt r mX i (uF i) (I i) m tm)
  (xm:∀i,(∃o,ops[i]?=Z o/\fI o=U)->cX bN (aF ops) i<=pre.length->∀d,uS P ops i (uF i) (I i) d->ry<=d/\d<m.next)
  (Jo:∀i j,(∃o,ops[i]?=Z o/\fI o=U)->(∃o,ops[j]?=Z o/\fI o=U)->cX bN (aF ops) i<=pre.length->cX bN (aF ops) j<=pre.length->i≠j->∀d,uS P ops i (uF i) (I i) d->¬uS P ops j (uF j) (I j) d)
  (Ji:rest=[]->∀{E:Perm}{M:ar}{s:pj}{ρ:dz}{w:ar}{b:Frame}{a:Act}{k:List Item}{cs:List Frame}{D:Nat->Prop}{n:Nat},b.kind≠ .early->kV ops bN D []->dj P E M s ρ m w->RT nt ops r mX ρ D a->bP (zP ρ) df a.defers->
   (∀L p w' a',ρ.le p->(∀b,b<ry->p b=ρ b)->dj P E M L p r.mem w'->uU nt p r.tm r.df a'->J L n ((az p r.mem).or E) (G (b.at a' (.inRegion ops []::k)) cs) w')->
   J s n ((az ρ m).or E) (G (b.at a (.inRegion ops []::k)) cs) w)
  (ahi:∀h G3,rest=h::G3->∀{E:Perm}{M:ar}{s:pj}{ρ:dz}{w:ar}{b:Frame}{a:Act}{k:List Item}{cs:List Frame}{l:List Nat}{D:Nat->Prop}{n:Nat},b.kind≠ .early->kV ops bN D (h::l)->
   (∀h∈pre,D h)->(∀h∈rest,¬D h)->dj P E M s ρ m w->RT nt ops r mX ρ D a->bP (zP ρ) df a.defers->
   (∀i,(∃o,ops[i]?=Z o/\fI o=U)->cX bN (aF ops) i<=pre.length->¬D i->∀d,uS P ops i (uF i) (I i) d->ρ d=none)->
   (∀L p w' a',ρ.le p->(∀b,b<ry->p b=ρ b)->dj P E M L p r.mem w'->uU nt p r.tm r.df a'->J L n ((az p r.mem).or E) (G (b.at a' (.inRegion ops []::k)) cs) w')->
   J s (n+c+(l.length+1)) ((az ρ m).or E) (G (b.at a (.inRegion ops (h::l)::k)) cs) w):
  wI P J ops bN nt r mX ry pre rest uF I (pre.length+1) m df c:=by
 intro E M s ρ w b a k cs l
 induction l generalizing s ρ w a with
 |nil=>
  intro D n T S xT z H W wR Cp q8;have hr0:rest=[]:=by
   cases v:rest with
   |nil=>rfl
   |cons h G3=>
    exfalso
    have f:h∈aF ops:=by rw[K,v];simp
    obtain⟨o,y,_⟩:=gm.1 f;rcases S.all h (dO y)with g|g
    .exact z h (by rw[v];simp) g
    .cases g
  exact(V s).le (show n<=n+c+0 by omega) (Ji hr0 T S H W wR q8)
 |cons i l ih=>
  intro D n T S xT z H W wR Cp q8;obtain⟨d1,d2,d3,d4⟩:=S.head;have C:ops[i]?=Z ops[i]:=Array.getElem?_eq_getElem d3;have BK:∀j,D j->¬B bN j i:=λj hj u=>d2 (S.down j hj i u)
  cases F:fI ops[i]with
  |false=>
   have f:i∈aF ops:=gm.2 ⟨_,C,F⟩;rw[K]at f;rcases List.mem_append.1 f with f|f
   .exact absurd (xT i f) d2
   .cases v:rest with
    |nil=>rw[v]at f;cases f
    |cons h G3=>
     have hih:i=h:=by
      rw[v]at f;rcases aN.1 f with e|f
      .exact e
      .exfalso
       obtain⟨q,A⟩:=List.mem_iff_getElem?.1 f;have g:(aF ops)[pre.length]?=Z h:=by rw[K,v];simp
       have h2:(aF ops)[pre.length+1+q]?=Z i:=by
        rw[K,v,List.getElem?_append_right ai,show pre.length+1+q-pre.length=q+1 by omega];simpa using A
       have u:=R.chain pre.length (pre.length+1+q) h i ai g h2;exact z h (by rw[v];simp) (d1 h u)
     subst hih;exact ahi i G3 v T S xT (by rw[v]at z⊢;exact z) H W wR (λj g h2 h3=>Cp j g ai h3) q8
  |true=>
   have j8:∃o,ops[i]?=Z o/\fI o=U:=⟨_,C,F⟩;have XX:cX bN (aF ops) i<=pre.length:=by
    rcases Nat.lt_or_ge pre.length (cX bN (aF ops) i)with g|g
    .exfalso
     have t:cX bN (aF ops) i<=(aF ops).length:=List.length_filter_le _ _;have hx:=List.getElem?_eq_getElem (show pre.length<(aF ops).length by omega);have u:=(R.re d3 hx).2 g;have Av:(aF ops)[pre.length]∈rest:=by
      have e:(aF ops)[pre.length]?=rest[0]?:=by rw[K,List.getElem?_append_right (aj _),Nat.sub_self]
      rw[hx]at e;exact List.mem_of_getElem? e.symm
     exact z _ Av (d1 _ u)
    .exact g
   have ama:pre.length<=sN bN (aF ops) i:=by
    rcases Nat.lt_or_ge (sN bN (aF ops) i) pre.length with g|g
    .exfalso
     have A:∀(q:Nat) (A:q<pre.length),(aF ops)[q]?=Z pre[q]:=λq A=>by rw[K,List.getElem?_append_left A];exact List.getElem?_eq_getElem A
     have hx:=A _ g;have u:=(R.yH hx).2 (aj _);exact BK _ (xT _ (List.getElem_mem g)) u
    .exact g
   obtain⟨⟨o,y,pB,ku,Co,dQ⟩,LQ⟩:=QG i j8 XX ama;have hsr:=KA R LQ W d1 BK y;have uJ:=uZ hsr ku W.size;have amp:=V2 H hsr pB.1;have zg:∀{p:dz}{N:ab}{w':ar},ρ.le p->(∀b,b<m.next->(∀d,uS P ops i (uF i) (I i) d->b≠d)->p b=ρ b)->dj P E M s p m w'->aV p (I i) N->
     J s (n+c+l.length) ((az p m).or E) (G (b.at (a.put o.dst N) (.inRegion ops l::k)) cs) w':=by
    intro p N w' t hold H' Q;refine ih (D:=λx=>D x\/x=i) T d4 (λh f=> .inl (xT h f)) (λh f hd=>?_) H' ((W.iX t).step R y Q Co a.defers) (by rw[(yR a o.dst N).1];exact wR.mono λ_ _ x=>x.iX t) (λj g h2 h3 d jQ=>?_) (λL fF iV Pq pQ lR=>q8 L fF iV Pq (dz.le_trans t pQ) λb u=>?_)
    .rcases hd with hd|rfl
     .exact z h f hd
     .obtain⟨o',rE,BJ⟩:=gm.1 (show h∈aF ops by rw[K];exact List.mem_append_right _ f);rw[C]at rE;cases rE;rw[F]at BJ;cases BJ
    .rw[hold d (xm j g ai d jQ).2 λH6 oH e=>?_]
     .exact Cp j g h2 (λhd=>h3 (.inl hd)) d jQ
     .subst e;exact Jo i j j8 g XX ai (λe=>h3 (.inr e.symm)) d oH jQ
    .rw[lR b u,hold b ai λd jQ e=>by have :=(xm i j8 XX d jQ).1;omega]
   rcases dQ with⟨FP,hvu⟩|⟨BH,ahd,_,_⟩
   .refine(V s).le (show(n+c+l.length)+1<=n+c+(l.length+1) by omega) ?_;refine so (V s) y (uJ.trans FP) λaR kq=>?_
    exact zg (dz.le_refl ρ) (λ_ _ _=>rfl) (H.keeps kq) (by rw[hvu];exact oy)
   .refine(V s).le (show(n+c+l.length)+1<=n+c+(l.length+1) by omega) ?_;have Xw:dL P (dG (uF i)) o m=Z (I i,m)->J s (n+c+l.length+1) ((az ρ m).or E) (G (b.at a (.inRegion ops (i::l)::k)) cs) w:=λdJ=>
     CF (V s) y (uJ.trans BH) T H amp dJ λp N w' t hold H' Q=>zg t (λb u _=>hold b u) H' Q
    cases ahd with
    |pure h=>exact Xw (h m)
    |look _ h=>exact Xw h
    |make mk kb d f Q cF Jh u=>
     have hmo:uS P ops i (uF i) (I i) d:=⟨o,mk,kb,y,f,Q,BH⟩;refine SE V y (uJ.trans BH) T H amp f (Cp i j8 ai d2 d hmo) cF Jh u λp N w' t hold H' QD=>zg t (λb nK nJ=>hold b nK (nJ d hmo)) H' (by rw[Q];exact QD)
end
section
variable {P:aE}{X:Ext}{main:Bool}{J:JT}{F:Mem->Mem->Prop}{ops:Array iK}{bN:Array Nat}{nt:Nat}{call:cH}{r:Ss}{mX:Tm}
theorem lT {i:Nat}(h:i∈aF ops):¬∃o,ops[i]?=Z o/\fI o=U:=by
 rintro⟨o,c,d⟩;obtain⟨e,a,b⟩:=gm.1 h;rw[c]at a;cases a;rw[d]at b;cases b
theorem IE {pre rest}(c:aF ops=pre++rest){x:Nat}(a:x∈rest):x∉pre:=by
 intro b;have :=EI (ops:=ops);rw[c]at this;have :=(List.pairwise_append.1 this).2.2 x b x a;omega
theorem NC {pre rest}(b:aF ops=pre++rest){x:Nat}(a:x∈rest):¬SS ops bN pre x:=by
 rintro(⟨h,_⟩|h)
 .exact lT (by rw[b];exact List.mem_append_right _ a) h
 .exact IE b a h
theorem Z3 (R:mN ops bN nt){pre rest:List Nat}(k:aF ops=pre++rest){i:Nat}(g:∃o,ops[i]?=Z o/\fI o=U)(l:cX bN (aF ops) i<pre.length):∀j,B bN i j->SS ops bN pre j:=by
 intro j c;obtain⟨o,f,_⟩:=g;have b:=dO f;have h:=R.ord.lt b c;have d:ops[j]?=Z ops[j]:=Array.getElem?_eq_getElem ai;cases e:fI ops[j]with
 |true=>
  have :=R.AD b c;exact .inl ⟨⟨_,d,e⟩,ai⟩
 |false=>
  obtain⟨q,a⟩:=List.mem_iff_getElem?.1 (gm.2 ⟨_,d,e⟩);have m:=(R.re b a).1 c;rw[k,List.getElem?_append_left ai]at a;exact .inr (List.mem_of_getElem? a)
set_option maxHeartbeats 1000000 in
theorem NB(hJ:∀W,gN P main (J W))(hX:rH P X)(hF:yo F)(C:gE P X main J F call)(R:mN ops bN nt){ry:Nat}:∀{rest pre:List Nat}{tm:Tm}{m:Mem}{df:Df}{F0:iR}{uF:Nat->Tm}{I:Nat->ab},aF ops=pre++rest->
  iL P nt ops (oY ops bN (aF ops) nt pre.length rest)=Z F0->F0 call tm m df=Z r->Wf m->Ex ops nt r mX (SS ops bN pre) tm->ry<=m.next->Ru P ops bN nt r mX pre.length ry uF I m tm->
  F m r.mem/\∃c,wI P J ops bN nt r mX ry pre rest uF I pre.length m df c:=by
 intro rest
 induction rest with
 |nil=>
  intro pre tm m df F0 uF I V hT hf hw hex hN hp;unfold oY at hT;obtain⟨F1,Nt,m1,OT,OP,hg,OQ,yq,tmL,vL,q1,q2,q3⟩:=xM (P:=P) (call:=call) R (T:=[]) (Ei R V) (λx y h=>by cases h) (by rw[List.append_nil];exact hT) hf hw hex;unfold iL at OT;cases OT;unfold ac6 at OP;simp only[ah]at OP;refine⟨hF.fr (by rw[<-OP];exact hg.fr.w),0,?_⟩;have OE:wI P J ops bN nt r mX ry pre [] (λi=>if cX bN (aF ops) i=pre.length then tmL i else uF i) (λi=>if cX bN (aF ops) i=pre.length then vL i else I i) (pre.length+1) m1 df 0:=yB (P:=P) (J:=J) (c:=0) (df:=df) (r:=r) (mX:=mX) (tm:=Nt) hJ hX R V (ry:=ry) (uF:=λi=>if cX bN (aF ops) i=pre.length then tmL i else uF i) (I:=λi=>if cX bN (aF ops) i=pre.length then vL i else I i)
   (bV hN hg.next) (.inr trivial)
   (λi f M N=>by
    by_cases u:cX bN (aF ops) i=pre.length
    .simp only[u,if_true];exact q1 i (cD.2 ⟨f,u⟩)
    .simp only[u,if_false];exact(hp.pend i f ai N).grow hw hg (yq i λhm=>u (cD.1 hm).2))
   (λi f M K A=>by
    by_cases u:cX bN (aF ops) i=pre.length
    .simp only[u,if_true]at A;have :=q2 i (cD.2 ⟨f,u⟩) K A;omega
    .simp only[u,if_false]at A;have :=hp.made i f ai K A;have :=hg.next;omega)
   (λi j f M N h4 kr K A Q=>by
    by_cases u:cX bN (aF ops) i=pre.length<;>by_cases Jj:cX bN (aF ops) j=pre.length
    .simp only[u,if_true]at A;simp only[Jj,if_true]at Q;exact q3 i (cD.2 ⟨f,u⟩) j (cD.2 ⟨M,Jj⟩) kr K A Q
    .simp only[u,if_true]at A;simp only[Jj,if_false]at Q;have :=q2 i (cD.2 ⟨f,u⟩) K A;have :=hp.made j M ai K Q;omega
    .simp only[u,if_false]at A;simp only[Jj,if_true]at Q;have :=q2 j (cD.2 ⟨M,Jj⟩) K Q;have :=hp.made i f ai K A;omega
    .simp only[u,if_false]at A;simp only[Jj,if_false]at Q;exact hp.apart i j f M ai ai kr K A Q)
   (λ_ {E bJ W ρ w b a k cs D n} hk hl H Hp wR q8=>by
    have e:r.mem=m1:=by rw[<-OP]
    have ed:r.df=df:=by rw[<-OP]
    have et:r.tm=Nt:=by rw[<-OP]
    have :=q8 W ρ w a (dz.le_refl _) (λ_ _=>rfl) (by rw[e];exact H) ⟨Hp.size,λt ht=>by
     by_cases hw:∃i,dI ops i=Z t
     .obtain⟨i,hi⟩:=hw;refine Hp.done t ht i ?_ hi;rcases hl.all i (O2 hi)with h|h
      .exact h
      .cases h
     .have hn:∀i,dI ops i≠Z t:=λi hi=>hw ⟨i,hi⟩
      rw[et,(OQ t ht).2 λi _=>hn i];exact Hp.old t ht λi _=>hn i,by rw[ed];exact wR⟩
    rw[e]at this;exact this)
   (λh G3 e=>by cases e)
  intro E bJ W ρ w b a k cs l D n hk hl xT iF H Hp wR Cp q8;obtain⟨H',qd⟩:=H.grow hg;rw[<-qd];refine OE hk hl xT iF H' Hp wR (λi f M N K A=>?_) q8
  by_cases u:cX bN (aF ops) i=pre.length
  .simp only[u,if_true]at A;have :=q2 i (cD.2 ⟨f,u⟩) K A;cases hρ:ρ K with
   |none=>rfl
   |some p=>have :=H.kH.oe K p hρ;omega
  .simp only[u,if_false]at A;exact Cp i f ai N K A
 |cons h rest ih=>
  intro pre tm m df F0 uF I V hT hf hw hex hN hp;have hhm:h∈aF ops:=by rw[V];simp
  have hhl:=lT hhm;have XV:aF ops=(pre++[h])++rest:=by rw[V];simp
  have dB:(pre++[h]).length=pre.length+1:=dA;unfold oY at hT;have hTn:∀x y,((0,x,y):oV)∈(0,h,1)::(wD ops bN (aF ops) nt pre.length++oY ops bN (aF ops) nt (pre.length+1) rest)->¬SS ops bN pre x/\x∉gJ ops bN (aF ops) pre.length:=by
   intro x y L;rcases aN.1 L with e|L
   .cases e;exact⟨NC V dA,λhm=>hhl (cD.1 hm).1⟩
   .rcases List.mem_append.1 L with L|L
    .unfold wD at L;obtain⟨z,_,e⟩:=List.mem_map.1 L;cases e
    .rw[<-dB]at L;rcases Du XV x y L with hm|⟨f,M⟩
     .exact⟨NC V (by simp[hm]),λXN=>lT (by rw[XV];exact List.mem_append_right _ hm) (cD.1 XN).1⟩
     .refine⟨?_,λhm=>by have :=(cD.1 hm).2;omega⟩;rintro(⟨_,N⟩|N)
      .omega
      .exact lT (by rw[V];exact List.mem_append_left _ N) f
  obtain⟨F1,Nt,m1,OT,OP,hg,OQ,yq,tmL,vL,q1,q2,q3⟩:=xM (P:=P) (call:=call) R (Ei R V) hTn hT hf hw hex;have QC:Wf m1:=hg.fr.2.2 hw;obtain⟨F2,hF2,ht2⟩:=mh OT;obtain⟨TR,m2,df2,mQ,OO,hpd⟩:=qL ht2 OP
  replace hpd:=hpd eJ
  obtain⟨F3,hF3,hf3,ahm⟩:=Fc hF2 OO;obtain⟨vv,agP,uK⟩:=N3 mQ;obtain⟨o,ho,pB,ku,OR⟩:=mQ;have ed:dI ops h=o.dst:=by unfold dI;rw[ho];rfl
  generalize al9:(λi=>if cX bN (aF ops) i=pre.length then tmL i else uF i)=Kj;generalize apM:(λi=>if cX bN (aF ops) i=pre.length then vL i else I i)=S;have eT:∀i,Kj i=if cX bN (aF ops) i=pre.length then tmL i else uF i:=λi=>by rw[<-al9]
  have eV:∀i,S i=if cX bN (aF ops) i=pre.length then vL i else I i:=λi=>by rw[<-apM]
  have QG:∀i,(∃o,ops[i]?=Z o/\fI o=U)->cX bN (aF ops) i<=pre.length->pre.length<=sN bN (aF ops) i->GA P ops bN nt r mX i (Kj i) (S i) m1 Nt:=by
   intro i f M N;rw[eT,eV]
   by_cases u:cX bN (aF ops) i=pre.length
   .simp only[u,if_true];exact q1 i (cD.2 ⟨f,u⟩)
   .simp only[u,if_false];exact(hp.pend i f ai N).grow hw hg (yq i λhm=>u (cD.1 hm).2)
  have xm:∀i,(∃o,ops[i]?=Z o/\fI o=U)->cX bN (aF ops) i<=pre.length->∀K,uS P ops i (Kj i) (S i) K->ry<=K/\K<m1.next:=by
   intro i f M K A;rw[eT,eV]at A
   by_cases u:cX bN (aF ops) i=pre.length
   .simp only[u,if_true]at A;have :=q2 i (cD.2 ⟨f,u⟩) K A;omega
   .simp only[u,if_false]at A;have :=hp.made i f ai K A;have :=hg.next;omega
  have Jo:∀i j,(∃o,ops[i]?=Z o/\fI o=U)->(∃o,ops[j]?=Z o/\fI o=U)->cX bN (aF ops) i<=pre.length->cX bN (aF ops) j<=pre.length->i≠j->∀K,uS P ops i (Kj i) (S i) K->¬uS P ops j (Kj j) (S j) K:=by
   intro i j f M N h4 kr K A Q;rw[eT,eV]at A Q
   by_cases u:cX bN (aF ops) i=pre.length<;>by_cases Jj:cX bN (aF ops) j=pre.length
   .simp only[u,if_true]at A;simp only[Jj,if_true]at Q;exact q3 i (cD.2 ⟨f,u⟩) j (cD.2 ⟨M,Jj⟩) kr K A Q
   .simp only[u,if_true]at A;simp only[Jj,if_false]at Q;have :=q2 i (cD.2 ⟨f,u⟩) K A;have :=hp.made j M ai K Q;omega
   .simp only[u,if_false]at A;simp only[Jj,if_true]at Q;have :=q2 j (cD.2 ⟨M,Jj⟩) K Q;have :=hp.made i f ai K A;omega
   .simp only[u,if_false]at A;simp only[Jj,if_false]at Q;exact hp.apart i j f M ai ai kr K A Q
  have hSh:¬(SS ops bN pre h\/h∈gJ ops bN (aF ops) pre.length):=by
   rintro(f|f)
   .exact NC V dA f
   .exact hhl (cD.1 f).1
  have XT:(aF ops)[pre.length]?=Z h:=Su V;have amB:h<ops.size:=dO ho;have OS:∀j,B bN h j->SS ops bN pre j\/j∈gJ ops bN (aF ops) pre.length:=by
   intro j hb;have hjh:=R.ord.lt amB hb;have sJ:ops[j]?=Z ops[j]:=Array.getElem?_eq_getElem ai;cases QK:fI ops[j]with
   |true=>
    have f:=(R.yH XT).1 hb;have M:=R.Hz (i:=j) ai
    by_cases u:cX bN (aF ops) j=pre.length
    .exact .inr (cD.2 ⟨⟨_,sJ,QK⟩,u⟩)
    .exact .inl (.inl ⟨⟨_,sJ,QK⟩,ai⟩)
   |false=>
    obtain⟨q,hq⟩:=List.mem_iff_getElem?.1 (gm.2 ⟨_,sJ,QK⟩);rcases Nat.lt_or_ge q pre.length with f|f
    .rw[V,List.getElem?_append_left f]at hq;exact .inl (.inr (List.mem_of_getElem? hq))
    .exfalso
     rcases Nat.eq_or_lt_of_le f with M|M
     .rw[<-M,XT]at hq;cases hq;omega
     .have nJ:=R.chain pre.length q h j M XT hq;have :=R.ord.lt ai nJ;omega
  have ahp:∀j,(SS ops bN pre j\/j∈gJ ops bN (aF ops) pre.length)->¬B bN j h:=by
   intro j hj hb;have QK:(∃o,ops[j]?=Z o/\fI o=U)->cX bN (aF ops) j<=pre.length->False:=λ⟨o',rE,_⟩ hle=>by
    have :=(R.re (dO rE) XT).1 hb;omega
   rcases hj with(⟨f,M⟩|f)|f
   .exact QK f ai
   .obtain⟨q,hq,rfl⟩:=List.mem_iff_getElem.1 f;have zf:(aF ops)[q]?=Z pre[q]:=by rw[V,List.getElem?_append_left hq];exact List.getElem?_eq_getElem hq
    have nJ:=R.chain q pre.length _ _ hq zf XT;have hpm:pre[q]∈aF ops:=by rw[V];exact List.mem_append_left _ f
    obtain⟨o',rE,_⟩:=gm.1 hpm;have :=R.ord.lt (dO rE) hb;have :=R.ord.lt amB nJ;omega
   .obtain⟨M,N⟩:=cD.1 f;exact QK M ai
  have agU:Seen ops bN nt r mX h Nt:=PO R OQ OS ahp;have ag0:∀x y,((0,x,y):oV)∈wD ops bN (aF ops) nt pre.length++oY ops bN (aF ops) nt (pre.length+1) rest->x≠h:=by
   intro x y L e;subst e;rcases List.mem_append.1 L with L|L
   .unfold wD at L;obtain⟨z,_,e⟩:=List.mem_map.1 L;cases e
   .rw[<-dB]at L;rcases Du XV x y L with hm|⟨f,_⟩
    .exact IE XV hm dA
    .exact hhl f
  have gW:∀d,dI ops h=Z d->d<nt->di d TR=di d r.tm:=λd hd cF=>(xB R.nt hF2 OO d cF λx y L u=>R.uniq x h d (ag0 x y L) u hd).symm
  have QD:∀d,dI ops h=Z d->d<nt->vv=di d r.tm:=λd hd cF=>by
   rw[<-gW d hd cF,agP,jO uK (aZ cF R.nt),bh hd]
  have acS:Ex ops nt r mX (SS ops bN (pre++[h])) TR:=by
   rw[agP];refine(OQ.step R hSh uK QD).iff λx=>?_
   unfold SS;rw[dB,cD,List.mem_append,List.mem_singleton]
   constructor
   .rintro(((⟨a1,a2⟩|a1)|⟨a1,a2⟩)|a1)
    .exact .inl ⟨a1,ai⟩
    .exact .inr (.inl a1)
    .exact .inl ⟨a1,ai⟩
    .exact .inr (.inr a1)
   .rintro(⟨a1,a2⟩|(a1|a1))
    .by_cases u:cX bN (aF ops) x=pre.length
     .exact .inl (.inr ⟨a1,u⟩)
     .exact .inl (.inl (.inl ⟨a1,ai⟩))
    .exact .inl (.inl (.inr a1))
    .exact .inr a1
  obtain⟨amS,ch,amI⟩:F m1 m2/\∃ch,∀{E:Perm}{bJ:ar}{W:pj}{ρ:dz}{w:ar}{b:Frame}{a:Act}{k:List Item}{cs:List Frame}{l:List Nat}{n:Nat},b.kind≠ .early->a.tmps.size=nt->dj P E bJ W ρ m1 w->
    (∀t∈lK ops o,t<nt->aV ρ (di t Nt) (a.tmps.getD t undef))->bP (zP ρ) df a.defers->
    (∀gU bK v' w' ds,ρ.le bK->(∀b,b<m1.next->bK b=ρ b)->dj P E bJ gU bK m2 w'->(∃v,aV bK v v'/\∀d,o.dst=Z d->d<nt->v=di d r.tm)->bP (zP bK) df2 ds->J gU n ((az bK m2).or E) (G (b.at (Act.put ⟨a.tmps,ds⟩ o.dst v') (.inRegion ops l::k)) cs) w')->
    J W (n+ch) ((az ρ m1).or E) (G (b.at a (.inRegion ops (h::l)::k)) cs) w:=by
   rcases OR with⟨BH,v,hd,htv⟩|⟨BH,htv,rfl,rfl⟩
   .obtain⟨g1,c,g2⟩:=HP (P:=P) (ops:=ops) hJ hX hF C ho QC hd;have T2:∀d,o.dst=Z d->d<nt->v=di d r.tm:=λd yt cF=>by
     have f:=gW d (by rw[ed];exact yt) cF;rw[<-f,htv,jO (λx L=>uK x (by rw[ed];exact L)) (aZ cF R.nt),bh yt]
    refine⟨g1,c,λ{E bJ W ρ w b a k cs l n} hk ja H hsr wR hn=>?_⟩;have hgd:∀j want,o.guard=Z (j,want)->∃g,dI ops j=Z g/\g<nt:=λj want hj=>let⟨g,k1,k2,_⟩:=ku j want hj;⟨g,k1,k2⟩
    exact g2 hk ((uZ hsr hgd ja).trans BH) H (V2 H hsr pB.1) wR λgU bK v' w' ds hle hold H' hv ahl=>hn gU bK v' w' ds hle (λb hb=>hold b hb (by rw[hpd];intro s hs;cases hs)) H' ⟨v,hv,T2⟩ ahl
   .refine⟨hF.refl _,1,λ{E bJ W ρ w b a k cs l n} hk ja H hsr wR hn=>?_⟩;have hgd:∀j want,o.guard=Z (j,want)->∃g,dI ops j=Z g/\g<nt:=λj want hj=>let⟨g,k1,k2,_⟩:=ku j want hj;⟨g,k1,k2⟩
    have T2:∀d,o.dst=Z d->d<nt->undef=di d r.tm:=λd yt cF=>by
     have f:=gW d (by rw[ed];exact yt) cF;rw[<-f,htv,jO (λx L=>uK x (by rw[ed];exact L)) (aZ cF R.nt),bh yt]
    refine so (hJ W) ho ((uZ hsr hgd ja).trans BH) λaR kq=>?_
    exact hn W ρ undef aR a.defers (dz.le_refl _) (λ_ _=>rfl) (H.keeps kq) ⟨undef,oy,T2⟩ wR
  have hMv:=hF.mv amS;have TZ:Wf m2:=hMv.wf QC;have hN2:ry<=m2.next:=bV hN (bV hg.next hMv.next);have OG:∀i,nt+i<512->di (nt+i) TR=di (nt+i) Nt:=λi hi=>by
   rw[agP,jO uK hi,bH];intro u;have f:nt+i<nt:=R.ord.dst h o _ ho (by rw[<-ed];exact u);omega
  obtain⟨hFr,cr,amD⟩:=ih (pre:=pre++[h]) (tm:=TR) (m:=m2) (df:=df2) (F0:=F3) (uF:=Kj) (I:=S) XV (by rw[dB];exact hF3) hf3 TZ acS hN2 ⟨λi f M N=>by
    rw[dB]at M N;refine(QG i f ai ai).aip R hMv (OG i) acS (.inl ⟨f,by rw[dB];omega⟩) (Z3 R XV f (by rw[dB];omega)) (λhc=>?_) ai;refine ahm i ?_;rw[List.mem_filter,List.mem_range];obtain⟨o',rE,BJ⟩:=f;refine⟨dO rE,?_⟩;simp only[rE,Option.any_some,BJ,hc,Bool.true_and,ag,iU];omega,λi f M K A=>by
     rw[dB]at M;have :=xm i f ai K A;have :=hMv.next;omega,λi j f M N h4=>by rw[dB]at N h4;exact Jo i j f M ai ai⟩
  refine⟨hF.trans (hF.fr hg.fr.w) (hF.trans amS hFr),cr+ch,?_⟩;have OE:wI P J ops bN nt r mX ry pre (h::rest) Kj S (pre.length+1) m1 df (cr+ch):=yB (P:=P) (J:=J) (c:=cr+ch) (df:=df) (r:=r) (mX:=mX) (tm:=Nt) hJ hX R V (ry:=ry) (uF:=Kj) (I:=S) (bV hN hg.next) (.inr trivial) QG xm Jo (λe=>by cases e)
   (λh' G3 e {E bJ W ρ w b a k cs l D n} hk hl xT iF H Hp wR Cp q8=>by
    cases e;obtain⟨d1,d2,d3,d4⟩:=hl.head;have BK:∀j,D j->¬B bN j h:=λj hj hb=>d2 (hl.down j hj h hb)
    have hsr:=KA R agU Hp d1 BK ho;refine(hJ W).le (show(n+cr+l.length)+ch<=n+(cr+ch)+(l.length+1) by omega) ?_;refine amI hk Hp.size H hsr wR λgU bK v' w' ds hle hold H' ⟨v,hv,hvd⟩ ahl=>?_
    refine amD (D:=λx=>D x\/x=h) hk d4 (λx L=>?_) (λx L hd=>?_) H' ((Hp.iX hle).step R ho hv hvd ds) (by rw[(yR ⟨a.tmps,ds⟩ o.dst v').1];exact ahl) (λi f M N K A=>?_) (λuX fF iV Pq pQ lR=>q8 uX fF iV Pq (dz.le_trans hle pQ) λb hb=>?_)
    .rcases List.mem_append.1 L with L|L
     .exact .inl (xT x L)
     .exact .inr (by simpa using L)
    .rcases hd with hd|rfl
     .exact iF x (by simp[L]) hd
     .exact IE XV L dA
    .rw[dB]at M;rw[hold K (xm i f ai K A).2];exact Cp i f ai (λhd=>N (.inl hd)) K A
    .rw[lR b hb,hold b (by have :=hg.next;omega)])
  intro E bJ W ρ w b a k cs l D n hk hl xT iF H Hp wR Cp q8;obtain⟨H',qd⟩:=H.grow hg;rw[<-qd];refine OE hk hl xT iF H' Hp wR (λi f M N K A=>?_) q8;rw[eT,eV]at A
  by_cases u:cX bN (aF ops) i=pre.length
  .simp only[u,if_true]at A;have :=q2 i (cD.2 ⟨f,u⟩) K A;cases hρ:ρ K with
   |none=>rfl
   |some p=>have :=H.kH.oe K p hρ;omega
  .simp only[u,if_false]at A;exact Cp i f ai N K A
end
def Out (e:Exit)(k todo:List Item):Prop:=
 match e with
 | .normal=>todo=k
 | .ret=>∃k',todo=.code .ret::k'
 | .exit id=>∃k',todo=.code (.exit id)::k'/\exitTo id k'=exitTo id k
 | .goto l=>∃k',todo=.code (.goto l)::k'/\gotoIn l k'=gotoIn l k
 |_=>False
structure fh (P:aE)(J:JT)(nt:Nat)(st kz:Ss)(A:List Item)(B:List Item->Prop)(c:Nat):Prop where
 go:∀{E:Perm}{bJ:ar}{σ:pj}{ρ:dz}{w:ar}{b:Frame}{a:Act}{cs:List Frame}{n:Nat},b.kind≠ .early->dj P E bJ σ ρ st.mem w->uU nt ρ st.tm st.df a->
  (∀gU bK w' a' todo,B todo->ρ.le bK->tD st.mem ρ bK->dj P E bJ gU bK kz.mem w'->uU nt bK kz.tm kz.df a'->J gU n ((az bK kz.mem).or E) (G (b.at a' todo) cs) w')->
  J σ (n+c) ((az ρ st.mem).or E) (G (b.at a A) cs) w
section
variable {P:aE}{X:Ext}{main:Bool}{J:JT}{F:Mem->Mem->Prop}{nt:Nat}{call:cH}
theorem fh.trans{st PJ e A B C}{c d:Nat}(h:fh P J nt st PJ A B c)(s:Mv st.mem PJ.mem)(k:∀i,B i->fh P J nt PJ e i C d):fh P J nt st e A C (d+c):=by
 refine⟨λ{E N G ρ w b a cs n} g H t z=>?_⟩;rw[<-Nat.add_assoc];refine h.go g H t λL M K Q todo v f hold F p=>(k todo v).go g F p λl x r D y u o q m j=>z l x r D y u (dz.le_trans f o) (hold.trans s q) m j
theorem fh.weaken{st d A B C}{c:Nat}(h:fh P J nt st d A B c)(k:∀e,B e->C e):fh P J nt st d A C c:=by
 refine⟨λ{E r q ρ w b a cs n} g H i p=>?_⟩;exact h.go g H i λl m f o todo j=>p l m f o todo (k todo j)
theorem fh.here{st A B}(h:B A):fh P J nt st st A B 0:=by
 refine⟨λ{E g c ρ w b a cs n} f H d e=>?_⟩;exact e c ρ w a A h (dz.le_refl _) (.of λ_ _=>rfl) H d
theorem fh.move(g:∀c,gN P main (J c)){st A d}(h:∀{b:Frame}{a:Act}{cs:List Frame}{w:ar},stepG P main (G (b.at a A) cs) w=.go (G (b.at a d) cs) w #[]):fh P J nt st st A (·=d) 1:=by
 refine⟨λ{E l c ρ w b a cs n} k H f j=>?_⟩;refine oG (g c) rfl (λw=>h) λi e=>?_
 exact j c ρ i a d rfl (dz.le_refl _) (.of λ_ _=>rfl) (H.keeps e) f
theorem zd (s:∀o,gN P main (J o))(q:rH P X)(d:yo F)(C:gE P X main J F call)(p:nt<=512){ops}:∀{l:List Nat}{f:iR}{tm:Tm}{m:Mem}{df:Df}{r:Ss},iL P nt ops (l.map λi=>(0,i,0))=Z f->f call tm m df=Z r->Wf m->
  F m r.mem/\∃c,∀k,fh P J nt ⟨tm,m,df⟩ r (.inRegion ops l::k) (·=.inRegion ops []::k) c
 | [],f,tm,m,df,r,h,e,hw=>by
  unfold iL at h;simp only[List.map_nil]at h;cases h;unfold ac6 at e;simp only[ah]at e;subst e;exact⟨d.refl _,0,λk=>fh.here rfl⟩
 |i::l,f,tm,m,df,r,h,e,hw=>by
  simp only[List.map_cons]at h;obtain⟨rest,A,z⟩:=mh h;obtain⟨R,y,v,x,Cu,_⟩:=qL z e;obtain⟨j,c,Q⟩:=V4 s q d C p hw x;obtain⟨M,S,L⟩:=zd s q d C p A Cu ((d.mv j).wf hw);refine⟨d.trans j M,S+c,λk=>?_⟩;refine fh.trans (PJ:=⟨R,y,v⟩) (B:=(·=.inRegion ops l::k)) ?_ (d.mv j) λA' K=>by subst K;exact L k
  refine⟨λ{E bJ o ρ w b a cs n} D H G W=>?_⟩;exact Q D H G λN T t V g hold H' u=>W N T t V _ rfl g hold H' u
theorem KC (hm:P.follows .mixedOrders=U)(ops:Array iK)(t:Nat):Region.schedule (P.follows .mixedOrders) ops t=Region.linearise .any ops t:=by
 unfold Region.schedule;rw[hm];rfl
theorem KY (q:∀y,gN P main (J y))(M:rH P X)(z:yo F)(C:gE P X main J F call)(rY:nt<=512){id:Nat}{ops}{draw:Bool}{n:Nat}{f}(h:comp P nt (n+1) (.region id ops draw)=Z f){st m e}(hf:f call st=Z (e,m))(hw:Wf st.mem):
  e=.normal/\F st.mem m.mem/\∃c,∀k,fh P J nt st m (.code (.region id ops draw)::k) (·=k) c:=by
 unfold comp at h;simp only[]at h;have LR:∀o:iR,Se o call st=Z (e,m)->e=.normal/\o call st.tm st.mem st.df=Z m:=by
  intro o g;unfold Se at g
  split at g
  .rename_i s hs;simp only[ah,ay]at g;obtain⟨rfl,rfl⟩:=g;exact⟨rfl,hs⟩
  .cases g
 have Ji:∀k,fh P J nt m m (.inRegion ops []::k) (·=k) 1:=λk=>fh.move q stepG_region_end
 cases draw with
 |false=>
  simp only[cK,if_false]at h
  split at h
  .rename_i o g;cases h;obtain⟨V,S⟩:=LR o hf;obtain⟨v,c,W⟩:=zd q M z C rY g S hw;refine⟨V,v,(1+c)+1,λk=>fh.trans (fh.move q stepG_region) (Mv.refl _) λA Q=>?_⟩;subst Q;exact fh.trans (W k) (z.mv v) λA Q=>by subst Q;exact Ji k
  .cases h
 |true=>
  simp only[if_true]at h
  split at h
  .rename_i T p
   split at h
   .rename_i o g;cases h;obtain⟨V,S⟩:=LR o hf;unfold YD at p;simp only[]at p
    split at p
    .rename_i u;simp only[ah]at p;subst p;simp only[ag]at u;have R:=VK rY u.1.1.1 u.1.1.2 u.1.2 u.2;have K:Ex ops nt m st.tm (SS ops (Region.before ops) []) st.tm:=λt r=>⟨λi d=>(by
      rcases d with⟨_,d⟩|d
      .exact absurd d (Nat.not_lt_zero _)
      .cases d),λ_=>rfl⟩
     obtain⟨v,c,W⟩:=NB (ry:=st.mem.next) q M z C R (rest:=aF ops) (pre:=[]) (uF:=λ_=>st.tm) (I:=λ_=>undef) rfl g S hw K (aj _)
      ⟨λi _ d=>absurd d (Nat.not_lt_zero _),λi _ d=>absurd d (Nat.not_lt_zero _),λi j _ _ d=>absurd d (Nat.not_lt_zero _)⟩
     refine⟨V,v,1+(c+ops.size)+1,λk=>?_⟩;refine⟨λ{E bJ y ρ w b a cs n} hk H L QH=>?_⟩;rw[<-Nat.add_assoc];refine(q y).step rfl λaR kq=>?_
     have gT:=H.keeps kq;have aqC:=bC.at ((az ρ st.mem).or E) aR (aR.drawn+1);refine⟨_,{aR with drawn:=aR.drawn+1},#[],(az ρ st.mem).or E,⟨stepG_region_draw,⟨rfl,rfl,rfl,aj _,λ_ _=>rfl,λ_ _ _ _=>rfl,λ_ _ _=>rfl,λ_ _ _ _=>rfl⟩,λe he=>by simp at he,eZ.refl _ _,rfl,λh=>⟨h.rd,h.wr,h.ob⟩⟩,?_⟩;rw[KC M.mixed];have N:=Ll R.ord (aR.tape aR.drawn (.order b.fn id));have hlen:(Region.linearise .any ops (aR.tape aR.drawn (.order b.fn id))).length<=ops.size:=by
      have h3:=N.nodup.length_le_of_subset (λx hx=>List.mem_range.2 (N.lt x hx));simpa using h3
     have B:=gT.keeps aqC;have :=W (l:=Region.linearise .any ops (aR.tape aR.drawn (.order b.fn id))) (D:=λ_=>False) (n:=n+1) (k:=k) (cs:=cs) hk N dA (λ_ _ h=>h) B ⟨L.size,λt r i d=>d.elim,λt r _=>L.tm t r⟩ L.df (λi _ d=>absurd d (Nat.not_lt_zero _))
      (λgU bK w' a' G hold H' nZ=>by
       refine(Ji k).go hk H' nZ λuX fF iV Pq todo r pQ lR B zl=>?_
       exact QH uX fF iV Pq todo r (dz.le_trans G pQ) (tD.trans (z.mv v) (.of hold) lR) B zl)
     exact(q y).le ai this
    .cases p
   .cases h
  .cases h
end
end Go.AM
