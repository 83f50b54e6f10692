/-
  What the claim stands on, part 8.
-/
import Derived.Test.YtgfppohfgconeaaGreatDoorN7
set_option linter.unusedVariables false
set_option linter.unusedSimpArgs false
open Go.Proofs.Tryz renaming prog → ab
open Go renaming Value → ae, World → ay
open Nat renaming le_of_ble_eq_true → af, le_refl → ai, eq_of_beq_eq_true → az, lt_of_lt_of_le → a8, le_trans → cF
open Bool renaming and_eq_true → ag
open Option.some renaming injEq → ah
open Prod.mk renaming injEq → au
open Option renaming map_eq_some_iff → aB, bind_eq_some_iff → bE
open List renaming all_eq_true → aE, mem_cons → aR
namespace Go.AM
set_option maxRecDepth 1000000
open Go Go.Conc Go.Proofs
structure Sd (m:Mem):Prop where
 deaf:m.deaf=0
 bf:m.base<=m.floor
 fn:m.floor<=m.next
 hn:m.home<=m.next
 bB:∀s∈m.bB,s.2.1<=m.next
section
variable {m m':Mem}{S B:Nat->Prop}
theorem Gd.sd(h:Gd m):Sd m:=⟨h.deaf,h.bf,h.fn,h.hn,h.bB⟩
theorem Sd.ext(h:Sd m)(k:Kp m m' S):Sd m':=
 ⟨k.deaf.trans h.deaf,by rw[k.base,k.floor];exact h.bf,by rw[k.floor];exact cF h.fn k.next,by rw[k.home];exact cF h.hn k.next,fun s hs=>by rw[k.bB]at hs;exact cF (h.bB s hs) k.next⟩
theorem Sd.fresh(h:Sd m){b:Nat}(hb:m.next<=b):aL m.bB b=false:=gV fun x hx _ h2=>by have :=h.bB x hx;omega
theorem Sd.own(h:Sd m)(k:Kp m m' S){b:Nat}(hb:m.next<=b):Own m' b:=by
 have h1:=h.fresh hb;unfold Own Mem.fq;rw[k.bB,k.base,k.floor,h1];have :=h.bf;have :=h.fn;simp only[Bool.not_false,Bool.true_and,ag,Bool.or_eq_true,jE];exact⟨aj,.inl aj⟩
theorem Sd.alloc(h:Sd m)(cs:List ae):∃m',ni (cs.map some) m=some (vP m.next 0,m')/\Obj m' m.next 0 cs/\Kp m m' eQ/\m'.next=m.next+1/\(m'.blk m.next).pos=1:=by
 refine⟨m.alloc ⟨1,0,cs.map some,#[],0,.empty,1,0⟩,rfl,⟨Nat.lt_succ_self _,?_,?_,?_,h.fresh (ai _)⟩,⟨Nat.le_succ _,rfl,rfl,rfl,rfl,rfl,rfl,rfl,rfl,fun x hx _=>?_⟩,rfl,?_⟩
 ·rw[Mem.cf,bK rfl]
 ·rw[Mem.cf,bK rfl]
 ·rw[Mem.cf,bK rfl]
 ·rw[Mem.cf,bZ aj]
 ·rw[Mem.cf,bK rfl]
theorem Sd.Rz(h:Sd m)(z v:ae)(h1:mH v=true):∃m1 m2,ni [some z] m=some (vP m.next 0,m1)/\jI m.next 0 v m1=some (undef,m2)/\Obj m2 m.next 0 [v]/\Kp m m2 eQ/\m2.next=m.next+1:=by
 obtain⟨m1,e1,o1,k1,n1,_⟩:=h.alloc [z];obtain⟨m2,e2,o2,k2⟩:=lQ (o:=0) v o1 ((h.own k1 (ai _)).may _ _) (af rfl) h1;have e3:m2.next=m1.next:=by
  unfold jI at e2;rw[h1]at e2;simp only at e2
  split at e2
  ·split at e2
   ·split at e2
    ·cases e2;rfl
    ·cases e2
   ·cases e2
  ·cases e2
 exact⟨m1,m2,e1,e2,o2,k1.new k2 (N:=m.next) (ai _) fun b hb=>by rw[hb];exact ai _,aj⟩
structure RO (m:Mem)(b sz:Nat)(cs:List ae):Prop where
 lt:b<m.next
 kind:(m.blk b).kind=1
 sz:(m.blk b).sz=sz
 cs:(m.blk b).cs=cs.map some
theorem Obj.ro{b sz:Nat}{cs:List ae}(h:Obj m b sz cs):RO m b sz cs:=⟨h.lt,h.kind,h.sz,h.cs⟩
theorem RO.obj{b sz:Nat}{cs:List ae}(h:RO m b sz cs)(hv:aL m.bB b=false):Obj m b sz cs:=⟨h.lt,h.kind,h.sz,h.cs,hv⟩
theorem RO.ext{b sz:Nat}{cs:List ae}(h:RO m b sz cs)(k:Kp m m' S)(hs:¬S b):RO m' b sz cs:=by
 have e:=k.blk b h.lt hs;exact⟨a8 h.lt k.next,by rw[e];exact h.kind,by rw[e];exact h.sz,by rw[e];exact h.cs⟩
theorem RO.ld1{b sz o:Nat}{cs:List ae}{v:ae}(h:RO m b sz cs)(hv:cs[o]?=some v)(hm:meets m.bB b o 1=false):aT b o m=some (v,m):=by
 unfold aT;have hk:=h.kind;have hc:=h.cs;cases hb:m.blk b with
 |mk kind z c es clock str pos a9=>
  rw[hb]at hk hc;simp only at hk hc;subst hk hc;simp only[Cm,hm,Bool.not_false,xQ];have :(cs.map some).drop o=some v::(cs.drop (o+1)).map some:=by
   rw[<-List.map_drop];have hd:cs.drop o=v::cs.drop (o+1):=by
    obtain⟨cA,he⟩:=List.getElem?_eq_some_iff.1 hv;rw[<-he];exact List.drop_eq_getElem_cons cA
   rw[hd];rfl
  rw[this]
theorem RO.GC{b sz o:Nat}{cs:List ae}{v:ae}(h:RO m b sz cs)(hv:cs[o]?=some v)(hm:meets m.bB b o 1=false):m.dv b o 1=some [v]:=by
 obtain⟨cA,he⟩:=List.getElem?_eq_some_iff.1 hv;unfold Mem.dv;simp only[h.kind,hm,h.cs,beq_self_eq_true,Bool.not_false,Bool.and_self,if_true];rw[<-List.map_drop,kD (by simp;omega),List.drop_eq_getElem_cons cA,he];rfl
theorem RO.jB{b sz o:Nat}{cs:List ae}(v:ae)(h:RO m b sz cs)(hw:m.cP b o 1=true)(hn:o<cs.length)(h1:mH v=true):
  ∃m',jI b o v m=some (undef,m')/\RO m' b sz (cs.set o v)/\Kp m m' (fun x=>x=b)/\m'.next=m.next:=by
 obtain⟨l,hl⟩:=EE (v:=v) hn;have hp:=AQ _ _ _ _ hl;rw[lU (cs:=cs) (o:=o) (vs:=[v]) (by simp;omega)]at hp;obtain rfl:=Option.some.inj hp;have hk:=h.kind;have hc:=h.cs;have hz:=h.sz;unfold jI;cases hb:m.blk b with
 |mk kind z c es clock str pos a9=>
  rw[hb]at hk hc hz;simp only at hk hc hz;subst hk hc hz;simp only[h1,NS hw,hl];refine⟨_,rfl,⟨h.lt,?_,?_,?_⟩,⟨ai _,rfl,rfl,rfl,rfl,rfl,rfl,rfl,rfl,fun x _ hx=>?_⟩,rfl⟩
  ·show((m.heap.put b _).get b).kind=1
   rw[j8.get_put,bK rfl]
  ·show((m.heap.put b _).get b).sz=_
   rw[j8.get_put,bK rfl]
  ·show((m.heap.put b _).get b).cs=_
   rw[j8.get_put,bK rfl];rfl
  ·show(m.heap.put b _).get x=m.blk x
   rw[j8.get_put,bZ (fun e=>hx e.symm)];rfl
structure sx (B:Nat->Prop)(m m':Mem):Prop where
 next:m.next<=m'.next
 blk:∀b,B b->b<m.next->m'.blk b=m.blk b/\(aL m.bB b=false->aL m'.bB b=false)
theorem sx.trans{m1:Mem}(h:sx B m m1)(k:sx B m1 m'):sx B m m':=
 ⟨cF h.next k.next,fun b hb hl=>⟨(k.blk b hb (a8 hl h.next)).1.trans (h.blk b hb hl).1,fun x=>(k.blk b hb (a8 hl h.next)).2 ((h.blk b hb hl).2 x)⟩⟩
theorem sx.mono{B':Nat->Prop}(h:sx B m m')(k:∀b,B' b->B b):sx B' m m':=⟨h.next,fun b hb=>h.blk b (k b hb)⟩
theorem Kp.same(k:Kp m m' S)(h:∀b,B b->¬S b):sx B m m':=⟨k.next,fun b hb hl=>⟨k.blk b hl (h b hb),fun x=>by rw[k.bB];exact x⟩⟩
theorem Obj.nF{b sz:Nat}{cs:List ae}(h:Obj m b sz cs)(s:sx B m m')(hb:B b):Obj m' b sz cs:=by
 obtain⟨e,v⟩:=s.blk b hb h.lt;exact⟨a8 h.lt s.next,by rw[e];exact h.kind,by rw[e];exact h.sz,by rw[e];exact h.cs,v h.Du⟩
def nB.Dl{α:Type}(E:nB α):Prop:=∀(B:Nat->Prop) (x:α) (m m':Mem) (v:ae),E.R B x m v->sx B m m'->E.R B x m' v
theorem XR.jc:∀{x:X}{v:ae},XR B x m v->sx B m m'->XR B x m' v
 | .bin ..,_,⟨b,lv,rv,e,hb,o,h1,h2⟩,s=>⟨b,lv,rv,e,hb,o.nF s hb,XR.jc h1 s,XR.jc h2 s⟩
 | .no ..,_,⟨b,xv,e,hb,o,h⟩,s=>⟨b,xv,e,hb,o.nF s hb,XR.jc h s⟩
 | .LQ ..,_,⟨b,xv,e,hb,o,h⟩,s=>⟨b,xv,e,hb,o.nF s hb,XR.jc h s⟩
 | .lit ..,_,⟨b,e,hb,o⟩,s=>⟨b,e,hb,o.nF s hb⟩
 | .pU ..,_,⟨b,e,hb,o⟩,s=>⟨b,e,hb,o.nF s hb⟩
theorem sX.jc:sX.Dl:=fun _ _ _ _ _ h s=>XR.jc h s
theorem ku.jc{α:Type}{val:α->ae}:(ku val).Dl:=fun _ _ _ _ _ h _=>h
theorem bS.jc:bS.Dl:=by
 rintro B x m m' v ⟨b,c,e,hb,o,h⟩ s;exact⟨b,c,e,hb,o.nF s hb,h⟩
theorem aW.jc{α:Type}{E:nB α}{sz:Nat}(hE:E.Dl):(aW E sz).Dl:=by
 rintro B l m m' v ⟨cs,h1,h2,h3⟩ s;refine⟨cs,⟨h1.1,h1.2.imp id ?_⟩,h2,h3.mono fun x u _ w=>⟨hE _ _ _ _ _ w.1 s,w.2⟩⟩;rintro⟨b,c,e,o,x⟩;exact⟨b,c,e,o.nF s (h2 _ _ _ _ e),x⟩
end
noncomputable def KW:gI:=⟨fun _ n=>gJ ab X0 n,fun _ _ _ _ _ _=>rfl⟩
structure Ej (K:gI):Prop where
 go:∀M n args m,K.C M (n+1) 137 args m=vA X0 (gJ ab X0 M) args m
 wait:∀M n args m,K.C M (n+1) 140 args m=EX args m
theorem Sg {K:gI}(hK:Ej K){m aV m2:Mem}{w f d o i:Nat}{cap:Array ae}{l rest:List Span}{u:ae}(fN:rS X0 (.func (.func f) #[] cap) m=some (d,o,i))(YT:lq w d o m=some aV)
  (hl:z6 (lK aV w (.func (.func f) #[] cap)) d o i=some l)(gZ:rest=aV.opn.filter fun s=>!l.contains s)(nV:aV.deaf=0)(dd:aV.pend.length<4)(hc:(l.all fun s=>aV.opn.contains s)=true)(ha:jw l=true)
  (hap:(l.all fun s=>(rest++aV.bB).all (wo s))=true)(AG:((rest++l).all fun t=>Nat.ble t.2.1 aV.next)=true)(hk:(l.all fun s=>Nat.beq s.2.1 (s.1+1)&&Nat.beq ((lK aV w (.func (.func f) #[] cap)).blk s.1).kind 1)=true)
  (fK:Ev KW f cap.toList (dm (lK aV w (.func (.func f) #[] cap)) l rest) u m2)(VP:m2.deaf=0):
  Ev K 137 [vP w 0,.func (.func f) #[] cap] m (.tuple #[]) (jJ (lK aV w (.func (.func f) #[] cap)) m2 l rest):=by
 obtain⟨N,hN⟩:=fK;refine⟨N+1,fun M n a b=>?_⟩;obtain⟨n,rfl⟩:∃k,n=k+1:=⟨n-1,aj⟩;rw[hK.go];have fK:=hN M M aj aj;have fK:gJ ab X0 M f cap.toList (dm (lK aV w (.func (.func f) #[] cap)) l rest)=some (u,m2):=fK;have hcf:A5 (gJ ab X0 M) (.func (.func f) #[] cap) [] (dm (lK aV w (.func (.func f) #[] cap)) l rest)=some (u,m2):=by
  show gJ ab X0 M f (([]:List ae)++[]++cap.toList) _=_
  simpa using fK
 unfold vA;simp only[fN,YT];have A1:z6 (cz (cz aV 0 [ptrTo w 0]).2 0 [.func (.func f) #[] cap]).2 d o i=some l:=hl;rw[A1];have acY:((cz (cz aV 0 [ptrTo w 0]).2 0 [.func (.func f) #[] cap]).2.opn.filter fun s=>!l.contains s)=rest:=gZ.symm;simp only[acY];rw[bK ⟨nV,dd,hc,ha,hap,AG,hk⟩];have akU:A5 (gJ ab X0 M) (.func (.func f) #[] cap) [] { (cz (cz aV 0 [ptrTo w 0]).2 0 [.func (.func f) #[] cap]).2 with home:=(cz (cz aV 0 [ptrTo w 0]).2 0 [.func (.func f) #[] cap]).2.next,floor:=(cz (cz aV 0 [ptrTo w 0]).2 0 [.func (.func f) #[] cap]).2.next,opn:=l,bB:=rest++(cz (cz aV 0 [ptrTo w 0]).2 0 [.func (.func f) #[] cap]).2.bB,wg:=none,pend:=[]}=some (u,m2):=hcf;rw[akU]
 show(if m2.deaf=0 then _ else none)=_
 rw[bK VP];rfl
end Go.AM
namespace Go.AM
set_option maxRecDepth 1000000
open Go Go.Conc Go.Proofs
theorem Gt {m m':Mem}{S:Nat->Prop}{b o n:Nat}(k:Kp m m' S)(h:m.cP b o n=true):m'.cP b o n=true:=by
 unfold Mem.cP at h⊢;rw[k.bB,k.base,k.floor,k.opn];exact h
theorem A9.form{α:Type}{E:nB α}{sz:Nat}{B:Nat->Prop}{m:Mem}{acc:List α}{sv:ae}(h:A9 E sz B m acc sv):∃a n c,sv= .slice a n c:=by
 obtain⟨a,c,e⟩:=aW.form h.fin;exact⟨a,_,c,e⟩
end Go.AM
namespace Go.AM
set_option maxRecDepth 1000000
open Go Go.Conc Go.Proofs
def sp (d x:Nat):Span:=(d,d+1,some x)
theorem ZE {aV:Mem}{w:Nat}{dw:ae}{b:Nat}(h:b<aV.next):(lK aV w dw).blk b=aV.blk b:=by
 show((aV.alloc _).alloc _).blk b=_
 rw[Mem.cf,bZ (by show¬aV.next+1=b;omega),Mem.cf,bZ aj]
end Go.AM
namespace Go.AM
set_option maxRecDepth 1000000
open Go Go.Conc Go.Proofs
def Kj (n:Nat):Nat:=max ((n+3) / 4) 8
def sW (n j:Nat):Nat:=min (j*Kj n) n
def Dv (n j:Nat):Nat:=min (sW n j+Kj n) n
theorem adu (n j:Nat):sW n j<=Dv n j/\Dv n j<=n:=by unfold Dv sW;omega
structure Calm (m:Mem):Prop where
 gd:Gd m
 bB:m.bB=[]
 opn:m.opn=[]
 floor:m.floor=m.base
 wg:m.wg=none
theorem Calm.ext{m m':Mem}{S:Nat->Prop}(h:Calm m)(k:Kp m m' S):Calm m':=⟨h.gd.ext k,k.bB.trans h.bB,k.opn.trans h.opn,by rw[k.floor,k.base];exact h.floor,k.wg.trans h.wg⟩
theorem size_eq {n:Nat}(hn:n<90000)(d:Option ae):j0 Nat.div .i64 (jH (eh n 4) 1) 4 d=some (vI (((n+3) / 4:Nat):Int)):=by
 have e:jH (eh n 4) 1=((n+3:Nat):Int):=by
  rw[j6 ⟨aj,aj⟩,AN ⟨aj,aj⟩];omega
 rw[e]
 show(match Nat.blt (n+3) (iI .i64)with |true=>some (ae.int .i64 (.ofNat (Nat.div (n+3) (Nat.succ 3))))|false=>d)=_
 have :Nat.blt (n+3) (iI .i64)=true:=Nat.ble_eq_true_of_le (by show n+3+1<=9223372036854775808;omega);rw[this];rfl
end Go.AM
namespace Go.AM
set_option maxRecDepth 1000000
open Go Go.Conc Go.Proofs
structure mj where
 f:Nat
 args:List ae
 mi:Mem
 v:ae
 L:List (Nat×dU)
 nx:Nat
def mj.at(r:mj)(f:Nat)(args:List ae)(m:Mem)(π:Nat->Nat):Prop:=r.f=f/\args=r.args.map (bN π 20)/\oz ab.globals.size r.mi m π
def mj.out(r:mj)(m:Mem)(π:Nat->Nat):Mem:=iM π r.mi m r.L r.nx
open Classical in
noncomputable def twR(RS:mj→Prop):bJ:=fun f args m=>
 if h:∃x:mj×(Nat→Nat),RS x.1∧x.1.at f args m x.2 then some (bN (Classical.choose h).2 20 (Classical.choose h).1.v,(Classical.choose h).1.out m (Classical.choose h).2)else none
theorem aa8 {RS:mj->Prop}{r:mj}{f:Nat}{args:List ae}{m:Mem}{π:Nat->Nat}(hr:RS r)(h:r.at f args m π)(hu:∀r' Au,RS r'->r'.at f args m Au->r'=r/\Au=π):twR RS f args m=some (bN π 20 r.v,r.out m π):=by
 have hx:∃x:mj×(Nat->Nat),RS x.1/\x.1.at f args m x.2:=⟨(r,π),hr,h⟩;unfold twR;rw[dif_pos hx];obtain⟨e1,e2⟩:=hu _ _ (Classical.choose_spec hx).1 (Classical.choose_spec hx).2;rw[e1,e2]
theorem tk {RS:mj->Prop}{f:Nat}{args:List ae}{m:Mem}(h:∀r,RS r->r.f≠f):twR RS f args m=none:=by
 unfold twR;exact dif_neg fun⟨x,h1,h2,_⟩=>h _ h1 h2
structure O4 (call:bJ)(r:mj):Prop where
 call:∃mq,call r.f r.args r.mi=some (r.v,mq)/\Ke r.mi mq r.L r.nx
 bod:dE ab r.f=true
 args:r.args.all (mm 20)=true
 val:mm 20 r.v=true
theorem RK {Fin:ae->ay->Prop}{call:bJ}(C:fe ab X0 true (Jn Fin) Mv call){RS:mj->Prop}(h:∀r,RS r->O4 call r):fe ab X0 true (Jn Fin) Mv (twR RS):=by
 intro f args m v m' hw ht;unfold twR at ht
 split at ht
 ·rename_i hx;have hs:=Classical.choose_spec hx;simp only[ah,au]at ht;obtain⟨rfl,rfl⟩:=ht;generalize Classical.choose hx=x at hs;obtain⟨r,π⟩:=x;obtain⟨hr,rfl,rfl,nN⟩:=hs;obtain⟨⟨mq,hc,hq⟩,hb,ha,hv⟩:=h r hr;obtain⟨k1,k2⟩:=I1 (Fin:=Fin) C hc hb nN hq ha hv;exact⟨k1,fun h'=>(by rw[hb]at h';cases h'),fun _=>k2⟩
 ·cases ht
structure Gl (m:Mem):Prop where
 og:ZL m
 base:0<m.base
 home:0<m.home
 hn:m.home<=m.next
 nx:12<=m.next
 low:∀b,b<m.home->(m.blk b).kind<=1
theorem Gl.ext{m m':Mem}{S:Nat->Prop}(h:Gl m)(k:Kp m m' S)(hs:∀b,S b->m.home<=b):Gl m':=by
 have h1:=h.home;have h2:=h.hn;have h3:=h.nx;have h4:=k.next;refine⟨h.og.ext k fun h0=>by have :=hs 0 h0;omega,by rw[k.base];exact h.base,by rw[k.home];exact h1,by rw[k.home];omega,aj,fun b hb=>?_⟩;rw[k.home]at hb;rw[k.blk b aj fun h0=>by have :=hs b h0;omega];exact h.low b hb
theorem Gl.aU{m m':Mem}(h:Gl m)(k:Kp m m' eQ):Gl m':=h.ext k fun _ h=>h.elim
def sH (m:Mem)(b:Nat):Nat:=if b<12 then b else m.next+(b-12)
theorem Bv (π:Nat->Nat):de.map (SA π)=de:=by
 have pF:(de.all fun x=>match x with |some y=>cG y|none=>false)=true:=bG
 conv=>rhs;rw[<-List.map_id de]
 refine List.map_congr_left fun x hx=>?_
 have :=aE.1 pF x hx
 split at this
 ·exact congrArg some (rT this)
 ·cases this
theorem agZ {m:Mem}(cm:Calm m)(hG:Gl m):oz ab.globals.size kz m (sH m):=by
 have k0:kz.blk 0={kind:=1,cs:=de}:=by rw[fP,bK rfl]
 have kn:∀b,(kz.blk b).kind≠0->b=0:=fun b hb=>by
  rw[fP]at hb
  split at hb
  ·rename_i h;exact h.symm
  ·exact absurd rfl hb
 have s0:sH m 0=0:=rfl;have g:=hG.og;refine⟨Bg,rfl,ai _,cm.floor,hG.hn,rfl,cm.bB,rfl,cm.opn,rfl,cm.wg,rfl,cm.gd.pend,rfl,cm.gd.deaf,fun b hb=>?_,fun b hb=>?_,fun b hb=>?_,fun b b' h1 h2 _=>by rw[kn b h1,kn b' h2],fun b hb=>?_,fun b=>?_,fun b hb hp=>?_,fun b hb=>?_,fun b hb=>?_,hG.low⟩
 ·rw[globals_size]at hb;exact bK hb
 ·have hb:b<12:=hb;have :=hG.nx;unfold sH;rw[bK hb];omega
 ·have hb:12<=b:=hb;exact bZ aj
 ·rw[kn b hb,s0,k0];refine⟨g.kind,fun _=>⟨g.sz,?_⟩,fun h=>(by cases h),fun h=>by cases h⟩;rw[show(({kind:=1,cs:=de}:dU).cs)=de from rfl,Bv,g.cs]
  kernel_rfl
 ·rw[fP]
  split
  ·kernel_rfl
  ·rfl
 ·rw[kn b (by rw[hb];decide),k0]at hp;cases hp
 ·rw[kn b hb,s0];have :=hG.base;exact⟨fun h=>absurd h gC,fun h=>by omega⟩
 ·rw[kn b hb,s0];have :=hG.home;exact⟨fun h=>absurd h gC,fun h=>by omega⟩
theorem Qa {m:Mem}{π:Nat->Nat}(h:oz ab.globals.size kz m π):π=sH m:=by
 funext b
 unfold sH;rw[<-globals_size]
 split
 ·rename_i hb;exact h.gl b hb
 ·rename_i hb;rw[globals_size]at hb⊢;exact h.ge b (by show 12<=b;omega)
section
variable {m:Mem}{L:List (Nat×dU)}{nx:Nat}
theorem U6 (hL:∀x∈L,12<=x.1):Kp m (iM (sH m) kz m L nx) eQ:=by
 refine⟨Nat.le_add_right _ _,rfl,rfl,rfl,rfl,rfl,rfl,rfl,rfl,fun b hb _=>?_⟩;rcases gE (m:=m) (L:=L.map fun x=>(sH m x.1,qM (sH m) x.2)) (nx:=m.next+(nx-kz.next)) b with⟨e,_⟩|⟨k,hm,_⟩
 ·exact e
 ·obtain⟨x,hx,ex⟩:=List.mem_map.1 hm;cases ex;have :=hL x hx
  exfalso
  unfold sH at hb;rw[bZ aj]at hb;omega
theorem xx {t:Nat}:∀{L:List (Nat×dU)} {h:j8}{x:Nat×dU},(L.map (·.1)).Nodup->x∈L->(LM t L h).get x.1={x.2 with a9:=t}
 | [],_,x,_,hx=>by cases hx
 |y::l,h,x,hn,hx=>by
  rw[List.map_cons,List.nodup_cons]at hn;unfold LM;rw[j8.get_put];rcases aR.1 hx with rfl|hx
  ·rw[bK rfl]
  ·rw[bZ fun e=>hn.1 (List.mem_map.2 ⟨x,hx,e.symm⟩)];exact xx hn.2 hx
theorem NZ (hn:(L.map (·.1)).Nodup){b:Nat}{k:dU}(hx:(b,k)∈L)(hL:∀x∈L,12<=x.1):(iM (sH m) kz m L nx).blk (sH m b)={qM (sH m) k with a9:=m.tick}:=by
 have hnd:((L.map fun x=>(sH m x.1,qM (sH m) x.2)).map (·.1)).Nodup:=by
  rw[List.map_map];have :(L.map ((fun x=>x.1)∘fun x=>(sH m x.1,qM (sH m) x.2)))=(L.map (·.1)).map (sH m):=by rw[List.map_map];rfl
  rw[this,List.Nodup,List.pairwise_map];refine List.Pairwise.imp_of_mem ?_ hn;intro a c ha hc dO e;obtain⟨x,hx,rfl⟩:=List.mem_map.1 ha;obtain⟨y,hy,rfl⟩:=List.mem_map.1 hc;have :=hL x hx;have :=hL y hy;unfold sH at e;rw[bZ aj,bZ aj]at e;omega
 exact xx (x:=(sH m b,qM (sH m) k)) hnd (List.mem_map.2 ⟨(b,k),hx,rfl⟩)
theorem NY (cm:Calm m)(hn:(L.map (·.1)).Nodup){b:Nat}{k:dU}{cs:List ae}(hx:(b,k)∈L)(hb:12<=b)(Jc:b<nx)(hL:∀x∈L,12<=x.1)(hk:k.kind=1)(hc:k.cs=cs.map some):Obj (iM (sH m) kz m L nx) (sH m b) k.sz (cs.map (bN (sH m) 20)):=by
 have e:=NZ (m:=m) (nx:=nx) hn hx hL;have hs:sH m b=m.next+(b-12):=bZ aj;refine⟨?_,by rw[e];exact hk,by rw[e];rfl,?_,?_⟩
 ·rw[hs]
  show _<m.next+(nx-12)
  omega
 ·rw[e]
  show k.cs.map (SA (sH m))=_
  rw[hc,List.map_map,List.map_map];rfl
 ·show aL m.bB _=false
  rw[cm.bB];rfl
end
end Go.AM
namespace Go.AM
set_option maxRecDepth 1000000
open Go Go.Conc Go.Proofs
theorem uC {π:Nat->Nat}:∀{n:Nat}{v:ae},mm n v=true->bN π (n+1) v=bN π n v:=by
 have key:∀{n:Nat},(∀{v:ae},mm n v=true->bN π (n+1) v=bN π n v)->∀{l:List ae},l.all (mm n)=true->l.map (bN π (n+1))=l.map (bN π n):=fun ih l h=>List.map_congr_left fun x hx=>ih (aE.1 h x hx)
 intro n
 induction n with
 |zero=>intro v h;exact rT h
 |succ n ih=>
  intro v h;cases v with
  |func fn f c=>
   have h:(f.toList.all (mm n)&&c.toList.all (mm n))=true:=h;rw[ag]at h
   show ae.func fn (f.toList.map (bN π (n+1))).toArray (c.toList.map (bN π (n+1))).toArray=ae.func fn (f.toList.map (bN π n)).toArray (c.toList.map (bN π n)).toArray
   rw[key ih h.1,key ih h.2]
  |iface t x=>exact congrArg (ae.iface t) (ih h)
  |agg cs=>
   show ae.agg (cs.toList.map (bN π (n+1))).toArray=ae.agg (cs.toList.map (bN π n)).toArray
   rw[key ih h]
  |tuple cs=>
   show ae.tuple (cs.toList.map (bN π (n+1))).toArray=ae.tuple (cs.toList.map (bN π n)).toArray
   rw[key ih h]
  |pointer a=>cases a<;>rfl
  |slice a l c=>cases a<;>rfl
  |map a=>cases a<;>rfl
  |_=>rfl
theorem lS {π:Nat->Nat}{l:List ae}(h:l.all (mm 19)=true):bN π 20 (.agg l.toArray)= .agg (l.map (bN π 20)).toArray:=by
 show ae.agg (l.map (bN π 19)).toArray=_
 congr 2
 exact List.map_congr_left fun x hx=>(uC (aE.1 h x hx)).symm
theorem Sz {π:Nat->Nat}{n:Nat}{v:ae}:(bN π n v).oneCell'=v.oneCell':=by
 cases n with
 |zero=>rfl
 |succ n=>cases v with
  |pointer a=>cases a<;>rfl
  |slice a l c=>cases a<;>rfl
  |map a=>cases a<;>rfl
  |_=>rfl
def Es:List (Option ae)->Option (List ae)
 | []=>some []
 |some v::l=>match Es l with |some r=>some (v::r)|none=>none
 |none::_=>none
theorem wM:∀{l:List (Option ae)} {r:List ae},Es l=some r->l=r.map some
 | [],r,h=>by cases h;rfl
 |some v::l,r,h=>by
  unfold Es at h
  split at h
  ·rename_i s hs;cases h;rw[wM hs];rfl
  ·cases h
 |none::l,r,h=>by cases h
def dI:List (Nat×dU)->Nat->Option (Nat×List ae)
 | [],_=>none
 |x::l,b=>if Nat.beq x.1 b then(if Nat.beq x.2.kind 1 then(match Es x.2.cs with |some cs=>some (x.2.sz,cs)|none=>none)else none)else dI l b
theorem xy:∀{L:List (Nat×dU)} {b sz:Nat}{cs:List ae},dI L b=some (sz,cs)->∃k,(b,k)∈L/\k.kind=1/\k.sz=sz/\k.cs=cs.map some
 | [],_,_,_,h=>by cases h
 |x::l,b,sz,cs,h=>by
  unfold dI at h
  split at h
  ·rename_i hb
   split at h
   ·rename_i hk
    split at h
    ·rename_i r hr;cases h;exact⟨x.2,by rw[<-az hb];exact List.mem_cons_self ..,az hk,rfl,wM hr⟩
    ·cases h
   ·cases h
  ·obtain⟨k,h1,h2⟩:=xy h;exact⟨k,List.mem_cons_of_mem _ h1,h2⟩
def lz (π:Nat->Nat)(L:List (Nat×dU))(m:Mem)(B:Nat->Prop):Prop:=∀b sz cs,dI L b=some (sz,cs)->B (π b)/\Obj m (π b) sz (cs.map (bN π 20))
structure Tel {α:Type}(E:nB α) where
 vZ:List (Nat×dU)->α->ae->Bool
 ok:∀{π:Nat->Nat}{L:List (Nat×dU)} {m:Mem}{B:Nat->Prop},lz π L m B->∀{x:α}{v:ae},vZ L x v=true->E.R B x m (bN π 20 v)
def aiU {α:Type}(val:α->ae)(hv:∀(π:Nat->Nat) x,bN π 20 (val x)=val x):Tel (ku val):=
 ⟨fun _ x v=>JA 20 (val x) v,fun{π} _ _ _ _ {x v} h=>by rw[<-oj h];exact hv π x⟩
def PK (sz:Nat)(v:ae):Bool:=mm 20 v&&match sz with
 |1=>(match v with | .agg _=>false|v=>v.oneCell')
 |sz=>(match v with | .agg cs=>Nat.beq cs.toList.length sz&&cs.toList.all fun x=>mm 19 x&&x.oneCell'|_=>false)
def zG {α:Type}(sz:Nat)(c:α->ae->Bool):List α->List ae->Bool
 | [],cs=>cs.isEmpty
 |x::l,cs=>(match sz,cs with
  |1,v::r=>PK 1 v&&c x v&&zG sz c l r
  |1,[]=>false
  |Sa,cs=>Nat.ble Sa cs.length&&PK Sa (.agg (cs.take Sa).toArray)&&c x (.agg (cs.take Sa).toArray)&&zG sz c l (cs.drop Sa))
theorem S0 {v:ae}(h:PK 1 v=true):v.cells.toList=[v]/\∀π:Nat->Nat,(bN π 20 v).cells.toList=[bN π 20 v]/\okV 1 (bN π 20 v):=by
 unfold PK at h;rw[ag]at h;have h1:=h.2;have key:∀u:ae,(match u with | .agg _=>false|u=>u.oneCell')=true->u.cells=#[u]/\u.oneCell'=true:=fun u hu=>by
  cases u<;>first |exact⟨rfl,hu⟩|cases hu
 obtain⟨e1,e2⟩:=key v h1;refine⟨by rw[e1],fun π=>?_⟩;have e3:(match bN π 20 v with | .agg _=>false|u=>u.oneCell')=true:=by
  cases v with
  |agg cs=>cases h1
  |pointer a=>cases a<;>exact e2
  |slice a l c=>cases a<;>exact e2
  |map a=>cases a<;>exact e2
  |_=>exact e2
 obtain⟨e4,e5⟩:=key _ e3;refine⟨by rw[e4],by rw[e4];rfl,fun y hy=>?_⟩;rw[e4]at hy;rw[List.mem_singleton.1 hy];exact e5
theorem S1 {sz:Nat}{l:List ae}(h1:sz≠1)(h:PK sz (.agg l.toArray)=true):l.length=sz/\(∀x∈l,mm 19 x=true/\x.oneCell'=true):=by
 unfold PK at h;rw[ag]at h;have h2:=h.2
 split at h2
 ·exact absurd rfl h1
 ·simp only[ag]at h2;exact⟨az h2.1,fun x hx=>by
   have :=aE.1 h2.2 x hx;rwa[ag]at this⟩
theorem wS {α:Type}{sz:Nat}{c:α->ae->Bool}{Q:α->ae->Prop}{π:Nat->Nat}(hc:∀x v,c x v=true->Q x (bN π 20 v)):∀{l:List α}{cs:List ae},zG sz c l cs=true->cp (fun x u=>Q x u/\okV sz u) l (cs.map (bN π 20))
 | [],cs,h=>by
  unfold zG at h;rw[List.isEmpty_iff.1 h];rfl
 |x::l,cs,h=>by
  unfold zG at h
  split at h
  ·rename_i v r;simp only[ag]at h;obtain⟨⟨h1,h2⟩,h3⟩:=h;obtain⟨_,hk⟩:=S0 h1;exact⟨bN π 20 v,r.map (bN π 20),by rw[(hk π).1];rfl,⟨hc _ _ h2,(hk π).2⟩,wS hc h3⟩
  ·cases h
  ·rename_i Rj ak8;simp only[ag]at h;obtain⟨⟨⟨h0,h1⟩,h2⟩,h3⟩:=h;have iB:sz≠1:=by
    rintro rfl;cases cs with
    |nil=>exact ak8 rfl rfl
    |cons v r=>exact Rj v r rfl rfl
   obtain⟨e1,e2⟩:=S1 iB h1;have hr:=lS (π:=π) (l:=cs.take sz) (aE.2 fun x hx=>(e2 x hx).1);refine⟨bN π 20 (.agg (cs.take sz).toArray),(cs.drop sz).map (bN π 20),?_,⟨hc _ _ h2,?_⟩,wS hc h3⟩
   ·rw[hr]
    show cs.map _=(cs.take sz).map _++_
    rw[<-List.map_append,List.take_append_drop]
   ·rw[hr];refine⟨by show((cs.take sz).map (bN π 20)).length=sz;rw[List.length_map,e1],fun y hy=>?_⟩;obtain⟨z,hz,rfl⟩:=List.mem_map.1 (show y∈(cs.take sz).map (bN π 20)from hy);rw[Sz];exact(e2 z hz).2
def aiV {α:Type}{E:nB α}(c:Tel E)(sz:Nat):Tel (aW E sz) where
 vZ L l v:=match v with
  | .slice none n cap=>Nat.beq n 0&&Nat.beq cap 0&&l.isEmpty
  | .slice (some a) n cap=>Nat.beq a.off 0&&a.spot.isNone&&Nat.beq n l.length&&(Nat.beq cap fp||Nat.beq cap n)&&(match dI L a.block with
   |some (Sa,cs)=>Nat.beq Sa sz&&zG sz (c.vZ L) l cs
   |none=>false)
  |_=>false
 ok:=by
  intro π L m B hL l v h
  split at h
  ·rename_i n cap;simp only[ag]at h;obtain⟨⟨h1,h2⟩,h3⟩:=h;rw[az h1,az h2,List.isEmpty_iff.1 h3];exact aW.nil
  ·rename_i a n cap;simp only[ag]at h;obtain⟨⟨⟨⟨h1,h2⟩,h3⟩,h4⟩,h5⟩:=h
   split at h5
   ·rename_i Sa cs hg;rw[ag]at h5;obtain⟨hb,ho⟩:=hL _ _ _ hg;have ik:=wS (π:=π) (fun x v=>c.ok hL (x:=x) (v:=v)) h5.2;obtain⟨b,o,sp⟩:=a;have e1:o=0:=az h1;have e2:sp=none:=Option.isNone_iff_eq_none.1 h2;subst e1 e2;have e3:=az h3;subst e3;rw[az h5.1]at ho;refine⟨cs.map (bN π 20),⟨ik.one.1,.inr ⟨π b,cap,rfl,ho,?_⟩⟩,fun b' o' n' c' e=>by cases e;exact hb,ik⟩;rw[Bool.or_eq_true]at h4;exact h4.imp az az
   ·cases h5
  ·cases h
def aaJ:Tel qA:=aiV (aiU AK.val fun π x=>by
 show ae.agg #[bN π 19 (.string x.n),bN π 19 (vI x.k)]=_
 rw[rT rfl,rT rfl]) 2
def W4 (l:List ae):Bool:=l.all (mm 19)
end Go.AM
namespace Go.AM
set_option maxRecDepth 1000000
open Go Go.Conc Go.Proofs
def He (m:Mem)(v:ae)(k:Nat):Option ae:=match v with
 | .pointer (some a)=>if(m.blk a.block).kind=1 then((m.blk a.block).cs[a.off+k]?).join else none
 | .slice (some a) _ _=>if(m.blk a.block).kind=1 then((m.blk a.block).cs[a.off+k]?).join else none
 | .map (some r)=>if(m.blk r).kind=2 then((m.blk r).es.toList[k]?).map (·.val)else none
 |_=>none
def Tq (m:Mem):ae->List Nat->Option ae
 |v,[]=>some v
 |v,k::l=>match He m v k with |some u=>Tq m u l|none=>none
def Gr (m:Mem)(args:List ae)(l:List Nat):Option ae:=match l with
 |i::j::l=>((args[i]?).bind fun a=>a.cells.toList[j]?).bind fun v=>Tq m v l
 |_=>none
def Iv:ae->Option Nat
 | .pointer (some a)=>some a.block
 | .slice (some a) _ _=>some a.block
 | .map (some r)=>some r
 |_=>none
theorem Iu {π:Nat->Nat}{v:ae}:Iv (bN π 20 v)=(Iv v).map π:=by
 cases v with
 |pointer a=>cases a<;>rfl
 |slice a l c=>cases a<;>rfl
 |map a=>cases a<;>rfl
 |_=>rfl
section
variable {G:Nat}{mi m:Mem}{π:Nat->Nat}
theorem Qr (h:oz G mi m π){v u:ae}{k:Nat}(e:He mi v k=some u):He m (bN π 20 v) k=some (bN π 20 u):=by
 have cell:∀{b o:Nat},(if(mi.blk b).kind=1 then((mi.blk b).cs[o]?).join else none)=some u->(if(m.blk (π b)).kind=1 then((m.blk (π b)).cs[o]?).join else none)=some (bN π 20 u):=fun{b o} e=>by
  split at e
  ·rename_i hk;have s:=h.same b (by rw[hk];decide);rw[bK (s.kind.trans hk),(s.cells hk).2,List.getElem?_map];cases hc:(mi.blk b).cs[o]? with
   |none=>rw[hc]at e;cases e
   |some x=>
    rw[hc]at e;cases x with
    |none=>cases e
    |some y=>cases e;rfl
  ·cases e
 cases v with
 |pointer a=>cases a with
  |none=>cases e
  |some a=>exact cell e
 |slice a l c=>cases a with
  |none=>cases e
  |some a=>exact cell e
 |map r=>cases r with
  |none=>cases e
  |some r=>
   unfold He at e;simp only at e
   split at e
   ·rename_i hk;have s:=h.same r (by rw[hk];decide)
    show(if(m.blk (π r)).kind=2 then((m.blk (π r)).es.toList[k]?).map (·.val)else none)=_
    rw[bK (s.kind.trans hk),(s.map hk).1,List.getElem?_map];cases hc:(mi.blk r).es.toList[k]? with
    |none=>rw[hc]at e;cases e
    |some x=>rw[hc]at e;cases e;rfl
   ·cases e
 |_=>cases e
theorem NO (h:oz G mi m π):∀{l:List Nat}{v u:ae},Tq mi v l=some u->Tq m (bN π 20 v) l=some (bN π 20 u)
 | [],v,u,e=>by cases e;rfl
 |k::l,v,u,e=>by
  unfold Tq at e⊢
  split at e
  ·rename_i x hx;rw[Qr h hx];exact NO h e
  ·cases e
theorem Qz {a v:ae}{j:Nat}(hd:mm 20 a=true)(hv:a.cells.toList[j]?=some v):(bN π 20 a).cells.toList[j]?=some (bN π 20 v):=by
 cases a with
 |agg cs=>
  have pF:cs.toList.all (mm 19)=true:=hd;have hv:cs.toList[j]?=some v:=hv
  show((cs.toList.map (bN π 19)))[j]?=_
  rw[List.getElem?_map,hv];exact congrArg some (uC (aE.1 pF _ (List.mem_of_getElem? hv))).symm
 |pointer p=>
  have hv:[ae.pointer p][j]?=some v:=hv;cases j with
  |zero=>cases hv;cases p<;>rfl
  |succ j=>cases hv
 |slice p n c=>
  have hv:[ae.slice p n c][j]?=some v:=hv;cases j with
  |zero=>cases hv;cases p<;>rfl
  |succ j=>cases hv
 |map p=>
  have hv:[ae.map p][j]?=some v:=hv;cases j with
  |zero=>cases hv;cases p<;>rfl
  |succ j=>cases hv
 |_=>cases j with
  |zero=>cases hv;rfl
  |succ j=>cases hv
theorem IM (h:oz G mi m π){args:List ae}(ha:args.all (mm 20)=true){l:List Nat}{u:ae}(e:Gr mi args l=some u):Gr m (args.map (bN π 20)) l=some (bN π 20 u):=by
 unfold Gr at e⊢
 split at e
 ·rename_i i j l;obtain⟨v,h1,h2⟩:=bE.1 e;obtain⟨a,h3,h4⟩:=bE.1 h1;refine bE.2 ⟨bN π 20 v,bE.2 ⟨bN π 20 a,by rw[List.getElem?_map,h3];rfl,?_⟩,NO h h2⟩;exact Qz (aE.1 ha _ (List.mem_of_getElem? h3)) h4
 ·cases e
theorem Tp {G':Nat}{mi':Mem}{Au:Nat->Nat}{args bj xs:List ae}(h:oz G mi m π)(h':oz G' mi' m Au)(ha:args.all (mm 20)=true)(mQ:bj.all (mm 20)=true)(e:xs=args.map (bN π 20))(e':xs=bj.map (bN Au 20)){l:List Nat}{u u':ae}(n:Gr mi args l=some u)(n':Gr mi' bj l=some u'):bN π 20 u=bN Au 20 u':=by
 have h1:=IM h ha n;have h2:=IM h' mQ n';rw[<-e]at h1;rw[<-e',h1]at h2;exact Option.some.inj h2
theorem X' {G':Nat}{mi':Mem}{Au:Nat->Nat}{args bj xs:List ae}(h:oz G mi m π)(h':oz G' mi' m Au)(ha:args.all (mm 20)=true)(mQ:bj.all (mm 20)=true)(e:xs=args.map (bN π 20))(e':xs=bj.map (bN Au 20)){l:List Nat}{u u':ae}{b b':Nat}(n:Gr mi args l=some u)(n':Gr mi' bj l=some u')(p:Iv u=some b)(p':Iv u'=some b'):π b=Au b':=by
 have :=Tp h h' ha mQ e e' n n';have h1:Iv (bN π 20 u)=some (π b):=by rw[Iu,p];rfl
 have h2:Iv (bN Au 20 u')=some (Au b'):=by rw[Iu,p'];rfl
 rw[this,h2]at h1;exact(Option.some.inj h1).symm
end
def HE (N nx:Nat)(l:List (Nat×Nat))(b:Nat):Nat:=if b<12 then b else if b<N then(match l.find? fun x=>Nat.beq x.1 b with |some x=>x.2|none=>0)else nx+(b-N)
def kOk (K:List (Nat×dU))(N:Nat):Bool:=K.all fun x=>Nat.ble 12 x.1&&Nat.blt x.1 N&&Nat.blt 0 x.2.kind&&Nat.ble x.2.kind 3&&okB x.2&&Nat.beq x.2.pos 0&&x.2.cs.all (·.isSome)
theorem NR {K:List (Nat×dU)}{N:Nat}(hK:kOk K N=true)(b:Nat):((DR kz K N).blk b).kind≠0->b=0\/∃k,(b,k)∈K/\(DR kz K N).blk b={k with a9:=1}:=fun hb=>by
 rcases gE (m:=kz) (L:=K) (nx:=N) b with⟨e,_⟩|⟨k,hm,e⟩
 ·rw[e,fP]at hb
  split at hb
  ·rename_i h;exact .inl h.symm
  ·exact absurd rfl hb
 ·exact .inr ⟨k,hm,e⟩
theorem tO {K:List (Nat×dU)}{N:Nat}(h:kOk K N=true){x:Nat×dU}(hx:x∈K):12<=x.1/\x.1<N/\0<x.2.kind/\x.2.kind<=3/\okB x.2=true/\x.2.pos=0/\∀y∈x.2.cs,y≠none:=by
 have :=aE.1 h x hx;simp only[ag]at this;obtain⟨⟨⟨⟨⟨⟨h1,h2⟩,h3⟩,h4⟩,h5⟩,h6⟩,h7⟩:=this;exact⟨af h1,af h2,af h3,af h4,h5,az h6,fun y hy e=>by
  have :=aE.1 h7 y hy;rw[e]at this;cases this⟩
structure Emb (m:Mem)(π:Nat->Nat)(K:List (Nat×dU)):Prop where
 lt:∀x∈K,π x.1<m.next
 base:∀x∈K,m.base<=π x.1/\m.home<=π x.1
 jF:∀x∈K,Dj π x.2 (m.blk (π x.1))
 inj:∀x∈K,∀y∈K,π x.1=π y.1->x.1=y.1
theorem akc {m:Mem}(cm:Calm m)(hG:Gl m){K:List (Nat×dU)}{N:Nat}{l:List (Nat×Nat)}(hK:kOk K N=true)(hN:12<=N)(hl:∀x∈l,x.2<m.next)(hE:Emb m (HE N m.next l) K):oz ab.globals.size (DR kz K N) m (HE N m.next l):=by
 have kn:=fun b=>NR (b:=b) hK
 have s0:HE N m.next l 0=0:=rfl;have k0:(DR kz K N).blk 0={kind:=1,cs:=de}:=by
  rcases gE (m:=kz) (L:=K) (nx:=N) 0 with⟨e,_⟩|⟨k,hm,_⟩
  ·rw[e,fP,bK rfl]
  ·have h1:12<=0:=(tO hK hm).1;omega
 have g:=hG.og;refine⟨aa4 Bg rfl hN fun x hx=>?_,rfl,hN,cm.floor,hG.hn,rfl,cm.bB,rfl,cm.opn,rfl,cm.wg,rfl,cm.gd.pend,rfl,cm.gd.deaf,fun b hb=>?_,fun b hb=>?_,fun b hb=>?_,fun b b' h1 h2 he=>?_,fun b hb=>?_,fun b=>?_,fun b hb hp=>?_,fun b hb=>?_,fun b hb=>?_,hG.low⟩
 ·obtain⟨_,h2,_,h4,_,_,h7⟩:=tO hK hx;exact⟨h2,h7,h4⟩
 ·rw[globals_size]at hb;exact bK hb
 ·have hb:b<N:=hb;have :=hG.nx;unfold HE
  by_cases h12:b<12
  ·rw[bK h12];omega
  ·rw[bZ h12,bK hb]
   split
   ·rename_i x hx;exact hl x (List.mem_of_find?_eq_some hx)
   ·omega
 ·have hb:N<=b:=hb;unfold HE;rw[bZ aj,bZ aj];rfl
 ·have vl:=hG.base;rcases kn b h1 with rfl|⟨k,hk,_⟩<;>rcases kn b' h2 with rfl|⟨k',gf,_⟩
  ·rfl
  ·rw[s0]at he;have :=(hE.base _ gf).1;rw[<-he]at this;omega
  ·rw[s0]at he;have :=(hE.base _ hk).1;rw[he]at this;omega
  ·exact hE.inj _ hk _ gf he
 ·rcases kn b hb with rfl|⟨k,hk,e⟩
  ·rw[s0,k0];refine⟨g.kind,fun _=>⟨g.sz,?_⟩,fun h=>(by cases h),fun h=>by cases h⟩;rw[show(({kind:=1,cs:=de}:dU).cs)=de from rfl,Bv,g.cs]
   kernel_rfl
  ·rw[e];have s:=hE.jF _ hk;exact⟨s.kind,s.cells,s.map,s.iter⟩
 ·rcases gE (m:=kz) (L:=K) (nx:=N) b with⟨e,_⟩|⟨k,hm,e⟩
  ·rw[e,fP]
   split
   ·kernel_rfl
   ·rfl
  ·rw[e];exact(tO hK hm).2.2.2.2.1
 ·rcases kn b (by rw[hb];decide)with rfl|⟨k,hk,e⟩
  ·rw[k0]at hp;cases hp
  ·rw[e]at hp;have hp:k.pos=1:=hp;rw[(tO hK hk).2.2.2.2.2.1]at hp;cases hp
 ·have :=hG.base;rcases kn b hb with rfl|⟨k,hk,_⟩
  ·rw[s0];exact⟨fun h=>absurd (show 12<=0 from h) gC,fun h=>by omega⟩
  ·have h1:=(tO hK hk).1;exact⟨fun _=>(hE.base _ hk).1,fun _=>h1⟩
 ·have :=hG.home;rcases kn b hb with rfl|⟨k,hk,_⟩
  ·rw[s0];exact⟨fun h=>absurd (show 12<=0 from h) gC,fun h=>by omega⟩
  ·have h1:=(tO hK hk).1;exact⟨fun _=>(hE.base _ hk).2,fun _=>h1⟩
end Go.AM
namespace Go.AM
set_option maxRecDepth 1000000
open Go Go.Conc Go.Proofs
def S5 (mq:Mem)(L:List (Nat×dU))(nx:Nat):Bool:=
 Nat.beq mq.base 12&&Nat.beq mq.home 12&&Nat.beq mq.floor 12&&mq.bB.isEmpty&&mq.opn.isEmpty&&mq.wg.isNone&&Nat.beq mq.deaf 0&&Nat.ble mq.next nx&&Nat.ble 12 nx&&Fh (mq.blk 0) (kz.blk 0)&&
 L.all fun x=>Nat.ble 12 x.1&&Nat.blt x.1 nx&&Nat.ble x.2.kind 3&&Fh x.2 (mq.blk x.1)&&okB x.2
theorem S4 {mq:Mem}{L:List (Nat×dU)}{nx:Nat}(h:S5 mq L nx=true):Ke kz mq L nx/\∀x∈L,12<=x.1/\x.1<nx:=by
 unfold S5 at h;simp only[ag]at h;obtain⟨⟨⟨⟨⟨⟨⟨⟨⟨⟨h1,h2⟩,h3⟩,h4⟩,h5⟩,h6⟩,h7⟩,h8⟩,h9⟩,h10⟩,h11⟩:=h;have h11:=aE.1 h11;have key:∀x∈L,12<=x.1/\x.1<nx/\jf x.2 (mq.blk x.1)/\x.2.live/\okB x.2=true:=fun x hx=>by
  have :=h11 x hx;simp only[ag]at this;obtain⟨⟨⟨⟨a1,a2⟩,a3⟩,a4⟩,a5⟩:=this;exact⟨af a1,af a2,Cz a4,⟨Mp a4,af a3⟩,a5⟩
 refine⟨⟨az h1,az h2,az h3,List.isEmpty_iff.1 h4,List.isEmpty_iff.1 h5,Option.isNone_iff_eq_none.1 h6,az h7,fun b hb=> .inr ?_,af h8,af h9,fun x hx=>⟨.inl (key x hx).1,(key x hx).2⟩⟩,fun x hx=>⟨(key x hx).1,(key x hx).2.1⟩⟩;rw[fP]at hb
 split at hb
 ·rename_i e;subst e;exact Cz h10
 ·exact absurd rfl hb
noncomputable def mj.fact(r:mj):Bool:=(match Ct r.f r.args kz with |some (v',mq)=>JA 20 r.v v'&&S5 mq r.L r.nx|none=>false)&&r.args.all (mm 20)&&mm 20 r.v
theorem mj.dA{r:mj}(h:r.fact=true)(hm:r.mi=kz)(hb:dE ab r.f=true):O4 Ct r/\∀x∈r.L,12<=x.1/\x.1<r.nx:=by
 unfold mj.fact at h;rw[ag,ag]at h;obtain⟨⟨h,ha⟩,hv⟩:=h
 split at h
 ·rename_i v' mq hc;rw[ag]at h;obtain⟨q1,q2⟩:=S4 h.2;refine⟨⟨⟨mq,?_,by rw[hm];exact q1⟩,hb,ha,hv⟩,q2⟩;rw[hm,hc,oj h.1]
 ·cases h
end Go.AM
namespace Go.AM
set_option maxRecDepth 1000000
open Go Go.Conc Go.Proofs
structure kK where
 f:Nat
 args:List ae
 K:List (Nat×dU)
 N:Nat
 c:List (Nat×List Nat)
 v:ae
 L:List (Nat×dU)
 nx:Nat
noncomputable def kK.mi(r:kK):Mem:=DR kz r.K r.N
def kK.at(r:kK)(f:Nat)(args:List ae)(m:Mem)(π:Nat->Nat):Prop:=r.f=f/\args=r.args.map (bN π 20)/\(∃l,l.map (·.1)=r.c.map (·.1)/\π=HE r.N m.next l)/\oz ab.globals.size r.mi m π
noncomputable def kK.out(r:kK)(m:Mem)(π:Nat->Nat):Mem:=iM π r.mi m r.L r.nx
open Classical in
noncomputable def ZU(RS:kK→Prop):bJ:=fun f args m=>
 if h:∃x:kK×(Nat→Nat),RS x.1∧x.1.at f args m x.2 then some (bN (Classical.choose h).2 20 (Classical.choose h).1.v,(Classical.choose h).1.out m (Classical.choose h).2)else none
theorem aba {RS:kK->Prop}{r:kK}{f:Nat}{args:List ae}{m:Mem}{π:Nat->Nat}(hr:RS r)(h:r.at f args m π)(hu:∀r' Au,RS r'->r'.at f args m Au->r'.v=r.v/\r'.L=r.L/\r'.nx=r.nx/\r'.N=r.N/\Au=π):ZU RS f args m=some (bN π 20 r.v,r.out m π):=by
 have hx:∃x:kK×(Nat->Nat),RS x.1/\x.1.at f args m x.2:=⟨(r,π),hr,h⟩;unfold ZU;rw[dif_pos hx];obtain⟨e1,e2,e3,e4,e5⟩:=hu _ _ (Classical.choose_spec hx).1 (Classical.choose_spec hx).2;unfold kK.out iM;rw[e1,e2,e3,e5,show(kK.mi (Classical.choose hx).1).next=(kK.mi r).next from e4]
theorem RL {RS:kK->Prop}{f:Nat}{args:List ae}{m:Mem}(h:∀r,RS r->r.f≠f):ZU RS f args m=none:=by
 unfold ZU;exact dif_neg fun⟨x,h1,h2,_⟩=>h _ h1 h2
structure MS (call:bJ)(r:kK):Prop where
 call:∃mq,call r.f r.args r.mi=some (r.v,mq)/\Ke r.mi mq r.L r.nx
 bod:dE ab r.f=true
 args:r.args.all (mm 20)=true
 val:mm 20 r.v=true
theorem aa9 {Fin:ae->ay->Prop}{call:bJ}(C:fe ab X0 true (Jn Fin) Mv call){RS:kK->Prop}(h:∀r,RS r->MS call r):fe ab X0 true (Jn Fin) Mv (ZU RS):=by
 intro f args m v m' hw ht;unfold ZU at ht
 split at ht
 ·rename_i hx;have hs:=Classical.choose_spec hx;simp only[ah,au]at ht;obtain⟨rfl,rfl⟩:=ht;generalize Classical.choose hx=x at hs;obtain⟨r,π⟩:=x;obtain⟨hr,rfl,rfl,_,nN⟩:=hs;obtain⟨⟨mq,hc,hq⟩,hb,ha,hv⟩:=h r hr;obtain⟨k1,k2⟩:=I1 (Fin:=Fin) C hc hb nN hq ha hv;exact⟨k1,fun h'=>(by rw[hb]at h';cases h'),fun _=>k2⟩
 ·cases ht
def OS (mi:Mem)(args:List ae)(c:List (Nat×List Nat)):Bool:=c.all fun x=>match Gr mi args x.2 with
 |some v=>(match Iv v with |some b=>Nat.beq b x.1|none=>false)
 |none=>false
theorem JR {mi:Mem}{args:List ae}{c:List (Nat×List Nat)}(h:OS mi args c=true){x:Nat×List Nat}(hx:x∈c):∃v,Gr mi args x.2=some v/\Iv v=some x.1:=by
 have :=aE.1 h x hx
 split at this
 ·rename_i v hv
  split at this
  ·rename_i b hb;exact⟨v,hv,by rw[hb,az this]⟩
  ·cases this
 ·cases this
theorem BI {N nx:Nat}:∀{l:List (Nat×Nat)},(l.map (·.1)).Nodup->(∀x∈l,12<=x.1/\x.1<N)->∀x∈l,HE N nx l x.1=x.2:=by
 intro l hn hb x hx;obtain⟨h1,h2⟩:=hb x hx;unfold HE;rw[bZ aj,bK h2];have :∀{l:List (Nat×Nat)},(l.map (·.1)).Nodup->x∈l->l.find? (fun y=>Nat.beq y.1 x.1)=some x:=by
  intro l
  induction l with
  |nil=>intro _ h;cases h
  |cons y l ih=>
   intro hn hx;rw[List.map_cons,List.nodup_cons]at hn;rw[List.find?_cons];rcases aR.1 hx with rfl|hx
   ·rw[Nat.beq_refl]
   ·have :Nat.beq y.1 x.1=false:=by
     cases hb:Nat.beq y.1 x.1 with
     |false=>rfl
     |true=>exact absurd (List.mem_map.2 ⟨x,hx,(az hb).symm⟩) hn.1
    rw[this];exact ih hn.2 hx
 rw[this hn hx]
theorem xr {N nx:Nat}:∀{l l':List (Nat×Nat)} {ks:List Nat},l.map (·.1)=ks->l'.map (·.1)=ks->(∀x∈l,∀y∈l',x.1=y.1->x.2=y.2)->l=l'
 | [],[],_,_,_,_=>rfl
 | [],y::l',ks,h,h',_=>by rw[<-h]at h';cases h'
 |x::l,[],ks,h,h',_=>by rw[<-h']at h;cases h
 |x::l,y::l',ks,h,h',hv=>by
  rw[<-h',List.map_cons,List.map_cons]at h
  injection h with e1 e2
  have e3:=hv x (List.mem_cons_self ..) y (List.mem_cons_self ..) e1;rw[xr (N:=N) (nx:=nx) (ks:=l'.map (·.1)) e2 rfl fun a ha b hb=>hv a (List.mem_cons_of_mem _ ha) b (List.mem_cons_of_mem _ hb)]
  congr 1
  exact Prod.ext e1 e3
theorem PX {r r':kK}{f:Nat}{args:List ae}{m:Mem}{π Au:Nat->Nat}(h:r.at f args m π)(h':r'.at f args m Au)(hc:r'.c=r.c)(hN:r'.N=r.N)(ha:r.args.all (mm 20)=true)(mQ:r'.args.all (mm 20)=true)(q:OS r.mi r.args r.c=true)(q':OS r'.mi r'.args r'.c=true)(hk:(r.c.map (·.1)).Nodup/\∀x∈r.c,12<=x.1/\x.1<r.N):Au=π:=by
 obtain⟨_,e,⟨l,el,rfl⟩,hi⟩:=h;obtain⟨_,e',⟨l',el',rfl⟩,GV⟩:=h';rw[hc]at el' q';have hb:∀{l:List (Nat×Nat)},l.map (·.1)=r.c.map (·.1)->∀x∈l,12<=x.1/\x.1<r.N:=fun{l} el x hx=>by
  have :x.1∈r.c.map (·.1):=el▸List.mem_map.2 ⟨x,hx,rfl⟩;obtain⟨y,hy,ey⟩:=List.mem_map.1 this;rw[<-ey];exact hk.2 y hy
 have :l'=l:=xr (N:=0) (nx:=0) el' el fun x hx y hy exy=>by
  have h1:=BI (N:=r.N) (nx:=m.next) (by rw[el'];exact hk.1) (hb el') x hx;have h2:=BI (N:=r.N) (nx:=m.next) (by rw[el];exact hk.1) (hb el) y hy;have :x.1∈r.c.map (·.1):=el'▸List.mem_map.2 ⟨x,hx,rfl⟩;obtain⟨z,hz,ez⟩:=List.mem_map.1 this;obtain⟨v,n1,p1⟩:=JR q hz;obtain⟨v',n2,p2⟩:=JR q' hz;have :=X' hi GV ha mQ e e' n1 n2 p1 p2;rw[hN,ez]at this;rw[<-h1,<-h2,<-exy];exact this.symm
 rw[this,hN]
def kP (k:dU):Nat×Nat×Nat×List (Option ae)×List MapEntry×Nat×List UInt8:=(k.kind,k.sz,k.pos,k.cs,k.es.toList,k.clock,k.str.data.toList)
theorem GI {k k':dU}(h:kP k=kP k'):jf k k':=by
 unfold kP at h;simp only[au]at h;obtain⟨h1,h2,h3,h4,h5,h6,h7⟩:=h;refine⟨h1,h2,h3,h4,Array.toList_inj.1 h5,h6,?_⟩;cases hs:k.str;cases rZ:k'.str;rw[hs,rZ]at h7;simp only[Array.toList_inj]at h7;rw[h7]
def LB (ids:List Nat)(p:ae×Mem):ae×(Nat×Nat×Nat)×(List Span×List Span)×Bool×Nat×Nat×List (Nat×Nat×Nat×List (Option ae)×List MapEntry×Nat×List UInt8):=
 (p.1,(p.2.base,p.2.home,p.2.floor),(p.2.bB,p.2.opn),p.2.wg.isNone,p.2.deaf,p.2.next,ids.map fun b=>kP (p.2.blk b))
theorem XW {r:kK}{J:List (Nat×dU)}{nq:Nat}(h:(Ct r.f r.args r.mi).map (LB (J.map (·.1)))=some (r.v,(12,12,12),([],[]),true,0,nq,J.map fun x=>kP x.2))
  (hJ0:∃k,(0,k)∈J/\jf k (kz.blk 0))(hJK:∀x∈r.K,∃k,(x.1,k)∈J/\((x.1,k)∈r.L\/jf k x.2))(hL:∀x∈r.L,x∈J/\(r.N<=x.1\/∃k,(x.1,k)∈r.K/\x.2.kind=k.kind)/\x.1<r.nx/\x.2.live/\okB x.2=true)(hK:kOk r.K r.N=true)(hKn:(r.K.map (·.1)).Nodup)(hn:nq<=r.nx/\r.N<=r.nx)
  (hb:dE ab r.f=true)(ha:r.args.all (mm 20)=true)(hv:mm 20 r.v=true):MS Ct r:=by
 obtain⟨⟨v,mq⟩,hc,hp⟩:=aB.1 h;unfold LB at hp;simp only[au]at hp;obtain⟨rfl,⟨p1,p2,p3⟩,⟨p4,p5⟩,p6,p7,p8,p9⟩:=hp;have at':∀{b:Nat}{k:dU},(b,k)∈J->jf k (mq.blk b):=fun{b k} hx=>by
  rw[List.map_map]at p9;have :∀{l:List (Nat×dU)},(l.map ((fun b=>kP (mq.blk b))∘fun x=>x.1))=l.map (fun x=>kP x.2)->(b,k)∈l->kP (mq.blk b)=kP k:=by
   intro l
   induction l with
   |nil=>intro _ h;cases h
   |cons y l ih=>
    intro h hm;rw[List.map_cons,List.map_cons]at h
    injection h with e1 e2
    rcases aR.1 hm with rfl|hm
    ·exact e1
    ·exact ih e2 hm
  exact GI (this p9 hx).symm
 have sy:∀{k k':dU},jf k k'->jf k' k:=fun h=>h.symm
 have ajX:∀{b:Nat}{k:dU},(b,k)∈r.K->(DR kz r.K r.N).blk b={k with a9:=1}:=fun{b k} hx=>xx (x:=(b,k)) hKn hx
 refine⟨⟨mq,hc,⟨p1,p2,p3,p4,p5,Option.isNone_iff_eq_none.1 p6,p7,fun b HH=>?_,by rw[p8];exact hn.1,hn.2,fun x hx=>?_⟩⟩,hb,ha,hv⟩
 ·rcases NR hK b HH with rfl|⟨k,hk,e⟩
  ·obtain⟨k0,h1,h2⟩:=hJ0;refine .inr ((sy (at' h1)).trans (h2.trans ?_));rcases gE (m:=kz) (L:=r.K) (nx:=r.N) 0 with⟨e,_⟩|⟨k,hm,_⟩
   ·have e:r.mi.blk 0=kz.blk 0:=e;rw[e];exact jf.abm
   ·have h1:12<=0:=(tO hK hm).1;omega
  ·obtain⟨k',h1,h2|h2⟩:=hJK _ hk
   ·exact .inl ⟨k',h2⟩
   ·refine .inr ((sy (at' h1)).trans (h2.trans ?_));have e:r.mi.blk b={k with a9:=1}:=e;rw[e];exact⟨rfl,rfl,rfl,rfl,rfl,rfl,rfl⟩
 ·obtain⟨h1,h2,h3,h4,h5⟩:=hL x hx;refine⟨h2.imp id fun⟨k,hk,ek⟩=>?_,h3,at' h1,h4,h5⟩;have e:r.mi.blk x.1={k with a9:=1}:=ajX hk;rw[e];exact⟨fun h=>by have h2:0<k.kind:=(tO hK hk).2.2.1;have h:k.kind=0:=h;omega,ek⟩
end Go.AM
namespace Go.AM
set_option maxRecDepth 1000000
open Go Go.Conc Go.Proofs
def vd:mj:=⟨14,[],kz,vP 13 0,KL,1225⟩
theorem Lf:vd.fact=true:=bG
end Go.AM
namespace Go.AM
set_option maxRecDepth 1000000
open Go Go.Conc Go.Proofs
def bk (b sz:Nat)(cs:List ae):Nat×dU:=(b,{kind:=1,sz:=sz,cs:=cs.map some})
def vk (b:Nat)(cs:List ae):Nat×dU:=(b,{kind:=1,pos:=1,cs:=cs.map some})
def sB (l:List UInt8):ae:= .string ⟨l.toArray⟩
def I2:Nat×dU:=(1000,{kind:=2,clock:=1,es:=#[⟨sB [101],vP 1001 0,0⟩]})
structure CD where
 f:Nat
 A:List (Nat×dU)
 c:List (Nat×List Nat)
 sv:ae
 qv:ae
 L:List (Nat×dU)
 nx:Nat
def U9:Nat×dU:=(0,{kind:=1,cs:=de})
def lOk (K L:List (Nat×dU))(N nx:Nat):Bool:=L.all fun x=>(Nat.ble N x.1||K.any fun y=>Nat.beq y.1 x.1&&Nat.beq x.2.kind y.2.kind)&&Nat.blt x.1 nx&&Nat.ble x.2.kind 3&&(x.2.cs.all (·.isSome))&&okB x.2
def ndB:List Nat->Bool
 | []=>true
 |x::l=>l.all (fun y=>!Nat.beq x y)&&ndB l
def kK.vZ(r:kK):Bool:=lOk r.K r.L r.N r.nx&&kOk r.K r.N&&ndB (r.K.map (·.1))&&ndB (r.c.map (·.1))&&(r.c.all fun x=>Nat.ble 12 x.1&&Nat.blt x.1 r.N)&&Nat.ble r.N r.nx&&r.args.all (mm 20)&&mm 20 r.v&&ndB (r.L.map (·.1))
def kK.J(r:kK):List (Nat×dU):=U9::r.K++r.L
structure kK.Fact(r:kK)(J:List (Nat×dU)):Prop where
 run:(Ct r.f r.args r.mi).map (LB (J.map (·.1)))=some (r.v,(12,12,12),([],[]),true,0,r.nx,J.map fun x=>kP x.2)
 vZ:r.vZ=true
 cert:OS r.mi r.args r.c=true
end Go.AM
