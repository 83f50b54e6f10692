/-
  What the claim stands on, part 10.
-/
import Derived.Test.YtgfppohfgconeaaGreatDoorG9
set_option linter.unusedVariables false
set_option linter.unusedSimpArgs false
open Go.Proofs.Tryz renaming prog → ae
open Go renaming Value → af, IntKind → cQ
open Nat renaming le_of_ble_eq_true → ag, le_refl → ai, eq_of_beq_eq_true → aT, lt_of_lt_of_le → bq, le_trans → cM
open Bool renaming and_eq_true → aj
open List renaming all_eq_true → aV, mem_cons → bC
namespace Go.AM
set_option maxRecDepth 1000000
open Go Go.Conc Go.Proofs
structure Sd (m:Mem):Prop where
 deaf:m.deaf=0
 bf:m.base<=m.floor
 fn:m.floor<=m.next
 hn:m.home<=m.next
 bO:∀s∈m.bO,s.2.1<=m.next
section
variable {m m':Mem}{S B:Nat->Prop}
theorem Gd.sd(h:Gd m):Sd m:=⟨h.deaf,h.bf,h.fn,h.hn,h.bO⟩
theorem Sd.ext(h:Sd m)(k:Kp m m' S):Sd m':=
 ⟨k.deaf.trans h.deaf,by rw[k.base,k.floor];exact h.bf,by rw[k.floor];exact cM h.fn k.next,by rw[k.home];exact cM h.hn k.next,fun s hs=>by rw[k.bO]at hs;exact cM (h.bO s hs) k.next⟩
theorem Sd.fresh(h:Sd m){b:Nat}(hb:m.next<=b):aS m.bO b=false:=im fun x hx _ h2=>by have :=h.bO x hx;omega
theorem Sd.own(h:Sd m)(k:Kp m m' S){b:Nat}(hb:m.next<=b):Own m' b:=by
 have h1:=h.fresh hb;unfold Own Mem.gv;rw[k.bO,k.base,k.floor,h1];have :=h.bf;have :=h.fn;simp only[Bool.not_false,Bool.true_and,aj,Bool.or_eq_true,jE];exact⟨av,.inl av⟩
theorem Sd.alloc(h:Sd m)(cs:List af):∃m',rU (cs.map some) m=some (vP m.next 0,m')/\Obj m' m.next 0 cs/\Kp m m' eU/\m'.next=m.next+1/\(m'.blk m.next).pos=1:=by
 refine⟨m.alloc ⟨1,0,cs.map some,#[],0,.empty,1,0⟩,rfl,⟨Nat.lt_succ_self _,?_,?_,?_,h.fresh (ai _)⟩,⟨Nat.le_succ _,rfl,rfl,rfl,rfl,rfl,rfl,rfl,rfl,fun x hx _=>?_⟩,rfl,?_⟩
 ·rw[Mem.cD,bL rfl]
 ·rw[Mem.cD,bL rfl]
 ·rw[Mem.cD,bL rfl]
 ·rw[Mem.cD,bT av]
 ·rw[Mem.cD,bL rfl]
theorem Sd.UD(h:Sd m)(z v:af)(h1:gy v=true):∃m1 m2,rU [some z] m=some (vP m.next 0,m1)/\jo m.next 0 v m1=some (undef,m2)/\Obj m2 m.next 0 [v]/\Kp m m2 eU/\m2.next=m.next+1:=by
 obtain⟨m1,e1,o1,k1,n1,_⟩:=h.alloc [z];obtain⟨m2,e2,o2,k2⟩:=gu (o:=0) v o1 ((h.own k1 (ai _)).may _ _) (ag rfl) h1;have e3:m2.next=m1.next:=by
  unfold jo at e2;rw[h1]at e2;simp only at e2
  split at e2
  ·split at e2
   ·split at e2
    ·cases e2;rfl
    ·cases e2
   ·cases e2
  ·cases e2
 exact⟨m1,m2,e1,e2,o2,k1.new k2 (N:=m.next) (ai _) fun b hb=>by rw[hb];exact ai _,av⟩
structure RO (m:Mem)(b sz:Nat)(cs:List af):Prop where
 lt:b<m.next
 kind:(m.blk b).kind=1
 sz:(m.blk b).sz=sz
 cs:(m.blk b).cs=cs.map some
theorem Obj.ro{b sz:Nat}{cs:List af}(h:Obj m b sz cs):RO m b sz cs:=⟨h.lt,h.kind,h.sz,h.cs⟩
theorem RO.obj{b sz:Nat}{cs:List af}(h:RO m b sz cs)(hv:aS m.bO b=false):Obj m b sz cs:=⟨h.lt,h.kind,h.sz,h.cs,hv⟩
theorem RO.ext{b sz:Nat}{cs:List af}(h:RO m b sz cs)(k:Kp m m' S)(hs:¬S b):RO m' b sz cs:=by
 have e:=k.blk b h.lt hs;exact⟨bq h.lt k.next,by rw[e];exact h.kind,by rw[e];exact h.sz,by rw[e];exact h.cs⟩
theorem RO.ld1{b sz o:Nat}{cs:List af}{v:af}(h:RO m b sz cs)(hv:cs[o]?=some v)(hm:meets m.bO b o 1=false):aI b o m=some (v,m):=by
 unfold aI;have hk:=h.kind;have hc:=h.cs;cases hb:m.blk b with
 |mk kind z c es clock str pos bw=>
  rw[hb]at hk hc;simp only at hk hc;subst hk hc;simp only[Br,hm,Bool.not_false,xh];have :(cs.map some).drop o=some v::(cs.drop (o+1)).map some:=by
   rw[<-List.map_drop];have hd:cs.drop o=v::cs.drop (o+1):=by
    obtain⟨cN,he⟩:=List.getElem?_eq_some_iff.1 hv;rw[<-he];exact List.drop_eq_getElem_cons cN
   rw[hd];rfl
  rw[this]
theorem RO.E8{b sz o:Nat}{cs:List af}{v:af}(h:RO m b sz cs)(hv:cs[o]?=some v)(hm:meets m.bO b o 1=false):m.dQ b o 1=some [v]:=by
 obtain⟨cN,he⟩:=List.getElem?_eq_some_iff.1 hv;unfold Mem.dQ;simp only[h.kind,hm,h.cs,beq_self_eq_true,Bool.not_false,Bool.and_self,if_true];rw[<-List.map_drop,mW (by simp;omega),List.drop_eq_getElem_cons cN,he];rfl
theorem RO.lL{b sz o:Nat}{cs:List af}(v:af)(h:RO m b sz cs)(hw:m.cY b o 1=true)(hn:o<cs.length)(h1:gy v=true):
  ∃m',jo b o v m=some (undef,m')/\RO m' b sz (cs.set o v)/\Kp m m' (fun x=>x=b)/\m'.next=m.next:=by
 obtain⟨l,hl⟩:=C9 (v:=v) hn;have hp:=z3 _ _ _ _ hl;rw[lV (cs:=cs) (o:=o) (vs:=[v]) (by simp;omega)]at hp;obtain rfl:=Option.some.inj hp;have hk:=h.kind;have hc:=h.cs;have hz:=h.sz;unfold jo;cases hb:m.blk b with
 |mk kind z c es clock str pos bw=>
  rw[hb]at hk hc hz;simp only at hk hc hz;subst hk hc hz;simp only[h1,LO hw,hl];refine⟨_,rfl,⟨h.lt,?_,?_,?_⟩,⟨ai _,rfl,rfl,rfl,rfl,rfl,rfl,rfl,rfl,fun x _ hx=>?_⟩,rfl⟩
  ·show((m.heap.put b _).get b).kind=1
   rw[kZ.get_put,bL rfl]
  ·show((m.heap.put b _).get b).sz=_
   rw[kZ.get_put,bL rfl]
  ·show((m.heap.put b _).get b).cs=_
   rw[kZ.get_put,bL rfl];rfl
  ·show(m.heap.put b _).get x=m.blk x
   rw[kZ.get_put,bT (fun e=>hx e.symm)];rfl
structure sC (B:Nat->Prop)(m m':Mem):Prop where
 next:m.next<=m'.next
 blk:∀b,B b->b<m.next->m'.blk b=m.blk b/\(aS m.bO b=false->aS m'.bO b=false)
theorem sC.trans{m1:Mem}(h:sC B m m1)(k:sC B m1 m'):sC B m m':=
 ⟨cM h.next k.next,fun b hb hl=>⟨(k.blk b hb (bq hl h.next)).1.trans (h.blk b hb hl).1,fun x=>(k.blk b hb (bq hl h.next)).2 ((h.blk b hb hl).2 x)⟩⟩
theorem sC.mono{B':Nat->Prop}(h:sC B m m')(k:∀b,B' b->B b):sC B' m m':=⟨h.next,fun b hb=>h.blk b (k b hb)⟩
theorem Kp.same(k:Kp m m' S)(h:∀b,B b->¬S b):sC B m m':=⟨k.next,fun b hb hl=>⟨k.blk b hl (h b hb),fun x=>by rw[k.bO];exact x⟩⟩
theorem Obj.wj{b sz:Nat}{cs:List af}(h:Obj m b sz cs)(s:sC B m m')(hb:B b):Obj m' b sz cs:=by
 obtain⟨e,v⟩:=s.blk b hb h.lt;exact⟨bq h.lt s.next,by rw[e];exact h.kind,by rw[e];exact h.sz,by rw[e];exact h.cs,v h.F5⟩
def j6.Iw{α:Type}(E:j6 α):Prop:=∀(B:Nat->Prop) (x:α) (m m':Mem) (v:af),E.R B x m v->sC B m m'->E.R B x m' v
theorem XR.r6:∀{x:X}{v:af},XR B x m v->sC B m m'->XR B x m' v
 | .bin ..,_,⟨b,lv,rv,e,hb,o,h1,h2⟩,s=>⟨b,lv,rv,e,hb,o.wj s hb,XR.r6 h1 s,XR.r6 h2 s⟩
 | .no ..,_,⟨b,xv,e,hb,o,h⟩,s=>⟨b,xv,e,hb,o.wj s hb,XR.r6 h s⟩
 | .Dt ..,_,⟨b,xv,e,hb,o,h⟩,s=>⟨b,xv,e,hb,o.wj s hb,XR.r6 h s⟩
 | .lit ..,_,⟨b,e,hb,o⟩,s=>⟨b,e,hb,o.wj s hb⟩
 | .Px ..,_,⟨b,e,hb,o⟩,s=>⟨b,e,hb,o.wj s hb⟩
theorem mL.r6:mL.Iw:=fun _ _ _ _ _ h s=>XR.r6 h s
theorem kU.r6:kU.Iw:=by
 rintro B x m m' v ⟨b,c,e,hb,o,h⟩ s;exact⟨b,c,e,hb,o.wj s hb,h⟩
theorem bj.r6{α:Type}{E:j6 α}{sz:Nat}(hE:E.Iw):(bj E sz).Iw:=by
 rintro B l m m' v ⟨cs,h1,h2,h3⟩ s;refine⟨cs,⟨h1.1,h1.2.imp id ?_⟩,h2,h3.mono fun x u _ w=>⟨hE _ _ _ _ _ w.1 s,w.2⟩⟩;rintro⟨b,c,e,o,x⟩;exact⟨b,c,e,o.wj s (h2 _ _ _ _ e),x⟩
end
noncomputable def KW:iK:=⟨fun _ n=>kY ae X0 n,fun _ _ _ _ _ _=>rfl⟩
structure Ld (K:iK):Prop where
 go:∀M n args m,K.C M (n+1) 137 args m=qg X0 (kY ae X0 M) args m
 wait:∀M n args m,K.C M (n+1) 140 args m=wO args m
theorem P3 {K:iK}(hK:Ld K){m bk m2:Mem}{w f d o i:Nat}{cap:Array af}{l rest:List Span}{u:af}(fQ:rF X0 (.func (.func f) #[] cap) m=some (d,o,i))(WV:lE w d o m=some bk)
  (hl:ze (lQ bk w (.func (.func f) #[] cap)) d o i=some l)(gn:rest=bk.opn.filter fun s=>!l.contains s)(nN:bk.deaf=0)(dF:bk.pend.length<4)(hc:(l.all fun s=>bk.opn.contains s)=true)(ha:pt l=true)
  (hap:(l.all fun s=>(rest++bk.bO).all (vE s))=true)(wT:((rest++l).all fun t=>Nat.ble t.2.1 bk.next)=true)(hk:(l.all fun s=>Nat.beq s.2.1 (s.1+1)&&Nat.beq ((lQ bk w (.func (.func f) #[] cap)).blk s.1).kind 1)=true)
  (fX:Ev KW f cap.toList (dI (lQ bk w (.func (.func f) #[] cap)) l rest) u m2)(Pr:m2.deaf=0):
  Ev K 137 [vP w 0,.func (.func f) #[] cap] m (.tuple #[]) (jZ (lQ bk w (.func (.func f) #[] cap)) m2 l rest):=by
 obtain⟨N,hN⟩:=fX;refine⟨N+1,fun M n a b=>?_⟩;obtain⟨n,rfl⟩:∃k,n=k+1:=⟨n-1,av⟩;rw[hK.go];have fX:=hN M M av av;have fX:kY ae X0 M f cap.toList (dI (lQ bk w (.func (.func f) #[] cap)) l rest)=some (u,m2):=fX;have hcf:Aj (kY ae X0 M) (.func (.func f) #[] cap) [] (dI (lQ bk w (.func (.func f) #[] cap)) l rest)=some (u,m2):=by
  show kY ae X0 M f (([]:List af)++[]++cap.toList) _=_
  simpa using fX
 unfold qg;simp only[fQ,WV];have Ae:ze (cG (cG bk 0 [ptrTo w 0]).2 0 [.func (.func f) #[] cap]).2 d o i=some l:=hl;rw[Ae];have abx:((cG (cG bk 0 [ptrTo w 0]).2 0 [.func (.func f) #[] cap]).2.opn.filter fun s=>!l.contains s)=rest:=gn.symm;simp only[abx];rw[bL ⟨nN,dF,hc,ha,hap,wT,hk⟩];have amd:Aj (kY ae X0 M) (.func (.func f) #[] cap) [] { (cG (cG bk 0 [ptrTo w 0]).2 0 [.func (.func f) #[] cap]).2 with home:=(cG (cG bk 0 [ptrTo w 0]).2 0 [.func (.func f) #[] cap]).2.next,floor:=(cG (cG bk 0 [ptrTo w 0]).2 0 [.func (.func f) #[] cap]).2.next,opn:=l,bO:=rest++(cG (cG bk 0 [ptrTo w 0]).2 0 [.func (.func f) #[] cap]).2.bO,wg:=none,pend:=[]}=some (u,m2):=hcf;rw[amd]
 show(if m2.deaf=0 then _ else none)=_
 rw[bL Pr];rfl
end Go.AM
namespace Go.AM
set_option maxRecDepth 1000000
open Go Go.Conc Go.Proofs
def gf {α:Type}(st:Nat->List α×Int):Nat->Nat->List α->List α×Int
 |0,_,acc=>(acc,0)
 |n+1,i,acc=>if(st i).2≠0 then([],(st i).2)else gf st n (i+1) (acc++(st i).1)
structure Cj (K:iK)(R:Mem->Prop)(fs:Nat)(cap:Array af){α:Type}(E:j6 α)(sz:Nat)(st:Nat->List α×Int)(hi:Nat):Prop where
 keep:∀m m',R m->Kp m m' eU->R m'
 one:∀i,(st i).1.length<=1
 run:∀(m0 m:Mem) (S BA:Nat->Prop) (acc:List α) (sv:af) (i:Nat),i<hi->Gd m0->Kp m0 m S->Gd m->R m->ui E sz BA m acc sv->(∀b,BA b->m0.next<=b/\b<m.next)->acc.length<2^29->
  ((st i).2=0->∃Iz m' XD,Ev K fs ([sv,vI (i:Int)]++cap.toList) m (.tuple #[Iz,vI 0]) m'/\Kp m m' BA/\ui E sz XD m' (acc++(st i).1) Iz/\(∀b,XD b->BA b\/fY m m' b))/\
  ((st i).2≠0->∃m',Ev K fs ([sv,vI (i:Int)]++cap.toList) m (.tuple #[.slice none 0 0,vI (st i).2]) m'/\Kp m m' eU)
theorem E1 {m m':Mem}{S:Nat->Prop}{b o n:Nat}(k:Kp m m' S)(h:m.cY b o n=true):m'.cY b o n=true:=by
 unfold Mem.cY at h⊢;rw[k.bO,k.base,k.floor,k.opn];exact h
theorem ui.form{α:Type}{E:j6 α}{sz:Nat}{B:Nat->Prop}{m:Mem}{acc:List α}{sv:af}(h:ui E sz B m acc sv):∃a n c,sv= .slice a n c:=by
 obtain⟨a,c,e⟩:=bj.form h.fin;exact⟨a,_,c,e⟩
section
variable {K:iK}{B:Nat->Prop}{m:Mem}
theorem agk:Path 180 [(.slice none 0 0)]
 [.mem (nW ae #[29] (.slice none 0 0)) (.tuple #[]),
  .mem (sQ ae 29 (.slice none 0 0) none (some (vI 0))) (.slice none 0 0)]
 (.slice none 0 0):=cg
theorem aex (d o fr to fs:Nat)(cap:Array af):bF (bN 139) (ax 139) 0 2 [0,1,2,3] [(vP d o),(vI (fr:Int)),(vI (to:Int)),(.func (.func fs) #[] cap)]
 [.mem (aI d o) (.slice none 0 0),
  .call 180 [(.slice none 0 0)] (.slice none 0 0)]
 .normal [0,2,3,8,9,10] [(vP d o),(vI (to:Int)),(.func (.func fs) #[] cap),(.slice none 0 0),(vI 0),(vI (fr:Int))]:=eF
theorem XV (d o to i fs:Nat)(cap:Array af)(sv Zo:af)(e e2:Int):bF (bN 139) (bh (ax 139) [2]) 0 99 [0,2,3,8,9,10] [(vP d o),(vI (to:Int)),(.func (.func fs) #[] cap),sv,(vI e),(vI (i:Int))]
 [aD (br (i:Int) (to:Int)) true,
  aD (br (i:Int) (to:Int)) true,
  aD (br (i:Int) (to:Int)) true,
  aD (aZ e 0) true,
  .fT (.func (.func fs) #[] cap) [sv,(vI (i:Int))] (.tuple #[Zo,(vI e2)])]
 .normal [0,2,3,8,9,10] [(vP d o),(vI (to:Int)),(.func (.func fs) #[] cap),Zo,(vI e2),(vI (bB (i:Int) 1))]:=eF
theorem aew (d o to i fs:Nat)(cap:Array af)(sv Zo:af)(e e2:Int):bF (bN 139) (bh (ax 139) [2]) 0 99 [0,2,3,8,9,10] [(vP d o),(vI (to:Int)),(.func (.func fs) #[] cap),sv,(vI e),(vI (i:Int))]
 [aD (br (i:Int) (to:Int)) false,
  aD (br (i:Int) (to:Int)) false,
  aD (br (i:Int) (to:Int)) false,
  bm]
 (.exit 0) [0,8,9] [(vP d o),sv,(vI e)]:=eF
theorem aev (d o to i fs:Nat)(cap:Array af)(sv Zo:af)(e e2:Int):bF (bN 139) (bh (ax 139) [2]) 0 99 [0,2,3,8,9,10] [(vP d o),(vI (to:Int)),(.func (.func fs) #[] cap),sv,(vI e),(vI (i:Int))]
 [aD (br (i:Int) (to:Int)) true,
  aD (br (i:Int) (to:Int)) true,
  aD (br (i:Int) (to:Int)) true,
  aD (aZ e 0) false]
 (.exit 0) [0,8,9] [(vP d o),sv,(vI e)]:=eF
theorem aeu (d o n cc:Nat)(a:Option Addr)(e:Int):bF (bN 139) (ax 139) 3 99 [0,8,9] [(vP d o),(.slice a n cc),(vI e)]
 [.mem (jo d o (.slice a n cc)) undef,
  .mem (jo d (o+1) (vI e)) undef]
 .normal [] []:=eF
theorem agN:jR 139 4 []=true:=bp
theorem NQ:(du (ax 139)).length<=99:=ag bp
theorem V1:dT (ax 139) 2=some (0,(bh (ax 139) [2])):=bp
theorem z9:codeOk (bN 139) (bh (ax 139) [2])=true:=bp
theorem Wh:eI (bN 139) (ax 139) (bh (ax 139) [2]) 2 0=true:=bp
theorem Y3:Ev K 180 [.slice none 0 0] m (.slice none 0 0) m:=by
 have e1:nW ae #[29] (.slice none 0 0) m=some (.tuple #[],m):=by
  unfold nW;obtain⟨e,h1,_⟩:=tE (t:=29) (sz:=1) rfl
  show(match ae.underlying 29,(af.slice none 0 0)with |some (.slice e),.slice base n _=>_|_,_=>none)=_
  rw[h1]
 have e2:sQ ae 29 (.slice none 0 0) none (some (vI 0)) m=some (.slice none 0 0,m):=by
  obtain⟨e,h1,h2,_⟩:=tE (t:=29) (sz:=1) rfl;unfold sQ jH;simp only[h1,h2,kL];simp[eP]
 exact ak agk (.mem e1<| .mem e2 .nil)
theorem am3 {R:Mem->Prop}{fs fr to hi d o szd:Nat}{cap:Array af}{α:Type}{E:j6 α}{st:Nat->List α×Int}(fp:Cj K R fs cap E 1 st hi){cs:List af}(g:Gd m)(hr:R m)(ro:RO m d szd cs)(h0:cs[o]?=some (.slice none 0 0))(h1:o+1<cs.length)
  (hm:meets m.bO d o 1=false)(hw0:m.cY d o 1=true)(IH:m.cY d (o+1) 1=true)(hf:fr<=to)(hh:to<=hi)(hs:to<90000):
  ∃sv m',Ev K 139 [vP d o,vI (fr:Int),vI (to:Int),.func (.func fs) #[] cap] m (.tuple #[]) m'/\Kp m m' (fun y=>y=d)/\RO m' d szd ((cs.set o sv).set (o+1) (vI (gf st (to-fr) fr []).2))/\
   (∃a n c,sv= .slice a n c)/\((gf st (to-fr) fr []).2=0->(bj E 1).R (fY m m') (gf st (to-fr) fr []).1 m' sv):=by
 obtain⟨Q,hQ⟩:∃Q,Q=gf st (to-fr) fr []:=⟨_,rfl⟩;rw[<-hQ];obtain⟨F,hF⟩:∃F:af,F= .func (.func fs) #[] cap:=⟨_,rfl⟩;obtain⟨t0,w0,e0⟩:=bQ (K:=K) (m:=m) (m':=m) (tm:=entry [vP d o,vI (fr:Int),vI (to:Int),.func (.func fs) #[] cap]) (aex d o fr to fs cap) rfl (.mem (ro.ld1 h0 hm)<| .call Y3 .nil);obtain⟨e,t1,m2,he,hx,rfl,sv,hg,k2,hp⟩:=gk (K:=K) (nt:=bN 139) (a:=bh (ax 139) [2]) (to-fr)
  (Inv:=fun j tm m'=>∃sv e,cH [0,2,3,8,9,10] tm=[vP d o,vI (to:Int),F,sv,vI e,vI ((fr+j:Nat):Int)]/\Kp m m' eU/\((e=0/\∃acc BA,ui E 1 BA m' acc sv/\(∀b,BA b->m.next<=b/\b<m'.next)/\acc.length<=j/\gf st (to-fr-j) (fr+j) acc=Q)\/(e≠0/\sv= .slice none 0 0/\Q.2=e)))
  (dA:=fun e tm m'=>e= .exit 0/\∃sv,cH [0,8,9] tm=[vP d o,sv,vI Q.2]/\Kp m m' eU/\((Q.2=0/\∃BA,ui E 1 BA m' Q.1 sv/\(∀b,BA b->m.next<=b/\b<m'.next))\/(Q.2≠0/\sv= .slice none 0 0)))
  (by
   rintro j tm m2 hj ⟨sv,e,hg,kk,hc⟩;have b1:(.bool (br ((fr+j:Nat):Int) (to:Int)):af)= .bool true:=Pm av;rw[hF]at hg;rcases hc with⟨rfl,acc,BA,ls,hB,hla,hq⟩|⟨dx,rfl,hq⟩
   ·have gR:=fp.run m m2 eU BA acc sv (fr+j) av g kk (g.ext kk) (fp.keep _ _ hr kk) ls hB av;rw[show to-fr-j=(to-fr-(j+1))+1 by omega]at hq;have hq:(if(st (fr+j)).2≠0 then([],(st (fr+j)).2)else gf st (to-fr-(j+1)) (fr+j+1) (acc++(st (fr+j)).1))=Q:=hq
    by_cases hz:(st (fr+j)).2=0
    ·obtain⟨Iz,m3,XD,e3,k3,ls3,hB3⟩:=gR.1 hz;have OY:Ev K fs ((#[]:Array af).toList++[sv,vI ((fr+j:Nat):Int)]++cap.toList) m2 (.tuple #[Iz,vI 0]) m3:=e3;obtain⟨t2,dk,dm⟩:=aU (K:=K) (m:=m2) (m':=m3) z9 (XV d o to (fr+j) fs cap sv Iz 0 0) hg (.cond b1<| .cond b1<| .cond b1<| .cond rfl<| .fT OY .nil);rw[bT (by rw[hz];simp)]at hq;have nx:=k3.next;refine .inl ⟨t2,m3,dk,Iz,0,by rw[dm,add1 av,hF];rfl,kk.new k3 (N:=m.next) (ai _) fun b hb=>(hB b hb).1,.inl ⟨rfl,_,XD,ls3,?_,by have :=fp.one (fr+j);simp;omega,hq⟩⟩;intro b hb;have :=kk.next;rcases hB3 b hb with h|h
     ·exact⟨(hB b h).1,by have :=(hB b h).2;omega⟩
     ·exact⟨by have :=h.1;omega,h.2⟩
    ·obtain⟨m3,e3,k3⟩:=gR.2 hz;have OY:Ev K fs ((#[]:Array af).toList++[sv,vI ((fr+j:Nat):Int)]++cap.toList) m2 (.tuple #[.slice none 0 0,vI (st (fr+j)).2]) m3:=e3;obtain⟨t2,dk,dm⟩:=aU (K:=K) (m:=m2) (m':=m3) z9 (XV d o to (fr+j) fs cap sv (.slice none 0 0) 0 (st (fr+j)).2) hg (.cond b1<| .cond b1<| .cond b1<| .cond rfl<| .fT OY .nil);rw[bL hz]at hq;exact .inl ⟨t2,m3,dk,_,_,by rw[dm,add1 av,hF];rfl,kk.aN k3,.inr ⟨hz,rfl,by rw[<-hq]⟩⟩
   ·obtain⟨t2,dk,dm⟩:=aU (K:=K) (m:=m2) (m':=m2) z9 (aev d o to (fr+j) fs cap (.slice none 0 0) .nilIface e 0) hg (.cond b1<| .cond b1<| .cond b1<| .cond (gj dx) .nil);exact .inr ⟨_,t2,m2,(fun h=>by cases h),dk,rfl,_,by rw[dm,hq],kk,.inr ⟨by rw[hq];exact dx,rfl⟩⟩)
  (by
   rintro tm m2 ⟨sv,e,hg,kk,hc⟩;rw[hF,show fr+(to-fr)=to by omega]at hg;obtain⟨t2,dk,dm⟩:=aU (K:=K) (m:=m2) (m':=m2) z9 (aew d o to to fs cap sv .nilIface e 0) hg (.cond (ID _)<| .cond (ID _)<| .cond (ID _)<| .cond rfl .nil);rcases hc with⟨rfl,acc,BA,ls,hB,hla,hq⟩|⟨dx,rfl,hq⟩
   ·rw[Nat.sub_self]at hq;have hq:(acc,(0:Int))=Q:=hq;exact⟨_,t2,m2,(fun h=>by cases h),dk,rfl,sv,by rw[dm,<-hq],kk,.inl ⟨by rw[<-hq],BA,by rw[<-hq];exact ls,hB⟩⟩
   ·exact⟨_,t2,m2,(fun h=>by cases h),dk,rfl,_,by rw[dm,hq],kk,.inr ⟨by rw[hq];exact dx,rfl⟩⟩)
  (tm:=t0) (m:=m) ⟨.slice none 0 0,0,by rw[e0,hF];rfl,Kp.refl _ _,.inl ⟨rfl,[],eU,ui.nil,fun _ h=>h.elim,ai _,by rw[hQ];rfl⟩⟩ av
 obtain⟨a,n,cc,hsv⟩:∃a n c,sv= .slice a n c:=by
  rcases hp with⟨_,BA,ls,_⟩|⟨_,rfl⟩
  ·exact ls.form
  ·exact⟨_,_,_,rfl⟩
 have ho:o<cs.length:=av;obtain⟨m3,e3,r3,k3,n3⟩:=(ro.ext k2 id).lL (o:=o) sv (E1 k2 hw0) ho (by rw[hsv];rfl);obtain⟨m4,e4,r4,k4,n4⟩:=r3.lL (o:=o+1) (vI Q.2) (E1 k3 (E1 k2 IH)) (by simpa using h1) rfl;subst hsv;obtain⟨t2,h2,e2⟩:=bQ (K:=K) (m:=m2) (m':=m4) (aeu d o n cc a Q.2) hg (.mem e3<| .mem e4 .nil);have R5:Kp m2 m4 (fun y=>y=d):=k3.trans k4 fun _ _ h=>h
 refine⟨_,m4,fg agN (aX.cut w0 (aX.iH V1 Wh hx rfl (aX.last h2 NQ))) (.inl rfl) e2,k2.mo.trans R5 fun _ _ h=>h,r4,⟨_,_,_,rfl⟩,fun hz=>?_⟩;rcases hp with⟨_,BA,ls,hB⟩|⟨h,_⟩
 ·refine(bj E 1).ext ((bj E 1).mono ls.fin fun b hb=>?_) R5 fun b hb e=>?_
  ·exact⟨(hB b hb).1,by have :=(hB b hb).2;have :=R5.next;omega⟩
  ·have :=hb.1;have :=ro.lt;omega
 ·exact absurd hz h
end
end Go.AM
namespace Go.AM
set_option maxRecDepth 1000000
open Go Go.Conc Go.Proofs
def sp (d x:Nat):Span:=(d,d+1,some x)
def nodupB:List Nat->Bool
 | []=>true
 |x::l=>(l.all fun y=>x !=y)&&nodupB l
theorem Zs (d x y:Nat):(sp d x==sp d y)=(x==y):=by
 rw[Bool.eq_iff_iff,beq_iff_eq,beq_iff_eq];unfold sp
 constructor
 ·intro h;simpa using h
 ·rintro rfl;rfl
theorem yI (d:Nat):∀l:List Nat,pt (l.map (sp d))=nodupB l
 | []=>rfl
 |x::l=>by
  show((l.map (sp d)).all _&&pt (l.map (sp d)))=_
  rw[yI d l,List.all_map]
  congr 1
  refine congrArg (fun f=>l.all f) (funext fun y=>?_)
  show((d !=d)||(x !=y))=(x !=y)
  simp
theorem tu (d x:Nat):∀l:List Nat,(l.map (sp d)).contains (sp d x)=l.contains x
 | []=>rfl
 |y::l=>by
  rw[List.map_cons,List.contains_cons,List.contains_cons,tu d x l,Zs]
theorem OR (d:Nat)(k l:List Nat):(l.map (sp d)).filter (fun s=> !(k.map (sp d)).contains s)=(l.filter fun x=>!k.contains x).map (sp d):=by
 rw[List.filter_map]
 congr 1
 refine congrArg (fun f=>l.filter f) (funext fun x=>?_)
 show(!(k.map (sp d)).contains (sp d x))=_
 rw[tu]
theorem Eb (d x y:Nat)(h:x≠y):vE (sp d x) (sp d y)=true:=by
 unfold vE sp;have :(x !=y)=true:=by simpa using h
 simp[this]
def qP (q:Nat):Nat->List Nat
 |0=>[q+6,q+7,q+4,q+5,q+2,q+3,q,q+1]
 |1=>[q+6,q+7,q+4,q+5,q+2,q+3]
 |2=>[q+6,q+7,q+4,q+5]
 |3=>[q+6,q+7]
 |_=>[]
def zD (q j:Nat):List Nat:=[q+2*j,q+2*j+1]
def XU (q j:Nat):Bool:=((qP q j).filter fun x=> !(zD q j).contains x)==qP q (j+1)&&((zD q j).all fun x=>(qP q j).contains x)&&nodupB (zD q j)&&
 ((zD q j).all fun x=>(qP q (j+1)).all fun y=>x !=y)&&nodupB (qP q j)&&((qP q j).all fun x=>Nat.ble q x&&Nat.ble (x+1) (q+8))&&((qP q (j+1)).all fun x=>Nat.ble (q+2*j+2) x)
theorem ZC {q j:Nat}(hq:q=0\/q=9)(hj:j<4):XU q j=true:=by
 rcases hq with rfl|rfl<;>(match j,hj with |0,_=>decide|1,_=>decide|2,_=>decide|3,_=>decide)
structure ang (q j:Nat):Prop where
 filter:((qP q j).filter fun x=> !(zD q j).contains x)=qP q (j+1)
 mem:∀x∈zD q j,(qP q j).contains x=true
 nd:nodupB (zD q j)=true
 ne:∀x∈zD q j,∀y∈qP q (j+1),x≠y
 nda:nodupB (qP q j)=true
 rng:∀x∈qP q j,q<=x/\x<q+8
 up:∀x∈qP q (j+1),q+2*j+2<=x
theorem adA {q j:Nat}(hq:q=0\/q=9)(hj:j<4):ang q j:=by
 have h:=ZC hq hj;unfold XU at h;simp only[aj,aV,beq_iff_eq,bne_iff_ne,Nat.ble_eq]at h;obtain⟨⟨⟨⟨⟨⟨h1,h2⟩,h3⟩,h4⟩,h5⟩,h6⟩,h7⟩:=h;exact⟨h1,h2,h3,h4,h5,fun x hx=>⟨(h6 x hx).1,(h6 x hx).2⟩,h7⟩
structure RK (d:Nat)(M M':Mem):Prop where
 next:M.next<=M'.next
 blk:∀b,b<M.next->b≠d->M'.blk b=M.blk b
theorem RK.trans{d:Nat}{M M1 M2:Mem}(h:RK d M M1)(k:RK d M1 M2):RK d M M2:=⟨cM h.next k.next,fun b hb hd=>(k.blk b (bq hb h.next) hd).trans (h.blk b hb hd)⟩
theorem Kp.rk{d:Nat}{M M':Mem}{S:Nat->Prop}(k:Kp M M' S)(hs:∀b,S b->b=d):RK d M M':=⟨k.next,fun b hb hd=>k.blk b hb fun h=>hd (hs b h)⟩
structure T5 (M:Mem)(w d q N0 Np j:Nat):Prop where
 sd:Sd M
 wg:M.wg=some w
 pend:M.pend.length=j
 bd:M.base<=d
 opn:M.opn=(qP q j).map (sp d)
 bO:∀t∈M.bO,(∃y,y<q+2*j/\t=sp d y)\/(t.2.2=none/\N0<=t.1/\t.2.1<=Np)
 dn:d<N0
 n0:N0<=Np
 np:Np<=M.next
theorem T5.ext{M M':Mem}{w d q N0 Np j:Nat}(h:T5 M w d q N0 Np j)(k:Kp M M' eU):T5 M' w d q N0 Np j:=
 ⟨h.sd.ext k,k.wg.trans h.wg,by rw[k.pend];exact h.pend,by rw[k.base];exact h.bd,k.opn.trans h.opn,by rw[k.bO];exact h.bO,h.dn,h.n0,cM h.np k.next⟩
theorem Xz {bk:Mem}{w:Nat}{dN:af}{b:Nat}(h:b<bk.next):(lQ bk w dN).blk b=bk.blk b:=by
 show((bk.alloc _).alloc _).blk b=_
 rw[Mem.cD,bT (by show¬bk.next+1=b;omega),Mem.cD,bT av]
section
variable {K:iK}
theorem akO (t0 t1 t2 t3 t4 d q i fr to fs:Nat)(cap:Array af):Path 138 [(vP t0 0),(vP t1 0),(vP t2 0),(vP t3 0),(vP t4 0)]
 [.mem (aI t0 0) (vP d q),
  .mem (aI t1 0) (vI (i:Int)),
  .idx (i:Int) 4 i,
  .mem (aI t2 0) (vI (fr:Int)),
  .mem (aI t3 0) (vI (to:Int)),
  .mem (aI t4 0) (.func (.func fs) #[] cap),
  .mem di undef,
  .call 139 [(vP d (q+i*2)),(vI (fr:Int)),(vI (to:Int)),(.func (.func fs) #[] cap)] (.tuple #[])]
 (.tuple #[]):=cg
theorem W2 {R:Mem->Prop}{fs hi szd:Nat}{cap:Array af}{α:Type}{E:j6 α}{st:Nat->List α×Int}{m0 M bk:Mem}{w d q N0 Np j t0 t5 bi bf bt fr to:Nat}{cs:List af}(hK:Ld K)(fp:Cj KW R fs cap E 1 st hi)(hR:∀mw,Gd mw->sC (fun b=>b≠d) m0 mw->R mw)
  (hm0:m0.next<=N0)(hv0:m0.bO=[])(h0:∀b,b<m0.next->b≠d->bk.blk b=m0.blk b)(WV:lE w d q M=some bk)(hq:q=0\/q=9)(hj:j<4)(mid:T5 bk w d q N0 Np j)
  (fQ:rF X0 (.func (.func 138) #[] #[vP t0 0,vP bi 0,vP bf 0,vP bt 0,vP t5 0]) M=some (d,q,j))(ro:RO bk d szd cs)(hlen:q+8<cs.length)(CH:cs[q+2*j]?=some (.slice none 0 0))
  (r0:RO bk t0 0 [vP d q])(ri:RO bk bi 0 [vI (j:Int)])(rf:RO bk bf 0 [vI (fr:Int)])(rt:RO bk bt 0 [vI (to:Int)])(r5:RO bk t5 0 [.func (.func fs) #[] cap])
  (v0:t0≠d/\(t0<N0\/Np<=t0))(vi:bi≠d/\(bi<N0\/Np<=bi))(vf:bf≠d/\(bf<N0\/Np<=bf))(vt:bt≠d/\(bt<N0\/Np<=bt))(v5:t5≠d/\(t5<N0\/Np<=t5))(hf:fr<=to)(hh:to<=hi)(hs:to<90000):
  ∃sv mw m2 M',Ev K 137 [vP w 0,.func (.func 138) #[] #[vP t0 0,vP bi 0,vP bf 0,vP bt 0,vP t5 0]] M (.tuple #[]) M'/\T5 M' w d q N0 M'.next (j+1)/\M'.base=bk.base/\M'.home=bk.home/\RO M' d szd ((cs.set (q+2*j) sv).set (q+2*j+1) (vI (gf st (to-fr) fr []).2))/\
   (∃a n c,sv= .slice a n c)/\((gf st (to-fr) fr []).2=0->(bj E 1).R (fY mw m2) (gf st (to-fr) fr []).1 m2 sv)/\(∀b,M'.blk b=m2.blk b)/\M'.next=m2.next/\bk.next<=mw.next/\RK d bk M':=by
 have rp:=adA hq hj;have hsd:=mid.sd;obtain⟨dN,Fv⟩:∃dN:af,dN= .func (.func 138) #[] #[vP t0 0,vP bi 0,vP bf 0,vP bt 0,vP t5 0]:=⟨_,rfl⟩;obtain⟨mb,Mn⟩:∃mb,mb=lQ bk w dN:=⟨_,rfl⟩;have nb:mb.next=bk.next+2:=by rw[Mn];rfl
 have hbh:mb.bO=bk.bO:=by rw[Mn];rfl
 have hbo:mb.opn=bk.opn:=by rw[Mn];rfl
 have sF:mb.base=bk.base:=by rw[Mn];rfl
 have amf:mb.home=bk.home:=by rw[Mn];rfl
 have hbf:mb.floor=bk.floor:=by rw[Mn];rfl
 have hbw:mb.wg=bk.wg:=by rw[Mn];rfl
 have hbp:mb.pend=bk.pend:=by rw[Mn];rfl
 have uy:mb.deaf=bk.deaf:=by rw[Mn];rfl
 have kK:∀b,b<bk.next->mb.blk b=bk.blk b:=fun b hb=>by rw[Mn];exact Xz hb
 have ron:∀{b sz:Nat}{xs:List af},RO bk b sz xs->RO mb b sz xs:=fun h=>by
  have e:=kK _ h.lt;exact⟨by have :=h.lt;omega,by rw[e];exact h.kind,by rw[e];exact h.sz,by rw[e];exact h.cs⟩
 obtain⟨l,hl⟩:∃l,l=(zD q j).map (sp d):=⟨_,rfl⟩;obtain⟨rest,gn⟩:∃r,r=(qP q (j+1)).map (sp d):=⟨_,rfl⟩;have hdN:=mid.dn;have hnN:=mid.n0;have hnp:=mid.np;have SE:∀x,q+2*j<=x->meets bk.bO d x 1=false:=by
  intro x hx;unfold meets;rw[List.any_eq_false];intro t ht;rcases mid.bO t ht with⟨y,hy,rfl⟩|⟨h1,h2,h3⟩
  ·simp only[sp,aj,jE];rintro⟨_,h5,h6⟩;omega
  ·simp only[aj,jE];rintro⟨⟨h5,_⟩,_⟩;omega
 have hle:∀t∈bk.bO,t.2.1<=Np:=by
  intro t ht;rcases mid.bO t ht with⟨y,hy,rfl⟩|⟨h1,h2,h3⟩
  ·show d+1<=Np;omega
  ·exact h3
 have ahI:ze mb d q j=some l:=by
  unfold ze;rw[(ron ro).E8 CH (by rw[hbh];exact SE _ (ai _)),hl];rfl
 obtain⟨mw,Mm⟩:∃mw,mw=dI mb l rest:=⟨_,rfl⟩;have nw:mw.next=mb.next:=by rw[Mm];rfl
 have hwh:mw.bO=rest++bk.bO:=by rw[Mm];show rest++mb.bO=_;rw[hbh]
 have hwo:mw.opn=l:=by rw[Mm];rfl
 have hwb:mw.base=bk.base:=by rw[Mm];exact sF
 have Hz:mw.floor=mb.next:=by rw[Mm];rfl
 have Sj:∀b,mw.blk b=mb.blk b:=fun b=>by rw[Mm];rfl
 have row:∀{b sz:Nat}{xs:List af},RO bk b sz xs->RO mw b sz xs:=fun h=>by
  have h:=ron h;have e:=Sj;exact⟨by have :=h.lt;omega,by rw[e];exact h.kind,by rw[e];exact h.sz,by rw[e];exact h.cs⟩
 have F5:∀b,b≠d->(b<N0\/Np<=b)->aS mw.bO b=false:=by
  intro b hb hc;rw[hwh];refine im fun x hx h1 h2=>?_
  rcases List.mem_append.1 hx with hx|hx
  ·rw[gn]at hx;obtain⟨y,_,rfl⟩:=List.mem_map.1 hx;have h1:d<=b:=h1;have h2:b<d+1:=h2;omega
  ·have :=hle x hx;rcases mid.bO x hx with⟨y,hy,rfl⟩|⟨h3,h4,h5⟩
   ·have h1:d<=b:=h1;have h2:b<d+1:=h2;omega
   ·omega
 have gw:Gd mw:=by
  refine⟨by rw[Mm];rfl,by rw[Mm];exact uy.trans hsd.deaf,by rw[hwb,Hz];have :=hsd.bf;have :=hsd.fn;omega,by rw[Hz,nw];exact ai _,by rw[Mm];exact ai _,fun s hs=>?_⟩;rw[hwh]at hs;rcases List.mem_append.1 hs with hs|hs
  ·rw[gn]at hs;obtain⟨y,_,rfl⟩:=List.mem_map.1 hs
   show d+1<=mw.next
   omega
  ·have :=hle s hs;omega
 have fx:sC (fun b=>b≠d) m0 mw:=by
  refine⟨av,fun b hb hl=>⟨?_,fun _=>F5 b hb (.inl av)⟩⟩;rw[Sj,kK b av,h0 b hl hb]
 have hRw:=hR mw gw fx;have ahE:∀x,x=q+2*j\/x=q+2*j+1->meets mw.bO d x 1=false:=by
  intro x hx;rw[hwh];have e:meets (rest++bk.bO) d x 1=(meets rest d x 1||meets bk.bO d x 1):=by unfold meets;rw[List.any_append]
  rw[e,SE x av,Bool.or_false];unfold meets;rw[List.any_eq_false];intro t ht;rw[gn]at ht;obtain⟨y,hy,rfl⟩:=List.mem_map.1 ht;have :=rp.up y hy;simp only[sp,aj,jE];rintro⟨_,h5,h6⟩;omega
 have hww:∀x,x=q+2*j\/x=q+2*j+1->mw.cY d x 1=true:=by
  intro x hx;unfold Mem.cY;rw[ahE x hx,hwo,hwb];have HT:bG l d (x+0)=true:=by
   unfold bG;rw[hl,List.any_eq_true];refine⟨sp d x,List.mem_map.2 ⟨x,by unfold zD;rcases hx with h|h<;>simp[h],rfl⟩,?_⟩;simp[sp]
  have uy:=mid.bd;simp only[Bool.not_false,Bool.true_and,aj,Bool.or_eq_true,jE];refine⟨uy,.inr ?_⟩
  show((List.range 1).all fun i=>bG l d (x+i))=true
  rw[aV];intro i hi;have :i=0:=by simpa using hi
  subst this;exact HT
 have rod:=row ro;obtain⟨sv,m2,ab1,k2,ro2,SM,pF⟩:=am3 (K:=KW) (fr:=fr) (to:=to) (d:=d) (o:=q+2*j) fp gw hRw rod CH av (ahE _ (.inl rfl)) (hww _ (.inl rfl)) (hww _ (.inr rfl)) hf hh hs;have l0:=aJ (o:=0) ((row r0).obj (F5 _ v0.1 v0.2)) rfl;have l1:=aJ (o:=0) ((row ri).obj (F5 _ vi.1 vi.2)) rfl;have l2:=aJ (o:=0) ((row rf).obj (F5 _ vf.1 vf.2)) rfl;have l3:=aJ (o:=0) ((row rt).obj (F5 _ vt.1 vt.2)) rfl;have l4:=aJ (o:=0) ((row r5).obj (F5 _ v5.1 v5.2)) rfl;have amr:q+0+j*2=q+2*j:=av;have ams:Ev KW 138 [vP t0 0,vP bi 0,vP bf 0,vP bt 0,vP t5 0] mw (.tuple #[]) m2:=
  ak (akO t0 bi bf bt t5 d q j fr to fs cap) (.mem l0<| .mem l1<| .idx rfl hj<| .mem l2<| .mem l3<| .mem l4<| .mem (bW gw)<| .call (by first |exact ab1|(rw[<-amr]at ab1;exact ab1)) .nil)
 obtain⟨M',Pu⟩:∃M',M'=jZ mb m2 l rest:=⟨_,rfl⟩;have fX:Ev KW 138 (#[vP t0 0,vP bi 0,vP bf 0,vP bt 0,vP t5 0]:Array af).toList (dI (lQ bk w (.func (.func 138) #[] #[vP t0 0,vP bi 0,vP bf 0,vP bt 0,vP t5 0])) l rest) (.tuple #[]) m2:=by
  rw[<-Fv,<-Mn,<-Mm];exact ams
 have Pr:m2.deaf=0:=by rw[k2.deaf];exact gw.deaf
 have hgo:=P3 hK fQ WV (by rw[<-Fv,<-Mn];exact ahI) (rest:=rest) (by rw[gn,hl,mid.opn,OR,rp.filter]) hsd.deaf (by rw[mid.pend];exact hj)
  (by
   rw[aV,hl];intro s hs;obtain⟨x,hx,rfl⟩:=List.mem_map.1 hs;rw[mid.opn,tu];exact rp.mem x hx)
  (by rw[hl,yI];exact rp.nd)
  (by
   rw[aV,hl];intro s hs;obtain⟨x,hx,rfl⟩:=List.mem_map.1 hs;rw[aV];intro t ht;have hxj:x=q+2*j\/x=q+2*j+1:=by simpa[zD]using hx
   rcases List.mem_append.1 ht with ht|ht
   ·rw[gn]at ht;obtain⟨y,hy,rfl⟩:=List.mem_map.1 ht;exact Eb d x y (rp.ne x hx y hy)
   ·rcases mid.bO t ht with⟨y,hy,rfl⟩|⟨h1,h2,h3⟩
    ·exact Eb d x y av
    ·unfold vE;have :Nat.ble (sp d x).2.1 t.1=true:=Nat.ble_eq_true_of_le (by show d+1<=t.1;omega);rw[this];rfl)
  (by
   rw[aV];intro t ht;refine Nat.ble_eq_true_of_le ?_;rcases List.mem_append.1 ht with ht|ht
   ·rw[gn]at ht;obtain⟨y,hy,rfl⟩:=List.mem_map.1 ht
    show d+1<=bk.next;omega
   ·rw[hl]at ht;obtain⟨y,hy,rfl⟩:=List.mem_map.1 ht
    show d+1<=bk.next;omega)
  (by
   rw[aV,hl];intro s hs;obtain⟨x,hx,rfl⟩:=List.mem_map.1 hs;rw[<-Fv,<-Mn]
   show(Nat.beq (d+1) (d+1)&&Nat.beq (mb.blk d).kind 1)=true
   rw[(ron ro).kind,Nat.beq_refl];rfl)
  fX Pr
 rw[<-Fv,<-Mn,<-Pu]at hgo;have nM:M'.next=m2.next:=by rw[Pu];rfl
 have HU:∀b,M'.blk b=m2.blk b:=fun b=>by rw[Pu];rfl
 have n2:=k2.next;have MB:M'.bO=(mb.next,m2.next,none)::(l++bk.bO):=by rw[Pu,<-hbh];rfl
 have IP:M'.base=bk.base:=by rw[Pu];exact k2.base.trans hwb
 have ah1:M'.home=bk.home:=by rw[Pu];exact amf
 have ahN:∀t∈M'.bO,(∃y,y<q+2*(j+1)/\t=sp d y)\/(t.2.2=none/\N0<=t.1/\t.2.1<=M'.next):=by
  intro t ht;rw[MB]at ht;rcases bC.1 ht with rfl|ht
  ·exact .inr ⟨rfl,by show N0<=mb.next;omega,by show m2.next<=M'.next;omega⟩
  ·rcases List.mem_append.1 ht with ht|ht
   ·rw[hl]at ht;obtain⟨x,hx,rfl⟩:=List.mem_map.1 ht;have hxj:x=q+2*j\/x=q+2*j+1:=by simpa[zD]using hx
    exact .inl ⟨x,av,rfl⟩
   ·rcases mid.bO t ht with⟨y,hy,rfl⟩|⟨h1,h2,h3⟩
    ·exact .inl ⟨y,av,rfl⟩
    ·exact .inr ⟨h1,h2,av⟩
 refine⟨sv,mw,m2,M',by rw[<-Fv];exact hgo,⟨⟨by rw[Pu];exact Pr,?_,?_,?_,?_⟩,?_,?_,by rw[IP];exact mid.bd,by rw[Pu];exact gn,ahN,hdN,av,ai _⟩,IP,ah1,?_,SM,pF,HU,nM,av,⟨av,?_⟩⟩
 ·rw[IP,show M'.floor=m2.next by rw[Pu];rfl];have :=hsd.bf;have :=hsd.fn;omega
 ·rw[show M'.floor=m2.next by rw[Pu];rfl];omega
 ·rw[ah1];have :=hsd.hn;omega
 ·intro t ht;rcases ahN t ht with⟨y,hy,rfl⟩|⟨_,_,h⟩
  ·show d+1<=M'.next;omega
  ·exact h
 ·rw[Pu];exact hbw.trans mid.wg
 ·rw[Pu]
  show(_::mb.pend).length=j+1
  rw[List.length_cons,hbp,mid.pend]
 ·exact⟨by have :=ro2.lt;omega,by rw[HU];exact ro2.kind,by rw[HU];exact ro2.sz,by rw[HU];exact ro2.cs⟩
 ·intro b hb hd;rw[HU,k2.blk b av hd,Sj,kK b hb]
end
end Go.AM
namespace Go.AM
set_option maxRecDepth 1000000
open Go Go.Conc Go.Proofs
def C4 (n:Nat):Nat:=max ((n+3) / 4) 8
def ry (n j:Nat):Nat:=min (j*C4 n) n
def Cm (n j:Nat):Nat:=min (ry n j+C4 n) n
def sS {α:Type}(st:Nat->List α×Int)(n j:Nat):List α×Int:=gf st (Cm n j-ry n j) (ry n j) []
theorem abW (n j:Nat):ry n j<=Cm n j/\Cm n j<=n:=by unfold Cm ry;omega
structure Calm (m:Mem):Prop where
 gd:Gd m
 bO:m.bO=[]
 opn:m.opn=[]
 floor:m.floor=m.base
 wg:m.wg=none
theorem Calm.ext{m m':Mem}{S:Nat->Prop}(h:Calm m)(k:Kp m m' S):Calm m':=⟨h.gd.ext k,k.bO.trans h.bO,k.opn.trans h.opn,by rw[k.floor,k.base];exact h.floor,k.wg.trans h.wg⟩
theorem size_eq {n:Nat}(hn:n<90000)(d:Option af):mM Nat.div .i64 (cO (bB (n:Int) 4) 1) 4 d=some (vI (((n+3) / 4:Nat):Int)):=by
 have e:cO (bB (n:Int) 4) 1=((n+3:Nat):Int):=by
  rw[gH ⟨av,av⟩,zY ⟨av,av⟩];omega
 rw[e]
 show(match Nat.blt (n+3) (kT .i64)with |true=>some (af.int .i64 (.ofNat (Nat.div (n+3) (Nat.succ 3))))|false=>d)=_
 have :Nat.blt (n+3) (kT .i64)=true:=Nat.ble_eq_true_of_le (by show n+3+1<=9223372036854775808;omega);rw[this];rfl
theorem T5.F5{M:Mem}{w d q N0 Np j b:Nat}(h:T5 M w d q N0 Np j)(hb:b≠d)(hc:b<N0\/Np<=b):aS M.bO b=false:=by
 refine im fun x hx h1 h2=>?_
 have :=h.n0;have :=h.dn;rcases h.bO x hx with⟨y,hy,rfl⟩|⟨h3,h4,h5⟩
 ·have h1:d<=b:=h1;have h2:b<d+1:=h2;omega
 ·omega
theorem UR {M:Mem}{t0 bi bf bt t5 d q j:Nat}(h0:M.dQ t0 0 1=some [vP d q])(hi:M.dQ bi 0 1=some [vI (j:Int)]):rF X0 (.func (.func 138) #[] #[vP t0 0,vP bi 0,vP bf 0,vP bt 0,vP t5 0]) M=some (d,q,j):=by
 unfold rF;have e:(138=X0.HX\/138=X0.HW):= .inl rfl
 show(if 138=X0.HX\/138=X0.HW then _ else none)=_
 rw[bL e]
 show(match M.dQ t0 0 1,M.dQ bi 0 1 with |some [.pointer (some ⟨d,o,none⟩)],some [.int .i64 i]=>if 0<=i then some (d,o,i.toNat)else none|_,_=>none)=_
 rw[h0,hi]
 show(if(0:Int)<=(j:Int)then some (d,q,((j:Int)).toNat)else none)=_
 rw[bL av];rfl
theorem RL {M:Mem}{d q sz:Nat}{cs:List af}(o:Obj M d sz cs)(hn:∀j,j<4->cs[q+2*j]?=some (.slice none 0 0)):oj M d q 4=some ((qP q 0).map (sp d)):=by
 have l:∀j,j<4->ze M d q j=some [sp d (q+2*j),sp d (q+2*j+1)]:=by
  intro j hj;unfold ze;rw[o.ro.E8 (hn j hj) (gK o.F5 _ _)];rfl
 unfold oj oj oj oj oj;rw[l 0 av,l 1 av,l 2 av,l 3 av];rfl
theorem S5 {M:Mem}{w d q:Nat}{cs:List af}(cm:Calm M)(o:Obj M d 0 cs)(hb:M.base<=d)(hn:∀j,j<4->cs[q+2*j]?=some (.slice none 0 0))(hl:q+8<cs.length)(hq:q=0\/q=9)
  (ow:Obj M w 0 [.int .u64 0,.int .u32 0])(hp:(M.blk w).pos=1)(hw:Own M w)(hwd:d≠w):
  lE w d q M=some {M.bE w {}with wg:=some w,opn:=(qP q 0).map (sp d),floor:=M.next}:=by
 have rp:=adA hq (show 0<4 by omega);unfold lE;rw[cm.wg,RL o hn,kg ow (o:=0) (n:=2) (vs:=[.int .u64 0,.int .u32 0]) rfl (ai _)]
 show(if _ then _ else none)=_
 rw[bL];have h1:=hw.may 0 2;have h2:M.gv w=true:=hw;have h3:(M.blk w).cs.length=2:=by rw[ow.cs];rfl
 have h4:((qP q 0).map (sp d)).all (fun s=>x9 M s&&s.1 !=w)=true:=by
  rw[aV];intro s hs;obtain⟨x,hx,rfl⟩:=List.mem_map.1 hs;have dk:=(rp.rng x hx).2;unfold x9;have e1:(sp d x).2.1=(sp d x).1+1:=rfl;have e2:(M.blk d).cs[x]?=some (some cs[x]!):=by
   rw[o.cs,List.getElem?_map,List.getElem?_eq_getElem av];simp[List.getElem!_eq_getElem?_getD,List.getElem?_eq_getElem (show x<cs.length by omega)]
  show((((((decide (d+1=d+1)&&decide (M.base<=d))&&decide (M.floor<=d))&&decide (d<M.next))&&(M.blk d).kind==1)&&(((M.blk d).cs[x]?).any (·.isSome)))&&(d !=w))=true
  rw[e2,o.kind];have hf:M.floor<=d:=by rw[cm.floor];exact hb
  simp[hb,hf,o.lt,hwd]
 have h5:pt ((qP q 0).map (sp d))=true:=by rw[yI];exact rp.nda
 simp[h1,h2,hp,h3,cm.bO,cm.opn,cm.gd.pend,cm.floor,h4,h5]
end Go.AM
namespace Go.AM
set_option maxRecDepth 1000000
open Go Go.Conc Go.Proofs
def ShR (m:Mem)(d q n:Nat){α:Type}(E:j6 α)(st:Nat->List α×Int)(xs:List af)(M:Mem)(k:Nat):Prop:=
 ∃sv mw m2,xs[q+2*k]?=some sv/\xs[q+2*k+1]?=some (vI (sS st n k).2)/\(∃a l c,sv= .slice a l c)/\((sS st n k).2=0->(bj E 1).R (fY mw m2) (sS st n k).1 m2 sv)/\m.next<=mw.next/\RK d m2 M
theorem ShR.set{m M M':Mem}{d q n k j:Nat}{α:Type}{E:j6 α}{st:Nat->List α×Int}{xs:List af}{a b:af}(h:ShR m d q n E st xs M k)(hk:k<j)(r:RK d M M'):ShR m d q n E st ((xs.set (q+2*j) a).set (q+2*j+1) b) M' k:=by
 obtain⟨sv,mw,m2,h1,h2,h3,h4,h5,h6⟩:=h;exact⟨sv,mw,m2,by rw[List.getElem?_set_ne av,List.getElem?_set_ne av];exact h1,by rw[List.getElem?_set_ne av,List.getElem?_set_ne av];exact h2,h3,h4,h5,h6.trans r⟩
section
variable {K:iK}
theorem ae1 (d q rows fs:Nat)(cap:Array af)(aH a0 cf:Nat)(x1:Int):bF (bN 109) (ax 109) 0 4 [0,1,2] [(vP d q),(vI (rows:Int)),(.func (.func fs) #[] cap)]
 [cp [some (vP d q)] aH,
  cp [some (.func (.func fs) #[] cap)] a0,
  cp [some (.int .u64 0),some (.int .u32 0)] cf,
  .val (mM Nat.div .i64 (cO (bB (rows:Int) 4) 1) 4 (iP ae .quo 3 false true (vI (cO (bB (rows:Int) 4) 1)) (vI 4))) (vI x1)]
 .normal [1,3,5,8,9,18] [(vI (rows:Int)),(vP aH 0),(vP a0 0),(vP cf 0),(vI (qG true x1 8)),(vI 0)]:=eF
theorem ae0 (rows b3 b5 b8 i:Nat)(size x y:Int)(aH a0 cf:Nat):bF (bN 109) (bh (ax 109) [4]) 0 99 [1,3,5,8,9,18] [(vI (rows:Int)),(vP b3 0),(vP b5 0),(vP b8 0),(vI size),(vI (i:Int))]
 [aD (br (i:Int) 4) true,
  cp [some (vI 0)] aH,
  .mem (jo aH 0 (vI (i:Int))) undef,
  .mem (aI aH 0) (vI (i:Int)),
  cp [some (vI 0)] a0,
  .mem (jo a0 0 (vI (qG false (jr (i:Int) size) (rows:Int)))) undef,
  .mem (aI a0 0) (vI x),
  cp [some (vI 0)] cf,
  .mem (jo cf 0 (vI (qG false (bB x size) (rows:Int)))) undef,
  .call 137 [(vP b8 0),(.func (.func 138) #[] #[(vP b3 0),(vP aH 0),(vP a0 0),(vP cf 0),(vP b5 0)])] (.tuple #[])]
 .normal [1,3,5,8,9,18] [(vI (rows:Int)),(vP b3 0),(vP b5 0),(vP b8 0),(vI size),(vI (bB (i:Int) 1))]:=eF
theorem aeZ (rows b3 b5 b8 i:Nat)(size:Int):bF (bN 109) (bh (ax 109) [4]) 0 99 [1,3,5,8,9,18] [(vI (rows:Int)),(vP b3 0),(vP b5 0),(vP b8 0),(vI size),(vI (i:Int))]
 [aD (br (i:Int) 4) false]
 (.exit 0) [3,8] [(vP b3 0),(vP b8 0)]:=eF
theorem aeY (b3 b8 d q:Nat)(rv:af)(e:Int):bF (bN 109) (ax 109) 5 99 [3,8] [(vP b3 0),(vP b8 0)]
 [.call 140 [(vP b8 0)] (.tuple #[]),
  .mem (aI b3 0) (vP d q),
  .call 141 [(vP d q)] (.tuple #[rv,(vI e)])]
 .ret [6,7] [rv,(vI e)]:=eF
theorem agQ:jR 109 3 [6,7]=true:=bp
theorem NW:(du (ax 109)).length<=99:=ag bp
theorem V3:dT (ax 109) 4=some (0,(bh (ax 109) [4])):=bp
theorem LI:codeOk (bN 109) (bh (ax 109) [4])=true:=bp
theorem Wj:eI (bN 109) (ax 109) (bh (ax 109) [4]) 4 0=true:=bp
theorem OS {R:Mem->Prop}{fs n:Nat}{cap:Array af}{α:Type}{E:j6 α}{st:Nat->List α×Int}{m:Mem}{d q:Nat}{cs:List af}(hK:Ld K)(fp:Cj KW R fs cap E 1 st n)(hR:∀mw,Gd mw->sC (fun b=>b≠d) m mw->R mw)
  (cm:Calm m)(o:Obj m d 0 cs)(hb:m.base<=d)(hq:q=0\/q=9)(hl:q+8<cs.length)(hn:∀j,j<4->cs[q+2*j]?=some (.slice none 0 0))(hs:n<9000):
  ∃t M xs b3 b8,(∀t' M',aX K (bN 109) (ax 109) 5 ⟨t,M,[]⟩ .ret ⟨t',M',[]⟩->aX K (bN 109) (ax 109) 0 ⟨entry [vP d q,vI (n:Int),.func (.func fs) #[] cap],m,[]⟩ .ret ⟨t',M',[]⟩)/\
   cH [3,8] t=[vP b3 0,vP b8 0]/\RO M b3 0 [vP d q]/\b3≠d/\b8≠d/\m.next<=b8/\(∃N0 Np,T5 M b8 d q N0 Np 4/\m.next<=N0)/\M.base=m.base/\M.home=m.home/\m.next<=M.next/\(∀b,b<m.next->b≠d->M.blk b=m.blk b)/\
   RO M d 0 xs/\xs.length=cs.length/\(∀x,x<q\/q+8<=x->xs[x]?=cs[x]?)/\∀k,k<4->ShR m d q n E st xs M k:=by
 have g:=cm.gd;obtain⟨b3,SV⟩:∃b,b=m.next:=⟨_,rfl⟩;obtain⟨m1,e1,o1,k1,n1,_⟩:=aQ g [vP d q];obtain⟨b5,hb5⟩:∃b,b=m1.next:=⟨_,rfl⟩;obtain⟨m2,e2,o2,k2,n2,_⟩:=aQ (g.ext k1) [.func (.func fs) #[] cap];obtain⟨b8,hb8⟩:∃b,b=m2.next:=⟨_,rfl⟩;have lM:=k1.aN k2;obtain⟨m3,e3,o3,k3,n3,iV⟩:=aQ (g.ext lM) [.int .u64 0,.int .u32 0];rw[<-SV]at e1 o1;rw[<-hb5]at e2 o2;rw[<-hb8]at e3 o3 iV;have sx:=lM.aN k3;have hdl:=o.lt;obtain⟨t0,w0,e0⟩:=bQ (K:=K) (m:=m) (m':=m3) (tm:=entry [vP d q,vI (n:Int),.func (.func fs) #[] cap]) (ae1 d q n fs cap b3 b5 b8 _) rfl (.mem e1<| .mem e2<| .mem e3<| .val (size_eq av _) .nil);have jJ:qG true (((n+3) / 4:Nat):Int) 8=((C4 n:Nat):Int):=Rq _ 8;rw[jJ]at e0;have D3:=cm.ext sx;have alC:C4 n<=9000:=by unfold C4;omega
 obtain⟨e,t1,M,he,hx,rfl,hg,oH,alV,IP,MB,hMn,YS,xs,F8,OE,Uf,fQ⟩:=gk (K:=K) (nt:=bN 109) (a:=bh (ax 109) [4]) 4
  (Inv:=fun j tm M=>cH [1,3,5,8,9,18] tm=[vI (n:Int),vP b3 0,vP b5 0,vP b8 0,vI ((C4 n:Nat):Int),vI (j:Int)]/\RO M b3 0 [vP d q]/\RO M b5 0 [.func (.func fs) #[] cap]/\((j=0/\M=m3)\/∃N0 Np,T5 M b8 d q N0 Np j/\m3.next<=N0)/\M.base=m.base/\M.home=m.home/\m3.next<=M.next/\(∀b,b<m.next->b≠d->M.blk b=m.blk b)/\
   ∃xs,RO M d 0 xs/\xs.length=cs.length/\(∀x,x<q\/q+2*j<=x->xs[x]?=cs[x]?)/\∀k,k<j->ShR m d q n E st xs M k)
  (dA:=fun e tm M=>e= .exit 0/\cH [3,8] tm=[vP b3 0,vP b8 0]/\RO M b3 0 [vP d q]/\(∃N0 Np,T5 M b8 d q N0 Np 4/\m.next<=N0)/\M.base=m.base/\M.home=m.home/\m.next<=M.next/\(∀b,b<m.next->b≠d->M.blk b=m.blk b)/\
   ∃xs,RO M d 0 xs/\xs.length=cs.length/\(∀x,x<q\/q+8<=x->xs[x]?=cs[x]?)/\∀k,k<4->ShR m d q n E st xs M k)
  (by
   rintro j tm M hj ⟨hg,oH,zR,WI,IP,MB,hMn,YS,xs,F8,OE,Uf,fQ⟩;refine .inl ?_;have sdM:Sd M:=by
    rcases WI with⟨_,rfl⟩|⟨N0,Np,h,_⟩
    ·exact D3.gd.sd
    ·exact h.sd
   obtain⟨M1,M2,a1,a2,oi,ka,na⟩:=sdM.UD (vI 0) (vI (j:Int)) rfl;have sd2:=sdM.ext ka;have ef:qG false (jr (j:Int) ((C4 n:Nat):Int)) (n:Int)=((ry n j:Nat):Int):=by
    have hm:j*C4 n<=3*9000:=Nat.mul_le_mul av alC;have e:((j*C4 n:Nat):Int)=(j:Int)*((C4 n:Nat):Int):=cK;rw[VF (by rw[<-e];exact⟨av,av⟩),<-e,A5];rfl
   obtain⟨M3,M4,a3,a4,of',kb,nb⟩:=sd2.UD (vI 0) (vI ((ry n j:Nat):Int)) rfl;have sd4:=sd2.ext kb;have et:qG false (bB ((ry n j:Nat):Int) ((C4 n:Nat):Int)) (n:Int)=((Cm n j:Nat):Int):=by
    have hm:ry n j<=9000:=by unfold ry;omega
    have e:((ry n j+C4 n:Nat):Int)=((ry n j:Nat):Int)+((C4 n:Nat):Int):=cK;rw[gH (by rw[<-e];exact⟨av,av⟩),<-e,A5];rfl
   obtain⟨M5,M6,a5,a6,ot,kc,nc⟩:=sd4.UD (vI 0) (vI ((Cm n j:Nat):Int)) rfl;have kM:Kp M M6 eU:=(ka.aN kb).aN kc;have nM6:M6.next=M.next+3:=av;obtain⟨bi,hbi⟩:∃b,b=M.next:=⟨_,rfl⟩;obtain⟨bf,hbf⟩:∃b,b=M2.next:=⟨_,rfl⟩;obtain⟨bt,hbt⟩:∃b,b=M4.next:=⟨_,rfl⟩;rw[<-hbi]at a1 a2 oi;rw[<-hbf]at a3 a4 of';rw[<-hbt]at a5 a6 ot;have oi6:=(oi.aM kb).aM kc;have of6:=of'.aM kc;have r3:=oH.ext kM id;have r5:=zR.ext kM id;have rd:=F8.ext kM id;have l1:aI bi 0 M2=some (vI (j:Int),M2):=aJ oi rfl;have l2:aI bf 0 M4=some (vI ((ry n j:Nat):Int),M4):=aJ of' rfl;have zT:∃bk N0 Np,lE b8 d q M6=some bk/\T5 bk b8 d q N0 Np j/\m3.next<=N0/\(∀b,b≠b8->bk.blk b=M6.blk b)/\bk.next=M6.next/\bk.base=M6.base/\bk.home=M6.home/\(M.next<N0+0/\N0=M6.next\/Np<=M.next)/\aS M6.bO b3=false/\aS M6.bO bi=false/\(0<j->bk=M6):=by
    rcases WI with⟨rfl,rfl⟩|⟨N0,Np,mid,hN0⟩
    ·have Cp:=D3.ext kM;have ow:=(o3.aM kM);have hp6:(M6.blk b8).pos=1:=by rw[kM.blk b8 av id];exact iV
     have hxn:∀j,j<4->xs[q+2*j]?=some (.slice none 0 0):=fun j hj=>by rw[Uf _ (.inr av)];exact hn j hj
     have hd6:aS M6.bO d=false:=by rw[Cp.bO];rfl
     have WV:=S5 Cp (rd.obj hd6) (by rw[kM.base,IP];exact hb) hxn av hq ow hp6 (g.own (sx.aN kM) av) av;refine⟨_,M6.next,M6.next,WV,⟨⟨Cp.gd.deaf,?_,ai _,Cp.gd.hn,?_⟩,rfl,?_,?_,rfl,?_,av,ai _,ai _⟩,av,?_,rfl,rfl,rfl,.inl ⟨av,rfl⟩,by rw[Cp.bO];rfl,by rw[Cp.bO];rfl,fun h=>absurd h av⟩
     ·show M6.base<=M6.next
      have :=Cp.gd.bf;have :=Cp.gd.fn;omega
     ·intro s hs;have hs:s∈M6.bO:=hs;rw[Cp.bO]at hs;cases hs
     ·show M6.pend.length=0
      rw[Cp.gd.pend];rfl
     ·show M6.base<=d
      rw[kM.base,IP];exact hb
     ·intro t ht;have ht:t∈M6.bO:=ht;rw[Cp.bO]at ht;cases ht
     ·intro b gN
      show(M6.bE b8 {}).blk b=_
      rw[Mem.eK,bT (fun e=>gN e.symm)]
    ·have VH:=mid.ext kM;have WV:lE b8 d q M6=some M6:=by
      unfold lE;rw[VH.wg];exact bL rfl
     have hnp:=mid.np;have hn0:=mid.n0;have hdn:=mid.dn;exact⟨M6,N0,Np,WV,VH,hN0,fun _ _=>rfl,rfl,rfl,rfl,.inr hnp,VH.F5 av (.inl av),VH.F5 av (.inr av),fun _=>rfl⟩
   obtain⟨bk,N0,Np,WV,alb,hN0,hb0,hn0,abP,abG,dX,ahh,ahg,abu⟩:=zT;have ro0:∀{b:Nat}{ys:List af},RO M6 b 0 ys->b≠b8->RO bk b 0 ys:=fun{b ys} h dx=>by
    have e:=hb0 b dx;exact⟨by rw[hn0];exact h.lt,by rw[e];exact h.kind,by rw[e];exact h.sz,by rw[e];exact h.cs⟩
   have abq:rF X0 (.func (.func 138) #[] #[vP b3 0,vP bi 0,vP bf 0,vP bt 0,vP b5 0]) M6=some (d,q,j):=
    UR (r3.E8 (o:=0) rfl (gK ahh _ _)) (oi6.ro.E8 (o:=0) rfl (gK ahg _ _))
   have hft:=abW n j;have hxj:xs[q+2*j]?=some (.slice none 0 0):=by rw[Uf _ (.inr (ai _))];exact hn j hj
   have aaP:∀{b:Nat},M.next<=b->b<M6.next->b≠d/\(b<N0\/Np<=b):=fun h1 h2=>⟨av,by rcases dX with h|h<;>omega⟩
   obtain⟨sv,mw,mq,M',hgo,alc,gN,WU,alE,SM,pF,ahY,KC,Mm,hrk⟩:=W2 (m0:=m) (fr:=ry n j) (to:=Cm n j) hK fp hR av cm.bO (fun b hb hd=>by rw[hb0 b av,kM.blk b av id];exact YS b hb hd) WV hq hj alb abq (ro0 rd av) av hxj
    (ro0 r3 av) (ro0 oi6.ro av) (ro0 of6.ro av) (ro0 ot.ro av) (ro0 r5 av) ⟨av,.inl av⟩ (aaP av av) (aaP av av) (aaP av av) ⟨av,.inl av⟩ hft.1 hft.2 av
   obtain⟨t2,dk,dm⟩:=aU (K:=K) (m:=M) (m':=M') LI (ae0 n b3 b5 b8 j ((C4 n:Nat):Int) ((ry n j:Nat):Int) 0 bi bf bt) hg
    (.cond (Pm hj)<| .mem a1<| .mem a2<| .mem l1<| .mem a3<| .mem (by rw[ef];exact a4)<| .mem l2<| .mem a5<| .mem (by rw[et];exact a6)<| .call hgo .nil)
   have nM':=hrk.next;have aiT:∀b,b<M6.next->b≠d->b≠b8->M'.blk b=M6.blk b:=fun b h1 h2 h3=>by rw[hrk.blk b av h2,hb0 b h3]
   have roM:∀{b:Nat}{ys:List af},RO M6 b 0 ys->b≠d->b≠b8->RO M' b 0 ys:=fun{b ys} h h2 h3=>by
    have e:=aiT b h.lt h2 h3;exact⟨by have :=h.lt;omega,by rw[e];exact h.kind,by rw[e];exact h.sz,by rw[e];exact h.cs⟩
   refine⟨t2,M',dk,by rw[dm,add1 av],roM r3 av av,roM r5 av av,.inr ⟨N0,M'.next,alc,hN0⟩,by rw[gN,abP,kM.base,IP],by rw[WU,abG,kM.home,MB],av,?_,(xs.set (q+2*j) sv).set (q+2*j+1) (vI (sS st n j).2),alE,by simp[OE],?_,?_⟩
   ·intro b h1 h2;rw[aiT b av h2 av,kM.blk b av id];exact YS b h1 h2
   ·intro x hx;rw[List.getElem?_set_ne av,List.getElem?_set_ne av];exact Uf x av
   ·intro k hk
    by_cases hkj:k<j
    ·have e0:=abu av;subst e0;exact(fQ k hkj).set hkj ((kM.rk (d:=d) fun _ h=>h.elim).trans hrk)
    ·have e:k=j:=av;subst e;refine⟨sv,mw,mq,?_,?_,SM,pF,av,⟨av,fun b _ _=>ahY b⟩⟩
     ·rw[List.getElem?_set_ne av,List.getElem?_set_self av]
     ·rw[List.getElem?_set_self (by simp;omega)])
  (by
   rintro tm M ⟨hg,oH,zR,WI,IP,MB,hMn,YS,xs,F8,OE,Uf,fQ⟩;obtain⟨t2,dk,dm⟩:=aU (K:=K) (m:=M) (m':=M) LI (aeZ n b3 b5 b8 4 ((C4 n:Nat):Int)) hg (.cond (ID 4) .nil);rcases WI with⟨h,_⟩|⟨N0,Np,mid,hN0⟩
   ·omega
   ·exact⟨_,t2,M,(fun h=>by cases h),dk,rfl,dm,oH,⟨N0,Np,mid,av⟩,IP,MB,av,YS,xs,F8,OE,Uf,fQ⟩)
  (tm:=t0) (m:=m3) ⟨e0,((o1.aM k2).aM k3).ro,(o2.aM k3).ro,.inl ⟨rfl,rfl⟩,sx.base,sx.home,ai _,fun b h _=>sx.blk b h id,cs,(o.aM sx).ro,rfl,fun _ _=>rfl,fun k hk=>absurd hk av⟩ av
 refine⟨t1,M,xs,b3,b8,fun t' M' h=>aX.cut w0 (aX.iH V3 Wj hx rfl h),hg,oH,av,av,av,alV,IP,MB,hMn,YS,F8,OE,Uf,fQ⟩
end
end Go.AM
namespace Go.AM
set_option maxRecDepth 1000000
open Go Go.Conc Go.Proofs
theorem G6 {α:Type}{st:Nat->List α×Int}(h1:∀i,(st i).1.length<=1):∀(n i:Nat) (acc:List α),(gf st n i acc).1.length<=acc.length+n
 |0,i,acc=>ai _
 |n+1,i,acc=>by
  unfold gf
  split
  ·simp
  ·have h:=G6 h1 n (i+1) (acc++(st i).1);have :=h1 i;simp at h;omega
theorem AV {α:Type}{st:Nat->List α×Int}:∀(n i:Nat) (acc:List α),gf st n i acc=if(gf st n i []).2≠0 then([],(gf st n i []).2)else(acc++(gf st n i []).1,0)
 |0,i,acc=>by show(acc,(0:Int))=(if(0:Int)≠0 then _ else _);rw[bT cK];simp[gf]
 |n+1,i,acc=>by
  unfold gf
  by_cases h:(st i).2≠0
  ·simp only[bL h]
  ·simp only[bT h];rw[AV n (i+1) (acc++(st i).1),AV n (i+1) ([]++(st i).1)]
   by_cases h':(gf st n (i+1) []).2≠0
   ·simp only[bL h']
   ·simp only[bT h',ne_eq,not_true_eq_false,if_false,List.nil_append,List.append_assoc]
theorem G7 {α:Type}{st:Nat->List α×Int}:∀(a b i:Nat) (acc:List α),gf st (a+b) i acc=if(gf st a i acc).2≠0 then gf st a i acc else gf st b (i+a) (gf st a i acc).1
 |0,b,i,acc=>by show _=if((0:Int)≠0)then _ else gf st b (i+0) acc;rw[bT cK,Nat.zero_add];rfl
 |a+1,b,i,acc=>by
  rw[show a+1+b=(a+b)+1 by omega];have e:∀n,gf st (n+1) i acc=if(st i).2≠0 then([],(st i).2)else gf st n (i+1) (acc++(st i).1):=fun n=>rfl
  rw[e,e]
  by_cases h:(st i).2≠0
  ·simp only[bL h]
  ·simp only[bT h];rw[G7 a b (i+1),show i+1+a=i+(a+1) by omega]
theorem JH {α:Type}{st:Nat->List α×Int}{n:Nat}:∀(k j:Nat) (acc:List α),j+k=4->gf (sS st n) k j acc=gf st (Cm n 3-ry n j) (ry n j) acc:=by
 have hto:∀j,Cm n j=ry n (j+1):=fun j=>by
  unfold Cm ry;have :(j+1)*C4 n=j*C4 n+C4 n:=by rw[Nat.add_mul,Nat.one_mul]
  omega
 have h34:Cm n 3=ry n 4:=hto 3;intro k
 induction k with
 |zero=>
  intro j acc hj;have :j=4:=av;subst this;have :Cm n 3-ry n 4=0:=by rw[h34];omega
  rw[this];rfl
 |succ k ih=>
  intro j acc hj;have h3:Cm n 3-ry n j=(Cm n j-ry n j)+(Cm n 3-ry n (j+1)):=by
   have hm:∀a b,a<=b->ry n a<=ry n b:=fun a b h=>by
    unfold ry;have :=Nat.mul_le_mul_right (C4 n) h;omega
   have h1:=hm j (j+1) av;have h2:=hm (j+1) 4 av;rw[h34,hto];omega
  rw[h3,G7 (st:=st) (Cm n j-ry n j)]
  show(if(sS st n j).2≠0 then([],(sS st n j).2)else gf (sS st n) k (j+1) (acc++(sS st n j).1))=_
  have ha:=AV (st:=st) (Cm n j-ry n j) (ry n j) acc;have hr:sS st n j=gf st (Cm n j-ry n j) (ry n j) []:=rfl;rw[<-hr]at ha
  by_cases h:(sS st n j).2≠0
  ·rw[bL h]at ha⊢;rw[ha,bL h]
  ·rw[bT h]at ha⊢;have h1:=(abW n j).1;rw[ha,bT cK,ih (j+1) _ av,show ry n j+(Cm n j-ry n j)=ry n (j+1) by rw[<-hto];omega]
theorem Qx {α:Type}{st:Nat->List α×Int}{n:Nat}:gf (sS st n) 4 0 []=gf st n 0 []:=by
 have h:=JH (st:=st) (n:=n) 4 0 [] rfl;have e1:ry n 0=0:=by unfold ry;omega
 have e2:Cm n 3=n:=by unfold Cm ry C4;omega
 rw[h,e1,e2];rfl
theorem fq.append{α:Type}{Q:α->af->Prop}:∀{l l':List α}{cs kW:List af},fq Q l cs->fq Q l' kW->fq Q (l++l') (cs++kW)
 | [],l',cs,kW,h,h'=>by have h:cs=[]:=h;rw[h];exact h'
 |x::l,l',cs,kW,⟨v,rest,e,hq,h⟩,h'=>⟨v,rest++kW,by rw[e,List.append_assoc],hq,fq.append h h'⟩
def PA {α:Type}(E:j6 α)(B0:Nat->Prop)(N:Nat)(m:Mem)(acc:List α)(v:af):Prop:=
 (acc=[]/\v= .slice none 0 0)\/∃b cs,v=vL b 0 acc.length eP/\0<acc.length/\N<=b/\Obj m b 1 cs/\fq (fun x u=>E.R B0 x m u/\okV 1 u) acc cs
theorem PA.form{α:Type}{E:j6 α}{B0:Nat->Prop}{N:Nat}{m:Mem}{acc:List α}{v:af}(h:PA E B0 N m acc v):∃a n c,v= .slice a n c:=by
 rcases h with⟨_,rfl⟩|⟨b,cs,rfl,_⟩<;>exact⟨_,_,_,rfl⟩
theorem PA.ext{α:Type}{E:j6 α}{B0 S:Nat->Prop}{N:Nat}{m m':Mem}{acc:List α}{v:af}(h:PA E B0 N m acc v)(k:Kp m m' S)(h1:∀b,B0 b->¬S b)(h2:∀b,N<=b->¬S b):PA E B0 N m' acc v:=by
 rcases h with h|⟨b,cs,e,hp,hb,o,hc⟩
 ·exact .inl h
 ·exact .inr ⟨b,cs,e,hp,hb,o.ext k (h2 b hb),hc.mono fun x u _ w=>⟨E.ext w.1 k h1,w.2⟩⟩
theorem PA.fin{α:Type}{E:j6 α}{B0:Nat->Prop}{N:Nat}{m:Mem}{acc:List α}{v:af}(h:PA E B0 N m acc v):(bj E 1).R (fun b=>B0 b\/(N<=b/\b<m.next)) acc m v:=by
 rcases h with⟨rfl,rfl⟩|⟨b,cs,rfl,hp,hb,o,hc⟩
 ·exact bj.nil
 ·exact⟨cs,o.sl hc.one.1 (.inl rfl),fun b' o' n' c' e=>(by cases e;exact .inr ⟨hb,o.lt⟩),hc.mono fun x u _ w=>⟨E.mono w.1 fun _ h=> .inl h,w.2⟩⟩
theorem PA.app{α:Type}{E:j6 α}{B0:Nat->Prop}{N t:Nat}{m:Mem}{acc xs:List α}{s v:af}(h:PA E B0 N m acc s)(g:Gd m)(ht:yH.contains (t,1)=true)(hB:∀y,B0 y->y<N)(hN:N<=m.next)(own:∀b,N<=b->Own m b)(q:(bj E 1).R B0 xs m v)(hl:acc.length+xs.length<=2^30):
  ∃m' s',cV ae #[t,t] s v m=some (s',m')/\Kp m m' (fun y=>N<=y)/\PA E B0 N m' (acc++xs) s':=by
 obtain⟨kW,h1,h2,h3⟩:=q;rcases h with⟨rfl,rfl⟩|⟨b,cs,rfl,hp,hb,o,hc⟩
 ·cases xs with
  |nil=>
   have h3:kW=[]:=h3;subst h3;exact⟨m,_,XA ht h1,Kp.refl _ _,.inl ⟨rfl,rfl⟩⟩
  |cons x l=>
   obtain⟨m',e,o',k,n⟩:=Ak g ht h1 h3.one.2 cK (by simpa using hl);exact⟨m',_,e,k.mo,.inr ⟨m.next,kW,cK,cK,hN,o',h3.mono fun x u _ w=>⟨E.ext w.1 k fun _ _ h=>h,w.2⟩⟩⟩
 ·obtain⟨m',e,o',k,n⟩:=Al (rest:=[]) g ht (by simpa using o) hc.one.1 (own b hb) h1 h3.one.2 hl;have dx:∀y,B0 y->¬y=b:=fun y hy e=>by have :=hB y hy;omega
  refine⟨m',_,e,k.mono fun y _ h=>by rw[h];exact hb,.inr ⟨m.next,cs++kW,cK,by simp;omega,hN,o',?_⟩⟩;exact fq.append (hc.mono fun x u _ w=>⟨E.ext w.1 k dx,w.2⟩) (h3.mono fun x u _ w=>⟨E.ext w.1 k dx,w.2⟩)
theorem Calm.own{m:Mem}(h:Calm m){b:Nat}(hb:m.base<=b):Own m b:=by
 unfold Own Mem.gv;rw[h.bO,h.floor]
 show(true&&decide (m.base<=b)&&(decide (m.base<=b)|| _))=true
 rw[dZ hb];rfl
theorem am2 {K:iK}(hK:Ld K){M:Mem}{w:Nat}(hw:M.wg=some w)(hd:M.deaf=0)(ho:M.opn=[])(hb:M.base<=M.next):Ev K 140 [vP w 0] M (.tuple #[]) (Bg M):=by
 refine⟨1,fun A n _ hn=>?_⟩;obtain⟨n,rfl⟩:∃k,n=k+1:=⟨n-1,av⟩;rw[hK.wait];unfold wO;rw[hw]
 show(if w=w/\M.deaf=0/\M.opn=[]/\Nat.ble M.base M.next=true then _ else none)=_
 rw[bL ⟨rfl,hd,ho,Nat.ble_eq_true_of_le hb⟩];rfl
section
variable {K:iK}
theorem aet (d q:Nat):bF (bN 141) (ax 141) 0 3 [0] [(vP d q)]
 [.mem (aI d (q+8)) (.slice none 0 0),
  .call 180 [(.slice none 0 0)] (.slice none 0 0),
  .mem (jo d (q+8) (.slice none 0 0)) undef]
 .normal [0,13] [(vP d q),(vI 0)]:=eF
theorem aeq (d q i:Nat):bF (bN 141) (bh (ax 141) [3]) 0 99 [0,13] [(vP d q),(vI (i:Int))]
 [aD (br (i:Int) 4) false]
 (.exit 0) [0] [(vP d q)]:=eF
theorem aes (d q i:Nat)(e:Int):bF (bN 141) (bh (ax 141) [3]) 0 99 [0,13] [(vP d q),(vI (i:Int))]
 [aD (br (i:Int) 4) true,
  .idx (i:Int) 4 i,
  .mem (aI d (q+i*2+1)) (vI e),
  aD (hY e 0) true,
  .idx (i:Int) 4 i,
  .mem (aI d (q+i*2+1)) (vI e)]
 .ret [2,3] [(.slice none 0 0),(vI e)]:=eF
theorem aer (d q i an ac bn bc rn rc:Nat)(aa ba ra:Option Addr):bF (bN 141) (bh (ax 141) [3]) 0 99 [0,13] [(vP d q),(vI (i:Int))]
 [aD (br (i:Int) 4) true,
  .idx (i:Int) 4 i,
  .mem (aI d (q+i*2+1)) (vI 0),
  bm,
  .mem (aI d (q+8)) (.slice aa an ac),
  .idx (i:Int) 4 i,
  .mem (aI d (q+i*2)) (.slice ba bn bc),
  .mem di undef,
  .mem (cV ae #[29,29] (.slice aa an ac) (.slice ba bn bc)) (.slice ra rn rc),
  .mem di undef,
  .mem (jo d (q+8) (.slice ra rn rc)) undef]
 .normal [0,13] [(vP d q),(vI (bB (i:Int) 1))]:=eF
theorem aep (d q:Nat)(rv:af):bF (bN 141) (ax 141) 4 99 [0] [(vP d q)]
 [.mem (aI d (q+8)) rv]
 .ret [2,3] [rv,(vI 0)]:=eF
theorem X8:jR 141 1 [2,3]=true:=bp
theorem NP:(du (ax 141)).length<=99:=ag bp
theorem LW:dT (ax 141) 3=some (0,(bh (ax 141) [3])):=bp
theorem EV:codeOk (bN 141) (bh (ax 141) [3])=true:=bp
theorem L4:eI (bN 141) (ax 141) (bh (ax 141) [3]) 3 0=true:=bp
theorem am1 {m:Mem}{d q:Nat}{xs:List af}{α:Type}{E:j6 α}{B0:Nat->Prop}{res:Nat->List α×Int}(cm:Calm m)(o:Obj m d 0 xs)(hb:m.base<=d)(hl:q+8<xs.length)(CH:xs[q+8]?=some (.slice none 0 0))(S4:∀y,B0 y->y≠d/\y<m.next)
  (hlen:∀k,(res k).1.length<=9000)(fQ:∀k,k<4->∃sv,xs[q+2*k]?=some sv/\xs[q+2*k+1]?=some (vI (res k).2)/\(∃a l c,sv= .slice a l c)/\((res k).2=0->(bj E 1).R B0 (res k).1 m sv)):
  ∃rv m' ys,Ev K 141 [vP d q] m (.tuple #[rv,vI (gf res 4 0 []).2]) m'/\Kp m m' (fun y=>y=d)/\Obj m' d 0 ys/\ys.length=xs.length/\(∀x,x≠q+8->ys[x]?=xs[x]?)/\
   ((gf res 4 0 []).2=0->(bj E 1).R (fun b=>B0 b\/fY m m' b) (gf res 4 0 []).1 m' rv/\ys[q+8]?=some rv)/\((gf res 4 0 []).2≠0->rv= .slice none 0 0):=by
 obtain⟨G,hG⟩:∃G,G=gf res 4 0 []:=⟨_,rfl⟩;rw[<-hG];have hd:=o.lt;obtain⟨m1,e1,o1,k1⟩:=gu (o:=q+8) (.slice none 0 0) o ((cm.own hb).may _ _) hl rfl;obtain⟨t0,w0,e0⟩:=bQ (K:=K) (m:=m) (m':=m1) (tm:=entry [vP d q]) (aet d q) rfl (.mem (aJ o CH)<| .call Y3<| .mem e1 .nil);have hnd:∀b,m.next<=b->¬b=d:=fun b h e=>by omega
 obtain⟨e,t1,m2,he,hx,k2,sv,o2,hp⟩:=gk (K:=K) (nt:=bN 141) (a:=bh (ax 141) [3]) 4
  (Inv:=fun j tm M=>cH [0,13] tm=[vP d q,vI (j:Int)]/\Kp m M (fun y=>y=d)/\∃acc sv,Obj M d 0 (xs.set (q+8) sv)/\PA E B0 m.next M acc sv/\acc.length<=j*9000/\gf res (4-j) j acc=G)
  (dA:=fun e tm M=>Kp m M (fun y=>y=d)/\∃sv,Obj M d 0 (xs.set (q+8) sv)/\((e= .exit 0/\cH [0] tm=[vP d q]/\PA E B0 m.next M G.1 sv/\G.2=0)\/(e= .ret/\cH [2,3] tm=[.slice none 0 0,vI G.2]/\G.2≠0)))
  (by
   rintro j tm M hj ⟨hg,kk,acc,sv,oM,ls,YR,hq⟩;obtain⟨svk,x1,x2,⟨ba,bn,bc,rfl⟩,x4⟩:=fQ j hj;have eo:q+j*2=q+2*j:=av;have l1:aI d (q+j*2+1) M=some (vI (res j).2,M):=aJ oM (by rw[eo,List.getElem?_set_ne av];exact x2);rw[show 4-j=(4-(j+1))+1 by omega]at hq;have hq:(if(res j).2≠0 then([],(res j).2)else gf res (4-(j+1)) (j+1) (acc++(res j).1))=G:=hq
   by_cases hz:(res j).2=0
   ·rw[bT (by rw[hz];simp)]at hq;rw[hz]at l1;obtain⟨aa,an,ac,rfl⟩:=ls.form;have l2:aI d (q+8) M=some (.slice aa an ac,M):=aJ oM (List.getElem?_set_self hl);have l3:aI d (q+j*2) M=some (.slice ba bn bc,M):=aJ oM (by rw[eo,List.getElem?_set_ne av];exact x1);have cmM:=cm.ext kk;have Mp:=hlen j;obtain⟨M1,s',a1,ka,VP⟩:=ls.app (t:=29) cmM.gd rfl (fun y hy=>(S4 y hy).2) kk.next (fun b h=>cmM.own (by rw[kk.base];have :=cm.gd.bf;have :=cm.gd.fn;omega)) ((bj E 1).ext (x4 hz) kk fun y hy=>(S4 y hy).1) av;have gM1:=cmM.gd.ext ka;obtain⟨ra,rn,rc,rfl⟩:=VP.form;obtain⟨M2,a2,oM2,kb⟩:=gu (o:=q+8) (.slice ra rn rc) (oM.ext ka av) (((cmM.ext ka).own (by rw[ka.base,kk.base];exact hb)).may _ _) (by simpa using hl) rfl;rw[List.set_set]at oM2;obtain⟨t2,dk,dm⟩:=aU (K:=K) (m:=M) (m':=M2) EV (aer d q j an ac bn bc rn rc aa ba ra) hg (.cond (Pm hj)<| .idx rfl hj<| .mem l1<| .cond rfl<| .mem l2<| .idx rfl hj<| .mem l3<| .mem (bW cmM.gd)<| .mem a1<| .mem (bW gM1)<| .mem a2 .nil);have nk:=kk.next;refine .inl ⟨t2,M2,dk,by rw[dm,add1 av],?_,acc++(res j).1,_,oM2,VP.ext kb (fun b gN=>(S4 b gN).1) (fun b h=>hnd b h),by simp;omega,hq⟩;exact(kk.new ka (N:=m.next) (ai _) fun b h=>h).trans kb fun _ _ h=>h
   ·rw[bL hz]at hq;obtain⟨t2,dk,dm⟩:=aU (K:=K) (m:=M) (m':=M) EV (aes d q j (res j).2) hg (.cond (Pm hj)<| .idx rfl hj<| .mem l1<| .cond (Yf hz)<| .idx rfl hj<| .mem l1 .nil);exact .inr ⟨_,t2,M,(fun h=>by cases h),dk,kk,sv,oM,.inr ⟨rfl,by rw[dm,<-hq],by rw[<-hq];exact hz⟩⟩)
  (by
   rintro tm M ⟨hg,kk,acc,sv,oM,ls,YR,hq⟩;obtain⟨t2,dk,dm⟩:=aU (K:=K) (m:=M) (m':=M) EV (aeq d q 4) hg (.cond (ID 4) .nil);have hq:(acc,(0:Int))=G:=hq;exact⟨_,t2,M,(fun h=>by cases h),dk,kk,sv,oM,.inl ⟨rfl,dm,by rw[<-hq];exact ls,by rw[<-hq]⟩⟩)
  (tm:=t0) (m:=m1) ⟨e0,k1,[],_,o1,.inl ⟨rfl,rfl⟩,Nat.zero_le _,hG.symm⟩ av
 rcases hp with⟨rfl,hg,ls,hz⟩|⟨rfl,hg,hz⟩
 ·have l2:aI d (q+8) m2=some (sv,m2):=aJ o2 (List.getElem?_set_self hl);obtain⟨t2,h2,e2⟩:=bQ (K:=K) (m:=m2) (m':=m2) (aep d q sv) hg (.mem l2 .nil);rw[hz];exact⟨sv,m2,_,fg X8 (aX.cut w0 (aX.iH LW L4 hx rfl (aX.last h2 NP))) (.inr rfl) e2,k2,o2,cK,fun x hx=>List.getElem?_set_ne (fun e=>hx e.symm),fun _=>⟨ls.fin,List.getElem?_set_self hl⟩,fun h=>absurd rfl h⟩
 ·exact⟨_,m2,_,fg X8 (aX.cut w0 (aX.sY LW L4 hx bp)) (.inr rfl) hg,k2,o2,cK,fun x hx=>List.getElem?_set_ne (fun e=>hx e.symm),fun h=>absurd h hz,fun _=>rfl⟩
end
end Go.AM
namespace Go.AM
set_option maxRecDepth 1000000
open Go Go.Conc Go.Proofs
section
variable {K:iK}
theorem ana {R:Mem->Prop}{fs n:Nat}{cap:Array af}{α:Type}{E:j6 α}{st:Nat->List α×Int}{m:Mem}{d q:Nat}{cs:List af}(hK:Ld K)(fp:Cj KW R fs cap E 1 st n)(hE:E.Iw)(hR:∀mw,Gd mw->sC (fun b=>b≠d) m mw->R mw)
  (cm:Calm m)(o:Obj m d 0 cs)(hb:m.base<=d)(hq:q=0\/q=9)(hl:q+8<cs.length)(hn:∀j,j<4->cs[q+2*j]?=some (.slice none 0 0))(h8:cs[q+8]?=some (.slice none 0 0))(hs:n<9000):
  ∃rv m' ys,Ev K 109 [vP d q,vI (n:Int),.func (.func fs) #[] cap] m (.tuple #[rv,vI (gf st n 0 []).2]) m'/\Kp m m' (fun y=>y=d)/\Obj m' d 0 ys/\ys.length=cs.length/\(∀x,x<q\/q+9<=x->ys[x]?=cs[x]?)/\
   ((gf st n 0 []).2=0->(bj E 1).R (fY m m') (gf st n 0 []).1 m' rv/\ys[q+8]?=some rv)/\((gf st n 0 []).2≠0->rv= .slice none 0 0):=by
 obtain⟨t,M,xs,b3,b8,pJ,hg,oH,h3d,h8d,h8n,⟨N0,Np,mid,hN0⟩,IP,MB,hMn,YS,F8,OE,Uf,fQ⟩:=OS hK fp hR cm o hb hq hl hn hs;have hdl:=o.lt;have dG:M.opn=[]:=mid.opn;have e1:=am2 hK mid.wg mid.sd.deaf dG (by have :=mid.sd.bf;have :=mid.sd.fn;omega);obtain⟨mf,SD⟩:∃mf,mf=Bg M:=⟨_,rfl⟩;rw[<-SD]at e1;have nf:mf.next=M.next:=by rw[SD];rfl
 have bf:∀b,mf.blk b=M.blk b:=fun b=>by rw[SD];rfl
 have ahL:mf.bO=[]:=by rw[SD];rfl
 have kf:Kp m mf (fun y=>y=d):=by
  refine⟨av,ahL.trans cm.bO.symm,?_,?_,?_,?_,?_,?_,?_,fun b h1 h2=>(bf b).trans (YS b h1 h2)⟩
  ·rw[SD];exact dG.trans cm.opn.symm
  ·rw[SD];exact IP
  ·rw[SD];exact MB
  ·rw[SD];exact IP.trans cm.floor.symm
  ·rw[SD];exact cm.wg.symm
  ·rw[SD];exact cm.gd.pend.symm
  ·rw[SD];exact mid.sd.deaf.trans cm.gd.deaf.symm
 have cmf:=cm.ext kf;have tf:∀b,aS mf.bO b=false:=fun b=>by rw[ahL];rfl
 have ro:∀{b:Nat}{ys:List af},RO M b 0 ys->Obj mf b 0 ys:=fun{b ys} h=>⟨by rw[nf];exact h.lt,by rw[bf];exact h.kind,by rw[bf];exact h.sz,by rw[bf];exact h.cs,tf b⟩
 have l3:aI b3 0 mf=some (vP d q,mf):=aJ (ro oH) rfl;have alD:∀k,k<4->∃sv,xs[q+2*k]?=some sv/\xs[q+2*k+1]?=some (vI (sS st n k).2)/\(∃a l c,sv= .slice a l c)/\((sS st n k).2=0->(bj E 1).R (fY m mf) (sS st n k).1 mf sv):=by
  intro k hk;obtain⟨sv,mw,m2,h1,h2,h3,h4,h5,h6⟩:=fQ k hk;refine⟨sv,h1,h2,h3,fun hz=>?_⟩;have h6n:=h6.next;have hs:sC (fY mw m2) m2 mf:=⟨av,fun b hb hl=>⟨(bf b).trans (h6.blk b hl (by have :=hb.1;omega)),fun _=>tf b⟩⟩;exact(bj E 1).mono (bj.r6 hE _ _ _ _ _ (h4 hz) hs) fun b hb=>⟨by have :=hb.1;omega,by have :=hb.2;omega⟩
 have hx8:xs[q+8]?=some (.slice none 0 0):=by rw[Uf _ (.inr (ai _))];exact h8
 obtain⟨rv,m',ys,e2,k2,o2,hyl,hyo,pF,SO⟩:=am1 (K:=K) (E:=E) (B0:=fY m mf) (res:=sS st n) cmf (ro F8) (by rw[kf.base];exact hb) av hx8 (fun y hy=>⟨by have :=hy.1;omega,hy.2⟩)
  (fun k=>by
   have h1:=abW n k;have h2:=G6 (st:=st) fp.one (Cm n k-ry n k) (ry n k) [];unfold sS;simp at h2;omega) alD
 rw[Qx]at e2 pF SO;have n2:=k2.next;obtain⟨t2,h2,e3⟩:=bQ (K:=K) (m:=M) (m':=m') (aeY b3 b8 d q rv (gf st n 0 []).2) hg (.call e1<| .mem l3<| .call e2 .nil);refine⟨rv,m',ys,fg agQ (pJ _ _ (aX.last h2 NW)) (.inr rfl) e3,kf.trans k2 fun _ _ h=>h,o2,hyl.trans OE,fun x hx=>by rw[hyo x av];exact Uf x av,fun hz=>⟨?_,(pF hz).2⟩,SO⟩;exact(bj E 1).mono (pF hz).1 fun b hb=>hb.elim (fun h=>⟨h.1,by have :=h.2;omega⟩) fun h=>⟨by have :=h.1;omega,h.2⟩
end
end Go.AM
namespace Go.AM
set_option maxRecDepth 1000000
open Go Go.Conc Go.Proofs
def qq (cv:Nat->Nat->Int->Int->V)(dj:List X)(i:Nat):List (List V)×Int:=(if(jI (cv i) dj []).2=0 then[(jI (cv i) dj []).1]else[],(jI (cv i) dj []).2)
section
variable {K:iK}{m:Mem}
theorem afS (i t2 t3 pr n cc:Nat)(sv iv rv:af)(e:Int):Path 253 [sv,(vI (i:Int)),(vP t2 0),(vP t3 0)]
 [.mem (aI t2 0) iv,
  .mem (aI t3 0) (vL pr 0 n cc),
  .idx (i:Int) n i,
  .mem di undef,
  .call 111 [sv,iv,(vP pr (0+i*6))] (.tuple #[rv,(vI e)])]
 (.tuple #[rv,(vI e)]):=cg
theorem akD (d pr n cc il ic:Nat)(ia:Option Addr)(rv:af)(e:Int)(aH a0:Nat):Path 202 [(vP d 0),(.slice ia il ic)]
 [cp [some (.slice ia il ic)] aH,
  .mem (aI d 8) (vL pr 0 n cc),
  cp [some (.slice none 0 0)] a0,
  .mem (jo a0 0 (vL pr 0 n cc)) undef,
  .mem (aI a0 0) (vL pr 0 n cc),
  .mem di undef,
  .call 109 [(vP d 9),(vI (n:Int)),(.func (.func 253) #[] #[(vP aH 0),(vP a0 0)])] (.tuple #[rv,(vI e)])]
 (.tuple #[rv,(vI e)]):=cg
theorem agb (d:Nat)(aH:Nat):Path 201 [(vP d 0),.nilIface]
 [cp [some .nilIface] aH,
  .mem (aI aH 0) .nilIface,
  bV]
 (vI 0):=cg
theorem agc:Path 199 [(.slice none 0 0)]
 [.mem (nW ae #[223] (.slice none 0 0)) (.tuple #[]),
  .mem (sQ ae 223 (.slice none 0 0) none (some (vI 0))) (.slice none 0 0)]
 (.slice none 0 0):=cg
theorem aei (d sn sc q:Nat)(sa:Option Addr)(w iv:af)(aH a0:Nat):bF (bN 149) (ax 149) 0 3 [0,1] [(.agg #[(.slice sa sn sc),w,iv]),(vP d 0)]
 [cp [some (.slice sa sn sc),some w,some iv] aH,
  .mem (aI d 8) (.slice none 0 0),
  .call 199 [(.slice none 0 0)] (.slice none 0 0),
  .mem (ao ae 223 1 [(0,(.agg #[(.int .i32 0),(.int .i32 0),(.int .i32 0),(.int .i32 0),(.int .i32 0),(.int .i32 0)]))]) (vL a0 0 1 1),
  .mem (cV ae #[223,223] (.slice none 0 0) (vL a0 0 1 1)) (vL q 0 1 eP),
  .mem (jo d 8 (vL q 0 1 eP)) undef,
  .mem (aI aH 0) (.slice sa sn sc)]
 .normal [1,2,24,25,26] [(vP d 0),(vP aH 0),(.slice sa sn sc),(vI (sn:Int)),(vI 0)]:=eF
theorem aeh (d b2 sn sc i:Nat)(sa:Option Addr):bF (bN 149) (bh (ax 149) [3]) 0 99 [1,2,24,25,26] [(vP d 0),(vP b2 0),(.slice sa sn sc),(vI (sn:Int)),(vI (i:Int))]
 [aD (br (i:Int) (sn:Int)) false]
 (.exit 0) [1,2] [(vP d 0),(vP b2 0)]:=eF
theorem aeg (d b2 n cc:Nat)(a:Option Addr)(w iv rv:af)(e:Int):bF (bN 149) (ax 149) 4 99 [1,2] [(vP d 0),(vP b2 0)]
 [.mem (aI b2 1) w,
  .call 201 [(vP d 0),w] (vI 0),
  bm,
  .mem (aI d 8) (.slice a n cc),
  aD (fD (n:Int) 1000) false,
  .mem (aI b2 2) iv,
  .call 202 [(vP d 0),iv] (.tuple #[rv,(vI e)])]
 .ret [4,5] [rv,(vI e)]:=eF
theorem agK:jR 149 2 [4,5]=true:=bp
theorem NM:(du (ax 149)).length<=99:=ag bp
theorem VY:dT (ax 149) 3=some (0,(bh (ax 149) [3])):=bp
theorem Vf:codeOk (bN 149) (bh (ax 149) [3])=true:=bp
theorem Wb:eI (bN 149) (ax 149) (bh (ax 149) [3]) 3 0=true:=bp
def RIt (R0:Mem->Prop)(B:Nat->Prop)(dj:List X)(iv:af)(ct cr pr n cc:Nat)(mw:Mem):Prop:=Obj mw ct 0 [iv]/\Obj mw cr 0 [vL pr 0 n cc]/\(bj mL 1).R B dj mw iv/\R0 mw
theorem Nk {R0:Mem->Prop}{B:Nat->Prop}{dj:List X}{iv:af}{ct cr pr n cc:Nat}{cv:Nat->Nat->Int->Int->V}(keep:∀m m',R0 m->Kp m m' eU->R0 m')(sc:∀i,i<n->Scope KW R0 (cv i) (vP pr (0+i*6)))(jA:∀i,i<n->∀x∈dj,T9 (cv i) x)(hl:dj.length<9000):
  Cj KW (RIt R0 B dj iv ct cr pr n cc) 253 #[vP ct 0,vP cr 0] kU 1 (qq cv dj) n:=by
 refine⟨?_,fun i=>?_,?_⟩
 ·rintro m m' ⟨h1,h2,h3,h4⟩ k;exact⟨h1.aM k,h2.aM k,(bj mL 1).ext h3 k fun _ _ h=>h,keep _ _ h4 k⟩
 ·unfold qq
  split<;>simp
 ·rintro m0 m S BA acc sv i hi g0 h0 g ⟨h1,h2,h3,h4⟩ ls hB ha;obtain⟨c1,c2⟩:=am9 (sc i hi) g0 h0 g h4 ls hB h3 (jA i hi) hl av;have l1:aI ct 0 m=some (iv,m):=aJ h1 rfl;have l2:aI cr 0 m=some (vL pr 0 n cc,m):=aJ h2 rfl;refine⟨fun hz=>?_,fun hz=>?_⟩
  ·have hz:(jI (cv i) dj []).2=0:=hz;obtain⟨Iz,m',XD,e,k,ls',hB'⟩:=c1 hz;refine⟨Iz,m',XD,ak (afS i ct cr pr n cc sv iv Iz 0) (.mem l1<| .mem l2<| .idx rfl hi<| .mem (bW g)<| .call e .nil),k,?_,hB'⟩;rw[show(qq cv dj i).1=[(jI (cv i) dj []).1]from bL hz];exact ls'
  ·obtain⟨m',e,k⟩:=c2 hz;exact⟨m',ak (afS i ct cr pr n cc sv iv (.slice none 0 0) _) (.mem l1<| .mem l2<| .idx rfl hi<| .mem (bW g)<| .call e .nil),k⟩
theorem amP (hK:Ld K){R0:Mem->Prop}{B:Nat->Prop}{dj:List X}{iv:af}{d pr n cc:Nat}{cs:List af}{cv:Nat->Nat->Int->Int->V}(cm:Calm m)(o:Obj m d 0 cs)(hlen:cs.length=18)(hb:m.base<=d)(h8:cs[8]?=some (vL pr 0 n cc))(CH:∀j,j<4->cs[9+2*j]?=some (.slice none 0 0))(h17:cs[17]?=some (.slice none 0 0))
  (hx:(bj mL 1).R B dj m iv)(hBd:∀b,B b->b≠d)(hn:n<9000)(hl:dj.length<9000)(S2:∀mw,Gd mw->sC (fun b=>b≠d) m mw->R0 mw)(keep:∀m m',R0 m->Kp m m' eU->R0 m')(sc:∀i,i<n->Scope KW R0 (cv i) (vP pr (0+i*6)))(jA:∀i,i<n->∀x∈dj,T9 (cv i) x):
  ∃rv m' ys,Ev K 202 [vP d 0,iv] m (.tuple #[rv,vI (gf (qq cv dj) n 0 []).2]) m'/\Kp m m' (fun y=>y=d)/\Obj m' d 0 ys/\ys.length=18/\(∀x,x<9->ys[x]?=cs[x]?)/\
   ((gf (qq cv dj) n 0 []).2=0->(bj kU 1).R (fY m m') (gf (qq cv dj) n 0 []).1 m' rv)/\((gf (qq cv dj) n 0 []).2≠0->rv= .slice none 0 0):=by
 have hdl:=o.lt;obtain⟨ia,ic,hiv⟩:=bj.form hx;subst hiv;obtain⟨ct,hct⟩:∃b,b=m.next:=⟨_,rfl⟩;obtain⟨m1,e1,o1,k1,n1,_⟩:=aQ cm.gd [.slice ia dj.length ic];have MP:=cm.ext k1;obtain⟨cr,Um⟩:∃b,b=m1.next:=⟨_,rfl⟩;obtain⟨m2,m3,e2,e3,o3,k3,n3⟩:=MP.gd.sd.UD (.slice none 0 0) (vL pr 0 n cc) rfl;rw[<-hct]at e1 o1;rw[<-Um]at e2 e3 o3;have tS:=k1.aN k3;have D3:=cm.ext tS;have l1:aI d 8 m1=some (vL pr 0 n cc,m1):=aJ (o.aM k1) h8;have l2:aI cr 0 m3=some (vL pr 0 n cc,m3):=aJ o3 rfl;have zI:=o1.aM k3;have od:=o.aM tS;have hx3:=(bj mL 1).ext hx tS fun _ _ h=>h
 have fp:=Nk (B:=B) (iv:= .slice ia dj.length ic) (ct:=ct) (cr:=cr) (cc:=cc) keep sc jA hl;have sm:sC (fun b=>b≠d) m m3:=tS.same fun _ _ h=>h
 obtain⟨rv,m4,ys,e4,k4,o4,hyl,hyo,pF,SO⟩:=ana hK fp kU.r6 (fun mw gw s=>⟨zI.wj s av,o3.wj s av,bj.r6 mL.r6 _ _ _ _ _ hx3 (s.mono hBd),S2 mw gw (sm.trans s)⟩) D3 od (by rw[tS.base];exact hb) (.inr rfl) av CH h17 hn;have n4:=k4.next;refine⟨rv,m4,ys,ak (akD d pr n cc _ ic ia rv _ ct cr) (.mem e1<| .mem l1<| .mem e2<| .mem e3<| .mem l2<| .mem (bW D3.gd)<| .call e4 .nil),tS.mo.trans k4 fun _ _ h=>h,o4,av,fun x hx=>hyo x (.inl hx),fun hz=>?_,SO⟩;exact(bj kU 1).mono (pF hz).1 fun b gN=>⟨by have :=gN.1;have :=tS.next;omega,gN.2⟩
theorem aiL:Ev K 199 [.slice none 0 0] m (.slice none 0 0) m:=by
 have e1:nW ae #[223] (.slice none 0 0) m=some (.tuple #[],m):=by
  unfold nW;obtain⟨e,h1,_⟩:=tE (t:=223) (sz:=6) rfl
  show(match ae.underlying 223,(af.slice none 0 0)with |some (.slice e),.slice base n _=>_|_,_=>none)=_
  rw[h1]
 have e2:sQ ae 223 (.slice none 0 0) none (some (vI 0)) m=some (.slice none 0 0,m):=by
  obtain⟨e,h1,h2,_⟩:=tE (t:=223) (sz:=6) rfl;unfold sQ jH;simp only[h1,h2,kL];simp[eP]
 exact ak agc (.mem e1<| .mem e2 .nil)
theorem aiK {d:Nat}(g:Gd m):∃m',Ev K 201 [vP d 0,.nilIface] m (vI 0) m'/\Kp m m' eU:=by
 obtain⟨m1,e1,o1,k1,_⟩:=aQ g [.nilIface];have l1:aI m.next 0 m1=some (.nilIface,m1):=aJ o1 rfl;exact⟨m1,ak (agb d _) (.mem e1<| .mem l1<| .cond rfl .nil),k1⟩
def Gc:af:= .agg #[.int .i32 0,.int .i32 0,.int .i32 0,.int .i32 0,.int .i32 0,.int .i32 0]
def Tr:List af:=[.slice none 0 0,vI 0,.slice none 0 0,vI 0,.slice none 0 0,vI 0,.slice none 0 0,vI 0,.slice none 0 0,.slice none 0 0,vI 0,.slice none 0 0,vI 0,.slice none 0 0,vI 0,.slice none 0 0,vI 0,.slice none 0 0]
theorem ach (hK:Ld K){R0:Mem->Prop}{B:Nat->Prop}{dj:List X}{iv:af}{sa:Option Addr}{sc d:Nat}{cv:Nat->Nat->Int->Int->V}(cm:Calm m)(o:Obj m d 0 Tr)(hb:m.base<=d)
  (hx:(bj mL 1).R B dj m iv)(hBd:∀b,B b->b≠d)(hl:dj.length<9000)(keep:∀m m',R0 m->Kp m m' eU->R0 m')(S2:∀mw,R0 mw)(WL:∀pr,Scope KW R0 (cv 0) (vP pr 0))(jA:∀x∈dj,T9 (cv 0) x):
  ∃rv m',Ev K 149 [.agg #[.slice sa 0 sc,.nilIface,iv],vP d 0] m (.tuple #[rv,vI (qq cv dj 0).2]) m'/\Kp m m' (fun y=>y=d)/\
   ((qq cv dj 0).2=0->(bj kU 1).R (fY m m') (qq cv dj 0).1 m' rv):=by
 have hdl:=o.lt;obtain⟨b2,iW⟩:∃b,b=m.next:=⟨_,rfl⟩;obtain⟨m1,e1,o1,k1,n1,_⟩:=aQ cm.gd [.slice sa 0 sc,.nilIface,iv];rw[<-iW]at e1 o1;have MP:=cm.ext k1;have od1:=o.aM k1;have l1:aI d 8 m1=some (.slice none 0 0,m1):=aJ od1 rfl;obtain⟨o2,k2,n2⟩:=dC MP.gd (k:={kind:=1,sz:=6,cs:=Gc.cells.toList.map some}) (cs:=Gc.cells.toList) rfl rfl rfl;have e2:=bs1 (m:=m1) (t:=223) (sz:=6) (v:=Gc) rfl rfl dB;generalize m1.alloc {kind:=1,sz:=6,cs:=Gc.cells.toList.map some}=m2 at o2 k2 n2 e2;have Py:=MP.ext k2;obtain⟨m3,e3,o3,k3,n3⟩:=Ak Py.gd (t:=223) (sz:=6) (n:=1) (x:=vL m1.next 0 1 1) rfl (o2.sl rfl (.inr rfl)) (by intro y hy;simp[Gc,af.cells]at hy;rcases hy with rfl|rfl|rfl|rfl|rfl|rfl<;>rfl) dB dB;obtain⟨q,hq⟩:∃q,q=m2.next:=⟨_,rfl⟩;rw[<-hq]at e3 o3;have sx:=(k1.aN k2).aN k3;have D3:=cm.ext sx;obtain⟨m4,e4,o4,k4⟩:=gu (o:=8) (vL q 0 1 eP) (o.aM sx) ((D3.own (by rw[sx.base];exact hb)).may _ _) (ag rfl) rfl;have MO:=D3.ext k4;have jV:Kp m m4 (fun y=>y=d):=sx.mo.trans k4 fun _ _ h=>h
 have n4:=k4.next;have nb2:¬b2=d:=av;have zI:=(((o1.aM k2).aM k3).ext k4 nb2);have l2:aI b2 0 m4=some (.slice sa 0 sc,m4):=aJ zI rfl;obtain⟨t0,w0,e0⟩:=bQ (K:=K) (m:=m) (m':=m4) (tm:=entry [.agg #[.slice sa 0 sc,.nilIface,iv],vP d 0]) (aei d 0 sc q sa .nilIface iv b2 m1.next) rfl (.mem e1<| .mem l1<| .call aiL<| .mem e2<| .mem e3<| .mem e4<| .mem l2 .nil);obtain⟨e,t1,m5,he,Ks,rfl,rfl,hg⟩:=gk (K:=K) (nt:=bN 149) (a:=bh (ax 149) [3]) 0
  (Inv:=fun j tm m'=>m'=m4/\cH [1,2,24,25,26] tm=[vP d 0,vP b2 0,.slice sa 0 sc,vI ((0:Nat):Int),vI 0])
  (dA:=fun e tm m'=>e= .exit 0/\m'=m4/\cH [1,2] tm=[vP d 0,vP b2 0])
  (fun j tm m' hj=>absurd hj av)
  (by
   rintro tm m' ⟨rfl,hg⟩;obtain⟨t2,dk,dm⟩:=aU (K:=K) (m:=m') (m':=m') Vf (aeh d b2 0 sc 0 sa) hg (.cond (ID 0) .nil);exact⟨_,t2,m',(fun h=>by cases h),dk,rfl,rfl,dm⟩)
  (tm:=t0) (m:=m4) ⟨rfl,e0⟩ av
 have l3:aI b2 1 m5=some (.nilIface,m5):=aJ zI rfl;obtain⟨m6,e6,k6⟩:=aiK (K:=K) (d:=d) MO.gd;have Cp:=MO.ext k6;have o6:=o4.aM k6;have l4:aI d 8 m6=some (vL q 0 1 eP,m6):=aJ o6 rfl;have l5:aI b2 2 m6=some (iv,m6):=aJ (zI.aM k6) rfl;have qH:=jV.aN k6;have hx6:=(bj mL 1).ext hx qH hBd;obtain⟨rv,m7,ys,e7,k7,o7,hyl,hyo,pF,SO⟩:=amP (K:=K) (pr:=q) (n:=1) (cc:=eP) (cv:=cv) hK Cp o6 rfl (by rw[qH.base];exact hb) rfl (by intro j hj;match j,hj with |0,_=>rfl|1,_=>rfl|2,_=>rfl|3,_=>rfl) rfl hx6 hBd av hl (fun mw _ _=>S2 mw) keep
  (fun i hi=>by have :=(show i=0 by omega);subst this;exact WL q) (fun i hi=>by have :=(show i=0 by omega);subst this;exact jA)
 have qt:gf (qq cv dj) 1 0 []=((qq cv dj 0).1,(qq cv dj 0).2):=by
  show(if(qq cv dj 0).2≠0 then([],(qq cv dj 0).2)else(([]:List (List V))++(qq cv dj 0).1,(0:Int)))=_
  by_cases h:(qq cv dj 0).2=0
  ·rw[bT (by rw[h];simp),h];rfl
  ·rw[bL h];have :(qq cv dj 0).1=[]:=bT h;rw[this]
 rw[qt]at e7 pF;obtain⟨t2,h2,H0⟩:=bQ (K:=K) (m:=m5) (m':=m7) (aeg d b2 1 eP _ .nilIface iv rv (qq cv dj 0).2) hg (.mem l3<| .call e6<| .cond rfl<| .mem l4<| .cond rfl<| .mem l5<| .call e7 .nil);refine⟨rv,m7,fg agK (aX.cut w0 (aX.iH VY Wb Ks rfl (aX.last h2 NM))) (.inr rfl) H0,qH.trans k7 fun _ _ h=>h,fun hz=>?_⟩;exact(bj kU 1).mono (pF hz) fun b gN=>⟨by have :=gN.1;have :=qH.next;omega,gN.2⟩
end
end Go.AM
namespace Go.AM
set_option maxRecDepth 1000000
open Go Go.Conc Go.Proofs
section
variable {K:iK}{c:Nat}{M1 M2:af}{B:Nat->Prop}{m:Mem}
theorem amQ {cj:List Src}{sv:af}{f:Int}(II:qN cj)(hB:¬B c){dj:List It}{iv:af}(g:Gd m)(hc:gW m c M1 M2 f)(hi:iF.R B dj m iv)(hs:jS.R B cj m sv)(wW:∀b,B b->b<m.next)(hl:dj.length<90000):
  ∃xv cv m',Ev K 195 [vP c 0,iv,sv] m (.tuple #[xv,cv]) m'/\Kp m m' (fun y=>y=c)/\gW m' c M1 M2 (lD cj dj [] [] f).2.2/\(bj mL 1).R (fY m m') (lD cj dj [] [] f).1 m' xv/\cU.R (fY m m') (lD cj dj [] [] f).2.1 m' cv:=by
 obtain⟨a,cc,hA⟩:=bj.form hi;have hiv:(bj (jj It.val) 2).R B dj m iv:=hi;obtain⟨R,hR⟩:∃R,R=lD cj dj [] [] f:=⟨_,rfl⟩;rw[<-hR];have Sv:bF (bN 195) (ax 195) 0 4 [0,1,2] [vP c 0,iv,sv] [] .normal [0,2,8,9,14,15,16] [vP c 0,sv,.slice none 0 0,.slice none 0 0,iv,vI (dj.length:Int),vI 0]:=by rw[hA];exact adJ c dj.length cc a sv
 obtain⟨t0,w0,e0⟩:=bQ (K:=K) (m:=m) (m':=m) (tm:=entry [vP c 0,iv,sv]) Sv rfl .nil;have Bv:=hc.obj.lt;obtain⟨e,t1,m2,he,hx,rfl,xv,cv,hg,kk,sf,q1,q2⟩:=gk (K:=K) (nt:=bN 195) (a:=bh (ax 195) [4]) dj.length
  (Inv:=fun j tm m'=>∃xv cv xs cs f' B1 B2,cH [0,2,8,9,14,15,16] tm=[vP c 0,sv,xv,cv,iv,vI (dj.length:Int),vI (j:Int)]/\Kp m m' (fun y=>y=c)/\gW m' c M1 M2 f'/\xs.length<=j/\cs.length<=j/\
   (∀y,B1 y->¬B2 y)/\(∀y,B1 y->fY m m' y)/\(∀y,B2 y->fY m m' y)/\ui mL 1 B1 m' xs xv/\ui (jj pM.val) 2 B2 m' cs cv/\lD cj (dj.drop j) xs cs f'=R)
  (dA:=fun e tm m'=>e= .exit 0/\∃xv cv,cH [8,9] tm=[xv,cv]/\Kp m m' (fun y=>y=c)/\gW m' c M1 M2 R.2.2/\(bj mL 1).R (fY m m') R.1 m' xv/\cU.R (fY m m') R.2.1 m' cv)
  (by
   rintro j tm m2 hj ⟨xv,cv,xs,cs,f',B1,B2,hg,kk,sf,OE,amc,hd,j8,iW,VP,Uc,hf⟩;refine .inl ?_;have g2:=g.ext kk;have nB:∀y,B y->¬y=c:=fun y hy e=>hB (e▸hy)
   obtain⟨p,TC,u,ucs,hpv,hBp,ob,hu,hle,hE,jA⟩:=bj.get ((bj (jj It.val) 2).ext hiv kk nB) hj;obtain⟨x,hy⟩:∃y,dj[j]=y:=⟨_,rfl⟩;rw[hy]at hE;have hE:u=x.val:=hE;subst hE;have Ul:dj.drop j=x::dj.drop (j+1):=by rw[List.drop_eq_getElem_cons hj,hy]
   rw[hpv]at hg;have e2:eJ 2 p (0+j*2) m2=some (x.val,m2):=by rw[Nat.zero_add];exact bY (vs:=[x.e.val,.string x.n]) ob hu hle
   obtain⟨m3,m4,e3,e4,o4,k4,n4⟩:=eH g2 [.nilIface,.string .empty] [x.e.val,.string x.n] rfl (by cases x with |mk e n=>cases e<;>rfl);have g4:=g2.ext k4;have e5:aI m2.next 0 m4=some (x.e.val,m4):=aJ o4 rfl;have n2:=kk.next;have n4':=k4.next;have OO:=sf.aM k4;obtain⟨y,m5,e6,k5,hc5,q5⟩:=O' (K:=K) II hB x.e g4 OO (jS.ext (jS.ext hs kk nB) k4 fun _ _ h=>h) (fun b hb=>by have :=wW b hb;omega);have g5:=g4.ext k5;have n5:=k5.next;have amb:=OO.obj.lt;have pD:Kp m m5 (fun y=>y=c):=(kk.aN k4).trans k5 fun _ _ h=>h
   have Ym:Kp m2 m5 (fun y=>y=c):=k4.mo.trans k5 fun _ _ h=>h
   have alg:=VP.ext Ym fun b hb e=>by have :=(j8 b hb).1;omega
   obtain⟨m6,m7,T7,e7,g6,k6,e8,k7,ag1,_,n7⟩:=alg.add (t:=159) (v:=y) g5 g pD rfl dB (fun b hb=>⟨(j8 b hb).1,by have :=(j8 b hb).2;omega⟩) q5 (fun b hb h=>by have :=(j8 b hb).2;have :=h.1;omega) (fun b hb=>hb.2) (XR.ok q5) av;have g7:=g5.ext k7;have e9:eJ 2 m2.next 0 m7=some (x.val,m7):=bY (vs:=[x.e.val,.string x.n]) ((o4.ext k5 av).ext k7 (fun h=>by have :=(j8 _ h).2;omega)) rfl (ag rfl);obtain⟨m8,pY,k8⟩:=amL (K:=K) g7 x;have g8:=g7.ext k8;have n8:=k8.next;have yb:Kp m m7 (fun y=>y=c):=pD.new k7 (ai _) fun b hb=>(j8 b hb).1
   have zg:=yb.aN k8;have ald:=((Uc.ext Ym fun b hb e=>by have :=(iW b hb).1;omega).ext k7 fun b hb h=>hd b h hb).aM k8;obtain⟨kd,SG⟩:∃kd,kd=(if(cZ cj x.e f').2.1=0 then 1 else(cZ cj x.e f').2.1):=⟨_,rfl⟩;have qc:(jj pM.val).R eU ⟨nameOf x,kd⟩ m8 (pM.val ⟨nameOf x,kd⟩):=rfl;obtain⟨m9,fM,Uu,xg,g9,k9,zv,kh,ag0,_,n10⟩:=ald.add (t:=89) (v:=pM.val ⟨nameOf x,kd⟩) g8 g zg rfl dB (fun b hb=>⟨(iW b hb).1,by have :=(iW b hb).2;omega⟩) qc (fun b _ h=>h) (fun b h=>h.elim) (pM.ok qc) av;have wN:Kp m fM (fun y=>y=c):=zg.new kh (ai _) fun b hb=>(iW b hb).1
   have ame:gW fM c M1 M2 (cZ cj x.e f').2.2:=((hc5.ext k7 fun h=>by have :=(j8 _ h).1;omega).aM k8).ext kh fun h=>by have :=(iW _ h).1;omega
   have ale:=(ag1.aM k8).ext kh (by
    rintro b (h|h|h) h'
    ·exact hd b h h'
    ·have :=(iW _ h').2;have :=h.1;omega
    ·have :=(iW _ h').2;omega)
   have pJ:lD cj (dj.drop (j+1)) (xs++[(cZ cj x.e f').1]) (cs++[⟨nameOf x,kd⟩]) (cZ cj x.e f').2.2=R:=by rw[<-hf,Ul,SG];rfl
   have fin:∀t2,cH [0,2,8,9,14,15,16] t2=[vP c 0,sv,T7,Uu,vL p 0 dj.length TC,vI (dj.length:Int),vI (bB (j:Int) 1)]->_:=fun t2 dm=>
    (⟨T7,Uu,xs++[(cZ cj x.e f').1],cs++[⟨nameOf x,kd⟩],(cZ cj x.e f').2.2,_,_,by rw[dm,add1 av,hpv],wN,ame,by simp;omega,by simp;omega,by
      rintro b (h|h|h) h'
      ·rcases h' with h'|h'|h'
       ·exact hd b h h'
       ·exact h'
       ·have :=(j8 _ h).2;omega
      ·rcases h' with h'|h'|h'
       ·have :=(iW _ h').2;have :=h.1;omega
       ·exact h'
       ·have :=h.2;omega
      ·rcases h' with h'|h'|h'
       ·have :=(iW _ h').2;omega
       ·exact h'
       ·omega,by
      rintro b (h|h|h)
      ·exact⟨(j8 b h).1,by have :=(j8 b h).2;omega⟩
      ·exact⟨by have :=h.1;omega,by have :=h.2;omega⟩
      ·exact⟨av,av⟩,by
      rintro b (h|h|h)
      ·exact⟨(iW b h).1,by have :=(iW b h).2;omega⟩
      ·exact h.elim
      ·exact⟨av,av⟩,ale,ag0,pJ⟩:∃xv cv xs cs f' B1 B2,cH [0,2,8,9,14,15,16] t2=[vP c 0,sv,xv,cv,iv,vI (dj.length:Int),vI ((j+1:Nat):Int)]/\Kp m fM (fun y=>y=c)/\gW fM c M1 M2 f'/\xs.length<=j+1/\cs.length<=j+1/\
   (∀y,B1 y->¬B2 y)/\(∀y,B1 y->fY m fM y)/\(∀y,B2 y->fY m fM y)/\ui mL 1 B1 fM xs xv/\ui (jj pM.val) 2 B2 fM cs cv/\lD cj (dj.drop (j+1)) xs cs f'=R)
   by_cases h0:(cZ cj x.e f').2.1=0
   ·have b1:(.bool (aZ (cZ cj x.e f').2.1 0):af)= .bool true:=by rw[cu,dZ h0]
    rw[bL h0]at SG;subst SG;obtain⟨t2,dk,dm⟩:=aU (K:=K) (m:=m2) (m':=fM) ER (adF c p dj.length TC j sv xv cv y T7 Uu (cZ cj x.e f').2.1 x (nameOf x) m2.next m5.next m8.next) hg (.cond (Pm hj)<| .idx rfl hj<| .mem e2<| .mem e3<| .mem e4<| .mem e5<| .call e6<| .cond b1<| .mem e7<| .mem e8<| .mem e9<| .call pY<| .mem xg<| .mem zv .nil);exact⟨t2,fM,dk,fin t2 dm⟩
   ·have b1:(.bool (aZ (cZ cj x.e f').2.1 0):af)= .bool false:=by rw[cu,eO h0]
    rw[bT h0]at SG;subst SG;obtain⟨t2,dk,dm⟩:=aU (K:=K) (m:=m2) (m':=fM) ER (adH c p dj.length TC j sv xv cv y T7 Uu (cZ cj x.e f').2.1 x (nameOf x) m2.next m5.next m8.next) hg (.cond (Pm hj)<| .idx rfl hj<| .mem e2<| .mem e3<| .mem e4<| .mem e5<| .call e6<| .cond b1<| .mem e7<| .mem e8<| .mem e9<| .call pY<| .mem xg<| .mem zv .nil);exact⟨t2,fM,dk,fin t2 dm⟩)
  (by
   rintro tm m2 ⟨xv,cv,xs,cs,f',B1,B2,hg,kk,sf,OE,amc,hd,j8,iW,VP,Uc,hf⟩;rw[hA]at hg;obtain⟨t2,dk,dm⟩:=aU (K:=K) (m:=m2) (m':=m2) ER (adG c dj.length cc dj.length a sv xv cv) hg (.cond (ID _) .nil);rw[List.drop_length]at hf;have hf:(xs,cs,f')=R:=hf;subst hf;exact⟨_,t2,m2,(fun h=>by cases h),dk,rfl,xv,cv,dm,kk,sf,(bj mL 1).mono VP.fin j8,cU.mono Uc.fin iW⟩)
  (tm:=t0) (m:=m) ⟨.slice none 0 0,.slice none 0 0,[],[],f,eU,eU,e0,Kp.refl _ _,hc,cK,cK,fun _ h=>h.elim,fun _ h=>h.elim,fun _ h=>h.elim,ui.nil,ui.nil,by rw[hR];rfl⟩ hl
 obtain⟨t2,h2,e2⟩:=bQ (K:=K) (m:=m2) (m':=m2) (adI xv cv) hg .nil;exact⟨xv,cv,m2,fg agE (aX.cut w0 (aX.iH VT V7 hx rfl (aX.last h2 NI))) (.inr rfl) e2,kk,sf,q1,q2⟩
end
end Go.AM
namespace Go.AM
set_option maxRecDepth 1000000
open Go Go.Conc Go.Proofs
theorem ajo (a b:ByteArray):(a==b)=decide (a=b):=by rw[Bool.eq_iff_iff,bytes_beq,jE]
end Go.AM
namespace Go.AM
set_option maxRecDepth 1000000
open Go Go.Conc Go.Proofs
theorem aX.done{K:iK}{nt:Nat}{c:Code}{i:Nat}{st:Ss}(h:(du c).length<=i):aX K nt c i st .normal st:=by
 unfold aX;rw[List.drop_of_length_le h];exact⟨0,fun _ _ _ _=>⟨v9,rfl,rfl⟩⟩
end Go.AM
namespace Go.AM
set_option maxRecDepth 1000000
open Go Go.Conc Go.Proofs
section
variable {K:iK}{m:Mem}
theorem akN (p n cc:Nat)(rv:af)(aH:Nat):Path 150 [(vL p 0 n cc)]
 [bm,
  .mem (ao ae 29 0 []) (vL aH 0 0 0),
  .mem (cV ae #[29,29] (vL aH 0 0 0) (vL p 0 n cc)) rv]
 rv:=cg
theorem akS (p cc:Nat):Path 116 [(vL p 0 1 cc),(.func (.func 117) #[] #[])]
 [.val (pu ae [(vI 1)] (convert 3 195 (vI 1))) (.int .u64 1),
  .call 153 [(.int .u64 1)] (vI 1),
  .call 152 [(vL p 0 1 cc),(vI 0),(vI 1),(vI 1),(.func (.func 117) #[] #[])] (.tuple #[])]
 (.tuple #[]):=cg
theorem akM:Path 153 [(.int .u64 1)]
 [bm,
  .call 214 [(.int .u64 1)] (vI 1)]
 (vI 1):=cg
theorem aef (p cc:Nat)(IE:Int):bF (bN 152) (ax 152) 0 2 [0,1,2,3,4] [(vL p 0 1 cc),(vI 0),(vI 1),(vI IE),(.func (.func 117) #[] #[])]
 []
 .normal [0,1,2,3,4] [(vL p 0 1 cc),(vI 0),(vI 1),(vI IE),(.func (.func 117) #[] #[])]:=eF
theorem aee (p cc:Nat)(IE:Int):bF (bN 152) (bh (ax 152) [2]) 0 99 [0,1,2,3,4] [(vL p 0 1 cc),(vI 0),(vI 1),(vI IE),(.func (.func 117) #[] #[])]
 [bV,
  .call 205 [(vL p 0 1 cc),(vI 0),(vI 1),(.func (.func 117) #[] #[])] (.tuple #[])]
 .ret [] []:=eF
theorem agJ:jR 152 5 []=true:=bp
theorem VX:dT (ax 152) 2=some (0,(bh (ax 152) [2])):=bp
theorem Ve:codeOk (bN 152) (bh (ax 152) [2])=true:=bp
theorem Wa:eI (bN 152) (ax 152) (bh (ax 152) [2]) 2 0=true:=bp
theorem adE (p cc:Nat):bF (bN 205) (ax 205) 0 1 [0,1,2,3] [(vL p 0 1 cc),(vI 0),(vI 1),(.func (.func 117) #[] #[])]
 []
 .normal [0,1,2,3,8] [(vL p 0 1 cc),(vI 0),(vI 1),(.func (.func 117) #[] #[]),(vI 1)]:=eF
theorem adD:bF (bN 205) (bh (ax 205) [1]) 0 99 [2,8] [(vI 1),(vI 1)]
 [bm]
 (.exit 0) [] []:=eF
theorem agD:jR 205 4 []=true:=bp
theorem VS:dT (ax 205) 1=some (0,(bh (ax 205) [1])):=bp
theorem Vd:codeOk (bN 205) (bh (ax 205) [1])=true:=bp
theorem V6:eI (bN 205) (ax 205) (bh (ax 205) [1]) 1 0=true:=bp
theorem aeS (d p n cc un uc:Nat)(ua:Option Addr)(a w b rv:af)(aH:Nat):bF (bN 115) (ax 115) 0 6 [0,1] [(.agg #[a,w,b,(.slice ua un uc)]),(vP d 0)]
 [cp [some a,some w,some b,some (.slice ua un uc)] aH,
  ie 3 aH (.agg #[a,w,b]),
  .call 149 [(.agg #[a,w,b]),(vP d 0)] (.tuple #[(vL p 0 n cc),(vI 0)]),
  bm,
  .call 150 [(vL p 0 n cc)] rv,
  .mem (aI aH 3) (.slice ua un uc)]
 .normal [1,8,26,27,28] [(vP d 0),rv,(.slice ua un uc),(vI (un:Int)),(vI 0)]:=eF
theorem aeR (d un uc:Nat)(ua:Option Addr)(a w b rv:af)(e:Int)(aH:Nat):bF (bN 115) (ax 115) 0 99 [0,1] [(.agg #[a,w,b,(.slice ua un uc)]),(vP d 0)]
 [cp [some a,some w,some b,some (.slice ua un uc)] aH,
  ie 3 aH (.agg #[a,w,b]),
  .call 149 [(.agg #[a,w,b]),(vP d 0)] (.tuple #[rv,(vI e)]),
  aD (hY e 0) true]
 .ret [4,5] [(.slice none 0 0),(vI e)]:=eF
theorem aeQ (d un uc i:Nat)(ua:Option Addr)(rv:af):bF (bN 115) (bh (ax 115) [6]) 0 99 [1,8,26,27,28] [(vP d 0),rv,(.slice ua un uc),(vI (un:Int)),(vI (i:Int))]
 [aD (br (i:Int) (un:Int)) false]
 (.exit 0) [8] [rv]:=eF
theorem aeP (rv:af):bF (bN 115) (ax 115) 7 99 [8] [rv]
 []
 .ret [4,5] [rv,(vI 0)]:=eF
theorem Yb:jR 115 2 [4,5]=true:=bp
theorem Di:(du (ax 115)).length<=99:=ag bp
theorem V2:dT (ax 115) 6=some (0,(bh (ax 115) [6])):=bp
theorem Vj:codeOk (bN 115) (bh (ax 115) [6])=true:=bp
theorem Wi:eI (bN 115) (ax 115) (bh (ax 115) [6]) 6 0=true:=bp
theorem JS:(du (ax 205)).length<=2:=ag bp
theorem acr {m:Mem}:ao ae 29 0 [] m=some (vL m.next 0 0 0,m.alloc {kind:=1,sz:=1,cs:=[]}):=bp
theorem am0 (g:Gd m){α:Type}{E:j6 α}{B:Nat->Prop}{l:List α}{p cc:Nat}(q:(bj E 1).R B l m (vL p 0 l.length cc))(h0:l≠[])(hl:l.length<=2^30):
  ∃b m',Ev K 150 [vL p 0 l.length cc] m (vL b 0 l.length eP) m'/\Kp m m' eU/\fY m m' b/\(bj E 1).R (fun b=>B b\/fY m m' b) l m' (vL b 0 l.length eP):=by
 obtain⟨o1,k1,n1⟩:=dC g (k:={kind:=1,sz:=1,cs:=[]}) (cs:=[]) (sz:=1) rfl rfl rfl;have e1:=acr (m:=m);generalize m.alloc {kind:=1,sz:=1,cs:=[]}=m1 at o1 k1 n1 e1;obtain⟨cs,h1,h2,h3⟩:=(bj E 1).ext q k1 fun _ _ h=>h
 have hp:l.length≠0:=fun h=>h0 (List.length_eq_zero_iff.1 h)
 obtain⟨m2,e2,o2,k2,n2⟩:=xx (len:=0) (g.ext k1) (t:=29) rfl o1 rfl hp h1 h3.one.2 av;rw[Nat.zero_add]at e2;have lM:=k1.aN k2;refine⟨m1.next,m2,ak (akN p l.length cc _ m.next) (.cond rfl<| .mem e1<| .mem e2 .nil),lM,⟨av,av⟩,([]++cs),o2.sl (by simpa using h3.one.1) (.inl rfl),fun b o n c e=>by cases e;exact .inr ⟨av,av⟩,?_⟩;exact h3.mono fun x u _ w=>⟨E.mono (E.ext w.1 k2 fun _ _ h=>h) fun _ h=> .inl h,w.2⟩
theorem ace:Ev K 214 [.int .u64 1] m (vI 1) m:=by
 refine⟨1,fun M n _ hn=>?_⟩;obtain⟨n,rfl⟩:∃k,n=k+1:=⟨n-1,av⟩;rw[K.step M n 214 _ m rfl];generalize K.C M n=cl
 kernel_rfl
theorem acf {p cc:Nat}:Ev K 205 [vL p 0 1 cc,vI 0,vI 1,.func (.func 117) #[] #[]] m (.tuple #[]) m:=by
 obtain⟨t0,w0,e0⟩:=bQ (K:=K) (m:=m) (m':=m) (tm:=entry [vL p 0 1 cc,vI 0,vI 1,.func (.func 117) #[] #[]]) (adE p cc) rfl .nil;obtain⟨e,t1,m5,he,hx,rfl,rfl⟩:=gk (K:=K) (nt:=bN 205) (a:=bh (ax 205) [1]) 0
  (Inv:=fun j tm m'=>m'=m/\cH [0,1,2,3,8] tm=[vL p 0 1 cc,vI 0,vI 1,.func (.func 117) #[] #[],vI 1])
  (dA:=fun e tm m'=>e= .exit 0/\m'=m)
  (fun j tm m' hj=>absurd hj av)
  (by
   rintro tm m' ⟨rfl,hg⟩;have KD:cH [2,8] tm=[vI 1,vI 1]:=by
    simp only[cH,List.map_cons,List.map_nil,List.cons.injEq,and_true]at hg⊢;exact⟨hg.2.2.1,hg.2.2.2.2⟩
   obtain⟨t2,dk,dm⟩:=aU (K:=K) (m:=m') (m':=m') Vd adD KD (.cond rfl .nil);exact⟨_,t2,m',(fun h=>by cases h),dk,rfl,rfl⟩)
  (tm:=t0) (m:=m) ⟨rfl,e0⟩ av
 exact fg (vs:=[]) agD (aX.cut w0 (aX.iH VS V6 hx rfl (aX.done JS))) (.inl rfl) rfl
theorem acg {p cc:Nat}{IE:Int}:Ev K 152 [vL p 0 1 cc,vI 0,vI 1,vI IE,.func (.func 117) #[] #[]] m (.tuple #[]) m:=by
 obtain⟨t0,w0,e0⟩:=bQ (K:=K) (m:=m) (m':=m) (tm:=entry [vL p 0 1 cc,vI 0,vI 1,vI IE,.func (.func 117) #[] #[]]) (aef p cc IE) rfl .nil;obtain⟨e,t1,m5,he,hx,rfl,rfl⟩:=gk (K:=K) (nt:=bN 152) (a:=bh (ax 152) [2]) 0
  (Inv:=fun j tm m'=>m'=m/\cH [0,1,2,3,4] tm=[vL p 0 1 cc,vI 0,vI 1,vI IE,.func (.func 117) #[] #[]])
  (dA:=fun e tm m'=>e= .ret/\m'=m)
  (fun j tm m' hj=>absurd hj av)
  (by
   rintro tm m' ⟨rfl,hg⟩;obtain⟨t2,dk,dm⟩:=aU (K:=K) (m:=m') (m':=m') Ve (aee p cc IE) hg (.cond rfl<| .call acf .nil);exact⟨_,t2,m',(fun h=>by cases h),dk,rfl,rfl⟩)
  (tm:=t0) (m:=m) ⟨rfl,e0⟩ av
 exact fg (vs:=[]) agJ (aX.cut w0 (aX.sY VX Wa hx bp)) (.inr rfl) rfl
theorem ail:pu ae [vI 1] (convert 3 195 (vI 1))=some (.int .u64 1):=bp
theorem acm {p cc:Nat}:Ev K 116 [vL p 0 1 cc,.func (.func 117) #[] #[]] m (.tuple #[]) m:=
 ak (akS p cc) (.val ail<| .call (ak akM (.cond rfl<| .call ace .nil))<| .call acg .nil)
theorem acn (hK:Ld K){R0:Mem->Prop}{B:Nat->Prop}{dj:List X}{iv:af}{sa ua:Option Addr}{sc uc d:Nat}{cv:Nat->Nat->Int->Int->V}(cm:Calm m)(o:Obj m d 0 Tr)(hb:m.base<=d)
  (hx:(bj mL 1).R B dj m iv)(hBd:∀b,B b->b≠d)(hl:dj.length<9000)(keep:∀m m',R0 m->Kp m m' eU->R0 m')(S2:∀mw,R0 mw)(WL:∀pr,Scope KW R0 (cv 0) (vP pr 0))(jA:∀x∈dj,T9 (cv 0) x):
  (∃p m',Ev K 115 [.agg #[.slice sa 0 sc,.nilIface,iv,.slice ua 0 uc],vP d 0] m (.tuple #[vL p 0 1 eP,vI 0]) m'/\Kp m m' (fun y=>y=d)/\(bj kU 1).R (fY m m') [(jI (cv 0) dj []).1] m' (vL p 0 1 eP)/\(jI (cv 0) dj []).2=0)\/
  (∃m',Ev K 115 [.agg #[.slice sa 0 sc,.nilIface,iv,.slice ua 0 uc],vP d 0] m (.tuple #[.slice none 0 0,vI (jI (cv 0) dj []).2]) m'/\Kp m m' (fun y=>y=d)/\(jI (cv 0) dj []).2≠0):=by
 have hdl:=o.lt;obtain⟨b2,iW⟩:∃b,b=m.next:=⟨_,rfl⟩;obtain⟨m1,e1,o1,k1,n1,_⟩:=aQ cm.gd [.slice sa 0 sc,.nilIface,iv,.slice ua 0 uc];rw[<-iW]at e1 o1;have MP:=cm.ext k1;have l1:eJ 3 b2 0 m1=some (.agg #[.slice sa 0 sc,.nilIface,iv],m1):=bY (vs:=[.slice sa 0 sc,.nilIface,iv]) o1 rfl (ag rfl);obtain⟨rv,m2,e2,k2,pF⟩:=ach (K:=K) (sa:=sa) (sc:=sc) hK MP (o.aM k1) (by rw[k1.base];exact hb) ((bj mL 1).ext hx k1 fun _ _ h=>h) hBd hl keep S2 WL jA;have Py:=MP.ext k2;have lM:Kp m m2 (fun y=>y=d):=k1.mo.trans k2 fun _ _ h=>h
 have n2:=k2.next
 by_cases hz:(jI (cv 0) dj []).2=0
 ·left
  have F7:(qq cv dj 0).2=0:=hz;have q2:=pF F7;rw[show(qq cv dj 0).1=[(jI (cv 0) dj []).1]from bL hz]at q2;rw[F7]at e2;obtain⟨p,cc,_,_,rfl,_⟩:=bj.get q2 (j:=0) cK;obtain⟨b,m3,e3,k3,hbt,q3⟩:=am0 (K:=K) Py.gd q2 cK cK;have nd:¬b2=d:=av;have l2:aI b2 3 m3=some (.slice ua 0 uc,m3):=aJ ((o1.ext k2 nd).aM k3) rfl;obtain⟨t0,w0,e0⟩:=bQ (K:=K) (m:=m) (m':=m3) (tm:=entry [.agg #[.slice sa 0 sc,.nilIface,iv,.slice ua 0 uc],vP d 0]) (aeS d p 1 cc 0 uc ua (.slice sa 0 sc) .nilIface iv (vL b 0 1 eP) b2) rfl (.mem e1<| .mem l1<| .call e2<| .cond rfl<| .call e3<| .mem l2 .nil);obtain⟨e,t1,m5,he,Ks,rfl,rfl,hg⟩:=gk (K:=K) (nt:=bN 115) (a:=bh (ax 115) [6]) 0
   (Inv:=fun j tm m'=>m'=m3/\cH [1,8,26,27,28] tm=[vP d 0,vL b 0 1 eP,.slice ua 0 uc,vI ((0:Nat):Int),vI 0])
   (dA:=fun e tm m'=>e= .exit 0/\m'=m3/\cH [8] tm=[vL b 0 1 eP])
   (fun j tm m' hj=>absurd hj av)
   (by
    rintro tm m' ⟨rfl,hg⟩;obtain⟨t2,dk,dm⟩:=aU (K:=K) (m:=m') (m':=m') Vj (aeQ d 0 uc 0 ua (vL b 0 1 eP)) hg (.cond (ID 0) .nil);exact⟨_,t2,m',(fun h=>by cases h),dk,rfl,rfl,dm⟩)
   (tm:=t0) (m:=m3) ⟨rfl,e0⟩ av
  obtain⟨t2,h2,H0⟩:=bQ (K:=K) (m:=m5) (m':=m5) (aeP (vL b 0 1 eP)) hg .nil;refine⟨b,m5,fg Yb (aX.cut w0 (aX.iH V2 Wi Ks rfl (aX.last h2 Di))) (.inr rfl) H0,lM.aN k3,?_,hz⟩;have n3:=k3.next;exact(bj kU 1).mono q3 fun y hy=>hy.elim (fun h=>⟨by have :=h.1;omega,by have :=h.2;omega⟩) fun h=>⟨by have :=h.1;omega,h.2⟩
 ·right
  have e2:Ev K 149 [.agg #[.slice sa 0 sc,.nilIface,iv],vP d 0] m1 (.tuple #[rv,vI (jI (cv 0) dj []).2]) m2:=e2;obtain⟨t0,w0,e0⟩:=bQ (K:=K) (m:=m) (m':=m2) (tm:=entry [.agg #[.slice sa 0 sc,.nilIface,iv,.slice ua 0 uc],vP d 0]) (aeR d 0 uc ua (.slice sa 0 sc) .nilIface iv rv (jI (cv 0) dj []).2 b2) rfl (.mem e1<| .mem l1<| .call e2<| .cond (Yf hz) .nil);exact⟨m2,fg Yb (aX.last w0 Di) (.inr rfl) e0,lM,hz⟩
end
end Go.AM
namespace Go.AM
set_option maxRecDepth 1000000
open Go Go.Conc Go.Proofs
noncomputable def Yq(nt:Nat)(rs:List ResultVar)(a t b:Nat):Bool:=match rs with
 | [.cell x y,.tmp z]=>Nat.beq x a&&Nat.beq y t&&Nat.beq z b&&Nat.blt a nt&&Nat.blt b nt
 |_=>false
noncomputable def yp(f n a t b:Nat):Bool:=mQ f&&codeOk (bN f) (ax f)&&Yq (bN f) (XT f) a t b&&Nat.ble n (bN f)&&Nat.ble n 16
theorem wX {K:iK}{f a t b q:Nat}{args:List af}{m m':Mem}{eG:Tm}{e:Exit}{v u:af}(jA:yp f args.length a t b=true)(h:aX K (bN f) (ax f) 0 ⟨entry args,m,[]⟩ e ⟨eG,m',[]⟩)(he:e= .normal\/e= .ret)(hg:cH [a,b] eG=[vP q 0,u])
  (hL:fV ae t (vP q 0) m'=some (v,m'))(hs:ig f=false:=by rfl):Ev K f args m (.tuple #[v,u]) m':=by
 unfold yp at jA;simp only[aj]at jA;obtain⟨⟨⟨⟨h1,h2⟩,h3⟩,h4⟩,h5⟩:=jA;obtain⟨tt,ht⟩:=tI (l:=args) (ag h5);have Fu:entry args=tt:=by unfold entry;rw[ht]
 rw[Fu]at h;refine Ah h1 (tm:=tt) (by rw[bL h4,ht]) (h.code h2) he ?_ hs;unfold Yq at h3
 split at h3
 ·rename_i x y z hrs;simp only[aj]at h3;have e1:=aT h3.1.1.1.1;have e2:=aT h3.1.1.1.2;have e3:=aT h3.1.1.2;subst e1 e2 e3;simp only[cH,List.map_cons,List.map_nil,List.cons.injEq,and_true]at hg;unfold j1;rw[hrs];unfold ss ss ss;rw[bL h3.1.2,bL h3.2,hg.1,hg.2];unfold fV at hL
  split at hL
  ·rename_i v' hv;cases hL;simp only[hv]
  ·cases hL
 ·cases h3
structure CS where
 p:Nat
 on:Option X
def Tp:j6 CS where
 R B x m v:=∃o,v= .agg #[vP x.p 0,o]/\nK.R B x.on m o
 mono:=by
  rintro B B' x m v ⟨o,e,h⟩ k;exact⟨o,e,nK.mono h k⟩
 ext:=by
  rintro B S x m m' v ⟨o,e,h⟩ k hs;exact⟨o,e,nK.ext h k hs⟩
structure XC where
 cj:List CS
 wh:Option X
 dj:List X
def kj:j6 XC where
 R B x m v:=∃a w b,v= .agg #[a,w,b]/\(bj Tp 2).R B x.cj m a/\nK.R B x.wh m w/\(bj mL 1).R B x.dj m b
 mono:=by
  rintro B B' x m v ⟨a,w,b,e,h1,h2,h3⟩ k;exact⟨a,w,b,e,(bj Tp 2).mono h1 k,nK.mono h2 k,(bj mL 1).mono h3 k⟩
 ext:=by
  rintro B S x m m' v ⟨a,w,b,e,h1,h2,h3⟩ k hs;exact⟨a,w,b,e,(bj Tp 2).ext h1 k hs,nK.ext h2 k hs,(bj mL 1).ext h3 k hs⟩
theorem nK.one{B:Nat->Prop}{x:Option X}{m:Mem}{v:af}(h:nK.R B x m v):v.oneCell'=true:=by
 cases x with
 |none=>have h:v= .nilIface:=h;rw[h];rfl
 |some x=>obtain⟨t,b,rfl⟩:=XR.form (show XR B x m v from h);rfl
theorem FT:mT ae 161=some true/\dq ae 161=some 3:=⟨bp,bp⟩
def nY (wh:E)(dj:List It)(f:Int):Option X×(List X×List pM×Int):=
 ((BT [] wh (nE f (decide ((dj.length:Int)<=16)) 6)).1,lD [] dj [] [] (BT [] wh (nE f (decide ((dj.length:Int)<=16)) 6)).2)
section
variable {K:iK}{c:Nat}{M1 M2:af}{B:Nat->Prop}{m:Mem}{f:Int}
theorem aeo (c il ic sn sc:Nat)(ia sa:Option Addr)(w:af)(aH a0 cf:Nat):bF (bN 146) (ax 146) 0 6 [0,1] [(vP c 0),(.agg #[(.slice ia il ic),(.slice sa sn sc),w])]
 [cp [some (.slice ia il ic),some (.slice sa sn sc),some w] aH,
  cp [some (.slice none 0 0),some .nilIface,some (.slice none 0 0)] a0,
  .mem (aI aH 1) (.slice sa sn sc),
  .call 105 [(vP c 0),(.bool (fW (sn:Int) 6)),(vI 6)] (.tuple #[]),
  .mem (aI aH 0) (.slice ia il ic),
  .call 105 [(vP c 0),(.bool (fW (il:Int) 16)),(vI 6)] (.tuple #[]),
  cp [some (.slice none 0 0),some .nilIface,some (.slice none 0 0)] cf,
  .mem (aI aH 1) (.slice sa sn sc)]
 .normal [0,3,4,6,7,27,28,29] [(vP c 0),(vP aH 0),(vP a0 0),(vP cf 0),(.slice none 0 0),(.slice sa sn sc),(vI (sn:Int)),(vI 0)]:=eF
theorem aen (c b3 b4 b6 sn sc i:Nat)(sa:Option Addr)(sv:af):bF (bN 146) (bh (ax 146) [6]) 0 99 [0,3,4,6,7,27,28,29] [(vP c 0),(vP b3 0),(vP b4 0),(vP b6 0),sv,(.slice sa sn sc),(vI (sn:Int)),(vI (i:Int))]
 [aD (br (i:Int) (sn:Int)) false]
 (.exit 0) [0,3,4,6,7] [(vP c 0),(vP b3 0),(vP b4 0),(vP b6 0),sv]:=eF
theorem aem (c b3 b4 b6 il ic:Nat)(ia:Option Addr)(sv w wv xv cv va vb vc:af):bF (bN 146) (ax 146) 7 99 [0,3,4,6,7] [(vP c 0),(vP b3 0),(vP b4 0),(vP b6 0),sv]
 [.mem (aI b3 2) w,
  .call 193 [(vP c 0),w,sv] wv,
  .mem (jo b6 1 wv) undef,
  .mem (aI b3 0) (.slice ia il ic),
  aD (aZ (il:Int) 0) false,
  .mem (aI b3 0) (.slice ia il ic),
  .call 195 [(vP c 0),(.slice ia il ic),sv] (.tuple #[xv,cv]),
  .mem (jo b6 2 xv) undef,
  ie 3 b6 (.agg #[va,vb,vc]),
  dV b4 0 [va,vb,vc]]
 .ret [4,5] [(vP b4 0),cv]:=eF
theorem agM:yp 146 2 4 161 5=true:=bp
theorem NO:(du (ax 146)).length<=99:=ag bp
theorem V0:dT (ax 146) 6=some (0,(bh (ax 146) [6])):=bp
theorem Vh:codeOk (bN 146) (bh (ax 146) [6])=true:=bp
theorem Wd:eI (bN 146) (ax 146) (bh (ax 146) [6]) 6 0=true:=bp
theorem nK.gy{B:Nat->Prop}{x:Option X}{m:Mem}{v:af}(h:nK.R B x m v):Go.AM.gy v=true:=by
 cases x with
 |none=>have h:v= .nilIface:=h;rw[h];rfl
 |some x=>obtain⟨t,b,rfl⟩:=XR.form (show XR B x m v from h);rfl
theorem acj (hB:¬B c){dj:List It}{iv:af}{sa:Option Addr}{sc:Nat}(wh:E)(g:Gd m)(hc:gW m c M1 M2 f)(hi:iF.R B dj m iv)(wW:∀b,B b->b<m.next)(hl:dj.length<90000)(h0:dj≠[]):
  ∃v cv m',Ev K 146 [vP c 0,.agg #[iv,.slice sa 0 sc,wh.val]] m (.tuple #[v,cv]) m'/\Kp m m' (fun y=>y=c)/\gW m' c M1 M2 (nY wh dj f).2.2.2/\kj.R (fY m m') ⟨[],(nY wh dj f).1,(nY wh dj f).2.1⟩ m' v/\cU.R (fY m m') (nY wh dj f).2.2.1 m' cv:=by
 obtain⟨ia,ic,hA⟩:=bj.form hi;have Bv:=hc.obj.lt;obtain⟨b3,SV⟩:∃b,b=m.next:=⟨_,rfl⟩;obtain⟨m1,e1,o1,k1,n1,_⟩:=aQ g [iv,.slice sa 0 sc,wh.val];have g1:=g.ext k1;obtain⟨b4,hb4⟩:∃b,b=m1.next:=⟨_,rfl⟩;obtain⟨m2,e2,o2,k2,n2,_⟩:=aQ g1 [.slice none 0 0,.nilIface,.slice none 0 0];have g2:=g1.ext k2;have sf:=(hc.aM k1).aM k2;rw[<-SV]at e1 o1;rw[<-hb4]at e2 o2;have e3:aI b3 1 m2=some (.slice sa 0 sc,m2):=aJ (o1.aM k2) rfl;have e4:=aiR (K:=K) (m:=m2) c 6;have e5:aI b3 0 m2=some (iv,m2):=aJ (o1.aM k2) rfl;obtain⟨m3,e6,k3,IM⟩:=Pa (K:=K) g2 sf (decide ((dj.length:Int)<=16)) 6;have g3:=g2.ext k3;rw[<-RR]at e6;obtain⟨b6,hb6⟩:∃b,b=m3.next:=⟨_,rfl⟩;obtain⟨m4,e7,o4,k4,n4,_⟩:=aQ g3 [.slice none 0 0,.nilIface,.slice none 0 0];rw[<-hb6]at e7 o4;have n3:=k3.next;have g4:=g3.ext k4;have OO:=IM.aM k4;have c3:¬b3=c:=av;have c4:¬b4=c:=av;have c6:¬b6=c:=av;have zI:=((o1.aM k2).ext k3 c3).aM k4;have IA:=(o2.ext k3 c4).aM k4;have e8:aI b3 1 m4=some (.slice sa 0 sc,m4):=aJ zI rfl;have jV:Kp m m4 (fun y=>y=c):=((k1.aN k2).mo.trans k3 fun _ _ h=>h).aN k4;obtain⟨F1,KJ⟩:∃F1,F1=nE f (decide ((dj.length:Int)<=16)) 6:=⟨_,rfl⟩;have yi:nY wh dj f=((BT [] wh F1).1,lD [] dj [] [] (BT [] wh F1).2):=by rw[KJ];rfl
 rw[yi];rw[<-KJ]at IM OO;rw[hA]at e1 e5;obtain⟨t0,w0,e0⟩:=bQ (K:=K) (m:=m) (m':=m4) (tm:=entry [vP c 0,.agg #[iv,.slice sa 0 sc,wh.val]]) (aeo c dj.length ic 0 sc ia sa wh.val b3 b4 b6) (by rw[hA];rfl) (.mem e1<| .mem e2<| .mem e3<| .call e4<| .mem e5<| .call e6<| .mem e7<| .mem e8 .nil);obtain⟨e,t1,m5,he,hx,rfl,rfl,hg⟩:=gk (K:=K) (nt:=bN 146) (a:=bh (ax 146) [6]) 0
  (Inv:=fun j tm m'=>m'=m4/\cH [0,3,4,6,7,27,28,29] tm=[vP c 0,vP b3 0,vP b4 0,vP b6 0,.slice none 0 0,.slice sa 0 sc,vI ((0:Nat):Int),vI 0])
  (dA:=fun e tm m'=>e= .exit 0/\m'=m4/\cH [0,3,4,6,7] tm=[vP c 0,vP b3 0,vP b4 0,vP b6 0,.slice none 0 0])
  (fun j tm m' hj=>absurd hj av)
  (by
   rintro tm m' ⟨rfl,hg⟩;obtain⟨t2,dk,dm⟩:=aU (K:=K) (m:=m') (m':=m') Vh (aen c b3 b4 b6 0 sc 0 sa (.slice none 0 0)) hg (.cond (ID 0) .nil);exact⟨_,t2,m',(fun h=>by cases h),dk,rfl,rfl,dm⟩)
  (tm:=t0) (m:=m4) ⟨rfl,e0⟩ av
 have nB:∀y,B y->¬y=c:=fun y hy e=>hB (e▸hy)
 have abo:jS.R eU [] m5 (.slice none 0 0):=bj.nil;have II:qN []:=⟨dB,fun s hs=>by cases hs⟩;have e9:aI b3 2 m5=some (wh.val,m5):=aJ zI rfl;obtain⟨wv,m6,pY,k6,hc6,q6⟩:=amR (K:=K) II id wh g4 OO abo fun _ h=>h.elim
 have q6:nK.R (fY m5 m6) (BT [] wh F1).1 m6 wv:=q6;have w1:=nK.gy q6;have w2:=nK.one q6;have g6:=g4.ext k6;have qH:Kp m m6 (fun y=>y=c):=jV.trans k6 fun _ _ h=>h
 have n6:=k6.next;obtain⟨m7,xg,o7,k7⟩:=gu (o:=1) wv (o4.ext k6 c6) ((g.own qH av).may _ _) (ag rfl) w1;have g7:=g6.ext k7;have c63:¬b3=b6:=av;have c64:¬b4=b6:=av;have cc6:¬c=b6:=av;have Ua:=(zI.ext k6 c3).ext k7 c63;have hc7:=hc6.ext k7 cc6;have zv:aI b3 0 m7=some (iv,m7):=aJ Ua rfl;have hi7:=iF.ext (iF.ext hi qH nB) k7 fun y hy e=>by have :=wW y hy;omega
 have n7:=k7.next;obtain⟨xv,cv,m8,FC,k8,hc8,q8,q8'⟩:=amQ (K:=K) (cj:=[]) (B:=B) II hB g7 hc7 hi7 (bj.nil:jS.R B [] m7 (.slice none 0 0)) (fun b hb=>by have :=wW b hb;omega) hl;have n8:=k8.next;have k67:Kp m m7 (fun y=>y=c):=qH.new k7 (N:=m.next) (ai _) fun b hb=>by omega
 have zg:Kp m m8 (fun y=>y=c):=k67.trans k8 fun _ _ h=>h
 obtain⟨m9,Pw,o9,k9⟩:=gu (o:=2) xv (o7.ext k8 c6) ((g.own zg av).may _ _) (ag rfl) (bj.gy q8).1;have n9:=k9.next;have F6:Kp m m9 (fun y=>y=c):=zg.new k9 (N:=m.next) (ai _) fun b hb=>by omega
 have Pv:eJ 3 b6 0 m9=some (.agg #[.slice none 0 0,wv,xv],m9):=bY (vs:=[.slice none 0 0,wv,xv]) o9 rfl (ag rfl);obtain⟨fM,e16,IB,kh⟩:=dO (o:=0) [.slice none 0 0,wv,xv] ((((IA.ext k6 c4).ext k7 c64).ext k8 c4).ext k9 c64) ((g.own F6 av).may _ _) (ag rfl) (by simp[w2,(bj.gy q8).2];rfl);have n10:=kh.next;have wN:Kp m fM (fun y=>y=c):=F6.new kh (N:=m.next) (ai _) fun b hb=>by omega
 have hl0:(.bool (aZ (dj.length:Int) 0):af)= .bool false:=by
  rw[cu,eO];intro h;exact h0 (List.length_eq_zero_iff.1 av)
 rw[hA]at zv FC;obtain⟨t2,h2,H0⟩:=bQ (K:=K) (m:=m5) (m':=fM) (aem c b3 b4 b6 dj.length ic ia (.slice none 0 0) wh.val wv xv cv (.slice none 0 0) wv xv) hg (.mem e9<| .call pY<| .mem xg<| .mem zv<| .cond hl0<| .mem zv<| .call FC<| .mem Pw<| .mem Pv<| .mem e16 .nil);have eR:fV ae 161 (vP b4 0) fM=some (.agg #[.slice none 0 0,wv,xv],fM):=dK IB rfl FT.1 FT.2;have up6:∀{b},fY m5 m6 b->fY m fM b:=fun h=>⟨by have :=h.1;omega,by have :=h.2;omega⟩
 have up8:∀{b},fY m7 m8 b->fY m fM b:=fun h=>⟨by have :=h.1;omega,by have :=h.2;omega⟩
 have abg:Kp m6 fM (fun y=>y=b6\/y=c\/y=b4):=(((k7.mono fun _ _ h=> .inl h).trans k8 fun _ _ h=> .inr (.inl h)).trans k9 fun _ _ h=> .inl h).trans kh fun _ _ h=> .inr (.inr h)
 have ag7:Kp m8 fM (fun y=>y=b6\/y=b4):=(k9.mono fun _ _ h=> .inl h).trans kh fun _ _ h=> .inr h
 refine⟨_,cv,fM,wX agM (aX.cut w0 (aX.iH V0 Wd hx rfl (aX.last h2 NO))) (.inr rfl) H0 eR,wN,?_,⟨_,_,_,rfl,bj.nil,?_,?_⟩,?_⟩
 ·exact(hc8.ext k9 cc6).ext kh av
 ·exact nK.mono (nK.ext q6 abg fun b hb h=>by have h1:=hb.1;have h2:=hb.2;omega) fun b h=>up6 h
 ·exact(bj mL 1).mono ((bj mL 1).ext q8 ag7 fun b hb h=>by have h1:=hb.1;have h2:=hb.2;omega) fun b h=>up8 h
 ·exact cU.mono (cU.ext q8' ag7 fun b hb h=>by have h1:=hb.1;have h2:=hb.2;omega) fun b h=>up8 h
end
end Go.AM
namespace Go.AM
set_option maxRecDepth 1000000
open Go Go.Conc Go.Proofs
structure CU where
 all:Bool
 sel:XC
def To:j6 CU where
 R B x m v:=∃a w b,v= .agg #[.bool x.all,a,w,b]/\kj.R B x.sel m (.agg #[a,w,b])
 mono:=by
  rintro B B' x m v ⟨a,w,b,e,h⟩ k;exact⟨a,w,b,e,kj.mono h k⟩
 ext:=by
  rintro B S x m m' v ⟨a,w,b,e,h⟩ k hs;exact⟨a,w,b,e,kj.ext h k hs⟩
structure Nb where
 first :XC
 us:List CU
def jv:j6 Nb where
 R B x m v:=∃a w b u,v= .agg #[a,w,b,u]/\kj.R B x.first m (.agg #[a,w,b])/\(bj To 4).R B x.us m u
 mono:=by
  rintro B B' x m v ⟨a,w,b,u,e,h,h'⟩ k;exact⟨a,w,b,u,e,kj.mono h k,(bj To 4).mono h' k⟩
 ext:=by
  rintro B S x m m' v ⟨a,w,b,u,e,h,h'⟩ k hs;exact⟨a,w,b,u,e,kj.ext h k hs,(bj To 4).ext h' k hs⟩
theorem kj.three{B:Nat->Prop}{x:XC}{m:Mem}{v:af}(h:kj.R B x m v):∃a w b,v= .agg #[a,w,b]/\a.oneCell'=true/\w.oneCell'=true/\b.oneCell'=true:=by
 obtain⟨a,w,b,e,h1,h2,h3⟩:=h;exact⟨a,w,b,e,(bj.gy h1).2,nK.one h2,(bj.gy h3).2⟩
structure Zc where
 p:Nat
 self:Bool
 b:Nb
def BL:j6 Zc where
 R B x m v:=∃a w b u,v= .agg #[vP x.p 0,.bool x.self,a,w,b,u]/\jv.R B x.b m (.agg #[a,w,b,u])
 mono:=by
  rintro B B' x m v ⟨a,w,b,u,e,h⟩ k;exact⟨a,w,b,u,e,jv.mono h k⟩
 ext:=by
  rintro B S x m m' v ⟨a,w,b,u,e,h⟩ k hs;exact⟨a,w,b,u,e,jv.ext h k hs⟩
structure ac1 where
 parts:List Zc
 cF:List pM
 b:Nb
def OX:j6 ac1 where
 R B x m v:=∃p c a w b u,v= .agg #[p,c,a,w,b,u]/\(bj BL 6).R B x.parts m p/\cU.R B x.cF m c/\jv.R B x.b m (.agg #[a,w,b,u])
 mono:=by
  rintro B B' x m v ⟨p,c,a,w,b,u,e,h1,h2,h⟩ k;exact⟨p,c,a,w,b,u,e,(bj BL 6).mono h1 k,cU.mono h2 k,jv.mono h k⟩
 ext:=by
  rintro B S x m m' v ⟨p,c,a,w,b,u,e,h1,h2,h⟩ k hs;exact⟨p,c,a,w,b,u,e,(bj BL 6).ext h1 k hs,cU.ext h2 k hs,jv.ext h k hs⟩
theorem jv.four{B:Nat->Prop}{x:Nb}{m:Mem}{v:af}(h:jv.R B x m v):∃a w b u,v= .agg #[a,w,b,u]/\a.oneCell'=true/\w.oneCell'=true/\b.oneCell'=true/\u.oneCell'=true:=by
 obtain⟨a,w,b,u,e,h1,h2⟩:=h;obtain⟨_,_,_,e',x1,x2,x3⟩:=kj.three h1;cases e';exact⟨a,w,b,u,e,x1,x2,x3,(bj.gy h2).2⟩
theorem TU:mT ae 164=some true/\dq ae 164=some 4:=⟨bp,bp⟩
theorem TT:mT ae 166=some true/\dq ae 166=some 6:=⟨bp,bp⟩
section
variable {K:iK}{c:Nat}{M1 M2:af}{B:Nat->Prop}{m:Mem}{f:Int}
theorem ael (c un uc:Nat)(ua:Option Addr)(cv:af):bF (bN 147) (ax 147) 0 3 [0,1,2] [(vP c 0),(.slice ua un uc),cv]
 []
 .normal [0,2,7,12,13,14] [(vP c 0),cv,(.slice none 0 0),(.slice ua un uc),(vI (un:Int)),(vI 0)]:=eF
theorem aej (c un uc i:Nat)(ua:Option Addr)(cv acc:af):bF (bN 147) (bh (ax 147) [3]) 0 99 [0,2,7,12,13,14] [(vP c 0),cv,acc,(.slice ua un uc),(vI (un:Int)),(vI (i:Int))]
 [aD (br (i:Int) (un:Int)) false]
 (.exit 0) [7] [acc]:=eF
theorem aek (acc:af):bF (bN 147) (ax 147) 4 99 [7] [acc]
 []
 .ret [6] [acc]:=eF
theorem agL:jR 147 3 [6]=true:=bp
theorem NN:(du (ax 147)).length<=99:=ag bp
theorem VZ:dT (ax 147) 3=some (0,(bh (ax 147) [3])):=bp
theorem Vg:codeOk (bN 147) (bh (ax 147) [3])=true:=bp
theorem Wc:eI (bN 147) (ax 147) (bh (ax 147) [3]) 3 0=true:=bp
theorem ajZ (c vn vc:Nat)(va:Option Addr)(a b w u xa xw xb cv:af)(aH a0 cf so:Nat):bF (bN 113) (ax 113) 0 99 [0,1] [(vP c 0),(.agg #[a,b,w,u])]
 [cp [some a,some b,some w,some u] aH,
  cp [some (.slice none 0 0),some .nilIface,some (.slice none 0 0),some (.slice none 0 0)] a0,
  ie 3 aH (.agg #[a,b,w]),
  .call 146 [(vP c 0),(.agg #[a,b,w])] (.tuple #[(.agg #[xa,xw,xb]),cv]),
  cp [some (.slice none 0 0),some .nilIface,some (.slice none 0 0)] cf,
  dV cf 0 [xa,xw,xb],
  ie 3 cf (.agg #[xa,xw,xb]),
  .mem (fe (vP cf 0)) (vI (so:Int)),
  .mem (aI aH 3) u,
  .mem di undef,
  .call 147 [(vP c 0),u,cv] (.slice va vn vc),
  .mem (bS (vI (so:Int)) (vP cf 0) (dw ae 161 (vP cf 0))) undef,
  .mem di undef,
  dV a0 0 [xa,xw,xb,(.slice va vn vc)]]
 .ret [4,5] [(vP a0 0),cv]:=eF
theorem agP:yp 113 2 4 164 5=true:=bp
theorem NU:(du (ax 113)).length<=99:=ag bp
theorem ajO (pn pc mp:Nat)(pa:Option Addr)(rc:Bool)(a b w u:af)(aH a0 cf rq:Nat):bF (bN 75) (ax 75) 0 4 [0,1] [(.map (some mp)),(.agg #[(.bool rc),(.slice pa pn pc),a,b,w,u])]
 [cp [some (.bool rc),some (.slice pa pn pc),some a,some b,some w,some u] aH,
  cp [some (.slice none 0 0),some (.slice none 0 0),some (.slice none 0 0),some .nilIface,some (.slice none 0 0),some (.slice none 0 0)] a0,
  .mem wJ (.map (some cf)),
  cp [some (.map (some mp)),some (.map (some cf)),some (vI 0)] rq,
  .mem (aI aH 1) (.slice pa pn pc)]
 .normal [3,4,6,7,17,18,19] [(vP aH 0),(vP a0 0),(vP rq 0),(.slice none 0 0),(.slice pa pn pc),(vI (pn:Int)),(vI 0)]:=eF
theorem ajN (b3 b4 c pn pc i:Nat)(pa:Option Addr)(acc:af):bF (bN 75) (bh (ax 75) [4]) 0 99 [3,4,6,7,17,18,19] [(vP b3 0),(vP b4 0),(vP c 0),acc,(.slice pa pn pc),(vI (pn:Int)),(vI (i:Int))]
 [aD (br (i:Int) (pn:Int)) false]
 (.exit 0) [3,4,6,7] [(vP b3 0),(vP b4 0),(vP c 0),acc]:=eF
theorem ajM (b3 b4 c nn nc cn cc:Nat)(na ca:Option Addr)(a b w u xa xw xb xu:af)(f:Int)(aH:Nat):bF (bN 75) (ax 75) 5 99 [3,4,6,7] [(vP b3 0),(vP b4 0),(vP c 0),(.slice na nn nc)]
 [.mem (eJ 4 b3 2) (.agg #[a,b,w,u]),
  .call 113 [(vP c 0),(.agg #[a,b,w,u])] (.tuple #[(.agg #[xa,xw,xb,xu]),(.slice ca cn cc)]),
  cp [some (.slice none 0 0),some .nilIface,some (.slice none 0 0),some (.slice none 0 0)] aH,
  dV aH 0 [xa,xw,xb,xu],
  .mem (aI c 2) (vI f),
  aD (hY f 0) false,
  ie 4 aH (.agg #[xa,xw,xb,xu]),
  dV b4 0 [(.slice na nn nc),(.slice ca cn cc),xa,xw,xb,xu]]
 .ret [4,5] [(vP b4 0),(vI 0)]:=eF
theorem akZ:yp 75 2 4 166 5=true:=bp
theorem QN:(du (ax 75)).length<=99:=ag bp
theorem aa4:dT (ax 75) 4=some (0,(bh (ax 75) [4])):=bp
theorem aaL:codeOk (bN 75) (bh (ax 75) [4])=true:=bp
theorem aa8:eI (bN 75) (ax 75) (bh (ax 75) [4]) 4 0=true:=bp
theorem aci {ua:Option Addr}{uc:Nat}{cv:af}:Ev K 147 [vP c 0,.slice ua 0 uc,cv] m (.slice none 0 0) m:=by
 obtain⟨t0,w0,e0⟩:=bQ (K:=K) (m:=m) (m':=m) (tm:=entry [vP c 0,.slice ua 0 uc,cv]) (ael c 0 uc ua cv) rfl .nil;obtain⟨e,t1,m5,he,hx,rfl,rfl,hg⟩:=gk (K:=K) (nt:=bN 147) (a:=bh (ax 147) [3]) 0
  (Inv:=fun j tm m'=>m'=m/\cH [0,2,7,12,13,14] tm=[vP c 0,cv,.slice none 0 0,.slice ua 0 uc,vI ((0:Nat):Int),vI 0])
  (dA:=fun e tm m'=>e= .exit 0/\m'=m/\cH [7] tm=[.slice none 0 0])
  (fun j tm m' hj=>absurd hj av)
  (by
   rintro tm m' ⟨rfl,hg⟩;obtain⟨t2,dk,dm⟩:=aU (K:=K) (m:=m') (m':=m') Vg (aej c 0 uc 0 ua cv (.slice none 0 0)) hg (.cond (ID 0) .nil);exact⟨_,t2,m',(fun h=>by cases h),dk,rfl,rfl,dm⟩)
  (tm:=t0) (m:=m) ⟨rfl,e0⟩ av
 obtain⟨t2,h2,e2⟩:=bQ (K:=K) (m:=m5) (m':=m5) (aek (.slice none 0 0)) hg .nil;exact fg agL (aX.cut w0 (aX.iH VZ Wc hx rfl (aX.last h2 NN))) (.inr rfl) e2
theorem aco (hB:¬B c){dj:List It}{iv:af}{sa ua:Option Addr}{sc uc:Nat}(wh:E)(g:Gd m)(hc:gW m c M1 M2 f)(hi:iF.R B dj m iv)(wW:∀b,B b->b<m.next)(hl:dj.length<90000)(h0:dj≠[]):
  ∃v cv m',Ev K 113 [vP c 0,.agg #[iv,.slice sa 0 sc,wh.val,.slice ua 0 uc]] m (.tuple #[v,cv]) m'/\Kp m m' (fun y=>y=c)/\gW m' c M1 M2 (nY wh dj f).2.2.2/\jv.R (fY m m') ⟨⟨[],(nY wh dj f).1,(nY wh dj f).2.1⟩,[]⟩ m' v/\cU.R (fY m m') (nY wh dj f).2.2.1 m' cv:=by
 have Bv:=hc.obj.lt;obtain⟨b3,SV⟩:∃b,b=m.next:=⟨_,rfl⟩;obtain⟨m1,e1,o1,k1,n1,_⟩:=aQ g [iv,.slice sa 0 sc,wh.val,.slice ua 0 uc];have g1:=g.ext k1;obtain⟨b4,hb4⟩:∃b,b=m1.next:=⟨_,rfl⟩;obtain⟨m2,e2,o2,k2,n2,_⟩:=aQ g1 [.slice none 0 0,.nilIface,.slice none 0 0,.slice none 0 0];have g2:=g1.ext k2;have lM:=k1.aN k2;have sf:=hc.aM lM;rw[<-SV]at e1 o1;rw[<-hb4]at e2 o2;have c3:¬b3=c:=av;have c4:¬b4=c:=av;have e3:eJ 3 b3 0 m2=some (.agg #[iv,.slice sa 0 sc,wh.val],m2):=bY (vs:=[iv,.slice sa 0 sc,wh.val]) (o1.aM k2) rfl (ag rfl);obtain⟨v,cv,m3,e4,k3,IM,q3,q3'⟩:=acj (K:=K) (sa:=sa) (sc:=sc) hB wh g2 sf (iF.ext (iF.ext hi k1 fun _ _ h=>h) k2 fun _ _ h=>h) (fun b hb=>by have :=wW b hb;omega) hl h0;obtain⟨R,hR⟩:∃R,R=nY wh dj f:=⟨_,rfl⟩;rw[<-hR]at IM q3 q3'⊢;obtain⟨xa,xw,xb,rfl,y1,y2,y3⟩:=kj.three q3;have g3:=g2.ext k3;have n3:=k3.next;have sx:Kp m m3 (fun y=>y=c):=lM.mo.trans k3 fun _ _ h=>h
 obtain⟨m4,m5,e5,e6,o5,k5,n5⟩:=eH g3 [.slice none 0 0,.nilIface,.slice none 0 0] [xa,xw,xb] rfl (by simp[y1,y2,y3]);have g5:=g3.ext k5;have e7:eJ 3 m3.next 0 m5=some (.agg #[xa,xw,xb],m5):=bY (vs:=[xa,xw,xb]) o5 rfl (ag rfl);have e8:aI b3 3 m5=some (.slice ua 0 uc,m5):=aJ ((((o1.aM k2)).ext k3 c3).aM k5) rfl;have e9:=aci (K:=K) (m:=m5) (c:=c) (ua:=ua) (uc:=uc) (cv:=cv);have pY:bS (vI ((m5.blk m3.next).bw:Int)) (vP m3.next 0) (dw ae 161 (vP m3.next 0)) m5=some (undef,m5):=aip (vs:=[xa,xw,xb]) o5 rfl (ag rfl) FT.1 FT.2 rfl;have pD:Kp m m5 (fun y=>y=c):=sx.aN k5;obtain⟨m6,xg,o6,k6⟩:=dO (o:=0) [xa,xw,xb,.slice none 0 0] ((o2.ext k3 c4).aM k5) ((g.own pD av).may _ _) (ag rfl) (by simp[y1,y2,y3];rfl);have n6:=k6.next;have n5':=k5.next;obtain⟨t2,h2,H0⟩:=bQ (K:=K) (m:=m) (m':=m6) (tm:=entry [vP c 0,.agg #[iv,.slice sa 0 sc,wh.val,.slice ua 0 uc]]) (ajZ c 0 0 none iv (.slice sa 0 sc) wh.val (.slice ua 0 uc) xa xw xb cv b3 b4 m3.next (m5.blk m3.next).bw) rfl
  (.mem e1<| .mem e2<| .mem e3<| .call e4<| .mem e5<| .mem e6<| .mem e7<| .mem (dh _ _)<| .mem e8<| .mem (bW g5)<| .call e9<| .mem pY<| .mem (bW g5)<| .mem xg .nil)
 have eR:fV ae 164 (vP b4 0) m6=some (.agg #[xa,xw,xb,.slice none 0 0],m6):=dK o6 rfl TU.1 TU.2;have k36:Kp m3 m6 (fun y=>y=b4):=k5.mo.trans k6 fun _ _ h=>h
 have up:∀{b},fY m2 m3 b->fY m m6 b:=fun h=>⟨by have :=h.1;omega,by have :=h.2;omega⟩
 refine⟨_,cv,m6,wX agP (aX.last h2 NU) (.inr rfl) H0 eR,pD.new k6 (N:=m.next) (ai _) fun b hb=>by omega,(IM.aM k5).ext k6 av,⟨_,_,_,_,rfl,?_,bj.nil⟩,?_⟩
 ·exact kj.mono (kj.ext q3 k36 fun b hb h=>by have h1:=hb.1;omega) fun b h=>up h
 ·exact cU.mono (cU.ext q3' k36 fun b hb h=>by have h1:=hb.1;omega) fun b h=>up h
theorem aix {dj:List It}{iv:af}{mp:Nat}{sa ua pa:Option Addr}{sc uc pc:Nat}{rc:Bool}(wh:E)(g:Gd m)(hi:iF.R B dj m iv)(wW:∀b,B b->b<m.next)(hl:dj.length<90000)(h0:dj≠[])(hz:(nY wh dj 0).2.2.2=0):
  ∃v m',Ev K 75 [.map (some mp),.agg #[.bool rc,.slice pa 0 pc,iv,.slice sa 0 sc,wh.val,.slice ua 0 uc]] m (.tuple #[v,vI 0]) m'/\Kp m m' eU/\OX.R (fY m m') ⟨[],(nY wh dj 0).2.2.1,⟨⟨[],(nY wh dj 0).1,(nY wh dj 0).2.1⟩,[]⟩⟩ m' v:=by
 obtain⟨b3,SV⟩:∃b,b=m.next:=⟨_,rfl⟩;obtain⟨m1,e1,o1,k1,n1,_⟩:=aQ g [.bool rc,.slice pa 0 pc,iv,.slice sa 0 sc,wh.val,.slice ua 0 uc];have g1:=g.ext k1;obtain⟨b4,hb4⟩:∃b,b=m1.next:=⟨_,rfl⟩;obtain⟨m2,e2,o2,k2,n2,_⟩:=aQ g1 [.slice none 0 0,.slice none 0 0,.slice none 0 0,.nilIface,.slice none 0 0,.slice none 0 0];have g2:=g1.ext k2;rw[<-SV]at e1 o1;rw[<-hb4]at e2 o2;obtain⟨b5,hb5⟩:∃b,b=m2.next:=⟨_,rfl⟩;obtain⟨m3,hm3⟩:∃m3,m3=m2.alloc {kind:=2}:=⟨_,rfl⟩;have e3:wJ m2=some (.map (some b5),m3):=by rw[hb5,hm3];rfl
 have k3:Kp m2 m3 eU:=by
  rw[hm3];exact⟨Nat.le_succ _,rfl,rfl,rfl,rfl,rfl,rfl,rfl,rfl,fun x hx _=>by rw[Mem.cD,bT av]⟩
 have n3:m3.next=m2.next+1:=by rw[hm3];rfl
 have g3:=g2.ext k3;obtain⟨c,hc⟩:∃b,b=m3.next:=⟨_,rfl⟩;obtain⟨m4,e4,o4,k4,n4,_⟩:=aQ g3 [.map (some mp),.map (some b5),vI 0];rw[<-hc]at e4 o4;have g4:=g3.ext k4;have jV:Kp m m4 eU:=((k1.aN k2).aN k3).aN k4;have zI:=((o1.aM k2).aM k3).aM k4;have e5:aI b3 1 m4=some (.slice pa 0 pc,m4):=aJ zI rfl;have OO:gW m4 c (.map (some mp)) (.map (some b5)) 0:=⟨o4,g.own jV av⟩;obtain⟨t0,w0,e0⟩:=bQ (K:=K) (m:=m) (m':=m4) (tm:=entry [.map (some mp),.agg #[.bool rc,.slice pa 0 pc,iv,.slice sa 0 sc,wh.val,.slice ua 0 uc]]) (ajO 0 pc mp pa rc iv (.slice sa 0 sc) wh.val (.slice ua 0 uc) b3 b4 b5 c) rfl (.mem e1<| .mem e2<| .mem e3<| .mem e4<| .mem e5 .nil);obtain⟨e,t1,m5,he,hx,rfl,rfl,hg⟩:=gk (K:=K) (nt:=bN 75) (a:=bh (ax 75) [4]) 0
  (Inv:=fun j tm m'=>m'=m4/\cH [3,4,6,7,17,18,19] tm=[vP b3 0,vP b4 0,vP c 0,.slice none 0 0,.slice pa 0 pc,vI ((0:Nat):Int),vI 0])
  (dA:=fun e tm m'=>e= .exit 0/\m'=m4/\cH [3,4,6,7] tm=[vP b3 0,vP b4 0,vP c 0,.slice none 0 0])
  (fun j tm m' hj=>absurd hj av)
  (by
   rintro tm m' ⟨rfl,hg⟩;obtain⟨t2,dk,dm⟩:=aU (K:=K) (m:=m') (m':=m') aaL (ajN b3 b4 c 0 pc 0 pa (.slice none 0 0)) hg (.cond (ID 0) .nil);exact⟨_,t2,m',(fun h=>by cases h),dk,rfl,rfl,dm⟩)
  (tm:=t0) (m:=m4) ⟨rfl,e0⟩ av
 have e6:eJ 4 b3 2 m5=some (.agg #[iv,.slice sa 0 sc,wh.val,.slice ua 0 uc],m5):=bY (vs:=[iv,.slice sa 0 sc,wh.val,.slice ua 0 uc]) zI rfl (ag rfl);have hBc:¬B c:=fun h=>by have :=wW c h;omega
 obtain⟨v,cv,m6,e7,k6,hc6,q6,q6'⟩:=aco (K:=K) (sa:=sa) (sc:=sc) (ua:=ua) (uc:=uc) hBc wh g4 OO (iF.ext hi jV fun _ _ h=>h) (fun b hb=>by have :=wW b hb;omega) hl h0;obtain⟨R,hR⟩:∃R,R=nY wh dj 0:=⟨_,rfl⟩;rw[<-hR]at hc6 q6 q6' hz⊢;rw[hz]at hc6;obtain⟨xa,xw,xb,xu,rfl,y1,y2,y3,y4⟩:=jv.four q6;obtain⟨ca,cc,Co⟩:=bj.form q6';have g6:=g4.ext k6;have n6:=k6.next;have c3:¬b3=c:=av;have c4:¬b4=c:=av;obtain⟨m7,m8,e8,e9,o8,k8,n8⟩:=eH g6 [.slice none 0 0,.nilIface,.slice none 0 0,.slice none 0 0] [xa,xw,xb,xu] rfl (by simp[y1,y2,y3,y4]);have n8':=k8.next;have pY:aI c 2 m8=some (vI 0,m8):=aJ (hc6.aM k8).obj rfl;have xg:eJ 4 m6.next 0 m8=some (.agg #[xa,xw,xb,xu],m8):=bY (vs:=[xa,xw,xb,xu]) o8 rfl (ag rfl);have zg:Kp m m8 eU:=(jV.new k6 (N:=m.next) (ai _) fun b hb=>by omega).aN k8;obtain⟨m9,zv,o9,k9⟩:=dO (o:=0) [.slice none 0 0,cv,xa,xw,xb,xu] (((((o2.aM k3).aM k4)).ext k6 c4).aM k8) ((g.own zg av).may _ _) (ag rfl) (by simp[y1,y2,y3,y4,(bj.gy q6').2];rfl);subst Co;have n9:=k9.next;obtain⟨t2,h2,H0⟩:=bQ (K:=K) (m:=m5) (m':=m9) (ajM b3 b4 c 0 0 _ cc none ca iv (.slice sa 0 sc) wh.val (.slice ua 0 uc) xa xw xb xu 0 m6.next) hg (.mem e6<| .call e7<| .mem e8<| .mem e9<| .mem pY<| .cond rfl<| .mem xg<| .mem zv .nil);have eR:fV ae 166 (vP b4 0) m9=some (.agg #[.slice none 0 0,.slice ca R.2.2.1.length cc,xa,xw,xb,xu],m9):=dK o9 rfl TT.1 TT.2;have Ue:Kp m6 m9 (fun y=>y=b4):=k8.mo.trans k9 fun _ _ h=>h
 have up:∀{b},fY m5 m6 b->fY m m9 b:=fun h=>⟨by have :=h.1;omega,by have :=h.2;omega⟩
 refine⟨_,m9,wX akZ (aX.cut w0 (aX.iH aa4 aa8 hx rfl (aX.last h2 QN))) (.inr rfl) H0 eR,zg.new k9 (N:=m.next) (ai _) fun b hb=>by omega,⟨_,_,_,_,_,_,rfl,bj.nil,?_,?_⟩⟩
 ·exact cU.mono (cU.ext q6' Ue fun b hb h=>by have h1:=hb.1;omega) fun b h=>up h
 ·exact jv.mono (jv.ext q6 Ue fun b hb h=>by have h1:=hb.1;omega) fun b h=>up h
end
end Go.AM
namespace Go.AM
set_option maxRecDepth 1000000
open Go Go.Conc Go.Proofs
def YV:j6 (List ByteArray):=bj (jj rE) 1
def YW:j6 (List Int):=bj (jj vI) 1
theorem aaH (s:ByteArray):okV 1 (rE s):=⟨rfl,by simp[rE,af.cells,af.oneCell']⟩
theorem aaJ (k:Int):okV 1 (vI k):=⟨rfl,by simp[af.cells,af.oneCell']⟩
theorem uQ:mT ae 31=some true/\dq ae 31=some 4:=⟨bp,bp⟩
section
variable {K:iK}{m:Mem}
theorem ajL (pn pc cn cc un uc:Nat)(pa ca ua:Option Addr)(a w b:af)(aH a0 cf:Nat):bF (bN 76) (ax 76) 0 3 [0] [(.agg #[(.slice pa pn pc),(.slice ca cn cc),a,w,b,(.slice ua un uc)])]
 [cp [some (.slice pa pn pc),some (.slice ca cn cc),some a,some w,some b,some (.slice ua un uc)] aH,
  cp [some (.slice none 0 0),some (.slice none 0 0),some (.slice none 0 0),some (vI 0)] a0,
  cp [some (.slice none 0 0),some (vI 0),some (.slice none 0 0),some (vI 0),some (.slice none 0 0),some (vI 0),some (.slice none 0 0),some (vI 0),some (.slice none 0 0),some (.slice none 0 0),some (vI 0),some (.slice none 0 0),some (vI 0),some (.slice none 0 0),some (vI 0),some (.slice none 0 0),some (vI 0),some (.slice none 0 0)] cf,
  .mem (aI aH 0) (.slice pa pn pc)]
 .normal [1,2,4,16,17,18] [(vP aH 0),(vP a0 0),(vP cf 0),(.slice pa pn pc),(vI (pn:Int)),(vI 0)]:=eF
theorem ajH (b1 b2 d pn pc i:Nat)(pa:Option Addr):bF (bN 76) (bh (ax 76) [3]) 0 99 [1,2,4,16,17,18] [(vP b1 0),(vP b2 0),(vP d 0),(.slice pa pn pc),(vI (pn:Int)),(vI (i:Int))]
 [aD (br (i:Int) (pn:Int)) false]
 (.exit 0) [1,2,4] [(vP b1 0),(vP b2 0),(vP d 0)]:=eF
theorem ajK (b1 b2 d p n rc cn cc un uc:Nat)(ca ua:Option Addr)(a w b:af)(aH:Nat):bF (bN 76) (ax 76) 4 10 [1,2,4] [(vP b1 0),(vP b2 0),(vP d 0)]
 [.mem (eJ 4 b1 2) (.agg #[a,w,b,(.slice ua un uc)]),
  .call 115 [(.agg #[a,w,b,(.slice ua un uc)]),(vP d 0)] (.tuple #[(vL p 0 n rc),(vI 0)]),
  bm,
  .call 116 [(vL p 0 n rc),(.func (.func 117) #[] #[])] (.tuple #[]),
  cp [some (.slice none 0 0),some (.slice none 0 0),some (.slice none 0 0),some (vI 0)] aH,
  dV aH 0 [(.slice none 0 0),(.slice none 0 0),(vL p 0 n rc),(vI 0)],
  .mem (aI b1 1) (.slice ca cn cc)]
 .normal [2,10,46,47,48] [(vP b2 0),(vP aH 0),(.slice ca cn cc),(vI (cn:Int)),(vI 0)]:=eF
theorem ajJ (b1 b2 d un uc:Nat)(ua:Option Addr)(a w b rv:af)(e:Int):bF (bN 76) (ax 76) 4 99 [1,2,4] [(vP b1 0),(vP b2 0),(vP d 0)]
 [.mem (eJ 4 b1 2) (.agg #[a,w,b,(.slice ua un uc)]),
  .call 115 [(.agg #[a,w,b,(.slice ua un uc)]),(vP d 0)] (.tuple #[rv,(vI e)]),
  aD (hY e 0) true,
  dV b2 0 [(.slice none 0 0),(.slice none 0 0),(.slice none 0 0),(vI 0)]]
 .ret [2,3] [(vP b2 0),(vI e)]:=eF
theorem ajG (b2 oN cn cc i:Nat)(ca:Option Addr):bF (bN 76) (bh (ax 76) [10]) 0 99 [2,10,46,47,48] [(vP b2 0),(vP oN 0),(.slice ca cn cc),(vI (cn:Int)),(vI (i:Int))]
 [aD (br (i:Int) (cn:Int)) false]
 (.exit 2) [2,10] [(vP b2 0),(vP oN 0)]:=eF
theorem ajI (b2 oN p n cc i nn nc kn kc:Nat)(na ka:Option Addr)(nv kv:af)(x:pM)(aH a0 cf:Nat):bF (bN 76) (bh (ax 76) [10]) 0 99 [2,10,46,47,48] [(vP b2 0),(vP oN 0),(vL p 0 n cc),(vI (n:Int)),(vI (i:Int))]
 [aD (br (i:Int) (n:Int)) true,
  .idx (i:Int) n i,
  .mem (eJ 2 p (0+i*2)) (.agg #[(aY x.n),(vI x.k)]),
  cp [some dU,some (vI 0)] aH,
  dV aH 0 [(aY x.n),(vI x.k)],
  .mem (aI oN 0) nv,
  .mem (aI aH 0) (aY x.n),
  .mem (ao ae 28 1 [(0,(aY x.n))]) (vL a0 0 1 1),
  .mem (cV ae #[28,28] nv (vL a0 0 1 1)) (.slice na nn nc),
  .mem (jo oN 0 (.slice na nn nc)) undef,
  .mem (aI oN 1) kv,
  .mem (aI aH 1) (vI x.k),
  .mem (ao ae 22 1 [(0,(vI x.k))]) (vL cf 0 1 1),
  .mem (cV ae #[22,22] kv (vL cf 0 1 1)) (.slice ka kn kc),
  .mem (jo oN 1 (.slice ka kn kc)) undef]
 .normal [2,10,46,47,48] [(vP b2 0),(vP oN 0),(vL p 0 n cc),(vI (n:Int)),(vI (bB (i:Int) 1))]:=eF
theorem ajF (b2 oN:Nat)(nv kv rv:af):bF (bN 76) (ax 76) 11 99 [2,10] [(vP b2 0),(vP oN 0)]
 [ie 4 oN (.agg #[nv,kv,rv,(vI 0)]),
  dV b2 0 [nv,kv,rv,(vI 0)]]
 .ret [2,3] [(vP b2 0),(vI 0)]:=eF
theorem agB:yp 76 1 2 31 3=true:=bp
theorem Hc:(du (ax 76)).length<=99:=ag bp
theorem Rv:dT (ax 76) 3=some (0,(bh (ax 76) [3])):=bp
theorem aaK:codeOk (bN 76) (bh (ax 76) [3])=true:=bp
theorem RD:eI (bN 76) (ax 76) (bh (ax 76) [3]) 3 0=true:=bp
theorem VQ:dT (ax 76) 10=some (2,(bh (ax 76) [10])):=bp
theorem LF:codeOk (bN 76) (bh (ax 76) [10])=true:=bp
theorem V5:eI (bN 76) (ax 76) (bh (ax 76) [10]) 10 2=true:=bp
theorem O4 {B:Nat->Prop}{cF:List pM}{FI:af}{b2 oN:Nat}{rv:af}{t0:Tm}{m0:Mem}(g0:Gd m0)(k0:Kp m0 m eU)(alU:m0.next<=oN)(h10:oN<m.next)(o:Obj m oN 0 [.slice none 0 0,.slice none 0 0,rv,vI 0])(hc:cU.R B cF m FI)(hBb:∀b,B b->b≠oN/\b<m.next)(hl:cF.length<9000)
  (h0:cH [2,10,46,47,48] t0=[vP b2 0,vP oN 0,FI,vI (cF.length:Int),vI 0]):
  ∃t1 m1 nv kv,Le K (bN 76) (bh (ax 76) [10]) 100000 ⟨t0,m,[]⟩ (.exit 2) ⟨t1,m1,[]⟩/\cH [2,10] t1=[vP b2 0,vP oN 0]/\Kp m m1 (fun y=>y=oN)/\Obj m1 oN 0 [nv,kv,rv,vI 0]/\YV.R (fY m m1) (cF.map (·.n)) m1 nv/\YW.R (fY m m1) (cF.map (·.k)) m1 kv:=by
 obtain⟨a,cc,hA⟩:=bj.form hc;have Co:(bj (jj pM.val) 2).R B cF m FI:=hc;obtain⟨e,t1,m1,he,hx,rfl,hg,kk,nv,kv,o1,B1,B2,hd,j8,iW,l1,l2⟩:=gk (K:=K) (nt:=bN 76) (a:=bh (ax 76) [10]) cF.length
  (Inv:=fun j tm M=>cH [2,10,46,47,48] tm=[vP b2 0,vP oN 0,FI,vI (cF.length:Int),vI (j:Int)]/\Kp m M (fun y=>y=oN)/\∃nv kv,Obj M oN 0 [nv,kv,rv,vI 0]/\∃B1 B2:Nat->Prop,(∀y,B1 y->¬B2 y)/\(∀y,B1 y->fY m M y)/\(∀y,B2 y->fY m M y)/\
   ui (jj rE) 1 B1 M ((cF.take j).map (·.n)) nv/\ui (jj vI) 1 B2 M ((cF.take j).map (·.k)) kv)
  (dA:=fun e tm M=>e= .exit 2/\cH [2,10] tm=[vP b2 0,vP oN 0]/\Kp m M (fun y=>y=oN)/\∃nv kv,Obj M oN 0 [nv,kv,rv,vI 0]/\∃B1 B2:Nat->Prop,(∀y,B1 y->¬B2 y)/\(∀y,B1 y->fY m M y)/\(∀y,B2 y->fY m M y)/\
   ui (jj rE) 1 B1 M (cF.map (·.n)) nv/\ui (jj vI) 1 B2 M (cF.map (·.k)) kv)
  (by
   rintro j tm M hj ⟨hg,kk,nv,kv,oM,B1,B2,hd,j8,iW,l1,l2⟩;refine .inl ?_;have g:Gd m:=g0.ext k0;have gM:=g.ext kk;have nM:=kk.next;obtain⟨p,c',u,ucs,rfl,hBp,ob,hu,hle,hE,alO⟩:=bj.get ((bj (jj pM.val) 2).ext Co kk fun y hy=>(hBb y hy).1) hj;obtain⟨x,hy⟩:∃y,cF[j]=y:=⟨_,rfl⟩;rw[hy]at hE;have hE:u=x.val:=hE;subst hE;have e1:eJ 2 p (0+j*2) M=some (x.val,M):=by rw[Nat.zero_add];exact bY (vs:=[.string x.n,vI x.k]) ob hu hle
   obtain⟨M1,M2,e2,e3,o2,k2,n2⟩:=eH gM [.string .empty,vI 0] [.string x.n,vI x.k] rfl rfl;have g2:=gM.ext k2;have oM2:=oM.aM k2;have e4:aI oN 0 M2=some (nv,M2):=aJ oM2 rfl;have e5:aI M.next 0 M2=some (.string x.n,M2):=aJ o2 rfl;have km2:Kp m M2 (fun y=>y=oN):=kk.aN k2;have n2':=k2.next;obtain⟨M3,M4,s1,e6,g3,k3,e7,k4,VP,_,n4⟩:=(l1.aM k2).add (t:=28) (v:=rE x.n) g2 g km2 rfl dB (fun b hb=>⟨(j8 b hb).1,by have :=(j8 b hb).2;omega⟩) (B':=eU) rfl (fun _ _ h=>h) (fun _ h=>h.elim) (aaH x.n) (by simp;omega);obtain⟨na,nn,nc,HF⟩:=VP.form;have aaR:∀y,B1 y->¬y=oN:=fun y hy e=>by have :=(j8 y hy).1;omega
   have QY:∀y,B2 y->¬y=oN:=fun y hy e=>by have :=(iW y hy).1;omega
   have anp:oN<m.next:=h10;have amo:¬B1 oN:=fun h=>aaR _ h rfl
   have amn:¬B2 oN:=fun h=>QY _ h rfl
   have oM4:=oM2.ext k4 amo;have g4:=g2.ext k4;have km4:Kp m M4 (fun y=>y=oN):=km2.new k4 (N:=m.next) (ai _) fun b hb=>(j8 b hb).1
   have X2:∀{M':Mem},Kp m M' (fun y=>y=oN)->Own M' oN:=fun k=>g0.own (k0.mo.trans k fun _ _ h=>h) alU
   obtain⟨M5,e8,o5,k5⟩:=gu (o:=0) s1 oM4 ((X2 km4).may _ _) (ag rfl) (by rw[HF];rfl);have g5:=g4.ext k5;have km5:Kp m M5 (fun y=>y=oN):=km4.trans k5 fun _ _ h=>h
   have e9:aI oN 1 M5=some (kv,M5):=aJ o5 rfl;have pY:aI M.next 1 M5=some (vI x.k,M5):=aJ ((o2.ext k4 fun h=>by have :=(j8 _ h).2;omega).ext k5 av) rfl;have n5:=k5.next;have n4':=k4.next;have Yi:=((l2.aM k2).ext k4 fun b hb h=>hd b h hb).ext k5 QY;obtain⟨M6,M7,s2,xg,g6,k6,zv,k7,Uc,_,n7⟩:=Yi.add (t:=22) (v:=vI x.k) g5 g km5 rfl dB (fun b hb=>⟨(iW b hb).1,by have :=(iW b hb).2;omega⟩) (B':=eU) rfl (fun _ _ h=>h) (fun _ h=>h.elim) (aaJ x.k) (by simp;omega);obtain⟨ka,kn,kc,hs2⟩:=Uc.form;have g7:=g5.ext k7;have km7:Kp m M7 (fun y=>y=oN):=km5.new k7 (N:=m.next) (ai _) fun b hb=>(iW b hb).1
   obtain⟨M8,FC,o8,k8⟩:=gu (o:=1) s2 (o5.ext k7 amn) ((X2 km7).may _ _) (ag rfl) (by rw[hs2];rfl);have n8:=k8.next;have n7':=k7.next;subst HF;subst hs2;obtain⟨t2,dk,dm⟩:=aU (K:=K) (m:=M) (m':=M8) LF (ajI b2 oN p cF.length c' j nn nc kn kc na ka nv kv x M.next M2.next M5.next) hg (.cond (Pm hj)<| .idx rfl hj<| .mem e1<| .mem e2<| .mem e3<| .mem e4<| .mem e5<| .mem e6<| .mem e7<| .mem e8<| .mem e9<| .mem pY<| .mem xg<| .mem zv<| .mem FC .nil);have htk:cF.take (j+1)=cF.take j++[x]:=by rw[List.take_add_one,List.getElem?_eq_getElem hj,hy];rfl
   refine⟨t2,M8,dk,by rw[dm,add1 av],km7.trans k8 fun _ _ h=>h,_,_,o8,(fun y=>B1 y\/eU y\/y=M2.next+1),(fun y=>B2 y\/eU y\/y=M5.next+1),?_,?_,?_,?_,?_⟩
   ·rintro y (h|h|h) h'
    ·rcases h' with h'|h'|h'
     ·exact hd y h h'
     ·exact h'
     ·have :=(j8 y h).2;omega
    ·exact h
    ·rcases h' with h'|h'|h'
     ·have :=(iW y h').2;omega
     ·exact h'
     ·omega
   ·rintro y (h|h|h)
    ·exact⟨(j8 y h).1,by have :=(j8 y h).2;omega⟩
    ·exact h.elim
    ·exact⟨av,av⟩
   ·rintro y (h|h|h)
    ·exact⟨(iW y h).1,by have :=(iW y h).2;omega⟩
    ·exact h.elim
    ·exact⟨av,av⟩
   ·rw[htk,List.map_append];refine((VP.ext k5 ?_).ext k7 ?_).ext k8 ?_
    ·rintro y (h|h|h) e
     ·exact aaR y h e
     ·exact h
     ·omega
    ·rintro y (h|h|h) h'
     ·exact hd y h h'
     ·exact h
     ·have :=(iW y h').2;omega
    ·rintro y (h|h|h) e
     ·exact aaR y h e
     ·exact h
     ·omega
   ·rw[htk,List.map_append];refine Uc.ext k8 ?_;rintro y (h|h|h) e
    ·exact QY y h e
    ·exact h
    ·omega)
  (by
   rintro tm M ⟨hg,kk,nv,kv,oM,B1,B2,hd,j8,iW,l1,l2⟩;rw[hA]at hg;obtain⟨t2,dk,dm⟩:=aU (K:=K) (m:=M) (m':=M) LF (ajG b2 oN cF.length cc cF.length a) hg (.cond (ID _) .nil);rw[List.take_length]at l1 l2;exact⟨_,t2,M,(fun h=>by cases h),dk,rfl,dm,kk,nv,kv,oM,B1,B2,hd,j8,iW,l1,l2⟩)
  (tm:=t0) (m:=m) ⟨h0,Kp.refl _ _,_,_,o,eU,eU,fun _ h=>h.elim,fun _ h=>h.elim,fun _ h=>h.elim,ui.nil,ui.nil⟩ av
 exact⟨t1,m1,nv,kv,hx,hg,kk,o1,(bj (jj rE) 1).mono l1.fin j8,(bj (jj vI) 1).mono l2.fin iW⟩
end
end Go.AM
namespace Go.AM
set_option maxRecDepth 1000000
open Go Go.Conc Go.Proofs
def TN:af:= .agg #[.slice none 0 0,.slice none 0 0,.slice none 0 0,vI 0]
def tG (B:Nat->Prop)(cF:List pM)(row:List V)(m:Mem)(v:af):Prop:=∃nv kv p,v= .agg #[nv,kv,vL p 0 1 eP,vI 0]/\YV.R B (cF.map (·.n)) m nv/\YW.R B (cF.map (·.k)) m kv/\(bj kU 1).R B [row] m (vL p 0 1 eP)
theorem tG.ext{B S:Nat->Prop}{cF:List pM}{row:List V}{m m':Mem}{v:af}(h:tG B cF row m v)(k:Kp m m' S)(hs:∀b,B b->¬S b):tG B cF row m' v:=by
 obtain⟨nv,kv,p,e,h1,h2,h3⟩:=h;exact⟨nv,kv,p,e,(bj (jj rE) 1).ext h1 k hs,(bj (jj vI) 1).ext h2 k hs,(bj kU 1).ext h3 k hs⟩
theorem tG.mono{B B':Nat->Prop}{cF:List pM}{row:List V}{m:Mem}{v:af}(h:tG B cF row m v)(k:∀b,B b->B' b):tG B' cF row m v:=by
 obtain⟨nv,kv,p,e,h1,h2,h3⟩:=h;exact⟨nv,kv,p,e,(bj (jj rE) 1).mono h1 k,(bj (jj vI) 1).mono h2 k,(bj kU 1).mono h3 k⟩
section
variable {K:iK}{m:Mem}
theorem aiw (hK:Ld K){R0:Mem->Prop}{B:Nat->Prop}{dj:List X}{cF:List pM}{FI iv:af}{pa sa ua:Option Addr}{pc sc uc:Nat}{cv:Nat->Nat->Int->Int->V}(cm:Calm m)(hc:cU.R B cF m FI)(hx:(bj mL 1).R B dj m iv)(wW:∀b,B b->b<m.next)
  (hl:dj.length<9000)(Bv:cF.length<9000)(keep:∀m m',R0 m->Kp m m' eU->R0 m')(S2:∀mw,R0 mw)(WL:∀pr,Scope KW R0 (cv 0) (vP pr 0))(jA:∀x∈dj,T9 (cv 0) x):
  (∃v m',Ev K 76 [.agg #[.slice pa 0 pc,FI,.slice sa 0 sc,.nilIface,iv,.slice ua 0 uc]] m (.tuple #[v,vI 0]) m'/\Kp m m' eU/\tG (fY m m') cF (jI (cv 0) dj []).1 m' v/\(jI (cv 0) dj []).2=0)\/
  (∃m',Ev K 76 [.agg #[.slice pa 0 pc,FI,.slice sa 0 sc,.nilIface,iv,.slice ua 0 uc]] m (.tuple #[TN,vI (jI (cv 0) dj []).2]) m'/\Kp m m' eU/\(jI (cv 0) dj []).2≠0):=by
 obtain⟨ca,cc,Co⟩:=bj.form hc;have g:=cm.gd;obtain⟨b1,j8⟩:∃b,b=m.next:=⟨_,rfl⟩;obtain⟨m1,e1,o1,k1,n1,_⟩:=aQ g [.slice pa 0 pc,FI,.slice sa 0 sc,.nilIface,iv,.slice ua 0 uc];obtain⟨b2,iW⟩:∃b,b=m1.next:=⟨_,rfl⟩;obtain⟨m2,e2,o2,k2,n2,_⟩:=aQ (g.ext k1) [.slice none 0 0,.slice none 0 0,.slice none 0 0,vI 0];have lM:=k1.aN k2;obtain⟨d,hd⟩:∃b,b=m2.next:=⟨_,rfl⟩;obtain⟨m3,e3,o3,k3,n3,_⟩:=aQ (g.ext lM) Tr;rw[<-j8]at e1 o1;rw[<-iW]at e2 o2;rw[<-hd]at e3 o3;have sx:=lM.aN k3;have D3:=cm.ext sx;have Vl:=(o1.aM k2).aM k3;have l1:aI b1 0 m3=some (.slice pa 0 pc,m3):=aJ Vl rfl;obtain⟨A,hA⟩:∃A,A=af.agg #[.slice pa 0 pc,FI,.slice sa 0 sc,.nilIface,iv,.slice ua 0 uc]:=⟨_,rfl⟩;rw[<-hA];obtain⟨t0,w0,e0⟩:=bQ (K:=K) (m:=m) (m':=m3) (tm:=entry [A]) (ajL 0 pc cF.length cc 0 uc pa ca ua (.slice sa 0 sc) .nilIface iv b1 b2 d) (by rw[hA,Co];rfl) (by rw[Co]at e1;exact .mem e1<| .mem e2<| .mem e3<| .mem l1 .nil);obtain⟨e,t1,m5,he,Ks,rfl,rfl,hg⟩:=gk (K:=K) (nt:=bN 76) (a:=bh (ax 76) [3]) 0
  (Inv:=fun j tm m'=>m'=m3/\cH [1,2,4,16,17,18] tm=[vP b1 0,vP b2 0,vP d 0,.slice pa 0 pc,vI ((0:Nat):Int),vI 0])
  (dA:=fun e tm m'=>e= .exit 0/\m'=m3/\cH [1,2,4] tm=[vP b1 0,vP b2 0,vP d 0])
  (fun j tm m' hj=>absurd hj av)
  (by
   rintro tm m' ⟨rfl,hg⟩;obtain⟨t2,dk,dm⟩:=aU (K:=K) (m:=m') (m':=m') aaK (ajH b1 b2 d 0 pc 0 pa) hg (.cond (ID 0) .nil);exact⟨_,t2,m',(fun h=>by cases h),dk,rfl,rfl,dm⟩)
  (tm:=t0) (m:=m3) ⟨rfl,e0⟩ av
 have l2:eJ 4 b1 2 m5=some (.agg #[.slice sa 0 sc,.nilIface,iv,.slice ua 0 uc],m5):=bY (vs:=[.slice sa 0 sc,.nilIface,iv,.slice ua 0 uc]) Vl rfl (ag rfl);have Bw:m5.base<=d:=by
  have h1:=D3.gd.bf;have h2:=g.fn;have h3:=sx.floor;have h4:=sx.base;have :=g.bf;omega
 have n1d:¬b1=d:=av;have n2d:¬b2=d:=av;rcases acn (K:=K) (sa:=sa) (sc:=sc) (ua:=ua) (uc:=uc) hK D3 o3 Bw ((bj mL 1).ext hx sx fun _ _ h=>h) (fun b hb=>by have :=wW b hb;omega) hl keep S2 WL jA with⟨p,m6,e6,k6,q6,hz⟩|⟨m6,e6,k6,hz⟩
 ·left
  have n6:=k6.next;have Cp:=D3.ext k6;have qH:Kp m m6 eU:=sx.new k6 (N:=m.next) (ai _) fun b hb=>by omega
  have e7:=acm (K:=K) (m:=m6) (p:=p) (cc:=eP);obtain⟨oN,amh⟩:∃b,b=m6.next:=⟨_,rfl⟩;obtain⟨m7,m8,e8,e9,o8,k8,n8⟩:=eH Cp.gd [.slice none 0 0,.slice none 0 0,.slice none 0 0,vI 0] [.slice none 0 0,.slice none 0 0,vL p 0 1 eP,vI 0] rfl rfl;rw[<-amh]at e8 e9 o8;have NZ:=Vl.ext k6 n1d;have l3:aI b1 1 m8=some (FI,m8):=aJ (NZ.aM k8) rfl;have zg:=qH.aN k8;obtain⟨t2,w2,H0⟩:=bQ (K:=K) (m:=m5) (m':=m8) (ajK b1 b2 d p 1 eP cF.length cc 0 uc ca ua (.slice sa 0 sc) .nilIface iv oN) hg (by rw[Co]at l3;exact .mem l2<| .call e6<| .cond rfl<| .call e7<| .mem e8<| .mem e9<| .mem l3 .nil);obtain⟨t3,m9,nv,kv,hx9,hg9,k9,o9,q1,q2⟩:=O4 (K:=K) (B:=B) (FI:=FI) (t0:=t2) g zg av av o8 (cU.ext hc zg fun _ _ h=>h) (fun b hb=>by have :=wW b hb;exact⟨av,by have :=zg.next;omega⟩) Bv (by rw[H0,Co]);have n9:=k9.next;have n8':=k8.next;have l4:eJ 4 oN 0 m9=some (.agg #[nv,kv,vL p 0 1 eP,vI 0],m9):=bY (vs:=[nv,kv,vL p 0 1 eP,vI 0]) o9 rfl (ag rfl);have F6:Kp m m9 eU:=zg.new k9 (N:=m.next) (ai _) fun b hb=>by omega
  have o29:=(((o2.aM k3).ext k6 n2d).aM k8).ext k9 (show¬b2=oN by omega);obtain⟨fM,pY,IB,kh⟩:=dO (o:=0) [nv,kv,vL p 0 1 eP,vI 0] o29 ((g.own F6 av).may _ _) (ag rfl) (by simp[(bj.gy q1).2,(bj.gy q2).2];exact⟨rfl,rfl⟩);have n10:=kh.next;obtain⟨t4,w4,e4'⟩:=bQ (K:=K) (m:=m9) (m':=fM) (ajF b2 oN nv kv (vL p 0 1 eP)) hg9 (.mem l4<| .mem pY .nil);have eR:fV ae 31 (vP b2 0) fM=some (.agg #[nv,kv,vL p 0 1 eP,vI 0],fM):=dK IB rfl uQ.1 uQ.2;refine⟨_,fM,wX agB (aX.cut w0 (aX.iH Rv RD Ks rfl (aX.cut w2 (aX.iH VQ V5 hx9 rfl (aX.last w4 Hc))))) (.inr rfl) e4' eR,F6.new kh (N:=m.next) (ai _) fun b hb=>by omega,⟨nv,kv,p,rfl,?_,?_,?_⟩,hz⟩
  ·exact(bj (jj rE) 1).mono ((bj (jj rE) 1).ext q1 kh fun b hb h=>by have :=hb.1;omega) fun b hb=>⟨by have :=hb.1;omega,by have :=hb.2;omega⟩
  ·exact(bj (jj vI) 1).mono ((bj (jj vI) 1).ext q2 kh fun b hb h=>by have :=hb.1;omega) fun b hb=>⟨by have :=hb.1;omega,by have :=hb.2;omega⟩
  ·have abg:Kp m6 fM (fun y=>y=oN\/y=b2):=(k8.mo.trans (k9.mono fun _ _ h=> .inl h) fun _ _ h=>h).trans (kh.mono fun _ _ h=> .inr h) fun _ _ h=>h
   exact(bj kU 1).mono ((bj kU 1).ext q6 abg fun b hb h=>by have h1:=hb.1;have h2:=hb.2;omega) fun b hb=>⟨by have :=hb.1;omega,by have :=hb.2;omega⟩
 ·right
  have n6:=k6.next;have qH:Kp m m6 eU:=sx.new k6 (N:=m.next) (ai _) fun b hb=>by omega
  obtain⟨m7,e7,o7,k7⟩:=dO (o:=0) [.slice none 0 0,.slice none 0 0,.slice none 0 0,vI 0] ((o2.aM k3).ext k6 n2d) ((g.own qH av).may _ _) (ag rfl) rfl;obtain⟨t4,w4,e4'⟩:=bQ (K:=K) (m:=m5) (m':=m7) (ajJ b1 b2 d 0 uc ua (.slice sa 0 sc) .nilIface iv (.slice none 0 0) (jI (cv 0) dj []).2) hg (.mem l2<| .call e6<| .cond (Yf hz)<| .mem e7 .nil);have eR:fV ae 31 (vP b2 0) m7=some (TN,m7):=dK o7 rfl uQ.1 uQ.2;exact⟨m7,wX agB (aX.cut w0 (aX.iH Rv RD Ks rfl (aX.last w4 Hc))) (.inr rfl) e4' eR,qH.new k7 (N:=m.next) (ai _) fun b hb=>by omega,hz⟩
end
end Go.AM
namespace Go.AM
set_option maxRecDepth 1000000
open Go Go.Conc Go.Proofs
def Ut (m:Mem)(k:Nat):Mem:={m with deaf:=k}
theorem I3:ae.underlying 139=some (.pointer 63)/\ae.underlying 143=some .unsafePointer/\dq ae 63=some 2:=⟨bp,bp,bp⟩
theorem DO (cl:cL)(args:List af)(m:Mem):(iX ae X0 64).body cl args m=tp X0 64 args m/\(iX ae X0 65).body cl args m=tp X0 65 args m/\(iX ae X0 66).body cl args m=tp X0 66 args m/\
  (iX ae X0 67).body cl args m=tp X0 67 args m/\(iX ae X0 69).body cl args m=tp X0 69 args m/\(iX ae X0 70).body cl args m=tp X0 70 args m:=by
 refine⟨?_,?_,?_,?_,?_,?_⟩<;>kernel_rfl
section
variable {K:iK}{m:Mem}
theorem yw {f:Nat}{args:List af}{v:af}{m':Mem}(hf:ig f=false)(ht:∀cl,(iX ae X0 f).body cl args m=tp X0 f args m)(h:tp X0 f args m=some (v,m')):Ev K f args m v m':=by
 refine⟨1,fun M n _ hn=>?_⟩;obtain⟨n,rfl⟩:∃k,n=k+1:=⟨n-1,av⟩;rw[K.step M n f args m hf,ht];exact h
theorem c64:Ev K 64 [] m (.tuple #[]) (Ut m (m.deaf+1)):=yw rfl (fun cl=>(DO cl [] m).1) rfl
theorem c66:Ev K 66 [] m (.tuple #[]) (Ut m (m.deaf-1)):=yw rfl (fun cl=>(DO cl [] m).2.2.1) rfl
theorem c67 {b o:Nat}:Ev K 67 [vP b o] m (.tuple #[]) m:=yw rfl (fun cl=>(DO cl [vP b o] m).2.2.2.1) rfl
theorem c69 {b o:Nat}:Ev K 69 [vP b o] m (.tuple #[]) m:=yw rfl (fun cl=>(DO cl [vP b o] m).2.2.2.2.1) rfl
theorem C7 {b sz o:Nat}{cs:List af}(vs:List af)(h:Obj m b sz cs)(hw:m.cY b o vs.length=true)(hn:o+vs.length<=cs.length)(hv:vs.all (·.oneCell')=true):
  ∃m',m.dS b o vs=some m'/\Obj m' b sz (qO cs o vs)/\Kp m m' (fun x=>x=b):=by
 obtain⟨m',e,o',k⟩:=dO vs h hw hn hv;unfold sO at e
 split at e
 ·rename_i m1 h1;cases e;exact⟨_,h1,o',k⟩
 ·cases e
theorem c65 {b sz:Nat}{x y:Int}{rest:List af}(h:Obj m b sz (.int .i32 x::rest))(hw:m.cY b 0 1=true):∃m',Ev K 65 [vP b 0,.int .i32 x,.int .i32 y] m (.bool true) m'/\Obj m' b sz (.int .i32 y::rest)/\Kp m m' (fun x=>x=b):=by
 obtain⟨m',e,o',k⟩:=C7 (o:=0) [.int .i32 y] h hw cK rfl;refine⟨m',yw rfl (fun cl=>(DO cl _ m).2.1) ?_,o',k⟩;have hl:m.dQ b 0 1=some [.int .i32 x]:=kg h rfl cK
 show(match m.dQ b 0 1 with |some [.int .i32 v]=>if v=x then(m.dS b 0 [.int .i32 y]).map fun m'=>(af.bool true,m')else if m.base<=b then some (.bool false,m)else none|_=>none)=_
 rw[hl]
 show(if x=x then _ else _)=_
 rw[bL rfl,e];rfl
theorem c70 {b sz:Nat}{x y:Int}{rest:List af}(h:Obj m b sz (.int .i32 x::rest))(hw:m.cY b 0 1=true):∃m',Ev K 70 [vP b 0,.int .i32 y] m (.int .i32 (cQ.i32.wrap (x+y))) m'/\Obj m' b sz (.int .i32 (cQ.i32.wrap (x+y))::rest)/\Kp m m' (fun x=>x=b):=by
 obtain⟨m',e,o',k⟩:=C7 (o:=0) [.int .i32 (cQ.i32.wrap (x+y))] h hw cK rfl;refine⟨m',yw rfl (fun cl=>(DO cl _ m).2.2.2.2.2) ?_,o',k⟩;have hl:m.dQ b 0 1=some [.int .i32 x]:=kg h rfl cK
 show(match m.dQ b 0 1 with |some [.int .i32 v]=>(m.dS b 0 [.int .i32 (cQ.i32.wrap (v+y))]).map fun m'=>(af.int .i32 (cQ.i32.wrap (v+y)),m')|_=>none)=_
 rw[hl]
 show(m.dS b 0 [.int .i32 (cQ.i32.wrap (x+y))]).map _=_
 rw[e];rfl
theorem MN {b sz:Nat}{c:af}{cs:List af}(h:Obj m b sz (c::cs)):ej ae 139 143 (vP b 0) m=some (vP b 0,m):=by
 unfold ej;simp only[I3.1,I3.2.1,I3.2.2,h.kind,h.cs];rfl
theorem Obj.df{b sz k:Nat}{cs:List af}(h:Obj m b sz cs):Obj (Ut m k) b sz cs:=⟨h.lt,h.kind,h.sz,h.cs,h.F5⟩
theorem Kp.df{m':Mem}{S:Nat->Prop}{k l:Nat}(h:Kp (Ut m k) m' S)(hl:l=m.deaf):Kp m (Ut m' l) S:=⟨h.next,h.bO,h.opn,h.base,h.home,h.floor,h.wg,h.pend,hl,h.blk⟩
theorem p24 (b:Nat):Path 24 [(vP b 0)]
 [.call 36 [(vP b 0)] (.tuple #[])]
 (.tuple #[]):=cg
theorem p36 (b:Nat):Path 36 [(vP b 0)]
 [.call 64 [] (.tuple #[]),
  .call 65 [(vP b 0),(.int .i32 0),(.int .i32 1)] (.bool true),
  bV,
  bV,
  .call 66 [] (.tuple #[]),
  .mem (ej ae 139 143 (vP b 0)) (vP b 0),
  .call 67 [(vP b 0)] (.tuple #[])]
 (.tuple #[]):=cg
theorem p25 (b:Nat):Path 25 [(vP b 0)]
 [.call 37 [(vP b 0)] (.tuple #[])]
 (.tuple #[]):=cg
theorem p37 (b:Nat):Path 37 [(vP b 0)]
 [bV,
  .mem (aI b 0) (.int .i32 1),
  .mem (ej ae 139 143 (vP b 0)) (vP b 0),
  .call 69 [(vP b 0)] (.tuple #[]),
  .call 64 [] (.tuple #[]),
  .call 70 [(vP b 0),(.int .i32 (-1))] (.int .i32 0),
  bm,
  .call 66 [] (.tuple #[])]
 (.tuple #[]):=cg
theorem p40 (db mp:Nat)(rc:Bool)(pn pc:Nat)(pa:Option Addr)(a b w u x1 x2 x3 x4 x5 x6 y1 y2 y3 y4:af)(e:Int)(aH a0 cf so:Nat):Path 40 [(vP db 0),(.agg #[(.bool rc),(.slice pa pn pc),a,b,w,u])]
 [cp [some (.bool rc),some (.slice pa pn pc),some a,some b,some w,some u] aH,
  cp [some (.slice none 0 0),some (.slice none 0 0),some (.slice none 0 0),some (vI 0)] a0,
  .mem (aI db 2) (.map (some mp)),
  ie 6 aH (.agg #[(.bool rc),(.slice pa pn pc),a,b,w,u]),
  cp [some (.slice none 0 0),some (.slice none 0 0),some (.slice none 0 0),some .nilIface,some (.slice none 0 0),some (.slice none 0 0)] cf,
  .mem (fe (vP cf 0)) (vI (so:Int)),
  .mem di undef,
  .call 75 [(.map (some mp)),(.agg #[(.bool rc),(.slice pa pn pc),a,b,w,u])] (.tuple #[(.agg #[x1,x2,x3,x4,x5,x6]),(vI 0)]),
  .mem (bS (vI (so:Int)) (vP cf 0) (fG (vP cf 0))) undef,
  .mem di undef,
  dV cf 0 [x1,x2,x3,x4,x5,x6],
  bm,
  ie 6 cf (.agg #[x1,x2,x3,x4,x5,x6]),
  .call 76 [(.agg #[x1,x2,x3,x4,x5,x6])] (.tuple #[(.agg #[y1,y2,y3,y4]),(vI e)]),
  dV a0 0 [y1,y2,y3,y4],
  lJ 31 a0 (.agg #[y1,y2,y3,y4])]
 (.tuple #[(.agg #[y1,y2,y3,y4]),(vI e)]):=cg
theorem aku (db:Nat)(rc:Bool)(pn pc:Nat)(pa:Option Addr)(a b w u y1 y2 y3 y4:af)(e:Int)(aH a0:Nat):Path 26 [(vP db 0),(.iface 108 (.agg #[(.bool rc),(.slice pa pn pc),a,b,w,u]))]
 [cp [some (.slice none 0 0),some (.slice none 0 0),some (.slice none 0 0),some (vI 0)] aH,
  bm,
  bm,
  bV,
  cp [some (.bool false),some (.slice none 0 0),some (.slice none 0 0),some (.slice none 0 0),some .nilIface,some (.slice none 0 0)] a0,
  dV a0 0 [(.bool rc),(.slice pa pn pc),a,b,w,u],
  ie 6 a0 (.agg #[(.bool rc),(.slice pa pn pc),a,b,w,u]),
  .call 40 [(vP db 0),(.agg #[(.bool rc),(.slice pa pn pc),a,b,w,u])] (.tuple #[(.agg #[y1,y2,y3,y4]),(vI e)]),
  dV aH 0 [y1,y2,y3,y4],
  lJ 31 aH (.agg #[y1,y2,y3,y4])]
 (.tuple #[(.agg #[y1,y2,y3,y4]),(vI e)]):=cg
theorem p12 (db:Nat)(t:ByteArray)(sv y1 y2 y3 y4:af)(e:Int)(aH a0:Nat):Path 12 [(vP db 0),(aY t)]
 [cp [some (.slice none 0 0),some (.slice none 0 0),some (.slice none 0 0),some (vI 0)] aH,
  .call 22 [(aY t)] (.tuple #[sv,(vI 0),(vI 0)]),
  bm,
  .call 24 [(vP db 0)] (.tuple #[]),
  .call 26 [(vP db 0),sv] (.tuple #[(.agg #[y1,y2,y3,y4]),(vI e)]),
  cp [some (.slice none 0 0),some (.slice none 0 0),some (.slice none 0 0),some (vI 0)] a0,
  dV a0 0 [y1,y2,y3,y4],
  ie 4 a0 (.agg #[y1,y2,y3,y4]),
  dV aH 0 [y1,y2,y3,y4],
  .call 25 [(vP db 0)] (.tuple #[]),
  lJ 31 aH (.agg #[y1,y2,y3,y4])]
 (.tuple #[(.agg #[y1,y2,y3,y4]),(vI e),(vI 0)]):=cg
theorem c24 {b sz:Nat}{rest:List af}(hd:m.deaf=0)(h:Obj m b sz (.int .i32 0::rest))(hw:m.cY b 0 1=true):∃m',Ev K 24 [vP b 0] m (.tuple #[]) m'/\Obj m' b sz (.int .i32 1::rest)/\Kp m m' (fun x=>x=b):=by
 obtain⟨m1,e1,o1,k1⟩:=c65 (K:=K) (m:=Ut m (m.deaf+1)) (y:=1) h.df hw;have ON:m1.deaf=1:=by rw[k1.deaf];show m.deaf+1=1;rw[hd]
 have o2:Obj (Ut m1 (m1.deaf-1)) b sz (.int .i32 1::rest):=o1.df;refine⟨Ut m1 (m1.deaf-1),ak (p24 b) (.call (ak (p36 b) (.call c64<| .call e1<| .cond rfl<| .cond rfl<| .call c66<| .mem (MN o2)<| .call c67 .nil)) .nil),o2,k1.df (by rw[ON,hd])⟩
theorem c25 {b sz:Nat}{rest:List af}(hd:m.deaf=0)(h:Obj m b sz (.int .i32 1::rest))(hw:m.cY b 0 1=true):∃m',Ev K 25 [vP b 0] m (.tuple #[]) m'/\Obj m' b sz (.int .i32 0::rest)/\Kp m m' (fun x=>x=b):=by
 obtain⟨m1,e1,o1,k1⟩:=c70 (K:=K) (m:=Ut m (m.deaf+1)) (y:= -1) h.df hw;have tc:cQ.i32.wrap (1+ -1)=0:=dB;rw[tc]at e1 o1;have ON:m1.deaf=1:=by rw[k1.deaf];show m.deaf+1=1;rw[hd]
 have l1:aI b 0 m=some (.int .i32 1,m):=aJ h rfl;refine⟨Ut m1 (m1.deaf-1),ak (p25 b) (.call (ak (p37 b) (.cond rfl<| .mem l1<| .mem (MN h)<| .call c69<| .call c64<| .call e1<| .cond rfl<| .call c66 .nil)) .nil),o1.df,k1.df (by rw[ON,hd])⟩
end
end Go.AM
