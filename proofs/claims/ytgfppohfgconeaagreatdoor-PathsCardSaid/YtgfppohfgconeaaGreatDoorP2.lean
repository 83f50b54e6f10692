/-
  What the claim stands on, part 2.
-/
import Derived.Test.YtgfppohfgconeaaGreatDoorP1
import Derived.Orders
import Derived.Conc.DeferLaws
import Derived.Conc.Own5
import Derived.Conc.QuitsD
set_option linter.unusedVariables false
set_option linter.unusedSimpArgs false
open Option renaming some → Z, none → Y
open Bool renaming true → U, false → O
open Go renaming Value → ab, Goroutine → ak, World → ar, Program → aE, TypeId → aT, IntKind → bY, Operand → cd, Oper → iK
open Bool renaming and_eq_true → ag, false_eq_true → cK
open Option.some renaming injEq → ah
open Nat renaming le_refl → aj, lt_of_lt_of_le → aZ, le_trans → bV
open Prod.mk renaming injEq → ay
open List renaming all_eq_true → aB
open Option renaming map_eq_some_iff → aD, bind_eq_some_iff → bM, map_some → dk, bind_some → dw, isSome_iff_exists → sH
namespace Go.AM
open Go
section
variable {P:aE}{ρ:dz}{m:Mem}{w:ar}{N:Nat}
theorem q9 {w:ar}{c:Nat}{o a}(d:w.heap[c]?=Z a)(g:∀C t f,a≠ .cells C t f)(e:∀C t f,o≠ .cells C t f)(b x:Nat):
  ({w with heap:=w.heap.setIfInBounds c o}:ar).cell? ⟨b,x,Y⟩=w.cell? ⟨b,x,Y⟩/\({w with heap:=w.heap.setIfInBounds c o}:ar).shape? b=w.shape? b/\({w with heap:=w.heap.setIfInBounds c o}:ar).frozen? ⟨b,x,Y⟩=w.frozen? ⟨b,x,Y⟩:=by
 have i:c<w.heap.size:=by
  rcases Nat.lt_or_ge c w.heap.size with h|h
  .exact h
  .rw[Array.getElem?_eq_none h]at d;cases d
 unfold ar.cell? ar.shape? ar.frozen?;simp only[Array.getElem?_setIfInBounds]
 by_cases hb:c=b
 .subst hb;simp only[if_true,bh i,d];cases o with
  |cells C t f=>exact absurd rfl (e C t f)
  |_=>cases a with
   |cells C t f=>exact absurd rfl (g C t f)
   |_=>exact⟨by first |rfl|trivial,by first |rfl|trivial,by first |rfl|trivial⟩
 .simp only[bH hb];refine⟨?_,?_,?_⟩<;>first |rfl|trivial
theorem gq.setObj(h:gq ρ m w){b:Nat}{p}(J:ρ b=Z p){k:eh}(hk:(m.blk b).kind=2\/(m.blk b).kind=3)(QM:k.kind=(m.blk b).kind){o S}(L:w.heap[p.c]?=Z S)(P:∀C t f,S≠ .cells C t f)(N:∀C t f,o≠ .cells C t f)
  (XM:k.kind=2->∃F,o=.map F k.clock/\bP (zO ρ) k.es.toList F.toList)(LZ:k.kind=3->p.d=0/\o=.stringIter k.str k.pos):
  Left ρ m w ρ (m.bB b k) {w with heap:=w.heap.setIfInBounds p.c o}:=by
 have z:∀a,(m.bB b k).blk a=if b=a then{k with bq:=m.tick}else m.blk a:=λa=>Mem.eP ..
 have u:∀a,((m.bB b k).blk a).kind=(m.blk a).kind:=λa=>by rw[z];split<;>simp_all
 have T:p.c<w.heap.size:=h.sX b p J;have mK:∀a x v,(m.bB b k).cell a x=Z v->b≠a/\m.cell a x=Z v:=by
  intro a x v D;have M:=(Mem.eW D).1;rw[u]at M;have s:b≠a:=by rintro rfl;omega
  refine⟨s,?_⟩;unfold Mem.cell at D⊢;rw[z,bH s]at D;exact D
 have V:∀a x,(m.bB b k).px a x->m.px a x:=by
  rintro a x ⟨q,r,y⟩;rw[u]at q;have s:b≠a:=by rintro rfl;omega
  rw[z,bH s]at y;exact⟨q,r,y⟩
 have XH:∀a x,(m.bB b k).okW a x->m.okW a x:=λa x H=>⟨V _ _ H.1,H.2⟩
 have W:∀a i,b≠a->ρ a=Z i->(m.blk a).kind≠0->p.c≠i.c:=λa i s j l sZ=>by
  have :=(h.sep b a p i s J j ai l sZ).1;omega
 refine⟨ρ.le_refl,⟨h.oe,λa i j l=>?_,λa i x v j D=>?_,λa i x j H l ph=>?_,λa i j l K=>?_,λa i j l K=>?_,λX zB pq qh s G Cm B A D=>?_,λa i j=>?_,λa i j l R=>?_⟩,⟨?_,?_,?_⟩,λ_ _=>rfl⟩
 .rw[u]at l;have s:b≠a:=by rintro rfl;omega
  rw[z,bH s];obtain⟨q,r,e,n,y,E⟩:=h.cells a i j l;exact⟨q,r,e,n,by rw[(q9 L P N i.c 0).2.1];exact y,E⟩
 .obtain⟨_,EK⟩:=mK _ _ _ D;obtain⟨v',q,r⟩:=h.lZ a i x v j EK;exact⟨v',by rw[(q9 L P N _ _).1];exact q,r⟩
 .rw[(q9 L P N _ _).2.2];rw[u]at l;exact h.thaw a i x j H l ph
 .rw[u]at l
  by_cases hb:b=a
  .subst hb;obtain rfl:p=i:=by rw[J]at j;exact Option.some.inj j
   obtain⟨F,rfl,g⟩:=XM ai;rw[z,bh rfl];exact⟨F,by simp[T],g⟩
  .rw[z,bH hb];obtain⟨F,q,r⟩:=h.maps a i j l K;exact⟨F,by rw[Array.getElem?_setIfInBounds_ne (W a i hb j ai)];exact q,r⟩
 .rw[u]at l
  by_cases hb:b=a
  .subst hb;obtain rfl:p=i:=by rw[J]at j;exact Option.some.inj j
   obtain⟨g,rfl⟩:=LZ ai;rw[z,bh rfl];exact⟨g,by simp[T]⟩
  .rw[z,bH hb];obtain⟨q,r⟩:=h.mJ a i j l K;exact⟨q,by rw[Array.getElem?_setIfInBounds_ne (W a i hb j ai)];exact r⟩
 .rw[u]at B A⊢;rw[u];exact h.sep X zB pq qh s G Cm B A D
 .simpa using h.sX a i j
 .rw[u]at l;have s:b≠a:=by rintro rfl;omega
  rw[z,bH s]at R;exact h.vars a i j l R
 .rintro c x ⟨a,i,q,r,y,E,Q⟩;exact .inl ⟨a,i,q,r,y,E,V _ _ Q⟩
 .rintro c x ⟨a,i,q,r,y,E,Q⟩;exact .inl ⟨a,i,q,r,y,E,XH _ _ Q⟩
 .rintro c ⟨a,i,q,r,y,E⟩;exact .inl ⟨a,i,q,r,by rwa[u]at y,E⟩
theorem xI {R:Perm}{c:Nat}{o a}(e:w.heap[c]?=Z a)(i:∀C t f,a≠ .cells C t f)(h:∀C t f,o≠ .cells C t f)(g:o.isChan=O)(b:R.ob c){Q}(d:Q () {w with heap:=w.heap.setIfInBounds c o}):dY P R N (setObj c o) Q w:=
 ⟨⟨a,e,i⟩,h,g,b,d⟩
theorem xJ {R:Perm}{c:Nat}{o}(d:w.heap[c]?=Z o)(g:∀C t f,o≠ .cells C t f)(e:o.isChan=O)(a:R.ob c){Q}(b:Q o w):dY P R N (getObj c) Q w:=
 ⟨o,d,g,e,a,b⟩
theorem N5 {R o Q}(a:Q w.heap.size {w with heap:=w.heap.push o}):dY P R N (newObj o) Q w:=a
theorem Ms (h:gq ρ m w){k x d p s i v m'}(y:aV ρ d p)(l:aV ρ s i)(a:HS P k d s m=Z (v,m'))
  {Q}(n:∀g c q,Left ρ m w q m' c->aV q v g->Q g c):dY P (az ρ m) N (Builtin.copy_ k x #[p,i]) Q w:=by
 unfold HS at a
 split at a
 .rename_i e base S B f;obtain⟨st,D,f⟩:=bM.1 f
  split at a
  .rename_i size sl C hlen
   split at a
   .rename_i K H J;obtain⟨cells,E,a⟩:=bM.1 a;obtain⟨G,R,rfl,j⟩:=sj.of y;unfold Builtin.copy_;simp only[D,List.getElem?_toArray,List.getElem?_cons_zero,List.getElem?_cons_succ];rw[au];refine aH f ?_;simp only[];rw[au];refine Ek l hlen ?_;rw[au];refine dS C ?_;rw[au];refine qq h l E λF t=>?_
    split at a
    .rename_i b o;obtain⟨L,A,_,rfl,_⟩:=j;obtain⟨M,u,r⟩:=aD.1 a;simp only[ay]at r;obtain⟨rfl,rfl⟩:=r;simp only[];rw[au];exact qM h A u t λc z _=>n _ _ _ z (cz rfl)
    .obtain⟨rfl,_⟩:=j;simp only[ah,ay]at a;obtain⟨rfl,rfl⟩:=a;exact n _ _ _ (Left.refl h) (cz rfl)
    .cases a
   .cases a
  .cases a
 .cases a
theorem JJ (h:gq ρ m w){r B x j v m'}(C:aV ρ x j)(a:oR P r x m=Z (v,m'))
  {Q}(g:∀l f u,Left ρ m w u m' f->aV u v l->Q l f):dY P (az ρ m) N (Builtin.clear_ r B #[j]) Q w:=by
 unfold oR at a
 split at a
 .rename_i e base n F i;obtain⟨st,G,i⟩:=bM.1 i;obtain⟨H,K,rfl,q⟩:=sj.of C;unfold Builtin.clear_;simp only[G,List.getElem?_toArray,List.getElem?_cons_zero];rw[au];refine aH i ?_
  split at a
  .obtain⟨rfl,_⟩:=q;simp only[ah,ay]at a;obtain⟨rfl,rfl⟩:=a;exact g _ _ _ (Left.refl h) kJ
  .rename_i b o;obtain⟨p,E,_,rfl,_⟩:=q
   split at a
   .rename_i t;subst t;simp only[ah,ay]at a;obtain⟨rfl,rfl⟩:=a;exact g _ _ _ (Left.refl h) kJ
   .rename_i t;obtain⟨z,s,a⟩:=bM.1 a;obtain⟨J,A,y⟩:=aD.1 a;simp only[ay]at y;obtain⟨rfl,rfl⟩:=y;obtain⟨k,rfl⟩:∃k,n=k+1:=⟨n-1,ai⟩
    show dY P (az ρ m) N (do storeCells ⟨p.c,p.d+o,Y⟩ (Builtin.zeroCells (<-zeroValue e).cells (k+1)).toList;pure (ab.tuple #[])) Q w
    rw[au];refine fD s ?_;rw[au];exact qM h E A (jo (Ca (kl s).1 _)) λf D _=>g _ _ _ D kJ
  .cases a
 .cases a
theorem Ec:∀{l:List ab}{c:List UInt8},l.mapM (m:=Option) (λv=>match v with | .int .u8 n=>Z (UInt8.ofNat n.toNat)|_=>Y)=Z c->l.all de=U
 | [],_,_=>rfl
 |v::l,c,h=>by
  rw[List.mapM_cons]at h;simp only[Option.bind_eq_bind,bM,Option.pure_def,ah]at h;obtain⟨x,b,d,a,rfl⟩:=h;rw[List.all_cons,Ec a,Bool.and_true]
  split at b
  .rfl
  .cases b
theorem Fl {R:Perm}{f}(i:∀n s,f (.int .u8 n) s=pure (.yield (s.push (UInt8.ofNat n.toNat)))){Q:ByteArray->ar->Prop}:
  ∀(l:List ab) (s:ByteArray) (c:List UInt8),l.mapM (m:=Option) (λv=>match v with | .int .u8 n=>Z (UInt8.ofNat n.toNat)|_=>Y)=Z c->Q ⟨s.data++c.toArray⟩ w->dY P R N (forIn l s f) Q w
 | [],s,c,h,g=>by
  simp at h;subst h
  show Q s w
  simpa using g
 |v::l,s,c,h,g=>by
  rw[List.mapM_cons]at h;simp only[Option.bind_eq_bind,bM,Option.pure_def,ah]at h;obtain⟨x,b,a,d,rfl⟩:=h
  split at b
  .rename_i n;simp only[ah]at b;subst b;rw[List.forIn_cons,i,pure_bind];refine Fl i l (s.push (UInt8.ofNat n.toNat)) a d ?_;have e:(s.push (UInt8.ofNat n.toNat)).data++a.toArray=s.data++(UInt8.ofNat n.toNat::a).toArray:=by
    show s.data.push _++a.toArray=_
    simp
   rw[e];exact g
  .cases b
theorem G7 {R}{r:Nat}{x}(h:w.shape? r=x){Q}(a:Q x w):dY P R N (shape r) Q w:=by
 show Q (w.shape? r) w
 rw[h];exact a
theorem E8 (h:gq ρ m w)(hN:N<=w.heap.size){s d x M v m'}(p:aV ρ x M)(f:gp P s d x m=Z (v,m'))
  {Q}(E:∀S R X,Left ρ m w X m' R->aV X v S->Q S R):dY P (az ρ m) N (convert s d M) Q w:=by
 unfold gp at f
 split at f
 .rename_i t b o z B;obtain⟨q,L,_,rfl⟩:=cQ.1 p;simp only[]at f
  split at f
  .rename_i k A
   split at f
   .rename_i V;simp only[ag,beq_iff_eq,iU]at V;simp only[ah,ay]at f;obtain⟨rfl,rfl⟩:=f;obtain⟨_,T5,e,n,G,F⟩:=h.cells b q L V.1;unfold convert;rw[au];refine aH z ?_;rw[au];refine aH B ?_
    show dY P (az ρ m) N (Conv.unsafePointer s d (.pointer (Z ⟨q.c,q.d+o,Y⟩))) Q w
    unfold Conv.unsafePointer;rw[au];refine aH z ?_;rw[au];refine aH B ?_;simp only[];rw[au];have LQ:∀{Q:Addr->ar->Prop},Q ⟨q.c,q.d+o,Y⟩ w->dY P (az ρ m) N (Conv.seenAt ⟨q.c,q.d+o,Y⟩) Q w:=by
     intro Q hQ;unfold Conv.seenAt viewAt;simp only[bind_assoc];rw[au]
     show dY P (az ρ m) N _ Q w
     rw[G];exact hQ
    refine LQ ?_;unfold cellsIn;simp only[bind_assoc];rw[au]
    show dY P (az ρ m) N _ Q w
    rw[G];simp only[pure_bind];rw[au];refine dS A ?_;rw[bH (by simp;omega)];exact E _ _ _ (Left.refl h) p
   .cases f
  .cases f
 .rename_i e j z B;obtain rfl:=(aG (by rfl)).1 p
  split at f
  .rename_i D
   split at f
   .cases f
   .rename_i ja;simp only[ah,ay]at f;obtain⟨rfl,rfl⟩:=f;unfold convert;rw[au];refine aH z ?_;rw[au];refine aH B ?_;simp only[];rw[au];refine aH D ?_;simp only[];unfold Conv.stringToBytes;rw[au];refine vj ai λy K hn2=>?_
    rw[au];refine qT ?_;generalize W:(j.data.map λb=>(ab.int .u8 b.toNat))++Array.replicate (y-j.size) (ab.int .u8 0)=C;rw[au];unfold markStringish;rw[au];have G:({w with drawn:=w.drawn+1,heap:=w.heap.push (.cells C e)}:ar).shape? w.heap.size=Z (e,C.size):=by
     unfold ar.shape?;simp
    refine G7 G ?_;refine⟨hN,?_⟩;have hf:({w with drawn:=w.drawn+1,heap:=w.heap.push (.cells C e)}:ar).freeze ⟨w.heap.size,C.size,Y⟩ 1={w with drawn:=w.drawn+1,heap:=w.heap.push (.cells C e (C.size,C.size+1))}:=by
     unfold ar.freeze;rw[bH ai];have :(w.heap.push (.cells C e)).modify w.heap.size (λ
      | .cells c elem (T,r)=> .cells c elem (if T==r then(C.size,C.size+1)else(min T C.size,max r (C.size+1)))
      |o=>o)=w.heap.push (.cells C e (C.size,C.size+1)):=by
      apply Array.ext_getElem?;intro i;rw[Array.getElem?_modify]
      by_cases r:w.heap.size=i
      .subst r;simp
      .rw[bH r];rcases Nat.lt_or_ge i w.heap.size with g|g
       .rw[Array.getElem?_push_lt g,Array.getElem?_push_lt g]
       .rw[Array.getElem?_eq_none (by simp;omega),Array.getElem?_eq_none (by simp;omega)]
     exact congrArg (λhp=>({w with drawn:=w.drawn+1,heap:=hp}:ar)) this
    show dY P (az ρ m) N (pure (ab.slice (Z ⟨w.heap.size,0,Y⟩) j.size y)) Q _
    rw[hf];have F:=sT h;have hCs:C.size=y:=by rw[<-W];simp;show j.size+(y-j.size)=y;omega
    have H:(m.alloc {kind:=1,sz:=1,cs:=j.data.toList.map λb=>Z (.int .u8 b.toNat)}).blk m.next={kind:=1,sz:=1,cs:=j.data.toList.map λb=>Z (.int .u8 b.toNat),bq:=m.tick}:=by rw[Mem.cC,bh rfl]
    have hL:Left ρ m w (ρ.put m.next ⟨w.heap.size,0,C.size,1⟩) (m.alloc {kind:=1,sz:=1,cs:=j.data.toList.map λb=>Z (.int .u8 b.toNat)}) {w with drawn:=w.drawn+1,heap:=w.heap.push (.cells C e (C.size,C.size+1))}:=by
     refine⟨dz.vr F _,(h.bump _).lay F dA (o:=.cells C e (C.size,C.size+1)) rfl rfl (λ_=>?_) (λA=>by rw[H]at A;simp at A) (λA=>by rw[H]at A;simp at A),
      (oj (lY h _) rfl rfl rfl rfl _).trans (xx F (aj _)),CE⟩
     rw[H];refine⟨rfl,rfl,?_,C,e,(C.size,C.size+1),rfl,aj _,λx p cN=>by have h1:x<C.size:=p;have h2:C.size<=x:=cN.1;omega,λi v r=>?_⟩
     .simp only[List.length_map,Array.length_toList];show j.size<=C.size;omega
     .rw[List.getElem?_map,aD]at r;obtain⟨u,J,p⟩:=r;obtain rfl:=Option.some.inj p;refine⟨_,?_,cz rfl⟩;rw[<-W];have cF:i<j.data.size:=by
       rcases Nat.lt_or_ge i j.data.size with g|g
       .exact g
       .rw[List.getElem?_eq_none (by simpa using g)]at J;cases J
      rw[Array.getElem?_append_left (by simpa using cF)];simp only[Array.getElem?_map,aD];exact⟨u,by simpa using J,rfl⟩
    refine E _ _ _ hL (cp.2 ⟨_,y,dz.lL ..,rfl,rfl,?_⟩);rw[bh rfl];refine⟨K,?_⟩
    show 0+y*1<=C.size
    omega
  .cases f
 .rename_i e a len cap z B
  split at f
  .rename_i D;obtain rfl:=(aG (by rfl)).1 p;simp only[ah,ay]at f;obtain⟨rfl,rfl⟩:=f;unfold convert;rw[au];refine aH z ?_;rw[au];refine aH B ?_;simp only[];rw[au];refine aH D ?_;exact E _ _ _ (Left.refl h) (cz rfl)
  .rename_i b o D;obtain⟨l,hl,f⟩:=bM.1 f;obtain⟨bs,Zw,f⟩:=aD.1 f;simp only[ay]at f;obtain⟨rfl,rfl⟩:=f;obtain⟨q,gX,L,_,rfl,_⟩:=cp.1 p;unfold convert;rw[au];refine aH z ?_;rw[au];refine aH B ?_;simp only[];rw[au];refine aH D ?_;simp only[];unfold Conv.bytesToString;simp only[];rw[au];refine h.sx L hl λl' BJ=>?_
   obtain rfl:=rQ (Ec Zw) BJ;rw[au];simp only[List.forIn_toArray];exact Fl (λ_ _=>rfl) l' ByteArray.empty bs Zw (E _ _ _ (Left.refl h) ((aG (by rfl)).2 dA))
  .cases f
 .cases f
theorem bytes_beq {a b:ByteArray}:(a==b)=U↔a=b:=by
 show(a.data==b.data)=U↔a=b
 rw[beq_iff_eq];exact⟨ByteArray.ext,λh=>by rw[h]⟩
theorem uM {R}{b:Bool}{n:Nat}{a}{s:ByteArray}(d:P.underlying a=Z .string){Q}(c:Q () w):dY P R N (Instr.checkKey b (n+1) a (.string s)) Q w:=by
 unfold Instr.checkKey;rw[au];refine aH d ?_;exact c
theorem BN {s:ByteArray}:∀{es mT:List MapEntry} (i:Nat),bP (zO ρ) es mT->strKeys es=U->
  ∃r,Instr.findNow .string (.string s) mT i=Z r/\(match lV s es i with
   |some (j,v)=>∃d,r=Z (j,d)/\aV ρ v d
   |none=>r=Y)
 | [],[],i,_,_=>⟨Y,rfl,rfl⟩
 | [],_::_,_,h,_=>h.elim
 |_::_,[],_,h,_=>h.elim
 |e::es,p::mT,i,h,f=>by
  obtain⟨⟨g,l,_⟩,m⟩:=h;simp only[strKeys,ag]at f;obtain⟨k,c⟩:=f
  split at k
  .rename_i a b;rw[b]at g;have o:=(aG (by rfl)).1 g;unfold Instr.findNow lV;rw[o,b];simp only[Instr.sameNow]
   by_cases hb:(s==a)=U
   .rw[hb];exact⟨_,rfl,_,rfl,l⟩
   .have n:(s==a)=O:=by simpa using hb
    rw[n];simp only[cK,if_false];exact BN (i+1) m c
  .cases k
theorem BP {R b}{s:ByteArray}(e:P.underlying b=Z .string){es mT}(f:bP (zO ρ) es mT)(c:strKeys es=U){Q}
  (d:∀r,(match lV s es 0 with
   |some (j,v)=>∃a,r=Z (j,a)/\aV ρ v a
   |none=>r=Y)->Q r w):dY P R N (Instr.findKey b (.string s) mT) Q w:=by
 unfold Instr.findKey;rw[au];refine aH e ?_;obtain⟨r,h,g⟩:=BN (s:=s) 0 f c;rw[h];exact d _ g
theorem Gg (h:gq ρ m w){t x A k D v}{ok:Bool}(E:aV ρ x A)(L:aV ρ k D)(a:jA P t x k ok m=Z v)
  {Q}(K:∀B,aV ρ v B->Q B w):dY P (az ρ m) N (Instr.lookup t A D ok) Q w:=by
 unfold jA at a
 split at a
 .rename_i C V r s H;obtain rfl:=(aG (by rfl)).1 L
  split at a
  .rename_i z f n;have fin:∀{es mT:List MapEntry} (_:bP (zO ρ) es mT) (_:strKeys es=U),(let v:=match lV s es 0 with |some (_,v)=>(v,U)|none=>(z,O)
     (if ok then ab.tuple #[v.1,.bool v.2]else v.1))=v->∀b,dY P (az ρ m) N (do
      Instr.checkKey b 10000 C (.string s)
      let(v,l)<-match<-Instr.findKey C (.string s) mT with
       |some (_,v)=>pure (v,U)
       |none=>pure (<-zeroValue V,O)
      pure (if ok then ab.tuple #[v,.bool l]else v)) Q w:=by
    intro es mT M J d b;rw[au];refine uM f ?_;rw[au];refine BP f M J λr q=>?_
    have G:∀u e b,aV ρ u e->(if ok then ab.tuple #[u,.bool b]else u)=v->Q (if ok then ab.tuple #[e,.bool b]else e) w:=by
     intro u e b i d;refine K _ ?_;subst d;cases ok with
     |false=>exact i
     |true=>exact fw.2 ⟨_,rfl,i,cz rfl,trivial⟩
    split at q
    .rename_i j u y;obtain⟨e,rfl,i⟩:=q;simp only[y]at d;exact G _ _ _ i d
    .rename_i y;subst q;simp only[y]at d;simp only[];rw[au];refine fD n ?_;exact G _ _ _ (by
      have :=kl n;refine cz ?_;unfold iT at n;cases z with
      |agg cs=>exact this.1
      |tuple cs=>exact absurd this.1 (by simp[ab.cells,de])
      |_=>simpa[plain,ab.cells]using this.1) d
   unfold Instr.lookup;rw[au];refine aH H ?_;simp only[]
   split at a
   .rename_i es c
    split at a
    .rename_i o;simp only[ah]at a
     split at c
     .simp only[ah]at c;subst c;obtain rfl:=(aG (by rfl)).1 E;exact fin (es:=[]) (mT:=[]) trivial rfl a U
     .rename_i b;simp only[]at c
      split at c
      .rename_i g;simp only[ag,beq_iff_eq]at g;simp only[ah]at c;subst c;obtain⟨p,F,rfl⟩:=jG.1 E;obtain⟨mT,T,S⟩:=h.maps b p F g.1 g.2;simp only[bind_assoc];rw[au];refine xJ (R:=az ρ m) T (by intro _ _ _ h;cases h) rfl ⟨b,p,F,rfl,.inl g.1,g.2⟩ ?_;simp only[pure_bind];exact fin S o a _
      .cases c
    .cases a
   .cases a
  .cases a
 .cases a
theorem BM {s:ByteArray}:∀{es:List MapEntry}{i j:Nat}{v:ab},lV s es i=Z (j,v)->i<=j/\∃e,es[j-i]?=Z e/\e.key=.string s
 | [],_,_,_,h=>by cases h
 |e::es,i,j,v,h=>by
  unfold lV at h
  split at h
  .rename_i k a
   split at h
   .rename_i b;simp only[ah,ay]at h;obtain⟨rfl,rfl⟩:=h;refine⟨aj _,e,dA,?_⟩;rw[a,bytes_beq.1 b]
   .obtain⟨g,f,d,c⟩:=BM h;refine⟨ai,f,?_,c⟩;rw[show j-i=(j-(i+1))+1 by omega];simpa using d
  .cases h
theorem KX {l r}(h:bP (zO ρ) l r)(i:Nat){f g}(k:∀a b,zO ρ a b->zO ρ (f a) (g b)):bP (zO ρ) (l.modify i f) (r.modify i g):=by
 refine bP.IQ (by simp[h.length]) λj a b d m=>?_
 rw[List.getElem?_modify]at d m;cases e:l[j]? with
 |none=>simp[e]at d
 |some x=>
  obtain⟨y,o,n⟩:=h.get e;rw[e]at d;rw[o]at m;obtain rfl:=Option.some.inj d;obtain rfl:=Option.some.inj m
  show zO ρ (if i=j then f x else x) (if i=j then g y else y)
  by_cases c:i=j
  .rw[bh c,bh c];exact k _ _ n
  .rw[bH c,bH c];exact n
theorem Ai (h:gq ρ m w){t x H k M v K m'}(X:aV ρ x H)(hk:aV ρ k M)(R:aV ρ v K)(d:ml P t x k v m=Z m')
  {Q}(S:∀J,Left ρ m w ρ m' J->Q () J):dY P (az ρ m) N (Instr.mapUpdate t H M K) Q w:=by
 unfold ml at d
 split at d
 .rename_i kt et b s ht;obtain rfl:=(aG (by rfl)).1 hk
  split at d
  .rename_i f;simp only[]at d
   split at d
   .rename_i T;simp only[ag,beq_iff_eq]at T;obtain⟨⟨q,W⟩,y⟩:=T;obtain⟨p,l,rfl⟩:=jG.1 X;obtain⟨L,j,o⟩:=h.maps b p l q W;have G:(az ρ m).ob p.c:=⟨b,p,l,rfl,.inl q,W⟩;unfold Instr.mapUpdate;rw[au];refine aH ht ?_;simp only[];rw[au];refine xJ j (by intro _ _ _ h;cases h) rfl G ?_;simp only[];rw[au];refine uM f ?_;rw[au];refine BP f o y λr z=>?_
    split at z
    .rename_i i u n;obtain⟨u',rfl,hu⟩:=z;rw[n]at d;simp only[ah]at d;subst d;obtain⟨_,e,g,B⟩:=BM n;rw[Nat.sub_zero]at g;obtain⟨V,C,A⟩:=o.get g;have D:V.key=.string s:=by have :=A.1;rw[B]at this;exact(aG (by rfl)).1 this
     have hold:((L[i]?).map (·.key)).getD (.string s)=.string s:=by
      rw[show L[i]?=Z V by simpa using C];exact D
     simp only[];rw[au,hold];have E:∀{Q:ab->ar->Prop},Q (.string s) w->dY P (az ρ m) N (Instr.keyThatStays (.string s) (.string s)) Q w:=by
      intro Q hQ;unfold Instr.keyThatStays;rw[bh (by show(s==s)=U;exact bytes_beq.2 rfl)];exact hQ
     refine E ?_;refine xI j (by intro _ _ _ h;cases h) (by intro _ _ _ h;cases h) rfl G ?_;refine S _ (h.setObj l (.inl q) (by rfl) j (by intro _ _ _ h;cases h) (by intro _ _ _ h;cases h) (λ_=>⟨_,rfl,?_⟩) (λF=>by have :(m.blk b).kind=3:=F;omega));simp only[Array.toList_modify];exact KX o i λa b Ay=>⟨cz rfl,R,Ay.2.2⟩
    .rename_i n;subst z;rw[n]at d;simp only[ah]at d;subst d;simp only[];refine xI j (by intro _ _ _ h;cases h) (by intro _ _ _ h;cases h) rfl G ?_;refine S _ (h.setObj l (.inl q) (by rfl) j (by intro _ _ _ h;cases h) (by intro _ _ _ h;cases h) (λ_=>⟨_,rfl,?_⟩) (λF=>by have :(m.blk b).kind=3:=F;omega));simp only[Array.toList_push];exact o.append ⟨⟨cz rfl,R,rfl⟩,trivial⟩
   .cases d
  .cases d
 .cases d
theorem GD {t z}(a:iT P t=Z z):aV ρ z z:=by
 have :=kl a;refine cz ?_;cases z with
 |agg cs=>exact this.1
 |tuple cs=>exact absurd this.1 (by simp[ab.cells,de])
 |_=>simpa[plain,ab.cells]using this.1
theorem yE {x i v t a}{ok:Bool}(k:aV ρ x i)(b:rL P x t a ok=Z v){R}
  {Q}(g:∀j,aV ρ v j->Q j w):dY P R N (Instr.typeAssert i t a ok) Q w:=by
 unfold rL at b
 split at b
 .cases b
 .rename_i d c h;obtain rfl:=(aG (by rfl)).1 k;obtain⟨z,f,rfl⟩:=aD.1 b;unfold Instr.typeAssert;rw[au];refine aH h ?_;cases d with
  |interface ms=>exact(c _ rfl).elim
  |_=>
   simp only[if_true];rw[au];refine fD f ?_;exact g _ (fw.2 ⟨_,rfl,GD f,cz rfl,trivial⟩)
 .rename_i d n u c h;obtain⟨m,rfl,l⟩:=gB.1 k;unfold Instr.typeAssert;rw[au];refine aH h ?_;cases d with
  |interface ms=>exact(c _ rfl).elim
  |_=>
   simp only[if_true]
   split at b
   .rename_i e;rw[bh e];simp only[ah]at b;subst b;exact g _ (fw.2 ⟨_,rfl,l,cz rfl,trivial⟩)
   .rename_i e;rw[bH e];obtain⟨z,f,rfl⟩:=aD.1 b;rw[au];refine fD f ?_;exact g _ (fw.2 ⟨_,rfl,GD f,cz rfl,trivial⟩)
 .cases b
theorem gq.Qh(h:gq ρ m w){k:eh}{o}(j:k.kind=2\/k.kind=3)(g:k.kind=2->∃c,o=.map c k.clock/\bP (zO ρ) k.es.toList c.toList)(i:k.kind=3->o=.stringIter k.str k.pos):
  Left ρ m w (ρ.put m.next ⟨w.heap.size,0,0,0⟩) (m.alloc k) {w with heap:=w.heap.push o}:=by
 have b:=sT h;have a:(m.alloc k).blk m.next={k with bq:=m.tick}:=by rw[Mem.cC,bh rfl]
 refine⟨dz.vr b _,(h.bump k).lay b dA (o:=o) rfl rfl (λf=>?_) (λe=>?_) (λd=>?_),
  (oj (lY h _) rfl rfl rfl rfl _).trans (xx b (aj _)),CE⟩
 .rw[a]at f;simp at f;omega
 .rw[a]at e⊢;exact g e
 .rw[a]at d⊢;exact⟨rfl,i d⟩
theorem IB (h:gq ρ m w){t x b v m'}(f:aV ρ x b)(a:z9 P t x m=Z (v,m')){R}
  {Q}(i:∀d c e,Left ρ m w e m' c->aV e v d->Q d c):dY P R N (Instr.range t b) Q w:=by
 unfold z9 at a
 split at a
 .rename_i s g;obtain rfl:=(aG (by rfl)).1 f;simp only[ah,ay]at a;obtain⟨rfl,rfl⟩:=a;unfold Instr.range;rw[au];refine aH g ?_;simp only[pure_bind];rw[au];refine N5 ?_;exact i _ _ _ (h.Qh (.inr rfl) iq λ_=>rfl) (cQ.2 ⟨_,dz.lL ..,rfl,rfl⟩)
 .cases a
theorem Lr (h:gq ρ m w){n e v}{f:Bool}{t m'}(u:aV ρ n e)(a:Hd n f m=Z (v,m'))
  {Q}(o:∀l k r,Left ρ m w r m' k->aV r v l->Q l k):dY P (az ρ m) N (Instr.next e f t) Q w:=by
 unfold Hd at a
 split at a
 .rename_i b;obtain⟨p,g,_,rfl⟩:=cQ.1 u;simp only[]at a
  split at a
  .rename_i d;simp only[ag,beq_iff_eq]at d;obtain⟨q,i⟩:=h.mJ b p g d.1 d.2;have s:(az ρ m).ob p.c:=⟨b,p,g,rfl,.inr d.1,d.2⟩;unfold Instr.next;simp only[q,Nat.zero_add];rw[au];refine xJ i (by intro _ _ _ h;cases h) rfl s ?_;simp only[]
   split at a
   .rename_i j;rw[bh j];simp only[ah,ay]at a;obtain⟨rfl,rfl⟩:=a;rw[au];refine xI i (by intro _ _ _ h;cases h) (by intro _ _ _ h;cases h) rfl s ?_;exact o _ _ _ (h.setObj g (.inr d.1) (by rfl) i (by intro _ _ _ h;cases h) (by intro _ _ _ h;cases h) (λx=>by have :(m.blk b).kind=2:=x;omega) λ_=>⟨q,rfl⟩) (cz rfl)
   .rename_i j;rw[bH j];simp only[ah,ay]at a;obtain⟨rfl,rfl⟩:=a;exact o _ _ _ (Left.refl h) (cz rfl)
  .cases a
 .cases a
end
section
variable {P:aE}{ρ:dz}{m:Mem}{w:ar}{N:Nat}
theorem Bs {α:Type}{R}:∀{s:Sem α}{a:α},s.aQ P=Z a->∀{Q:α->ar->Prop},Q a w->dY P R N s Q w
 | .pure a,b,h,Q,c=>by
  simp only[Sem.aQ,ah]at h;subst h;exact c
 | .program k,b,h,Q,c=>Bs (s:=k P) h c
 | .load ..,_,h,_,_=>by simp[Sem.aQ]at h
 | .store ..,_,h,_,_=>by simp[Sem.aQ]at h
 | .new ..,_,h,_,_=>by simp[Sem.aQ]at h
 | .shape ..,_,h,_,_=>by simp[Sem.aQ]at h
 | .freeze ..,_,h,_,_=>by simp[Sem.aQ]at h
 | .frozen ..,_,h,_,_=>by simp[Sem.aQ]at h
 | .getObj ..,_,h,_,_=>by simp[Sem.aQ]at h
 | .setObj ..,_,h,_,_=>by simp[Sem.aQ]at h
 | .choose ..,_,h,_,_=>by simp[Sem.aQ]at h
 | .sys ..,_,h,_,_=>by simp[Sem.aQ]at h
 | .mark ..,_,h,_,_=>by simp[Sem.aQ]at h
 | .halt ..,_,h,_,_=>by simp[Sem.aQ]at h
def anK (ρ:dz)(v:ab)(nx:Next):Prop:=∃v',aV ρ v v'/\(nx=.value v'\/(nx=.skip/\v=undef/\v'=undef))
def ie (P:aE)(ρ:dz)(m:Mem)(N:Nat)(s:Sem Next)(v:ab)(m':Mem)(w:ar):Prop:=
 dY P (az ρ m) N s (λnx w'=>∃bK,Left ρ m w bK m' w'/\anK bK v nx) w
variable {v:ab}{m':Mem}
theorem ie.val{s}(h:∀{Q:ab->ar->Prop},(∀a c b,Left ρ m w b m' c->aV b v a->Q a c)->dY P (az ρ m) N s Q w):ie P ρ m N (do pure (.value (<-s))) v m' w:=by
 unfold ie;rw[au];exact h λa c b e d=>⟨b,e,a,d,.inl rfl⟩
theorem ie.jr(c:gq ρ m w){s}(h:∀{Q:ab->ar->Prop},(∀a,aV ρ v a->Q a w)->dY P (az ρ m) N s Q w):ie P ρ m N (do pure (.value (<-s))) v m w:=
 ie.val λd=>h λa b=>d a w ρ (Left.refl c) b
theorem ie.unit{s}(h:∀{Q:Unit->ar->Prop},(∀a,Left ρ m w ρ m' a->Q () a)->dY P (az ρ m) N s Q w):ie P ρ m N (do s;pure .skip) undef m' w:=by
 unfold ie;rw[au];exact h λa b=>⟨ρ,b,undef,oy,.inr ⟨rfl,rfl,rfl⟩⟩
theorem ie.now(c:gq ρ m w){a}(b:aV ρ v a):ie P ρ m N (pure (.value a)) v m w:=⟨ρ,Left.refl c,a,b,.inl rfl⟩
theorem Bv {r d}{name:String}{f:Nat}{recv}(h:aV ρ r d)(hm:gP P r name=Z (f,recv)):
  ∃t u b i a e,r=.iface t u/\d=.iface t b/\recv=u/\aV ρ u b/\P.info? t=Z i/\P.underlying t=Z (.pointer e)/\i.methods.find? (·.name==name)=Z a/\a.path.toList=[]/\a.func=Z (f,U):=by
 unfold gP at hm
 split at hm
 .rename_i t u;obtain⟨b,rfl,g⟩:=gB.1 h
  split at hm
  .rename_i i e k m
   split at hm
   .rename_i a c
    split at hm
    .rename_i n j l;simp only[ah,ay]at hm;obtain⟨rfl,rfl⟩:=hm;exact⟨t,u,b,i,a,e,rfl,rfl,rfl,g,k,m,c,j,l⟩
    .cases hm
   .cases hm
  .cases hm
 .cases hm
theorem Cl {t c i a}{name:String}{f n:Nat}(hi:P.info? t=Z i)(b:i.methods.find? (·.name==name)=Z a)(e:a.path.toList=[])(g:a.func=Z (f,U))
  {R Q}(d:Q (Z O) w):dY P R N (nilAhead (n+1) t c name) Q w:=by
 unfold nilAhead;rw[au];refine iB hi ?_;rw[b];simp only[e,followBlind,pure_bind];rw[g];exact d
theorem jC {op t x y a b R Q}(e:∀g f,a=.agg g->b=.agg f->False)(d:a=.nilIface->b=.nilIface->(isConst x||isConst y)=U)(c:Q () w):
  dY P R N (eqGuard op t x y a b) Q w:=by
 unfold eqGuard
 split
 .rw[bH dA]
  split
  .have :=d rfl rfl;unfold isConst at this;rw[bh (by cases x<;>cases y<;>simp_all)];exact c
  .exact(e _ _ rfl rfl).elim
  .exact c
 .rw[bH dA]
  split
  .have :=d rfl rfl;unfold isConst at this;rw[bh (by cases x<;>cases y<;>simp_all)];exact c
  .exact(e _ _ rfl rfl).elim
  .exact c
 .exact c
theorem BQ {t A z x m y j}{b:Bool}(o:aV ρ x m)(k:aV ρ y j)(g:tk P t (isConst A) (isConst z) x y=Z b){R}:
  (∀{Q:Bool->ar->Prop},Q b w->dY P R N (Op.equal t m j) Q w)/\(∀f {Q:Unit->ar->Prop},Q () w->dY P R N (eqGuard f t A z m j) Q w)/\
  (∀f,binOp f t m j=match f with | .eql=>(do pure (.bool (<-Op.equal t m j)))| .neq=>(do pure (.bool (!(<-Op.equal t m j))))|f=>binOp f t m j):=by
 unfold tk at g
 split at g
 .rename_i e q i;simp only[ah]at g;subst g;obtain rfl:=(aG (by rfl)).1 o;have v:∃n,j=.pointer n/\n.isNone=q.isNone:=by
   cases q with
   |none=>exact⟨Y,(aG (by rfl)).1 k,rfl⟩
   |some a=>obtain⟨p,_,_,rfl⟩:=cQ.1 k;exact⟨_,rfl,rfl⟩
  obtain⟨n,rfl,s⟩:=v;refine⟨λd=>?_,λf Q d=>jC (λ_ _ h _=>by cases h) iq d,λf=>by cases f<;>rfl⟩;unfold Op.equal Op.maxDepth Op.equalIn;rw[au];refine aH i ?_
  show _
  rw[<-s]at d;exact d
 .rename_i e a i;simp only[ah]at g;subst g;obtain⟨p,_,_,rfl⟩:=cQ.1 o;obtain rfl:=(aG (by rfl)).1 k;refine⟨λd=>?_,λf Q d=>jC (λ_ _ h _=>by cases h) iq d,λf=>by cases f<;>rfl⟩;unfold Op.equal Op.maxDepth Op.equalIn;rw[au];refine aH i ?_;exact d
 .rename_i e l c q C G i;simp only[ah]at g;subst g;obtain rfl:=(aG (by rfl)).1 o;have v:∃n r,j=.slice n C r/\n.isNone=q.isNone:=by
   cases q with
   |none=>exact⟨Y,_,(aG (by rfl)).1 k,rfl⟩
   |some a=>obtain⟨p,_,_,_,rfl,_⟩:=cp.1 k;exact⟨_,_,rfl,rfl⟩
  obtain⟨n,r,rfl,s⟩:=v;refine⟨λd=>?_,λf Q d=>jC (λ_ _ h _=>by cases h) iq d,λf=>by cases f<;>rfl⟩;unfold Op.equal Op.maxDepth Op.equalIn;rw[au];refine aH i ?_;rw[<-s]at d;exact d
 .rename_i e a l c C G i;simp only[ah]at g;subst g;obtain⟨p,_,_,_,rfl,_⟩:=cp.1 o;obtain rfl:=(aG (by rfl)).1 k;refine⟨λd=>?_,λf Q d=>jC (λ_ _ h _=>by cases h) iq d,λf=>by cases f<;>rfl⟩;unfold Op.equal Op.maxDepth Op.equalIn;rw[au];refine aH i ?_;exact d
 .rename_i B i
  split at g
  .rename_i F;simp only[ah]at g;subst g;obtain rfl:=(aG (by rfl)).1 o;obtain rfl:=(aG (by rfl)).1 k;refine⟨λd=>?_,λf Q d=>jC (λ_ _ h _=>by cases h) (λ_ _=>F) d,λf=>by cases f<;>rfl⟩;unfold Op.equal Op.maxDepth Op.equalIn;rw[au];refine aH i ?_;exact d
  .cases g
 .rename_i B E u i;simp only[ah]at g;subst g;obtain rfl:=(aG (by rfl)).1 o;obtain⟨D,rfl,_⟩:=gB.1 k;refine⟨λd=>?_,λf Q d=>jC (λ_ _ h _=>by cases h) (λ_ h=>by cases h) d,λf=>by cases f<;>rfl⟩;unfold Op.equal Op.maxDepth Op.equalIn;rw[au];refine aH i ?_;exact d
 .rename_i B E u i;simp only[ah]at g;subst g;obtain⟨D,rfl,_⟩:=gB.1 o;obtain rfl:=(aG (by rfl)).1 k;refine⟨λd=>?_,λf Q d=>jC (λ_ _ h _=>by cases h) iq d,λf=>by cases f<;>rfl⟩;unfold Op.equal Op.maxDepth Op.equalIn;rw[au];refine aH i ?_;exact d
 .cases g
theorem Ga {ev qF}{o:iK}(g:∀x∈o.op.operands,aV ρ (ev x) (qF x))(k:∀j b,o.op≠ .select j b)(e:gq ρ m w)(h:dv P ev o=Z v):ie P ρ m N (execOp qF o) v m w:=by
 unfold dv at h
 split at h
 .rename_i c;rw[Array.all_eq_true']at c;have f:execOp qF o=execOp ev o:=execOp_congr o k λx a=>Nn (c x a) (g x a)
  rw[f]
  split at h
  .rename_i u d
   split at h
   .rename_i i;simp only[ah]at h;subst h;exact Bs d ⟨ρ,Left.refl e,_,cz i,.inl rfl⟩
   .cases h
  .cases h
 .cases h
theorem Ad {ev qF:cd->ab}{ps:Array (Nat×cd)}(d:∀x∈(ps.toList.map (·.2)).toArray,aV ρ (ev x) (qF x)):
  bP (λ(a b:Nat×ab)=>b.1=a.1/\aV ρ a.2 b.2) (ps.map λ(i,x)=>(i,ev x)).toList (ps.map λ(i,x)=>(i,qF x)).toList:=by
 simp only[Array.toList_map];refine bP.qU λx c=>⟨rfl,d _ ?_⟩
 simp only[List.mem_toArray,List.mem_map];exact⟨x,c,rfl⟩
theorem P3 {ev qF:cd->ab}{x:Option cd}(a:∀y∈x,aV ρ (ev y) (qF y)):JX ρ (x.map ev) (x.map qF):=by
 cases x with
 |none=>trivial
 |some y=>exact a y rfl
set_option maxHeartbeats 2000000 in
theorem G6{ev qF:cd->ab}{o:iK}(B:gq ρ m w)(hN:N<=w.heap.size)(j:∀x∈o.op.operands,aV ρ (ev x) (qF x))(h:dL P ev o m=Z (v,m')):ie P ρ m N (execOp qF o) v m' w:=by
 have M:(∀K b,o.op≠ .select K b)->(dv P ev o).map (λv=>(v,m))=Z (v,m')->ie P ρ m N (execOp qF o) v m' w:=by
  intro S V;obtain⟨u,D,C⟩:=aD.1 V;simp only[ay]at C;obtain⟨rfl,rfl⟩:=C;exact Ga j S B D
 unfold dL at h
 split at h
 .
  rename_i x g;simp only[g,Op.operands]at j;simp only[ah,ay]at h;obtain⟨rfl,rfl⟩:=h;simp only[execOp,g];exact ie.now B (j x dA)
 .rename_i x g;simp only[g,Op.operands]at j;simp only[ah,ay]at h;obtain⟨rfl,rfl⟩:=h;simp only[execOp,g];exact ie.now B (j x dA)
 .
  rename_i c a b g;simp only[g,Op.operands]at j
  split at h
  .rename_i t F;simp only[ah,ay]at h;obtain⟨rfl,rfl⟩:=h;have E:=j c dA;rw[F]at E;have E:=(aG (by rfl)).1 E;simp only[execOp,g,E,asBool,pure_bind];refine ie.now B ?_;cases t
   .exact j b dA
   .exact j a dA
  .cases h
 .
  rename_i e g;obtain⟨z,hz,C⟩:=aD.1 h;simp only[cI,ay]at C;obtain⟨rfl,rfl⟩:=C;simp only[execOp,g];refine ie.val λA=>?_
  unfold Instr.alloc;rw[au];refine fD hz ?_
  show dY P (az ρ m) N (do let a<-newVar e z;pure (ab.pointer (Z a))) _ w
  rw[au];exact D9 B (sz:=0) (zU hz) λw' bK hL hv=>A _ _ _ hL hv
 .
  rename_i e x g;simp only[g,Op.operands]at j;simp only[cI,ah,ay]at h;obtain⟨rfl,rfl⟩:=h;simp only[execOp,g];refine ie.val λA=>?_
  unfold Instr.box
  show dY P (az ρ m) N (do let a<-newVar e (qF x);pure (ab.pointer (Z a))) _ w
  rw[au];exact D9 B (sz:=0) (j x dA).cells λw' bK hL hv=>A _ _ _ hL hv
 .
  rename_i t ps g;simp only[g,Op.operands]at j;obtain⟨u,D,C⟩:=aD.1 h;simp only[ay]at C;obtain⟨rfl,rfl⟩:=C;simp only[execOp,g];exact ie.jr B λA=>JL (Ad j) D A
 .
  rename_i t n ps g;simp only[g,Op.operands]at j;simp only[execOp,g];exact ie.val λA=>zG B (Ad j) h A
 .
  rename_i t a g;simp only[g,Op.operands]at j;obtain⟨u,D,C⟩:=aD.1 h;simp only[ay]at C;obtain⟨rfl,rfl⟩:=C;simp only[execOp,g];exact ie.jr B λA=>BB B (j a dA) D A
 .
  rename_i t a x g;simp only[g,Op.operands]at j;obtain⟨u,D,C⟩:=aD.1 h;simp only[ay]at C;obtain⟨rfl,rfl⟩:=C;simp only[execOp,g];exact ie.unit λA=>Il B (j a dA) (j x dA) D A
 .
  rename_i x g;simp only[g,Op.operands]at j;have E:=j x dA
  split at h
  .rename_i a G;simp only[ah,ay]at h;obtain⟨rfl,rfl⟩:=h;rw[G]at E;have J:=cQ.1 E;obtain⟨p,_,_,Q⟩:=J;simp only[execOp,g,Q];rw[Q]at E;exact ie.now B E
  .rename_i name first cap G
   split at h
   .rename_i r W
    split at h
    .rename_i V;simp only[ah,ay]at h;obtain⟨rfl,rfl⟩:=h;rw[G]at E;obtain⟨f',c',Q,hf,oI⟩:=gA.1 E;obtain⟨⟨f,recv⟩,V⟩:=sH.1 V;obtain⟨r',Ew,hrr⟩:=hf.get (i:=0) (by simpa using W);obtain⟨t,u,X,i,mt,e,rfl,rfl,_,D,hi,_,hmt,hp,S2⟩:=Bv hrr V;simp only[execOp,g,Q];rw[Q]at E;have apY:(f'[0]?:Option ab)=Z (.iface t X):=by simpa using Ew
     rw[apY];unfold ie;simp only[];rw[au]
     show dY P (az ρ m) N (nilAhead (P.types.size+Made.depth) t X name>>=_) _ w
     rw[au];have hd:∃k,P.types.size+Made.depth=k+1:=by
      have :Made.depth≠0:=eJ;exact⟨P.types.size+Made.depth-1,ai⟩
     obtain⟨k,hk⟩:=hd;rw[hk];refine Cl hi hmt hp S2 ?_;exact⟨ρ,Left.refl B,_,E,.inl rfl⟩
    .cases h
   .cases h
  .cases h
 .
  rename_i op t x y q g;have S:∀K b,o.op≠ .select K b:=λK b F=>by rw[g]at F;cases F
  have G:aV ρ (ev x) (qF x):=j x (by rw[g];simp[Op.operands]);have hy:aV ρ (ev y) (qF y):=j y (by rw[g];simp[Op.operands])
  split at h
  .split at h
   .rename_i b L;simp only[ah,ay]at h;obtain⟨rfl,rfl⟩:=h;obtain⟨g1,g2,g3⟩:=BQ (N:=N) (w:=w) (R:=az ρ m) G hy L;simp only[execOp,g];refine ie.jr B λA=>?_
    rw[au];refine g2 _ ?_;rw[g3];simp only[];rw[au];exact g1 (A _ (cz rfl))
   .exact M S h
  .split at h
   .rename_i b L;simp only[ah,ay]at h;obtain⟨rfl,rfl⟩:=h;obtain⟨g1,g2,g3⟩:=BQ (N:=N) (w:=w) (R:=az ρ m) G hy L;simp only[execOp,g];refine ie.jr B λA=>?_
    rw[au];refine g2 _ ?_;rw[g3];simp only[];rw[au];exact g1 (A _ (cz rfl))
   .exact M S h
  .exact M S h
 .
  rename_i g;exact M (λK b F=>by rw[g]at F;cases F) h
 .
  rename_i s d x g
  split at h
  .rename_i r W;simp only[ah]at h;subst h;simp only[execOp,g];exact ie.val λA=>E8 B hN (j x (by rw[g];simp[Op.operands])) W A
  .exact M (λK b F=>by rw[g]at F;cases F) h
 .
  rename_i t x g;simp only[g,Op.operands]at j
  split at h
  .cases h
  .rename_i d hni hd;simp only[ah,ay]at h;obtain⟨rfl,rfl⟩:=h;simp only[execOp,g];refine ie.jr B λA=>?_
   unfold Instr.makeInterface;rw[au];refine aH hd ?_;have :=A _ (gB.2 ⟨_,rfl,j x dA⟩);cases d with
   |interface ms=>exact(hni _ rfl).elim
   |_=>exact this
  .cases h
 .
  rename_i fn f c g;simp only[g,Op.operands]at j;simp only[ah,ay]at h;obtain⟨rfl,rfl⟩:=h;simp only[execOp,g];refine ie.jr B λA=>?_
  refine A _ (gA.2 ⟨_,_,rfl,?_,?_⟩)
  .simp only[Array.toList_map];exact bP.qU λx G=>j x (by simp;exact .inl (by simpa using G))
  .simp only[Array.toList_map];exact bP.qU λx G=>j x (by simp;exact .inr (by simpa using G))
 .
  rename_i t g;simp only[ah,ay]at h;obtain⟨rfl,rfl⟩:=h;simp only[execOp,g];refine ie.val λA=>?_
  refine A _ _ _ (B.Qh (o:=.map #[] 0) (.inl rfl) (λ_=>⟨#[],rfl,trivial⟩) λh=>by cases h) (jG.2 ⟨_,dz.lL ..,rfl⟩)
 .
  rename_i t l c g;simp only[g,Op.operands]at j;simp only[execOp,g];exact ie.val λA=>Aj B (j l dA) (j c dA) h A
 .
  rename_i t x lo hi g
  split at h
  .rename_i u D;simp only[ah,ay]at h;obtain⟨rfl,rfl⟩:=h;simp only[g,Op.operands]at j;simp only[execOp,g];exact ie.jr B λA=>Ir B (j x dA) (P3 λy hy=>j y (by simp_all)) (P3 λy hy=>j y (by simp_all)) D A
  .exact M (λK b F=>by rw[g]at F;cases F) h
 .
  rename_i s x f g;simp only[g,Op.operands]at j;obtain⟨u,D,C⟩:=aD.1 h;simp only[ay]at C;obtain⟨rfl,rfl⟩:=C;simp only[execOp,g];exact ie.jr B λA=>AI (j x dA) D A
 .
  rename_i s x f g;simp only[g,Op.operands]at j;obtain⟨u,D,C⟩:=aD.1 h;simp only[ay]at C;obtain⟨rfl,rfl⟩:=C;simp only[execOp,g];exact ie.jr B λA=>Jt (j x dA) D A
 .
  rename_i t x i g;simp only[g,Op.operands]at j;obtain⟨u,D,C⟩:=aD.1 h;simp only[ay]at C;obtain⟨rfl,rfl⟩:=C;simp only[execOp,g];exact ie.jr B λA=>Ar (j x dA) (j i dA) D A
 .
  rename_i t x i g
  split at h
  .rename_i u D;simp only[ah,ay]at h;obtain⟨rfl,rfl⟩:=h;simp only[g,Op.operands]at j;simp only[execOp,g];exact ie.jr B λA=>Je (j x dA) (j i dA) D A
  .exact M (λK b F=>by rw[g]at F;cases F) h
 .
  rename_i t x i ok g;simp only[g,Op.operands]at j;obtain⟨u,D,C⟩:=aD.1 h;simp only[ay]at C;obtain⟨rfl,rfl⟩:=C;simp only[execOp,g];exact ie.jr B λA=>Gg B (j x dA) (j i dA) D A
 .
  rename_i t x k u g;simp only[g,Op.operands]at j;obtain⟨m2,V,C⟩:=aD.1 h;simp only[ay]at C;obtain⟨rfl,rfl⟩:=C;simp only[execOp,g];exact ie.unit λA=>Ai B (j x dA) (j k dA) (j u dA) V A
 .
  rename_i x t a ok g;simp only[g,Op.operands]at j;obtain⟨u,D,C⟩:=aD.1 h;simp only[ay]at C;obtain⟨rfl,rfl⟩:=C;simp only[execOp,g];exact ie.jr B λA=>yE (j x dA) D A
 .
  rename_i t i g;simp only[g,Op.operands]at j
  split at h
  .rename_i vs SO;obtain⟨u,D,C⟩:=aD.1 h;simp only[ay]at C;obtain⟨rfl,rfl⟩:=C;have E:=j t dA;rw[SO]at E;obtain⟨sK,J,Q⟩:=fw.1 E;obtain⟨X,Xs,W⟩:=Q.get (by simpa using D);simp only[execOp,g,J];refine ie.jr B λA=>?_
   unfold Instr.extract;simp only[show sK[i]?=Z X by simpa using Xs];exact A _ W
  .cases h
 .
  rename_i t x g;simp only[g,Op.operands]at j;simp only[execOp,g];exact ie.val λA=>IB B (j x dA) h A
 .
  rename_i it s g;simp only[g,Op.operands]at j;simp only[execOp,g];exact ie.val λA=>Lr B (j it dA) h A
 .
  rename_i b args mH g;have L:∀x∈args,aV ρ (ev x) (qF x):=λx G=>j x (by rw[g];simp[Op.operands,Call.operands,G])
  have S:∀K b,o.op≠ .select K b:=λK b F=>by rw[g]at F;cases F
  split at h
  .rename_i s x H;have T:args.map qF=#[qF s,qF x]:=by apply Array.ext';simp[H]
   have E:=L s (by rw[<-Array.mem_toList_iff,H];simp);have J:=L x (by rw[<-Array.mem_toList_iff,H];simp);simp only[execOp,g,resolve,pure_bind,invoke,builtin,T];exact ie.val λA=>Gy B E J h A
  .rename_i s x H;have T:args.map qF=#[qF s,qF x]:=by apply Array.ext';simp[H]
   have E:=L s (by rw[<-Array.mem_toList_iff,H];simp);have J:=L x (by rw[<-Array.mem_toList_iff,H];simp);simp only[execOp,g,resolve,pure_bind,invoke,builtin,T];exact ie.val λA=>Ms B E J h A
  .rename_i x H;have T:args.map qF=#[qF x]:=by apply Array.ext';simp[H]
   have J:=L x (by rw[<-Array.mem_toList_iff,H];simp);simp only[execOp,g,resolve,pure_bind,invoke,builtin,T];exact ie.val λA=>JJ B J h A
  .rename_i x H;have T:args.map qF=#[qF x]:=by apply Array.ext';simp[H]
   have J:=L x (by rw[<-Array.mem_toList_iff,H];simp)
   split at h
   .rename_i e base n c C G;simp only[ah,ay]at h;obtain⟨rfl,rfl⟩:=h;rw[G]at J;obtain⟨vM,gX,Q,_⟩:=sj.of J;obtain⟨st,OF,fA⟩:=bM.1 C;simp only[execOp,g,resolve,pure_bind,invoke,builtin,T];refine ie.jr B λA=>?_
    unfold Builtin.len_;simp only[OF,Q,List.getElem?_toArray,List.getElem?_cons_zero];rw[au];refine aH fA ?_;exact A _ (cz rfl)
   .exact M S h
  .exact M S h
  .exact M S h
  .cases h
 .cases h
end
def J2 (m:Mem)(b:Nat)(k':eh):Prop:=
 m.next<=b\/(m.base<=b/\aP m.bI b=O/\(m.floor<=b\/ix m.opn b=U)/\k'.kind=0)\/
 (m.home<=b/\aP m.bI b=O/\(m.blk b).kind≠1/\k'.kind=(m.blk b).kind)\/
 (m.base<=b/\(m.blk b).kind=1/\k'.kind=1/\k'.sz=(m.blk b).sz/\k'.pos=(m.blk b).pos/\k'.cs.length=(m.blk b).cs.length/\
  ∀o:Nat,k'.cs[o]?≠(m.blk b).cs[o]?->bL m.bI b o=O/\(m.floor<=b\/bL m.opn b o=U))
structure Fr (m m':Mem):Prop where
 rest:m'={m with heap:=m'.heap,next:=m'.next,tick:=m'.tick,deaf:=m'.deaf}
 tick:m.tick<=m'.tick
 next:m.next<=m'.next
 blk:∀b,m'.blk b=m.blk b\/(m.tick<=(m'.blk b).bq/\J2 m b (m'.blk b))
section
variable {m m₁ m₂:Mem}
theorem Fr.refl(m:Mem):Fr m m:=⟨rfl,aj _,aj _,λ_=> .inl rfl⟩
theorem Fr.bI(h:Fr m m₁):m₁.bI=m.bI:=by rw[h.rest]
theorem Fr.home(h:Fr m m₁):m₁.home=m.home:=by rw[h.rest]
theorem Fr.base(h:Fr m m₁):m₁.base=m.base:=by rw[h.rest]
theorem Fr.floor(h:Fr m m₁):m₁.floor=m.floor:=by rw[h.rest]
theorem Fr.opn(h:Fr m m₁):m₁.opn=m.opn:=by rw[h.rest]
theorem Fr.wg(h:Fr m m₁):m₁.wg=m.wg:=by rw[h.rest]
theorem Fr.pend(h:Fr m m₁):m₁.pend=m.pend:=by rw[h.rest]
theorem Fr.trans(h:Fr m m₁)(k:Fr m₁ m₂):Fr m m₂:=by
 refine⟨?_,bV h.tick k.tick,bV h.next k.next,λb=>?_⟩
 .rw[k.rest,h.rest]
 .have D:=h.bI;have C:=h.home;have B:=h.base;have A:=h.floor;have z:=h.opn;rcases k.blk b with u|⟨E,i⟩
  .rw[u];exact h.blk b
  .refine .inr ⟨bV h.tick E,?_⟩;unfold J2 at i;rw[D,C,B,A,z]at i;have F:=h.next;rcases h.blk b with j|⟨_,j⟩
   .rw[j]at i;rcases i with a|a
    .exact .inl ai
    .exact .inr a
   .rcases i with a|a|⟨a,q,p,l⟩|⟨a,q,p,l,n,w,v⟩
    .exact .inl ai
    .exact .inr (.inl a)
    .rcases j with g|g|⟨f,e,c,d⟩|⟨f,e,c,_,_⟩
     .exact .inl g
     .exact .inr (.inl ⟨g.1,g.2.1,g.2.2.1,by rw[l,g.2.2.2]⟩)
     .exact .inr (.inr (.inl ⟨f,e,c,by rw[l,d]⟩))
     .exact absurd c p
    .rcases j with g|g|⟨f,e,c,d⟩|⟨f,e,c,d,r,y,x⟩
     .exact .inl g
     .exact absurd (g.2.2.2.symm.trans q) dA
     .exact absurd (d.symm.trans q) c
     .refine .inr (.inr (.inr ⟨f,e,p,l.trans d,n.trans r,w.trans y,λo t=>?_⟩))
      by_cases s:(m₂.blk b).cs[o]?=(m₁.blk b).cs[o]?
      .exact x o (by rw[<-s];exact t)
      .exact v o s
theorem Fr.alloc(m:Mem)(k:eh):Fr m (m.alloc k):=by
 refine⟨rfl,dA,dA,λb=>?_⟩;rw[Mem.cC]
 split
 .rename_i h;exact .inr ⟨aj _,.inl ai⟩
 .exact .inl rfl
theorem Fr.bB{b:Nat}{k}(h:J2 m b {k with bq:=m.tick}):Fr m (m.bB b k):=by
 refine⟨rfl,dA,dA,λa=>?_⟩;rw[Mem.eP]
 split
 .rename_i e;subst e;exact .inr ⟨aj _,h⟩
 .exact .inl rfl
theorem Fr.dW{b o:Nat}{vs}(h:m.dW b o vs=Z m₁):Fr m m₁:=by
 obtain⟨j,rfl,c,d,k,_⟩:=Mem.rN h;obtain⟨f,g,_⟩:=nu k;refine Fr.bB (.inr (.inr (.inr ⟨Mem.lM d,c,c,rfl,rfl,f,λx e=>?_⟩)));have a:j[x]?≠(m.blk b).cs[x]?:=e;rw[g]at a
 split at a
 .rename_i l;have :=Mem.sD d (i:=x-o) ai;rwa[show o+(x-o)=x by omega]at this
 .exact absurd rfl a
theorem Fr.own{b:Nat}(h:m.fL b=U):Fr m (m.bB b {}):=
 Fr.bB (.inr (.inl ⟨Mem.tW h,(Mem.nG h).1,(Mem.nG h).2,rfl⟩))
theorem Mem.nC{b:Nat}(h:m.bQ b=U):aP m.bI b=O/\m.home<=b:=by
 unfold Mem.bQ at h;simpa using h
theorem Fr.obj{b:Nat}{k:eh}(h:m.bQ b=U)(a:(m.blk b).kind≠1)(c:k.kind=(m.blk b).kind):Fr m (m.bB b k):=
 Fr.bB (.inr (.inr (.inl ⟨(Mem.nC h).2,(Mem.nC h).1,a,c⟩)))
def eh.live(k:eh):Prop:=(∀x∈k.cs,x≠Y)/\k.kind<=3
structure Wf (m:Mem):Prop where
 bq:∀b,(m.blk b).bq<m.tick
 zo:∀b,m.next<=b->(m.blk b).kind=0
 bI:∀s∈m.bI,s.2.1<=m.next
 fl:m.floor<=m.next
 live:∀b,(m.blk b).live
theorem Wf.alloc(h:Wf m)(k:eh)(a:k.live):Wf (m.alloc k):=by
 refine⟨λb=>?_,λb d=>?_,λs c=>Nat.le_succ_of_le (h.bI s c),Nat.le_succ_of_le h.fl,λb=>?_⟩
 .rw[Mem.cC]
  split
  .show m.tick<m.tick+1;omega
  .have :=h.bq b;show _<m.tick+1;omega
 .have e:m.next+1<=b:=d;rw[Mem.cC,bH ai];exact h.zo b ai
 .rw[Mem.cC]
  split
  .exact a
  .exact h.live b
theorem Wf.bB(h:Wf m){b:Nat}{k:eh}(a:(m.blk b).kind≠0\/k.kind=0)(d:k.live):Wf (m.bB b k):=by
 refine⟨λc=>?_,λc f=>?_,h.bI,h.fl,λc=>?_⟩
 .rw[Mem.eP]
  split
  .show m.tick<m.tick+1;omega
  .have :=h.bq c;show _<m.tick+1;omega
 .rw[Mem.eP]
  split
  .rename_i e;subst e;rcases a with a|a
   .exact absurd (h.zo b f) a
   .exact a
  .exact h.zo c f
 .rw[Mem.eP]
  split
  .exact d
  .exact h.live c
def jS (m m':Mem):Prop:=Fr m m'/\m'.deaf=m.deaf/\(Wf m->Wf m')
theorem jS.refl(m:Mem):jS m m:=⟨Fr.refl m,rfl,id⟩
theorem jS.trans(h:jS m m₁)(k:jS m₁ m₂):jS m m₂:=⟨h.1.trans k.1,k.2.1.trans h.2.1,λx=>k.2.2 (h.2.2 x)⟩
theorem jS.alloc(m:Mem)(k:eh)(a:k.live):jS m (m.alloc k):=⟨Fr.alloc m k,rfl,λh=>h.alloc k a⟩
theorem jS.dW{b o:Nat}{vs}(h:m.dW b o vs=Z m₁):jS m m₁:=by
 refine⟨Fr.dW h,?_⟩;obtain⟨j,rfl,f,p,k,_⟩:=Mem.rN h;obtain⟨n,g,_⟩:=nu k;refine⟨rfl,λd=>d.bB (.inl (by rw[f];simp)) ⟨λx c=>?_,by show(m.blk b).kind<=3;omega⟩⟩;have c:x∈j:=c;obtain⟨i,a⟩:=List.getElem?_of_mem c;rw[g]at a
 split at a
 .rename_i l;obtain⟨v,e⟩:∃v,vs[i-o]?=Z v:=⟨vs[i-o]'ai,List.getElem?_eq_getElem ai⟩;rw[e]at a;simp at a;rw[<-a];simp
 .exact(d.live b).1 x (List.mem_of_getElem? a)
theorem jS.own{b:Nat}(h:m.fL b=U):jS m (m.bB b {}):=⟨Fr.own h,rfl,λc=>c.bB (.inr rfl) ⟨(by intro x a;cases a),Nat.zero_le _⟩⟩
theorem jS.obj{b:Nat}{k:eh}(h:m.bQ b=U)(e:(m.blk b).kind≠1)(g:(m.blk b).kind≠0)(c:k.kind=(m.blk b).kind)(f:k.cs=(m.blk b).cs):jS m (m.bB b k):=⟨Fr.obj h e c,rfl,λa=>a.bB (.inl g) ⟨λx d=>(a.live b).1 x (f▸d),by rw[c];exact(a.live b).2⟩⟩
variable {P:aE}{v:ab}
theorem Pr {d s x}(h:cJ P d s x m=Z (v,m₁)):jS m m₁:=by
 unfold cJ at h
 split at h
 .split at h
  .split at h
   .cases h
   .split at h
    .cases h
    .split at h
     .split at h
      .simp only[]at h
       split at h
       .rename_i a;simp only[ag,beq_iff_eq]at a
        split at h
        .simp only[ah,ay]at h;obtain⟨_,rfl⟩:=h;exact(jS.own a.1.2).trans (jS.alloc _ _ Zg)
        .cases h
       .cases h
      .cases h
     .split at h
      .split at h
       .obtain⟨e,c,b⟩:=aD.1 h;simp only[ay]at b;obtain⟨_,rfl⟩:=b;exact jS.dW c
       .simp only[ah,ay]at h;obtain⟨_,rfl⟩:=h;exact jS.refl _
       .cases h
      .split at h
       .split at h
        .simp only[ah,ay]at h;obtain⟨_,rfl⟩:=h;exact jS.alloc _ _ Zg
        .cases h
       .cases h
  .cases h
 .cases h
theorem YH {c d s}(h:HS P c d s m=Z (v,m₁)):jS m m₁:=by
 unfold HS at h
 split at h
 .split at h
  .split at h
   .obtain⟨_,_,h⟩:=bM.1 h
    split at h
    .obtain⟨e,b,a⟩:=aD.1 h;simp only[ay]at a;obtain⟨_,rfl⟩:=a;exact jS.dW b
    .simp only[ah,ay]at h;obtain⟨_,rfl⟩:=h;exact jS.refl _
    .cases h
   .cases h
  .cases h
 .cases h
theorem Ts {c x}(h:oR P c x m=Z (v,m₁)):jS m m₁:=by
 unfold oR at h
 split at h
 .split at h
  .simp only[ah,ay]at h;obtain⟨_,rfl⟩:=h;exact jS.refl _
  .split at h
   .simp only[ah,ay]at h;obtain⟨_,rfl⟩:=h;exact jS.refl _
   .obtain⟨_,_,h⟩:=bM.1 h;obtain⟨d,b,a⟩:=aD.1 h;simp only[ay]at a;obtain⟨_,rfl⟩:=a;exact jS.dW b
  .cases h
 .cases h
theorem Mt {s d x}(h:gp P s d x m=Z (v,m₁)):jS m m₁:=by
 unfold gp at h
 split at h
 .simp only[]at h
  split at h
  .split at h
   .simp only[ah,ay]at h;obtain⟨_,rfl⟩:=h;exact jS.refl _
   .cases h
  .cases h
 .split at h
  .split at h
   .cases h
   .simp only[ah,ay]at h;obtain⟨_,rfl⟩:=h;exact jS.alloc _ _ Zg
  .cases h
 .split at h
  .simp only[ah,ay]at h;obtain⟨_,rfl⟩:=h;exact jS.refl _
  .obtain⟨_,_,h⟩:=bM.1 h;obtain⟨_,_,h⟩:=aD.1 h;simp only[ay]at h;obtain⟨_,rfl⟩:=h;exact jS.refl _
  .cases h
 .cases h
theorem Ge {t x k u}(h:ml P t x k u m=Z m₁):jS m m₁:=by
 unfold ml at h
 split at h
 .split at h
  .simp only[]at h
   split at h
   .rename_i a;simp only[ag,beq_iff_eq]at a;have c:=a.1.1;have b:=a.1.2
    split at h
    .simp only[ah]at h;subst h;exact jS.obj b ai ai rfl rfl
    .simp only[ah]at h;subst h;exact jS.obj b ai ai rfl rfl
   .cases h
  .cases h
 .cases h
theorem Sf {t x}(h:z9 P t x m=Z (v,m₁)):jS m m₁:=by
 unfold z9 at h
 split at h
 .simp only[ah,ay]at h;obtain⟨_,rfl⟩:=h;exact jS.alloc _ _ Zg
 .cases h
theorem Wv {b}{s:Bool}(h:Hd b s m=Z (v,m₁)):jS m m₁:=by
 unfold Hd at h
 split at h
 .simp only[]at h
  split at h
  .rename_i a;simp only[ag,beq_iff_eq]at a
   split at h
   .simp only[ah,ay]at h;obtain⟨_,rfl⟩:=h;exact jS.obj a.2 ai ai rfl rfl
   .simp only[ah,ay]at h;obtain⟨_,rfl⟩:=h;exact jS.refl _
  .cases h
 .cases h
theorem ij {o:Option ab}(h:o.map (λv=>(v,m))=Z (v,m₁)):jS m m₁:=by
 obtain⟨_,_,a⟩:=aD.1 h;simp only[ay]at a;obtain⟨_,rfl⟩:=a;exact jS.refl _
theorem lU {u}(h:Z (u,m)=Z (v,m₁)):jS m m₁:=by
 simp only[ah,ay]at h;obtain⟨_,rfl⟩:=h;exact jS.refl _
theorem RR {t p x}(h:xD P t p x m=Z m₁):jS m m₁:=by
 unfold xD at h
 split at h
 .split at h
  .exact jS.dW h
  .cases h
 .cases h
theorem Bt {sz:Nat}{cs}(h:cI m sz cs=(v,m₁)):jS m m₁:=by
 simp only[cI,ay]at h;obtain⟨_,rfl⟩:=h;exact jS.alloc _ _ Zg
theorem QY {o}(c:∀m₂,o=Z m₂->jS m m₂)(h:o.map (λb=>(undef,b))=Z (v,m₁)):jS m m₁:=by
 obtain⟨e,d,a⟩:=aD.1 h;simp only[ay]at a;obtain⟨_,rfl⟩:=a;exact c _ d
theorem Fo {t}{n:Nat}{ps}(h:bW P t n ps m=Z (v,m₁)):jS m m₁:=by
 unfold bW at h
 split at h
 .split at h
  .split at h
   .cases h
   .obtain⟨_,_,a⟩:=aD.1 h;simp only[ay]at a;obtain⟨_,rfl⟩:=a;exact jS.alloc _ _ Zg
  .cases h
 .cases h
theorem Gf {t l c}(h:gC P t l c m=Z (v,m₁)):jS m m₁:=by
 unfold gC at h
 split at h
 .split at h
  .split at h
   .simp only[ah,ay]at h;obtain⟨_,rfl⟩:=h;exact jS.alloc _ _ Zg
   .cases h
  .cases h
 .cases h
set_option maxHeartbeats 1000000 in
theorem V3{ev o}(h:dL P ev o m=Z (v,m₁)):jS m m₁:=by
 unfold dL at h
 split at h
 .exact lU h
 .exact lU h
 .split at h
  .exact lU h
  .cases h
 .obtain⟨z,d,c⟩:=aD.1 h;exact Bt c
 .exact Bt (Option.some.inj h)
 .exact ij h
 .exact Fo h
 .exact ij h
 .exact QY (λ_ a=>RR a) h
 .split at h
  .exact lU h
  .split at h
   .split at h
    .exact lU h
    .cases h
   .cases h
  .cases h
 .split at h
  .split at h
   .exact lU h
   .exact ij h
  .split at h
   .exact lU h
   .exact ij h
  .exact ij h
 .exact ij h
 .split at h
  .rename_i b;exact Mt (b.trans h)
  .exact ij h
 .split at h
  .cases h
  .exact lU h
  .cases h
 .exact lU h
 .simp only[ah,ay]at h;obtain⟨_,rfl⟩:=h;exact jS.alloc _ _ Zg
 .exact Gf h
 .split at h
  .exact lU h
  .exact ij h
 .exact ij h
 .exact ij h
 .exact ij h
 .split at h
  .exact lU h
  .exact ij h
 .exact ij h
 .exact QY (λ_ a=>Ge a) h
 .exact ij h
 .split at h
  .exact ij h
  .cases h
 .exact Sf h
 .exact Wv h
 .split at h
  .exact Pr h
  .exact YH h
  .exact Ts h
  .split at h
   .exact lU h
   .exact ij h
  .exact ij h
  .exact ij h
  .cases h
 .cases h
end
structure dm where
 ok:Perm->ar->Prop
inductive Sub where
 |opn(V:Nat)|added(V:Nat)|seen(vs:Nat)|reg|Yh|fin
structure GS where
 Wg:Nat
 xd:List dm
 sub:Sub
inductive pj where
 |Dd
 |idle
 |gi(g:GS)
structure aiy (s:Cz)(mk:Mem):Prop where
 heap:mk.heap=s.heap
 next:mk.next=s.hi
 opn:mk.opn=s.qm
 bI:mk.bI=s.bI
 home:mk.home=s.lo
 floor:mk.floor=s.lo
 base:mk.base<=s.lo
def postOf (s:Cz)(RB:dz):dm:=
 ⟨λR w=>∃zT mk,aiy s mk/\(∀b,b<s.lo->zT b=RB b)/\gq zT mk w/\(∀b o,(az zT mk).rd b o->R.rd b o)/\(∀b,(az zT mk).ob b->R.ob b)/\∀b o,(az zT mk).wr b o->R.wr b o⟩
def eh.alike(k k':eh):Prop:=k.kind=k'.kind/\k.sz=k'.sz/\k.pos=k'.pos/\k.cs=k'.cs/\(k.kind≠1->k.es=k'.es/\k.clock=k'.clock/\k.str=k'.str)
def Mem.Dw(m:Mem)(h:jE)(s:Span):Prop:=
 ∀b,s.1<=b->b<s.2.1->match s.2.2 with
 |none=>(m.blk b).alike (h.get b)
 |some o=>(m.blk b).kind=1/\(h.get b).kind=1/\(m.blk b).sz=(h.get b).sz/\(m.blk b).pos=(h.get b).pos/\(m.blk b).cs.length=(h.get b).cs.length/\(m.blk b).cs[o]?=(h.get b).cs[o]?
structure SOk (m:Mem)(ρ:dz)(s:Cz)(p:dm):Prop where
 post:∃RB,p=postOf s RB/\∀b,b<s.lo->ρ b=RB b
 none:∀b,s.lo<=b->b<s.hi->ρ b=Option.none
 lo:s.lo<=s.hi
 hi:s.hi<=m.floor
 next:s.hi<=m.next
 same:∀x,x=(s.lo,s.hi,Option.none)\/x∈s.qm->m.Dw s.heap x
 bI:∀x,x=(s.lo,s.hi,Option.none)\/x∈s.qm->x∈m.bI
 below:∀x,x=(s.lo,s.hi,Option.none)\/x∈s.qm->x.2.1<=m.next
 lb:∀x,x∈s.bI\/x∈s.qm->x.2.1<=s.lo
 ap:∀b o,bL s.qm b o=U->bL s.bI b o=O
 lk:∀x,x∈s.qm->∀b,x.1<=b->b<x.2.1->(s.heap.get b).kind<=1
 live:∀b,(s.heap.get b).live
 kk:∀b,b<s.lo->(m.blk b).kind≠0->(s.heap.get b).kind=(m.blk b).kind
 hm:m.home<=s.lo
def GOk (σ:pj)(ρ:dz)(m:Mem):Prop:=
 match σ with
 | .Dd=>True
 | .idle=>m.wg=Y/\m.pend=[]/\m.home<=m.next
 | .gi g=>g.sub=.opn g.xd.length/\g.xd.length<=4/\(m.home<=m.next/\m.base<=m.next)/\∃wa,m.wg=Z wa/\wa<m.next/\wa<m.floor/\(∀p,ρ wa=Z p->p.c=g.Wg/\p.d=0)/\bP (SOk m ρ) m.pend g.xd/\(∀x∈m.bI,∃s∈m.pend,x=(s.lo,s.hi,Option.none)\/x∈s.qm)/\m.pend.Pairwise λs t=>t.hi<=s.lo
section
variable {m m':Mem}{ρ bK:dz}
theorem oL {l s}(h:s∈l){b o:Nat}(d:s.1<=b)(c:b<s.2.1)(a:s.2.2=Y\/s.2.2=Z o):bL l b o=U:=by
 unfold bL;rw[List.any_eq_true];refine⟨s,h,?_⟩;simp only[ag,iU];refine⟨⟨d,c⟩,?_⟩;rcases a with a|a<;>rw[a]<;>simp
theorem rM {l s}(h:s∈l){b:Nat}(c:s.1<=b)(a:b<s.2.1):aP l b=U:=by
 unfold aP;rw[List.any_eq_true];exact⟨s,h,by simp[c,a]⟩
theorem Gw {l s}(h:s∈l){b:Nat}(d:s.1<=b)(c:b<s.2.1)(a:s.2.2=Y):∀o,bL l b o=U:=λo=>oL h d c (.inl a)
theorem nO {l}{b o:Nat}(h:bL l b o=U):aP l b=U:=by
 rcases a:aP l b with _|_
 .rw[eH a]at h;cases h
 .rfl
theorem Be (h:Fr m m'){x}(j:x∈m.bI)(D:x.2.1<=m.next){w}(c:m.Dw w x):m'.Dw w x:=by
 intro b g f;have c:=c b g f
 split
 .rename_i z;simp only[z]at c;rcases h.blk b with e|⟨_,q⟩
  .rw[e];exact c
  .have i:=rM j g f;rcases q with a|⟨_,a,_⟩|⟨_,a,_⟩|⟨_,a,k,t,s,A,r⟩
   .omega
   .rw[i]at a;cases a
   .rw[i]at a;cases a
   .obtain⟨v,p,n,l,u⟩:=c;refine⟨k.trans (a.symm.trans v),t.trans p,s.trans n,?_,λC=>absurd k C⟩;rw[<-l];refine List.ext_getElem? λo=>?_
    by_cases d:(m'.blk b).cs[o]?=(m.blk b).cs[o]?
    .exact d
    .have :=(r o d).1;rw[Gw j g f z o]at this;cases this
 .rename_i o y;simp only[y]at c;obtain⟨v,p,n,l,u,B⟩:=c;rcases h.blk b with e|⟨_,q⟩
  .rw[e];exact⟨v,p,n,l,u,B⟩
  .have i:=rM j g f;rcases q with a|⟨_,a,_⟩|⟨_,a,_⟩|⟨_,a,k,t,s,A,r⟩
   .omega
   .rw[i]at a;cases a
   .rw[i]at a;cases a
   .refine⟨k,p,t.trans n,s.trans l,A.trans u,?_⟩
    by_cases d:(m'.blk b).cs[o]?=(m.blk b).cs[o]?
    .rw[d];exact B
    .have :=(r o d).1;rw[oL j g f (.inr y)]at this;cases this
theorem SOk.fr(h:Fr m m')(g:ρ.le bK)(hold:∀b,b<m.next->bK b=ρ b){s p}(a:SOk m ρ s p):SOk m' bK s p where
 post:=let⟨n,e,hb⟩:=a.post;⟨n,e,λb o=>by rw[hold b (by have :=a.lo;have :=a.next;omega)];exact hb b o⟩
 none b l k:=by rw[hold b (by have :=a.next;omega)];exact a.none b l k
 lo:=a.lo
 hi:=by rw[h.floor];exact a.hi
 next:=bV a.next h.next
 same x d:=Be h (a.bI x d) (a.below x d) (a.same x d)
 bI x d:=by rw[h.bI];exact a.bI x d
 below x d:=bV (a.below x d) h.next
 lb:=a.lb
 ap:=a.ap
 lk:=a.lk
 live:=a.live
 kk b hb f:=by
  rcases h.blk b with e|⟨_,i⟩
  .rw[e]at f⊢;exact a.kk b hb f
  .have :=a.lo;have :=a.next;rcases i with c|⟨_,_,_,c⟩|⟨_,_,_,c⟩|⟨_,c,j,_⟩
   .omega
   .exact absurd c f
   .rw[c];exact a.kk b hb (by rw[<-c];exact f)
   .rw[j,<-c];exact a.kk b hb (by rw[c];simp)
 hm:=by rw[h.home];exact a.hm
theorem GOk.fr(h:Fr m m')(d:ρ.le bK)(hold:∀b,b<m.next->bK b=ρ b){c}(a:GOk c ρ m):GOk c bK m':=by
 cases c with
 |Dd=>trivial
 |idle=>exact⟨h.wg.trans a.1,h.pend.trans a.2.1,by rw[h.home];exact bV a.2.2 h.next⟩
 |gi g=>
  obtain⟨t,r,i,e,q,f,u,o,n,l⟩:=a;refine⟨t,r,⟨by rw[h.home];exact bV i.1 h.next,by rw[h.base];exact bV i.2 h.next⟩,e,h.wg.trans q,aZ f h.next,by rw[h.floor];exact u,λp k=>o p ?_,?_,by rw[h.bI,h.pend];exact l⟩
  .rw[<-hold e f];exact k
  .rw[h.pend];exact n.mono λs p j=>j.fr h d hold
theorem GOk.above{c}(f:GOk c ρ m)(h:∀b,b<m.floor->bK b=ρ b):GOk c bK m:=by
 cases c with
 |Dd=>trivial
 |idle=>exact f
 |gi g=>
  obtain⟨t,r,u,d,q,j,i,o,n,l⟩:=f;refine⟨t,r,u,d,q,j,i,λp k=>o p (by rw[<-h d i];exact k),n.mono λs p a=>?_,l⟩;exact⟨let⟨x,e,hb⟩:=a.post;⟨x,e,λb y=>by rw[h b (by have :=a.lo;have :=a.hi;omega)];exact hb b y⟩,λb w v=>by rw[h b (by have :=a.hi;omega)];exact a.none b w v,
   a.lo,a.hi,a.next,a.same,a.bI,a.below,a.lb,a.ap,a.lk,a.live,a.kk,a.hm⟩
end
abbrev Tm:=N8 (N8 (N8 ab))
def di (t:Nat)(tm:Tm):ab:=((tm.get (tK t 64)).get (tK t 8)).get (Nat.mod t 8)
def u5 (t:Nat)(v:ab)(tm:Tm):Tm:=
 tm.put (tK t 64) ((tm.get (tK t 64)).put (tK t 8) (((tm.get (tK t 64)).get (tK t 8)).put (Nat.mod t 8) v))
def M9:List ab->ab
 | []=>undef
 |x::_=>x
def lu:List ab->List ab
 | []=>[]
 |_::l=>l
def Iy (l:List ab):N8 ab:=
 ⟨M9 l,M9 (lu l),M9 (lu (lu l)),M9 (lu (lu (lu l))),M9 (lu (lu (lu (lu l)))),M9 (lu (lu (lu (lu (lu l))))),M9 (lu (lu (lu (lu (lu (lu l)))))),M9 (lu (lu (lu (lu (lu (lu (lu l)))))))⟩
def TS (l:List ab):List ab:=lu (lu (lu (lu (lu (lu (lu (lu l)))))))
def rD:N8 ab:=N8.all undef
def iP:N8 (N8 ab):=N8.all rD
def mX:Tm:=N8.all iP
def FX (l:List ab):Option Tm:=
 match TS (TS l)with
 | []=>Z ⟨⟨Iy l,Iy (TS l),rD,rD,rD,rD,rD,rD⟩,iP,iP,iP,iP,iP,iP,iP⟩
 |_=>Y
def aoi {α:Type}(x:α)(n:N8 α):N8 α:=match n with |⟨_,b,c,d,e,f,g,h⟩=>⟨x,b,c,d,e,f,g,h⟩
def aoh {α:Type}(x:α)(n:N8 α):N8 α:=match n with |⟨a,_,c,d,e,f,g,h⟩=>⟨a,x,c,d,e,f,g,h⟩
def aog {α:Type}(x:α)(n:N8 α):N8 α:=match n with |⟨a,b,_,d,e,f,g,h⟩=>⟨a,b,x,d,e,f,g,h⟩
def aof {α:Type}(x:α)(n:N8 α):N8 α:=match n with |⟨a,b,c,_,e,f,g,h⟩=>⟨a,b,c,x,e,f,g,h⟩
def aoe {α:Type}(x:α)(n:N8 α):N8 α:=match n with |⟨a,b,c,d,_,f,g,h⟩=>⟨a,b,c,d,x,f,g,h⟩
def aod {α:Type}(x:α)(n:N8 α):N8 α:=match n with |⟨a,b,c,d,e,_,g,h⟩=>⟨a,b,c,d,e,x,g,h⟩
def aoc {α:Type}(x:α)(n:N8 α):N8 α:=match n with |⟨a,b,c,d,e,f,_,h⟩=>⟨a,b,c,d,e,f,x,h⟩
def aob {α:Type}(x:α)(n:N8 α):N8 α:=match n with |⟨a,b,c,d,e,f,g,_⟩=>⟨a,b,c,d,e,f,g,x⟩
def UM {α β:Type}(i:Nat)(k:(N8 α->α)->(α->N8 α->N8 α)->Option β):Option β:=
 match i with
 |0=>k N8.a aoi
 |1=>k N8.b aoh
 |2=>k N8.c aog
 |3=>k N8.d aof
 |4=>k N8.e aoe
 |5=>k N8.f aod
 |6=>k N8.g aoc
 |7=>k N8.h aob
 |_=>Y
abbrev lD:=Tm->ab
abbrev Put:=ab->Tm->Tm
def aqK (f:Tm->N8 (N8 ab))(g:N8 (N8 ab)->N8 ab)(h:N8 ab->ab):lD:=λtm=>h (g (f tm))
def aoI (f:Tm->N8 (N8 ab))(g:N8 (N8 ab)->N8 ab)(F:N8 (N8 ab)->Tm->Tm)(G:N8 ab->N8 (N8 ab)->N8 (N8 ab))(H:ab->N8 ab->N8 ab):Put:=
 λv tm=>F (G (H v (g (f tm))) (f tm)) tm
def Ih {β:Type}(t:Nat)(k:lD->Put->Option β):Option β:=
 UM (Nat.div t 64) λf F=>UM (tK t 8) λg G=>UM (Nat.mod t 8) λh H=>k (aqK f g h) (aoI f g F G H)
def Pa (v:ab):lD:=λ_=>v
def dG (tm:Tm)(x:cd):ab:=
 match x with
 | .tmp t=>di t tm
 | .const v=>v
 | .global g=>ptrTo g 0
 | .func f=> .func (.func f) #[] #[]
def eY {α:Type}(x:cd)(k:lD->Option α):Option α:=
 match x with
 | .tmp t=>Ih t λo _=>k o
 | .const v=>k (Pa v)
 | .global g=>k (Pa (ptrTo g 0))
 | .func f=>k (Pa (.func (.func f) #[] #[]))
def uH {α:Type}:List cd->(List lD->Option α)->Option α
 | [],k=>k []
 |x::l,k=>eY x λo=>uH l λos=>k (o::os)
def s9 (nt ng:Nat)(x:cd):Bool:=
 match x with
 | .tmp t=>Nat.blt t nt
 | .const v=>plain v
 | .global g=>Nat.blt g ng
 | .func _=>U
abbrev Df:=List (Nat×List ab)
structure Ss where
 tm:Tm
 mem:Mem
 df:Df
abbrev Rs:=Option Ss
abbrev Kv:=ab->Mem->Df->Rs
abbrev mY:=cH->Tm->Mem->Df->Kv->Rs
abbrev iR:=cH->Tm->Mem->Df->Rs
abbrev F:=cH->Ss->Option (Exit×Ss)
def jZ (P:aE)(o:iK):mY:=λ_ tm m df k=>
 match dL P (dG tm) o m with
 |some (v,m')=>k v m' df
 |none=>Y
def WB (x:lD):mY:=λ_ tm m df k=>k (x tm) m df
def Nb:List lD->Tm->List ab
 | [],_=>[]
 |x::l,tm=>x tm::Nb l tm
def MF (r:Option (ab×Mem))(df:Df)(k:Kv):Rs:=
 match r with
 |some (v,m')=>k v m' df
 |none=>Y
def YP (f:Nat)(xs:List lD):mY:=λcall tm m df k=>MF (call f (Nb xs tm) m) df k
def MD (x:lD)(xs:List lD):mY:=λcall tm m df k=>
 match x tm with
 | .func (.func f) first cap=>MF (call f (first.toList++Nb xs tm++cap.toList) m) df k
 |_=>Y
def Rg (P:aE)(r:lD)(name:String)(xs:List lD):mY:=λcall tm m df k=>
 match gP P (r tm) name with
 |some (f,recv)=>MF (call f (recv::Nb xs tm) m) df k
 |none=>Y
def JE (x:lD)(xs:List lD):mY:=λ_ tm m df k=>
 match x tm with
 | .func (.func f) first cap=>k undef m ((f,first.toList++Nb xs tm++cap.toList)::df)
 |_=>Y
def dx:Int->Int->Bool
 | .ofNat a,.ofNat b=>Nat.blt a b
 | .ofNat _,.negSucc _=>O
 | .negSucc _,.ofNat _=>U
 | .negSucc a,.negSucc b=>Nat.blt b a
def gu (a b:Int):Bool:=!dx b a
def ji (a b:Int):Bool:=dx b a
def th (a b:Int):Bool:=!dx a b
def rk:Int->Int->Bool
 | .ofNat a,.ofNat b=>Nat.beq a b
 | .negSucc a,.negSucc b=>Nat.beq a b
 |_,_=>O
def xL (a b:Int):Bool:=!rk a b
def Y4:Int->Int->Option Nat
 | .ofNat a,.ofNat b=>Z (Nat.add a b)
 |_,_=>Y
def xC:Int->Int->Option Nat
 | .ofNat a,.ofNat b=>if Nat.ble b a then Z (Nat.sub a b)else Y
 |_,_=>Y
def noQ (_ _:Int):Option Nat:=Y
def hZ:bY->Nat
 | .i8=>128
 | .i16=>32768
 | .i32=>2147483648
 | .i64=>9223372036854775808
 | .u8=>256
 | .u16=>65536
 | .u32=>4294967296
 | .u64=>18446744073709551616
def yX:bY->Nat
 | .i8=>0
 | .i16=>1
 | .i32=>2
 | .i64=>3
 | .u8=>4
 | .u16=>5
 | .u32=>6
 | .u64=>7
def Gx (f:Int->Int->Bool)(x y:lD):mY:=λ_ tm m df k=>
 match x tm with
 | .int a i=>match y tm with
  | .int b j=>if Nat.beq (yX a) (yX b)then k (.bool (f i j)) m df else Y
  |_=>Y
 |_=>Y
def arF (q:Int->Int->Option Nat)(f:Int->Int->Int)(x y:lD):mY:=λ_ tm m df k=>
 match x tm with
 | .int a i=>match y tm with
  | .int b j=>if Nat.beq (yX a) (yX b)then
    match q i j with
    |some n=>if Nat.blt n (hZ a)then k (.int a (.ofNat n)) m df else k (.int a (a.wrap (f i j))) m df
    |none=>k (.int a (a.wrap (f i j))) m df
   else Y
  |_=>Y
 |_=>Y
def zY (want:Bool)(x y:lD):mY:=λ_ tm m df k=>
 match x tm with
 | .string a=>match y tm with
  | .string b=>k (.bool ((a.toList==b.toList)==want)) m df
  |_=>Y
 |_=>Y
def Pf (x y:lD):mY:=λ_ tm m df k=>
 match x tm with
 | .string a=>match y tm with
  | .string b=>if Nat.blt (a.size+b.size) 9223372036854775808 then k (.string (a++b)) m df else Y
  |_=>Y
 |_=>Y
def BZ (P:aE)(o:iK)(q:Nat->Nat->Nat)(x y:lD):mY:=λcall tm m df k=>
 match x tm with
 | .int a (.ofNat i)=>match y tm with
  | .int b (.ofNat j)=>if Nat.beq (yX a) (yX b)&&Nat.blt i (hZ a)&&Nat.blt j (hZ a)then k (.int a (.ofNat (q i j))) m df else jZ P o call tm m df k
  |_=>Y
 |_=>jZ P o call tm m df k
def Jx (P:aE)(o:iK)(q:Nat->Nat->Nat)(x y:lD):mY:=λcall tm m df k=>
 match x tm with
 | .int a (.ofNat i)=>match y tm with
  | .int b (.ofNat (j+1))=>if Nat.beq (yX a) (yX b)&&Nat.blt i (hZ a)then k (.int a (.ofNat (q i (Nat.succ j)))) m df else jZ P o call tm m df k
  |_=>jZ P o call tm m df k
 |_=>jZ P o call tm m df k
def YW (P:aE)(o:iK)(op:BinOp)(t:aT)(x y:lD):Option mY:=
 match P.underlying t with
 |some (.int _)=>match op with
  | .lss=>Z (Gx dx x y)
  | .leq=>Z (Gx gu x y)
  | .gtr=>Z (Gx ji x y)
  | .geq=>Z (Gx th x y)
  | .eql=>Z (Gx rk x y)
  | .neq=>Z (Gx xL x y)
  | .add=>Z (arF Y4 Int.add x y)
  | .sub=>Z (arF xC Int.sub x y)
  | .mul=>Z (arF noQ Int.mul x y)
  | .or=>Z (BZ P o Nat.lor x y)
  | .and=>Z (BZ P o Nat.land x y)
  | .xor=>Z (BZ P o Nat.xor x y)
  | .quo=>Z (Jx P o Nat.div x y)
  | .rem=>Z (Jx P o Nat.mod x y)
  |_=>Z (jZ P o)
 |some .string=>match op with
  | .eql=>Z (zY U x y)
  | .neq=>Z (zY O x y)
  | .add=>Z (Pf x y)
  |_=>Z (jZ P o)
 |_=>Z (jZ P o)
def Lg (c x y:lD):mY:=λ_ tm m df k=>
 match c tm with
 | .bool U=>k (x tm) m df
 | .bool O=>k (y tm) m df
 |_=>Y
def Ci (p:ab)(k:Nat->Nat->Rs):Rs:=
 match p with
 | .pointer (Z ⟨b,o,Y⟩)=>k b o
 |_=>Y
def Mn {α:Type}:Nat->List α->List α
 |0,l=>l
 |1,l=>match l with |_::t=>t|_=>[]
 |2,l=>match l with |_::_::t=>t|_=>[]
 |3,l=>match l with |_::_::_::t=>t|_=>[]
 |4,l=>match l with |_::_::_::_::t=>t|_=>[]
 |5,l=>match l with |_::_::_::_::_::t=>t|_=>[]
 |6,l=>match l with |_::_::_::_::_::_::t=>t|_=>[]
 |7,l=>match l with |_::_::_::_::_::_::_::t=>t|_=>[]
 |n+8,l=>match l with |_::_::_::_::_::_::_::_::t=>Mn n t|_=>[]
def QN (m:Mem)(b o n:Nat):Bool:=
 match m.bI with
 | []=>U
 |l=>!meets l b o n
def BC (m:Mem)(b o:Nat)(k:ab->Rs):Rs:=
 match m.blk b with
 |⟨1,_,cs,_,_,_,_,_⟩=>if QN m b o 1 then
   match Mn o cs with
   |some v::_=>k v
   |_=>Y
  else Y
 |_=>Y
def Oh (x:lD):mY:=λ_ tm m df k=>Ci (x tm) λb o=>BC m b o λv=>k v m df
def aii (l:Option (List ab))(k:ab->Rs):Rs:=
 match l with
 |some l=>k (.agg l.toArray)
 |none=>Y
def Og (n:Nat)(x:lD):mY:=λ_ tm m df k=>Ci (x tm) λb o=>aii (m.dP b o n) λv=>k v m df
def LG (P:aE)(o:iK)(t:aT)(x:lD):Option mY:=
 match zK P t with
 |some U=>match eS P t with
  |some n=>Z (Og n x)
  |none=>Z (jZ P o)
 |some O=>Z (Oh x)
 |none=>Z (jZ P o)
def alN (r:Option Mem)(k:Mem->Rs):Rs:=
 match r with
 |some m=>k m
 |none=>Y
def xF:Nat->List (Option ab)->ab->Option (List (Option ab))
 |0,l,v=>match l with |some _::t=>Z (Z v::t)|_=>Y
 |1,l,v=>match l with |a::Z _::t=>Z (a::Z v::t)|_=>Y
 |2,l,v=>match l with |a::b::Z _::t=>Z (a::b::Z v::t)|_=>Y
 |3,l,v=>match l with |a::b::c::Z _::t=>Z (a::b::c::Z v::t)|_=>Y
 |4,l,v=>match l with |a::b::c::d::Z _::t=>Z (a::b::c::d::Z v::t)|_=>Y
 |5,l,v=>match l with |a::b::c::d::e::Z _::t=>Z (a::b::c::d::e::Z v::t)|_=>Y
 |6,l,v=>match l with |a::b::c::d::e::f::Z _::t=>Z (a::b::c::d::e::f::Z v::t)|_=>Y
 |7,l,v=>match l with |a::b::c::d::e::f::g::Z _::t=>Z (a::b::c::d::e::f::g::Z v::t)|_=>Y
 |n+8,l,v=>match l with
  |a::b::c::d::e::f::g::h::t=>match xF n t v with
   |some t'=>Z (a::b::c::d::e::f::g::h::t')
   |none=>Y
  |_=>Y
def SD (m:Mem)(b o:Nat):Bool:=
 match Nat.ble m.floor b,m.bI with
 |true,[]=>Nat.ble m.base b
 |_,_=>m.dh b o 1
def Ds (m:Mem)(b o:Nat)(v:ab)(k:Mem->Rs):Rs:=
 match m.blk b with
 |⟨1,sz,cs,es,c,str,pos,_⟩=>if SD m b o then
   match xF o cs v with
   |some gS=>k {m with heap:=m.heap.put b ⟨1,sz,gS,es,c,str,pos,m.tick⟩,tick:=Nat.succ m.tick}
   |none=>Y
  else Y
 |_=>Y
def nT (v:ab):Bool:=
 match v with
 | .agg _=>O
 | .tuple _=>O
 |_=>U
def CB (n:Nat)(p x:lD):mY:=λ_ tm m df k=>Ci (p tm) λb o=>match x tm with
  | .agg cs=>if Nat.beq n cs.size then alN (m.dW b o cs.toList) λm'=>k undef m' df else Y
  |v=>if Nat.beq n 1 then(if nT v then Ds m b o v λm'=>k undef m' df else Y)else Y
def Dq (P:aE)(o:iK)(t:aT)(p x:lD):Option mY:=
 match eS P t with
 |some n=>Z (CB n p x)
 |none=>Z (jZ P o)
def Pu (d:Nat)(p:lD):mY:=λ_ tm m df k=>Ci (p tm) λb o=>k (ptrTo b (Nat.add o d)) m df
def rh (P:aE)(o:iK)(s:aT)(p:lD)(f:Nat):Option mY:=
 match P.underlying s with
 |some (.struct fields)=>match fields[f]? with
  |some fd=>match eS P fd.type with
   |some (_+1)=>Z (Pu fd.offset p)
   |_=>Z (jZ P o)
  |none=>Z (jZ P o)
 |_=>Z (jZ P o)
def Sx (v:ab)(len:Nat)(k:Nat->Rs):Rs:=
 match v with
 | .int _ (.ofNat n)=>if Nat.blt n len then k n else Y
 |_=>Y
def Jb (s:Nat)(x i:lD):mY:=λ_ tm m df k=>match x tm with
 | .slice (Z ⟨b,o,Y⟩) len _=>Sx (i tm) len λn=>k (ptrTo b (Nat.add o (Nat.mul n s))) m df
 |_=>Y
def Jd (len s:Nat)(x i:lD):mY:=λ_ tm m df k=>Ci (x tm) λb o=>Sx (i tm) len λn=>k (ptrTo b (Nat.add o (Nat.mul n s))) m df
def qY (P:aE)(o:iK)(t:aT)(x i:lD):Option mY:=
 match P.underlying t with
 |some (.slice e)=>match eS P e with
  |some s=>Z (Jb s x i)
  |none=>Z (jZ P o)
 |some (.array len e)=>match eS P e with
  |some s=>Z (Jd len s x i)
  |none=>Z (jZ P o)
 |_=>Z (jZ P o)
def yd:List UInt8->Nat->Option UInt8
 | [],_=>Y
 |b::_,0=>Z b
 |_::l,i+1=>yd l i
def YQ (x i:lD):mY:=λ_ tm m df k=>match x tm with
  | .string s=>match i tm with
   | .int _ (.ofNat n)=>match yd s.data.toList n with
    |some b=>k (.int .u8 (.ofNat b.toNat)) m df
    |none=>Y
   |_=>Y
  |_=>Y
def Er (P:aE)(o:iK)(t:aT)(x i:lD):Option mY:=
 match P.underlying t with
 |some .string=>Z (YQ x i)
 |_=>Z (jZ P o)
def On (x:lD):mY:=λ_ tm m df k=>match x tm with
  | .string s=>k (.int .i64 (.ofNat s.size)) m df
  |_=>Y
def WX (x:lD):mY:=λ_ tm m df k=>match x tm with
  | .slice _ n _=>k (.int .i64 (.ofNat n)) m df
  |_=>Y
def WY (P:aE)(o:iK)(t:aT)(x:lD):Option mY:=
 match P.underlying t with
 |some .string=>Z (On x)
 |some (.slice _)=>Z (WX x)
 |_=>Z (jZ P o)
def zq (x:lD)(i:Nat):mY:=λ_ tm m df k=>
 match x tm with
 | .tuple vs=>match vs.toList[i]? with
  |some v=>k v m df
  |none=>Y
 |_=>Y
def Of (P:aE)(o:iK)(pP:Bool)(x y:lD):mY:=λcall tm m df k=>
 match x tm with
 | .int a i=>match y tm with
  | .int b j=>k (.int a (if dx j i then(if pP then i else j)else(if pP then j else i))) m df
  |_=>Y
 |_=>jZ P o call tm m df k
def ab9 (x:lD):mY:=λ_ tm m df k=>
 match x tm with
 | .bool b=>k (.bool (!b)) m df
 |_=>Y
def Wu (P:aE)(o:iK)(x:lD):mY:=λcall tm m df k=>
 match x tm with
 | .pointer (Z a)=>k (.pointer (Z a)) m df
 |_=>jZ P o call tm m df k
def Y1 (cs:List (Option ab))(m:Mem)(df:Df)(k:Kv):Rs:=
 k (ptrTo m.next 0) {m with heap:=m.heap.put m.next ⟨1,0,cs,#[],0,.empty,1,m.tick⟩,tick:=Nat.succ m.tick,next:=Nat.succ m.next} df
def Y2 (cs:List (Option ab)):mY:=λ_ tm m df k=>Y1 cs m df k
def anF (x:lD):mY:=λ_ tm m df k=>Y1 ((x tm).cells.toList.map Z) m df k
def iI (P:aE)(o:iK):Option mY:=
 match o.op with
 | .move x=>eY x λx=>Z (WB x)
 | .assign x=>eY x λx=>Z (WB x)
 | .pick c x y=>eY c λc=>eY x λx=>eY y λy=>Z (Lg c x y)
 | .binOp op t x y _=>eY x λx=>eY y λy=>YW P o op t x y
 | .load t x=>eY x λx=>LG P o t x
 | .store t p x=>eY p λp=>eY x λx=>Dq P o t p x
 | .fieldAddr s p f=>eY p λp=>rh P o s p f
 | .indexAddr t x i=>eY x λx=>eY i λi=>qY P o t x i
 | .index t x i=>eY x λx=>eY i λi=>Er P o t x i
 | .extract x i=>eY x λx=>Z (zq x i)
 | .unOp .not _ x=>eY x λx=>Z (ab9 x)
 | .nilCheck x=>eY x λx=>Z (Wu P o x)
 | .alloc e=>match iT P e with
  |some z=>Z (Y2 (z.cells.toList.map Z))
  |none=>Y
 | .box _ x=>eY x λx=>Z (anF x)
 | .call {callee:=.builtin .min,args,.. }=>match args.toList with
  | [x,y]=>eY x λx=>eY y λy=>Z (Of P o O x y)
  |_=>Z (jZ P o)
 | .call {callee:=.builtin .max,args,.. }=>match args.toList with
  | [x,y]=>eY x λx=>eY y λy=>Z (Of P o U x y)
  |_=>Z (jZ P o)
 | .call {callee:=.value (.func f),args,.. }=>uH args.toList λxs=>Z (YP f xs)
 | .call {callee:=.value x,args,.. }=>eY x λx=>uH args.toList λxs=>Z (MD x xs)
 | .call {callee:=.invoke r name,args,.. }=>eY r λr=>uH args.toList λxs=>Z (Rg P r name xs)
 | .call {callee:=.builtin .len,args,argTypes}=>match args.toList,argTypes.toList with
  | [x],t::_=>eY x λx=>WY P o t x
  |_,_=>Z (jZ P o)
 | .defer {callee:=.value x,args,.. }=>eY x λx=>uH args.toList λxs=>Z (JE x xs)
 |_=>Z (jZ P o)
def abX (p:Put)(rest:iR)(call:cH)(tm:Tm):Kv:=λv m df=>rest call (p v tm) m df
def noK (rest:iR)(call:cH)(tm:Tm):Kv:=λv m df=>rest call tm m df
def PK (p:Put)(op:mY)(rest:iR):iR:=λcall tm m df=>op call tm m df (abX p rest call tm)
def Kr (op:mY)(rest:iR):iR:=λcall tm m df=>op call tm m df (noK rest call tm)
def Jq (g:lD)(want:Bool)(p:Put)(op:mY)(rest:iR):iR:=λcall tm m df=>
 match g tm with
 | .bool U=>if want then op call tm m df (abX p rest call tm)else rest call (p undef tm) m df
 | .bool O=>if want then rest call (p undef tm) m df else op call tm m df (abX p rest call tm)
 |_=>rest call (p undef tm) m df
def Jp (g:lD)(want:Bool)(op:mY)(rest:iR):iR:=λcall tm m df=>
 match g tm with
 | .bool U=>if want then op call tm m df (noK rest call tm)else rest call tm m df
 | .bool O=>if want then rest call tm m df else op call tm m df (noK rest call tm)
 |_=>rest call tm m df
def ac6:iR:=λ_ tm m df=>Z ⟨tm,m,df⟩
def V5 (P:aE)(nt:Nat)(ops:Array iK)(i:Nat)(rest:iR):Option iR:=
 match ops[i]? with
 |none=>Y
 |some o=>if o.op.operands.toList.all (s9 nt P.globals.size)then
  match iI P o with
  |none=>Y
  |some op=>match o.guard with
   |none=>match o.dst with
    |some d=>Ih d λ_ p=>Z (PK p op rest)
    |none=>Z (Kr op rest)
   |some (j,want)=>match(ops[j]?).bind (·.dst)with
    |some g=>if Nat.blt g nt then Ih g λgx _=>match o.dst with
     |some d=>Ih d λ_ p=>Z (Jq gx want p op rest)
     |none=>Z (Jp gx want op rest)
     else Y
    |none=>Y
  else Y
def oS (v:ab):Option Nat:=
 match v with
 | .pointer (Z a)=>Z a.block
 | .slice (Z a) _ _=>Z a.block
 | .map (Z r)=>Z r
 |_=>Y
def om (o:iK):Option cd:=
 match o.op with
 | .load _ x=>Z x
 | .lookup _ x _ _=>Z x
 | .slice _ x _ _ _=>Z x
 |_=>o.dst.map .tmp
def cY (ops:Array iK)(o:iK)(tm:Tm):Bool:=
 match o.guard with
 |none=>U
 |some (j,want)=>match(ops[j]?).bind (·.dst)with
  |some g=>match di g tm with
   | .bool b=>b==want
   |_=>O
  |none=>O
def jX (m:Mem)(v:ab):ab:=
 match oS v with
 |some b=> .int .i64 (.ofNat (m.blk b).bq)
 |none=> .nilFunc
def UO (ops:Array iK)(o:iK)(x:cd)(slot:Nat)(rest:iR):iR:=λcall tm m df=>
 rest call (u5 slot (if cY ops o tm then jX m (dG tm x)else undef) tm) m df
def yP (a b:ab):Bool:=
 match a,b with
 | .int _ (.ofNat i),.int _ (.ofNat j)=>Nat.beq i j
 | .nilFunc,.nilFunc=>U
 |_,_=>O
def looks (o:iK):Bool:=
 match o.op with
 | .load .. =>U
 | .lookup .. =>U
 | .slice .. =>U
 |_=>O
def uq (P:aE)(ops:Array iK)(o:iK)(x:cd)(slot:Nat)(rest:iR):iR:=λcall tm m df=>
 if cY ops o tm then
  if yP (di slot tm) (jX m (dG tm x))&&(if looks o then(dL P (dG tm) o m).isSome else match oS (dG tm x)with |some b=>Nat.ble m.floor b|none=>U)then rest call tm m df else Y
 else rest call tm m df
abbrev oV:=Nat×Nat×Nat
def P0 (f:iR):iR:=λcall tm m df=>match m.pend with
 | []=>f call tm m df
 |_=>Y
def A8 (P:aE)(nt:Nat)(ops:Array iK)(t:oV)(rest:iR):Option iR:=
 match t with
 |(0,i,slot)=>match V5 P nt ops i rest with
  |some f=>Z (match slot with |0=>f|_=>P0 f)
  |none=>Y
 |(1,i,slot)=>match ops[i]? with
  |some o=>match om o with
   |some x=>if s9 nt P.globals.size x&&Nat.ble nt slot&&Nat.blt slot 512 then Z (UO ops o x slot rest)else Y
   |none=>Y
  |none=>Y
 |(_,i,slot)=>match ops[i]? with
  |some o=>match om o with
   |some x=>Z (uq P ops o x slot rest)
   |none=>Y
  |none=>Y
def iL (P:aE)(nt:Nat)(ops:Array iK):List oV->Option iR
 | []=>Z ac6
 |t::l=>match iL P nt ops l with
  |some rest=>A8 P nt ops t rest
  |none=>Y
def qg (a b:F):F:=λcall st=>
 match a call st with
 |some (.normal,kz)=>b call kz
 |r=>r
def yO:F:=λ_ st=>Z (.normal,st)
def Ra (x:lD)(a b:F):F:=λcall st=>
 match x st.tm with
 | .bool U=>a call st
 | .bool O=>b call st
 |_=>Y
def JN (id:Nat)(a:F):F:=λcall st=>
 match a call st with
 |some (.exit j,kz)=>if Nat.beq j id then Z (.normal,kz)else Z (.exit j,kz)
 |r=>r
def y8 (a:F)(call:cH):Nat->Ss->Option (Exit×Ss)
 |0,_=>Y
 |n+1,st=>match a call st with
  |some (.normal,kz)=>y8 a call n kz
  |r=>r
def ad7 (a:F):F:=λcall st=>y8 a call 100000000000000 st
def HF (e:Exit):F:=λ_ st=>Z (e,st)
def Se (o:iR):F:=λcall st=>
 match o call st.tm st.mem st.df with
 |some kz=>Z (.normal,kz)
 |none=>Y
def z8 (has:Nat->Bool)(rest:Nat->Option F)(call:cH):Nat->F->Ss->Option (Exit×Ss)
 |0,_,_=>Y
 |n+1,a,st=>match a call st with
  |some (.goto l,kz)=>if has l then match rest l with
   |some b=>z8 has rest call n b kz
   |none=>Y
   else Z (.goto l,kz)
  |r=>r
def iG (ops:Array iK)(bN:Array Nat)(hs:List Nat)(i:Nat):Bool:=
 Nat.blt (cX bN hs i) (sN bN hs i)&&((ops[i]?).any λo=>match o.op with
  | .load .. | .lookup .. | .slice .. | .alloc _| .box .. | .buildSlice .. | .makeSlice .. | .makeMap .. =>U
  |_=>O)
def IJ (ops:Array iK)(bN:Array Nat)(nt:Nat):Bool:=
 (List.range ops.size).all λi=>match ops[i]? with
  |some o=>o.after.toList.all (λe=>!Region.binds .any e||Nat.blt e.on i)&&Nat.beq (o.after.toList.foldl (λs e=>if Region.binds .any e then s|||2^e.on|||bN.getD e.on 0 else s) 0) (bN.getD i 0)&&(match o.dst with |some d=>Nat.blt d nt|none=>U)
  |none=>O
def steady (ops:Array iK)(bN:Array Nat)(hs:List Nat):Bool:=
 (List.range ops.size).all λi=>!iG ops bN hs i||(match ops[i]? with
  |some o=>(List.range ops.size).all λj=>match ops[j]? with
   |some y=>(match y.dst with |some d=> !(lK ops o).contains d||(bN.getD i 0).testBit j|none=>U)
   |none=>U
  |none=>O)
def gJ (ops:Array iK)(bN:Array Nat)(hs:List Nat)(s:Nat):List Nat:=(List.range ops.size).filter λi=>(ops[i]?).any fI&&cX bN hs i==s
def Ip (ops:Array iK)(bN:Array Nat)(hs:List Nat)(nt s:Nat):List oV:=
 (gJ ops bN hs s).flatMap λi=>if iG ops bN hs i then[(0,i,0),(1,i,nt+i)]else[(0,i,0)]
def wD (ops:Array iK)(bN:Array Nat)(hs:List Nat)(nt s:Nat):List oV:=
 ((List.range ops.size).filter λi=>(ops[i]?).any fI&&iG ops bN hs i&&decide (cX bN hs i<=s)&&decide (s<sN bN hs i)).map λi=>(2,i,nt+i)
def oY (ops:Array iK)(bN:Array Nat)(hs:List Nat)(nt:Nat):Nat->List Nat->List oV
 |s,[]=>Ip ops bN hs nt s
 |s,h::l=>Ip ops bN hs nt s++(0,h,1)::(wD ops bN hs nt s++oY ops bN hs nt (s+1) l)
def YD (ops:Array iK)(nt:Nat):Option (List oV):=
 let bN:=Region.before ops
 let hs:=aF ops
 if zy bN hs&&tidy ops bN&&IJ ops bN nt&&steady ops bN hs then Z (oY ops bN hs nt 0 hs)else Y
def comp (P:aE)(nt:Nat):Nat->Code->Option F
 |0,_=>Y
 |n+1,c=>match c with
  | .skip=>Z yO
  | .label _=>Z yO
  | .seq a b=>match comp P nt n a with
   |some a=>match comp P nt n b with
    |some b=>Z (qg a b)
    |none=>Y
   |none=>Y
  | .cond x a b=>if s9 nt P.globals.size x then
   match comp P nt n a with
   |some a=>match comp P nt n b with
    |some b=>eY x λx=>Z (Ra x a b)
    |none=>Y
   |none=>Y
   else Y
  | .block id b=>match comp P nt n b with
   |some b=>Z (JN id b)
   |none=>Y
  | .loop b=>match comp P nt n b with
   |some b=>Z (ad7 b)
   |none=>Y
  | .exit id=>Z (HF (.exit id))
  | .ret=>Z (HF .ret)
  | .goto l=>Z (HF (.goto l))
  | .scope b=>match comp P nt n b with
   |some f=>Z λcall st=>z8 (λl=>(findLabel b l).isSome) (λl=>(findLabel b l).bind (comp P nt n)) call 1000 f st
   |none=>Y
  | .region _ ops draw=>if draw then
    match YD ops nt with
    |some l=>match iL P nt ops l with
     |some o=>Z (Se o)
     |none=>Y
    |none=>Y
   else match iL P nt ops ((List.range ops.size).map λi=>(0,i,0))with
   |some o=>Z (Se o)
   |none=>Y
  |_=>Y
def wL (P:aE)(nt:Nat)(m:Mem)(tm:Tm):List ResultVar->Option (List ab)
 | []=>Z []
 | .tmp t::l=>if Nat.blt t nt then
   match wL P nt m tm l with
   |some vs=>Z (di t tm::vs)
   |none=>Y
  else Y
 | .cell a t::l=>if Nat.blt a nt then
   match kY P t (di a tm) m,wL P nt m tm l with
   |some v,Z vs=>Z (v::vs)
   |_,_=>Y
  else Y
def ni (P:aE)(nt:Nat)(rs:List ResultVar)(tm:Tm)(m:Mem):Option ab:=
 match wL P nt m tm rs with
 |some [v]=>Z v
 |some vs=>Z (.tuple vs.toArray)
 |none=>Y
def dX (P:aE)(f:Nat):Bool:=(P.funcs[f]?).any (·.body.isSome)
def qu (P:aE)(X:Ext)(call:cH):Df->Mem->Option Mem
 | [],m=>Z m
 |(f,args)::ds,m=>if dX P f&& !(Nat.beq f X.Nl||Nat.beq f X.xy)then
   match call f args m with
   |some (_,m')=>qu P X call ds m'
   |none=>Y
  else Y
def Q6 (r:Option (Exit×Ss)):Option Ss:=
 match r with
 |some (.normal,st)=>Z st
 |some (.ret,st)=>Z st
 |_=>Y
def zH (P:aE)(X:Ext)(nt:Nat)(rs:List ResultVar)(b:F)(call:cH)(args:List ab)(m:Mem):Option (ab×Mem):=
 match(if Nat.ble args.length nt then FX args else Y)with
 |none=>Y
 |some tm=>
  match Q6 (b call ⟨tm,m,[]⟩)with
  |none=>Y
  |some st=>match qu P X call st.df st.mem with
   |none=>Y
   |some m'=>match ni P nt rs st.tm m' with
    |some v=>Z (v,m')
    |none=>Y
structure Tab where
 body:cH->List ab->Mem->Option (ab×Mem)
def kX (P:aE)(X:Ext)(f:Nat):Tab:=
 match P.funcs[f]? with
 |some fn=>match fn.body with
  |some c=>match(if Nat.ble fn.ntmps 512 then comp P fn.ntmps 1000 c else Y)with
   |some b=>⟨zH P X fn.ntmps fn.results.toList b⟩
   |none=>⟨λ_ _ _=>Y⟩
  |none=>⟨λ_ args m=>vB X f args m⟩
 |none=>⟨λ_ _ _=>Y⟩
def og (P:aE)(X:Ext):Nat->cH
 |0=>λ_ _ _=>Y
 |n+1=>λf args m=>(kX P X f).body (og P X n) args m
theorem z7 {α a:Type}{i:Nat}{k:(N8 α->α)->(α->N8 α->N8 α)->Option a}{r:a}(h:UM i k=Z r):
  i<8/\k (λn=>n.get i) (λx n=>n.put i x)=Z r:=by
 unfold UM at h
 split at h<;>first |exact⟨ai,h⟩|cases h
theorem jN {a:Type}{t:Nat}{k:lD->Put->Option a}{r:a}(h:Ih t k=Z r):t<512/\k (di t) (u5 t)=Z r:=by
 unfold Ih at h;obtain⟨b,h⟩:=z7 h;obtain⟨d,h⟩:=z7 h;obtain⟨c,h⟩:=z7 h;have f:t / 64<8:=b;have e:Nat.div t 64=tK t 64:=by show t / 64=t / 64%8;omega
 rw[e]at h;exact⟨ai,h⟩
theorem qA {t a:Nat}(i:t<512)(h:a<512)(v:ab)(tm:Tm):di a (u5 t v tm)=if t=a then v else di a tm:=by
 have d (x k:Nat):tK x k=x / k%8:=rfl;have e (x:Nat):Nat.mod x 8=x%8:=rfl;have l (x k:Nat):tK x k<8:=by rw[d];omega
 have g (x:Nat):Nat.mod x 8<8:=by rw[e];omega
 unfold di u5;rw[N8.get_put _ _ (l ..) (l ..)]
 by_cases b:tK t 64=tK a 64
 .rw[bh b,N8.get_put _ _ (l ..) (l ..)]
  by_cases c:tK t 8=tK a 8
  .rw[bh c,N8.get_put _ _ (g ..) (g ..)]
   by_cases f:Nat.mod t 8=Nat.mod a 8
   .rw[bh f,bh (by simp only[d,e]at b c f;omega)]
   .rw[bH f,bH (by rintro rfl;exact f rfl),b,c]
  .rw[bH c,bH (by rintro rfl;exact c rfl),b]
 .rw[bH b,bH (by rintro rfl;exact b rfl)]
theorem aK {α:Type}{x:cd}{k:lD->Option α}{r:α}(h:eY x k=Z r):k (λa=>dG a x)=Z r:=by
 unfold eY at h
 split at h
 .exact(jN h).2
 .exact h
 .exact h
 .exact h
theorem fV {α:Type}:∀{xs:List cd}{k:List lD->Option α}{r:α},uH xs k=Z r->∃b,k b=Z r/\∀a,Nb b a=xs.map (dG a)
 | [],k,r,h=>⟨[],h,λ_=>rfl⟩
 |x::l,k,r,h=>by
  have e:=aK h;obtain⟨b,d,c⟩:=fV e;exact⟨_,d,λa=>by simp[Nb,c]⟩
def FJ (P:aE)(o:iK)(ev:cd->ab)(f:Nat)(args:List ab):Prop:=
 (∃x mM mH first cap,o.op=.call {callee:=.value x,args:=mM,argTypes:=mH}/\ev x=.func (.func f) first cap/\args=first.toList++mM.toList.map ev++cap.toList)\/
 (∃r name mM mH recv,o.op=.call {callee:=.invoke r name,args:=mM,argTypes:=mH}/\gP P (ev r) name=Z (f,recv)/\args=recv::mM.toList.map ev)
def Rz (o:iK)(ev:cd->ab)(f:Nat)(args:List ab):Prop:=
 ∃x mM mH first cap,o.op=.defer {callee:=.value x,args:=mM,argTypes:=mH}/\ev x=.func (.func f) first cap/\args=first.toList++mM.toList.map ev++cap.toList
def AY (P:aE)(call:cH)(o:iK)(tm:Tm)(m:Mem)(df:Df)(v:ab)(m':Mem)(nS:Df):Prop:=
 (dL P (dG tm) o m=Z (v,m')/\nS=df)\/
 (∃f args,FJ P o (dG tm) f args/\call f args m=Z (v,m')/\nS=df)\/
 (∃f args,Rz o (dG tm) f args/\v=undef/\m'=m/\nS=(f,args)::df)
def eM (P:aE)(o:iK)(op:mY):Prop:=
 ∀call tm m df k r,op call tm m df k=Z r->∃v m' nS,k v m' nS=Z r/\AY P call o tm m df v m' nS
section
variable {P:aE}{o:iK}
theorem cM:eM P o (jZ P o):=by
 intro call c m df k r h;unfold jZ at h
 split at h
 .rename_i v a b;exact⟨v,a,df,h,.inl ⟨b,rfl⟩⟩
 .cases h
theorem x8 {a df k r}(h:MF a df k=Z r):∃v b,a=Z (v,b)/\k v b df=Z r:=by
 unfold MF at h
 split at h
 .exact⟨_,_,rfl,h⟩
 .cases h
theorem Bu {x}(a:o.op=.move x\/o.op=.assign x):eM P o (WB λb=>dG b x):=by
 intro call b m df k r h;refine⟨_,_,_,h,.inl ⟨?_,rfl⟩⟩;unfold dL;rcases a with a|a<;>rw[a]
theorem Lf {c x y}(d:o.op=.pick c x y):eM P o (Lg (λa=>dG a c) (λa=>dG a x) (λa=>dG a y)):=by
 intro call a m df k r h;unfold Lg at h
 split at h
 .rename_i b;refine⟨_,_,_,h,.inl ⟨?_,rfl⟩⟩;unfold dL;rw[d];simp only[b,if_true]
 .rename_i b;refine⟨_,_,_,h,.inl ⟨?_,rfl⟩⟩;unfold dL;rw[d];simp only[b,cK,if_false]
 .cases h
theorem lh (a b:Nat):Nat.blt a b=decide (a<b):=by rw[Bool.eq_iff_iff];simp[Nat.blt_eq]
theorem Fs (a b:Nat):Nat.ble a b=decide (a<=b):=by rw[Bool.eq_iff_iff];simp
theorem MK (a b:Nat):Nat.beq a b=decide (a=b):=by rw[Bool.eq_iff_iff];simp
theorem fW (i j:Int):dx i j=decide (i<j):=by
 unfold dx
 split<;>(try rw[lh])<;>rw[Bool.eq_iff_iff]<;>simp only[iU,cK,false_iff,true_iff,Int.ofNat_eq_natCast,Int.negSucc_eq]<;>omega
theorem my (i j:Int):rk i j=decide (i=j):=by
 unfold rk
 split
 .rw[MK,Bool.eq_iff_iff];simp only[iU,Int.ofNat_eq_natCast];omega
 .rw[MK,Bool.eq_iff_iff];simp only[iU,Int.negSucc_eq];omega
 .rename_i c b;rw[Bool.eq_iff_iff];simp only[cK,iU,false_iff];rintro rfl;cases i with
  |ofNat a=>exact c a a rfl rfl
  |negSucc a=>exact b a a rfl rfl
theorem vq {a b}(h:Nat.beq (yX a) (yX b)=U):a=b:=by
 cases a<;>cases b<;>first |rfl|(exfalso;revert h;decide)
theorem tM {k}{n:Nat}(h:Nat.blt n (hZ k)=U):k.wrap n=n:=by
 rw[lh,iU]at h;cases k<;>simp only[hZ]at h<;>simp[bY.wrap,bY.bits,bY.signed]<;>omega
theorem Yd (k:bY):hZ k<=2^k.bits:=by cases k<;>decide
theorem jx {α c:Type}{f:α->Sem c}:∀{x:Sem α}{a:α},x.aQ P=Z a->(x>>=f).aQ P=(f a).aQ P:=by
 intro x
 show∀{a:α},x.aQ P=Z a->(x.bind f).aQ P=(f a).aQ P
 induction x with
 |pure a=>intro b h;simp only[Sem.aQ,ah]at h;subst h;rfl
 |program k d=>intro b h;exact d P h
 |_=>intro b h;simp[Sem.aQ]at h
theorem fU {t:aT}{d:TypeDesc}(h:P.underlying t=Z d):(underlying t).aQ P=Z d:=by
 unfold underlying;rw[jx (a:=P) rfl,h];rfl
theorem iM {ev}(c:o.op.operands.all (λx=>plain (ev x))=U){v}(b:(execOp ev o).aQ P=Z (.value v))(a:plain v=U):dv P ev o=Z v:=by
 unfold dv;rw[bh c,b];simp only[a,if_true]
theorem r9 {ev op t u x y}(g:o.op=.binOp op t x y u){a b}{i j:Int}(f:ev x=.int a i)(d:ev y=.int b j){v}
  (h:(binOp op t (.int a i) (.int b j)).aQ P=Z v)(m:plain v=U):dv P ev o=Z v:=by
 refine iM ?_ ?_ m
 .rw[g];simp[Op.operands,f,d,plain,de]
 .unfold execOp;rw[g];simp only[f,d];have e:eqGuard op t x y (.int a i) (.int b j)=pure ():=by
   unfold eqGuard
   split<;>rfl
  rw[e];simp only[pure_bind];generalize binOp op t (.int a i) (.int b j)=s at h
  show Sem.aQ P (s.bind λv=>Sem.pure (Next.value v))=_
  have c:∀s:Sem ab,s.aQ P=Z v->Sem.aQ P (s.bind λv=>Sem.pure (Next.value v))=Z (Next.value v):=by
   intro s
   induction s with
   |pure a=>intro h;simp only[Sem.aQ,ah]at h;subst h;rfl
   |program k l=>intro h;exact l P h
   |_=>intro h;simp[Sem.aQ]at h
  exact c s h
theorem CG {ev op t u x y}(l:o.op=.binOp op t x y u){a b}{i j:Int}(k:ev x=.int a i)(g:ev y=.int b j){v}(f:dv P ev o=Z v){m}:dL P ev o m=Z (v,m):=by
 unfold dL;rw[l];simp only[];have e:∀c d,tk P t c d (ev x) (ev y)=Y:=by
  intro c d;rw[k,g];unfold tk
  split<;>first |rfl|(rename_i h;cases h)
 split
 .rw[e,f];rfl
 .rw[e,f];rfl
 .rw[f];rfl
theorem AY.of{call tm m m' df v}(h:dL P (dG tm) o m=Z (v,m')):AY P call o tm m df v m' df:=.inl ⟨h,rfl⟩
variable {x y:cd}
abbrev ex (x:cd):lD:=λtm=>dG tm x
theorem oQ {op t u}(e:o.op=.binOp op t x y u){f}(l:∀k i j,(binOp op t (.int k i) (.int k j)).aQ P=Z (.bool (f i j))):eM P o (Gx f (ex x) (ex y)):=by
 intro call n m df k r h;unfold Gx at h
 split at h
 .rename_i a i d
  split at h
  .rename_i b j c
   split at h
   .rename_i g;obtain rfl:=vq g;exact⟨_,_,_,h,.of (CG e d c (r9 e d c (l _ _ _) rfl))⟩
   .cases h
  .cases h
 .cases h
theorem AW {op:BinOp}{t u:aT}(g:o.op=.binOp op t x y u){f:Int->Int->Int}{q:Int->Int->Option Nat}(p:∀i j n,q i j=Z n->f i j=n)
  (w:∀k i j,(binOp op t (.int k i) (.int k j)).aQ P=Z (.int k (k.wrap (f i j)))):eM P o (arF q f (ex x) (ex y)):=by
 intro call z m df k r h;unfold arF at h
 split at h
 .rename_i a i e
  split at h
  .rename_i b j d
   split at h
   .rename_i v;obtain rfl:=vq v;have c:=CG (m:=m) g e d (r9 g e d (w _ _ _) rfl)
    split at h
    .rename_i n s
     split at h
     .rename_i l;refine⟨_,_,_,h,.of ?_⟩;rw[c,p _ _ _ s,tM l];rfl
     .exact⟨_,_,_,h,.of c⟩
    .exact⟨_,_,_,h,.of c⟩
   .cases h
  .cases h
 .cases h
theorem Fv {k}{i:Nat}(h:Nat.blt i (hZ k)=U):(BitVec.ofInt k.bits i).toNat=i:=by
 rw[lh,iU]at h;have :=Yd k;simp only[BitVec.toNat_ofInt];have a:(i:Int)%((2^k.bits:Nat):Int)=i:=Int.emod_eq_of_lt ai ai;rw[a];simp
theorem Yc (k:bY):∃n,hZ k=2^n:=by
 cases k
 .exact⟨7,rfl⟩
 .exact⟨15,rfl⟩
 .exact⟨31,rfl⟩
 .exact⟨63,rfl⟩
 .exact⟨8,rfl⟩
 .exact⟨16,rfl⟩
 .exact⟨32,rfl⟩
 .exact⟨64,rfl⟩
theorem vK {op t u}(p:o.op=.binOp op t x y u){q}(s:∀n i j,i<2^n->j<2^n->q i j<2^n)
  (w:∀(k:bY) (i j:Nat),(BitVec.ofInt k.bits (i:Int)).toNat=i->(BitVec.ofInt k.bits (j:Int)).toNat=j->(binOp op t (.int k i) (.int k j)).aQ P=Z (.int k (k.wrap ((q i j:Nat):Int)))):eM P o (BZ P o q (ex x) (ex y)):=by
 intro call f m df k r h;unfold BZ at h
 split at h
 .rename_i a i l
  split at h
  .rename_i b j g
   split at h
   .rename_i c;simp only[ag]at c;obtain⟨⟨c,e⟩,d⟩:=c;obtain rfl:=vq c;refine⟨_,_,_,h,.of ?_⟩;rw[CG p l g (r9 p l g (w a i j (Fv e) (Fv d)) rfl)];obtain⟨n,v⟩:=Yc a;have :Nat.blt (q i j) (hZ a)=U:=by
     rw[lh,iU]at e d⊢;rw[v]at e d⊢;exact s n i j e d
    rw[tM this];rfl
   .exact cM call f m df k r h
  .cases h
 .exact cM call f m df k r h
theorem EZ {op t u}(g:o.op=.binOp op t x y u){q}(p:∀i j,q i j<=i)
  (n:∀(k:bY) (i j:Nat),Nat.blt i (hZ k)=U->(binOp op t (.int k i) (.int k ((j+1:Nat):Int))).aQ P=Z (.int k ((q i (j+1):Nat):Int))):eM P o (Jx P o q (ex x) (ex y)):=by
 intro call d m df k r h;unfold Jx at h
 split at h
 .rename_i a i f
  split at h
  .rename_i b j e
   split at h
   .rename_i c;simp only[ag]at c;obtain⟨c,l⟩:=c;obtain rfl:=vq c;exact⟨_,_,_,h,.of (CG g f e (r9 g f e (n a i j l) rfl))⟩
   .exact cM call d m df k r h
  .exact cM call d m df k r h
 .exact cM call d m df k r h
theorem Dm {ev op t u}(l:o.op=.binOp op t x y u){a b:ByteArray}(i:ev x=.string a)(g:ev y=.string b){v}
  (h:(Op.stringOp op a b).aQ P=Z v)(p:plain v=U){m}(r:op≠ .shl/\op≠ .shr):dL P ev o m=Z (v,m):=by
 have j:dv P ev o=Z v:=by
  refine iM ?_ ?_ p
  .rw[l];simp[Op.operands,i,g,plain,de]
  .unfold execOp;rw[l];simp only[i,g];have e:eqGuard op t x y (.string a) (.string b)=pure ():=by
    unfold eqGuard
    split<;>rfl
   have q:binOp op t (.string a) (.string b)=Op.stringOp op a b:=by cases op<;>rfl
   rw[e,q];simp only[pure_bind];generalize Op.stringOp op a b=s at h
   show Sem.aQ P (s.bind λv=>Sem.pure (Next.value v))=_
   have f:∀s:Sem ab,s.aQ P=Z v->Sem.aQ P (s.bind λv=>Sem.pure (Next.value v))=Z (Next.value v):=by
    intro s
    induction s with
    |pure a=>intro h;simp only[Sem.aQ,ah]at h;subst h;rfl
    |program k n=>intro h;exact n P h
    |_=>intro h;simp[Sem.aQ]at h
   exact f s h
 unfold dL;rw[l];simp only[];have e:∀c d,tk P t c d (ev x) (ev y)=Y:=by
  intro c d;rw[i,g];unfold tk
  split<;>first |rfl|(rename_i h;cases h)
 split
 .rw[e,j];rfl
 .rw[e,j];rfl
 .rw[j];rfl
theorem yL {want:Bool}{t u}(e:o.op=.binOp (if want then .eql else .neq) t x y u):eM P o (zY want (ex x) (ex y)):=by
 intro call f m df k r h;unfold zY at h
 split at h
 .rename_i a d
  split at h
  .rename_i b c;refine⟨_,_,_,h,.of (Dm e d c ?_ rfl ?_)⟩
   .cases want with
    |true=>simp[Op.stringOp,pure,Sem.aQ]
    |false=>simp[Op.stringOp,pure,Sem.aQ]
   .cases want<;>simp
  .cases h
 .cases h
theorem Pe {t u}(f:o.op=.binOp .add t x y u):eM P o (Pf (ex x) (ex y)):=by
 intro call g m df k r h;unfold Pf at h
 split at h
 .rename_i a d
  split at h
  .rename_i b c
   split at h
   .rename_i e;rw[lh,iU]at e;refine⟨_,_,_,h,.of (Dm f d c ?_ rfl dA)⟩;unfold Op.stringOp;simp only[];rw[bH (by simp only[bY.max,bY.signed,bY.bits];simp;omega)];rfl
   .cases h
  .cases h
 .cases h
theorem Po {op:BinOp}{t u:aT}(c:o.op=.binOp op t x y u){f:mY}(h:YW P o op t (ex x) (ex y)=Z f):eM P o f:=by
 unfold YW at h
 split at h
 .split at h
  .cases h;exact oQ c λk i j=>by simp[binOp,Op.intCmp,pure,Sem.aQ,fW]
  .cases h;exact oQ c λk i j=>by simp[binOp,Op.intCmp,pure,Sem.aQ,gu,fW];rw[Bool.eq_iff_iff];simp
  .cases h;exact oQ c λk i j=>by simp[binOp,Op.intCmp,pure,Sem.aQ,ji,fW]
  .cases h;exact oQ c λk i j=>by simp[binOp,Op.intCmp,pure,Sem.aQ,th,fW];rw[Bool.eq_iff_iff];simp
  .cases h;exact oQ c λk i j=>by simp[binOp,Op.intCmp,pure,Sem.aQ,my];rw[Bool.eq_iff_iff];simp
  .cases h;exact oQ c λk i j=>by simp[binOp,Op.intCmp,pure,Sem.aQ,xL,my];rw[Bool.eq_iff_iff];simp
  .cases h;refine AW c (λi j n g=>?_) λk i j=>by simp[binOp,Op.intArith,pure,Sem.aQ]
   unfold Y4 at g
   split at g
   .cases g;rfl
   .cases g
  .cases h;refine AW c (λi j n g=>?_) λk i j=>by simp[binOp,Op.intArith,pure,Sem.aQ];rfl
   unfold xC at g
   split at g
   .rename_i a b
    split at g
    .rename_i m;rw[Fs,iU]at m;cases g
     show(a:Int)-b=((a-b:Nat):Int)
     omega
    .cases g
   .cases g
  .cases h;exact AW c (λi j n g=>by cases g) λk i j=>by simp[binOp,Op.intArith,pure,Sem.aQ]
  .cases h;refine vK c (λn i j d l=>Nat.or_lt_two_pow d l) λk i j d l=>?_
   simp only[binOp,ne_eq,not_true_eq_false,if_false,Op.intBits,pure,Sem.aQ];rw[BitVec.toNat_or,d,l];rfl
  .cases h;refine vK c (λn i j d l=>Nat.and_lt_two_pow i l) λk i j d l=>?_
   simp only[binOp,ne_eq,not_true_eq_false,if_false,Op.intBits,pure,Sem.aQ];rw[BitVec.toNat_and,d,l];rfl
  .cases h;refine vK c (λn i j d l=>Nat.xor_lt_two_pow d l) λk i j d l=>?_
   simp only[binOp,ne_eq,not_true_eq_false,if_false,Op.intBits,pure,Sem.aQ];rw[BitVec.toNat_xor,d,l];rfl
  .cases h;refine EZ c (λi j=>Nat.div_le_self i j) λk i j d=>?_
   simp only[binOp,ne_eq,not_true_eq_false,if_false,Op.intDiv,pure];rw[bH ai];simp only[Sem.aQ];have e:(i:Int).tdiv (j+1:Nat)=((Nat.div i (j+1):Nat):Int):=rfl;rw[e,tM];rw[lh,iU]at d⊢;exact Nat.lt_of_le_of_lt (Nat.div_le_self i _) d
  .cases h;refine EZ c (λi j=>Nat.mod_le i j) λk i j d=>?_
   simp only[binOp,ne_eq,not_true_eq_false,if_false,Op.intDiv,pure];rw[bH ai];rfl
  .cases h;exact cM
 .split at h
  .cases h;exact yL (want:=U) c
  .cases h;exact yL (want:=O) c
  .cases h;exact Pe c
  .cases h;exact cM
 .cases h;exact cM
theorem sR {v k r}(h:Ci v k=Z r):∃b o,v=.pointer (Z ⟨b,o,Y⟩)/\k b o=Z r:=by
 unfold Ci at h
 split at h
 .exact⟨_,_,rfl,h⟩
 .cases h
theorem zu {α:Type}:∀(n:Nat) (l:List α),Mn n l=l.drop n
 |0,l=>rfl
 |1,l=>by cases l<;>rfl
 |2,l=>by rcases l with _|⟨_,_|⟨_,l⟩⟩<;>rfl
 |3,l=>by rcases l with _|⟨_,_|⟨_,_|⟨_,l⟩⟩⟩<;>rfl
 |4,l=>by rcases l with _|⟨_,_|⟨_,_|⟨_,_|⟨_,l⟩⟩⟩⟩<;>rfl
 |5,l=>by rcases l with _|⟨_,_|⟨_,_|⟨_,_|⟨_,_|⟨_,l⟩⟩⟩⟩⟩<;>rfl
 |6,l=>by rcases l with _|⟨_,_|⟨_,_|⟨_,_|⟨_,_|⟨_,_|⟨_,l⟩⟩⟩⟩⟩⟩<;>rfl
 |7,l=>by rcases l with _|⟨_,_|⟨_,_|⟨_,_|⟨_,_|⟨_,_|⟨_,_|⟨_,l⟩⟩⟩⟩⟩⟩⟩<;>rfl
 |n+8,l=>by
  rcases l with _|⟨_,_|⟨_,_|⟨_,_|⟨_,_|⟨_,_|⟨_,_|⟨_,_|⟨_,l⟩⟩⟩⟩⟩⟩⟩⟩<;>simp only[Mn]
  all_goals first |exact zu n l|simp
theorem EF (m:Mem)(b o n:Nat):QN m b o n=!meets m.bI b o n:=by
 unfold QN
 split
 .rename_i h;rw[h];rfl
 .rfl
theorem Oi {m}{b o:Nat}{k r}(h:BC m b o k=Z r):∃v,m.dP b o 1=Z [v]/\k v=Z r:=by
 unfold BC at h
 split at h
 .rename_i g j i c d pos st f
  split at h
  .rename_i a;rw[EF]at a;rw[zu]at h
   split at h
   .rename_i v t e;refine⟨v,?_,h⟩;unfold Mem.dP;simp only[f,a,e];simp[gG]
   .cases h
  .cases h
 .cases h
theorem LF {t}(d:o.op=.load t x){f}(h:LG P o t (ex x)=Z f):eM P o f:=by
 unfold LG at h
 split at h
 .rename_i c
  split at h
  .rename_i n i;cases h;intro call e m df k r h;unfold Og at h;obtain⟨b,q,a,h⟩:=sR h;unfold aii at h
   split at h
   .rename_i l j;refine⟨_,_,_,h,.of ?_⟩;unfold dL;rw[d];simp only[a,kY,c,i,dw,j,dk]
   .cases h
  .cases h;exact cM
 .rename_i c;cases h;intro call e m df k r h;unfold Oh at h;obtain⟨b,q,a,h⟩:=sR h;obtain⟨v,g,h⟩:=Oi h;refine⟨_,_,_,h,.of ?_⟩;unfold dL;rw[d];simp only[a,kY,c,g,dw,List.head?_cons,dk]
 .cases h;exact cM
theorem CC:∀(n:Nat) (l:List (Option ab)) (v:ab) (a:List (Option ab)),xF n l v=Z a->eU l n [v]=Z a
 |0,l,v,a,h=>by
  unfold xF at h
  split at h
  .cases h;simp[eU]
  .cases h
 |1,l,v,a,h=>by
  unfold xF at h
  split at h
  .cases h;simp[eU]
  .cases h
 |2,l,v,a,h=>by
  unfold xF at h
  split at h
  .cases h;simp[eU]
  .cases h
 |3,l,v,a,h=>by
  unfold xF at h
  split at h
  .cases h;simp[eU]
  .cases h
 |4,l,v,a,h=>by
  unfold xF at h
  split at h
  .cases h;simp[eU]
  .cases h
 |5,l,v,a,h=>by
  unfold xF at h
  split at h
  .cases h;simp[eU]
  .cases h
 |6,l,v,a,h=>by
  unfold xF at h
  split at h
  .cases h;simp[eU]
  .cases h
 |7,l,v,a,h=>by
  unfold xF at h
  split at h
  .cases h;simp[eU]
  .cases h
 |n+8,l,v,a,h=>by
  unfold xF at h
  split at h
  .split at h
   .rename_i b c;cases h;have :=CC n _ v b c;simp[eU,this]
   .cases h
  .cases h
theorem SC {m}{b o:Nat}(h:SD m b o=U):m.dh b o 1=U:=by
 unfold SD at h
 split at h
 .rename_i a c;rw[Fs,iU]at h a;unfold Mem.dh;rw[c];simp[meets,h,a]
 .exact h
theorem Ko {m}{b o:Nat}{v:ab}{k r}(e:v.oneCell'=U)(h:Ds m b o v k=Z r):∃a,m.dW b o [v]=Z a/\k a=Z r:=by
 unfold Ds at h
 split at h
 .rename_i j p n c d pos st g
  split at h
  .rename_i f
   split at h
   .rename_i l i;refine⟨_,?_,h⟩;unfold Mem.dW;simp only[g,List.length_singleton,SC f,List.all_cons,e,List.all_nil,CC _ _ _ _ i,dk];rfl
   .cases h
  .cases h
 .cases h
theorem Sm {v}(h:nT v=U):v.oneCell'=U/\v.cells=#[v]:=by
 cases v<;>first |exact⟨rfl,rfl⟩|cases h
theorem Ik {t p}(e:o.op=.store t p x){f}(h:Dq P o t (ex p) (ex x)=Z f):eM P o f:=by
 unfold Dq at h
 split at h
 .rename_i n g;cases h;intro call i m df k r h;unfold CB at h;obtain⟨b,q,d,h⟩:=sR h
  split at h
  .rename_i w l
   split at h
   .rename_i a;rw[MK,iU]at a;unfold alN at h
    split at h
    .rename_i j c;refine⟨_,_,_,h,.of ?_⟩;unfold dL;rw[e];simp only[d,xD,l];rw[bh (by rw[g,a];rfl)]
     show(m.dW b q w.toList).map _=_
     rw[c];rfl
    .cases h
   .cases h
  .split at h
   .rename_i a
    split at h
    .rename_i s;obtain⟨v,u⟩:=Sm s;obtain⟨j,c,h⟩:=Ko v h;refine⟨_,_,_,h,.of ?_⟩;unfold dL;rw[e];simp only[d,xD];rw[MK,iU]at a;rw[u,bh (by rw[g,a];rfl)]
     show(m.dW b q [dG i x]).map _=_
     rw[c];rfl
    .cases h
   .cases h
 .cases h;exact cM
theorem AH {st p}{f:Nat}(g:o.op=.fieldAddr st p f){q}(h:rh P o st (ex p) f=Z q):eM P o q:=by
 unfold rh at h
 split at h
 .rename_i fields d
  split at h
  .rename_i l a
   split at h
   .rename_i n i;cases h;intro call j m df k r h;unfold Pu at h;obtain⟨b,c,e,h⟩:=sR h;refine⟨_,_,_,h,.of ?_⟩;unfold dL;rw[g];simp only[um,d,e,a,i];rfl
   .cases h;exact cM
  .cases h;exact cM
 .cases h;exact cM
theorem Hf {v}{len:Nat}{k r}(h:Sx v len k=Z r):∃b n,v=.int b (.ofNat n)/\n<len/\k n=Z r:=by
 unfold Sx at h
 split at h
 .split at h
  .rename_i a;rw[lh,iU]at a;exact⟨_,_,rfl,a,h⟩
  .cases h
 .cases h
theorem Aq {t i}(j:o.op=.indexAddr t x i){q}(h:qY P o t (ex x) (ex i)=Z q):eM P o q:=by
 unfold qY at h
 split at h
 .rename_i e d
  split at h
  .rename_i s f;cases h;intro call l m df k r h;unfold Jb at h
   split at h
   .rename_i b c len u a;obtain⟨p,n,g,v,h⟩:=Hf h;refine⟨_,_,_,h,.of ?_⟩;unfold dL;rw[j];simp only[qZ,d,a,g];rw[bh ⟨dA,by simp;omega⟩,f];simp only[dk,Int.ofNat_eq_natCast,Int.toNat_natCast];rfl
   .cases h
  .cases h;exact cM
 .rename_i len e d
  split at h
  .rename_i s f;cases h;intro call l m df k r h;unfold Jd at h;obtain⟨b,c,a,h⟩:=sR h;obtain⟨p,n,g,v,h⟩:=Hf h;refine⟨_,_,_,h,.of ?_⟩;unfold dL;rw[j];simp only[qZ,d,a,g];rw[bh ⟨dA,by simp;omega⟩,f];simp only[dk,Int.ofNat_eq_natCast,Int.toNat_natCast];rfl
  .cases h;exact cM
 .cases h;exact cM
theorem HX:∀(l:List UInt8) (n:Nat),yd l n=l[n]?
 | [],n=>by simp[yd]
 |b::l,0=>rfl
 |b::l,n+1=>by simp[yd,HX l n]
theorem Ph (s:ByteArray)(n:Nat):s[n]?=s.data.toList[n]?:=by
 rw[Array.getElem?_toList]
 by_cases h:n<s.size
 .rw[getElem?_pos s n h,Array.getElem?_eq_getElem h];rfl
 .rw[getElem?_neg s n h,Array.getElem?_eq_none (by simpa using h)]
theorem Jc {t:aT}{i:cd}(d:o.op=.index t x i){q:mY}(h:Er P o t (ex x) (ex i)=Z q):eM P o q:=by
 unfold Er at h
 split at h
 .rename_i g;cases h;intro call c m df k r h;unfold YQ at h
  split at h
  .rename_i s f
   split at h
   .rename_i e n j
    split at h
    .rename_i b l;rw[HX]at l;refine⟨_,_,_,h,.of ?_⟩;unfold dL;rw[d];have v:xQ P t (dG c x) (dG c i)=Y:=by unfold xQ;rw[g]
     have u:dv P (dG c) o=Z (.int .u8 (.ofNat b.toNat)):=by
      refine iM ?_ ?_ rfl
      .rw[d];simp only[Op.operands];simp[show dG c x=.string s from f,show dG c i=.int e (.ofNat n)from j,plain,de]
      .unfold execOp;rw[d];simp only[show dG c x=.string s from f,show dG c i=.int e (.ofNat n)from j,Instr.index,asIntOf,pure_bind];have p:s[(Int.ofNat n).toNat]?=Z b:=by rw[Ph];exact l
       refine(jx (a:=.int .u8 (.ofNat b.toNat)) ?_).trans rfl;rw[jx (fU g)];simp only[p];rw[bh dA];rfl
     simp only[v,u];rfl
    .cases h
   .cases h
  .cases h
 .cases h;exact cM
end
section
variable {P:aE}{o:iK}{x y:cd}
theorem Oo {p u:Array _}{t:aT}{l:List aT}(j:o.op=.call {callee:=.builtin .len,args:=p,argTypes:=u})(w:p.toList=[x])(y:u.toList=t::l){q:mY}(h:WY P o t (ex x)=Z q):eM P o q:=by
 have b:(u[0]?:Option aT)=Z t:=by rw[<-Array.getElem?_toList,y];rfl
 unfold WY at h
 split at h
 .rename_i i;cases h;intro call g m df k r h;unfold On at h
  split at h
  .rename_i s v;refine⟨_,_,_,h,.of ?_⟩;have d:dG g x=.string s:=v;have f:p=#[x]:=by apply Array.ext';simpa using w
   have e:dv P (dG g) o=Z (.int .i64 (.ofNat s.size)):=by
    refine iM ?_ ?_ rfl
    .rw[j];simp[Op.operands,Call.operands,f,d,plain,de]
    .unfold execOp;rw[j];simp only[resolve,pure_bind,invoke,builtin];refine(jx (a:=.int .i64 (.ofNat s.size)) ?_).trans rfl;unfold Builtin.len_;simp only[f,b,List.map_toArray,List.map_cons,List.map_nil,List.getElem?_toArray,List.getElem?_cons_zero,d];rw[jx (fU i)];rfl
   unfold dL;rw[j];simp only[w,b,dw,i,d,e];rfl
  .cases h
 .rename_i z i;cases h;intro call g m df k r h;unfold WX at h
  split at h
  .rename_i a n c v;refine⟨_,_,_,h,.of ?_⟩;have d:dG g x=.slice a n c:=v;unfold dL;rw[j];simp only[w,b,dw,i,d];rfl
  .cases h
 .cases h;exact cM
theorem EU {i:Nat}(f:o.op=.extract x i):eM P o (zq (ex x) i):=by
 intro call d m df k r h;unfold zq at h
 split at h
 .rename_i c e
  split at h
  .rename_i v a;refine⟨_,_,_,h,.of ?_⟩;have b:dG d x=.tuple c:=e;unfold dL;rw[f];rw[Array.getElem?_toList]at a;simp only[b,a,dk]
  .cases h
 .cases h
theorem Ob {t}(a:o.op=.unOp .not t x):eM P o (ab9 (ex x)):=by
 intro call d m df k r h;unfold ab9 at h
 split at h
 .rename_i b f;have c:dG d x=.bool b:=f;refine⟨_,_,_,h,.of ?_⟩;have e:dv P (dG d) o=Z (.bool (!b)):=by
   refine iM ?_ ?_ rfl
   .rw[a];simp[Op.operands,c,plain,de]
   .unfold execOp;rw[a];simp only[c];rfl
  unfold dL;rw[a];simp only[e,dk]
 .cases h
theorem Oc (e:o.op=.nilCheck x):eM P o (Wu P o (ex x)):=by
 intro call b m df k r h;unfold Wu at h
 split at h
 .rename_i a d;have c:dG b x=.pointer (Z a):=d;refine⟨_,_,_,h,.of ?_⟩;unfold dL;rw[e];simp only[c]
 .exact cM call b m df k r h
theorem JQ {e z}(b:o.op=.alloc e)(a:iT P e=Z z):eM P o (Y2 (z.cells.toList.map Z)):=by
 intro call c m df k r h;refine⟨_,_,_,h,.of ?_⟩;unfold dL;rw[b];simp only[a,dk];rfl
theorem Pj {e}(a:o.op=.box e x):eM P o (anF (ex x)):=by
 intro call b m df k r h;refine⟨_,_,_,h,.of ?_⟩;unfold dL;rw[a];rfl
theorem Ea {g p:Array _}{pP:Bool}(l:o.op=.call {callee:=.builtin (if pP then .max else .min),args:=g,argTypes:=p})(u:g.toList=[x,y]):eM P o (Of P o pP (ex x) (ex y)):=by
 intro call d m df k r h;unfold Of at h
 split at h
 .rename_i a i s
  split at h
  .rename_i b j q;have f:dG d x=.int a i:=s;have n:dG d y=.int b j:=q;refine⟨_,_,_,h,.of ?_⟩;have c:g=#[x,y]:=by apply Array.ext';simpa using u
   have e:dv P (dG d) o=Z (.int a (if dx j i then(if pP then i else j)else(if pP then j else i))):=by
    refine iM ?_ ?_ rfl
    .rw[l];cases pP<;>simp[Op.operands,Call.operands,c,f,n,plain,de]
    .unfold execOp;rw[l];cases pP
     .simp only[cK,if_false,resolve,pure_bind,invoke,builtin,c,List.map_toArray,List.map_cons,List.map_nil,f,n];refine(jx (a:=.int a (if dx j i then j else i)) ?_).trans rfl;rw[fW];simp only[Builtin.min_,List.foldlM,Builtin.min2,pure_bind,iU];rfl
     .simp only[if_true,resolve,pure_bind,invoke,builtin,c,List.map_toArray,List.map_cons,List.map_nil,f,n];refine(jx (a:=.int a (if dx j i then i else j)) ?_).trans rfl;rw[fW];have t:(if j>i then j else i)=if j<i then i else j:=by split<;>split<;>omega
      simp only[Builtin.max_,List.foldlM,Builtin.max2,pure_bind,iU,t];rfl
   unfold dL;rw[l];cases pP
   .simp only[cK,if_false]at e⊢;rw[e];rfl
   .simp only[if_true]at e⊢;rw[e];rfl
  .cases h
 .exact cM call d m df k r h
theorem MH {f:Nat}{b c os}(d:o.op=.call {callee:=.value (.func f),args:=b,argTypes:=c})(g:∀a,Nb os a=b.toList.map (dG a)):eM P o (YP f os):=by
 intro call a m df k r h;obtain⟨v,i,e,h⟩:=x8 h;refine⟨_,_,_,h,.inr (.inl ⟨f,_,.inl ⟨_,_,_,#[],#[],d,rfl,rfl⟩,?_,rfl⟩)⟩;simpa[g a]using e
theorem MC {c d os}(g:o.op=.call {callee:=.value x,args:=c,argTypes:=d})(j:∀a,Nb os a=c.toList.map (dG a)):eM P o (MD (ex x) os):=by
 intro call a m df k r h;unfold MD at h
 split at h
 .rename_i f first b e
  obtain⟨v,l,i,h⟩:=x8 h;refine⟨_,_,_,h,.inr (.inl ⟨f,_,.inl ⟨_,_,_,first,b,g,e,rfl⟩,?_,rfl⟩)⟩;rw[<-j a];exact i
 .cases h
theorem MG {b}{name:String}{c d os}(g:o.op=.call {callee:=.invoke b name,args:=c,argTypes:=d})(j:∀a,Nb os a=c.toList.map (dG a)):eM P o (Rg P (ex b) name os):=by
 intro call a m df k r h;unfold Rg at h
 split at h
 .rename_i f recv e;obtain⟨v,l,i,h⟩:=x8 h;refine⟨_,_,_,h,.inr (.inl ⟨f,_,.inr ⟨_,_,_,_,recv,g,e,rfl⟩,?_,rfl⟩)⟩;rw[<-j a];exact i
 .cases h
theorem JC {c d os}(g:o.op=.defer {callee:=.value x,args:=c,argTypes:=d})(i:∀a,Nb os a=c.toList.map (dG a)):eM P o (JE (ex x) os):=by
 intro call a m df k r h;unfold JE at h
 split at h
 .rename_i f first b e
  refine⟨_,_,_,h,.inr (.inr ⟨f,_,⟨_,_,_,first,b,g,e,rfl⟩,rfl,rfl,?_⟩)⟩;rw[<-i a]
 .cases h
theorem Mu {op:mY}(h:iI P o=Z op):eM P o op:=by
 unfold iI at h
 split at h
 .rename_i a;have :=aK h;cases this;exact Bu (.inl a)
 .rename_i a;have :=aK h;cases this;exact Bu (.inr a)
 .rename_i a;have :=aK (aK (aK h));cases this;exact Lf a
 .rename_i a;exact Po a (aK (aK h))
 .rename_i a;exact LF a (aK h)
 .rename_i a;exact Ik a (aK (aK h))
 .rename_i a;exact AH a (aK h)
 .rename_i a;exact Aq a (aK (aK h))
 .rename_i a;exact Jc a (aK (aK h))
 .rename_i a;have :=aK h;cases this;exact EU a
 .rename_i a;have :=aK h;cases this;exact Ob a
 .rename_i a;have :=aK h;cases this;exact Oc a
 .rename_i a
  split at h
  .rename_i z e;cases h;exact JQ a e
  .cases h
 .rename_i a;have :=aK h;cases this;exact Pj a
 .rename_i a
  split at h
  .rename_i c;have :=aK (aK h);cases this;exact Ea (pP:=O) a c
  .cases h;exact cM
 .rename_i a
  split at h
  .rename_i c;have :=aK (aK h);cases this;exact Ea (pP:=U) a c
  .cases h;exact cM
 .rename_i a;obtain⟨d,h,b⟩:=fV h;cases h;exact MH a b
 .rename_i a;obtain⟨d,h,b⟩:=fV (aK h);cases h;exact MC a b
 .rename_i a;obtain⟨d,h,b⟩:=fV (aK h);cases h;exact MG a b
 .rename_i a
  split at h
  .rename_i c f;exact Oo a c f (aK h)
  .cases h;exact cM
 .rename_i a;obtain⟨d,h,b⟩:=fV (aK h);cases h;exact JC a b
 .cases h;exact cM
def ID (d:Option Tmp)(v:ab)(tm:Tm):Tm:=
 match d with
 |some d=>u5 d v tm
 |none=>tm
def aeQ (P:aE)(nt:Nat)(o:iK):Prop:=(∀x∈o.op.operands,s9 nt P.globals.size x=U)/\(∀d,o.dst=Z d->d<512)
def sg (P:aE)(call:cH)(nt:Nat)(ops:Array iK)(i:Nat)(tm:Tm)(m:Mem)(df:Df)(dc:Tm)(m':Mem)(nS:Df):Prop:=
 ∃o,ops[i]?=Z o/\aeQ P nt o/\(∀j want,o.guard=Z (j,want)->∃g,(ops[j]?).bind (·.dst)=Z g/\g<nt/\g<512)/\
  ((cY ops o tm=U/\∃v,AY P call o tm m df v m' nS/\dc=ID o.dst v tm)\/(cY ops o tm=O/\dc=ID o.dst undef tm/\m'=m/\nS=df))
theorem DV {nt i:Nat}{ops:Array iK}{rest f:iR}(h:V5 P nt ops i rest=Z f){call:cH}{tm:Tm}{m:Mem}{df:Df}{r:Ss}(k:f call tm m df=Z r):
  ∃l c a,sg P call nt ops i tm m df l c a/\rest call l c a=Z r:=by
 unfold V5 at h
 split at h
 .cases h
 .rename_i o F
  split at h
  .rename_i W
   split at h
   .cases h
   .rename_i T X;have K:=Mu X;have D:∀x∈o.op.operands,s9 nt P.globals.size x=U:=λx V=>aB.1 W x (by simpa using V)
    split at h
    .rename_i E;have n:∀tm,cY ops o tm=U:=λtm=>by unfold cY;rw[E]
     split at h
     .rename_i d p;obtain⟨B,h⟩:=jN h;cases h;obtain⟨v,c,a,A,C⟩:=K _ _ _ _ _ _ k;refine⟨_,c,a,⟨o,F,⟨D,λu q=>by rw[p]at q;cases q;exact B⟩,λj w y=>(by rw[E]at y;cases y),.inl ⟨n tm,v,C,rfl⟩⟩,?_⟩;rw[p];exact A
     .rename_i p;cases h;obtain⟨v,c,a,A,C⟩:=K _ _ _ _ _ _ k;refine⟨_,c,a,⟨o,F,⟨D,λu q=>by rw[p]at q;cases q⟩,λj w y=>(by rw[E]at y;cases y),.inl ⟨n tm,v,C,rfl⟩⟩,?_⟩;rw[p];exact A
    .rename_i j want E
     split at h
     .rename_i g H
      split at h
      .rename_i G;rw[lh,iU]at G;obtain⟨Q,h⟩:=jN h;have t:∀N w,o.guard=Z (N,w)->∃g,(ops[N]?).bind (·.dst)=Z g/\g<nt/\g<512:=λN w y=>by rw[E]at y;cases y;exact⟨g,H,G,Q⟩
       have n:∀tm,cY ops o tm=(match di g tm with | .bool b=>b==want|_=>O):=λtm=>by unfold cY;rw[E];simp only[H]<;>rfl
       split at h
       .rename_i d p;obtain⟨B,h⟩:=jN h;cases h;have s:∀u,o.dst=Z u->u<512:=λu q=>by rw[p]at q;cases q;exact B
        have skip:cY ops o tm=O->rest call (u5 d undef tm) m df=Z r->∃l c a,sg P call nt ops i tm m df l c a/\rest call l c a=Z r:=λR z=>
         ⟨_,m,df,⟨o,F,⟨D,s⟩,t,.inr ⟨R,rfl,rfl,rfl⟩⟩,by rw[p];exact z⟩
        have J:cY ops o tm=U->T call tm m df (abX (u5 d) rest call tm)=Z r->∃l c a,sg P call nt ops i tm m df l c a/\rest call l c a=Z r:=λS z=>by
         obtain⟨v,c,a,A,C⟩:=K _ _ _ _ _ _ z;exact⟨_,c,a,⟨o,F,⟨D,s⟩,t,.inl ⟨S,v,C,rfl⟩⟩,by rw[p];exact A⟩
        unfold Jq at k
        split at k
        .rename_i e;cases want with
         |true=>exact J (by rw[n,e];rfl) k
         |false=>exact skip (by rw[n,e];rfl) k
        .rename_i e;cases want with
         |true=>exact skip (by rw[n,e];rfl) k
         |false=>exact J (by rw[n,e];rfl) k
        .rename_i L M;refine skip ?_ k;rw[n]
         split
         .rename_i b e;cases b
          .exact absurd e M
          .exact absurd e L
         .rfl
       .rename_i p;cases h;have s:∀u,o.dst=Z u->u<512:=λu q=>by rw[p]at q;cases q
        have skip:cY ops o tm=O->rest call tm m df=Z r->∃l c a,sg P call nt ops i tm m df l c a/\rest call l c a=Z r:=λR z=>
         ⟨_,m,df,⟨o,F,⟨D,s⟩,t,.inr ⟨R,rfl,rfl,rfl⟩⟩,by rw[p];exact z⟩
        have J:cY ops o tm=U->T call tm m df (noK rest call tm)=Z r->∃l c a,sg P call nt ops i tm m df l c a/\rest call l c a=Z r:=λS z=>by
         obtain⟨v,c,a,A,C⟩:=K _ _ _ _ _ _ z;exact⟨_,c,a,⟨o,F,⟨D,s⟩,t,.inl ⟨S,v,C,rfl⟩⟩,by rw[p];exact A⟩
        unfold Jp at k
        split at k
        .rename_i e;cases want with
         |true=>exact J (by rw[n,e];rfl) k
         |false=>exact skip (by rw[n,e];rfl) k
        .rename_i e;cases want with
         |true=>exact skip (by rw[n,e];rfl) k
         |false=>exact J (by rw[n,e];rfl) k
        .rename_i L M;refine skip ?_ k;rw[n]
         split
         .rename_i b e;cases b
          .exact absurd e M
          .exact absurd e L
         .rfl
      .cases h
     .cases h
  .cases h
end
open Go Go.Conc
def Perm.or(R E:Perm):Perm:=⟨λb o=>R.rd b o\/E.rd b o,λb o=>R.wr b o\/E.wr b o,λb=>R.ob b\/E.ob b,R.deaf⟩
structure yv (R:Perm)(w:ar):Prop where
 rd:∀b o,R.rd b o->b<w.heap.size
 wr:∀b o,R.wr b o->R.rd b o
 ob:∀b,R.ob b->b<w.heap.size/\w.shape? b=Y
theorem yv.keeps{R a w aR}(h:yv R w)(k:bC a w aR):yv R aR:=
 ⟨λb o x=>aZ (h.rd b o x) k.size,h.wr,λb x=>⟨aZ (h.ob b x).1 k.size,by rw[k.shape b (h.ob b x).1];exact(h.ob b x).2⟩⟩
theorem bC.sub{R a:Perm}{w aR}(h:bC R w aR)(c:∀b o,a.rd b o->R.rd b o)(d:∀b,a.ob b->R.ob b):bC a w aR:=
 ⟨h.tape,h.os,h.output,h.size,h.shape,λb o x=>h.cell b o (c b o x),h.sE,λb x=>h.obj b (d b x)⟩
theorem bC.left{R E:Perm}{w aR}(h:bC (R.or E) w aR):bC R w aR:=h.sub (λ_ _=> .inl) λ_=> .inl
theorem bC.right{R E:Perm}{w aR}(h:bC (R.or E) w aR):bC E w aR:=h.sub (λ_ _=> .inr) λ_=> .inr
def EvW (R:Perm)(e:Event):Prop:=pH R e\/e.loc=.mark .disable\/e.loc=.mark .enable
structure Stepped (P:aE)(main:Bool)(R:Perm)(g:ak)(w:ar)(R':Perm)(g':ak)(w':ar)(es:Array Event):Prop where
 step:stepG P main g w=.go g' w' es
 Rd:uW R w.heap.size w w'
 ev:∀e∈es,EvW R e
 within:eZ R R' w.heap.size
 deaf:R'.deaf=deafBehind R.deaf es
 low:yv R w->yv R' w'
structure gN (P:aE)(main:Bool)(J:Nat->Perm->ak->ar->Prop):Prop where
 mono:∀{n:Nat}{R:Perm}{g:ak}{w:ar},J n R g w->J (n+1) R g w
 step:∀{n:Nat}{R:Perm}{g:ak}{w:ar},g.status=.running->(∀aR,bC R w aR->∃g' w' es R',Stepped P main R g aR R' g' w' es/\J n R' g' w')->J (n+1) R g w
theorem gN.le{P}{main:Bool}{J}(h:gN P main J){n m:Nat}(b:n<=m){R g w}(c:J n R g w):J m R g w:=by
 induction b with
 |refl=>exact c
 |step _ a=>exact h.mono a
theorem pV (d:Nat):∀(l:List Event),(∀e∈l,e.loc≠ .mark .disable/\e.loc≠ .mark .enable)->deafBehind d l.toArray=d:=by
 intro l h;unfold deafBehind;simp only[List.foldl_toArray]
 induction l with
 |nil=>rfl
 |cons e l c=>
  have b:=h e dA;simp only[List.foldl_cons];refine Eq.trans (congrArg (λx=>List.foldl _ x l) ?_) (c λx f=>h x (by simp[f]))
  split
  .rename_i a;exact absurd a b.1
  .rename_i a;exact absurd a b.2
  .rfl
theorem pH.loc{R e}(h:pH R e):e.loc≠ .mark .disable/\e.loc≠ .mark .enable:=by
 constructor<;>intro a<;>unfold pH at h<;>rw[a]at h<;>exact h
theorem lN {R es}(h:∀e∈es,pH R e)(d:Nat):deafBehind d es=d:=by
 have :=pV d es.toList λe a=>(h e (by simpa using a)).loc
 simpa using this
structure Apart (E R:Perm)(w:ar):Prop where
 cell:∀b o,E.rd b o->b<w.heap.size/\¬R.wr b o
 obj:∀b,E.ob b->b<w.heap.size/\¬R.ob b/\w.shape? b=Y
 wf:∀b o,E.wr b o->E.rd b o
theorem Apart.within{E R e}{w w':ar}(h:Apart E R w)(k:eZ R e w.heap.size)(d:w.heap.size<=w'.heap.size)(g:∀b,b<w.heap.size->w'.shape? b=w.shape? b):Apart E e w':=
 ⟨λb o a=>⟨aZ (h.cell b o a).1 d,λc=>(k.wr b o c).elim (h.cell b o a).2 λf=>absurd (h.cell b o a).1 ai⟩,
  λb a=>⟨aZ (h.obj b a).1 d,λc=>(k.ob b c).elim (h.obj b a).2.1 λf=>absurd (h.obj b a).1 ai,by rw[g b (h.obj b a).1];exact(h.obj b a).2.2⟩,h.wf⟩
theorem Apart.afa{E R w w'}(h:Apart E R w)(c:uW R w.heap.size w w'):bC E w w':=
 ⟨c.tape,c.os,c.output,c.size,λb d=>c.shape b d,λb o a=>c.cell b o (h.cell b o a).1 (h.cell b o a).2,λb o d=>c.sE b o d,λb a=>c.obj b (h.obj b a).1 (h.obj b a).2.1 (h.obj b a).2.2⟩
def ApC (E:Perm)(ρ:dz)(m:Mem):Prop:=∀b p x,ρ b=Z p->m.base<=b->p.d<=x->x<p.d+p.room->m.px b (x-p.d)->¬E.rd p.c x
theorem V9 {m m'}(i:Fr m m')(j:Wf m){b o:Nat}(n:b<m.next)(h:m'.px b o):m.px b o:=by
 obtain⟨c,l,p⟩:=h;have g:bL m.bI b o=O:=by rw[<-i.bI];exact l
 have live:o<(m.blk b).cs.length->∃v,(m.blk b).cs[o]?=Z (Z v):=λf=>by
  have e:=List.getElem?_eq_getElem f;cases d:(m.blk b).cs[o]with
  |none=>exact absurd d ((j.live b).1 _ (List.getElem_mem f))
  |some v=>exact⟨v,by rw[e,d]⟩
 rcases i.blk b with e|⟨_,a|⟨_,_,_,a⟩|⟨_,_,a,k⟩|⟨_,a,_⟩⟩
 .rw[e]at c;exact⟨c,g,live⟩
 .omega
 .rw[a]at c;cases c
 .rw[k]at c;exact absurd c a
 .exact⟨a,g,live⟩
theorem ApC.step{E ρ i m m' w}(h:ApC E ρ m)(j:Wf m)(k:Apart E (az ρ m) w)(e:Fr m m')(hold:∀b,b<m.next->i b=ρ b)(a:eZ (az ρ m) (az i m') w.heap.size):ApC E i m':=by
 intro b p x d r o n l f
 by_cases q:b<m.next
 .rw[hold b q]at d;exact h b p x d (by rw[<-e.base];exact r) o n (V9 e j q l) f
 .rcases a.wr p.c x ⟨b,p,d,rfl,o,n,l,.inl (by rw[e.floor];have :=j.fl;omega)⟩with g|g
  .exact(k.cell _ _ f).2 g
  .have :=(k.cell _ _ f).1;omega
structure dj (P:aE)(E:Perm)(bJ:ar)(σ:pj)(ρ:dz)(m:Mem)(w:ar):Prop where
 kH:gq ρ m w
 rest:bC E bJ w
 apart:Apart E (az ρ m) w
 pS:∀g,g<P.globals.size->∃p,ρ g=Z p/\p.c=g/\p.d=0
 gi:GOk σ ρ m
 wf:Wf m
 Ps:ApC E ρ m
 ew:∀b o,E.wr b o->¬(az ρ m).rd b o
theorem gq.low{ρ m w}(h:gq ρ m w):yv (az ρ m) w:=by
 refine⟨λb o a=>?_,λb o a=>nz a,λb a=>?_⟩
 .obtain⟨x,p,d,rfl,_⟩:=a;exact h.sX x p d
 .obtain⟨x,p,d,rfl,c,f⟩:=a;refine⟨h.sX x p d,?_⟩;rcases c with c|c
  .obtain⟨g,e,_⟩:=h.maps x p d c f;unfold ar.shape?;rw[e]
  .obtain⟨_,e⟩:=h.mJ x p d c f;unfold ar.shape?;rw[e]
section
variable {P:aE}{E:Perm}{bJ:ar}{σ:pj}{ρ:dz}{m:Mem}{w:ar}
theorem Ee (h:gq ρ m w)(a:Apart E (az ρ m) w):yv ((az ρ m).or E) w:=
 ⟨λb o x=>x.elim (h.low.rd b o) λy=>(a.cell b o y).1,λb o x=>x.elim (λy=> .inl (h.low.wr b o y)) λy=> .inr (a.wf b o y),λb x=>x.elim (h.low.ob b) λy=>⟨(a.obj b y).1,(a.obj b y).2.2⟩⟩
theorem dj.low(h:dj P E bJ σ ρ m w):yv ((az ρ m).or E) w:=Ee h.kH h.apart
theorem dj.keeps{aR}(h:dj P E bJ σ ρ m w)(k:bC ((az ρ m).or E) w aR):dj P E bJ σ ρ m aR:=
 ⟨h.kH.keeps k.left,h.rest.trans k.right,h.apart.within (eZ.refl _ _) k.size k.shape,h.pS,h.gi,h.wf,h.Ps,h.ew⟩
theorem dj.left{d m' w'}(h:dj P E bJ σ ρ m w)(l:Left ρ m w d m' w')(f:jS m m')(c:uW (az ρ m) w.heap.size w w'):dj P E bJ σ d m' w':=
 ⟨l.kH,h.rest.trans (h.apart.afa c),h.apart.within l.within c.size c.shape,λg i=>let⟨p,k,j⟩:=h.pS g i;⟨p,l.le _ _ k,j⟩,h.gi.fr f.1 l.le l.old,f.2.2 h.wf,h.Ps.step h.wf h.apart f.1 l.old l.within,
  λb o a e=>(l.within.rd b o e).elim (h.ew b o a) λn=>by have :=(h.apart.cell b o (h.apart.wf b o a)).1;omega⟩
theorem eZ.or{R a E}{N:Nat}(h:eZ R a N):eZ (R.or E) (a.or E) N:=
 ⟨λb o x=>x.elim (λy=>(h.rd b o y).imp .inl id) λy=> .inl (.inr y),λb o x=>x.elim (λy=>(h.wr b o y).imp .inl id) λy=> .inl (.inr y),λb x=>x.elim (λy=>(h.ob b y).imp .inl id) λy=> .inl (.inr y)⟩
theorem uW.or{R E}{N:Nat}{w w'}(h:uW R N w w'):uW (R.or E) N w w':=
 ⟨h.tape,h.os,h.output,h.size,h.shape,λb o a c=>h.cell b o a λx=>c (.inl x),h.sE,λb a d=>h.obj b a λx=>d (.inl x)⟩
theorem pH.or{R E e}(h:pH R e):pH (R.or E) e:=by
 unfold pH at h⊢
 split at h
 .refine⟨h.1,?_⟩
  split
  .rename_i a;have :=h.2;rw[bh a]at this;exact .inl this
  .rename_i a;have :=h.2;rw[bH a]at this;exact .inl this
 .exact⟨.inl h.1,h.2⟩
 .exact h
 .exact h
theorem oG {main:Bool}{J}(i:gN P main J){R}{g g':ak}{n:Nat}(c:g.status=.running)(b:∀w,stepG P main g w=.go g' w #[])
  (h:∀a,bC R w a->J n R g' a):J (n+1) R g w:=
 i.step c λa d=>⟨g',a,#[],R,⟨b a,uW.refl _ _ _,λe f=>by simp at f,eZ.refl _ _,rfl,id⟩,h a d⟩
variable {main:Bool}{J:Nat->Perm->ak->ar->Prop}{b:Frame}{a:Act}{k:List Item}{cs:List Frame}{ops:Array iK}{i:Nat}{rest:List Nat}{o:iK}
theorem CF (R:gN P main J)(t:ops[i]?=Z o)(s:Region.wanted o (yielded ops a.tmps)=U)(u:b.kind≠ .early)(H:dj P E bJ σ ρ m w){ev}
  (T:∀x∈o.op.operands,aV ρ (ev x) (a.eval x)){v m'}(C:dL P ev o m=Z (v,m')){l:Nat}
  (N:∀d g c,ρ.le d->(∀b,b<m.next->d b=ρ b)->dj P E bJ σ d m' c->aV d v g->J l ((az d m').or E) (G (b.at (a.put o.dst g) (.inRegion ops rest::k)) cs) c):
  J (l+1) ((az ρ m).or E) (G (b.at a (.inRegion ops (i::rest)::k)) cs) w:=by
 refine R.step rfl λf F=>?_
 have A:=H.keeps F;have D:=V3 C;obtain⟨X,c,r,⟨d,h,g,L,K⟩,y,Q⟩:=oC (aj _) (G6 A.kH (aj _) T C);obtain⟨S,W,V⟩:=Q #[];have q:∀e∈listed P b.fn a o f,pH (az ρ m) e:=λe j=>V e (by have :=mem_listed j;rw[W]at this;simpa using this)
 have z:=A.left h D y;have p:=N d g c h.le h.old z L;have B:∀n,stepG P main (G (b.at a (.inRegion ops (i::rest)::k)) cs) f=.go n c (listed P b.fn a o f)->
   Stepped P main ((az ρ m).or E) (G (b.at a (.inRegion ops (i::rest)::k)) cs) f ((az d m').or E) n c (listed P b.fn a o f):=λn M=>
  ⟨M,y.or,λe j=> .inl (q e j).or,h.within.or,by
   show m'.deaf=deafBehind m.deaf _
   rw[lN q,D.2.1],λ_=>z.low⟩
 rcases K with rfl|⟨rfl,rfl,rfl⟩
 .exact⟨_,c,_,_,B _ (stepG_value t s u r),p⟩
 .exact⟨_,c,_,_,B _ (stepG_none t s u r),p⟩
theorem so (g:gN P main J)(e:ops[i]?=Z o)(d:Region.wanted o (yielded ops a.tmps)=O){R}{l:Nat}
  (f:∀c,bC R w c->J l R (G (b.at (a.put o.dst undef) (.inRegion ops rest::k)) cs) c):J (l+1) R (G (b.at a (.inRegion ops (i::rest)::k)) cs) w:=
 oG g rfl (λw=>stepG_unwanted e d) f
end
def kg (P:aE)(f:Nat)(e:Array ab->Sem ab):Prop:=
 ∃fn,P.funcs[f]?=Z fn/\fn.body.isNone=U/\(fn.name== "runtime.NumGoroutine")=O/\Extern.findNext fn=Y/\Extern.find fn=Z e
structure rH (P:aE)(X:Ext):Prop where
 names:∀(f:Nat) (fn:Func),P.funcs[f]?=Z fn->fn.body.isSome=U->(fn.name== "runtime.NumGoroutine")=O
 mixed:P.follows .mixedOrders=U
 disable:kg P X.disable λ_=>do mark .disable;pure Extern.Race.none_
 enable:kg P X.enable λ_=>do mark .enable;pure Extern.Race.none_
 acquire:kg P X.acquire (Extern.Race.marked .acquire)
 vg:kg P X.vg (Extern.Race.marked .releaseMerge)
 HU:kg P X.HU (Extern.Atomic.casT (.int .i32))
 MR:kg P X.MR (Extern.Atomic.update (Op.intArith .add) .i32 U)
section
variable {P:aE}{X:Ext}{ρ:dz}{m m':Mem}{w:ar}{N:Nat}{v:ab}
theorem sS {R}{f:Nat}{e}(h:kg P f e){args Q}(a:dY P R N (e args) (λv w=>Q (.value v) w) w):dY P R N (callFunc f args) Q w:=by
 obtain⟨j,c,g,i,b,d⟩:=h;unfold callFunc;rw[au]
 show dY P R N _ Q w
 rw[c];simp only[];rw[bH (by rw[i];simp),bh g,au];refine⟨trivial,?_⟩;simp only[b,d]
 show dY P R N (e args>>=λv=>pure (Next.value v)) Q w
 rw[au];exact a
theorem yW {R}{f:Nat}{fn}(b:P.funcs[f]?=Z fn)(e:fn.body.isSome=U)(c:(fn.name== "runtime.NumGoroutine")=O){args Q}(a:Q (.enter f args) w):dY P R N (callFunc f args) Q w:=by
 unfold callFunc;rw[au]
 show dY P R N _ Q w
 rw[b];simp only[];rw[bH (by rw[c];simp),bH (by cases d:fn.body<;>simp_all)];exact a
theorem gq.deaf(h:gq ρ m w)(d:Nat):gq ρ {m with deaf:=d} w:=⟨h.oe,h.cells,h.lZ,h.thaw,h.maps,h.mJ,h.sep,h.sX,h.vars⟩
theorem aeN {l x b}(h:l=[x])(c:bP (aV ρ) l b):∃a,b=[a]/\aV ρ x a:=by
 subst h
 match b,c with
 | [a],c=>exact⟨a,rfl,c.1⟩
theorem Dr (k:gq ρ m w){b o:Nat}{p}(q:ρ b=Z p){x g a}(h:m.dW b o [x]=Z a)(j:aV ρ x g){i Q}(l:∀f,Left ρ m w ρ a f->Q () f):
  dY P (az ρ m) N (Go.store ⟨p.c,p.d+o,Y⟩ g i) Q w:=by
 have e:=qM (P:=P) (N:=N) k q h (sK:=[g]) ⟨j,trivial⟩ (Q:=Q) λf n _=>l f n
 simp only[storeCells]at e;rw[au,jL,Nat.add_zero]at e;exact e
theorem KZ (e:gq ρ m w){b o:Nat}{p}(k:ρ b=Z p){u:Int}(f:m.dP b o 1=Z [.int .i32 u]){Q}(g:Q (.int .i32 u) w):dY P (az ρ m) N (Extern.Atomic.read (.int .i32) ⟨p.c,p.d+o,Y⟩) Q w:=by
 obtain⟨z,l,a,j,i,h⟩:=e.BC k f (show 0<1 by omega);simp only[List.getElem?_cons_zero,ah]at a;subst a;obtain rfl:=(aG (by rfl)).1 j;unfold Extern.Atomic.read;rw[au];exact DX i h g
theorem lO {b o:Nat}{x}(c:m.dP b o 1=Z [x]):m.cell b o=Z x:=by
 obtain⟨_,_,g⟩:=Mem.qV c;obtain⟨z,a,d⟩:=g 0 ai;simp only[List.getElem?_cons_zero,ah]at a;subst a;exact d
theorem OZ (a:gq ρ m w){b o:Nat}{p}(i:ρ b=Z p){x}(f:m.dP b o 1=Z [x]){Q}(g:Q (w.frozen? ⟨p.c,p.d+o,Y⟩) w):
  dY P (az ρ m) N (Extern.Atomic.touchesFrozen ⟨p.c,p.d+o,Y⟩) Q w:=by
 obtain⟨_,_,e,n,h,_⟩:=a.cells b p i (Mem.eW (lO f)).1;unfold Extern.Atomic.touchesFrozen viewAt;rw[au,au];refine G7 h ?_;exact g
theorem QZ (g:gq ρ m w)(E:rH P X){f:Nat}{args}{z:Array ab}(l:bP (aV ρ) args z.toList)(h:vB X f args m=Z (v,m'))(V:f≠X.disable)(T:f≠X.enable):
  jS m m'/\∃e,kg P f e/\∀{Q:ab->ar->Prop},(∀t,Left ρ m w ρ m' t->aV ρ v v->Q v t)->dY P (az ρ m) N (e z) Q w:=by
 unfold vB at h;rw[bH V,bH T]at h
 split at h
 .rename_i r;subst r
  split at h
  .rename_i b o;simp only[ah,ay]at h;obtain⟨rfl,rfl⟩:=h;refine⟨jS.refl _,_,E.acquire,λj=>?_⟩;obtain⟨J,B,q⟩:=aeN rfl l;obtain⟨p,C,_,rfl⟩:=cQ.1 q;have :z=#[.pointer (Z ⟨p.c,p.d+o,Y⟩)]:=by apply Array.ext';simpa using B
   subst this;exact⟨trivial,j _ (Left.refl g) kJ⟩
  .cases h
 .split at h
  .rename_i r;subst r
   split at h
   .rename_i b o;simp only[ah,ay]at h;obtain⟨rfl,rfl⟩:=h;refine⟨jS.refl _,_,E.vg,λj=>?_⟩;obtain⟨J,B,q⟩:=aeN rfl l;obtain⟨p,C,_,rfl⟩:=cQ.1 q;have :z=#[.pointer (Z ⟨p.c,p.d+o,Y⟩)]:=by apply Array.ext';simpa using B
    subst this;exact⟨trivial,j _ (Left.refl g) kJ⟩
   .cases h
  .split at h
   .rename_i r;subst r
    split at h
    .rename_i b o x y
     match z,l with
     |⟨[R,J,L]⟩,l=>
      obtain⟨C,B,G,_⟩:=l;obtain⟨p,i,_,rfl⟩:=cQ.1 C;obtain rfl:=(aG (by rfl)).1 B;obtain rfl:=(aG (by rfl)).1 G
      split at h
      .rename_i u n;have K:w.frozen? ⟨p.c,p.d+o,Y⟩=O->∀{Q:ab->ar->Prop},dY P (az ρ m) N (if(u==x)=U then(do Go.store ⟨p.c,p.d+o,Y⟩ (.int .i32 y) .atomic;pure (ab.bool (u==x)))else pure (ab.bool (u==x))) Q w->
         dY P (az ρ m) N (Extern.Atomic.casT (.int .i32) #[.pointer (Z ⟨p.c,p.d+o,Y⟩),.int .i32 x,.int .i32 y]) Q w:=by
        intro A Q F;refine(au (asAddr (.pointer (Z ⟨p.c,p.d+o,Y⟩))) _ _ _).2 ?_;refine(au (Extern.Atomic.touchesFrozen ⟨p.c,p.d+o,Y⟩) _ _ _).2 ?_;refine OZ g i n ?_;rw[A];refine(au (Extern.Atomic.read (.int .i32) ⟨p.c,p.d+o,Y⟩) _ _ _).2 ?_;refine KZ g i n ?_
        show dY P (az ρ m) N (if(u==x)=U then(do Go.store ⟨p.c,p.d+o,Y⟩ (.int .i32 y) .atomic;pure (ab.bool (u==x)))else pure (ab.bool (u==x))) Q w
        by_cases a:(u==x)=U
        .rw[bh a]at F⊢;exact F
        .rw[bH a]at F⊢;exact F
       split at h
       .rename_i a;obtain⟨S,s,D⟩:=aD.1 h;simp only[ay]at D;obtain⟨rfl,rfl⟩:=D;refine⟨jS.dW s,_,E.HU,λj=>?_⟩;have A:w.frozen? ⟨p.c,p.d+o,Y⟩=O:=by
         obtain⟨cs,_,_,W,_⟩:=Mem.rN s;exact g.thaw b p o i (jw g i (lO n)) (Mem.eW (lO n)).1 (Mem.lM W)
        refine K A ?_;have k:(u==x)=U:=by simpa using a
        rw[bh k,k,au];exact Dr g i s (cz rfl) λt H=>j t H (cz rfl)
       .rename_i a
        split at h
        .rename_i M;simp only[ah,ay]at h;obtain⟨rfl,rfl⟩:=h;refine⟨jS.refl _,_,E.HU,λj=>?_⟩;have A:w.frozen? ⟨p.c,p.d+o,Y⟩=O:=g.thaw b p o i (jw g i (lO n)) (Mem.eW (lO n)).1 M;refine K A ?_;have k:(u==x)=O:=by simpa using a
         rw[k];simp only[cK,if_false];exact j _ (Left.refl g) (cz rfl)
        .cases h
      .cases h
    .cases h
   .split at h
    .rename_i r;subst r
     split at h
     .rename_i b o y
      match z,l with
      |⟨[R,L]⟩,l=>
       obtain⟨C,G,_⟩:=l;obtain⟨p,i,_,rfl⟩:=cQ.1 C;obtain rfl:=(aG (by rfl)).1 G
       split at h
       .rename_i u n;obtain⟨S,s,D⟩:=aD.1 h;simp only[ay]at D;obtain⟨rfl,rfl⟩:=D;refine⟨jS.dW s,_,E.MR,λj=>?_⟩;refine(au (asAddr (.pointer (Z ⟨p.c,p.d+o,Y⟩))) _ _ _).2 ?_;refine(au (Extern.Atomic.read (.int .i32) ⟨p.c,p.d+o,Y⟩) _ _ _).2 ?_;refine KZ g i n ?_
        show dY P (az ρ m) N (do Go.store ⟨p.c,p.d+o,Y⟩ (.int .i32 (bY.i32.wrap (u+y))) .atomic;pure (ab.int .i32 (bY.i32.wrap (u+y)))) _ w
        rw[au];exact Dr g i s (cz rfl) λt H=>j t H (cz rfl)
       .cases h
     .cases h
    .cases h
end
end Go.AM
